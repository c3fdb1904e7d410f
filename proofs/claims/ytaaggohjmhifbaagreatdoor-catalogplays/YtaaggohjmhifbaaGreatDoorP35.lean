/- Packed for the hand-in: CClone CMake -/
import Derived.Test.YtaaggohjmhifbaaGreatDoorP34
import Derived.Test.YtaaggohjmhifbaaGreatDoorP33
namespace Go.Proofs.YtaaggohjmhifbaaGreatDoor
open Go.RowKit Go.Shelf Go.Lib
set_option linter.unusedSimpArgs false
set_option linter.unusedVariables false
set_option maxRecDepth 20000
set_option maxHeartbeats 8000000
def ShT (t:Tb):Prop:=t.nm.length≤16∧t.cols.length≤8∧∀c∈t.cols,c.nm.length≤16
theorem Tryz.infoCol:(Tryz.prog.info? 37).map (fun i=>(i.zero,i.size,i.bytes))=some (some (.agg #[.string ⟨#[]⟩,.int .i64 0,.bool false,.bool false]),4,32):=by kernel_rfl
theorem setCell_same {w:World} {g i:Nat} {v:Value} (h:w.cell? ⟨g,i,none⟩=some v):w.setCell ⟨g,i,none⟩ v=w:=by
 unfold World.cell? at h
 dsimp only at h
 cases hg:w.heap[g]? with
 | none=>rw[hg] at h;cases h
 |
  some o =>
  rw[hg] at h
  cases o with
  |
   cells c t fr =>
   have hc:c[i]?=some v:=by simpa using h
   have e:c.setIfInBounds i v=c:=by
    apply Array.ext_getElem?
    intro j
    rw[Array.getElem?_setIfInBounds]
    split
    ·rename_i e
     subst e
     split
     ·exact hc.symm
     ·rename_i hlt
      rw[Array.getElem?_eq_none (by omega)]
    ·rfl
   have e2:(w.setCell ⟨g,i,none⟩ v).heap=w.heap:=by
    apply Array.ext_getElem?
    intro j
    show (w.heap.modify g _)[j]?=_
    rw[Array.getElem?_modify]
    split
    ·rename_i e'
     subst e'
     rw[hg]
     simp[e]
    ·rfl
   show ({ w with heap:=(w.setCell ⟨g,i,none⟩ v).heap }:World)=w
   rw[e2]
  | _=>simp at h
theorem colsC_get : ∀(l:List Co) (j:Nat) (u:Value),(colsC l)[j]?=some u→∃x,l[j / 4]?=some x∧(colC x)[j % 4]?=some u
 | [],j,u,h=>by simp[colsC] at h
 |
  c::l,j,u,h=>by
  have e:colsC (c::l)=colC c++colsC l:=rfl
  rw[e] at h
  rcases Nat.lt_or_ge j 4 with hj | hj
  ·rw[List.getElem?_append_left (by exact hj)] at h
   exact⟨c,by rw[Nat.div_eq_of_lt hj];rfl,by rw[Nat.mod_eq_of_lt hj];exact h⟩
  ·rw[List.getElem?_append_right (by exact hj)] at h
   obtain⟨x,h1,h2⟩:=colsC_get l (j-4) u h
   have e1:j / 4=(j-4) / 4+1:=by omega
   have e2:j % 4=(j-4) % 4:=by omega
   exact⟨x,by rw[e1,List.getElem?_cons_succ];exact h1,by rw[e2];exact h2⟩
theorem colsC_at (l:List Co) (j i:Nat) (x:Co) (u:Value) (hx:l[j]?=some x) (hu:(colC x)[i]?=some u):(colsC l)[j*4+i]?=some u :=
 flatten_at 4 (l.map colC) (fun cs hc=>by obtain⟨c,_,rfl⟩:=List.mem_map.1 hc;rfl) j i (colC x) u (by rw[List.getElem?_map,hx];rfl) hu
theorem owned_form {base:Nat} {w:World} {l:List Co} {v:Value} (h:w.ownsRow base 37 4 v l.length (colsC l)) (hne:l≠[]):∃g c,v = .slice (some ⟨g,0,none⟩) l.length c∧base≤g∧g<w.heap.size∧l.length≤c ∧
  (∀Z,Below w.heap.size w Z→(∀(j:Nat) (x:Co),l[j]?=some x→∀(i:Nat) (u:Value),(colC x)[i]?=some u→Z.cell? ⟨g,j*4+i,none⟩=some u)∧∀i,Z.frozen? ⟨g,i,none⟩=false):=by
 have h0:=h
 rcases h.2 with⟨_,hn⟩ | ⟨g,cap,cur,rfl,hB,hg,hnc,_⟩
 ·exact absurd (List.eq_nil_of_length_eq_zero hn) hne
 ·have hlt:g<w.heap.size:=World.lt_of_block hg
  refine ⟨g,cap,rfl,hB,hlt,hnc,fun Z hZ=>⟨fun j x hx i u hu=>?_,fun i=>?_⟩⟩
  ·have k:=h0.cells (g:=g) rfl (j*4+i) u (colsC_at l j i x u hx hu)
   rw[Addr.add_lit,Nat.zero_add] at k
   exact (hZ.cell (p:=⟨g,_,none⟩) hlt).trans k
  ·have e:Z.heap[g]?=some (.cells cur 37 (0,0)):=(hZ.block g hlt).trans hg
   simp[World.frozen?,e]
theorem clones_any (S:Nat→Prop) (l:List Co) (v:Value) (w:World) (h:SlAt 4 ColE S w l v) (hne:l≠[]) (hl:l.length≤8) :
  Calls Tryz.prog 49 #[v] w fun e w'=>∃u,e = .returned u∧w'.ownsRow w.heap.size 37 4 u l.length (colsC l)∧Below w.heap.size w w':=by
 obtain⟨i0,hi,hy0,hy1,hy2⟩:=info_parts Tryz.infoCol
 obtain⟨b,off,c,rfl,h1,h2,hS,hlt,hel⟩:=cols_at h hne
 refine (AnyE.slices_Clone laysCl i0 _ 4 32 hi hy0 hy1 hy2 rfl (by decide) Tryz.sizeOf37 b off l.length c (colsC l) w (colsC_len l) (by unfold maxLen;omega) (by omega) (fun j u hu=>?_) (colsC_one l)).mono ?_
 ·obtain⟨x,e1,e2⟩:=colsC_get l j u hu
  have:=hel w (Below.refl _ _) (j / 4) x e1 (j % 4) u e2
  have e:off+j / 4*4+j % 4=off+j:=by omega
  rw[e] at this
  exact this
 ·rintro e w' ⟨u,rfl,hu,_,hb⟩
  exact⟨u,rfl,hu,hb⟩
theorem set1of3 {w:World} {b:Nat} {a0 a1 a2:Value} {t:TypeId} (h:w.heap[b]?=some (.cells #[a0,a1,a2] t)) (v:Value) :
  ∃X,w.setCell ⟨b,1,none⟩ v=X∧X.heap[b]?=some (.cells #[a0,v,a2] t)∧Spares (fun k=>k=b) w X:=by
 refine ⟨_,rfl,?_,(Spares.refl (fun k=>k=b) w).own _ _⟩
 rw[setCell_eq_setRow w b 1 _ t _ v h,setRow_heap w b _ _ t _ h]
 simp only[List.setIfInBounds_toArray,List.set_cons_zero,List.set_cons_succ]
theorem cloneC_any (S:Nat→Prop) (t:Tb) (cs:List Value) (w:World) (h:TbE S w t cs) (hs:ShT t) (hne:t.cols≠[]) :
  Calls Tryz.prog 31 #[.agg cs.toArray] w fun e w'=>∃ds:List Value,e = .returned (.agg ds.toArray)∧TbO w.heap.size w' t ds∧Below w.heap.size w w':=by
 obtain⟨aa,nn,cc,rfl,hsl⟩:=h
 obtain⟨nm,l,pr⟩:=t
 dsimp only at hsl hne ⊢
 obtain⟨h16,h8,hc16⟩:=hs
 dsimp only at h16 h8 hc16
 obtain⟨W,hW,hbW,hzW,hcA,hcB⟩:=two w (.cells #[.string (str8 nm),.slice aa nn cc,.int .i64 pr] 31) (.cells #[.string ⟨#[]⟩,.slice none 0 0,.int .i64 0] 31)
 have k0:=cells3f hcA
 have HSC:=hid (fun V=>strClone_any (str8 nm) V (by rw[str8_size];omega))
 have HCA:=hid hcA
 have HCB:=hid hcB
 have HBW:=hid hbW
 have HSL:=hid hsl
 have HN16:=hid hc16
 clear hcA hcB hbW hsl hc16
 go_enter Tryz.func31,Tryz.ntmps31
 go_wp2_with fail
 try rw[hW]
 refine (HSC.out W).mono ?_
 rintro e w1 ⟨rfl,hb1⟩
 have hB1:=HBW.out.trans (hb1.mono HBW.out.size)
 have hs1:=hb1.size
 have hA1:=(hb1.block w.heap.size (by omega)).trans HCA.out
 have hZ1:=(hb1.block (w.heap.size+1) (by omega)).trans HCB.out
 have k1:=cells3f hA1
 have HC1:=hid (clones_any S l (.slice aa nn cc) w1 (HSL.out.to (by decide) (R:=fun _=>False) (Spares.of_new hB1) (fun b hb _=>⟨id,hb⟩) (fun _ _ e=>e)) hne h8)
 have HB1:=hid hB1
 have HA1:=hid hA1
 have HZ1:=hid hZ1
 have HSAME:=hid (setCell_same k1.1)
 clear hb1 hB1 hA1 hZ1 hW k0
 go_wp2_with fail
 try rw[HSAME.out]
 refine HC1.out.mono ?_
 rintro e w2 ⟨u,rfl,hu2,hb2⟩
 have hs2:=hb2.size
 have hA2:=(hb2.block w.heap.size (by omega)).trans HA1.out
 have hZ2:=(hb2.block (w.heap.size+1) (by omega)).trans HZ1.out
 obtain⟨g,cg,rfl,hg1,hg2,hlc,hgc⟩:=owned_form hu2 hne
 have k2:=cells3f hA2
 obtain⟨V,hV,hcV,hspV⟩:=set1of3 hA2 (.slice (some ⟨g,0,none⟩) l.length cg)
 have HB2:=hid (HB1.out.trans (hb2.mono HB1.out.size))
 have hzV:=hspV.size
 have HOV:Hid (V.ownsRow w1.heap.size 37 4 (.slice (some ⟨g,0,none⟩) l.length cg) l.length (colsC l)):=hid (hspV.row hu2 (fun b hb=>by
  have:b=g:=by simpa [Value.ownBlock] using hb.symm
  omega))
 have hZV:=(hspV.block (w.heap.size+1) (by omega) (by omega)).trans hZ2
 have HCV:=hid hcV
 have HZV:=hid hZV
 have HBV:Hid (Below w.heap.size w V):=hid (HB2.out.trans (hspV.below (fun i hi=>by omega) HB2.out.size))
 have kV:=cells3f hcV
 clear hb2 hA2 hZ2 HC1 hu2 hgc hspV hZV hcV k1 HSAME
 go_wp2_with fail
 try rw[hV]
 clear hV k2
 have hgV:g<V.heap.size:=by omega
 go_loopw [16] (fun i wr=>∃j:Nat,j≤l.length∧i = .int .i64 j∧Below V.heap.size V wr) (fun i _=>l.length-(intOf i).toNat)
 case atStart=>exact⟨0,Nat.zero_le _,rfl,Below.refl _ _⟩
 case round =>
  obtain⟨j,hj,rfl,hbr⟩:=hrel
  have hsr:=hbr.size
  have HBR:=hid hbr
  have kR:=cells3f ((hbr.block w.heap.size (by omega)).trans HCV.out)
  by_cases hlt:j<l.length
  ·obtain⟨x,hx⟩:∃x,l[j]?=some x:=⟨_,List.getElem?_eq_getElem hlt⟩
   have hlt':(j:Int)<(l.length:Int):=by omega
   obtain⟨g',cg',e',_,_,_,hgc⟩:=owned_form HOV.out hne
   simp only[Value.slice.injEq,Option.some.injEq,Addr.mk.injEq,and_true,true_and] at e'
   obtain⟨rfl,rfl⟩:=e'
   have hq:=(hgc wr hbr).1 j x hx
   have q0:=hq 0 _ rfl
   have q1:=hq 1 _ rfl
   have q2:=hq 2 _ rfl
   have q3:=hq 3 _ rfl
   rw[Nat.add_zero] at q0
   have hx16:=HN16.out x (List.mem_of_getElem? hx)
   obtain⟨U,hU,hbU,hzU,hcU⟩:=box8 wr (.cells #[.string (str8 x.nm),.int .i64 x.k,.bool x.nn,.bool x.uq] 37)
   have hBU:Below V.heap.size V U:=hbr.trans (hbU.mono hbr.size)
   have kU:=cells4 hcU
   have kUA:=cells3f ((hBU.block w.heap.size (by omega)).trans HCV.out)
   have HFIN:Hid (∀Z,Below U.heap.size U Z→Below V.heap.size V Z∧Z.cell? ⟨w.heap.size,1,none⟩=some (.slice (some ⟨g,0,none⟩) l.length cg)∧Z.cell? ⟨wr.heap.size,0,none⟩=some (.string (str8 x.nm))∧Z.cell? ⟨g,j*4,none⟩=some (.string (str8 x.nm))∧Z.frozen? ⟨g,j*4,none⟩=false):=hid (fun Z hZ=>by
    have hBZ:Below V.heap.size V Z:=hBU.trans (hZ.mono hBU.size)
    have a0:=(hgc Z hBZ).1 j x hx 0 _ rfl
    rw[Nat.add_zero] at a0
    exact⟨hBZ,(hZ.cell (p:=⟨w.heap.size,1,none⟩) (by show w.heap.size<_;omega)).trans kUA.2.1,(hZ.cell (p:=⟨wr.heap.size,0,none⟩) hzU).trans kU.1,a0,(hgc Z hBZ).2 _⟩)
   have HSX:=hid (fun Z=>strClone_any (str8 x.nm) Z (by rw[str8_size];omega))
   have HMEM:=hid hx
   clear hbr hgc hq hbU hcU hBU kUA hx kU
   go_wp2_with fail
   try rw[hU]
   obtain⟨_,s1,s2,s3,s4⟩:=HFIN.out U.drew (Below.refl _ _).drew
   go_region_held3 (fun Z=>Z.cell? ⟨w.heap.size,1,none⟩=some (.slice (some ⟨g,0,none⟩) l.length cg)∧Z.cell? ⟨wr.heap.size,0,none⟩=some (.string (str8 x.nm))) (first | exact⟨s1,s2⟩ | exact⟨z1,z2⟩ | (rw[HSM.out];exact⟨z1,z2⟩) | assumption)
    ((go_at_call 48;refine (HSX.out _).mono ?_;rintro e w5 ⟨rfl,hb5⟩;obtain⟨z0,z1,z2,z3,z4⟩:=HFIN.out w5 ((Below.refl _ U).drew.trans hb5);have HSM:=hid (setCell_same z3)))
   all_goals
    rw[HSM.out]
    go_wp2_with fail
    go_roundw
    case rel=>exact⟨j+1,by omega,by go_num,z0⟩
    case measure=>simp[intOf];omega
  ·have hlt' : ¬(j:Int)<(l.length:Int):=by omega
   have kZ:=cells3f ((hbr.block (w.heap.size+1) (by omega)).trans HZV.out)
   have HBF:Hid (Below w.heap.size w wr):=hid (HBV.out.trans (hbr.mono HBV.out.size))
   have HOF:=hid (Spares.row (Spares.of_new (S:=fun _=>False) hbr) HOV.out (fun _ _=>id))
   clear hbr HSC
   go_wp2
   have hB:Below w.heap.size w (((wr.setCell ⟨w.heap.size+1,0,none⟩ (.string (str8 nm))).setCell ⟨w.heap.size+1,1,none⟩ (.slice (some ⟨g,0,none⟩) l.length cg)).setCell ⟨w.heap.size+1,2,none⟩ (.int .i64 pr)):=((HBF.out.setCell (show w.heap.size≤w.heap.size+1 by omega) _).setCell (show w.heap.size≤w.heap.size+1 by omega) _).setCell (show w.heap.size≤w.heap.size+1 by omega) _
   have hSp:Spares (fun k=>k=w.heap.size+1) wr (((wr.setCell ⟨w.heap.size+1,0,none⟩ (.string (str8 nm))).setCell ⟨w.heap.size+1,1,none⟩ (.slice (some ⟨g,0,none⟩) l.length cg)).setCell ⟨w.heap.size+1,2,none⟩ (.int .i64 pr)):=(((Spares.refl (fun k=>k=w.heap.size+1) wr).own _ _).own _ _).own _ _
   refine bodyPost_ret (v:=.agg #[.string (str8 nm),.slice (some ⟨g,0,none⟩) l.length cg,.int .i64 pr]) (by simp[results,Tryz.results31,go_sem,kZ]) rfl ⟨_,rfl,⟨_,_,_,rfl,?_⟩,hB⟩
   exact owns_lower (hSp.row HOF.out (fun b hb=>by
    have:b=g:=by simpa [Value.ownBlock] using hb.symm
    omega)) (fun b hb=>by
    have:b=g:=by simpa [Value.ownBlock] using hb.symm
    have:=HB1.out.size
    omega)
theorem create_exs {s:St} (hk:s.k=1) (h:rightS s=true):exsS s=[]:=by
 unfold rightS at h
 simp only[Bool.and_eq_true] at h
 have h3:=h.2.2
 unfold restS at h3
 rw[if_pos hk] at h3
 unfold empS at h3
 simp only[decide_eq_true_eq] at h3
 obtain⟨_,_,_,_,hr,hs,hi,_,ho,hw,hg,hod,_,_⟩:=h3
 unfold exsS
 rw[List.eq_nil_of_length_eq_zero hs,List.eq_nil_of_length_eq_zero hi,List.eq_nil_of_length_eq_zero ho,List.eq_nil_of_length_eq_zero hw,List.eq_nil_of_length_eq_zero hg,List.eq_nil_of_length_eq_zero hod]
 rfl
theorem create_code {s:St} (hk:s.k=1):decide ((scrA [s]).2=0)=rightS s:=by
 cases h:rightS s with
 | true=>exact decide_eq_true (create_zero hk h).1
 |
  false =>
  have e:scrA [s]=([],4):=by
   unfold scrA
   rw[if_neg (by simp),if_neg (by simp[areB,h])]
  rw[e]
  exact decide_eq_false (by decide)
theorem one_stm {U:World} {g:Nat} {s:St} {cs:List Value} {T:Nat→Prop} (hc:U.heap[g]?=some (.cells cs.toArray 28)) (hx:StE T U s cs) (hl:cs.length=14) (hT:T g):SlAt 14 StE T U [s] (.slice (some ⟨g,0,none⟩) 1 1):=by
 refine ⟨_,1,[cs],rfl,by simp,by unfold maxLen;omega,Els.nil.snoc hl hx,fun _=>⟨g,0,rfl,hT,fun j ds hj i u hu=>?_⟩⟩
 match j,hj with
 |
  0,hj =>
  simp only[List.nil_append,List.getElem?_cons_zero,Option.some.injEq] at hj
  subst hj
  rw[Nat.zero_mul,Nat.zero_add,cell_row _ _ _ _ _ _ hc]
  rw[← List.getElem?_toArray] at hu
  exact hu
theorem StE.on {S:Nat→Prop} {w w':World} {s:St} {cs:List Value} (h:StE S w s cs) (hb:Below w.heap.size w w'):StE (fun _=>True) w' s cs:=h.to (R:=fun _=>False) (Spares.of_new hb) (fun b hS _=>⟨id,trivial⟩)
theorem rightCreate_any (S:Nat→Prop) (s:St) (cs:List Value) (w:World) (hT:TabW w) (hR:RgS s) (hx:StE S w s cs) :
  Calls Tryz.prog 29 #[.agg cs.toArray] w fun e w'=>e = .returned (.bool (decide (s.k=1)&&rightS s))∧Below w.heap.size w w':=by
 have hxx:=hx
 obtain⟨a1,a2,a3,a4,a5,a6,a7,a8,n1,n2,n3,n4,n5,n6,n7,n8,c1,c2,c3,c4,c5,c6,c7,c8,rfl,_⟩:=hx
 obtain⟨W,hW,hbW,hzW,hcW⟩:=box8 w (.cells #[.int .i64 s.k,.string (str8 s.tb),.slice a1 n1 c1,.string (str8 s.prim),.slice a2 n2 c2,.slice a3 n3 c3,.slice a4 n4 c4,.string (str8 s.jn),.slice a5 n5 c5,.slice a6 n6 c6,.slice a7 n7 c7,.slice a8 n8 c8,.bool s.desc,.int .i64 s.lim] 28)
 have k0:=cells14 hcW
 have HB:=hid hbW
 by_cases hk:s.k=1
 ·obtain⟨U,hU,hbU,hzU,hcU⟩:=box8 W (.cells #[.int .i64 s.k,.string (str8 s.tb),.slice a1 n1 c1,.string (str8 s.prim),.slice a2 n2 c2,.slice a3 n3 c3,.slice a4 n4 c4,.string (str8 s.jn),.slice a5 n5 c5,.slice a6 n6 c6,.slice a7 n7 c7,.slice a8 n8 c8,.bool s.desc,.int .i64 s.lim] 28)
  have hBU:=hbW.trans (hbU.mono hbW.size)
  have hsl:=one_stm (T:=fun _=>True) (g:=W.heap.size) hcU (hxx.on hBU) rfl trivial
  have HP:=hid (printScript1_any (fun _=>True) [s] _ U (hT.on hBU) (fun x hx=>by rw[List.mem_singleton.1 hx];exact hk) (fun x hx=>by rw[List.mem_singleton.1 hx];exact hR) hsl (fun _ x hx hr e he=>by
   rw[List.mem_singleton.1 hx] at hr he
   rw[create_exs hk hr] at he
   cases he))
  have HBU:=hid hBU
  have hcode:=create_code hk
  obtain⟨R,hRA⟩:∃R,scrA [s]=R:=⟨_,rfl⟩
  rw[hRA] at HP hcode
  obtain⟨r1,r2⟩:=R
  dsimp only at HP hcode
  rw[← hcode,hk,decide_eq_true rfl,Bool.true_and]
  rw[hk] at hW hU k0
  have he:(r2==0)=decide (r2=0):=by by_cases h:r2=0<;>simp[h]
  rw[← he]
  clear hxx hbW hcW hbU hcU hBU hsl hcode hRA hR hT
  go_enter Tryz.func29,Tryz.ntmps29
  go_wp2_with fail
  try rw[hW]
  try rw[hU]
  refine HP.out.mono ?_
  rintro e w1 ⟨rfl,hb1⟩
  have HB1:=hid (HBU.out.trans (hb1.mono HBU.out.size))
  clear hb1 HP
  go_wp2
  go_ret
  exact⟨rfl,HB1.out⟩
 ·have hk':(s.k != 1)=true:=by simpa using hk
  rw[decide_eq_false hk,Bool.false_and]
  clear hxx hbW hcW hT hR
  generalize s.k=K at *
  go_enter Tryz.func29,Tryz.ntmps29
  go_wp2
  go_ret
  exact⟨rfl,HB.out⟩
theorem right_short {s:St} (hk:s.k=1) (h:rightS s=true) (p:Int):ShT ⟨s.tb,s.cols,p⟩∧s.cols≠[]:=by
 obtain⟨h1,h2,h3⟩:=right_create hk h
 refine ⟨⟨nameOk_len h3,(areB_len h1).2,fun c hc=>?_⟩,fun e=>?_⟩
 ·have:=areB_mem h1 c hc
  unfold colB at this
  rw[Bool.and_eq_true] at this
  exact nameOk_len this.1
 ·have:=(areB_len h1).1
  rw[e] at this
  simp at this
theorem make_bad {s:St} (h:(decide (s.k=1)&&rightS s)=false):makeA s=(zTb,4):=by
 unfold makeA
 rw[if_neg]
 rintro⟨h1,h2⟩
 rw[h2,decide_eq_true h1] at h
 cases h
theorem make_two {s:St} (h1:s.k=1) (h2:rightS s=true) {j:Nat} (hj:j<s.cols.length) (h:idxN s.cols (s.cols[j]'hj).nm≠j):makeA s=(zTb,13):=by
 unfold makeA
 rw[if_pos ⟨h1,h2⟩,if_neg]
 intro hn
 exact h (idxN_nodup hn hj)
theorem colsC_split (l:List Co) (p:Nat) (x:Co) (h:l[p]?=some x):colsC (keyed l p)=((colsC l).set (p*4+2) (.bool true)).set (p*4+3) (.bool true):=by
 have hlen:(colsC (keyed l p)).length=(((colsC l).set (p*4+2) (.bool true)).set (p*4+3) (.bool true)).length:=by
  rw[colsC_len,keyed_len,List.length_set,List.length_set,colsC_len]
 have hp:p<l.length:=(List.getElem?_eq_some_iff.1 h).1
 apply List.ext_getElem?
 intro j
 by_cases hj:j<l.length*4
 ·have hq:j / 4<l.length:=by omega
  obtain⟨y,hy⟩:∃y,l[j / 4]?=some y:=⟨_,List.getElem?_eq_getElem hq⟩
  have ej:j=j / 4*4+j % 4:=by omega
  have hm:j % 4<4:=Nat.mod_lt _ (by decide)
  have hkey:=keyed_at l p (j / 4)
  obtain⟨z,hz⟩:∃z,(keyed l p)[j / 4]?=some z:=⟨_,List.getElem?_eq_getElem (by rw[keyed_len];exact hq)⟩
  obtain⟨u,hu⟩:∃u,(colC z)[j % 4]?=some u:=⟨_,List.getElem?_eq_getElem (by exact hm)⟩
  obtain⟨v,hv⟩:∃v,(colC y)[j % 4]?=some v:=⟨_,List.getElem?_eq_getElem (by exact hm)⟩
  have e1:=colsC_at (keyed l p) (j / 4) (j % 4) z u hz hu
  have e2:=colsC_at l (j / 4) (j % 4) y v hy hv
  rw[← ej] at e1 e2
  rw[e1,List.getElem?_set,List.getElem?_set,List.length_set,colsC_len,e2]
  rw[hz,hy] at hkey
  by_cases hpj:p=j / 4
  ·rw[if_pos hpj] at hkey
   simp only[Option.map_some,Option.some.injEq] at hkey
   subst hkey
   obtain⟨b,hb⟩:∃b,j % 4=b:=⟨_,rfl⟩
   rw[hb] at hu hv ej
   match b,(show b<4 by omega) with
   |
    0,_ =>
    rw[if_neg (by omega),if_neg (by omega),← hu,← hv];rfl
   |
    1,_ =>
    rw[if_neg (by omega),if_neg (by omega),← hu,← hv];rfl
   |
    2,_ =>
    rw[if_neg (by omega),if_pos (by omega),if_pos (by omega),← hu];rfl
   |
    3,_ =>
    rw[if_pos (by omega),if_pos (by omega),← hu];rfl
  ·rw[if_neg hpj] at hkey
   simp only[Option.some.injEq] at hkey
   subst hkey
   rw[hu] at hv
   rw[if_neg (by omega),if_neg (by omega),hv]
 ·rw[List.getElem?_eq_none (by rw[colsC_len,keyed_len];omega),List.getElem?_eq_none (by rw[← hlen,colsC_len,keyed_len];omega)]
structure MkOf (l:List Co) (prim tb:List UInt8) (M:Tb × Int):Prop where
 two : ∀(j:Nat) (x:Co),l[j]?=some x→idxN l x.nm≠j→M=(zTb,13)
 fin:(∀(j:Nat) (x:Co),l[j]?=some x→idxN l x.nm=j)→M=if idxN l prim<l.length then (⟨tb,keyed l (idxN l prim),(idxN l prim:Nat)⟩,0) else (zTb,12)
theorem mk_of {s:St} (hk:s.k=1) (hr:rightS s=true):MkOf s.cols s.prim s.tb (makeA s):=by
 refine ⟨fun j x hx h=>?_,fun h=>?_⟩
 ·obtain⟨hj,e⟩:=List.getElem?_eq_some_iff.1 hx
  subst e
  exact make_two hk hr hj h
 ·unfold makeA
  rw[if_pos ⟨hk,hr⟩,if_pos (nodup_of_first (fun j hj=>h j _ (List.getElem?_eq_getElem hj)))]
theorem make_any (S:Nat→Prop) (s:St) (cs:List Value) (w:World) (hT:TabW w) (hR:RgS s) (hx:StE S w s cs) :
  Calls Tryz.prog 10 #[.agg cs.toArray] w fun e w'=>∃ds:List Value,e = .returned (.tuple #[.agg ds.toArray,.int .i64 (makeA s).2])∧TbO w.heap.size w' (makeA s).1 ds∧Below w.heap.size w w':=by
 have hxx:=hx
 obtain⟨a1,a2,a3,a4,a5,a6,a7,a8,n1,n2,n3,n4,n5,n6,n7,n8,c1,c2,c3,c4,c5,c6,c7,c8,rfl,hsl,_⟩:=hx
 obtain⟨W,hW,hbW,hzW,hcA,hcB⟩:=two w (.cells #[.int .i64 s.k,.string (str8 s.tb),.slice a1 n1 c1,.string (str8 s.prim),.slice a2 n2 c2,.slice a3 n3 c3,.slice a4 n4 c4,.string (str8 s.jn),.slice a5 n5 c5,.slice a6 n6 c6,.slice a7 n7 c7,.slice a8 n8 c8,.bool s.desc,.int .i64 s.lim] 28) (.cells #[.string ⟨#[]⟩,.slice none 0 0,.int .i64 0] 31)
 have k0:=cells14 hcA
 have HRC:=hid (rightCreate_any (fun _=>True) s _ W (hT.on hbW) hR (hxx.on hbW))
 have HB:=hid hbW
 have HCA:=hid hcA
 have HCB:=hid hcB
 have hmb:(decide (s.k=1)&&rightS s)=false→makeA s=(zTb,4):=make_bad
 have hmk:(decide (s.k=1)&&rightS s)=true→MkOf s.cols s.prim s.tb (makeA s)∧(∀p,ShT ⟨s.tb,s.cols,p⟩)∧s.cols≠[]:=fun h=>by
  simp only[Bool.and_eq_true,decide_eq_true_eq] at h
  exact⟨mk_of h.1 h.2,fun p=>(right_short h.1 h.2 p).1,(right_short h.1 h.2 0).2⟩
 clear hxx hT hR hbW hcA hcB
 generalize makeA s=M at hmb hmk ⊢
 generalize (decide (s.k=1)&&rightS s)=ok at HRC hmb hmk
 obtain⟨k,tb,l,prim,rows,sets,items,jn,on,wh,gr,od,desc,lim⟩:=s
 dsimp only at hW k0 HRC HCA hmb hmk hsl
 cases ok with
 |
  false =>
  obtain rfl:=hmb rfl
  clear hmb hmk hsl
  go_enter Tryz.func10,Tryz.ntmps10
  go_wp2_with fail
  try rw[hW]
  refine HRC.out.mono ?_
  rintro e w1 ⟨rfl,hb1⟩
  have hs1:=hb1.size
  have k1:=cells3f ((hb1.block (w.heap.size+1) (by omega)).trans HCB.out)
  have HS0:=hid (setCell_same k1.1)
  have HS1:=hid (setCell_same k1.2.1)
  have HS2:=hid (setCell_same k1.2.2.1)
  have HB1:=hid (HB.out.trans (hb1.mono HB.out.size))
  clear hb1 HRC
  go_wp2
  rw[HS0.out,HS1.out,HS2.out]
  exact bodyPost_ret (v:=.tuple #[.agg #[.string ⟨#[]⟩,.slice none 0 0,.int .i64 0],.int .i64 4]) (by simp[results,Tryz.results10,go_sem,k1]) rfl ⟨_,rfl,zTb_own _ _ HB1.out.size,HB1.out⟩
 |
  true =>
  obtain⟨hmk,hsh,hne⟩:=hmk rfl
  have h8:=(hsh 0).2.1
  dsimp only at h8
  obtain⟨b,off,c,hv,hlc,hcm,hS,hlt0,hel⟩:=cols_at hsl hne
  simp only[Value.slice.injEq] at hv
  obtain⟨rfl,rfl,rfl⟩:=hv
  unfold maxLen at hcm
  have HEL:=hid hel
  have HSL:=hid hsl
  have HSH:=hid hsh
  have HNE:=hid hne
  have HMK:=hid hmk
  clear hmb hmk hsl hsh hel hne
  go_enter Tryz.func10,Tryz.ntmps10
  go_wp2_with fail
  try rw[hW]
  refine HRC.out.mono ?_
  rintro e w1 ⟨rfl,hb1⟩
  have hs1:=hb1.size
  have hA1:=(hb1.block w.heap.size (by omega)).trans HCA.out
  have hZ1:=(hb1.block (w.heap.size+1) (by omega)).trans HCB.out
  have k1:=cells14 hA1
  have HA1:=hid hA1
  have HZ1:=hid hZ1
  have HB1:=hid (HB.out.trans (hb1.mono HB.out.size))
  have hz1:w.heap.size+1<w1.heap.size:=by omega
  clear hb1 HRC hW k0 HCA HCB HB hzW hA1 hZ1
  go_wp2_with fail
  go_loopw [15] (fun i wr=>∃j:Nat,j≤l.length∧i = .int .i64 j∧Below w1.heap.size w1 wr∧Hid (∀(m:Nat) (x:Co),m<j→l[m]?=some x→idxN l x.nm=m)) (fun i _=>l.length-(intOf i).toNat)
  case atStart=>exact⟨0,Nat.zero_le _,rfl,Below.refl _ _,hid (fun m x h=>absurd h (Nat.not_lt_zero _))⟩
  case round =>
   obtain⟨j,hj,rfl,hbr,HFI⟩:=hrel
   have hsr:=hbr.size
   have hBR:Below w.heap.size w wr:=HB1.out.trans (hbr.mono HB1.out.size)
   have hZr:=(hbr.block (w.heap.size+1) (by omega)).trans HZ1.out
   have hAr:=(hbr.block w.heap.size (by omega)).trans HA1.out
   have kr:=cells14 hAr
   have kz:=cells3f hZr
   by_cases hlt:j<l.length
   ·obtain⟨x,hx⟩:∃x,l[j]?=some x:=⟨_,List.getElem?_eq_getElem hlt⟩
    have hlt':(j:Int)<(l.length:Int):=by omega
    have hq:=HEL.out wr (hBR.mono (Nat.le_refl _)) j x hx
    have q0:=hq 0 _ rfl
    have q1:=hq 1 _ rfl
    have q2:=hq 2 _ rfl
    have q3:=hq 3 _ rfl
    rw[Nat.add_zero] at q0
    obtain⟨U,hU,hbU,hzU,hcU⟩:=box8 wr (.cells #[.string (str8 x.nm),.int .i64 x.k,.bool x.nn,.bool x.uq] 37)
    have hBU:Below w.heap.size w U:=hBR.trans (hbU.mono hBR.size)
    have HPL:=hid (place_any S l (.slice (some ⟨b,off,none⟩) l.length c1) x.nm U (HSL.out.to (by decide) (R:=fun _=>False) (Spares.of_new hBU) (fun b hb _=>⟨id,hb⟩) (fun _ _ e=>e)) HNE.out)
    have hix:=idxN_lt (l:=l) (nm:=x.nm) (List.getElem?_eq_some_iff.1 hx).1 (by rw[(List.getElem?_eq_some_iff.1 hx).2])
    have hpc:placeC l x.nm=(idxN l x.nm:Nat):=by unfold placeC;rw[if_pos (by omega)]
    rw[hpc] at HPL
    have HTWO:Hid (idxN l x.nm≠j→M=(zTb,13)):=hid (HMK.out.two j x hx)
    have HFX:Hid (idxN l x.nm=j→∀(m:Nat) (y:Co),m<j+1→l[m]?=some y→idxN l y.nm=m):=hid (fun e m y hm hy=>by
     rcases Nat.lt_or_ge m j with h1 | h1
     ·exact HFI.out m y h1 hy
     ·obtain rfl:m=j:=by omega
      rw[hx] at hy
      injection hy with hy
      rw[← hy]
      exact e)
    have kU:=cells4 hcU
    have kUA:=cells14 ((hbU.block w.heap.size (by omega)).trans hAr)
    have HBU:=hid hBU
    have HBRU:=hid (hbr.trans (hbU.mono hbr.size))
    have HZU:=hid ((hbU.block (w.heap.size+1) (by omega)).trans hZr)
    clear hpc hq hx HFI hbr hBR hZr hAr hbU hcU hBU kz
    generalize idxN l x.nm=q at HPL HTWO HFX hix
    go_wp2_with fail
    try rw[hU]
    refine HPL.out.mono ?_
    rintro e w2 ⟨rfl,hb2⟩
    have hs2:=hb2.size
    have hZ2:=(hb2.block (w.heap.size+1) (by omega)).trans HZU.out
    have k2:=cells3f hZ2
    have HS0:=hid (setCell_same k2.1)
    have HS1:=hid (setCell_same k2.2.1)
    have HS2:=hid (setCell_same k2.2.2.1)
    have HB2:=hid (HBU.out.trans (hb2.mono HBU.out.size))
    have HBR2:=hid (HBRU.out.trans (hb2.mono HBRU.out.size))
    clear hb2 hZ2 HPL
    by_cases hqj:q=j
    ·have hqj':((q:Int) != (j:Int))=false:=by rw[hqj];simp
     have HFX2:=hid (HFX.out hqj)
     clear hqj HS0 HS1 HS2
     go_wp2_with fail
     go_roundw
     case rel=>exact⟨j+1,by omega,by go_num,HBR2.out,HFX2⟩
     case measure=>simp[intOf];omega
    ·have hqj':((q:Int) != (j:Int))=true:=by simp;omega
     obtain rfl:=HTWO.out hqj
     clear hqj
     go_wp2
     rw[HS0.out,HS1.out,HS2.out]
     exact bodyPost_ret (v:=.tuple #[.agg #[.string ⟨#[]⟩,.slice none 0 0,.int .i64 0],.int .i64 13]) (by simp[results,Tryz.results10,go_sem,k2]) rfl ⟨_,rfl,zTb_own _ _ HB2.out.size,HB2.out⟩
   ·have hlt' : ¬(j:Int)<(l.length:Int):=by omega
    have hM:=HMK.out.fin (fun m x hx=>HFI.out m x (by have:=(List.getElem?_eq_some_iff.1 hx).1;omega) hx)
    have hsl:=HSL.out.to (T:=S) (by decide) (R:=fun _=>False) (Spares.of_new hBR) (fun b hb _=>⟨id,hb⟩) (fun _ _ e=>e)
    have HPL:=hid (place_any S l (.slice (some ⟨b,off,none⟩) l.length c1) prim wr hsl HNE.out)
    have HSLR:=hid hsl
    have HZR:=hid hZr
    have HAR:=hid hAr
    have HBR:=hid hBR
    by_cases hp:idxN l prim<l.length
    ·have hpc:placeC l prim=(idxN l prim:Nat):=by unfold placeC;rw[if_pos hp]
     rw[hpc] at HPL
     rw[if_pos hp] at hM
     generalize idxN l prim=p at HPL hM hp
     obtain⟨x,hx⟩:∃x,l[p]?=some x:=⟨_,List.getElem?_eq_getElem hp⟩
     have HX:=hid hx
     have hp' : ¬(p:Int)<0:=by omega
     have hp'':(p:Int)<(l.length:Int):=by omega
     subst hM
     clear hpc hx HFI hbr hZr hAr hBR hsl kz
     go_wp2_with fail
     refine HPL.out.mono ?_
     rintro e w2 ⟨rfl,hb2⟩
     have hs2:=hb2.size
     have hA2:=(hb2.block w.heap.size (by omega)).trans HAR.out
     have k2:=cells14 hA2
     have HCL:=hid (cloneC_any S ⟨tb,l,(p:Int)⟩ _ w2 ⟨_,_,_,rfl,HSLR.out.to (T:=S) (by decide) (R:=fun _=>False) (Spares.of_new hb2) (fun b hb _=>⟨id,hb⟩) (fun _ _ e=>e)⟩ (HSH.out p) HNE.out)
     have HB2:=hid (HBR.out.trans (hb2.mono HBR.out.size))
     have HZ2:=hid ((hb2.block (w.heap.size+1) (by omega)).trans HZR.out)
     clear hb2 HPL hA2
     go_wp2_with fail
     refine HCL.out.mono ?_
     rintro e w3 ⟨ds,rfl,⟨aa,nn,cc,rfl,hown⟩,hb3⟩
     dsimp only at hown
     obtain⟨g,cg,hvg,hg1,hg2,hlcg,hgc⟩:=owned_form hown HNE.out
     simp only[Value.slice.injEq] at hvg
     obtain⟨rfl,rfl,rfl⟩:=hvg
     have hs3:=hb3.size
     obtain⟨V,hV,hbV,hzV,hcV⟩:=box8 w3 (.cells #[.string (str8 tb),.slice (some ⟨g,0,none⟩) l.length cc,.int .i64 p] 31)
     have hownV:=Spares.row (Spares.of_new (S:=fun _=>False) hbV) hown (fun _ _=>id)
     have kV:=cells3f hcV
     have HCV:=hid hcV
     have HB3:=hid ((HB2.out.trans (hb3.mono HB2.out.size)).trans (hbV.mono (HB2.out.trans (hb3.mono HB2.out.size)).size))
     have HZ3:=hid ((hbV.block (w.heap.size+1) (by omega)).trans ((hb3.block (w.heap.size+1) (by omega)).trans HZ2.out))
     have hq:=(hgc V hbV).1 p x HX.out
     have q2:=hq 2 _ rfl
     have q3:=hq 3 _ rfl
     have qf:=(hgc V hbV).2
     obtain⟨X,hX⟩:∃X,V.setCell ⟨g,p*4+2,none⟩ (.bool true)=X:=⟨_,rfl⟩
     obtain⟨Y,hY⟩:∃Y,X.setCell ⟨g,p*4+3,none⟩ (.bool true)=Y:=⟨_,rfl⟩
     have hoX:=hownV.stored (p*4+2) (.bool true)
     rw[hX] at hoX
     have hoY:=hoX.1.stored (p*4+3) (.bool true)
     rw[hY] at hoY
     have hsX:Spares (fun k=>k=g) V X:=Spares.of_grown hoX.2 (fun k e=>by injection e with e;exact e.symm)
     have hsY:Spares (fun k=>k=g) X Y:=Spares.of_grown hoY.2 (fun k e=>by injection e with e;exact e.symm)
     have hzX:=hsX.size
     have hzY:=hsY.size
     have hcX:=(hsX.block w3.heap.size (by omega) (by omega)).trans hcV
     have hcY:=(hsY.block w3.heap.size (by omega) (by omega)).trans hcX
     have kX:=cells3f hcX
     have kY:=cells3f hcY
     have hZY:=(hsY.block (w.heap.size+1) (by omega) (by omega)).trans ((hsX.block (w.heap.size+1) (by omega) (by omega)).trans HZ3.out)
     have kZ:=cells3f hZY
     have HOY:=hid hoY.1
     have xf : ∀i,X.frozen? ⟨g,i,none⟩=false:=fun i=>hoX.1.frozenAt i
     have x3:X.cell? ⟨g,p*4+3,none⟩=some (.bool x.uq):=by rw[← hX,World.cell?_setCell_other _ _ _ _ (by simp)];exact q3
     have HBY:Hid (Below w.heap.size w Y):=hid (HB3.out.trans ((hsX.andThen hsY (fun i hi=>.inl hi)).below (fun i hi=>by omega) HB3.out.size))
     clear hb3 hbV hcV hown hownV hq hgc hoX hoY hsX hsY hcX hcY hZY HCL k2
     go_wp2
     have hSp:Spares (fun k=>k=w.heap.size+1) Y (((Y.setCell ⟨w.heap.size+1,0,none⟩ (.string (str8 tb))).setCell ⟨w.heap.size+1,1,none⟩ (.slice (some ⟨g,0,none⟩) l.length cc)).setCell ⟨w.heap.size+1,2,none⟩ (.int .i64 p)):=(((Spares.refl (fun k=>k=w.heap.size+1) Y).own _ _).own _ _).own _ _
     have hB:Below w.heap.size w (((Y.setCell ⟨w.heap.size+1,0,none⟩ (.string (str8 tb))).setCell ⟨w.heap.size+1,1,none⟩ (.slice (some ⟨g,0,none⟩) l.length cc)).setCell ⟨w.heap.size+1,2,none⟩ (.int .i64 p)):=HBY.out.trans (hSp.below (fun i hi=>by omega) HBY.out.size)
     refine bodyPost_ret (v:=.tuple #[.agg #[.string (str8 tb),.slice (some ⟨g,0,none⟩) l.length cc,.int .i64 p],.int .i64 0]) (by simp[results,Tryz.results10,go_sem,kZ]) rfl ⟨_,rfl,⟨_,_,_,rfl,?_⟩,hB⟩
     dsimp only
     rw[keyed_len,colsC_split l p x HX.out]
     exact owns_lower (hSp.row HOY.out (fun b hb=>by
      have:b=g:=by simpa [Value.ownBlock] using hb.symm
      omega)) (fun b hb=>by
      have:b=g:=by simpa [Value.ownBlock] using hb.symm
      omega)
    ·have hpc:placeC l prim = -1:=by unfold placeC;rw[if_neg hp]
     rw[hpc] at HPL
     rw[if_neg hp] at hM
     subst hM
     clear hpc hp HFI hbr hZr hAr hBR hsl kz
     go_wp2_with fail
     refine HPL.out.mono ?_
     rintro e w2 ⟨rfl,hb2⟩
     have hs2:=hb2.size
     have k2:=cells3f ((hb2.block (w.heap.size+1) (by omega)).trans HZR.out)
     have HS0:=hid (setCell_same k2.1)
     have HS1:=hid (setCell_same k2.2.1)
     have HS2:=hid (setCell_same k2.2.2.1)
     have HB2:=hid (HBR.out.trans (hb2.mono HBR.out.size))
     clear hb2 HPL
     go_wp2
     rw[HS0.out,HS1.out,HS2.out]
     exact bodyPost_ret (v:=.tuple #[.agg #[.string ⟨#[]⟩,.slice none 0 0,.int .i64 0],.int .i64 12]) (by simp[results,Tryz.results10,go_sem,k2]) rfl ⟨_,rfl,zTb_own _ _ HB2.out.size,HB2.out⟩
end Go.Proofs.YtaaggohjmhifbaaGreatDoor
