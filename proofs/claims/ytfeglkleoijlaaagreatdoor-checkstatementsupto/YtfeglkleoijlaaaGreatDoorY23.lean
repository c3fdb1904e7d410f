import Derived.Test.YtfeglkleoijlaaaGreatDoorY22
import Derived.Test.YtfeglkleoijlaaaGreatDoorY21
namespace Go.Proofs.YtfeglkleoijlaaaGreatDoor
open Go.RowKit Go.Shelf Go.Lib
set_option linter.unusedSimpArgs false
set_option linter.unusedVariables false
set_option maxRecDepth 20000
set_option maxHeartbeats 8000000
def ShT (t:Tb):Prop:=t.nm.length≤16∧t.aC.length≤8∧∀c∈t.aC,c.nm.length≤16
theorem Tryz.Iz:(Tryz.prog.info? 60).map (fun i=>(i.zero,i.size,i.bytes))=some (some (.agg #[.string ⟨#[]⟩,.int .i64 0,.bool false,.bool false]),4,32):=by kernel_rfl
theorem aN {w:World} {g i:Nat} {v:Value} (h:w.cell? ⟨g,i,none⟩=some v):w.setCell ⟨g,i,none⟩ v=w:=by
 unfold World.cell? at h
 dsimp only at h
 cases hg:w.heap[g]? with
 | none=>rw[hg] at h;cases h
 |
  some o =>
  rw[hg] at h
  cases o with
  |
   cells c t fr =>
   have hc:c[i]?=some v:=by simpa using h
   have e:c.setIfInBounds i v=c:=by
    apply Array.ext_getElem?
    intro j
    rw[Array.getElem?_setIfInBounds]
    split
    ·rename_i e
     subst e
     split
     ·exact hc.symm
     ·rename_i hlt
      rw[Array.getElem?_eq_none (by omega)]
    ·rfl
   have e2:(w.setCell ⟨g,i,none⟩ v).heap=w.heap:=by
    apply Array.ext_getElem?
    intro j
    show (w.heap.modify g _)[j]?=_
    rw[Array.getElem?_modify]
    split
    ·rename_i e'
     subst e'
     rw[hg]
     simp[e]
    ·rfl
   show ({ w with heap:=(w.setCell ⟨g,i,none⟩ v).heap }:World)=w
   rw[e2]
  | _=>simp at h
theorem uI : ∀(l:List Co) (j:Nat) (u:Value),(fO l)[j]?=some u→∃x,l[j / 4]?=some x∧(mH x)[j % 4]?=some u
 | [],j,u,h=>by simp[fO] at h
 |
  c::l,j,u,h=>by
  have e:fO (c::l)=mH c++fO l:=rfl
  rw[e] at h
  rcases Nat.lt_or_ge j 4 with hj | hj
  ·rw[List.getElem?_append_left (by exact hj)] at h
   exact⟨c,by rw[Nat.div_eq_of_lt hj];rfl,by rw[Nat.mod_eq_of_lt hj];exact h⟩
  ·rw[List.getElem?_append_right (by exact hj)] at h
   obtain⟨x,h1,h2⟩:=uI l (j-4) u h
   have e1:j / 4=(j-4) / 4+1:=by omega
   have e2:j % 4=(j-4) % 4:=by omega
   exact⟨x,by rw[e1,List.getElem?_cons_succ];exact h1,by rw[e2];exact h2⟩
theorem yu (l:List Co) (j i:Nat) (x:Co) (u:Value) (hx:l[j]?=some x) (hu:(mH x)[i]?=some u):(fO l)[j*4+i]?=some u :=
 oJ 4 (l.map mH) (fun cs hc=>by obtain⟨c,_,rfl⟩:=List.mem_map.1 hc;rfl) j i (mH x) u (by rw[List.getElem?_map,hx];rfl) hu
theorem mq {base:Nat} {w:World} {l:List Co} {v:Value} (h:w.ownsRow base 60 4 v l.length (fO l)) (hne:l≠[]):∃g c,v = .slice (some ⟨g,0,none⟩) l.length c∧base≤g∧g<w.heap.size∧l.length≤c ∧
  (∀Z,Below w.heap.size w Z→(∀(j:Nat) (x:Co),l[j]?=some x→∀(i:Nat) (u:Value),(mH x)[i]?=some u→Z.cell? ⟨g,j*4+i,none⟩=some u)∧∀i,Z.frozen? ⟨g,i,none⟩=false):=by
 have h0:=h
 rcases h.2 with⟨_,hn⟩ | ⟨g,cap,cur,rfl,hB,hg,hnc,_⟩
 ·exact absurd (aaR hn) hne
 ·have hlt:g<w.heap.size:=World.lt_of_block hg
  refine ⟨g,cap,rfl,hB,hlt,hnc,fun Z hZ=>⟨fun j x hx i u hu=>?_,fun i=>?_⟩⟩
  ·have k:=h0.cells (g:=g) rfl (j*4+i) u (yu l j i x u hx hu)
   rw[Addr.add_lit,Nat.zero_add] at k
   exact (hZ.cell (p:=⟨g,_,none⟩) hlt).trans k
  ·have e:Z.heap[g]?=some (.cells cur 60 (0,0)):=(hZ.block g hlt).trans hg
   simp[World.frozen?,e]
theorem Gz (S:Nat→Prop) (l:List Co) (v:Value) (w:World) (h:aM 4 ku S w l v) (hne:l≠[]) (hl:l.length≤8) :
  Calls Tryz.prog 81 #[v] w fun e w'=>∃u,e = .returned u∧w'.ownsRow w.heap.size 60 4 u l.length (fO l)∧Below w.heap.size w w':=by
 obtain⟨i0,hi,hy0,hy1,hy2⟩:=info_parts Tryz.Iz
 obtain⟨b,off,c,rfl,h1,h2,hS,hlt,hel⟩:=iX h hne
 refine (AnyE.slices_Clone NT i0 _ 4 32 hi hy0 hy1 hy2 rfl (by decide) Tryz.sizeOf60 b off l.length c (fO l) w (jO l) (by unfold maxLen;omega) (by omega) (fun j u hu=>?_) (zN l)).mono ?_
 ·obtain⟨x,e1,e2⟩:=uI l j u hu
  have:=hel w (Below.refl _ _) (j / 4) x e1 (j % 4) u e2
  have e:off+j / 4*4+j % 4=off+j:=by omega
  rw[e] at this
  exact this
 ·rintro e w' ⟨u,rfl,hu,_,hb⟩
  exact⟨u,rfl,hu,hb⟩
theorem IQ {w:World} {b:Nat} {a0 a1 a2:Value} {t:TypeId} (h:w.heap[b]?=some (.cells #[a0,a1,a2] t)) (v:Value) :
  ∃X,w.setCell ⟨b,1,none⟩ v=X∧X.heap[b]?=some (.cells #[a0,v,a2] t)∧ak (fun k=>k=b) w X:=by
 refine ⟨_,rfl,?_,(ak.refl (fun k=>k=b) w).own _ _⟩
 rw[setCell_eq_setRow w b 1 _ t _ v h,setRow_heap w b _ _ t _ h]
 simp only[aag,aaw,aay]
theorem rE (S:Nat→Prop) (t:Tb) (cs:List Value) (w:World) (h:fG S w t cs) (hs:ShT t) (hne:t.aC≠[]) :
  Calls Tryz.prog 36 #[.agg cs.toArray] w fun e w'=>∃ds:List Value,e = .returned (.agg ds.toArray)∧Mf w.heap.size w' t ds∧Below w.heap.size w w':=by
 obtain⟨aa,nn,cc,rfl,hsl⟩:=h
 obtain⟨nm,l,pr⟩:=t
 dsimp only at hsl hne ⊢
 obtain⟨h16,h8,hc16⟩:=hs
 dsimp only at h16 h8 hc16
 obtain⟨W,hW,hbW,aJ,hcA,hcB⟩:=two w (.cells #[.string (aj nm),.slice aa nn cc,.int .i64 pr] 42) (.cells #[.string ⟨#[]⟩,.slice none 0 0,.int .i64 0] 42)
 have k0:=aH hcA
 have IG:=hid (fun V=>jC (aj nm) V (by rw[dW];omega))
 have dw:=hid hcA
 have nP:=hid hcB
 have eF:=hid hbW
 have HSL:=hid hsl
 have aaD:=hid hc16
 clear hcA hcB hbW hsl hc16
 go_enter Tryz.func36,Tryz.ntmps36
 go_wp2_with fail
 try rw[hW]
 refine (IG.out W).mono ?_
 rintro e w1 ⟨rfl,hb1⟩
 have hB1:=eF.out.trans (hb1.mono eF.out.size)
 have hs1:=hb1.size
 have hA1:=(hb1.block w.heap.size (by omega)).trans dw.out
 have hZ1:=(hb1.block (w.heap.size+1) (by omega)).trans nP.out
 have k1:=aH hA1
 have dB:=hid (Gz S l (.slice aa nn cc) w1 (HSL.out.to (by decide) (R:=fun _=>False) (ak.aA hB1) (fun b hb _=>⟨id,hb⟩) (fun _ _ e=>e)) hne h8)
 have HB1:=hid hB1
 have HA1:=hid hA1
 have HZ1:=hid hZ1
 have R8:=hid (aN k1.1)
 clear hb1 hB1 hA1 hZ1 hW k0
 go_wp2_with fail
 try rw[R8.out]
 refine dB.out.mono ?_
 rintro e w2 ⟨u,rfl,hu2,hb2⟩
 have hs2:=hb2.size
 have hA2:=(hb2.block w.heap.size (by omega)).trans HA1.out
 have hZ2:=(hb2.block (w.heap.size+1) (by omega)).trans HZ1.out
 obtain⟨g,cg,rfl,hg1,hg2,hlc,hgc⟩:=mq hu2 hne
 have k2:=aH hA2
 obtain⟨V,hV,wH,uy⟩:=IQ hA2 (.slice (some ⟨g,0,none⟩) l.length cg)
 have HB2:=htr HB1 hb2
 have K4:=uy.size
 have HOV:Hid (V.ownsRow w1.heap.size 60 4 (.slice (some ⟨g,0,none⟩) l.length cg) l.length (fO l)):=hid (uy.row hu2 (fun b hb=>by
  have:b=g:=by simpa [Value.ownBlock] using hb.symm
  omega))
 have hZV:=(uy.block (w.heap.size+1) (by omega) (by omega)).trans hZ2
 have HCV:=hid wH
 have HZV:=hid hZV
 have zl:Hid (Below w.heap.size w V):=hid (HB2.out.trans (uy.below (fun i hi=>by omega) HB2.out.size))
 have kV:=aH wH
 clear hb2 hA2 hZ2 dB hu2 hgc uy hZV wH k1 R8
 go_wp2_with fail
 try rw[hV]
 clear hV k2
 have VQ:g<V.heap.size:=by omega
 go_loopw [16] (fun i wr=>∃j:Nat,j≤l.length∧i = .int .i64 j∧Below V.heap.size V wr) (fun i _=>l.length-(intOf i).toNat)
 case atStart=>exact⟨0,aaV _,rfl,Below.refl _ _⟩
 case round =>
  obtain⟨j,hj,rfl,hbr⟩:=hrel
  have hsr:=hbr.size
  have nZ:=hid hbr
  have kR:=aH ((hbr.block w.heap.size (by omega)).trans HCV.out)
  by_cases hlt:j<l.length
  ·obtain⟨x,hx⟩:∃x,l[j]?=some x:=⟨_,aaf hlt⟩
   have hlt':(j:Int)<(l.length:Int):=by omega
   obtain⟨g',cg',e',_,_,_,hgc⟩:=mq HOV.out hne
   simp only[aah,abf,Addr.mk.injEq,and_true,true_and] at e'
   obtain⟨rfl,rfl⟩:=e'
   have hq:=(hgc wr hbr).1 j x hx
   have q0:=hq 0 _ rfl
   have q1:=hq 1 _ rfl
   have q2:=hq 2 _ rfl
   have q3:=hq 3 _ rfl
   rw[aa2] at q0
   have hx16:=aaD.out x (aaP hx)
   obtain⟨U,hU,bB,jc,eU⟩:=aK wr (.cells #[.string (aj x.nm),.int .i64 x.k,.bool x.nn,.bool x.uq] 60)
   have jm:Below V.heap.size V U:=hbr.trans (bB.mono hbr.size)
   have kU:=uz eU
   have kUA:=aH ((jm.block w.heap.size (by omega)).trans HCV.out)
   have zD:Hid (∀Z,Below U.heap.size U Z→Below V.heap.size V Z∧Z.cell? ⟨w.heap.size,1,none⟩=some (.slice (some ⟨g,0,none⟩) l.length cg)∧Z.cell? ⟨wr.heap.size,0,none⟩=some (.string (aj x.nm))∧Z.cell? ⟨g,j*4,none⟩=some (.string (aj x.nm))∧Z.frozen? ⟨g,j*4,none⟩=false):=hid (fun Z hZ=>by
    have OZ:Below V.heap.size V Z:=jm.trans (hZ.mono jm.size)
    have a0:=(hgc Z OZ).1 j x hx 0 _ rfl
    rw[aa2] at a0
    exact⟨OZ,(hZ.cell (p:=⟨w.heap.size,1,none⟩) (by show w.heap.size<_;omega)).trans kUA.2.1,(hZ.cell (p:=⟨wr.heap.size,0,none⟩) jc).trans kU.1,a0,(hgc Z OZ).2 _⟩)
   have SV:=hid (fun Z=>jC (aj x.nm) Z (by rw[dW];omega))
   have agj:=hid hx
   clear hbr hgc hq bB eU jm kUA hx kU
   go_wp2_with fail
   try rw[hU]
   obtain⟨_,s1,s2,s3,s4⟩:=zD.out U.drew (Below.refl _ _).drew
   go_region_held3 (fun Z=>Z.cell? ⟨w.heap.size,1,none⟩=some (.slice (some ⟨g,0,none⟩) l.length cg)∧Z.cell? ⟨wr.heap.size,0,none⟩=some (.string (aj x.nm))) (first | exact⟨s1,s2⟩ | exact⟨z1,z2⟩ | (rw[IC.out];exact⟨z1,z2⟩) | assumption)
    ((go_at_call 80;refine (SV.out _).mono ?_;rintro e w5 ⟨rfl,hb5⟩;obtain⟨z0,z1,z2,z3,z4⟩:=zD.out w5 ((Below.refl _ U).drew.trans hb5);have IC:=hid (aN z3)))
   all_goals
    rw[IC.out]
    go_wp2_with fail
    go_roundw
    case rel=>exact⟨j+1,by omega,by go_num,z0⟩
    case measure=>simp[intOf];omega
  ·have hlt' : ¬(j:Int)<(l.length:Int):=by omega
   have kZ:=aH ((hbr.block (w.heap.size+1) (by omega)).trans HZV.out)
   have iC:=htr zl hbr
   have HOF:=hid (ak.row (ak.aA (S:=fun _=>False) hbr) HOV.out (fun _ _=>id))
   clear hbr IG
   go_wp2
   have hB:Below w.heap.size w (((wr.setCell ⟨w.heap.size+1,0,none⟩ (.string (aj nm))).setCell ⟨w.heap.size+1,1,none⟩ (.slice (some ⟨g,0,none⟩) l.length cg)).setCell ⟨w.heap.size+1,2,none⟩ (.int .i64 pr)):=((iC.out.setCell (show w.heap.size≤w.heap.size+1 by omega) _).setCell (show w.heap.size≤w.heap.size+1 by omega) _).setCell (show w.heap.size≤w.heap.size+1 by omega) _
   have hSp:ak (fun k=>k=w.heap.size+1) wr (((wr.setCell ⟨w.heap.size+1,0,none⟩ (.string (aj nm))).setCell ⟨w.heap.size+1,1,none⟩ (.slice (some ⟨g,0,none⟩) l.length cg)).setCell ⟨w.heap.size+1,2,none⟩ (.int .i64 pr)):=(((ak.refl (fun k=>k=w.heap.size+1) wr).own _ _).own _ _).own _ _
   refine bodyPost_ret (v:=.agg #[.string (aj nm),.slice (some ⟨g,0,none⟩) l.length cg,.int .i64 pr]) (by simp[results,Tryz.results36,go_sem,kZ]) rfl ⟨_,rfl,⟨_,_,_,rfl,?_⟩,hB⟩
   exact gM (hSp.row HOF.out (fun b hb=>by
    have:b=g:=by simpa [Value.ownBlock] using hb.symm
    omega)) (fun b hb=>by
    have:b=g:=by simpa [Value.ownBlock] using hb.symm
    have:=HB1.out.size
    omega)
theorem Ga {s:St} (hk:s.k=1) (h:aQ s=true):oM s=[]:=by
 unfold aQ at h
 simp only[aaC] at h
 have h3:=h.2.2
 unfold yF at h3
 rw[if_pos hk] at h3
 unfold oF at h3
 simp only[aaI] at h3
 obtain⟨_,_,_,_,hr,hs,hi,_,ho,hw,hg,hod,_,_⟩:=h3
 unfold oM
 rw[aaR hs,aaR hi,aaR ho,aaR hw,aaR hg,aaR hod]
 rfl
theorem Ei {s:St} (hk:s.k=1):decide ((qg [s]).2=0)=aQ s:=by
 cases h:aQ s with
 | true=>exact aar (Ed hk h).1
 |
  false =>
  have e:qg [s]=([],4):=by
   unfold qg
   rw[if_neg (by simp),if_neg (by simp[aR,h])]
  rw[e]
  exact aaj (by decide)
theorem QL {U:World} {g:Nat} {s:St} {cs:List Value} {T:Nat→Prop} (hc:U.heap[g]?=some (.cells cs.toArray 29)) (hx:fD T U s cs) (hl:cs.length=14) (hT:T g):aM 14 fD T U [s] (.slice (some ⟨g,0,none⟩) 1 1):=by
 refine ⟨_,1,[cs],rfl,by simp,by unfold maxLen;omega,lH.nil.snoc hl hx,fun _=>⟨g,0,rfl,hT,fun j ds hj i u hu=>?_⟩⟩
 match j,hj with
 |
  0,hj =>
  simp only[List.nil_append,List.getElem?_cons_zero,abf] at hj
  subst hj
  rw[Nat.zero_mul,Nat.zero_add,aB _ _ _ _ _ _ hc]
  rw[← List.getElem?_toArray] at hu
  exact hu
theorem fD.on {S:Nat→Prop} {w w':World} {s:St} {cs:List Value} (h:fD S w s cs) (hb:Below w.heap.size w w'):fD (fun _=>True) w' s cs:=h.to (R:=fun _=>False) (ak.aA hb) (fun b hS _=>⟨id,trivial⟩)
theorem vU (S:Nat→Prop) (s:St) (cs:List Value) (w:World) (hT:iL w) (hR:vZ s) (hx:fD S w s cs) :
  Calls Tryz.prog 108 #[.agg cs.toArray] w fun e w'=>e = .returned (.bool (decide (s.k=1)&&aQ s))∧Below w.heap.size w w':=by
 have Ob:=hx
 obtain⟨a1,a2,a3,a4,a5,a6,a7,a8,n1,n2,n3,n4,n5,n6,n7,n8,c1,c2,c3,c4,c5,c6,c7,c8,rfl,_⟩:=hx
 obtain⟨W,hW,hbW,aJ,hcW⟩:=aK w (.cells #[.int .i64 s.k,.string (aj s.tb),.slice a1 n1 c1,.string (aj s.aD),.slice a2 n2 c2,.slice a3 n3 c3,.slice a4 n4 c4,.string (aj s.jn),.slice a5 n5 c5,.slice a6 n6 c6,.slice a7 n7 c7,.slice a8 n8 c8,.bool s.desc,.int .i64 s.lim] 29)
 have k0:=au hcW
 have HB:=hid hbW
 by_cases hk:s.k=1
 ·obtain⟨U,hU,bB,jc,eU⟩:=aK W (.cells #[.int .i64 s.k,.string (aj s.tb),.slice a1 n1 c1,.string (aj s.aD),.slice a2 n2 c2,.slice a3 n3 c3,.slice a4 n4 c4,.string (aj s.jn),.slice a5 n5 c5,.slice a6 n6 c6,.slice a7 n7 c7,.slice a8 n8 c8,.bool s.desc,.int .i64 s.lim] 29)
  have jm:=hbW.trans (bB.mono hbW.size)
  have hsl:=QL (T:=fun _=>True) (g:=W.heap.size) eU (Ob.on jm) rfl trivial
  have HP:=hid (uG (fun _=>True) [s] _ U (hT.on jm) (fun x hx=>by rw[List.mem_singleton.1 hx];exact hk) (fun x hx=>by rw[List.mem_singleton.1 hx];exact hR) hsl (fun _ x hx hr e he=>by
   rw[List.mem_singleton.1 hx] at hr he
   rw[Ga hk hr] at he
   cases he))
  have bS:=hid jm
  have hcode:=Ei hk
  obtain⟨R,hRA⟩:∃R,qg [s]=R:=⟨_,rfl⟩
  rw[hRA] at HP hcode
  obtain⟨r1,r2⟩:=R
  dsimp only at HP hcode
  rw[← hcode,hk,aar rfl,aaA]
  rw[hk] at hW hU k0
  have he:(r2==0)=decide (r2=0):=by by_cases h:r2=0<;>simp[h]
  rw[← he]
  clear Ob hbW hcW bB eU jm hsl hcode hRA hR hT
  go_enter Tryz.func108,Tryz.ntmps108
  go_wp2_with fail
  try rw[hW]
  try rw[hU]
  refine HP.out.mono ?_
  rintro e w1 ⟨rfl,hb1⟩
  have HB1:=htr bS hb1
  clear hb1 HP
  go_wp2
  go_ret
  exact⟨rfl,HB1.out⟩
 ·have hk':(s.k != 1)=true:=by simpa using hk
  rw[aaj hk,aaz]
  clear Ob hbW hcW hT hR
  generalize s.k=K at *
  go_enter Tryz.func108,Tryz.ntmps108
  go_wp2
  go_ret
  exact⟨rfl,HB.out⟩
theorem ko {s:St} (hk:s.k=1) (h:aQ s=true) (p:Int):ShT ⟨s.tb,s.aC,p⟩∧s.aC≠[]:=by
 obtain⟨h1,h2,h3⟩:=lM hk h
 refine ⟨⟨jd h3,(bG h1).2,fun c hc=>?_⟩,fun e=>?_⟩
 ·have:=aP h1 c hc
  unfold iV at this
  rw[aaC] at this
  exact jd this.1
 ·have:=(bG h1).1
  rw[e] at this
  simp at this
theorem Du {s:St} (h:(decide (s.k=1)&&aQ s)=false):bU s=(GN,4):=by
 unfold bU
 rw[if_neg]
 rintro⟨h1,h2⟩
 rw[h2,aar h1] at h
 cases h
theorem Nw {s:St} (h1:s.k=1) (h2:aQ s=true) {j:Nat} (hj:j<s.aC.length) (h:bF s.aC (s.aC[j]'hj).nm≠j):bU s=(GN,13):=by
 unfold bU
 rw[if_pos ⟨h1,h2⟩,if_neg]
 intro hn
 exact h (yJ hn hj)
theorem vB (l:List Co) (p:Nat) (x:Co) (h:l[p]?=some x):fO (keyed l p)=((fO l).set (p*4+2) (.bool true)).set (p*4+3) (.bool true):=by
 have hlen:(fO (keyed l p)).length=(((fO l).set (p*4+2) (.bool true)).set (p*4+3) (.bool true)).length:=by
  rw[jO,jh,List.length_set,List.length_set,jO]
 have hp:p<l.length:=(aam.1 h).1
 apply List.ext_getElem?
 intro j
 by_cases hj:j<l.length*4
 ·have hq:j / 4<l.length:=by omega
  obtain⟨y,hy⟩:∃y,l[j / 4]?=some y:=⟨_,aaf hq⟩
  have ej:j=j / 4*4+j % 4:=by omega
  have hm:j % 4<4:=Nat.mod_lt _ (by decide)
  have hkey:=DJ l p (j / 4)
  obtain⟨z,hz⟩:∃z,(keyed l p)[j / 4]?=some z:=⟨_,aaf (by rw[jh];exact hq)⟩
  obtain⟨u,hu⟩:∃u,(mH z)[j % 4]?=some u:=⟨_,aaf (by exact hm)⟩
  obtain⟨v,hv⟩:∃v,(mH y)[j % 4]?=some v:=⟨_,aaf (by exact hm)⟩
  have e1:=yu (keyed l p) (j / 4) (j % 4) z u hz hu
  have e2:=yu l (j / 4) (j % 4) y v hy hv
  rw[← ej] at e1 e2
  rw[e1,List.getElem?_set,List.getElem?_set,List.length_set,jO,e2]
  rw[hz,hy] at hkey
  by_cases hpj:p=j / 4
  ·rw[if_pos hpj] at hkey
   simp only[Option.map_some,abf] at hkey
   subst hkey
   obtain⟨b,hb⟩:∃b,j % 4=b:=⟨_,rfl⟩
   rw[hb] at hu hv ej
   match b,(show b<4 by omega) with
   |
    0,_ =>
    rw[if_neg (by omega),if_neg (by omega),← hu,← hv];rfl
   |
    1,_ =>
    rw[if_neg (by omega),if_neg (by omega),← hu,← hv];rfl
   |
    2,_ =>
    rw[if_neg (by omega),if_pos (by omega),if_pos (by omega),← hu];rfl
   |
    3,_ =>
    rw[if_pos (by omega),if_pos (by omega),← hu];rfl
  ·rw[if_neg hpj] at hkey
   simp only[abf] at hkey
   subst hkey
   rw[hu] at hv
   rw[if_neg (by omega),if_neg (by omega),hv]
 ·rw[List.getElem?_eq_none (by rw[jO,jh];omega),List.getElem?_eq_none (by rw[← hlen,jO,jh];omega)]
structure Uq (l:List Co) (aD tb:List UInt8) (M:Tb × Int):Prop where
 two : ∀(j:Nat) (x:Co),l[j]?=some x→bF l x.nm≠j→M=(GN,13)
 fin:(∀(j:Nat) (x:Co),l[j]?=some x→bF l x.nm=j)→M=if bF l aD<l.length then (⟨tb,keyed l (bF l aD),(bF l aD:Nat)⟩,0) else (GN,12)
theorem Ru {s:St} (hk:s.k=1) (hr:aQ s=true):Uq s.aC s.aD s.tb (bU s):=by
 refine ⟨fun j x hx h=>?_,fun h=>?_⟩
 ·obtain⟨hj,e⟩:=aam.1 hx
  subst e
  exact Nw hk hr hj h
 ·unfold bU
  rw[if_pos ⟨hk,hr⟩,if_pos (yH (fun j hj=>h j _ (aaf hj)))]
theorem EK (S:Nat→Prop) (s:St) (cs:List Value) (w:World) (hT:iL w) (hR:vZ s) (hx:fD S w s cs) :
  Calls Tryz.prog 51 #[.agg cs.toArray] w fun e w'=>∃ds:List Value,e = .returned (.tuple #[.agg ds.toArray,.int .i64 (bU s).2])∧Mf w.heap.size w' (bU s).1 ds∧Below w.heap.size w w':=by
 have Ob:=hx
 obtain⟨a1,a2,a3,a4,a5,a6,a7,a8,n1,n2,n3,n4,n5,n6,n7,n8,c1,c2,c3,c4,c5,c6,c7,c8,rfl,hsl,_⟩:=hx
 obtain⟨W,hW,hbW,aJ,hcA,hcB⟩:=two w (.cells #[.int .i64 s.k,.string (aj s.tb),.slice a1 n1 c1,.string (aj s.aD),.slice a2 n2 c2,.slice a3 n3 c3,.slice a4 n4 c4,.string (aj s.jn),.slice a5 n5 c5,.slice a6 n6 c6,.slice a7 n7 c7,.slice a8 n8 c8,.bool s.desc,.int .i64 s.lim] 29) (.cells #[.string ⟨#[]⟩,.slice none 0 0,.int .i64 0] 42)
 have k0:=au hcA
 have Km:=hid (vU (fun _=>True) s _ W (hT.on hbW) hR (Ob.on hbW))
 have HB:=hid hbW
 have dw:=hid hcA
 have nP:=hid hcB
 have hmb:(decide (s.k=1)&&aQ s)=false→bU s=(GN,4):=Du
 have hmk:(decide (s.k=1)&&aQ s)=true→Uq s.aC s.aD s.tb (bU s)∧(∀p,ShT ⟨s.tb,s.aC,p⟩)∧s.aC≠[]:=fun h=>by
  simp only[aaC,aaI] at h
  exact⟨Ru h.1 h.2,fun p=>(ko h.1 h.2 p).1,(ko h.1 h.2 0).2⟩
 clear Ob hT hR hbW hcA hcB
 generalize bU s=M at hmb hmk ⊢
 generalize (decide (s.k=1)&&aQ s)=ok at Km hmb hmk
 obtain⟨k,tb,l,aD,rows,sets,items,jn,on,wh,gr,od,desc,lim⟩:=s
 dsimp only at hW k0 Km dw hmb hmk hsl
 cases ok with
 |
  false =>
  obtain rfl:=hmb rfl
  clear hmb hmk hsl
  go_enter Tryz.func51,Tryz.ntmps51
  go_wp2_with fail
  try rw[hW]
  refine Km.out.mono ?_
  rintro e w1 ⟨rfl,hb1⟩
  have hs1:=hb1.size
  have k1:=aH ((hb1.block (w.heap.size+1) (by omega)).trans nP.out)
  have jJ:=hid (aN k1.1)
  have iY:=hid (aN k1.2.1)
  have HS2:=hid (aN k1.2.2.1)
  have HB1:=htr HB hb1
  clear hb1 Km
  go_wp2
  rw[jJ.out,iY.out,HS2.out]
  exact bodyPost_ret (v:=.tuple #[.agg #[.string ⟨#[]⟩,.slice none 0 0,.int .i64 0],.int .i64 4]) (by simp[results,Tryz.results51,go_sem,k1]) rfl ⟨_,rfl,j3 _ _ HB1.out.size,HB1.out⟩
 |
  true =>
  obtain⟨hmk,hsh,hne⟩:=hmk rfl
  have h8:=(hsh 0).2.1
  dsimp only at h8
  obtain⟨b,off,c,hv,hlc,hcm,hS,Tn,hel⟩:=iX hsl hne
  simp only[aah] at hv
  obtain⟨rfl,rfl,rfl⟩:=hv
  unfold maxLen at hcm
  have vP:=hid hel
  have HSL:=hid hsl
  have HSH:=hid hsh
  have Pj:=hid hne
  have FX:=hid hmk
  clear hmb hmk hsl hsh hel hne
  go_enter Tryz.func51,Tryz.ntmps51
  go_wp2_with fail
  try rw[hW]
  refine Km.out.mono ?_
  rintro e w1 ⟨rfl,hb1⟩
  have hs1:=hb1.size
  have hA1:=(hb1.block w.heap.size (by omega)).trans dw.out
  have hZ1:=(hb1.block (w.heap.size+1) (by omega)).trans nP.out
  have k1:=au hA1
  have HA1:=hid hA1
  have HZ1:=hid hZ1
  have HB1:=htr HB hb1
  have hz1:w.heap.size+1<w1.heap.size:=by omega
  clear hb1 Km hW k0 dw nP HB aJ hA1 hZ1
  go_wp2_with fail
  go_loopw [15] (fun i wr=>∃j:Nat,j≤l.length∧i = .int .i64 j∧Below w1.heap.size w1 wr∧Hid (∀(m:Nat) (x:Co),m<j→l[m]?=some x→bF l x.nm=m)) (fun i _=>l.length-(intOf i).toNat)
  case atStart=>exact⟨0,aaV _,rfl,Below.refl _ _,hid (fun m x h=>absurd h (Nat.not_lt_zero _))⟩
  case round =>
   obtain⟨j,hj,rfl,hbr,OT⟩:=hrel
   have hsr:=hbr.size
   have Ao:Below w.heap.size w wr:=HB1.out.trans (hbr.mono HB1.out.size)
   have QK:=(hbr.block (w.heap.size+1) (by omega)).trans HZ1.out
   have hAr:=(hbr.block w.heap.size (by omega)).trans HA1.out
   have kr:=au hAr
   have kz:=aH QK
   by_cases hlt:j<l.length
   ·obtain⟨x,hx⟩:∃x,l[j]?=some x:=⟨_,aaf hlt⟩
    have hlt':(j:Int)<(l.length:Int):=by omega
    have hq:=vP.out wr (Ao.mono (aaF _)) j x hx
    have q0:=hq 0 _ rfl
    have q1:=hq 1 _ rfl
    have q2:=hq 2 _ rfl
    have q3:=hq 3 _ rfl
    rw[aa2] at q0
    obtain⟨U,hU,bB,jc,eU⟩:=aK wr (.cells #[.string (aj x.nm),.int .i64 x.k,.bool x.nn,.bool x.uq] 60)
    have jm:Below w.heap.size w U:=Ao.trans (bB.mono Ao.size)
    have KT:=hid (zP S l (.slice (some ⟨b,off,none⟩) l.length c1) x.nm U (HSL.out.to (by decide) (R:=fun _=>False) (ak.aA jm) (fun b hb _=>⟨id,hb⟩) (fun _ _ e=>e)) Pj.out)
    have hix:=su (l:=l) (nm:=x.nm) (aam.1 hx).1 (by rw[(aam.1 hx).2])
    have hpc:gG l x.nm=(bF l x.nm:Nat):=by unfold gG;rw[if_pos (by omega)]
    rw[hpc] at KT
    have Nq:Hid (bF l x.nm≠j→M=(GN,13)):=hid (FX.out.two j x hx)
    have RU:Hid (bF l x.nm=j→∀(m:Nat) (y:Co),m<j+1→l[m]?=some y→bF l y.nm=m):=hid (fun e m y hm hy=>by
     rcases Nat.lt_or_ge m j with h1 | h1
     ·exact OT.out m y h1 hy
     ·obtain rfl:m=j:=by omega
      rw[hx] at hy
      injection hy with hy
      rw[← hy]
      exact e)
    have kU:=uz eU
    have kUA:=au ((bB.block w.heap.size (by omega)).trans hAr)
    have bS:=hid jm
    have acs:=hid (hbr.trans (bB.mono hbr.size))
    have KW:=hid ((bB.block (w.heap.size+1) (by omega)).trans QK)
    clear hpc hq hx OT hbr Ao QK hAr bB eU jm kz
    generalize bF l x.nm=q at KT Nq RU hix
    go_wp2_with fail
    try rw[hU]
    refine KT.out.mono ?_
    rintro e w2 ⟨rfl,hb2⟩
    have hs2:=hb2.size
    have hZ2:=(hb2.block (w.heap.size+1) (by omega)).trans KW.out
    have k2:=aH hZ2
    have jJ:=hid (aN k2.1)
    have iY:=hid (aN k2.2.1)
    have HS2:=hid (aN k2.2.2.1)
    have HB2:=htr bS hb2
    have Un:=htr acs hb2
    clear hb2 hZ2 KT
    by_cases hqj:q=j
    ·have ac0:((q:Int) != (j:Int))=false:=by rw[hqj];simp
     have aaS:=hid (RU.out hqj)
     clear hqj jJ iY HS2
     go_wp2_with fail
     go_roundw
     case rel=>exact⟨j+1,by omega,by go_num,Un.out,aaS⟩
     case measure=>simp[intOf];omega
    ·have ac0:((q:Int) != (j:Int))=true:=by simp;omega
     obtain rfl:=Nq.out hqj
     clear hqj
     go_wp2
     rw[jJ.out,iY.out,HS2.out]
     exact bodyPost_ret (v:=.tuple #[.agg #[.string ⟨#[]⟩,.slice none 0 0,.int .i64 0],.int .i64 13]) (by simp[results,Tryz.results51,go_sem,k2]) rfl ⟨_,rfl,j3 _ _ HB2.out.size,HB2.out⟩
   ·have hlt' : ¬(j:Int)<(l.length:Int):=by omega
    have hM:=FX.out.fin (fun m x hx=>OT.out m x (by have:=(aam.1 hx).1;omega) hx)
    have hsl:=HSL.out.to (T:=S) (by decide) (R:=fun _=>False) (ak.aA Ao) (fun b hb _=>⟨id,hb⟩) (fun _ _ e=>e)
    have KT:=hid (zP S l (.slice (some ⟨b,off,none⟩) l.length c1) aD wr hsl Pj.out)
    have acr:=hid hsl
    have yE:=hid QK
    have Fq:=hid hAr
    have nZ:=hid Ao
    by_cases hp:bF l aD<l.length
    ·have hpc:gG l aD=(bF l aD:Nat):=by unfold gG;rw[if_pos hp]
     rw[hpc] at KT
     rw[if_pos hp] at hM
     generalize bF l aD=p at KT hM hp
     obtain⟨x,hx⟩:∃x,l[p]?=some x:=⟨_,aaf hp⟩
     have HX:=hid hx
     have hp' : ¬(p:Int)<0:=by omega
     have hp'':(p:Int)<(l.length:Int):=by omega
     subst hM
     clear hpc hx OT hbr QK hAr Ao hsl kz
     go_wp2_with fail
     refine KT.out.mono ?_
     rintro e w2 ⟨rfl,hb2⟩
     have hs2:=hb2.size
     have hA2:=(hb2.block w.heap.size (by omega)).trans Fq.out
     have k2:=au hA2
     have Oq:=hid (rE S ⟨tb,l,(p:Int)⟩ _ w2 ⟨_,_,_,rfl,acr.out.to (T:=S) (by decide) (R:=fun _=>False) (ak.aA hb2) (fun b hb _=>⟨id,hb⟩) (fun _ _ e=>e)⟩ (HSH.out p) Pj.out)
     have HB2:=htr nZ hb2
     have HZ2:=hid ((hb2.block (w.heap.size+1) (by omega)).trans yE.out)
     clear hb2 KT hA2
     go_wp2_with fail
     refine Oq.out.mono ?_
     rintro e w3 ⟨ds,rfl,⟨aa,nn,cc,rfl,hown⟩,hb3⟩
     dsimp only at hown
     obtain⟨g,cg,Wm,hg1,hg2,abv,hgc⟩:=mq hown Pj.out
     simp only[aah] at Wm
     obtain⟨rfl,rfl,rfl⟩:=Wm
     have hs3:=hb3.size
     obtain⟨V,hV,mU,K4,wH⟩:=aK w3 (.cells #[.string (aj tb),.slice (some ⟨g,0,none⟩) l.length cc,.int .i64 p] 42)
     have Rw:=ak.row (ak.aA (S:=fun _=>False) mU) hown (fun _ _=>id)
     have kV:=aH wH
     have HCV:=hid wH
     have HB3:=hid ((HB2.out.trans (hb3.mono HB2.out.size)).trans (mU.mono (HB2.out.trans (hb3.mono HB2.out.size)).size))
     have HZ3:=hid ((mU.block (w.heap.size+1) (by omega)).trans ((hb3.block (w.heap.size+1) (by omega)).trans HZ2.out))
     have hq:=(hgc V mU).1 p x HX.out
     have q2:=hq 2 _ rfl
     have q3:=hq 3 _ rfl
     have qf:=(hgc V mU).2
     obtain⟨X,hX⟩:∃X,V.setCell ⟨g,p*4+2,none⟩ (.bool true)=X:=⟨_,rfl⟩
     obtain⟨Y,hY⟩:∃Y,X.setCell ⟨g,p*4+3,none⟩ (.bool true)=Y:=⟨_,rfl⟩
     have MO:=Rw.stored (p*4+2) (.bool true)
     rw[hX] at MO
     have Q9:=MO.1.stored (p*4+3) (.bool true)
     rw[hY] at Q9
     have Fg:ak (fun k=>k=g) V X:=ak.gU MO.2 (fun k e=>by injection e with e;exact e.symm)
     have NH:ak (fun k=>k=g) X Y:=ak.gU Q9.2 (fun k e=>by injection e with e;exact e.symm)
     have ZR:=Fg.size
     have kL:=NH.size
     have vC:=(Fg.block w3.heap.size (by omega) (by omega)).trans wH
     have dJ:=(NH.block w3.heap.size (by omega) (by omega)).trans vC
     have kX:=aH vC
     have kY:=aH dJ
     have X5:=(NH.block (w.heap.size+1) (by omega) (by omega)).trans ((Fg.block (w.heap.size+1) (by omega) (by omega)).trans HZ3.out)
     have kZ:=aH X5
     have HOY:=hid Q9.1
     have xf : ∀i,X.frozen? ⟨g,i,none⟩=false:=fun i=>MO.1.frozenAt i
     have x3:X.cell? ⟨g,p*4+3,none⟩=some (.bool x.uq):=by rw[← hX,World.cell?_setCell_other _ _ _ _ (by simp)];exact q3
     have bZ:Hid (Below w.heap.size w Y):=hid (HB3.out.trans ((Fg.andThen NH (fun i hi=>.inl hi)).below (fun i hi=>by omega) HB3.out.size))
     clear hb3 mU wH hown Rw hq hgc MO Q9 Fg NH vC dJ X5 Oq k2
     go_wp2
     have hSp:ak (fun k=>k=w.heap.size+1) Y (((Y.setCell ⟨w.heap.size+1,0,none⟩ (.string (aj tb))).setCell ⟨w.heap.size+1,1,none⟩ (.slice (some ⟨g,0,none⟩) l.length cc)).setCell ⟨w.heap.size+1,2,none⟩ (.int .i64 p)):=(((ak.refl (fun k=>k=w.heap.size+1) Y).own _ _).own _ _).own _ _
     have hB:Below w.heap.size w (((Y.setCell ⟨w.heap.size+1,0,none⟩ (.string (aj tb))).setCell ⟨w.heap.size+1,1,none⟩ (.slice (some ⟨g,0,none⟩) l.length cc)).setCell ⟨w.heap.size+1,2,none⟩ (.int .i64 p)):=bZ.out.trans (hSp.below (fun i hi=>by omega) bZ.out.size)
     refine bodyPost_ret (v:=.tuple #[.agg #[.string (aj tb),.slice (some ⟨g,0,none⟩) l.length cc,.int .i64 p],.int .i64 0]) (by simp[results,Tryz.results51,go_sem,kZ]) rfl ⟨_,rfl,⟨_,_,_,rfl,?_⟩,hB⟩
     dsimp only
     rw[jh,vB l p x HX.out]
     exact gM (hSp.row HOY.out (fun b hb=>by
      have:b=g:=by simpa [Value.ownBlock] using hb.symm
      omega)) (fun b hb=>by
      have:b=g:=by simpa [Value.ownBlock] using hb.symm
      omega)
    ·have hpc:gG l aD = -1:=by unfold gG;rw[if_neg hp]
     rw[hpc] at KT
     rw[if_neg hp] at hM
     subst hM
     clear hpc hp OT hbr QK hAr Ao hsl kz
     go_wp2_with fail
     refine KT.out.mono ?_
     rintro e w2 ⟨rfl,hb2⟩
     have hs2:=hb2.size
     have k2:=aH ((hb2.block (w.heap.size+1) (by omega)).trans yE.out)
     have jJ:=hid (aN k2.1)
     have iY:=hid (aN k2.2.1)
     have HS2:=hid (aN k2.2.2.1)
     have HB2:=htr nZ hb2
     clear hb2 KT
     go_wp2
     rw[jJ.out,iY.out,HS2.out]
     exact bodyPost_ret (v:=.tuple #[.agg #[.string ⟨#[]⟩,.slice none 0 0,.int .i64 0],.int .i64 12]) (by simp[results,Tryz.results51,go_sem,k2]) rfl ⟨_,rfl,j3 _ _ HB2.out.size,HB2.out⟩
end Go.Proofs.YtfeglkleoijlaaaGreatDoor
