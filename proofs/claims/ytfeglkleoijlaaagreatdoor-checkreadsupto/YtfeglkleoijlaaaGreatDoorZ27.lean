/- Packed for the hand-in: CLays CTab CClone -/
import Derived.Shelf.SlicesE.Clone
import Derived.Shelf.SlicesQ.IndexFunc
import Derived.Shelf.SlicesQ.Equal
import Derived.Test.YtfeglkleoijlaaaGreatDoorChecked
import Derived.Test.YtfeglkleoijlaaaGreatDoorZ26
namespace Go.Proofs.YtfeglkleoijlaaaGreatDoor
open Go.Shelf
set_option linter.unusedVariables false
set_option maxRecDepth 100000
set_option maxHeartbeats 8000000
def Ic:Ren:=⟨fun x=>if x=41 then 81 else x,fun x=>if x=4 then 4 else if x=22 then 23 else if x=23 then 60 else x,fun x=>x⟩
theorem Ea:SlLaysE0.n41 Tryz.prog Ic where
 mixed:=by kernel_rfl
 f41:=⟨"slices.Clone[[]vestry/api.Column,vestry/api.Column]", by decide,by kernel_rfl⟩
 t4:=by kernel_rfl
 a4:=fun w=>by kernel_rfl
 z4:=fun w=>by kernel_rfl
 v4:=fun w=>by kernel_rfl
 t22:=by kernel_rfl
 a22:=fun w=>by kernel_rfl
 z22:=fun w=>by kernel_rfl
 v22:=fun w=>by kernel_rfl
def Ir:Ren:=⟨fun x=>if x=6 then 110 else x,fun x=>if x=0 then 0 else if x=3 then 3 else if x=4 then 4 else if x=22 then 23 else if x=23 then 60 else if x=25 then 139 else x,fun x=>x⟩
theorem Cr:SlLaysH0.n6 Tryz.prog Ir where
 mixed:=by kernel_rfl
 f6:=⟨"slices.IndexFunc[[]vestry/api.Column,vestry/api.Column]", by decide,by kernel_rfl⟩
 t0:=by kernel_rfl
 a0:=fun w=>by kernel_rfl
 z0:=fun w=>by kernel_rfl
 v0:=fun w=>by kernel_rfl
 t3:=by kernel_rfl
 a3:=fun w=>by kernel_rfl
 z3:=fun w=>by kernel_rfl
 v3:=fun w=>by kernel_rfl
 t4:=by kernel_rfl
 a4:=fun w=>by kernel_rfl
 z4:=fun w=>by kernel_rfl
 v4:=fun w=>by kernel_rfl
 t22:=by kernel_rfl
 a22:=fun w=>by kernel_rfl
 z22:=fun w=>by kernel_rfl
 v22:=fun w=>by kernel_rfl
 t25:=by kernel_rfl
 a25:=fun w=>by kernel_rfl
 z25:=fun w=>by kernel_rfl
 v25:=fun w=>by kernel_rfl
def IQ:Ren:=⟨fun x=>if x=8 then 79 else x,fun x=>if x=0 then 0 else if x=3 then 3 else if x=4 then 4 else if x=22 then 23 else if x=24 then 60 else x,fun x=>x⟩
theorem GZ:SlLaysQ.n8 Tryz.prog IQ where
 mixed:=by kernel_rfl
 f8:=⟨"slices.Equal[[]vestry/api.Column,vestry/api.Column]", by decide,by kernel_rfl⟩
 t0:=by kernel_rfl
 a0:=fun w=>by kernel_rfl
 z0:=fun w=>by kernel_rfl
 v0:=fun w=>by kernel_rfl
 t3:=by kernel_rfl
 a3:=fun w=>by kernel_rfl
 z3:=fun w=>by kernel_rfl
 v3:=fun w=>by kernel_rfl
 t4:=by kernel_rfl
 a4:=fun w=>by kernel_rfl
 z4:=fun w=>by kernel_rfl
 v4:=fun w=>by kernel_rfl
 t22:=by kernel_rfl
 a22:=fun w=>by kernel_rfl
 z22:=fun w=>by kernel_rfl
 v22:=fun w=>by kernel_rfl
end Go.Proofs.YtfeglkleoijlaaaGreatDoor
namespace Go.Proofs.YtfeglkleoijlaaaGreatDoor
open Go.RowKit Go.Shelf Go.Lib
set_option linter.unusedSimpArgs false
set_option linter.unusedVariables false
set_option maxRecDepth 20000
set_option maxHeartbeats 8000000
instance inhCoC:Inhabited Co:=⟨⟨[],0,false,false⟩⟩
def iC (c:Co):List Value:=[.string (aj c.nm),.int .i64 c.k,.bool c.nn,.bool c.uq]
def dx (l:List Co):List Value:=(l.map iC).flatten
theorem fT (l:List Co):(dx l).length=l.length*4:=by
 unfold dx
 induction l with
 | nil=>rfl
 | cons c l ih=>rw[List.map_cons,List.flatten_cons,List.length_append,ih,List.length_cons,Nat.succ_mul,Nat.add_comm];rfl
theorem Ey (c:Co):∀u∈iC c,u.oneCell'=true:=fun u hu=>by
 simp only[iC,List.mem_cons,List.not_mem_nil,or_false] at hu
 rcases hu with rfl | rfl | rfl | rfl<;>rfl
theorem sN (l:List Co):∀u∈dx l,u.oneCell'=true:=fun u hu=>by
 obtain⟨cs,hcs,hu⟩:=List.mem_flatten.1 hu
 obtain⟨c,_,rfl⟩:=List.mem_map.1 hcs
 exact Ey c u hu
theorem l7 (S:Nat→Prop) (w:World) (l:List Co):gJ 4 gH S w l (l.map iC):=⟨by simp,fun j x cs hx hc=>by
 rw[List.getElem?_map,hx,Option.map_some,Option.some.injEq] at hc
 subst hc
 exact⟨rfl,rfl⟩⟩
def dK (S:Nat→Prop) (w:World) (t:Tb) (cs:List Value):Prop:=∃(aa:Option Addr) (nn cc:Nat),cs=[.string (aj t.nm),.slice aa nn cc,.int .i64 t.pr]∧aQ 4 gH S w t.cols (.slice aa nn cc)
def yR (base:Nat) (w:World) (t:Tb) (cs:List Value):Prop:=∃(aa:Option Addr) (nn cc:Nat),cs=[.string (aj t.nm),.slice aa nn cc,.int .i64 t.pr]∧w.ownsRow base 60 4 (.slice aa nn cc) t.cols.length (dx t.cols)
theorem rF {base:Nat} {w:World} {l:List Co} {v:Value} (h:w.ownsRow base 60 4 v l.length (dx l)):aQ 4 gH (fun b=>base≤b) w l v :=
 aQ.dW (by decide) h (l7 _ w l) (fun b hb=>(h.lt b hb).1)
theorem yR.e {base:Nat} {w:World} {t:Tb} {cs:List Value} (h:yR base w t cs):dK (fun b=>base≤b) w t cs:=by
 obtain⟨aa,nn,cc,h1,h2⟩:=h
 exact⟨aa,nn,cc,h1,rF h2⟩
theorem dK.to {S R T:Nat→Prop} {w w':World} {t:Tb} {cs:List Value} (h:dK S w t cs) (hk:aA R w w') (hS : ∀b,S b→b<w.heap.size→¬R b∧T b):dK T w' t cs:=by
 obtain⟨aa,nn,cc,h1,h2⟩:=h
 exact⟨aa,nn,cc,h1,h2.to (by decide) hk hS (fun _ _ e=>e)⟩
theorem dK.on {S:Nat→Prop} {w w':World} {t:Tb} {cs:List Value} (h:dK S w t cs) (hb:Below w.heap.size w w'):dK S w' t cs:=h.to (R:=fun _=>False) (aA.aC hb) (fun b hS _=>⟨id,hS⟩)
theorem yR.on {base:Nat} {w w':World} {t:Tb} {cs:List Value} (h:yR base w t cs) (hb:Below w.heap.size w w'):yR base w' t cs:=by
 obtain⟨aa,nn,cc,h1,h2⟩:=h
 exact⟨aa,nn,cc,h1,aA.row (aA.aC (S:=fun _=>False) hb) h2 (fun _ _=>id)⟩
theorem iI (base:Nat) (w:World) (hb:base≤w.heap.size):yR base w yH [.string ⟨#[]⟩,.slice none 0 0,.int .i64 0]:=⟨none,0,0,rfl,World.ownsRow_nil _ _ _ _⟩
theorem fq {S:Nat→Prop} {w:World} {l:List Co} {v:Value} (h:aQ 4 gH S w l v) (hne:l≠[]):∃(b off c:Nat),v = .slice (some ⟨b,off,none⟩) l.length c∧l.length≤c∧c≤maxLen∧S b∧b<w.heap.size ∧
  ∀Z,Below w.heap.size w Z→∀(j:Nat) (x:Co),l[j]?=some x→∀(i:Nat) (u:Value),(iC x)[i]?=some u→Z.cell? ⟨b,off+j*4+i,none⟩=some u:=by
 obtain⟨a,c,css,h1,h2,h3,h4,h5⟩:=h
 obtain⟨b,off,rfl,hS,hc⟩:=h5 hne
 have hel : ∀(j:Nat) (x:Co),l[j]?=some x→css[j]?=some (iC x):=fun j x hx=>by
  have hj:j<css.length:=by rw[h4.1];exact (List.getElem?_eq_some_iff.1 hx).1
  rw[List.getElem?_eq_getElem hj,(h4.2 j x _ hx (List.getElem?_eq_getElem hj)).2]
  rfl
 have hlt:b<w.heap.size:=by
  cases l with
  | nil=>exact absurd rfl hne
  | cons x l=>exact World.block_lt_of_cell? w _ (hc 0 (iC x) (hel 0 x rfl) 0 _ rfl)
 exact⟨b,off,c,h1,h2,h3,hS,hlt,fun Z hZ j x hx i u hu=>(hZ.cell (p:=⟨b,_,none⟩) hlt).trans (hc j (iC x) (hel j x hx) i u hu)⟩
theorem yT (d:Nat) (s s':ByteArray) (k k':Int) (x y x' y':Bool) (w:World):(Op.equalIn (d+1+1) 60 (.agg #[.string s,.int .i64 k,.bool x,.bool y]) (.agg #[.string s',.int .i64 k',.bool x',.bool y'])).run Tryz.prog w = .ok (s.toList==s'.toList&&(k==k'&&(x==x'&&y==y'))) w:=by
 rw[run_equalIn_struct (P:=Tryz.prog) w (d+1) 60 _ _ Tryz.Ad Tryz.Ct]
 exact FU _ _ _ (.string s) (.int .i64 k) (.bool x) (.bool y) (.string s') (.int .i64 k') (.bool x') (.bool y') _ _ _ _ w (by simp[Go.part,go_sem]) (by simp[Go.part,go_sem]) (by simp[Go.part,go_sem]) (by simp[Go.part,go_sem]) (by simp[Go.part,go_sem]) (by simp[Go.part,go_sem]) (by simp[Go.part,go_sem]) (by simp[Go.part,go_sem])
  (run_equalIn_string (P:=Tryz.prog) w d 9 s s' Tryz.underlying9) (run_equalIn_int (P:=Tryz.prog) w d 3 .i64 .i64 k k' Tryz.underlying3) (run_equalIn_bool (P:=Tryz.prog) w d 4 x x' Tryz.underlying4) (run_equalIn_bool (P:=Tryz.prog) w d 4 y y' Tryz.underlying4)
theorem A9 (a b:Co):((aj a.nm).toList==(aj b.nm).toList&&(a.k==b.k&&(a.nn==b.nn&&a.uq==b.uq)))=mU a b:=by
 obtain⟨a1,a2,a3,a4⟩:=a
 obtain⟨b1,b2,b3,b4⟩:=b
 simp only[bg,mU]
 by_cases h1:a1=b1<;>by_cases h2:a2=b2<;>by_cases h3:a3=b3<;>by_cases h4:a4=b4<;>simp[h1,h2,h3,h4]
theorem zL (a b:Co) (w:World):(binOp .neq 60 (.agg #[.string (aj a.nm),.int .i64 a.k,.bool a.nn,.bool a.uq]) (.agg #[.string (aj b.nm),.int .i64 b.k,.bool b.nn,.bool b.uq])).run Tryz.prog w = .ok (.bool (!mU a b)) w:=by
 rw[run_neq_struct,show (10000:Nat)=9998+1+1 from rfl,yT,A9]
 rfl
theorem EC:NeqAt Tryz.prog 60 (fun x=>.agg (iC x).toArray) mU:=⟨fun x y w=>zL x y w,GuardAt.agg _ Tryz.oW⟩
def dJ (l:List Co) (nm:List UInt8):Int:=if bO l nm<l.length then (bO l nm:Nat) else -1
theorem nQ (l:List Co) (nm:List UInt8):Lib.idxBy (fun _ y=>decide (y.nm=nm)) (l.take l.length) default=dJ l nm:=by
 unfold dJ
 by_cases h:bO l nm<l.length
 ·rw[if_pos h]
  exact Lib.idxBy_hit _ l l.length (bO l nm) default h (Nat.le_refl _) (by
   rw[getElem!_pos l _ h]
   exact decide_eq_true (kC h)) (fun j hj=>by
   rw[getElem!_pos l j (by omega)]
   exact decide_eq_false (lV hj (by omega)))
 ·rw[if_neg h]
  exact Lib.idxBy_miss _ l l.length default (fun j hj=>by
   rw[getElem!_pos l j hj]
   exact decide_eq_false (lV (by omega) hj))
theorem Bb (nm:List UInt8) (B:Nat) (w:World) (hB:B<w.heap.size) (hcell:w.cell? ⟨B,0,none⟩=some (.string (aj nm))) :
  PredBelow Tryz.prog 153 #[.pointer (some ⟨B,0,none⟩)] (fun x=>.agg (iC x).toArray) (fun x=>decide (x.nm=nm)) w:=fun W x hb=>by
 have hc:W.cell? ⟨B,0,none⟩=some (.string (aj nm)):=(hb.cell (p:=⟨B,0,none⟩) hB).trans hcell
 obtain⟨V,hV,hbV,hzV,hcV⟩:=aL W (.cells #[.string (aj x.nm),.int .i64 x.k,.bool x.nn,.bool x.uq] 60)
 have k0:=nG hcV
 have k1:V.cell? ⟨B,0,none⟩=some (.string (aj nm)):=(hbV.cell (p:=⟨B,0,none⟩) (Nat.lt_of_lt_of_le hB hb.size)).trans hc
 have HB:=hid (hb.trans (hbV.mono hb.size))
 have he:((aj x.nm).toList==(aj nm).toList)=decide (x.nm=nm):=by
  rw[bg,bg]
  by_cases h:x.nm=nm<;>simp[h]
 show Calls Tryz.prog 153 #[.agg #[.string (aj x.nm),.int .i64 x.k,.bool x.nn,.bool x.uq],.pointer (some ⟨B,0,none⟩)] W _
 dsimp only
 rw[← he]
 clear hb hbV hcV hc hcell he
 go_enter Tryz.func153,Tryz.ntmps153
 go_wp2_with fail
 try rw[hV]
 go_wp2
 go_ret
 exact⟨rfl,HB.out⟩
theorem rR (S:Nat→Prop) (l:List Co) (v:Value) (nm:List UInt8) (w:World) (h:aQ 4 gH S w l v) (hne:l≠[]) :
  Calls Tryz.prog 109 #[v,.string (aj nm)] w fun e w'=>e = .returned (.int .i64 (dJ l nm))∧Below w.heap.size w w':=by
 obtain⟨b,off,c,rfl,h1,h2,hS,hlt,hel⟩:=fq h hne
 unfold maxLen at h2
 obtain⟨W,hW,hbW,hzW,hcW⟩:=aL w (.cells #[.string (aj nm)] 9)
 have hcell:W.cell? ⟨w.heap.size,0,none⟩=some (.string (aj nm)):=by rw[aD _ _ _ _ _ _ hcW];rfl
 have HC:=hid (AnyQ.slices_IndexFunc Cr 4 Tryz.isAgg60 Tryz.sizeOf60 iC (fun _=>rfl) (fun x=>decide (x.nm=nm)) 153 #[.pointer (some ⟨w.heap.size,0,none⟩)] (enters_of Tryz.func153 (by kernel_rfl) rfl) b off l.length c l W
  (Bb nm w.heap.size W hzW hcell) (Nat.le_refl _) (by omega) (by omega) (fun j hj i u hu=>hel W hbW j l[j]! (by rw[getElem!_pos l j hj];exact List.getElem?_eq_getElem hj) i u hu))
 rw[nQ] at HC
 generalize dJ l nm=r at HC ⊢
 have HB:=hid hbW
 clear hel hcell hcW hbW h
 go_enter Tryz.func109,Tryz.ntmps109
 go_wp2_with fail
 try rw[hW]
 refine HC.out.mono ?_
 rintro e w1 ⟨rfl,hb1⟩
 have HB1:=hid (HB.out.trans (hb1.mono HB.out.size))
 clear hb1
 go_wp2
 go_ret
 exact⟨rfl,HB1.out⟩
def ShT (t:Tb):Prop:=t.nm.length≤16∧t.cols.length≤8∧∀c∈t.cols,c.nm.length≤16
theorem Tryz.zS:(Tryz.prog.info? 60).map (fun i=>(i.zero,i.size,i.bytes))=some (some (.agg #[.string ⟨#[]⟩,.int .i64 0,.bool false,.bool false]),4,32):=by kernel_rfl
theorem aM {w:World} {g i:Nat} {v:Value} (h:w.cell? ⟨g,i,none⟩=some v):w.setCell ⟨g,i,none⟩ v=w:=by
 unfold World.cell? at h
 dsimp only at h
 cases hg:w.heap[g]? with
 | none=>rw[hg] at h;cases h
 |
  some o =>
  rw[hg] at h
  cases o with
  |
   cells c t fr =>
   have hc:c[i]?=some v:=by simpa using h
   have e:c.setIfInBounds i v=c:=by
    apply Array.ext_getElem?
    intro j
    rw[Array.getElem?_setIfInBounds]
    split
    ·rename_i e
     subst e
     split
     ·exact hc.symm
     ·rename_i hlt
      rw[Array.getElem?_eq_none (by omega)]
    ·rfl
   have e2:(w.setCell ⟨g,i,none⟩ v).heap=w.heap:=by
    apply Array.ext_getElem?
    intro j
    show (w.heap.modify g _)[j]?=_
    rw[Array.getElem?_modify]
    split
    ·rename_i e'
     subst e'
     rw[hg]
     simp[e]
    ·rfl
   show ({ w with heap:=(w.setCell ⟨g,i,none⟩ v).heap }:World)=w
   rw[e2]
  | _=>simp at h
theorem ni : ∀(l:List Co) (j:Nat) (u:Value),(dx l)[j]?=some u→∃x,l[j / 4]?=some x∧(iC x)[j % 4]?=some u
 | [],j,u,h=>by simp[dx] at h
 |
  c::l,j,u,h=>by
  have e:dx (c::l)=iC c++dx l:=rfl
  rw[e] at h
  rcases Nat.lt_or_ge j 4 with hj | hj
  ·rw[List.getElem?_append_left (by exact hj)] at h
   exact⟨c,by rw[Nat.div_eq_of_lt hj];rfl,by rw[Nat.mod_eq_of_lt hj];exact h⟩
  ·rw[List.getElem?_append_right (by exact hj)] at h
   obtain⟨x,h1,h2⟩:=ni l (j-4) u h
   have e1:j / 4=(j-4) / 4+1:=by omega
   have e2:j % 4=(j-4) % 4:=by omega
   exact⟨x,by rw[e1,List.getElem?_cons_succ];exact h1,by rw[e2];exact h2⟩
theorem qc (l:List Co) (j i:Nat) (x:Co) (u:Value) (hx:l[j]?=some x) (hu:(iC x)[i]?=some u):(dx l)[j*4+i]?=some u :=
 ji 4 (l.map iC) (fun cs hc=>by obtain⟨c,_,rfl⟩:=List.mem_map.1 hc;rfl) j i (iC x) u (by rw[List.getElem?_map,hx];rfl) hu
theorem gZ {base:Nat} {w:World} {l:List Co} {v:Value} (h:w.ownsRow base 60 4 v l.length (dx l)) (hne:l≠[]):∃g c,v = .slice (some ⟨g,0,none⟩) l.length c∧base≤g∧g<w.heap.size∧l.length≤c ∧
  (∀Z,Below w.heap.size w Z→(∀(j:Nat) (x:Co),l[j]?=some x→∀(i:Nat) (u:Value),(iC x)[i]?=some u→Z.cell? ⟨g,j*4+i,none⟩=some u)∧∀i,Z.frozen? ⟨g,i,none⟩=false):=by
 have h0:=h
 rcases h.2 with⟨_,hn⟩ | ⟨g,cap,cur,rfl,hB,hg,hnc,_⟩
 ·exact absurd (List.eq_nil_of_length_eq_zero hn) hne
 ·have hlt:g<w.heap.size:=World.lt_of_block hg
  refine ⟨g,cap,rfl,hB,hlt,hnc,fun Z hZ=>⟨fun j x hx i u hu=>?_,fun i=>?_⟩⟩
  ·have k:=h0.cells (g:=g) rfl (j*4+i) u (qc l j i x u hx hu)
   rw[Addr.add_lit,Nat.zero_add] at k
   exact (hZ.cell (p:=⟨g,_,none⟩) hlt).trans k
  ·have e:Z.heap[g]?=some (.cells cur 60 (0,0)):=(hZ.block g hlt).trans hg
   simp[World.frozen?,e]
theorem yw (S:Nat→Prop) (l:List Co) (v:Value) (w:World) (h:aQ 4 gH S w l v) (hne:l≠[]) (hl:l.length≤8) :
  Calls Tryz.prog 81 #[v] w fun e w'=>∃u,e = .returned u∧w'.ownsRow w.heap.size 60 4 u l.length (dx l)∧Below w.heap.size w w':=by
 obtain⟨i0,hi,hy0,hy1,hy2⟩:=info_parts Tryz.zS
 obtain⟨b,off,c,rfl,h1,h2,hS,hlt,hel⟩:=fq h hne
 refine (AnyE.slices_Clone Ea i0 _ 4 32 hi hy0 hy1 hy2 rfl (by decide) Tryz.sizeOf60 b off l.length c (dx l) w (fT l) (by unfold maxLen;omega) (by omega) (fun j u hu=>?_) (sN l)).mono ?_
 ·obtain⟨x,e1,e2⟩:=ni l j u hu
  have:=hel w (Below.refl _ _) (j / 4) x e1 (j % 4) u e2
  have e:off+j / 4*4+j % 4=off+j:=by omega
  rw[e] at this
  exact this
 ·rintro e w' ⟨u,rfl,hu,_,hb⟩
  exact⟨u,rfl,hu,hb⟩
theorem zO {w:World} {b:Nat} {a0 a1 a2:Value} {t:TypeId} (h:w.heap[b]?=some (.cells #[a0,a1,a2] t)) (v:Value) :
  ∃X,w.setCell ⟨b,1,none⟩ v=X∧X.heap[b]?=some (.cells #[a0,v,a2] t)∧aA (fun k=>k=b) w X:=by
 refine ⟨_,rfl,?_,(aA.refl (fun k=>k=b) w).own _ _⟩
 rw[setCell_eq_setRow w b 1 _ t _ v h,setRow_heap w b _ _ t _ h]
 simp only[List.setIfInBounds_toArray,List.set_cons_zero,List.set_cons_succ]
theorem lH (S:Nat→Prop) (t:Tb) (cs:List Value) (w:World) (h:dK S w t cs) (hs:ShT t) (hne:t.cols≠[]) :
  Calls Tryz.prog 36 #[.agg cs.toArray] w fun e w'=>∃ds:List Value,e = .returned (.agg ds.toArray)∧yR w.heap.size w' t ds∧Below w.heap.size w w':=by
 obtain⟨aa,nn,cc,rfl,hsl⟩:=h
 obtain⟨nm,l,pr⟩:=t
 dsimp only at hsl hne ⊢
 obtain⟨h16,h8,hc16⟩:=hs
 dsimp only at h16 h8 hc16
 obtain⟨W,hW,hbW,hzW,hcA,hcB⟩:=two w (.cells #[.string (aj nm),.slice aa nn cc,.int .i64 pr] 42) (.cells #[.string ⟨#[]⟩,.slice none 0 0,.int .i64 0] 42)
 have k0:=aH hcA
 have HSC:=hid (fun V=>fO (aj nm) V (by rw[dz];omega))
 have HCA:=hid hcA
 have HCB:=hid hcB
 have HBW:=hid hbW
 have HSL:=hid hsl
 have HN16:=hid hc16
 clear hcA hcB hbW hsl hc16
 go_enter Tryz.func36,Tryz.ntmps36
 go_wp2_with fail
 try rw[hW]
 refine (HSC.out W).mono ?_
 rintro e w1 ⟨rfl,hb1⟩
 have hB1:=HBW.out.trans (hb1.mono HBW.out.size)
 have hs1:=hb1.size
 have hA1:=(hb1.block w.heap.size (by omega)).trans HCA.out
 have hZ1:=(hb1.block (w.heap.size+1) (by omega)).trans HCB.out
 have k1:=aH hA1
 have HC1:=hid (yw S l (.slice aa nn cc) w1 (HSL.out.to (by decide) (R:=fun _=>False) (aA.aC hB1) (fun b hb _=>⟨id,hb⟩) (fun _ _ e=>e)) hne h8)
 have HB1:=hid hB1
 have HA1:=hid hA1
 have HZ1:=hid hZ1
 have HSAME:=hid (aM k1.1)
 clear hb1 hB1 hA1 hZ1 hW k0
 go_wp2_with fail
 try rw[HSAME.out]
 refine HC1.out.mono ?_
 rintro e w2 ⟨u,rfl,hu2,hb2⟩
 have hs2:=hb2.size
 have hA2:=(hb2.block w.heap.size (by omega)).trans HA1.out
 have hZ2:=(hb2.block (w.heap.size+1) (by omega)).trans HZ1.out
 obtain⟨g,cg,rfl,hg1,hg2,hlc,hgc⟩:=gZ hu2 hne
 have k2:=aH hA2
 obtain⟨V,hV,hcV,hspV⟩:=zO hA2 (.slice (some ⟨g,0,none⟩) l.length cg)
 have HB2:=hid (HB1.out.trans (hb2.mono HB1.out.size))
 have hzV:=hspV.size
 have HOV:Hid (V.ownsRow w1.heap.size 60 4 (.slice (some ⟨g,0,none⟩) l.length cg) l.length (dx l)):=hid (hspV.row hu2 (fun b hb=>by
  have:b=g:=by simpa [Value.ownBlock] using hb.symm
  omega))
 have hZV:=(hspV.block (w.heap.size+1) (by omega) (by omega)).trans hZ2
 have HCV:=hid hcV
 have HZV:=hid hZV
 have HBV:Hid (Below w.heap.size w V):=hid (HB2.out.trans (hspV.below (fun i hi=>by omega) HB2.out.size))
 have kV:=aH hcV
 clear hb2 hA2 hZ2 HC1 hu2 hgc hspV hZV hcV k1 HSAME
 go_wp2_with fail
 try rw[hV]
 clear hV k2
 have hgV:g<V.heap.size:=by omega
 go_loopw [16] (fun i wr=>∃j:Nat,j≤l.length∧i = .int .i64 j∧Below V.heap.size V wr) (fun i _=>l.length-(intOf i).toNat)
 case atStart=>exact⟨0,Nat.zero_le _,rfl,Below.refl _ _⟩
 case round =>
  obtain⟨j,hj,rfl,hbr⟩:=hrel
  have hsr:=hbr.size
  have HBR:=hid hbr
  have kR:=aH ((hbr.block w.heap.size (by omega)).trans HCV.out)
  by_cases hlt:j<l.length
  ·obtain⟨x,hx⟩:∃x,l[j]?=some x:=⟨_,List.getElem?_eq_getElem hlt⟩
   have hlt':(j:Int)<(l.length:Int):=by omega
   obtain⟨g',cg',e',_,_,_,hgc⟩:=gZ HOV.out hne
   simp only[Value.slice.injEq,Option.some.injEq,Addr.mk.injEq,and_true,true_and] at e'
   obtain⟨rfl,rfl⟩:=e'
   have hq:=(hgc wr hbr).1 j x hx
   have q0:=hq 0 _ rfl
   have q1:=hq 1 _ rfl
   have q2:=hq 2 _ rfl
   have q3:=hq 3 _ rfl
   rw[Nat.add_zero] at q0
   have hx16:=HN16.out x (List.mem_of_getElem? hx)
   obtain⟨U,hU,hbU,hzU,hcU⟩:=aL wr (.cells #[.string (aj x.nm),.int .i64 x.k,.bool x.nn,.bool x.uq] 60)
   have hBU:Below V.heap.size V U:=hbr.trans (hbU.mono hbr.size)
   have kU:=nG hcU
   have kUA:=aH ((hBU.block w.heap.size (by omega)).trans HCV.out)
   have HFIN:Hid (∀Z,Below U.heap.size U Z→Below V.heap.size V Z∧Z.cell? ⟨w.heap.size,1,none⟩=some (.slice (some ⟨g,0,none⟩) l.length cg)∧Z.cell? ⟨wr.heap.size,0,none⟩=some (.string (aj x.nm))∧Z.cell? ⟨g,j*4,none⟩=some (.string (aj x.nm))∧Z.frozen? ⟨g,j*4,none⟩=false):=hid (fun Z hZ=>by
    have hBZ:Below V.heap.size V Z:=hBU.trans (hZ.mono hBU.size)
    have a0:=(hgc Z hBZ).1 j x hx 0 _ rfl
    rw[Nat.add_zero] at a0
    exact⟨hBZ,(hZ.cell (p:=⟨w.heap.size,1,none⟩) (by show w.heap.size<_;omega)).trans kUA.2.1,(hZ.cell (p:=⟨wr.heap.size,0,none⟩) hzU).trans kU.1,a0,(hgc Z hBZ).2 _⟩)
   have HSX:=hid (fun Z=>fO (aj x.nm) Z (by rw[dz];omega))
   have HMEM:=hid hx
   clear hbr hgc hq hbU hcU hBU kUA hx kU
   go_wp2_with fail
   try rw[hU]
   obtain⟨_,s1,s2,s3,s4⟩:=HFIN.out U.drew (Below.refl _ _).drew
   go_region_held3 (fun Z=>Z.cell? ⟨w.heap.size,1,none⟩=some (.slice (some ⟨g,0,none⟩) l.length cg)∧Z.cell? ⟨wr.heap.size,0,none⟩=some (.string (aj x.nm))) (first | exact⟨s1,s2⟩ | exact⟨z1,z2⟩ | (rw[HSM.out];exact⟨z1,z2⟩) | assumption)
    ((go_at_call 80;refine (HSX.out _).mono ?_;rintro e w5 ⟨rfl,hb5⟩;obtain⟨z0,z1,z2,z3,z4⟩:=HFIN.out w5 ((Below.refl _ U).drew.trans hb5);have HSM:=hid (aM z3)))
   all_goals
    rw[HSM.out]
    go_wp2_with fail
    go_roundw
    case rel=>exact⟨j+1,by omega,by go_num,z0⟩
    case measure=>simp[intOf];omega
  ·have hlt' : ¬(j:Int)<(l.length:Int):=by omega
   have kZ:=aH ((hbr.block (w.heap.size+1) (by omega)).trans HZV.out)
   have HBF:Hid (Below w.heap.size w wr):=hid (HBV.out.trans (hbr.mono HBV.out.size))
   have HOF:=hid (aA.row (aA.aC (S:=fun _=>False) hbr) HOV.out (fun _ _=>id))
   clear hbr HSC
   go_wp2
   have hB:Below w.heap.size w (((wr.setCell ⟨w.heap.size+1,0,none⟩ (.string (aj nm))).setCell ⟨w.heap.size+1,1,none⟩ (.slice (some ⟨g,0,none⟩) l.length cg)).setCell ⟨w.heap.size+1,2,none⟩ (.int .i64 pr)):=((HBF.out.setCell (show w.heap.size≤w.heap.size+1 by omega) _).setCell (show w.heap.size≤w.heap.size+1 by omega) _).setCell (show w.heap.size≤w.heap.size+1 by omega) _
   have hSp:aA (fun k=>k=w.heap.size+1) wr (((wr.setCell ⟨w.heap.size+1,0,none⟩ (.string (aj nm))).setCell ⟨w.heap.size+1,1,none⟩ (.slice (some ⟨g,0,none⟩) l.length cg)).setCell ⟨w.heap.size+1,2,none⟩ (.int .i64 pr)):=(((aA.refl (fun k=>k=w.heap.size+1) wr).own _ _).own _ _).own _ _
   refine bodyPost_ret (v:=.agg #[.string (aj nm),.slice (some ⟨g,0,none⟩) l.length cg,.int .i64 pr]) (by simp[results,Tryz.results36,go_sem,kZ]) rfl ⟨_,rfl,⟨_,_,_,rfl,?_⟩,hB⟩
   exact dP (hSp.row HOF.out (fun b hb=>by
    have:b=g:=by simpa [Value.ownBlock] using hb.symm
    omega)) (fun b hb=>by
    have:b=g:=by simpa [Value.ownBlock] using hb.symm
    have:=HB1.out.size
    omega)
end Go.Proofs.YtfeglkleoijlaaaGreatDoor
