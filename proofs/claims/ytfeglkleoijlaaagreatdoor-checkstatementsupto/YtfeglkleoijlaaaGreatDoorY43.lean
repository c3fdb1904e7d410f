import Derived.Test.YtfeglkleoijlaaaGreatDoorY42
import Derived.Test.YtfeglkleoijlaaaGreatDoorY29
namespace Go.Proofs.YtfeglkleoijlaaaGreatDoor
open Go.RowKit Go.Shelf
set_option linter.unusedSimpArgs false
set_option linter.unusedVariables false
set_option maxRecDepth 20000
set_option maxHeartbeats 8000000
theorem vJ {α:Type} (f:α→Int):¬aO (([]:List α).map f)≠0:=fun h=>h rfl
theorem wR (L:List Tb) (v:Vl):aI L (.mk 1 0 [] [] v [])=(.mk 1 0 [] [] v [],v.k,0):=by
 rw[jF,if_neg (vJ _),if_pos rfl]
theorem sN (L:List Tb) (op:Int) (tb nm:List UInt8) (v:Vl):aI L (.mk 2 op tb nm v [])=AU L tb nm:=by
 rw[jF,if_neg (vJ _),if_neg (by decide),if_pos rfl]
theorem uF {op:Int} {tb nm:List UInt8} {v:Vl} {xs:List Ex} (h:aF (.mk 1 op tb nm v xs)=true):op=0∧tb=[]∧nm=[]∧xs=[]∧(v.k=0∨v.k=1∨v.k=2):=by
 rw[lW,if_pos rfl] at h
 simp only[aaC,aaI] at h
 refine ⟨h.2.1.1.1,h.2.1.1.2,h.2.1.2,aaR h.2.2,?_⟩
 have hv:=h.1
 unfold dV eY at hv
 simp only[aaC,aaI] at hv
 have h1:=hv.1
 split at h1
 ·cases h1
 ·rename_i he
  have he2:v=gN v:=jB.1 (by simpa using he)
  rw[he2]
  unfold gN
  split
  ·exact .inr (.inl rfl)
  ·split
   ·exact .inr (.inr rfl)
   ·exact .inl rfl
theorem Xl {t:Tb} (h:mR t) {i:Nat} (hi:i<t.aC.length):Af t.aC i=1∨Af t.aC i=2:=by
 unfold Af
 rw[aaf hi]
 exact (h.2.2.2 _ (List.getElem_mem hi)).2
theorem M6 (tb nm:List UInt8):∀(L:List Tb),(∀t∈L,mR t)→∀(ahead:Int) (a:Int × Int × Nat),(a.2.1=0∨a.2.1=1∨a.2.1=2)→((jL tb nm L ahead a).2.1=0∨(jL tb nm L ahead a).2.1=1∨(jL tb nm L ahead a).2.1=2)
 | [],_,_,_,h=>h
 |
  t::L,hK,ahead,a,h=>by
  have h1 : ∀a':Int × Int × Nat,a'=(if bF t.aC nm<t.aC.length∧(tb=[]∨t.nm=tb) then (ahead+(bF t.aC nm:Nat),Af t.aC (bF t.aC nm),a.2.2+1) else a)→(a'.2.1=0∨a'.2.1=1∨a'.2.1=2):=by
   rintro a' rfl
   split
   ·rename_i hc
    exact .inr (Xl (hK t (List.mem_cons_self ..)) hc.1)
   ·exact h
  unfold jL
  dsimp only
  split
  ·exact h1 _ rfl
  ·exact M6 tb nm L (fun u hu=>hK u (List.mem_cons_of_mem _ hu)) _ _ (h1 _ rfl)
theorem JV {L:List Tb} (hK : ∀t∈L,mR t) {x:Ex} (h:aF x=true):(aI L x).2.1=0∨(aI L x).2.1=1∨(aI L x).2.1=2:=by
 obtain⟨k,op,tb,nm,v,xs⟩:=x
 by_cases h1:k=1
 ·subst h1
  obtain⟨rfl,rfl,rfl,rfl,hv⟩:=uF h
  rw[wR]
  exact hv
 ·by_cases h2:k=2
  ·subst h2
   obtain rfl:=(l8 h).2.2.2.1 rfl
   rw[sN]
   have:=M6 tb nm L hK 0 (0,0,0) (.inl rfl)
   show (rF (jL tb nm L 0 (0,0,0))).2.1=0∨(rF (jL tb nm L 0 (0,0,0))).2.1=1∨(rF (jL tb nm L 0 (0,0,0))).2.1=2
   unfold rF
   split
   ·exact .inl rfl
   ·split
    ·exact .inl rfl
    ·exact this
  ·rw[jF,if_neg h1,if_neg h2]
   split
   ·exact .inl rfl
   ·split
    ·exact .inr (.inl rfl)
    ·exact .inl rfl
abbrev Fp (k op:Int) (v:Value):Array Value:=#[.int .i64 k,.int .i64 op,.string ⟨#[]⟩,.string ⟨#[]⟩,.int .i64 0,.int .i64 0,.string ⟨#[]⟩,v]
def RI (L:List Tb) (xs:List Ex) (k op:Int) (B0 g0:Nat) (w:World) (cs:Array Value) (i:Nat) (V:World) (vk:Value):Prop :=
 ∃va S1,Two B0 w V va vk ((xs.take i).map fun x=>(aI L x).1) ((xs.take i).map fun x=>(aI L x).2.1) S1 [(g0,.cells (Fp k op va) 48),(w.heap.size,.cells cs 48),(w.heap.size+1,.cells eT 48)] []∧¬S1 g0
theorem Qc {w:World} {b:Nat} {k op:Int} {v0:Value} {t:TypeId} (h:w.heap[b]?=some (.cells (Fp k op v0) t)) (v:Value):w.setCell ⟨b,7,none⟩ v=w.setRow b (Fp k op v):=by
 rw[setCell_eq_setRow w b 7 _ t _ v h]
 simp only[aag,aaw,aay]
theorem En {w:World} {base n z:Nat} {t:TypeId} {v:Value} {xs:List Value} (h:w.ownsRow base t z v n xs):∃a n c,v = .slice a n c:=by
 rcases h.2 with⟨rfl,_⟩ | ⟨g,cap,cur,rfl,_⟩<;>exact⟨_,_,_,rfl⟩
theorem RI.step {L:List Tb} {xs:List Ex} {k op:Int} {B0 g0 i:Nat} {w V Y:World} {cs0:Array Value} {vk:Value} (h:RI L xs k op B0 g0 w cs0 i V vk) (bV:Below V.heap.size V Y) {y:Ex} (hy:xs[i]?=some y) (cs:List Value) (hl:cs.length=8) (h1 : ∀u∈cs,u.oneCell'=true) (hX:jl (fun b=>V.heap.size≤b∧b<Y.heap.size) Y (aI L y).1 cs) (hxs:xs.length≤2) (hg:w.heap.size+1<g0∧g0<B0) :
  ∃
   a4 n4 c4 a5 n5 c5 Z',Y.cell? ⟨g0,7,none⟩=some (.slice a4 n4 c4)∧(Builtin.append_ #[27,27] 27 #[.slice a4 n4 c4,.slice (some ⟨Y.heap.size,0,none⟩) 1 1]).run Tryz.prog (Y.alloc (.cells cs.toArray 48)) = .ok (.slice a5 n5 c5) Z'∧Z'.cell? ⟨g0,7,none⟩=some (.slice a4 n4 c4)∧Z'.frozen? ⟨g0,7,none⟩=false ∧
   ∃jM Q',(Builtin.append_ #[87,87] 87 #[vk,.slice (some ⟨Z'.heap.size,0,none⟩) 1 1]).run Tryz.prog ((Z'.setCell ⟨g0,7,none⟩ (.slice a5 n5 c5)).alloc (.cells #[.int .i64 (aI L y).2.1] 3)) = .ok jM Q'∧RI L xs k op B0 g0 w cs0 (i+1) Q' jM:=by
 obtain⟨va,S1,hT,hS⟩:=h
 obtain⟨a4,n4,c4,rfl⟩:∃a n c,va = .slice a n c:=by
  obtain⟨css,ho,_⟩:=hT.uw
  exact En ho
 have hg1:=aam.1 hy
 have aaX:=hT.AX
 have hlt:=hT.FJ
 have hlen:((xs.take i).map fun x=>(aI L x).1).length≤1000000∧((xs.take i).map fun x=>(aI L x).2.1).length≤1000000:=by
  simp only[List.length_map,List.length_take]
  omega
 have ht : ∀{β:Type} (f:Ex→β),(xs.take (i+1)).map f=(xs.take i).map f++[f y]:=fun f=>by
  rw[aaJ hg1.1,hg1.2,List.map_append]
  rfl
 generalize hrs:((xs.take i).map fun x=>(aI L x).1)=rs at hT hlen
 generalize hks:((xs.take i).map fun x=>(aI L x).2.1)=ks at hT hlen
 have hT1:=hT.um bV
 have hT2:=hT1.Nj (S2:=fun b=>S1 b∨(V.heap.size≤b∧b<Y.heap.size)) (fun b hb=>.inl hb) (fun b hb=>hb.elim .inl (fun h3=>.inr ⟨Nat.le_trans aaX h3.1,h3.2,fun e=>by have:=(hlt.1 b e).2;omega,fun e=>by have:=(hlt.2 b e).2;omega⟩))
 have hT3:=(hT2.pR (.cells cs.toArray 48)).MJ (aI L y).1 cs (hX.to (R:=fun _=>False) (ak.aA ((Below.refl _ Y).alloc (aaF _) _)) (fun b hb _=>⟨id,.inr hb⟩))
 obtain⟨rZ,Z',hr,Z4⟩:=hT3.P7 (aI L y).1 cs Y.heap.size hl h1 (by simp) (hT3.also ((aI L y).1,cs) (by simp)) hlen.1 27
 obtain⟨a5,n5,c5,rfl⟩:∃a n c,rZ = .slice a n c:=by
  obtain⟨css,ho,_⟩:=Z4.uw
  exact En ho
 have hk4:=Z4.keep (g0,.cells (Fp k op (.slice a4 n4 c4)) 48) (by simp)
 have hkY:=(hT1.keep (g0,.cells (Fp k op (.slice a4 n4 c4)) 48) (by simp)).1
 have hS2 : ¬(S1 g0∨(V.heap.size≤g0∧g0<Y.heap.size)):=fun e=>e.elim hS (fun e=>by omega)
 have hT5:=((Z4.RX).OC (yI:=[(w.heap.size,.cells cs0 48),(w.heap.size+1,.cells eT 48)]) (fun p hp=>by
  simp only[abg,List.not_mem_nil,or_false] at hp ⊢
  rcases hp with rfl | rfl<;>simp)).Ld g0 (by omega) hS2 hk4.2.1 hk4.2.2 (fun p hp=>by
   simp only[abg,List.not_mem_nil,or_false] at hp
   rcases hp with rfl | rfl
   ·show w.heap.size≠g0;omega
   ·show w.heap.size+1≠g0;omega) (Fp k op (.slice a5 n5 c5))
 have hT6:=hT5.Ck g0 (.cells (Fp k op (.slice a5 n5 c5)) 48) (setRow_heap Z' g0 _ _ _ _ hk4.1) hk4.2.1 hk4.2.2
 obtain⟨jM,Q',hr2,hT7⟩:=(hT6.pR (.cells #[.int .i64 (aI L y).2.1] 3)).QY (aI L y).2.1 (Z'.setRow g0 (Fp k op (.slice a5 n5 c5))).heap.size (by simp) hlen.2 87
 have hsz:(Z'.setRow g0 (Fp k op (.slice a5 n5 c5))).heap.size=Z'.heap.size:=by simp
 rw[hsz,← Qc hk4.1] at hr2
 refine ⟨a4,n4,c4,a5,n5,c5,Z',by rw[aB _ _ _ _ _ _ hkY];rfl,hr,by rw[aB _ _ _ _ _ _ hk4.1];rfl,by simp[World.frozen?,hk4.1],jM,Q',hr2,.slice a5 n5 c5,fun b=>S1 b∨(V.heap.size≤b∧b<Y.heap.size),?_,hS2⟩
 rw[ht,ht,hrs,hks]
 exact hT7.OC (fun p hp=>by
  simp only[abg,List.not_mem_nil,or_false] at hp ⊢
  rcases hp with rfl | rfl | rfl<;>simp)
def Ct (L:List Tb) (x:Ex):Prop:=∀(S T:Nat→Prop) (w:World) (lv v:Value),gH T w x v→aM 3 fG S w L lv →
 Calls Tryz.prog 75 #[lv,v] w fun e w'=>∃u,e = .returned (.tuple #[u,.int .i64 (aI L x).2.1,.int .i64 (aI L x).2.2])∧gH (fun b=>w.heap.size≤b) w' (aI L x).1 u∧Below w.heap.size w w'
theorem Jd (L:List Tb) (v:Vl):Ct L (.mk 1 0 [] [] v []):=fun S T w lv vv hx hl=>by
 rw[wR]
 obtain⟨k',op',tb',nm',vk,vn,vs,ys,aa,nn,cc,he,rfl,ha⟩:=hx
 obtain⟨rfl,rfl,rfl,rfl,rfl,rfl⟩:=Ex.mk.inj he
 obtain⟨a0,c0,hf,hcm⟩:=ha.form
 simp only[aah] at hf
 obtain⟨rfl,rfl,rfl⟩:=hf
 obtain⟨la,lc,rfl⟩:=hl.form
 obtain⟨nn,hnn⟩:∃nn,([]:List Ex).length=nn:=⟨_,rfl⟩
 rw[hnn]
 obtain⟨W,hW,hbW,aJ,hcA,hcB⟩:=two w (.cells #[.int .i64 1,.int .i64 0,.string (aj []),.string (aj []),.int .i64 vk,.int .i64 vn,.string (aj vs),.slice aa nn cc] 48) (.cells eT 48)
 have k0:=aG hcA
 have HB:=hid hbW
 have HN:=hid hnn
 have HCM:=hid hcm
 have HB1:Hid (W.drew.heap[w.heap.size+1]?=some (.cells eT 48)):=hid hcB
 have kd:=aG (w:=W.drew) hcA
 have hS0:(fun V:World=>V.cell? ⟨w.heap.size,0,none⟩=some (.int .i64 1)∧V.cell? ⟨w.heap.size,1,none⟩=some (.int .i64 0)∧V.cell? ⟨w.heap.size,2,none⟩=some (.string (aj []))∧V.cell? ⟨w.heap.size,3,none⟩=some (.string (aj []))∧V.cell? ⟨w.heap.size,4,none⟩=some (.int .i64 vk)∧V.cell? ⟨w.heap.size,5,none⟩=some (.int .i64 vn)∧V.cell? ⟨w.heap.size,6,none⟩=some (.string (aj vs))∧V.cell? ⟨w.heap.size,7,none⟩=some (.slice aa nn cc)) W.drew:=kd
 have hSp:ak (fun k=>k=w.heap.size+1) W.drew (W.drew.setRow (w.heap.size+1) #[.int .i64 1,.int .i64 0,.string (aj []),.string (aj []),.int .i64 vk,.int .i64 vn,.string (aj vs),.slice aa nn cc]):=ak.setRow (S:=fun k=>k=w.heap.size+1) (ak.refl _ W.drew) (p:=w.heap.size+1) (.inl rfl) _
 have hS1:(fun V:World=>V.cell? ⟨w.heap.size,0,none⟩=some (.int .i64 1)∧V.cell? ⟨w.heap.size,1,none⟩=some (.int .i64 0)∧V.cell? ⟨w.heap.size,2,none⟩=some (.string (aj []))∧V.cell? ⟨w.heap.size,3,none⟩=some (.string (aj []))∧V.cell? ⟨w.heap.size,4,none⟩=some (.int .i64 vk)∧V.cell? ⟨w.heap.size,5,none⟩=some (.int .i64 vn)∧V.cell? ⟨w.heap.size,6,none⟩=some (.string (aj vs))∧V.cell? ⟨w.heap.size,7,none⟩=some (.slice aa nn cc)) (W.drew.setRow (w.heap.size+1) #[.int .i64 1,.int .i64 0,.string (aj []),.string (aj []),.int .i64 vk,.int .i64 vn,.string (aj vs),.slice aa nn cc]):=aG ((setRow_other _ _ _ _ (by omega)).trans hcA)
 have HZ:=hid (setRow_heap W.drew (w.heap.size+1) _ #[.int .i64 1,.int .i64 0,.string (aj []),.string (aj []),.int .i64 vk,.int .i64 vn,.string (aj vs),.slice aa nn cc] _ _ HB1.out)
 have iC:Hid (Below w.heap.size w (W.drew.setRow (w.heap.size+1) #[.int .i64 1,.int .i64 0,.string (aj []),.string (aj []),.int .i64 vk,.int .i64 vn,.string (aj vs),.slice aa nn cc])):=hid (HB.out.drew.trans (hSp.below (fun i hi=>by omega) HB.out.drew.size))
 clear hSp kd hcA hcB hbW hl ha hcm hnn he
 go_enter Tryz.func75,Tryz.ntmps75
 go_wp2_with fail
 try rw[hW]
 go_wp2_with fail
 refine dG (fun V:World=>V.cell? ⟨w.heap.size,0,none⟩=some (.int .i64 1)∧V.cell? ⟨w.heap.size,1,none⟩=some (.int .i64 0)∧V.cell? ⟨w.heap.size,2,none⟩=some (.string (aj []))∧V.cell? ⟨w.heap.size,3,none⟩=some (.string (aj []))∧V.cell? ⟨w.heap.size,4,none⟩=some (.int .i64 vk)∧V.cell? ⟨w.heap.size,5,none⟩=some (.int .i64 vn)∧V.cell? ⟨w.heap.size,6,none⟩=some (.string (aj vs))∧V.cell? ⟨w.heap.size,7,none⟩=some (.slice aa nn cc)) [] (by kernel_rfl) ?_
 refine fF (i:=0) rfl (by assumption) ?_
 refine fF (i:=1) rfl (by assumption) ?_
 refine fF (i:=2) rfl (by assumption) ?_
 refine fF (i:=3) rfl (by assumption) ?_
 refine jf (i:=4) (by kernel_rfl) rfl rfl 48 (.tmp 4) (.tmp 20) rfl (w.heap.size+1) #[.int .i64 1,.int .i64 0,.string (aj []),.string (aj []),.int .i64 vk,.int .i64 vn,.string (aj vs),.slice aa nn cc] (by rfl) (by rfl) 48 _ HB1.out Tryz.sizeEx rfl (iF _ _ _ _ _ _ _ _ _ _) (.inl hS1) ?_
 simp only[Act.put,aas,aap,aaq,aag,aaw,aay]
 refine fF (i:=5) rfl hS1 ?_
 refine fF (i:=6) rfl hS1 ?_
 refine bN (by kernel_rfl) ?_ _
 show Only _ .normal _ _
 unfold Only
 generalize W.drew.setRow (w.heap.size+1) #[.int .i64 1,.int .i64 0,.string (aj []),.string (aj []),.int .i64 vk,.int .i64 vn,.string (aj vs),.slice aa nn cc]=Z at HZ iC ⊢
 clear hS0 hS1
 go_wp2
 exact bodyPost_ret (v:=.tuple #[.agg #[.int .i64 1,.int .i64 0,.string (aj []),.string (aj []),.int .i64 vk,.int .i64 vn,.string (aj vs),.slice aa nn cc],.int .i64 vk,.int .i64 0]) (by simp[results,Tryz.results75,go_sem,aG HZ.out]) rfl ⟨_,rfl,⟨1,0,[],[],vk,vn,vs,[],aa,nn,cc,rfl,rfl,by rw[← HN.out];exact .nil _ _ HCM.out⟩,iC.out⟩
theorem Jj (L:List Tb) (hK : ∀t∈L,mR t) (hn:L.length≤100) (op:Int) (tb nm:List UInt8) (v:Vl):Ct L (.mk 2 op tb nm v []):=fun S T w lv vv hx hl=>by
 rw[sN,G7]
 obtain⟨k',op',tb',nm',vk,vn,vs,ys,aa,nn,cc,he,rfl,ha⟩:=hx
 obtain⟨rfl,rfl,rfl,rfl,rfl,rfl⟩:=Ex.mk.inj he
 obtain⟨W,hW,hbW,aJ,hcA,hcB⟩:=two w (.cells #[.int .i64 2,.int .i64 op,.string (aj tb),.string (aj nm),.int .i64 vk,.int .i64 vn,.string (aj vs),.slice aa nn cc] 48) (.cells eT 48)
 have k0:=aG hcA
 have HC:=hid (uX S L lv tb nm W (hl.to (by decide) (R:=fun _=>False) (ak.aA hbW) (fun b hb _=>⟨id,hb⟩) (fun _ _ e=>e.on hbW)) hK hn)
 obtain⟨la,lc,rfl⟩:=hl.form
 have HB:=hid hbW
 generalize tJ L tb nm=R at HC ⊢
 obtain⟨n,kd,c⟩:=R
 dsimp only at HC ⊢
 have hc2:=hcB
 clear hcA hcB hbW hl ha he
 by_cases hc:c=0
 ·subst hc
  rw[if_pos rfl]
  have HB2:=hid (cK HB.out (Nat.le_succ w.heap.size) (J2 n))
  have HZ:=hid (setRow_heap W (w.heap.size+1) _ (J2 n) _ _ hc2)
  go_enter Tryz.func75,Tryz.ntmps75
  go_wp2_with fail
  try rw[hW]
  go_wp2_with fail
  refine HC.out.mono ?_
  rintro e w1 ⟨rfl,hw⟩
  obtain rfl:W=w1:=hw.symm
  clear HC
  go_wp2_with (first | (refine lC hc2 ?_) | fail)
  exact bodyPost_ret (v:=.tuple #[.agg (J2 n),.int .i64 kd,.int .i64 0]) (by simp[results,Tryz.results75,go_sem,aG HZ.out]) rfl ⟨_,rfl,I9 _ _ _,HB2.out⟩
 ·rw[if_neg hc]
  have hc1:(c != 0)=true:=by simpa using hc
  have HB2:=hid (cK HB.out (Nat.le_succ w.heap.size) eT)
  have HZ:=hid (setRow_heap W (w.heap.size+1) _ eT _ _ hc2)
  clear hc
  go_enter Tryz.func75,Tryz.ntmps75
  go_wp2_with fail
  try rw[hW]
  go_wp2_with fail
  refine HC.out.mono ?_
  rintro e w1 ⟨rfl,hw⟩
  obtain rfl:W=w1:=hw.symm
  clear HC
  go_wp2_with (first | (refine lC hc2 ?_) | fail)
  exact bodyPost_ret (v:=.tuple #[.agg eT,.int .i64 0,.int .i64 c]) (by simp[results,Tryz.results75,go_sem,aG HZ.out]) rfl ⟨_,rfl,uY _ _,HB2.out⟩
theorem RI.has {L:List Tb} {xs:List Ex} {k op:Int} {B0 g0 i:Nat} {w V:World} {cs0:Array Value} {vk:Value} (h:RI L xs k op B0 g0 w cs0 i V vk):V.heap[w.heap.size]?=some (.cells cs0 48)∧V.heap[w.heap.size+1]?=some (.cells eT 48)∧Below w.heap.size w V∧B0≤V.heap.size:=by
 obtain⟨va,S1,hT,_⟩:=h
 exact⟨(hT.keep (w.heap.size,.cells cs0 48) (by simp)).1,(hT.keep (w.heap.size+1,.cells eT 48) (by simp)).1,hT.qJ,hT.AX⟩
theorem RI.shown {L:List Tb} {xs:List Ex} {k op:Int} {B0 g0 i:Nat} {w V:World} {cs0:Array Value} {vk:Value} (h:RI L xs k op B0 g0 w cs0 i V vk) (hi:xs.length≤i):∃a n c,V.heap[g0]?=some (.cells (Fp k op (.slice a n c)) 48)∧bA (fun b=>B0≤b) V (xs.map fun x=>(aI L x).1) (.slice a n c)∧aM 1 uj (fun b=>B0≤b) V (xs.map fun x=>(aI L x).2.1) vk:=by
 obtain⟨va,S1,hT,_⟩:=h
 have hk:=(hT.keep (g0,.cells (Fp k op va) 48) (by simp)).1
 rw[aaU hi] at hT
 obtain⟨g1,g2⟩:=hT.Ox
 obtain⟨a,c,hf,_⟩:=g1.form
 subst hf
 exact⟨_,_,_,hk,g1,g2⟩
theorem Mj (L:List Tb) (hK : ∀t∈L,mR t) (hn:L.length≤100):∀(n:Nat) (x:Ex),SizeOf.sizeOf x<n→aF x=true→Ct L x
 | 0,x,hz,_=>absurd hz (Nat.not_lt_zero _)
 |
  n+1,.mk k op tb nm v xs,hz,hr=>fun S T w lv vv hx hl=>by
  obtain⟨hx2,K7,hk1,hk2,hk3,hks⟩:=l8 hr
  by_cases h1:k=1
  ·subst h1
   obtain⟨rfl,rfl,rfl,rfl,_⟩:=uF hr
   exact Jd L v S T w lv vv hx hl
  by_cases h2:k=2
  ·subst h2
   obtain rfl:=hk2 rfl
   exact Jj L hK hn op tb nm v S T w lv vv hx hl
  obtain⟨k',op',tb',nm',vk,vn,vs,ys,aa,nn,cc,he,rfl,ha⟩:=hx
  obtain⟨rfl,rfl,rfl,rfl,Iq,rfl⟩:=Ex.mk.inj he
  subst Iq
  have HIH:Hid (∀y∈xs,Ct L y):=hid (fun y hy=>Mj L hK hn n y (by have:=List.sizeOf_lt_of_mem hy;simp at hz;omega) (K7 y hy))
  obtain⟨RQ,IE⟩:∃RQ,aI L (.mk k op tb nm ⟨vk,vn,vs⟩ xs)=RQ:=⟨_,rfl⟩
  rw[IE]
  rw[jF,if_neg h1,if_neg h2] at IE
  have HRQ:=hid IE
  have HKK:Hid (GQ (xs.map fun x=>(aI L x).2.1)):=hid (fun y hy=>by
   obtain⟨x,hx,rfl⟩:=List.mem_map.1 hy
   exact JV hK (K7 x hx))
  have Vi:Hid (k=3→(xs.map fun x=>(aI L x).2.1).length=2):=hid (fun e=>by rw[List.length_map];exact hk3 e)
  have h1':(k==1)=false:=by rw[aai];exact h1
  have h2':(k==2)=false:=by rw[aai];exact h2
  obtain⟨W,hW,hbW,aJ,hcA,hcB⟩:=two w (.cells #[.int .i64 k,.int .i64 op,.string (aj tb),.string (aj nm),.int .i64 vk,.int .i64 vn,.string (aj vs),.slice aa nn cc] 48) (.cells eT 48)
  have k0:=aG hcA
  obtain⟨Y0,hY0,QG,afm,Za⟩:=aK W (.cells (Fp k op (.slice none 0 0)) 48)
  have hB0:=hbW.trans (QG.mono hbW.size)
  have HI0:Hid (RI L xs k op Y0.heap.size W.heap.size w #[.int .i64 k,.int .i64 op,.string (aj tb),.string (aj nm),.int .i64 vk,.int .i64 vn,.string (aj vs),.slice aa nn cc] 0 Y0 (.slice none 0 0)):=hid ⟨.slice none 0 0,fun _=>False,
   ⟨hB0,hB0.size,aaF _,World.ownsRow_nil _ _ _ _,⟨[],World.ownsRow_nil _ _ _ _,lH.nil⟩,fun b hb=>(by cases hb),fun b hb=>hb.elim,(fun p hp=>by
    simp only[abg,List.not_mem_nil,or_false] at hp
    rcases hp with rfl | rfl | rfl
    ·exact⟨Za,fun e=>(by cases e),fun e=>(by cases e)⟩
    ·exact⟨(QG.block _ (by omega)).trans hcA,fun e=>(by cases e),fun e=>(by cases e)⟩
    ·exact⟨(QG.block _ (by omega)).trans hcB,fun e=>(by cases e),fun e=>(by cases e)⟩),fun p hp=>(by cases hp)⟩,id⟩
  have hg0:w.heap.size+1<W.heap.size∧W.heap.size<Y0.heap.size:=⟨by omega,by omega⟩
  have Fq:Hid (∀V,Below w.heap.size w V→aM 8 jl T V xs (.slice aa nn cc)):=hid (fun V hV=>(eZ ha).to (by decide) (R:=fun _=>False) (ak.aA hV) (fun b hb _=>⟨id,hb⟩) (fun _ _ e=>e.to (R:=fun _=>False) (ak.aA hV) (fun b hb _=>⟨id,hb⟩)))
  have HAA:=hid ha
  have AB:Hid (∀V,Below w.heap.size w V→aM 3 fG S V L lv):=hid (fun V hV=>hl.to (by decide) (R:=fun _=>False) (ak.aA hV) (fun b hb _=>⟨id,hb⟩) (fun _ _ e=>e.on hV))
  obtain⟨la,lc,rfl⟩:=hl.form
  have hnn:nn=xs.length:=by obtain⟨_,_,hf,_⟩:=ha.form;simp only[aah] at hf;exact hf.2.1
  subst hnn
  have HG:=hid hg0
  clear hcA hcB hbW Za QG hB0 hl ha he IE h1 h2 hk1 hk2 hk3 hks K7 hr hz hg0
  go_enter Tryz.func75,Tryz.ntmps75
  go_upto_region 8 with fail
  try rw[hW]
  go_wp2_with (first | (refine eX hY0 ?_;clear hY0) | fail)
  go_loopw [11,12,13,14,15] (fun kv i _ _ _ wr=>∃(m:Nat),m≤xs.length∧i = .int .i64 m∧Hid (RI L xs k op Y0.heap.size W.heap.size w #[.int .i64 k,.int .i64 op,.string (aj tb),.string (aj nm),.int .i64 vk,.int .i64 vn,.string (aj vs),.slice aa xs.length cc] m wr kv)∧Hid (∀c∈(xs.map fun x=>(aI L x).2.2).take m,c=0)) (fun _ i _ _ _ _=>xs.length-(intOf i).toNat)
  case atStart=>exact⟨0,aaV _,rfl,HI0,hid (by simp)⟩
  case round =>
   clear HI0 k0
   obtain⟨m,hm,rfl,HI,HZ⟩:=hrel
   obtain⟨hA,hA1,mU,K4⟩:=HI.out.has
   have kA:=aG hA
   have HA1:=hid hA1
   have zl:=hid mU
   clear hA1 hA mU
   by_cases hlt:m<xs.length
   ·obtain⟨y,hy⟩:∃y,xs[m]?=some y:=⟨_,aaf hlt⟩
    have hlt':((m:Int)<(xs.length:Int)):=by omega
    have hcx:(xs.map fun x=>(aI L x).2.2)[m]?=some (aI L y).2.2:=by rw[List.getElem?_map,hy];rfl
    obtain⟨_,_,_,b,off,ds,rfl,_,hel,hcell⟩:=bC (Fq.out wr zl.out) hy
    have eO:=hel.v
    obtain⟨k1,op1,dN,fU,fJ,fI,vs1,ys1,eD,dF,eB,_,rfl,_⟩:=hel
    have q0:=hcell 0 _ rfl
    have q1:=hcell 1 _ rfl
    have q2:=hcell 2 _ rfl
    have q3:=hcell 3 _ rfl
    have q4:=hcell 4 _ rfl
    have q5:=hcell 5 _ rfl
    have q6:=hcell 6 _ rfl
    have q7:=hcell 7 _ rfl
    simp only[aa2] at q0
    have HC:=hid (HIH.out y (aaP hy) S T wr _ _ eO (AB.out wr zl.out))
    have HST:=hid (fun (Y:World) (hY:Below wr.heap.size wr Y) (cs:List Value) (h1:cs.length=8) (h2 : ∀u∈cs,u.oneCell'=true) (h3:jl (fun b=>wr.heap.size≤b∧b<Y.heap.size) Y (aI L y).1 cs)=>HI.out.step hY hy cs h1 h2 h3 hx2 HG.out)
    obtain⟨X,hX⟩:∃X,(aI L y).1=X:=⟨_,rfl⟩
    obtain⟨kk,hkk⟩:∃kk,(aI L y).2.1=kk:=⟨_,rfl⟩
    obtain⟨c,hcd⟩:∃c,(aI L y).2.2=c:=⟨_,rfl⟩
    rw[hX,hkk] at HST
    rw[hX,hkk,hcd] at HC
    rw[hcd] at hcx
    have rO:=hid hcx
    clear hcell eO hcx hX hkk hcd hy HI
    by_cases hz:c=0
    ·subst hz
     have HZ2:=hid (zero_snoc HZ.out rO.out rfl)
     clear HZ rO
     go_wp2_with fail
     refine HC.out.mono ?_
     rintro e w2 ⟨u,rfl,hxu,hb2⟩
     obtain⟨k2,op2,bX,eH,dS,dU,vs2,ys2,dR,dY,dP,gT,rfl,yh⟩:=hxu
     obtain⟨Y,hY,bV,kL,dJ⟩:=aK w2 (.cells #[.int .i64 k2,.int .i64 op2,.string (aj bX),.string (aj eH),.int .i64 dS,.int .i64 dU,.string (aj vs2),.slice dR dY dP] 48)
     have Qm:=hb2.trans (bV.mono hb2.size)
     obtain⟨a4,n4,c4,a5,n5,c5,Z',g7,hr1,g7',gf7,jM,Q',hr2,hI2⟩:=HST.out Y Qm [.int .i64 k2,.int .i64 op2,.string (aj bX),.string (aj eH),.int .i64 dS,.int .i64 dU,.string (aj vs2),.slice dR dY dP] rfl (fun u hu=>(Array.all_eq_true_iff_forall_mem.1 (iF k2 op2 (aj bX) (aj eH) dS dU (aj vs2) dR dY dP)) u (by simpa using hu)) ⟨k2,op2,bX,eH,dS,dU,vs2,ys2,dR,dY,dP,gT,rfl,yh.to (R:=fun _=>False) (ak.aA bV) (fun b hb hlt=>⟨id,hb,aa7 hlt bV.size⟩)⟩
     have kY:=aG dJ
     have WG:=hid hr1
     have VP:=hid hr2
     have HI2:=hid hI2
     clear hr1 hr2 hI2 gT yh Qm bV dJ hb2 HST HC q0 q1 q2 q3 q4 q5 q6 q7 kA
     go_wp2_with (first
      | (refine eX hY ?_;clear hY)
      | (at_builtin;refine wpList_append_run _ rfl (.tmp 73) (.tmp 75) 27 rfl _ _ _ _ rfl rfl WG.out ?_)
      | (at_builtin;refine wpList_append_run _ rfl (.tmp 78) (.tmp 80) 87 rfl _ _ _ _ rfl rfl VP.out ?_)
      | fail)
     go_roundw
     case rel=>exact⟨m+1,by omega,by go_num,HI2,HZ2⟩
     case measure=>simp[intOf];omega
    ·have hc1:(c != 0)=true:=by simpa using hz
     have HE:Hid (RQ=(tO,0,c)):=hid (by
      have e:=iN HZ.out rO.out hz
      rw[← HRQ.out,if_pos (by rw[e];exact hz),e])
     clear HZ rO hz HST
     go_wp2_with fail
     refine HC.out.mono ?_
     rintro e w2 ⟨u,rfl,hxu,hb2⟩
     obtain⟨k2,op2,bX,eH,dS,dU,vs2,ys2,dR,dY,dP,gT,rfl,yh⟩:=hxu
     obtain⟨Y,hY,bV,kL,dJ⟩:=aK w2 (.cells #[.int .i64 k2,.int .i64 op2,.string (aj bX),.string (aj eH),.int .i64 dS,.int .i64 dU,.string (aj vs2),.slice dR dY dP] 48)
     have Qm:=hb2.trans (bV.mono hb2.size)
     have hlA:w.heap.size+1<wr.heap.size:=by have:=HG.out;omega
     have hc2:=(Qm.block (w.heap.size+1) hlA).trans HA1.out
     have HB2:=hid (cK (zl.out.trans (Qm.mono zl.out.size)) (Nat.le_succ w.heap.size) eT)
     have XD:=hid (setRow_heap Y (w.heap.size+1) _ eT _ _ hc2)
     clear gT yh Qm bV dJ hb2 HC q0 q1 q2 q3 q4 q5 q6 q7 kA
     go_wp2_with (first
      | (refine eX hY ?_;clear hY)
      | (refine lC hc2 ?_)
      | fail)
     exact bodyPost_ret (v:=.tuple #[.agg eT,.int .i64 0,.int .i64 c]) (by simp[results,Tryz.results75,go_sem,aG XD.out]) rfl ⟨_,by rw[HE.out],by rw[HE.out];exact uY _ _,HB2.out⟩
   ·have hlt' : ¬((m:Int)<(xs.length:Int)):=by omega
    obtain⟨a9,n9,c9,Vs,has,hki⟩:=HI.out.shown (by omega)
    have HF:=hid (Ki T _ (.mk k op tb nm ⟨vk,vn,vs⟩ xs) (.agg #[.int .i64 k,.int .i64 op,.string (aj tb),.string (aj nm),.int .i64 vk,.int .i64 vn,.string (aj vs),.slice aa xs.length cc]) k op tb nm ⟨vk,vn,vs⟩ xs rfl _ _ wr ⟨k,op,tb,nm,vk,vn,vs,xs,aa,xs.length,cc,rfl,rfl,HAA.out.to (R:=fun _=>False) (ak.aA zl.out) (fun b hb _=>⟨id,hb⟩)⟩ hki Vi.out HKK.out)
    have hall : ¬aO (xs.map fun x=>(aI L x).2.2)≠0:=fun h=>h (fq.2 (by have:=HZ.out;rwa [aaU (by rw[List.length_map];omega)] at this))
    have IE:=HRQ.out
    rw[if_neg hall] at IE
    have abA:=hid IE
    obtain⟨fb,hfb⟩:∃fb,uU k op (xs.map fun x=>(aI L x).2.1)=fb:=⟨_,rfl⟩
    rw[hfb] at HF IE
    have HG9:=hid Vs
    have HAS:=hid has
    clear HI HZ hall hki Vs has hfb HRQ abA
    cases fb with
    |
     false =>
     rw[if_neg (by simp)] at IE
     have HE:=hid IE
     clear IE HAS HG9
     go_wp2_with fail
     refine HF.out.mono ?_
     rintro e w2 ⟨rfl,hb2⟩
     have hlA:w.heap.size+1<wr.heap.size:=by have:=HG.out;omega
     have hc2:=(hb2.block (w.heap.size+1) hlA).trans HA1.out
     have HB2:=hid (cK (zl.out.trans (hb2.mono zl.out.size)) (Nat.le_succ w.heap.size) eT)
     have XD:=hid (setRow_heap w2 (w.heap.size+1) _ eT _ _ hc2)
     clear hb2 HF kA
     go_wp2_with (first
      | (refine lC hc2 ?_)
      | fail)
     exact bodyPost_ret (v:=.tuple #[.agg eT,.int .i64 0,.int .i64 9]) (by simp[results,Tryz.results75,go_sem,aG XD.out]) rfl ⟨_,by rw[← HE.out],by rw[← HE.out];exact uY _ _,HB2.out⟩
    |
     true =>
     rw[if_pos rfl] at IE
     have HE:=hid IE
     clear IE
     go_wp2_with fail
     refine HF.out.mono ?_
     rintro e w2 ⟨rfl,hb2⟩
     have hlA:w.heap.size+1<wr.heap.size:=by have:=HG.out;omega
     have hlG:W.heap.size<wr.heap.size:=by have:=HG.out;omega
     have hc2:=(hb2.block (w.heap.size+1) hlA).trans HA1.out
     have kG:=aG ((hb2.block W.heap.size hlG).trans HG9.out)
     have HB2:=hid (cK (zl.out.trans (hb2.mono zl.out.size)) (Nat.le_succ w.heap.size) (Fp k op (.slice a9 n9 c9)))
     have XD:=hid (setRow_heap w2 (w.heap.size+1) _ (Fp k op (.slice a9 n9 c9)) _ _ hc2)
     have tN:Hid (bA (fun b=>w.heap.size≤b) (w2.setRow (w.heap.size+1) (Fp k op (.slice a9 n9 c9))) (xs.map fun x=>(aI L x).1) (.slice a9 n9 c9)):=hid ((HAS.out.to (T:=fun b=>Y0.heap.size≤b) (R:=fun _=>False) (ak.aA hb2) (fun b hb _=>⟨id,hb⟩)).to (R:=fun b=>b=w.heap.size+1) (ak.setRow (S:=fun b=>b=w.heap.size+1) (ak.refl _ w2) (p:=w.heap.size+1) (.inl rfl) _) (fun b hb _=>⟨by have:=HG.out;have:Y0.heap.size≤b:=hb;show ¬b=_;omega,by have:=HG.out;have:Y0.heap.size≤b:=hb;show _≤b;omega⟩))
     clear hb2 HF kA HG9 HAS
     go_wp2_with (first
      | (refine lC hc2 ?_)
      | fail)
     exact bodyPost_ret (v:=.tuple #[.agg (Fp k op (.slice a9 n9 c9)),.int .i64 1,.int .i64 0]) (by simp[results,Tryz.results75,go_sem,aG XD.out]) rfl ⟨_,by rw[← HE.out],by rw[← HE.out];exact⟨k,op,[],[],0,0,[],_,a9,n9,c9,rfl,rfl,tN.out⟩,HB2.out⟩
theorem jU (S T:Nat→Prop) (L:List Tb) (x:Ex) (lv v:Value) (w:World) (hr:aF x=true) (hx:gH T w x v) (hl:aM 3 fG S w L lv) (hK : ∀t∈L,mR t) (hn:L.length≤100) :
  Calls Tryz.prog 75 #[lv,v] w fun e w'=>∃u,e = .returned (.tuple #[u,.int .i64 (aI L x).2.1,.int .i64 (aI L x).2.2])∧gH (fun b=>w.heap.size≤b) w' (aI L x).1 u∧Below w.heap.size w w' :=
 Mj L hK hn _ x (Nat.lt_succ_self _) hr S T w lv v hx hl
theorem EU (L:List Tb) {es:List Ex} (h1:es.length≤1):fE L es=match es with | []=>0 | e::_=>sS L e:=by
 match es,h1 with
 | [],_=>rfl
 |
  [e],_ =>
  unfold fE
  show aO [sS L e]=_
  unfold aO
  by_cases h:sS L e=0
  ·simp[h,aO]
  ·simp[h]
end Go.Proofs.YtfeglkleoijlaaaGreatDoor
