/- Packed for the hand-in: KBindT KCond -/
import Derived.Test.YtfeglkleoijlaaaGreatDoorZ36
namespace Go.Proofs.YtfeglkleoijlaaaGreatDoor
open Go.RowKit Go.Shelf
set_option linter.unusedSimpArgs false
set_option linter.unusedVariables false
set_option maxRecDepth 20000
set_option maxHeartbeats 8000000
theorem xV (x:Ex):((qy x).2=4)↔aJ x=false:=by
 unfold qy
 cases h:aJ x with
 |
  true =>
  rw[if_pos rfl]
  unfold mo
  split
  ·simp
  ·split<;>simp
 | false=>rw[if_neg (by simp)];simp
theorem x9 (w:World) (A B C:Obj):∃W,((w.alloc A).alloc B).alloc C=W∧Below w.heap.size w W∧W.heap.size=w.heap.size+3∧W.heap[w.heap.size]?=some A∧W.heap[w.heap.size+1]?=some B∧W.heap[w.heap.size+2]?=some C:=by
 obtain⟨W1,h1,b1,z1,c1⟩:=aL w A
 obtain⟨W2,h2,b2,z2,c2⟩:=aL W1 B
 obtain⟨W3,h3,b3,z3,c3⟩:=aL W2 C
 have e1:W1.heap.size=w.heap.size+1:=by rw[← h1];simp
 have e2:W2.heap.size=w.heap.size+2:=by rw[← h2];simp[e1]
 have e3:W3.heap.size=w.heap.size+3:=by rw[← h3];simp[e2]
 have b12:=b1.trans (b2.mono b1.size)
 refine ⟨W3,by rw[h1,h2,h3],b12.trans (b3.mono b12.size),e3,?_,?_,?_⟩
 ·exact (b3.block _ (by omega)).trans ((b2.block _ (by omega)).trans c1)
 ·rw[← e1];exact (b3.block _ (by omega)).trans c2
 ·rw[← e2];exact c3
theorem Tryz.EL:(Tryz.prog.info? 86).map (·.size)=some 1:=by kernel_rfl
theorem fM (S T:Nat→Prop) (L:List Tb) (x:Ex) (lv v:Value) (w:World) (hW:eH w) (hR:jD x) (hx:fB T w x v) (hl:aQ 3 dK S w L lv) (hK : ∀t∈L,oo t) (hn:L.length≤100) (hz:aJ x=true→jE x≤1000000) :
  Calls Tryz.prog 12 #[lv,v] w fun e w'=>∃u,e = .returned (.tuple #[u,.int .i64 (eX L x).2.1,.int .i64 (eX L x).2.2])∧fB (fun b=>w.heap.size≤b) w' (eX L x).1 u∧Below w.heap.size w w':=by
 have hx0:=hx
 obtain⟨k,op,tb,nm,vk,vn,vs,ys,aa,nn,cc,he,rfl,ha⟩:=hx
 obtain⟨la,ln,lc,rfl⟩:∃a n c,lv = .slice a n c:=by
  obtain⟨a,c,e⟩:=hl.form
  exact⟨_,_,_,e⟩
 obtain⟨W,hW3,hbW,hzW,hc0,hc1,hc2⟩:=x9 w (.cells #[.slice la ln lc] 22) (.cells #[.int .i64 k,.int .i64 op,.string (aj tb),.string (aj nm),.int .i64 vk,.int .i64 vn,.string (aj vs),.slice aa nn cc] 48) (.cells bS 48)
 have k1:=aN hc1
 have HX:=hid hx0
 have HP:=hid (rC T x _ W (hW.on hbW) hR (hx0.new hbW) hz)
 have HC0:=hid hc0
 have HC1:=hid hc1
 have HC2:=hid hc2
 have HB:=hid hbW
 have HL:=hid hl
 have HK:=hid hK
 have h4:=xV x
 generalize (qy x).2=c at HP h4
 generalize aj (qy x).1=sx at HP
 unfold eX
 clear hc0 hc1 hc2 hbW hx0 he ha hR hz hl hW hK
 cases hr:aJ x with
 |
  false =>
  obtain rfl:=h4.2 hr
  rw[if_neg (by simp)]
  clear h4 hr
  go_enter Tryz.func12,Tryz.ntmps12
  go_wp2_with fail
  try rw[hW3]
  refine HP.out.mono ?_
  rintro e w1 ⟨rfl,hb1⟩
  have hcz:=(hb1.block (w.heap.size+2) (by omega)).trans HC2.out
  have HB1:=HB.out.trans (hb1.mono HB.out.size)
  have HB2:=hid (dA HB1 (Nat.le_add_right w.heap.size 2) bS)
  have HZ:=hid (setRow_heap w1 (w.heap.size+2) _ bS _ _ hcz)
  clear hb1 HP HB1 k1
  go_wp2_with (first | (refine wpList_store_row rfl 48 (.tmp 4) (.tmp 17) rfl (w.heap.size+2) bS rfl rfl 48 bS hcz Tryz.bA rfl iZ ?_) | fail)
  exact bodyPost_ret (v:=.tuple #[.agg bS,.int .i64 0,.int .i64 4]) (by simp[results,Tryz.results12,go_sem,aN HZ.out]) rfl ⟨_,rfl,vG _ _,HB2.out⟩
 |
  true =>
  have hc4:(c==4)=false:=by
   rw[beq_eq_false_iff_ne]
   intro e
   rw[h4.1 e] at hr
   cases hr
  rw[if_pos rfl]
  have HBA:=hid (zT L (SizeOf.sizeOf x+1) x (Nat.lt_succ_self _) hr)
  clear h4 hr
  obtain⟨R,hR⟩:∃R,aR L x=R:=⟨_,rfl⟩
  rw[hR]
  have HRR:=hid hR
  clear hR
  go_enter Tryz.func12,Tryz.ntmps12
  go_wp2_with fail
  try rw[hW3]
  refine HP.out.mono ?_
  rintro e w1 ⟨rfl,hb1⟩
  obtain⟨Y,hY,hbY,hzY,hcY⟩:=aL w1 (.cells #[Jb w.heap.size w1.heap.size] 86)
  have hs1:=hb1.size
  have HB1:=hid (HB.out.trans (hb1.mono HB.out.size))
  have HBY:=hid (HB1.out.trans (hbY.mono HB1.out.size))
  have hcA:=(hbY.block w.heap.size (by omega)).trans ((hb1.block w.heap.size (by omega)).trans HC0.out)
  have hcE:=(hbY.block (w.heap.size+1) (by omega)).trans ((hb1.block (w.heap.size+1) (by omega)).trans HC1.out)
  have HCR:=hid ((hbY.block (w.heap.size+2) (by omega)).trans ((hb1.block (w.heap.size+2) (by omega)).trans HC2.out))
  have kE:=aN hcE
  have kF:Y.cell? ⟨w1.heap.size,0,none⟩=some (Jb w.heap.size w1.heap.size):=by rw[aD _ _ _ _ _ _ hcY];rfl
  have hCtx:Ag Y w.heap.size w1.heap.size S L:=⟨⟨_,by rw[aD _ _ _ _ _ _ hcA];rfl,HL.out.to (by decide) (R:=fun _=>False) (aA.aC HBY.out) (fun b hb _=>⟨id,hb⟩) (fun _ _ e=>e.on HBY.out)⟩,kF,⟨by omega,hzY⟩,HK.out,hn⟩
  have HXY:=hid (HX.out.to (T:=T) (R:=fun _=>False) (aA.aC HBY.out) (fun b hb _=>⟨id,hb⟩))
  have HCB:=hid (HBA.out S T w.heap.size w1.heap.size Y _ HXY.out hCtx)
  rw[HRR.out] at HCB
  clear hb1 HP hbY hcY hcA hcE hCtx k1 HBA
  go_wp2_with (first | (refine wpList_store_oneTo rfl 86 (.tmp 9) (.tmp 18) rfl rfl w1.heap.size (Jb w.heap.size w1.heap.size) rfl rfl rfl 86 _ (heap_alloc_new w1 _) Tryz.EL ?_;rw[aB,hY];clear hY) | fail)
  refine HCB.out.mono ?_
  rintro e w2 ⟨u,rfl,hxu,hb2⟩
  have hxu2:=hxu
  obtain⟨k2,op2,tb2,nm2,vk2,vn2,vs2,ys2,aa2,nn2,cc2,hXe,rfl,hxa2⟩:=hxu
  have hcz:=(hb2.block (w.heap.size+2) (by omega)).trans HCR.out
  have HZ:=hid (setRow_heap w2 (w.heap.size+2) _ #[.int .i64 k2,.int .i64 op2,.string (aj tb2),.string (aj nm2),.int .i64 vk2,.int .i64 vn2,.string (aj vs2),.slice aa2 nn2 cc2] _ _ hcz)
  have HB2:=hid (dA (HBY.out.trans (hb2.mono HBY.out.size)) (Nat.le_add_right w.heap.size 2) #[.int .i64 k2,.int .i64 op2,.string (aj tb2),.string (aj nm2),.int .i64 vk2,.int .i64 vn2,.string (aj vs2),.slice aa2 nn2 cc2])
  have HX2:Hid (fB (fun b=>w.heap.size≤b) (w2.setRow (w.heap.size+2) #[.int .i64 k2,.int .i64 op2,.string (aj tb2),.string (aj nm2),.int .i64 vk2,.int .i64 vn2,.string (aj vs2),.slice aa2 nn2 cc2]) R.1 (.agg #[.int .i64 k2,.int .i64 op2,.string (aj tb2),.string (aj nm2),.int .i64 vk2,.int .i64 vn2,.string (aj vs2),.slice aa2 nn2 cc2])):=hid (hxu2.to (R:=fun b=>b=w.heap.size+2) (aA.setRow (S:=fun b=>b=w.heap.size+2) (aA.refl _ w2) (p:=w.heap.size+2) (.inl rfl) _) (fun b hb _=>⟨by show ¬b=_;omega,by show _≤b;omega⟩))
  clear hb2 HCB hxu2 hXe hxa2 kE kF
  go_wp2_with (first | (refine wpList_store_row rfl 48 (.tmp 4) (.tmp 22) rfl (w.heap.size+2) #[.int .i64 k2,.int .i64 op2,.string (aj tb2),.string (aj nm2),.int .i64 vk2,.int .i64 vn2,.string (aj vs2),.slice aa2 nn2 cc2] rfl rfl 48 bS hcz Tryz.bA rfl (bE _ _ _ _ _ _ _ _ _ _) ?_) | fail)
  exact bodyPost_ret (v:=.tuple #[.agg #[.int .i64 k2,.int .i64 op2,.string (aj tb2),.string (aj nm2),.int .i64 vk2,.int .i64 vn2,.string (aj vs2),.slice aa2 nn2 cc2],.int .i64 R.2.1,.int .i64 R.2.2]) (by simp[results,Tryz.results12,go_sem,aN HZ.out]) rfl ⟨_,rfl,HX2.out,HB2.out⟩
theorem jJ (S:Nat→Prop) (fr:Nat) (pre post:Array Value) (eg : ∀args w,(callFunc fr args).run Tryz.prog w = .ok (.enter fr args) w) (f:Ex→Int) (xs:List (Ex)) (v:Value) (w:World) (hv:aQ 8 gu S w xs v)
  (HF:Hid (∀x∈xs,∀V,Below w.heap.size w V→∀ds,gu S V x ds→Calls Tryz.prog fr (pre++#[.agg ds.toArray]++post) V fun e w'=>e = .returned (.int .i64 (f x))∧Below V.heap.size V w')) :
  Calls Tryz.prog 23 #[v,.func (.func fr) pre post] w fun e w'=>e = .returned (.int .i64 (aX (xs.map f)))∧Below w.heap.size w w':=by
 refine (lM S fr pre post eg (fun _ V=>Below w.heap.size w V) (fun V=>Below w.heap.size w V) xs (xs.map f) v w (by simp) (Below.refl _ _)
  (hid fun i V hb=>hv.to (by decide) (R:=fun _=>False) (aA.aC hb) (fun b hb _=>⟨id,hb⟩) (fun _ _ e=>e.to (R:=fun _=>False) (aA.aC hb) (fun b hb _=>⟨id,hb⟩)))
  (hid fun i V U h hb=>h.trans (hb.mono h.size))
  (hid fun i x c hx hc V hV ds hds=>(HF.out x (List.mem_of_getElem? hx) V hV ds hds).mono ?_)).mono ?_
 ·rintro e w' ⟨rfl,hb⟩
  rw[List.getElem?_map,hx] at hc
  obtain rfl:f x=c:=by simpa using hc
  exact⟨rfl,fun _=>hV.trans (hb.mono hV.size),fun _=>hV.trans (hb.mono hV.size)⟩
 ·rintro e w' ⟨rfl,h1,h2⟩
  refine ⟨rfl,?_⟩
  by_cases h:aX (xs.map f)=0
  ·exact h1 h
  ·exact h2 h
theorem vF (S:Nat→Prop) (fr:Nat) (pre post:Array Value) (eg : ∀args w,(callFunc fr args).run Tryz.prog w = .ok (.enter fr args) w) (f:It→Int) (xs:List (It)) (v:Value) (w:World) (hv:aQ 2 qo S w xs v)
  (HF:Hid (∀x∈xs,∀V,Below w.heap.size w V→∀ds,qo S V x ds→Calls Tryz.prog fr (pre++#[.agg ds.toArray]++post) V fun e w'=>e = .returned (.int .i64 (f x))∧Below V.heap.size V w')) :
  Calls Tryz.prog 63 #[v,.func (.func fr) pre post] w fun e w'=>e = .returned (.int .i64 (aX (xs.map f)))∧Below w.heap.size w w':=by
 refine (yK S fr pre post eg (fun _ V=>Below w.heap.size w V) (fun V=>Below w.heap.size w V) xs (xs.map f) v w (by simp) (Below.refl _ _)
  (hid fun i V hb=>hv.to (by decide) (R:=fun _=>False) (aA.aC hb) (fun b hb _=>⟨id,hb⟩) (fun _ _ e=>e.to (R:=fun _=>False) (aA.aC hb) (fun b hb _=>⟨id,hb⟩)))
  (hid fun i V U h hb=>h.trans (hb.mono h.size))
  (hid fun i x c hx hc V hV ds hds=>(HF.out x (List.mem_of_getElem? hx) V hV ds hds).mono ?_)).mono ?_
 ·rintro e w' ⟨rfl,hb⟩
  rw[List.getElem?_map,hx] at hc
  obtain rfl:f x=c:=by simpa using hc
  exact⟨rfl,fun _=>hV.trans (hb.mono hV.size),fun _=>hV.trans (hb.mono hV.size)⟩
 ·rintro e w' ⟨rfl,h1,h2⟩
  refine ⟨rfl,?_⟩
  by_cases h:aX (xs.map f)=0
  ·exact h1 h
  ·exact h2 h
theorem wU (S:Nat→Prop) (fr:Nat) (pre post:Array Value) (eg : ∀args w,(callFunc fr args).run Tryz.prog w = .ok (.enter fr args) w) (f:List Vl→Int) (xs:List (List Vl)) (v:Value) (w:World) (hv:aQ 1 yV S w xs v)
  (HF:Hid (∀x∈xs,∀V,Below w.heap.size w V→∀ds,yV S V x ds→Calls Tryz.prog fr (pre++#[(ds.headD undef)]++post) V fun e w'=>e = .returned (.int .i64 (f x))∧Below V.heap.size V w')) :
  Calls Tryz.prog 52 #[v,.func (.func fr) pre post] w fun e w'=>e = .returned (.int .i64 (aX (xs.map f)))∧Below w.heap.size w w':=by
 refine (xS S fr pre post eg (fun _ V=>Below w.heap.size w V) (fun V=>Below w.heap.size w V) xs (xs.map f) v w (by simp) (Below.refl _ _)
  (hid fun i V hb=>hv.to (by decide) (R:=fun _=>False) (aA.aC hb) (fun b hb _=>⟨id,hb⟩) (fun _ _ e=>e.to (R:=fun _=>False) (aA.aC hb) (fun b hb _=>⟨id,hb⟩)))
  (hid fun i V U h hb=>h.trans (hb.mono h.size))
  (hid fun i x c hx hc V hV ds hds=>(HF.out x (List.mem_of_getElem? hx) V hV ds hds).mono ?_)).mono ?_
 ·rintro e w' ⟨rfl,hb⟩
  rw[List.getElem?_map,hx] at hc
  obtain rfl:f x=c:=by simpa using hc
  exact⟨rfl,fun _=>hV.trans (hb.mono hV.size),fun _=>hV.trans (hb.mono hV.size)⟩
 ·rintro e w' ⟨rfl,h1,h2⟩
  refine ⟨rfl,?_⟩
  by_cases h:aX (xs.map f)=0
  ·exact h1 h
  ·exact h2 h
def dS (x:Ex):Prop:=aJ x=true∧jD x∧jE x≤1000000
theorem Ar (S T:Nat→Prop) (L:List Tb) (x:Ex) (v sv:Value) (b:Nat) (w:World) (hW:eH w) (hg:dS x) (hx:fB T w x v) (hb:w.cell? ⟨b,0,none⟩=some sv) (hb2:b<w.heap.size) (hl:aQ 3 dK S w L sv) (hK : ∀t∈L,oo t) (hn:L.length≤100) :
  Calls Tryz.prog 58 #[v,.pointer (some ⟨b,0,none⟩)] w fun e w'=>e = .returned (.int .i64 (zP L x))∧Below w.heap.size w w':=by
 have hx0:=hx
 obtain⟨k,op,tb,nm,vk,vn,vs,ys,aa,nn,cc,he,rfl,ha⟩:=hx
 obtain⟨la,ln,lc,rfl⟩:∃a n c,sv = .slice a n c:=by
  obtain⟨a,c,e⟩:=hl.form
  exact⟨_,_,_,e⟩
 obtain⟨W,hWW,hbW,hzW,hcW⟩:=aL w (.cells #[.int .i64 k,.int .i64 op,.string (aj tb),.string (aj nm),.int .i64 vk,.int .i64 vn,.string (aj vs),.slice aa nn cc] 48)
 have k0:=aN hcW
 have kb:=(hbW.cell (p:=⟨b,0,none⟩) hb2).trans hb
 have HBI:=hid (fM S T L x (.slice la ln lc) _ W (hW.on hbW) hg.2.1 (hx0.new hbW) (hl.to (by decide) (R:=fun _=>False) (aA.aC hbW) (fun b hb _=>⟨id,hb⟩) (fun _ _ e=>e.on hbW)) hK hn (fun _=>hg.2.2))
 have hT:eX L x=aR L x:=by unfold eX;rw[if_pos hg.1]
 rw[hT] at HBI
 have HB:=hid hbW
 unfold zP
 generalize aR L x=R at HBI ⊢
 obtain⟨X,kk,c⟩:=R
 dsimp only at HBI ⊢
 clear hbW hcW hx0 he ha hb hl hK hg hT hW
 by_cases hc:c=0
 ·subst hc
  by_cases hk:kk=2
  ·subst hk
   rw[if_pos ⟨rfl,rfl⟩]
   go_enter Tryz.func58,Tryz.ntmps58
   go_wp2_with fail
   try rw[hWW]
   refine HBI.out.mono ?_
   rintro e w1 ⟨u,rfl,hxu,hb1⟩
   obtain⟨k2,op2,tb2,nm2,vk2,vn2,vs2,ys2,aa2,nn2,cc2,_,rfl,_⟩:=hxu
   obtain⟨Y,hY,hbY,hzY,hcY⟩:=aL w1 (.cells #[.int .i64 k2,.int .i64 op2,.string (aj tb2),.string (aj nm2),.int .i64 vk2,.int .i64 vn2,.string (aj vs2),.slice aa2 nn2 cc2] 48)
   have HB1:=HB.out.trans (hb1.mono HB.out.size)
   have HBY:=hid (HB1.trans (hbY.mono HB1.size))
   clear hb1 hbY hcY HB1 HBI k0 kb
   go_wp2_with (first | (refine wpList_store_row rfl 48 (.tmp 4) (.tmp 11) rfl w1.heap.size #[.int .i64 k2,.int .i64 op2,.string (aj tb2),.string (aj nm2),.int .i64 vk2,.int .i64 vn2,.string (aj vs2),.slice aa2 nn2 cc2] rfl rfl 48 bS (heap_alloc_new w1 _) Tryz.bA rfl (bE _ _ _ _ _ _ _ _ _ _) ?_;rw[aB,hY];clear hY) | fail)
   go_ret
   exact⟨rfl,HBY.out⟩
  ·rw[if_neg (fun h=>hk h.2)]
   have hk':(kk==2)=false:=by rw[beq_eq_false_iff_ne];exact hk
   clear hk
   go_enter Tryz.func58,Tryz.ntmps58
   go_wp2_with fail
   try rw[hWW]
   refine HBI.out.mono ?_
   rintro e w1 ⟨u,rfl,hxu,hb1⟩
   obtain⟨k2,op2,tb2,nm2,vk2,vn2,vs2,ys2,aa2,nn2,cc2,_,rfl,_⟩:=hxu
   obtain⟨Y,hY,hbY,hzY,hcY⟩:=aL w1 (.cells #[.int .i64 k2,.int .i64 op2,.string (aj tb2),.string (aj nm2),.int .i64 vk2,.int .i64 vn2,.string (aj vs2),.slice aa2 nn2 cc2] 48)
   have HB1:=HB.out.trans (hb1.mono HB.out.size)
   have HBY:=hid (HB1.trans (hbY.mono HB1.size))
   clear hb1 hbY hcY HB1 HBI k0 kb
   go_wp2_with (first | (refine wpList_store_row rfl 48 (.tmp 4) (.tmp 11) rfl w1.heap.size #[.int .i64 k2,.int .i64 op2,.string (aj tb2),.string (aj nm2),.int .i64 vk2,.int .i64 vn2,.string (aj vs2),.slice aa2 nn2 cc2] rfl rfl 48 bS (heap_alloc_new w1 _) Tryz.bA rfl (bE _ _ _ _ _ _ _ _ _ _) ?_;rw[aB,hY];clear hY) | fail)
   go_ret
   exact⟨rfl,HBY.out⟩
 ·rw[if_neg (fun h=>hc h.1)]
  have hc':(c==0)=false:=by rw[beq_eq_false_iff_ne];exact hc
  clear hc
  go_enter Tryz.func58,Tryz.ntmps58
  go_wp2_with fail
  try rw[hWW]
  refine HBI.out.mono ?_
  rintro e w1 ⟨u,rfl,hxu,hb1⟩
  obtain⟨k2,op2,tb2,nm2,vk2,vn2,vs2,ys2,aa2,nn2,cc2,_,rfl,_⟩:=hxu
  obtain⟨Y,hY,hbY,hzY,hcY⟩:=aL w1 (.cells #[.int .i64 k2,.int .i64 op2,.string (aj tb2),.string (aj nm2),.int .i64 vk2,.int .i64 vn2,.string (aj vs2),.slice aa2 nn2 cc2] 48)
  have HB1:=HB.out.trans (hb1.mono HB.out.size)
  have HBY:=hid (HB1.trans (hbY.mono HB1.size))
  clear hb1 hbY hcY HB1 HBI k0 kb
  go_wp2_with (first | (refine wpList_store_row rfl 48 (.tmp 4) (.tmp 11) rfl w1.heap.size #[.int .i64 k2,.int .i64 op2,.string (aj tb2),.string (aj nm2),.int .i64 vk2,.int .i64 vn2,.string (aj vs2),.slice aa2 nn2 cc2] rfl rfl 48 bS (heap_alloc_new w1 _) Tryz.bA rfl (bE _ _ _ _ _ _ _ _ _ _) ?_;rw[aB,hY];clear hY) | fail)
  go_ret
  exact⟨rfl,HBY.out⟩
theorem pR (a:Option Addr) (n c:Nat) (w:World):Calls Tryz.prog 24 #[.slice a n c] w fun e w'=>e = .returned (.func (.func 58) #[] #[.pointer (some ⟨w.heap.size,0,none⟩)])∧w'.heap[w.heap.size]?=some (.cells #[.slice a n c] 22)∧Below w.heap.size w w':=by
 obtain⟨W,hWW,hbW,hzW,hcW⟩:=aL w (.cells #[.slice a n c] 22)
 have HB:=hid hbW
 have HC:=hid hcW
 clear hbW hcW
 go_enter Tryz.func24,Tryz.ntmps24
 go_wp2_with fail
 try rw[hWW]
 go_ret
 exact⟨rfl,HC.out,HB.out⟩
theorem nu (S T:Nat→Prop) (L:List Tb) (xs:List Ex) (v sv:Value) (b:Nat) (w:World) (hW:eH w) (hg : ∀x∈xs,dS x) (hx:aQ 8 gu T w xs v) (hb:w.cell? ⟨b,0,none⟩=some sv) (hb2:b<w.heap.size) (hl:aQ 3 dK S w L sv) (hK : ∀t∈L,oo t) (hn:L.length≤100) :
  Calls Tryz.prog 23 #[v,.func (.func 58) #[] #[.pointer (some ⟨b,0,none⟩)]] w fun e w'=>e = .returned (.int .i64 (iB L xs))∧Below w.heap.size w w' :=
 jJ T 58 #[] #[.pointer (some ⟨b,0,none⟩)] (enters_of Tryz.func58 (by kernel_rfl) rfl) (zP L) xs v w hx
  (hid fun x hxm V hV ds hds=>Ar S T L x _ sv b V (hW.on hV) (hg x hxm) hds.v ((hV.cell (p:=⟨b,0,none⟩) hb2).trans hb) (Nat.lt_of_lt_of_le hb2 hV.size) (hl.to (by decide) (R:=fun _=>False) (aA.aC hV) (fun b hb _=>⟨id,hb⟩) (fun _ _ e=>e.on hV)) hK hn)
theorem Tryz.uV:(Tryz.prog.info? 46).map (·.size)=some 3:=by kernel_rfl
theorem qK {t:Tb} {r:List Vl} (hl:r.length=t.cols.length):oJ t r=true↔∀(i:Nat) (v:Vl) (c:Co),r[i]?=some v→t.cols[i]?=some c→v.k=0∨v.k=c.k:=by
 unfold oJ
 rw[List.all_eq_true]
 constructor
 ·intro h i v c hv hc
  have:=h (v,c) (by
   rw[List.mem_iff_getElem?]
   exact⟨i,by rw[List.getElem?_zip_eq_some];exact⟨hv,hc⟩⟩)
  simpa using this
 ·rintro h ⟨v,c⟩ hm
  obtain⟨i,hi⟩:=List.mem_iff_getElem?.1 hm
  rw[List.getElem?_zip_eq_some] at hi
  simpa using h i v c hi.1 hi.2
theorem xB (S T:Nat→Prop) (t:Tb) (r:List Vl) (v:Value) (cs:List Value) (b:Nat) (w:World) (hr:aQ 3 Aq T w r v) (ht:dK S w t cs) (hc:w.heap[b]?=some (.cells cs.toArray 42)) (hK:oo t) :
  Calls Tryz.prog 53 #[v,.pointer (some ⟨b,0,none⟩)] w fun e w'=>e = .returned (.int .i64 (CO t r))∧Below w.heap.size w w':=by
 obtain⟨a2,n2,c2,rfl,hsl⟩:=ht
 have hn2:n2=t.cols.length:=by obtain⟨_,_,hf⟩:=hsl.form;simp only[Value.slice.injEq] at hf;exact hf.2.1
 subst hn2
 have HR:=hid hr
 obtain⟨aa,cc,css,rfl,h1,h2,_⟩:=hr
 unfold maxLen at h2
 have k0:=aH hc
 have HC:=hid hc
 have HSL:=hid hsl
 have hb:=World.lt_of_block hc
 clear hc hsl
 unfold CO
 by_cases hl:r.length=t.cols.length
 ·rw[if_neg (fun h=>h hl)]
  have hli:(((r.length:Nat):Int)==(t.cols.length:Int))=true:=by rw[beq_iff_eq];omega
  have hne:(((r.length:Nat):Int) != (t.cols.length:Int))=false:=by rw[bne,hli];rfl
  obtain⟨R,hR⟩:∃R,(if oJ t r=true then (0:Int) else 9)=R:=⟨_,rfl⟩
  rw[hR]
  have HRR:=hid hR
  have HL:=hid hl
  clear hR hl
  go_enter Tryz.func53,Tryz.ntmps53
  go_wp2_with fail
  go_loopw [4,5,14] (fun _ _ i wr=>∃(m:Nat),m≤r.length∧i = .int .i64 m∧Hid (Below w.heap.size w wr)∧Hid (∀(j:Nat) (v:Vl) (c:Co),j<m→r[j]?=some v→t.cols[j]?=some c→v.k=0∨v.k=c.k)) (fun _ _ i _=>r.length-(intOf i).toNat)
  case atStart=>exact⟨0,Nat.zero_le _,rfl,hid (Below.refl _ _),hid (fun j v c h=>absurd h (Nat.not_lt_zero _))⟩
  case round =>
   obtain⟨m,hm,rfl,HB,HQ⟩:=hrel
   by_cases hlt:m<r.length
   ·obtain⟨x,hx⟩:∃x,r[m]?=some x:=⟨_,List.getElem?_eq_getElem hlt⟩
    obtain⟨y,hy⟩:∃y,t.cols[m]?=some y:=⟨_,List.getElem?_eq_getElem (by have:=HL.out;omega)⟩
    have hlt':((m:Int)<(r.length:Int)):=by omega
    have hlc':((m:Int)<(t.cols.length:Int)):=by have:=HL.out;omega
    obtain⟨_,_,_,b1,o1,d1,rfl,_,hx1,g1⟩:=bN (HR.out.to (T:=T) (by decide) (R:=fun _=>False) (aA.aC HB.out) (fun b hb _=>⟨id,hb⟩) (fun _ _ e=>e)) hx
    obtain rfl:d1=[.int .i64 x.k,.int .i64 x.n,.string (aj x.s)]:=hx1
    have q0:=g1 0 _ rfl
    have q1:=g1 1 _ rfl
    have q2:=g1 2 _ rfl
    simp only[Nat.add_zero] at q0
    obtain⟨_,_,_,b2,o2,d2,rfl,_,hy1,g2⟩:=bN (HSL.out.to (T:=S) (by decide) (R:=fun _=>False) (aA.aC HB.out) (fun b hb _=>⟨id,hb⟩) (fun _ _ e=>e)) hy
    obtain rfl:d2=[.string (aj y.nm),.int .i64 y.k,.bool y.nn,.bool y.uq]:=hy1
    have p1:=g2 1 _ rfl
    have hb2:=World.block_lt_of_cell? wr _ p1
    obtain⟨U,hU,hbU,hzU,hcU⟩:=aL wr (.cells #[.int .i64 x.k,.int .i64 x.n,.string (aj x.s)] 46)
    have kU:=aH hcU
    have kT:=aH ((hbU.block b (Nat.lt_of_lt_of_le hb HB.out.size)).trans ((HB.out.block b hb).trans HC.out))
    have pU:=(hbU.cell (p:=⟨b2,_,none⟩) hb2).trans p1
    have HBU:=hid (HB.out.trans (hbU.mono HB.out.size))
    have HSTEP:Hid (x.k=0∨x.k=y.k→∀(j:Nat) (v:Vl) (c:Co),j<m+1→r[j]?=some v→t.cols[j]?=some c→v.k=0∨v.k=c.k):=hid (fun hh j v c hj hv hc=>by
     rcases Nat.lt_or_ge j m with h | h
     ·exact HQ.out j v c h hv hc
     ·obtain rfl:j=m:=by omega
      rw[hx] at hv
      rw[hy] at hc
      cases hv;cases hc
      exact hh)
    have HBAD:Hid (¬(x.k=0∨x.k=y.k)→R=9):=hid (fun hh=>by rw[← HRR.out,if_neg (fun h=>hh ((qK HL.out).1 h m x y hx hy))])
    clear g1 g2 hbU hcU p1 hx hy HB HQ
    by_cases hz:x.k=0
    ·have hz1:(x.k != 0)=false:=by simp[hz]
     have hz2:(x.k==0)=true:=by simp[hz]
     have HQ2:=hid (HSTEP.out (.inl hz))
     clear HSTEP HBAD hz
     go_wp2_with (first | (refine wpList_store_row rfl 46 (.tmp 5) (.tmp 18) rfl wr.heap.size #[.int .i64 x.k,.int .i64 x.n,.string (aj x.s)] rfl rfl 46 #[.int .i64 0,.int .i64 0,.string ⟨#[]⟩] (heap_alloc_new wr _) Tryz.uV rfl rfl ?_;rw[aB,hU];clear hU) | fail)
     go_quiet (fail)
     have HB3:=hid (below_drewN HBU.out nq)
     go_wp2_with fail
     go_roundw
     case rel=>exact⟨m+1,by omega,by go_num,HB3,HQ2⟩
     case measure=>simp[intOf];omega
    ·have hz1:(x.k != 0)=true:=by simpa using hz
     have hz2:(x.k==0)=false:=by simpa using hz
     by_cases he:x.k=y.k
     ·have he1:(x.k != y.k)=false:=by simp[he]
      have he2:(x.k==y.k)=true:=by simp[he]
      have HQ2:=hid (HSTEP.out (.inr he))
      clear HSTEP HBAD hz he
      go_wp2_with (first | (refine wpList_store_row rfl 46 (.tmp 5) (.tmp 18) rfl wr.heap.size #[.int .i64 x.k,.int .i64 x.n,.string (aj x.s)] rfl rfl 46 #[.int .i64 0,.int .i64 0,.string ⟨#[]⟩] (heap_alloc_new wr _) Tryz.uV rfl rfl ?_;rw[aB,hU];clear hU) | fail)
      go_quiet (fail)
      have HB3:=hid (below_drewN HBU.out nq)
      go_wp2_with fail
      go_roundw
      case rel=>exact⟨m+1,by omega,by go_num,HB3,HQ2⟩
      case measure=>simp[intOf];omega
     ·have he1:(x.k != y.k)=true:=by simpa using he
      have he2:(x.k==y.k)=false:=by simpa using he
      have HR9:=hid (HBAD.out (fun h=>h.elim hz he))
      clear HSTEP HBAD hz he
      go_wp2_with (first | (refine wpList_store_row rfl 46 (.tmp 5) (.tmp 18) rfl wr.heap.size #[.int .i64 x.k,.int .i64 x.n,.string (aj x.s)] rfl rfl 46 #[.int .i64 0,.int .i64 0,.string ⟨#[]⟩] (heap_alloc_new wr _) Tryz.uV rfl rfl ?_;rw[aB,hU];clear hU) | fail)
      go_quiet (fail)
      have HB3:=hid (below_drewN HBU.out nq)
      go_wp2_with fail
      go_ret
      exact⟨by rw[HR9.out];rfl,HB3.out⟩
   ·have hlt' : ¬((m:Int)<(r.length:Int)):=by omega
    have HR0:Hid (R=0):=hid (by rw[← HRR.out,if_pos ((qK HL.out).2 (fun i v c hv hc=>HQ.out i v c (by have:=(List.getElem?_eq_some_iff.1 hv).1;omega) hv hc))])
    clear HQ
    go_wp2_with fail
    go_ret
    exact⟨by rw[HR0.out];rfl,HB.out⟩
 ·rw[if_pos hl]
  have hne:(((r.length:Nat):Int) != (t.cols.length:Int))=true:=by rw[bne_iff_ne];omega
  have hli:(((r.length:Nat):Int)==(t.cols.length:Int))=false:=by rw[beq_eq_false_iff_ne];omega
  clear hl
  go_enter Tryz.func53,Tryz.ntmps53
  go_wp2_with fail
  go_ret
  exact⟨rfl,Below.refl _ _⟩
theorem vR (S T:Nat→Prop) (t:Tb) (rows:List (List Vl)) (v:Value) (cs:List Value) (w:World) (hr:aQ 1 yV T w rows v) (ht:dK S w t cs) (hK:oo t) :
  Calls Tryz.prog 21 #[.agg cs.toArray,v] w fun e w'=>e = .returned (.int .i64 (lY t rows))∧Below w.heap.size w w':=by
 have ht0:=ht
 obtain⟨a2,n2,c2,rfl,hsl⟩:=ht
 obtain⟨W,hWW,hbW,hzW,hcW⟩:=aL w (.cells #[.string (aj t.nm),.slice a2 n2 c2,.int .i64 t.pr] 42)
 have HE:=hid (wU T 53 #[] #[.pointer (some ⟨w.heap.size,0,none⟩)] (enters_of Tryz.func53 (by kernel_rfl) rfl) (CO t) rows v W (hr.to (by decide) (R:=fun _=>False) (aA.aC hbW) (fun b hb _=>⟨id,hb⟩) (fun _ _ e=>e.to (R:=fun _=>False) (aA.aC hbW) (fun b hb _=>⟨id,hb⟩)))
  (hid fun r hrm V hV ds hds=>by
   obtain⟨aa,nn,cc,rfl,hs⟩:=hds
   exact xB S T t r _ _ w.heap.size V hs ((ht0.on hbW).on hV) ((hV.block _ hzW).trans hcW) hK))
 have HB:=hid hbW
 unfold lY
 generalize aX (rows.map (CO t))=R at HE ⊢
 obtain⟨va,vc,rfl⟩:∃a c,v = .slice a rows.length c:=hr.form
 clear hbW hcW ht0 hsl hr
 go_enter Tryz.func21,Tryz.ntmps21
 go_wp2_with fail
 try rw[hWW]
 refine HE.out.mono ?_
 rintro e w1 ⟨rfl,hb1⟩
 have HB1:=hid (HB.out.trans (hb1.mono HB.out.size))
 clear hb1 HE
 go_wp2_with fail
 go_ret
 exact⟨rfl,HB1.out⟩
end Go.Proofs.YtfeglkleoijlaaaGreatDoor
