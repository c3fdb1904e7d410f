/- Packed for the hand-in: PCol -/
import Derived.Test.YtaaggohjmhifbaaGreatDoorP10
namespace Go.Proofs.YtaaggohjmhifbaaGreatDoor
open Go.RowKit Go.Shelf
set_option linter.unusedSimpArgs false
set_option linter.unusedVariables false
set_option maxRecDepth 20000
set_option maxHeartbeats 8000000
theorem set8 {w:World} {b:Nat} {a0 a1 a2 a3 a4 a5 a6 a7:Value} {t:TypeId} (h:w.heap[b]?=some (.cells #[a0,a1,a2,a3,a4,a5,a6,a7] t)) (v0 v1 v2 v3 v4 v5 v6 v7:Value) :
  ((((((((w.setCell ⟨b,0,none⟩ v0).setCell ⟨b,1,none⟩ v1).setCell ⟨b,2,none⟩ v2).setCell ⟨b,3,none⟩ v3).setCell ⟨b,4,none⟩ v4).setCell ⟨b,5,none⟩ v5).setCell ⟨b,6,none⟩ v6).setCell ⟨b,7,none⟩ v7)=w.setRow b #[v0,v1,v2,v3,v4,v5,v6,v7]:=by
 have q : ∀cs,(w.setRow b cs).heap[b]?=some (.cells cs t):=fun cs=>setRow_heap w b _ cs t _ h
 rw[setCell_eq_setRow w b 0 _ t _ v0 h,setCell_eq_setRow _ b 1 _ t _ v1 (q _),setRow_setRow,setCell_eq_setRow _ b 2 _ t _ v2 (q _),setRow_setRow,setCell_eq_setRow _ b 3 _ t _ v3 (q _),setRow_setRow,setCell_eq_setRow _ b 4 _ t _ v4 (q _),setRow_setRow,setCell_eq_setRow _ b 5 _ t _ v5 (q _),setRow_setRow,setCell_eq_setRow _ b 6 _ t _ v6 (q _),setRow_setRow,setCell_eq_setRow _ b 7 _ t _ v7 (q _),setRow_setRow]
 simp only[List.setIfInBounds_toArray,List.set_cons_zero,List.set_cons_succ]
theorem set23 {w:World} {b:Nat} {a0 a1 a2 a3 a4 a5 a6 a7:Value} {t:TypeId} (h:w.heap[b]?=some (.cells #[a0,a1,a2,a3,a4,a5,a6,a7] t)) (v2 v3:Value) :
  ∃X,(w.setCell ⟨b,2,none⟩ v2).setCell ⟨b,3,none⟩ v3=X∧X.heap[b]?=some (.cells #[a0,a1,v2,v3,a4,a5,a6,a7] t)∧Spares (fun k=>k=b) w X:=by
 refine ⟨_,rfl,?_,((Spares.refl (fun k=>k=b) w).own _ _).own _ _⟩
 have q : ∀cs,(w.setRow b cs).heap[b]?=some (.cells cs t):=fun cs=>setRow_heap w b _ cs t _ h
 rw[setCell_eq_setRow w b 2 _ t _ v2 h,setCell_eq_setRow _ b 3 _ t _ v3 (q _),setRow_setRow,q]
 simp only[List.setIfInBounds_toArray,List.set_cons_zero,List.set_cons_succ]
theorem World.lt_of_block {w:World} {b:Nat} {o:Obj} (h:w.heap[b]?=some o):b<w.heap.size:=(Array.getElem?_eq_some_iff.1 h).1
theorem Tryz.exprInfo:(Tryz.prog.info? 130).map (·.size)=some 8:=by kernel_rfl
abbrev zBox:Obj:=.cells #[.int .i64 0,.int .i64 0,.string ⟨#[]⟩,.string ⟨#[]⟩,.int .i64 0,.int .i64 0,.string ⟨#[]⟩,.slice none 0 0] 130
theorem put_result {F g B:Nat} {w W:World} {r:Rd} {old cs:Array Value} {t:TypeId} {x:Ex} (hB:W.heap[B]?=some (.cells old t)) (hw:w.heap.size≤B) (hR:RdAt F W g r) (hF:Fr g w W) (hg:g<w.heap.size) (hx:ExV (fun b=>w.heap.size≤b∧b≠B) W x (.agg cs)) :
  (W.setRow B cs).heap[B]?=some (.cells cs t)∧ExV (fun b=>w.heap.size≤b) (W.setRow B cs) x (.agg cs)∧RdAt F (W.setRow B cs) g r∧Fr g w (W.setRow B cs):=by
 have hs:Spares (fun k=>k=B) W (W.setRow B cs):=Spares.setRow (S:=fun k=>k=B) (Spares.refl _ W) (p:=B) (.inl rfl) cs
 exact⟨setRow_heap W B old cs t _ hB,hx.to hs (fun b hb _=>⟨hb.2,hb.1⟩),hR.keeps hs (fun i hi e=>by omega),hF.setRow (.inr hw) cs⟩
theorem col_yes {r:Rd} (h:isR [46] (nameP r).2=true):colP r=(exCol (nameP r).1 (nameP (nextR (nameP r).2)).1,(nameP (nextR (nameP r).2)).2):=by
 unfold colP bindP ifP retP
 dsimp only
 rw[if_pos h]
theorem col_no {r:Rd} (h:isR [46] (nameP r).2=false):colP r=(exCol [] (nameP r).1,(nameP r).2):=by
 unfold colP bindP ifP retP
 dsimp only
 rw[if_neg (by rw[h];exact Bool.false_ne_true)]
theorem col_any (F:Nat) (C:Rd→Prop):RdsE F C 189 colP:=fun g r w h _=>by
 have hg:=h.lt
 obtain⟨W,hW,hbW,hzW,hcW⟩:=box8 w zBox
 have HCW:=hid hcW
 have HH:=hid (h.below hbW)
 have HF:=hid (Spares.of_new (S:=fun k=>k=g) hbW)
 have HN:=hid (name_any F g r W HH.out)
 cases hi:isR [46] (nameP r).2 with
 |
  false =>
  rw[col_no hi]
  dsimp only
  generalize (nameP r).1=n at HN ⊢
  generalize (nameP r).2=r1 at HN hi ⊢
  clear h hbW hcW
  go_enter Tryz.func189,Tryz.ntmps189
  go_wp2_with fail
  try rw[hW]
  clear hW
  refine HN.out.mono ?_
  rintro e w1 ⟨rfl,hr1,hf1⟩
  go_wp2_with fail
  obtain⟨V,hV,hbV,hzV,hcV⟩:=box8 w1 (.cells #[.int .i64 2,.int .i64 0,.string ⟨#[]⟩,.string (str8 n),.int .i64 0,.int .i64 0,.string ⟨#[]⟩,.slice none 0 0] 130)
  have hz1:=hf1.size
  have HV:=hid hcV
  have HRV:=hid (hr1.below hbV)
  have HFV:=hid ((HF.out.then hf1).thenNew hbV)
  have HB:=hid ((hbV.block _ (by omega)).trans ((hf1.block w.heap.size hzW (by omega)).trans HCW.out))
  have HS:Hid (Calls Tryz.prog 118 #[.pointer (some ⟨g,0,none⟩),.string ⟨#[46]⟩] V fun e w'=>e = .returned (.bool false)∧RdAt F w' g r1∧Fr g V w'):=hid (skip_no F g r1 V HRV.out [46] hi)
  clear hr1 hf1 hbV hcV HN hi
  rw[hV]
  clear hV
  refine HS.out.mono ?_
  rintro e w2 ⟨rfl,hr2,hf2⟩
  have hz2:=hf2.size
  have hb1:=(hf2.block w1.heap.size hzV (by omega)).trans HV.out
  have hb0:=(hf2.block w.heap.size (by omega) (by omega)).trans HB.out
  have k1:=cells8f hb1
  have k0:=cells8f hb0
  have HR2:=hid hr2
  have HF2:=hid (HFV.out.then hf2)
  have HB0:=hid hb0
  clear hr2 hf2 HS hb1 hb0
  go_wp2
  rw[set8 HB0.out]
  obtain⟨p1,p2,p3,p4⟩:=put_result (cs:=#[.int .i64 2,.int .i64 0,.string ⟨#[]⟩,.string (str8 n),.int .i64 0,.int .i64 0,.string ⟨#[]⟩,.slice none 0 0]) (x:=exCol [] n) HB0.out (Nat.le_refl _) HR2.out HF2.out hg ⟨2,0,[],n,0,0,[],[],_,_,_,rfl,rfl,.nil _ _ (by unfold maxLen;omega)⟩
  have kc:=cells8 p1
  exact bodyPost_ret (v:=.agg #[.int .i64 2,.int .i64 0,.string ⟨#[]⟩,.string (str8 n),.int .i64 0,.int .i64 0,.string ⟨#[]⟩,.slice none 0 0]) (by simp[results,Tryz.results189,go_sem,kc]) rfl ⟨_,rfl,p2,p3,p4⟩
 |
  true =>
  rw[col_yes hi]
  dsimp only
  obtain⟨n,hn⟩:∃n,(nameP r).1=n:=⟨_,rfl⟩
  obtain⟨r1,hr1e⟩:∃r1,(nameP r).2=r1:=⟨_,rfl⟩
  rw[hn,hr1e] at HN ⊢
  rw[hr1e] at hi
  have HN2:=hid (fun V (hV:RdAt F V g (nextR r1))=>name_any F g (nextR r1) V hV)
  obtain⟨m,hm⟩:∃m,(nameP (nextR r1)).1=m:=⟨_,rfl⟩
  obtain⟨r2,hr2e⟩:∃r2,(nameP (nextR r1)).2=r2:=⟨_,rfl⟩
  rw[hm,hr2e] at HN2 ⊢
  clear h hbW hcW hn hr1e hm hr2e
  go_enter Tryz.func189,Tryz.ntmps189
  go_wp2_with fail
  try rw[hW]
  clear hW
  refine HN.out.mono ?_
  rintro e w1 ⟨rfl,hr1,hf1⟩
  go_wp2_with fail
  obtain⟨V,hV,hbV,hzV,hcV⟩:=box8 w1 (.cells #[.int .i64 2,.int .i64 0,.string ⟨#[]⟩,.string (str8 n),.int .i64 0,.int .i64 0,.string ⟨#[]⟩,.slice none 0 0] 130)
  have hz1:=hf1.size
  have HV:=hid hcV
  have HRV:=hid (hr1.below hbV)
  have HFV:=hid ((HF.out.then hf1).thenNew hbV)
  have HB:=hid ((hbV.block _ (by omega)).trans ((hf1.block w.heap.size hzW (by omega)).trans HCW.out))
  have HS:Hid (Calls Tryz.prog 118 #[.pointer (some ⟨g,0,none⟩),.string ⟨#[46]⟩] V fun e w'=>e = .returned (.bool true)∧RdAt F w' g (nextR r1)∧Fr g V w'):=hid (skip_yes F g r1 V HRV.out [46] hi)
  clear hr1 hf1 hbV hcV HN hi
  rw[hV]
  clear hV
  refine HS.out.mono ?_
  rintro e w2 ⟨rfl,hr2,hf2⟩
  have hz2:=hf2.size
  have hb1:=(hf2.block w1.heap.size hzV (by omega)).trans HV.out
  have hb0:=(hf2.block w.heap.size (by omega) (by omega)).trans HB.out
  have HB1:=hid hb1
  have k1:=cells8f hb1
  have HR2:=hid hr2
  have HF2:=hid (HFV.out.then hf2)
  have HB0:=hid hb0
  have hgw1:g<w1.heap.size:=by omega
  have hw1:w.heap.size<w1.heap.size:=by omega
  have hw2:w1.heap.size<w2.heap.size:=by omega
  clear hr2 hf2 HS hb1 hb0
  go_wp2_with fail
  go_region_with (first
   | (
    go_at_call 112;refine (HN2.out _ (HR2.out.below (Below.refl _ w2).drew)).mono ?_;rintro e w3 ⟨rfl,hr3,hf3⟩
    have hb13:=(hf3.block w1.heap.size hw2 (by omega)).trans HB1.out
    have k13:=cells8f hb13
    have HB13:=hid hb13
    have HB03:=hid ((hf3.block w.heap.size (Nat.lt_trans hw1 hw2) (by omega)).trans HB0.out)
    have HR3:=hid hr3
    have HF3:Hid (Fr g w w3):=hid ((HF2.out.thenNew (Below.refl _ w2).drew).then hf3)
    clear hr3 hf3 hb13)
   | fail)
  all_goals
   obtain⟨X,hX,hbx,hsp⟩:=set23 HB13.out (.string (str8 n)) (.string (str8 m))
   rw[hX]
   clear hX
   have HB0X:=hid ((hsp.block w.heap.size (World.lt_of_block HB03.out) (by omega)).trans HB03.out)
   have k0:=cells8f HB0X.out
   have k1:=cells8f hbx
   have HRX:=hid (HR3.out.keeps hsp (fun i hi e=>by omega))
   have HFX:Hid (Fr g w X):=hid (HF3.out.andThen hsp (fun i hi=>.inr (by omega)))
   clear hsp hbx k13
   go_wp2
   rw[set8 HB0X.out]
   obtain⟨p1,p2,p3,p4⟩:=put_result (cs:=#[.int .i64 2,.int .i64 0,.string (str8 n),.string (str8 m),.int .i64 0,.int .i64 0,.string ⟨#[]⟩,.slice none 0 0]) (x:=exCol n m) HB0X.out (Nat.le_refl _) HRX.out HFX.out hg ⟨2,0,n,m,0,0,[],[],_,_,_,rfl,rfl,.nil _ _ (by unfold maxLen;omega)⟩
   have kc:=cells8 p1
   exact bodyPost_ret (v:=.agg #[.int .i64 2,.int .i64 0,.string (str8 n),.string (str8 m),.int .i64 0,.int .i64 0,.string ⟨#[]⟩,.slice none 0 0]) (by simp[results,Tryz.results189,go_sem,kc]) rfl ⟨_,rfl,p2,p3,p4⟩
theorem two (w:World) (A B:Obj):∃W,(w.alloc A).alloc B=W∧Below w.heap.size w W∧w.heap.size+1<W.heap.size∧W.heap[w.heap.size]?=some A∧W.heap[w.heap.size+1]?=some B:=by
 refine ⟨_,rfl,((Below.refl _ w).alloc (Nat.le_refl _) A).alloc (by simp) B,by simp,?_,heap_alloc2_new w A B⟩
 rw[Below.heap_alloc _ _ _ (by simp)]
 exact heap_alloc_new w A
theorem must_new (F g:Nat) (r:Rd) (ts:List (List UInt8)) (hl:ts.length≤1000) (W:World) (h:RdAt F W g r) :
  Calls Tryz.prog 111 #[.pointer (some ⟨g,0,none⟩),.slice (some ⟨W.heap.size,0,none⟩) ts.length ts.length] (W.alloc (.cells (ts.map fun t=>Value.string (str8 t)).toArray 9)) fun e w'=>e = .returned (.tuple #[])∧RdAt F w' g (mustsP ts r).2∧Fr g W w':=by
 have hb:Below W.heap.size W (W.alloc (.cells (ts.map fun t=>Value.string (str8 t)).toArray 9)):=(Below.refl _ _).alloc (Nat.le_refl _) _
 refine (must_any F g r _ (h.below hb) _ ts ⟨_,_,rfl,hl,fun _=>⟨_,rfl,h.lt,fun j t ht=>?_⟩⟩).mono ?_
 ·rw[cell_of_row _ _ _ _ _ _ (heap_alloc_new W _)]
  simp[ht]
 ·rintro e w' ⟨rfl,h1,h2⟩
  exact⟨rfl,h1,(Spares.of_new (S:=fun k=>k=g) hb).then h2⟩
theorem flat_at : ∀(l:List (List UInt8 × Int)) (j:Nat) (t:List UInt8 × Int),l[j]?=some t→(l.flatMap fun t=>[Value.string (str8 t.1),.int .i64 t.2])[j*2]?=some (.string (str8 t.1))∧(l.flatMap fun t=>[Value.string (str8 t.1),.int .i64 t.2])[j*2+1]?=some (.int .i64 t.2)
 |
  x::l,0,t,h=>by
  simp only[List.getElem?_cons_zero,Option.some.injEq] at h
  subst h
  exact⟨rfl,rfl⟩
 |
  x::l,j+1,t,h=>by
  have ih:=flat_at l j t (by simpa using h)
  rw[List.flatMap_cons,show (j+1)*2=(j*2+1)+1 by omega]
  simpa using ih
theorem choose_new (F g:Nat) (r:Rd) (l:List (List UInt8 × Int)) (hl:l.length≤1000) (W:World) (h:RdAt F W g r) :
  Calls Tryz.prog 109 #[.pointer (some ⟨g,0,none⟩),.slice (some ⟨W.heap.size,0,none⟩) l.length l.length] (W.alloc (.cells (l.flatMap fun t=>[Value.string (str8 t.1),.int .i64 t.2]).toArray 155)) fun e w'=>e = .returned (.int .i64 (chooseP l r).1)∧RdAt F w' g (chooseP l r).2∧Fr g W w':=by
 have hb:Below W.heap.size W (W.alloc (.cells (l.flatMap fun t=>[Value.string (str8 t.1),.int .i64 t.2]).toArray 155)):=(Below.refl _ _).alloc (Nat.le_refl _) _
 refine (choose_any F g r _ (h.below hb) _ l ⟨_,_,rfl,hl,fun _=>⟨_,rfl,h.lt,fun j t ht=>?_⟩⟩).mono ?_
 ·rw[cell_of_row _ _ _ _ _ _ (heap_alloc_new W _),cell_of_row _ _ _ _ _ _ (heap_alloc_new W _)]
  have:=flat_at l j t ht
  simpa using this
 ·rintro e w' ⟨rfl,h1,h2⟩
  exact⟨rfl,h1,(Spares.of_new (S:=fun k=>k=g) hb).then h2⟩
theorem put_box {F g B:Nat} {w W:World} {r:Rd} {old:Array Value} {t:TypeId} (cs:Array Value) (hB:W.heap[B]?=some (.cells old t)) (hw:w.heap.size≤B) (hg:g<w.heap.size) (hR:RdAt F W g r) (hF:Fr g w W) :
  ∃X,W.setRow B cs=X∧X.heap[B]?=some (.cells cs t)∧Spares (fun k=>k=B) W X∧RdAt F X g r∧Fr g w X:=by
 have hs:Spares (fun k=>k=B) W (W.setRow B cs):=Spares.setRow (S:=fun k=>k=B) (Spares.refl _ W) (p:=B) (.inl rfl) cs
 exact⟨_,rfl,setRow_heap W B old cs t _ hB,hs,hR.keeps hs (fun i hi e=>by omega),hF.setRow (.inr hw) cs⟩
theorem one8 (k op vk vn:Int) (tb nm vs:ByteArray) (aa:Option Addr) (nn cc:Nat):(#[.int .i64 k,.int .i64 op,.string tb,.string nm,.int .i64 vk,.int .i64 vn,.string vs,.slice aa nn cc]:Array Value).all (·.oneCell')=true:=by
 simp[Value.oneCell']
theorem wpList_store_box {ops:Array Oper} {rest:List Oper} {o:Oper} {a:Act} {W w:World} {Q:Exit→Act→World→Prop} {F g:Nat} {r:Rd} (hgd:o.guard=none) (x y:Operand) (ho:o.op = .store 130 x y) (B:Nat) (hx:a.eval x = .pointer (some ⟨B,0,none⟩))
  (k op vk vn:Int) (tb nm vs:ByteArray) (aa:Option Addr) (nn cc:Nat) (hy:a.eval y = .agg #[.int .i64 k,.int .i64 op,.string tb,.string nm,.int .i64 vk,.int .i64 vn,.string vs,.slice aa nn cc])
  {d0 d1 d2 d3 d4 d5 d6 d7:Value} (hB:W.heap[B]?=some (.cells #[d0,d1,d2,d3,d4,d5,d6,d7] 130))
  (hw:w.heap.size≤B) (hg:g<w.heap.size) (hR:RdAt F W g r) (hF:Fr g w W)
  (h : ∀X,X.heap[B]?=some (.cells #[.int .i64 k,.int .i64 op,.string tb,.string nm,.int .i64 vk,.int .i64 vn,.string vs,.slice aa nn cc] 130)→Spares (fun k=>k=B) W X→RdAt F X g r→Fr g w X→wpList Tryz.prog ops Q rest (a.put o.dst undef) X):wpList Tryz.prog ops Q (o::rest) a W:=by
 refine wpList_store_row hgd 130 x y ho B _ hx hy 130 _ hB Tryz.exprInfo rfl (one8 _ _ _ _ _ _ _ _ _ _) ?_
 obtain⟨X,hX,hXA,hXs,hXR,hXF⟩:=put_box (w:=w) #[.int .i64 k,.int .i64 op,.string tb,.string nm,.int .i64 vk,.int .i64 vn,.string vs,.slice aa nn cc] hB hw hg hR hF
 rw[hX]
 exact h X hXA hXs hXR hXF
theorem null_eq (x:Ex) (r:Rd):nullP x r=(if isR [78,79,84] r=true then exOf 4 (exOf 6 x) else exOf 6 x,(mustsP [[78,85,76,76]] (skipR [78,79,84] r)).2):=by
 unfold nullP bindP
 rw[skipP_eq]
 rfl
theorem null_any (F g:Nat) (r:Rd) (w:World) (h:RdAt F w g r) (S:Nat→Prop) (x:Ex) (v:Value) (hS : ∀b,w.heap.size≤b→S b) (hgS : ¬S g) (hx:ExV S w x v) :
  Calls Tryz.prog 281 #[.pointer (some ⟨g,0,none⟩),v] w fun e w'=>∃u,e = .returned u∧ExV S w' (nullP x r).1 u∧RdAt F w' g (nullP x r).2∧Fr g w w':=by
 have hgw:=h.lt
 have HXV:=hid hx
 obtain⟨k,op,tb,nm,vk,vn,vs,ys,aa,nn,cc,hxe,rfl,_⟩:=hx
 rw[null_eq]
 dsimp only
 obtain⟨W,hW,hbW,hzW,hcA,hcB⟩:=two w (.cells #[.int .i64 k,.int .i64 op,.string (str8 tb),.string (str8 nm),.int .i64 vk,.int .i64 vn,.string (str8 vs),.slice aa nn cc] 130) zBox
 have HCA:=hid hcA
 have HCB:=hid hcB
 have HH:=hid (h.below hbW)
 have HF:=hid (Spares.of_new (S:=fun k=>k=g) hbW)
 have HT:Hid (ExV (fun b=>S b∧b≠w.heap.size∧b≠w.heap.size+1∧b≠g) W x _):=hid (HXV.out.to (R:=fun _=>False) (Spares.of_new hbW) (fun b hb hlt=>⟨id,hb,by omega,by omega,by rintro rfl;exact hgS hb⟩))
 have HSK:Hid (Calls Tryz.prog 118 #[.pointer (some ⟨g,0,none⟩),.string ⟨#[78,79,84]⟩] W fun e w'=>e = .returned (.bool (isR [78,79,84] r))∧RdAt F w' g (skipR [78,79,84] r)∧Fr g W w'):=hid (skip_any F g r W HH.out [78,79,84])
 generalize skipR [78,79,84] r=r1 at HSK ⊢
 have HM:Hid (∀V,RdAt F V g r1→Calls Tryz.prog 111 #[.pointer (some ⟨g,0,none⟩),.slice (some ⟨V.heap.size,0,none⟩) 1 1] (V.alloc (.cells #[.string ⟨#[78,85,76,76]⟩] 9)) fun e w'=>e = .returned (.tuple #[])∧RdAt F w' g (mustsP [[78,85,76,76]] r1).2∧Fr g V w'):=hid (fun V hV=>must_new F g r1 [[78,85,76,76]] (by decide) V hV)
 generalize (mustsP [[78,85,76,76]] r1).2=r2 at HM ⊢
 obtain⟨y,hy⟩:∃y,(if isR [78,79,84] r=true then exOf 4 (exOf 6 x) else exOf 6 x)=y:=⟨_,rfl⟩
 rw[hy]
 have HY:=hid hy
 clear hcA hcB h hxe HXV hbW hy
 go_enter Tryz.func281,Tryz.ntmps281
 go_wp2_with fail
 try rw[hW]
 clear hW
 refine HSK.out.mono ?_
 rintro e w1 ⟨rfl,hr1,hf1⟩
 have HM1:=hid (HM.out w1 hr1)
 have hz1:=hf1.size
 have HA1:=hid ((hf1.block w.heap.size (by omega) (by omega)).trans HCA.out)
 have HB1:=hid ((hf1.block (w.heap.size+1) (by omega) (by omega)).trans HCB.out)
 have HT1:=hid (HT.out.to (T:=fun b=>S b∧b≠w.heap.size∧b≠w.heap.size+1∧b≠g) hf1 (fun b hb _=>⟨by omega,hb⟩))
 have HF1:=hid (HF.out.then hf1)
 clear hr1 hf1 HM HSK
 go_wp2_with fail
 refine HM1.out.mono ?_
 rintro e w2 ⟨rfl,hr2,hf2⟩
 have hz2:=hf2.size
 have HA2:=hid ((hf2.block w.heap.size (by omega) (by omega)).trans HA1.out)
 have HB2:=hid ((hf2.block (w.heap.size+1) (by omega) (by omega)).trans HB1.out)
 have HT2:=hid (HT1.out.to (T:=fun b=>S b∧b≠w.heap.size∧b≠w.heap.size+1∧b≠g) hf2 (fun b hb _=>⟨by omega,hb⟩))
 have HF2:=hid (HF1.out.then hf2)
 have HR2:=hid hr2
 have HO:=hid (of_any (fun b=>S b∧b≠w.heap.size∧b≠w.heap.size+1∧b≠g) 6 x _ w2 (fun b hb=>⟨hS b (by omega),by omega,by omega,by omega⟩) HT2.out)
 have kA:=cells8f HA2.out
 clear hr2 hf2 HM1
 go_wp2_with fail
 refine HO.out.mono ?_
 rintro e w3 ⟨u,rfl,hu,hb3⟩
 have HU:=hid hu
 obtain⟨k3,op3,tb3,nm3,vk3,vn3,vs3,ys3,aa3,nn3,cc3,_,rfl,_⟩:=hu
 have hz3:=hb3.size
 have HA3:=hid ((hb3.block w.heap.size (by omega)).trans HA2.out)
 have HB3:=hid ((hb3.block (w.heap.size+1) (by omega)).trans HB2.out)
 have HF3:=hid (HF2.out.thenNew hb3)
 have HR3:=hid (HR2.out.below hb3)
 have kA3:=cells8f HA3.out
 clear hb3 HO kA
 cases hi:isR [78,79,84] r with
 |
  false =>
  have HY2:Hid (exOf 6 x=y):=hid (by have:=HY.out;rw[hi,if_neg Bool.false_ne_true] at this;exact this)
  clear kA3
  go_wp2_with (first
   | (
    refine wpList_store_box rfl (.tmp 3) (.tmp 12) rfl w.heap.size rfl k3 op3 vk3 vn3 (str8 tb3) (str8 nm3) (str8 vs3) aa3 nn3 cc3 rfl HA3.out (Nat.le_refl _) hgw HR3.out HF3.out ?_
    intro X hXA hXs hXR hXF
    have kX:=cells8f hXA
    have HBX:=hid ((hXs.block (w.heap.size+1) (by omega) (by omega)).trans HB3.out)
    have HUX:=hid (HU.out.to (T:=fun b=>S b∧b≠w.heap.size∧b≠w.heap.size+1∧b≠g) hXs (fun b hb _=>⟨hb.2.1,hb⟩))
    have HXR:=hid hXR
    have HXF:=hid hXF
    clear hXA hXs hXR hXF)
   | (
    refine wpList_store_box rfl (.tmp 4) (.tmp 16) rfl (w.heap.size+1) rfl k3 op3 vk3 vn3 (str8 tb3) (str8 nm3) (str8 vs3) aa3 nn3 cc3 rfl HBX.out (by omega) hgw HXR.out HXF.out ?_
    intro Y hYB hYs hYR hYF
    have HYB:=hid hYB
    have HUY:=hid (HUX.out.to (T:=fun b=>S b) hYs (fun b hb _=>⟨hb.2.2.1,hb.1⟩))
    have HYR:=hid hYR
    have HYF:=hid hYF
    clear hYB hYs hYR hYF)
   | fail)
  have kc:=cells8 HYB.out
  exact bodyPost_ret (v:=.agg #[.int .i64 k3,.int .i64 op3,.string (str8 tb3),.string (str8 nm3),.int .i64 vk3,.int .i64 vn3,.string (str8 vs3),.slice aa3 nn3 cc3]) (by simp[results,Tryz.results281,go_sem,kc]) rfl ⟨_,rfl,by rw[← HY2.out];exact HUY.out,HYR.out,HYF.out⟩
 |
  true =>
  have HY2:Hid (exOf 4 (exOf 6 x)=y):=hid (by have:=HY.out;rw[hi,if_pos rfl] at this;exact this)
  clear kA3
  go_wp2_with (first
   | (
    refine wpList_store_box rfl (.tmp 3) (.tmp 12) rfl w.heap.size rfl k3 op3 vk3 vn3 (str8 tb3) (str8 nm3) (str8 vs3) aa3 nn3 cc3 rfl HA3.out (Nat.le_refl _) hgw HR3.out HF3.out ?_
    intro X hXA hXs hXR hXF
    have kX:=cells8f hXA
    have hzX:=hXs.size
    have HXA:=hid hXA
    have HBX:=hid ((hXs.block (w.heap.size+1) (by omega) (by omega)).trans HB3.out)
    have HUX:=hid (HU.out.to (T:=fun b=>S b∧b≠w.heap.size∧b≠w.heap.size+1∧b≠g) hXs (fun b hb _=>⟨hb.2.1,hb⟩))
    have HXR:=hid hXR
    have HXF:=hid hXF
    have HO2:=hid (of_any (fun b=>S b∧b≠w.heap.size∧b≠w.heap.size+1∧b≠g) 4 (exOf 6 x) _ X (fun b hb=>⟨hS b (by omega),by omega,by omega,by omega⟩) HUX.out)
    clear hXA hXs hXR hXF)
   | (
    go_at_call 262;refine HO2.out.mono ?_
    rintro e w4 ⟨u4,rfl,hu4,hb4⟩
    have HU4:=hid hu4
    obtain⟨k4,op4,tb4,nm4,vk4,vn4,vs4,ys4,aa4,nn4,cc4,_,rfl,_⟩:=hu4
    have hz4:=hb4.size
    have HA4:=hid ((hb4.block w.heap.size (by omega)).trans HXA.out)
    have HB4:=hid ((hb4.block (w.heap.size+1) (by omega)).trans HBX.out)
    have HF4:=hid (HXF.out.thenNew hb4)
    have HR4:=hid (HXR.out.below hb4)
    clear hb4 HO2 kX)
   | (
    refine wpList_store_box rfl (.tmp 3) (.tmp 15) rfl w.heap.size rfl k4 op4 vk4 vn4 (str8 tb4) (str8 nm4) (str8 vs4) aa4 nn4 cc4 rfl HA4.out (Nat.le_refl _) hgw HR4.out HF4.out ?_
    intro Z hZA hZs hZR hZF
    have kZ:=cells8f hZA
    have HBZ:=hid ((hZs.block (w.heap.size+1) (by omega) (by omega)).trans HB4.out)
    have HUZ:=hid (HU4.out.to (T:=fun b=>S b∧b≠w.heap.size∧b≠w.heap.size+1∧b≠g) hZs (fun b hb _=>⟨hb.2.1,hb⟩))
    have HZR:=hid hZR
    have HZF:=hid hZF
    clear hZA hZs hZR hZF)
   | (
    refine wpList_store_box rfl (.tmp 4) (.tmp 16) rfl (w.heap.size+1) rfl k4 op4 vk4 vn4 (str8 tb4) (str8 nm4) (str8 vs4) aa4 nn4 cc4 rfl HBZ.out (by omega) hgw HZR.out HZF.out ?_
    intro Y hYB hYs hYR hYF
    have HYB:=hid hYB
    have HUY:=hid (HUZ.out.to (T:=fun b=>S b) hYs (fun b hb _=>⟨hb.2.2.1,hb.1⟩))
    have HYR:=hid hYR
    have HYF:=hid hYF
    clear hYB hYs hYR hYF)
   | fail)
  have kc:=cells8 HYB.out
  exact bodyPost_ret (v:=.agg #[.int .i64 k4,.int .i64 op4,.string (str8 tb4),.string (str8 nm4),.int .i64 vk4,.int .i64 vn4,.string (str8 vs4),.slice aa4 nn4 cc4]) (by simp[results,Tryz.results281,go_sem,kc]) rfl ⟨_,rfl,by rw[← HY2.out];exact HUY.out,HYR.out,HYF.out⟩
end Go.Proofs.YtaaggohjmhifbaaGreatDoor
