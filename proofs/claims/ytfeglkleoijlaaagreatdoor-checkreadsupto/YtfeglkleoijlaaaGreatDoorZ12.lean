/- Packed for the hand-in: WRightE -/
import Derived.Test.YtfeglkleoijlaaaGreatDoorZ11
namespace Go.Proofs.YtfeglkleoijlaaaGreatDoor
open Go.RowKit Go.Shelf
set_option linter.unusedSimpArgs false
set_option linter.unusedVariables false
set_option maxRecDepth 20000
set_option maxHeartbeats 8000000
theorem yU (w:World) (k op:Int) (tb nm:List UInt8) (vk vn:Int) (vs:List UInt8) (aa:Option Addr) (nn cc:Nat) :
  ∃W,((w.alloc (.cells #[.int .i64 k,.int .i64 op,.string (aj tb),.string (aj nm),.int .i64 vk,.int .i64 vn,.string (aj vs),.slice aa nn cc] 48)).alloc (.cells #[.int .i64 k,.int .i64 op,.string (aj tb),.string (aj nm),.int .i64 vk,.int .i64 vn,.string (aj vs),.slice aa nn cc] 48)).setCell ⟨w.heap.size+1,0,none⟩ (.int .i64 0)=W∧Below w.heap.size w W∧w.heap.size+1<W.heap.size∧W.heap[w.heap.size]?=some (.cells #[.int .i64 k,.int .i64 op,.string (aj tb),.string (aj nm),.int .i64 vk,.int .i64 vn,.string (aj vs),.slice aa nn cc] 48)∧W.heap[w.heap.size+1]?=some (.cells #[.int .i64 0,.int .i64 op,.string (aj tb),.string (aj nm),.int .i64 vk,.int .i64 vn,.string (aj vs),.slice aa nn cc] 48):=by
 have hb:Below w.heap.size w ((w.alloc (.cells #[.int .i64 k,.int .i64 op,.string (aj tb),.string (aj nm),.int .i64 vk,.int .i64 vn,.string (aj vs),.slice aa nn cc] 48)).alloc (.cells #[.int .i64 k,.int .i64 op,.string (aj tb),.string (aj nm),.int .i64 vk,.int .i64 vn,.string (aj vs),.slice aa nn cc] 48)):=((Below.refl _ w).alloc (Nat.le_refl _) _).alloc (by simp) _
 have h1:((w.alloc (.cells #[.int .i64 k,.int .i64 op,.string (aj tb),.string (aj nm),.int .i64 vk,.int .i64 vn,.string (aj vs),.slice aa nn cc] 48)).alloc (.cells #[.int .i64 k,.int .i64 op,.string (aj tb),.string (aj nm),.int .i64 vk,.int .i64 vn,.string (aj vs),.slice aa nn cc] 48)).heap[w.heap.size+1]?=some (.cells #[.int .i64 k,.int .i64 op,.string (aj tb),.string (aj nm),.int .i64 vk,.int .i64 vn,.string (aj vs),.slice aa nn cc] 48):=heap_alloc2_new w _ _
 have h0:((w.alloc (.cells #[.int .i64 k,.int .i64 op,.string (aj tb),.string (aj nm),.int .i64 vk,.int .i64 vn,.string (aj vs),.slice aa nn cc] 48)).alloc (.cells #[.int .i64 k,.int .i64 op,.string (aj tb),.string (aj nm),.int .i64 vk,.int .i64 vn,.string (aj vs),.slice aa nn cc] 48)).heap[w.heap.size]?=some (.cells #[.int .i64 k,.int .i64 op,.string (aj tb),.string (aj nm),.int .i64 vk,.int .i64 vn,.string (aj vs),.slice aa nn cc] 48):=by
  rw[Below.heap_alloc _ _ _ (by simp)]
  exact heap_alloc_new w _
 generalize (w.alloc (.cells #[.int .i64 k,.int .i64 op,.string (aj tb),.string (aj nm),.int .i64 vk,.int .i64 vn,.string (aj vs),.slice aa nn cc] 48)).alloc (.cells #[.int .i64 k,.int .i64 op,.string (aj tb),.string (aj nm),.int .i64 vk,.int .i64 vn,.string (aj vs),.slice aa nn cc] 48)=V at hb h0 h1
 refine ⟨_,rfl,hb.setCell (by show w.heap.size≤w.heap.size+1;omega) _,?_,?_,?_⟩
 ·have:=World.lt_of_block h1
  simpa [World.setCell] using this
 ·rw[Below.heap_setCell _ _ _ _ (by show w.heap.size≠w.heap.size+1;omega)]
  exact h0
 ·rw[setCell_eq_setRow V (w.heap.size+1) 0 _ _ _ _ h1,setRow_heap V _ _ _ _ _ h1]
  rfl
theorem bK {w:World} {g:Nat} {a b c d e f i j:Value} {t:TypeId} (h:w.heap[g]?=some (.cells #[a,b,c,d,e,f,i,j] t)):(∀i,w.frozen? ⟨g,i,none⟩=false) ∧
 w.cell? ⟨g,0,none⟩=some a∧w.cell? ⟨g,1,none⟩=some b∧w.cell? ⟨g,2,none⟩=some c∧w.cell? ⟨g,3,none⟩=some d∧w.cell? ⟨g,4,none⟩=some e∧w.cell? ⟨g,5,none⟩=some f∧w.cell? ⟨g,6,none⟩=some i∧w.cell? ⟨g,7,none⟩=some j:=FL h
theorem Au (k op:Int) (tb nm:List UInt8) (v:Vl) (xs:List Ex):aJ (.mk k op tb nm v xs) =
  if k=1 then gK v&&xI op tb nm zV xs.length
  else if k=2 then (bC nm&&kN tb)&&xI op [] [] v xs.length
  else if k=3 then (decide (1≤op∧op≤13)&&bf xs 2 2 aJ)&&xI 0 tb nm v 0
  else if k=4∨k=5∨k=6 then bf xs 1 1 aJ&&xI op tb nm v 0
  else false:=by
 have e2:decide (2≤xs.length∧xs.length≤2)=decide (xs.length=2):=by rw[Bool.eq_iff_iff,decide_eq_true_eq,decide_eq_true_eq];omega
 have e1:decide (1≤xs.length∧xs.length≤1)=decide (xs.length=1):=by rw[Bool.eq_iff_iff,decide_eq_true_eq,decide_eq_true_eq];omega
 rw[iW]
 unfold xI bf kN
 rw[e1,e2,Dr]
 simp only[decide_true,Bool.true_and,Bool.and_true,Bool.and_assoc]
theorem aV (w:World) (A:Obj) (old cs:Array Value) (t:TypeId):((w.alloc A).alloc (.cells old t)).setRow (w.heap.size+1) cs=(w.alloc A).alloc (.cells cs t):=by
 have e:w.heap.size+1=(w.alloc A).heap.size:=by simp
 rw[e,aB]
theorem lC (S:Nat→Prop):∀(N:Nat) (x:Ex) (v:Value) (w:World),SizeOf.sizeOf x<N→jD x→fB S w x v →
  Calls Tryz.prog 82 #[v] w fun e w'=>e = .returned (.bool (aJ x))∧Below w.heap.size w w':=by
 intro N
 induction N with
 | zero=>intro x v w h;exact absurd h (Nat.not_lt_zero _)
 | succ N ih =>
 intro x v w hN hR hx
 obtain⟨k,op,tb,nm,vk,vn,vs,ys,aa,nn,cc,rfl,rfl,ha⟩:=hx
 obtain⟨_,_,_,_,_,_,r1,r2,r3,r4,r5,rx⟩:=hR
 dsimp only at r1 r2 r3
 obtain⟨a',c',hsl,_⟩:=ha.form
 simp only[Value.slice.injEq] at hsl
 obtain⟨rfl,rfl,rfl⟩:=hsl
 rw[Au]
 obtain⟨W,hW,hbW,hzW,hc0,hc1⟩:=yU w k op tb nm vk vn vs aa ys.length cc
 have q0:=bK hc0
 have q1:=bK hc1
 have HB:=hid hbW
 have HC0:=hid hc0
 have HC1:=hid hc1
 have hz0:w.heap.size<W.heap.size:=by omega
 have HAR:Hid (∀(lo hi:Nat) (V:World),lo≤100→hi≤100→Below w.heap.size w V→Calls Tryz.prog 95 #[.slice aa ys.length cc,.int .i64 lo,.int .i64 hi,.func (.func 82) #[] #[]] V fun e w'=>e = .returned (.bool (bf ys lo hi aJ))∧Below V.heap.size V w'):=hid (fun lo hi V h1 h2 hV =>
  kg S 82 (enters_of Tryz.func82 (by kernel_rfl) rfl) aJ ys _ lo hi V h1 h2 (dN (ha.new hV)) (hid (fun y hy U hU cs hcs=>ih y _ U (by have:=List.sizeOf_lt_of_mem hy;simp at hN;omega) (rx y hy) hcs.v)))
 have HEM:=hid (fun op' tb' nm' vk' vn' vs' aa' nn' cc' V=>rz op' tb' nm' vk' vn' vs' aa' nn' cc' V)
 clear ih rx ha hbW hc0 hc1 hN
 by_cases hk:k=1
 ·rw[if_pos hk]
  subst hk
  have HRV:=hid (jM vk vn vs W r1 r2 r3)
  clear r1 r2 r3 r4 r5 HAR
  cases hv:gK ⟨vk,vn,vs⟩ with
  |
   true =>
   rw[hv] at HRV
   rw[Bool.true_and]
   clear hv
   go_enter Tryz.func82,Tryz.ntmps82
   go_wp2_with (first | (refine wpList_store_row rfl 48 (.tmp 3) (.tmp 5) rfl (w.heap.size+1) #[.int .i64 k,.int .i64 op,.string (aj tb),.string (aj nm),.int .i64 vk,.int .i64 vn,.string (aj vs),.slice aa ys.length cc] rfl rfl 48 #[.int .i64 0,.int .i64 0,.string ⟨#[]⟩,.string ⟨#[]⟩,.int .i64 0,.int .i64 0,.string ⟨#[]⟩,.slice none 0 0] (heap_alloc2_new w _ _) Tryz.bA rfl rfl ?_;rw[aV]) | fail)
   try rw[hW]
   clear hW
   refine HRV.out.mono ?_
   rintro e w1 ⟨rfl,hb1⟩
   have HBL:=hid hb1
   clear hb1 HRV q0 q1
   have q0:=bK ((HBL.out.block w.heap.size hz0).trans HC0.out)
   have q1:=bK ((HBL.out.block (w.heap.size+1) hzW).trans HC1.out)
   have HBX:Hid (Below w.heap.size w w1):=hid (HB.out.trans (HBL.out.mono (by omega)))
   have hle:w.heap.size≤w.heap.size+1:=by omega
   go_wp2_with fail
   refine (HEM.out op tb nm 0 0 [] aa ys.length cc _).mono ?_
   rintro e w9 ⟨rfl,hb9⟩
   have hX:=(((HBX.out.setCell (p:=⟨w.heap.size+1,4,none⟩) hle (.int .i64 0)).setCell (p:=⟨w.heap.size+1,5,none⟩) hle (.int .i64 0)).setCell (p:=⟨w.heap.size+1,6,none⟩) hle (.string ⟨#[]⟩))
   have HB9:=hid (hX.trans (hb9.mono hX.size))
   clear hb9 hX
   go_wp2
   go_ret
   exact⟨rfl,HB9.out⟩
  |
   false =>
   rw[hv] at HRV
   rw[Bool.false_and]
   clear hv
   go_enter Tryz.func82,Tryz.ntmps82
   go_wp2_with (first | (refine wpList_store_row rfl 48 (.tmp 3) (.tmp 5) rfl (w.heap.size+1) #[.int .i64 k,.int .i64 op,.string (aj tb),.string (aj nm),.int .i64 vk,.int .i64 vn,.string (aj vs),.slice aa ys.length cc] rfl rfl 48 #[.int .i64 0,.int .i64 0,.string ⟨#[]⟩,.string ⟨#[]⟩,.int .i64 0,.int .i64 0,.string ⟨#[]⟩,.slice none 0 0] (heap_alloc2_new w _ _) Tryz.bA rfl rfl ?_;rw[aV]) | fail)
   try rw[hW]
   clear hW
   refine HRV.out.mono ?_
   rintro e w1 ⟨rfl,hb1⟩
   have HBL:=hid hb1
   clear hb1 HRV q0 q1
   have q0:=bK ((HBL.out.block w.heap.size hz0).trans HC0.out)
   have q1:=bK ((HBL.out.block (w.heap.size+1) hzW).trans HC1.out)
   have HBX:Hid (Below w.heap.size w w1):=hid (HB.out.trans (HBL.out.mono (by omega)))
   have hle:w.heap.size≤w.heap.size+1:=by omega
   go_wp2
   go_ret
   exact⟨rfl,(((HBX.out.setCell (p:=⟨w.heap.size+1,4,none⟩) hle (.int .i64 0)).setCell (p:=⟨w.heap.size+1,5,none⟩) hle (.int .i64 0)).setCell (p:=⟨w.heap.size+1,6,none⟩) hle (.string ⟨#[]⟩))⟩
 ·rw[if_neg hk]
  have hk1:(k==1)=false:=by simpa using hk
  by_cases hk2:k=2
  ·rw[if_pos hk2]
   subst hk2
   have HNM:=hid (fD nm W r5)
   have HTB:=hid (fun V=>zi tb V r4)
   clear r1 r2 r3 r4 r5 HAR hk hk1
   cases hv:bC nm with
   |
    true =>
    rw[hv] at HNM
    rw[Bool.true_and]
    clear hv
    cases hv:kN tb with
    |
     true =>
     rw[hv] at HTB
     rw[Bool.true_and]
     clear hv
     go_enter Tryz.func82,Tryz.ntmps82
     go_wp2_with (first | (refine wpList_store_row rfl 48 (.tmp 3) (.tmp 5) rfl (w.heap.size+1) #[.int .i64 k,.int .i64 op,.string (aj tb),.string (aj nm),.int .i64 vk,.int .i64 vn,.string (aj vs),.slice aa ys.length cc] rfl rfl 48 #[.int .i64 0,.int .i64 0,.string ⟨#[]⟩,.string ⟨#[]⟩,.int .i64 0,.int .i64 0,.string ⟨#[]⟩,.slice none 0 0] (heap_alloc2_new w _ _) Tryz.bA rfl rfl ?_;rw[aV]) | fail)
     try rw[hW]
     clear hW
     refine HNM.out.mono ?_
     rintro e w1 ⟨rfl,hb1⟩
     have q01:=bK ((hb1.block w.heap.size hz0).trans HC0.out)
     have HB1:=hid hb1
     clear hb1 HNM
     go_wp2_with fail
     refine (HTB.out w1).mono ?_
     rintro e w2 ⟨rfl,hb2⟩
     have HBL:=hid (HB1.out.trans (hb2.mono HB1.out.size))
     clear hb2 HTB q0 q1 q01 HB1
     have q0:=bK ((HBL.out.block w.heap.size hz0).trans HC0.out)
     have q1:=bK ((HBL.out.block (w.heap.size+1) hzW).trans HC1.out)
     have HBX:Hid (Below w.heap.size w w2):=hid (HB.out.trans (HBL.out.mono (by omega)))
     have hle:w.heap.size≤w.heap.size+1:=by omega
     go_wp2_with fail
     refine (HEM.out op [] [] vk vn vs aa ys.length cc _).mono ?_
     rintro e w9 ⟨rfl,hb9⟩
     have hX:=((HBX.out.setCell (p:=⟨w.heap.size+1,3,none⟩) hle (.string ⟨#[]⟩)).setCell (p:=⟨w.heap.size+1,2,none⟩) hle (.string ⟨#[]⟩))
     have HB9:=hid (hX.trans (hb9.mono hX.size))
     clear hb9 hX
     go_wp2
     go_ret
     exact⟨rfl,HB9.out⟩
    |
     false =>
     rw[hv] at HTB
     rw[Bool.false_and]
     clear hv
     go_enter Tryz.func82,Tryz.ntmps82
     go_wp2_with (first | (refine wpList_store_row rfl 48 (.tmp 3) (.tmp 5) rfl (w.heap.size+1) #[.int .i64 k,.int .i64 op,.string (aj tb),.string (aj nm),.int .i64 vk,.int .i64 vn,.string (aj vs),.slice aa ys.length cc] rfl rfl 48 #[.int .i64 0,.int .i64 0,.string ⟨#[]⟩,.string ⟨#[]⟩,.int .i64 0,.int .i64 0,.string ⟨#[]⟩,.slice none 0 0] (heap_alloc2_new w _ _) Tryz.bA rfl rfl ?_;rw[aV]) | fail)
     try rw[hW]
     clear hW
     refine HNM.out.mono ?_
     rintro e w1 ⟨rfl,hb1⟩
     have q01:=bK ((hb1.block w.heap.size hz0).trans HC0.out)
     have HB1:=hid hb1
     clear hb1 HNM
     go_wp2_with fail
     refine (HTB.out w1).mono ?_
     rintro e w2 ⟨rfl,hb2⟩
     have HBL:=hid (HB1.out.trans (hb2.mono HB1.out.size))
     clear hb2 HTB q0 q1 q01 HB1
     have q0:=bK ((HBL.out.block w.heap.size hz0).trans HC0.out)
     have q1:=bK ((HBL.out.block (w.heap.size+1) hzW).trans HC1.out)
     have HBX:Hid (Below w.heap.size w w2):=hid (HB.out.trans (HBL.out.mono (by omega)))
     have hle:w.heap.size≤w.heap.size+1:=by omega
     go_wp2
     go_ret
     exact⟨rfl,((HBX.out.setCell (p:=⟨w.heap.size+1,3,none⟩) hle (.string ⟨#[]⟩)).setCell (p:=⟨w.heap.size+1,2,none⟩) hle (.string ⟨#[]⟩))⟩
   |
    false =>
    rw[hv] at HNM
    rw[Bool.false_and,Bool.false_and]
    clear hv
    go_enter Tryz.func82,Tryz.ntmps82
    go_wp2_with (first | (refine wpList_store_row rfl 48 (.tmp 3) (.tmp 5) rfl (w.heap.size+1) #[.int .i64 k,.int .i64 op,.string (aj tb),.string (aj nm),.int .i64 vk,.int .i64 vn,.string (aj vs),.slice aa ys.length cc] rfl rfl 48 #[.int .i64 0,.int .i64 0,.string ⟨#[]⟩,.string ⟨#[]⟩,.int .i64 0,.int .i64 0,.string ⟨#[]⟩,.slice none 0 0] (heap_alloc2_new w _ _) Tryz.bA rfl rfl ?_;rw[aV]) | fail)
    try rw[hW]
    clear hW
    refine HNM.out.mono ?_
    rintro e w1 ⟨rfl,hb1⟩
    have HBL:=hid hb1
    clear hb1 HNM HTB q0 q1
    have q0:=bK ((HBL.out.block w.heap.size hz0).trans HC0.out)
    have q1:=bK ((HBL.out.block (w.heap.size+1) hzW).trans HC1.out)
    have HBX:Hid (Below w.heap.size w w1):=hid (HB.out.trans (HBL.out.mono (by omega)))
    have hle:w.heap.size≤w.heap.size+1:=by omega
    go_wp2
    go_ret
    exact⟨rfl,((HBX.out.setCell (p:=⟨w.heap.size+1,3,none⟩) hle (.string ⟨#[]⟩)).setCell (p:=⟨w.heap.size+1,2,none⟩) hle (.string ⟨#[]⟩))⟩
  ·rw[if_neg hk2]
   have hk2':(k==2)=false:=by simpa using hk2
   by_cases hk3:k=3
   ·rw[if_pos hk3]
    subst hk3
    have HOP:=hid (CK op W)
    have HAE:=hid (HAR.out 2 2 W (by omega) (by omega) HB.out)
    clear r1 r2 r3 r4 r5 HAR hk hk1 hk2 hk2'
    cases hv:decide (1≤op∧op≤13) with
    |
     true =>
     rw[hv] at HOP
     rw[Bool.true_and]
     clear hv
     cases hv:bf ys 2 2 aJ with
     |
      true =>
      rw[hv] at HAE
      rw[Bool.true_and]
      clear hv
      go_enter Tryz.func82,Tryz.ntmps82
      go_wp2_with (first | (refine wpList_store_row rfl 48 (.tmp 3) (.tmp 5) rfl (w.heap.size+1) #[.int .i64 k,.int .i64 op,.string (aj tb),.string (aj nm),.int .i64 vk,.int .i64 vn,.string (aj vs),.slice aa ys.length cc] rfl rfl 48 #[.int .i64 0,.int .i64 0,.string ⟨#[]⟩,.string ⟨#[]⟩,.int .i64 0,.int .i64 0,.string ⟨#[]⟩,.slice none 0 0] (heap_alloc2_new w _ _) Tryz.bA rfl rfl ?_;rw[aV]) | fail)
      try rw[hW]
      clear hW
      refine HOP.out.mono ?_
      rintro e w1 ⟨rfl,hw1⟩
      obtain rfl:W=w1:=hw1.symm
      clear hw1 HOP
      go_wp2_with fail
      refine HAE.out.mono ?_
      rintro e w2 ⟨rfl,hb2⟩
      have HBL:=hid hb2
      clear hb2 HAE q0 q1
      have q0:=bK ((HBL.out.block w.heap.size hz0).trans HC0.out)
      have q1:=bK ((HBL.out.block (w.heap.size+1) hzW).trans HC1.out)
      have HBX:Hid (Below w.heap.size w w2):=hid (HB.out.trans (HBL.out.mono (by omega)))
      have hle:w.heap.size≤w.heap.size+1:=by omega
      go_wp2_with fail
      refine (HEM.out 0 tb nm vk vn vs none 0 0 _).mono ?_
      rintro e w9 ⟨rfl,hb9⟩
      have hX:=((HBX.out.setCell (p:=⟨w.heap.size+1,1,none⟩) hle (.int .i64 0)).setCell (p:=⟨w.heap.size+1,7,none⟩) hle (.slice none 0 0))
      have HB9:=hid (hX.trans (hb9.mono hX.size))
      clear hb9 hX
      go_wp2
      go_ret
      exact⟨rfl,HB9.out⟩
     |
      false =>
      rw[hv] at HAE
      rw[Bool.false_and]
      clear hv
      go_enter Tryz.func82,Tryz.ntmps82
      go_wp2_with (first | (refine wpList_store_row rfl 48 (.tmp 3) (.tmp 5) rfl (w.heap.size+1) #[.int .i64 k,.int .i64 op,.string (aj tb),.string (aj nm),.int .i64 vk,.int .i64 vn,.string (aj vs),.slice aa ys.length cc] rfl rfl 48 #[.int .i64 0,.int .i64 0,.string ⟨#[]⟩,.string ⟨#[]⟩,.int .i64 0,.int .i64 0,.string ⟨#[]⟩,.slice none 0 0] (heap_alloc2_new w _ _) Tryz.bA rfl rfl ?_;rw[aV]) | fail)
      try rw[hW]
      clear hW
      refine HOP.out.mono ?_
      rintro e w1 ⟨rfl,hw1⟩
      obtain rfl:W=w1:=hw1.symm
      clear hw1 HOP
      go_wp2_with fail
      refine HAE.out.mono ?_
      rintro e w2 ⟨rfl,hb2⟩
      have HBL:=hid hb2
      clear hb2 HAE q0 q1
      have q0:=bK ((HBL.out.block w.heap.size hz0).trans HC0.out)
      have q1:=bK ((HBL.out.block (w.heap.size+1) hzW).trans HC1.out)
      have HBX:Hid (Below w.heap.size w w2):=hid (HB.out.trans (HBL.out.mono (by omega)))
      have hle:w.heap.size≤w.heap.size+1:=by omega
      go_wp2
      go_ret
      exact⟨rfl,((HBX.out.setCell (p:=⟨w.heap.size+1,1,none⟩) hle (.int .i64 0)).setCell (p:=⟨w.heap.size+1,7,none⟩) hle (.slice none 0 0))⟩
    |
     false =>
     rw[hv] at HOP
     rw[Bool.false_and,Bool.false_and]
     clear hv
     go_enter Tryz.func82,Tryz.ntmps82
     go_wp2_with (first | (refine wpList_store_row rfl 48 (.tmp 3) (.tmp 5) rfl (w.heap.size+1) #[.int .i64 k,.int .i64 op,.string (aj tb),.string (aj nm),.int .i64 vk,.int .i64 vn,.string (aj vs),.slice aa ys.length cc] rfl rfl 48 #[.int .i64 0,.int .i64 0,.string ⟨#[]⟩,.string ⟨#[]⟩,.int .i64 0,.int .i64 0,.string ⟨#[]⟩,.slice none 0 0] (heap_alloc2_new w _ _) Tryz.bA rfl rfl ?_;rw[aV]) | fail)
     try rw[hW]
     clear hW
     refine HOP.out.mono ?_
     rintro e w1 ⟨rfl,hw1⟩
     obtain rfl:W=w1:=hw1.symm
     have HBL:=hid (Below.refl W.heap.size W)
     clear hw1 HOP HAE q0 q1
     have q0:=bK ((HBL.out.block w.heap.size hz0).trans HC0.out)
     have q1:=bK ((HBL.out.block (w.heap.size+1) hzW).trans HC1.out)
     have HBX:Hid (Below w.heap.size w W):=hid (HB.out.trans (HBL.out.mono (by omega)))
     have hle:w.heap.size≤w.heap.size+1:=by omega
     go_wp2
     go_ret
     exact⟨rfl,((HBX.out.setCell (p:=⟨w.heap.size+1,1,none⟩) hle (.int .i64 0)).setCell (p:=⟨w.heap.size+1,7,none⟩) hle (.slice none 0 0))⟩
   ·rw[if_neg hk3]
    have hk3':(k==3)=false:=by simpa using hk3
    by_cases hk4:k=4∨k=5∨k=6
    ·rw[if_pos hk4]
     have HAE:=hid (HAR.out 1 1 W (by omega) (by omega) HB.out)
     clear r1 r2 r3 r4 r5 HAR hk hk1 hk2 hk2' hk3 hk3'
     cases hv:bf ys 1 1 aJ with
     |
      true =>
      rw[hv] at HAE
      rw[Bool.true_and]
      clear hv
      rcases hk4 with rfl | rfl | rfl
      ·go_enter Tryz.func82,Tryz.ntmps82
       go_wp2_with (first | (refine wpList_store_row rfl 48 (.tmp 3) (.tmp 5) rfl (w.heap.size+1) #[.int .i64 k,.int .i64 op,.string (aj tb),.string (aj nm),.int .i64 vk,.int .i64 vn,.string (aj vs),.slice aa ys.length cc] rfl rfl 48 #[.int .i64 0,.int .i64 0,.string ⟨#[]⟩,.string ⟨#[]⟩,.int .i64 0,.int .i64 0,.string ⟨#[]⟩,.slice none 0 0] (heap_alloc2_new w _ _) Tryz.bA rfl rfl ?_;rw[aV]) | fail)
       try rw[hW]
       clear hW
       refine HAE.out.mono ?_
       rintro e w2 ⟨rfl,hb2⟩
       have HBL:=hid hb2
       clear hb2 HAE q0 q1
       have q0:=bK ((HBL.out.block w.heap.size hz0).trans HC0.out)
       have q1:=bK ((HBL.out.block (w.heap.size+1) hzW).trans HC1.out)
       have HBX:Hid (Below w.heap.size w w2):=hid (HB.out.trans (HBL.out.mono (by omega)))
       have hle:w.heap.size≤w.heap.size+1:=by omega
       go_wp2_with fail
       refine (HEM.out op tb nm vk vn vs none 0 0 _).mono ?_
       rintro e w9 ⟨rfl,hb9⟩
       have hX:=(HBX.out.setCell (p:=⟨w.heap.size+1,7,none⟩) hle (.slice none 0 0))
       have HB9:=hid (hX.trans (hb9.mono hX.size))
       clear hb9 hX
       go_wp2
       go_ret
       exact⟨rfl,HB9.out⟩
      ·go_enter Tryz.func82,Tryz.ntmps82
       go_wp2_with (first | (refine wpList_store_row rfl 48 (.tmp 3) (.tmp 5) rfl (w.heap.size+1) #[.int .i64 k,.int .i64 op,.string (aj tb),.string (aj nm),.int .i64 vk,.int .i64 vn,.string (aj vs),.slice aa ys.length cc] rfl rfl 48 #[.int .i64 0,.int .i64 0,.string ⟨#[]⟩,.string ⟨#[]⟩,.int .i64 0,.int .i64 0,.string ⟨#[]⟩,.slice none 0 0] (heap_alloc2_new w _ _) Tryz.bA rfl rfl ?_;rw[aV]) | fail)
       try rw[hW]
       clear hW
       refine HAE.out.mono ?_
       rintro e w2 ⟨rfl,hb2⟩
       have HBL:=hid hb2
       clear hb2 HAE q0 q1
       have q0:=bK ((HBL.out.block w.heap.size hz0).trans HC0.out)
       have q1:=bK ((HBL.out.block (w.heap.size+1) hzW).trans HC1.out)
       have HBX:Hid (Below w.heap.size w w2):=hid (HB.out.trans (HBL.out.mono (by omega)))
       have hle:w.heap.size≤w.heap.size+1:=by omega
       go_wp2_with fail
       refine (HEM.out op tb nm vk vn vs none 0 0 _).mono ?_
       rintro e w9 ⟨rfl,hb9⟩
       have hX:=(HBX.out.setCell (p:=⟨w.heap.size+1,7,none⟩) hle (.slice none 0 0))
       have HB9:=hid (hX.trans (hb9.mono hX.size))
       clear hb9 hX
       go_wp2
       go_ret
       exact⟨rfl,HB9.out⟩
      ·go_enter Tryz.func82,Tryz.ntmps82
       go_wp2_with (first | (refine wpList_store_row rfl 48 (.tmp 3) (.tmp 5) rfl (w.heap.size+1) #[.int .i64 k,.int .i64 op,.string (aj tb),.string (aj nm),.int .i64 vk,.int .i64 vn,.string (aj vs),.slice aa ys.length cc] rfl rfl 48 #[.int .i64 0,.int .i64 0,.string ⟨#[]⟩,.string ⟨#[]⟩,.int .i64 0,.int .i64 0,.string ⟨#[]⟩,.slice none 0 0] (heap_alloc2_new w _ _) Tryz.bA rfl rfl ?_;rw[aV]) | fail)
       try rw[hW]
       clear hW
       refine HAE.out.mono ?_
       rintro e w2 ⟨rfl,hb2⟩
       have HBL:=hid hb2
       clear hb2 HAE q0 q1
       have q0:=bK ((HBL.out.block w.heap.size hz0).trans HC0.out)
       have q1:=bK ((HBL.out.block (w.heap.size+1) hzW).trans HC1.out)
       have HBX:Hid (Below w.heap.size w w2):=hid (HB.out.trans (HBL.out.mono (by omega)))
       have hle:w.heap.size≤w.heap.size+1:=by omega
       go_wp2_with fail
       refine (HEM.out op tb nm vk vn vs none 0 0 _).mono ?_
       rintro e w9 ⟨rfl,hb9⟩
       have hX:=(HBX.out.setCell (p:=⟨w.heap.size+1,7,none⟩) hle (.slice none 0 0))
       have HB9:=hid (hX.trans (hb9.mono hX.size))
       clear hb9 hX
       go_wp2
       go_ret
       exact⟨rfl,HB9.out⟩
     |
      false =>
      rw[hv] at HAE
      rw[Bool.false_and]
      clear hv
      rcases hk4 with rfl | rfl | rfl
      ·go_enter Tryz.func82,Tryz.ntmps82
       go_wp2_with (first | (refine wpList_store_row rfl 48 (.tmp 3) (.tmp 5) rfl (w.heap.size+1) #[.int .i64 k,.int .i64 op,.string (aj tb),.string (aj nm),.int .i64 vk,.int .i64 vn,.string (aj vs),.slice aa ys.length cc] rfl rfl 48 #[.int .i64 0,.int .i64 0,.string ⟨#[]⟩,.string ⟨#[]⟩,.int .i64 0,.int .i64 0,.string ⟨#[]⟩,.slice none 0 0] (heap_alloc2_new w _ _) Tryz.bA rfl rfl ?_;rw[aV]) | fail)
       try rw[hW]
       clear hW
       refine HAE.out.mono ?_
       rintro e w2 ⟨rfl,hb2⟩
       have HBL:=hid hb2
       clear hb2 HAE q0 q1
       have q0:=bK ((HBL.out.block w.heap.size hz0).trans HC0.out)
       have q1:=bK ((HBL.out.block (w.heap.size+1) hzW).trans HC1.out)
       have HBX:Hid (Below w.heap.size w w2):=hid (HB.out.trans (HBL.out.mono (by omega)))
       have hle:w.heap.size≤w.heap.size+1:=by omega
       go_wp2
       go_ret
       exact⟨rfl,(HBX.out.setCell (p:=⟨w.heap.size+1,7,none⟩) hle (.slice none 0 0))⟩
      ·go_enter Tryz.func82,Tryz.ntmps82
       go_wp2_with (first | (refine wpList_store_row rfl 48 (.tmp 3) (.tmp 5) rfl (w.heap.size+1) #[.int .i64 k,.int .i64 op,.string (aj tb),.string (aj nm),.int .i64 vk,.int .i64 vn,.string (aj vs),.slice aa ys.length cc] rfl rfl 48 #[.int .i64 0,.int .i64 0,.string ⟨#[]⟩,.string ⟨#[]⟩,.int .i64 0,.int .i64 0,.string ⟨#[]⟩,.slice none 0 0] (heap_alloc2_new w _ _) Tryz.bA rfl rfl ?_;rw[aV]) | fail)
       try rw[hW]
       clear hW
       refine HAE.out.mono ?_
       rintro e w2 ⟨rfl,hb2⟩
       have HBL:=hid hb2
       clear hb2 HAE q0 q1
       have q0:=bK ((HBL.out.block w.heap.size hz0).trans HC0.out)
       have q1:=bK ((HBL.out.block (w.heap.size+1) hzW).trans HC1.out)
       have HBX:Hid (Below w.heap.size w w2):=hid (HB.out.trans (HBL.out.mono (by omega)))
       have hle:w.heap.size≤w.heap.size+1:=by omega
       go_wp2
       go_ret
       exact⟨rfl,(HBX.out.setCell (p:=⟨w.heap.size+1,7,none⟩) hle (.slice none 0 0))⟩
      ·go_enter Tryz.func82,Tryz.ntmps82
       go_wp2_with (first | (refine wpList_store_row rfl 48 (.tmp 3) (.tmp 5) rfl (w.heap.size+1) #[.int .i64 k,.int .i64 op,.string (aj tb),.string (aj nm),.int .i64 vk,.int .i64 vn,.string (aj vs),.slice aa ys.length cc] rfl rfl 48 #[.int .i64 0,.int .i64 0,.string ⟨#[]⟩,.string ⟨#[]⟩,.int .i64 0,.int .i64 0,.string ⟨#[]⟩,.slice none 0 0] (heap_alloc2_new w _ _) Tryz.bA rfl rfl ?_;rw[aV]) | fail)
       try rw[hW]
       clear hW
       refine HAE.out.mono ?_
       rintro e w2 ⟨rfl,hb2⟩
       have HBL:=hid hb2
       clear hb2 HAE q0 q1
       have q0:=bK ((HBL.out.block w.heap.size hz0).trans HC0.out)
       have q1:=bK ((HBL.out.block (w.heap.size+1) hzW).trans HC1.out)
       have HBX:Hid (Below w.heap.size w w2):=hid (HB.out.trans (HBL.out.mono (by omega)))
       have hle:w.heap.size≤w.heap.size+1:=by omega
       go_wp2
       go_ret
       exact⟨rfl,(HBX.out.setCell (p:=⟨w.heap.size+1,7,none⟩) hle (.slice none 0 0))⟩
    ·rw[if_neg hk4]
     have g4:(k==4)=false:=by rw[beq_eq_false_iff_ne];exact fun e=>hk4 (.inl e)
     have g5:(k==5)=false:=by rw[beq_eq_false_iff_ne];exact fun e=>hk4 (.inr (.inl e))
     have g6:(k==6)=false:=by rw[beq_eq_false_iff_ne];exact fun e=>hk4 (.inr (.inr e))
     clear r1 r2 r3 r4 r5 HAR hk hk2 hk3 hk4
     go_enter Tryz.func82,Tryz.ntmps82
     go_wp2_with (first | (refine wpList_store_row rfl 48 (.tmp 3) (.tmp 5) rfl (w.heap.size+1) #[.int .i64 k,.int .i64 op,.string (aj tb),.string (aj nm),.int .i64 vk,.int .i64 vn,.string (aj vs),.slice aa ys.length cc] rfl rfl 48 #[.int .i64 0,.int .i64 0,.string ⟨#[]⟩,.string ⟨#[]⟩,.int .i64 0,.int .i64 0,.string ⟨#[]⟩,.slice none 0 0] (heap_alloc2_new w _ _) Tryz.bA rfl rfl ?_;rw[aV]) | fail)
     go_ret
     exact⟨rfl,HB.out⟩
end Go.Proofs.YtfeglkleoijlaaaGreatDoor
