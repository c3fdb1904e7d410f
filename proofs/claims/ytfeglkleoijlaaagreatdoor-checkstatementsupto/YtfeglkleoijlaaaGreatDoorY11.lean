import Derived.Test.YtfeglkleoijlaaaGreatDoorY10
import Derived.Test.YtfeglkleoijlaaaGreatDoorY04
import Derived.Test.YtfeglkleoijlaaaGreatDoorY03
import Derived.Laws.StructEq
import Derived.Deep.QuietTactic
import Derived.BigQuiet
import Derived.Test.YtfeglkleoijlaaaGreatDoorY09
namespace Go.Proofs.YtfeglkleoijlaaaGreatDoor
open Go.RowKit Go.Shelf
set_option linter.unusedSimpArgs false
set_option linter.unusedVariables false
set_option maxRecDepth 20000
set_option maxHeartbeats 8000000
theorem FN (w:World) (k op:Int) (tb nm:List UInt8) (vk vn:Int) (vs:List UInt8) (aa:Option Addr) (nn cc:Nat) :
  ∃W,((w.alloc (.cells #[.int .i64 k,.int .i64 op,.string (aj tb),.string (aj nm),.int .i64 vk,.int .i64 vn,.string (aj vs),.slice aa nn cc] 48)).alloc (.cells #[.int .i64 k,.int .i64 op,.string (aj tb),.string (aj nm),.int .i64 vk,.int .i64 vn,.string (aj vs),.slice aa nn cc] 48)).setCell ⟨w.heap.size+1,0,none⟩ (.int .i64 0)=W∧Below w.heap.size w W∧w.heap.size+1<W.heap.size∧W.heap[w.heap.size]?=some (.cells #[.int .i64 k,.int .i64 op,.string (aj tb),.string (aj nm),.int .i64 vk,.int .i64 vn,.string (aj vs),.slice aa nn cc] 48)∧W.heap[w.heap.size+1]?=some (.cells #[.int .i64 0,.int .i64 op,.string (aj tb),.string (aj nm),.int .i64 vk,.int .i64 vn,.string (aj vs),.slice aa nn cc] 48):=by
 have hb:Below w.heap.size w ((w.alloc (.cells #[.int .i64 k,.int .i64 op,.string (aj tb),.string (aj nm),.int .i64 vk,.int .i64 vn,.string (aj vs),.slice aa nn cc] 48)).alloc (.cells #[.int .i64 k,.int .i64 op,.string (aj tb),.string (aj nm),.int .i64 vk,.int .i64 vn,.string (aj vs),.slice aa nn cc] 48)):=((Below.refl _ w).alloc (aaF _) _).alloc (by simp) _
 have h1:((w.alloc (.cells #[.int .i64 k,.int .i64 op,.string (aj tb),.string (aj nm),.int .i64 vk,.int .i64 vn,.string (aj vs),.slice aa nn cc] 48)).alloc (.cells #[.int .i64 k,.int .i64 op,.string (aj tb),.string (aj nm),.int .i64 vk,.int .i64 vn,.string (aj vs),.slice aa nn cc] 48)).heap[w.heap.size+1]?=some (.cells #[.int .i64 k,.int .i64 op,.string (aj tb),.string (aj nm),.int .i64 vk,.int .i64 vn,.string (aj vs),.slice aa nn cc] 48):=heap_alloc2_new w _ _
 have h0:((w.alloc (.cells #[.int .i64 k,.int .i64 op,.string (aj tb),.string (aj nm),.int .i64 vk,.int .i64 vn,.string (aj vs),.slice aa nn cc] 48)).alloc (.cells #[.int .i64 k,.int .i64 op,.string (aj tb),.string (aj nm),.int .i64 vk,.int .i64 vn,.string (aj vs),.slice aa nn cc] 48)).heap[w.heap.size]?=some (.cells #[.int .i64 k,.int .i64 op,.string (aj tb),.string (aj nm),.int .i64 vk,.int .i64 vn,.string (aj vs),.slice aa nn cc] 48):=by
  rw[Below.heap_alloc _ _ _ (by simp)]
  exact heap_alloc_new w _
 generalize (w.alloc (.cells #[.int .i64 k,.int .i64 op,.string (aj tb),.string (aj nm),.int .i64 vk,.int .i64 vn,.string (aj vs),.slice aa nn cc] 48)).alloc (.cells #[.int .i64 k,.int .i64 op,.string (aj tb),.string (aj nm),.int .i64 vk,.int .i64 vn,.string (aj vs),.slice aa nn cc] 48)=V at hb h0 h1
 refine ⟨_,rfl,hb.setCell (by show w.heap.size≤w.heap.size+1;omega) _,?_,?_,?_⟩
 ·have:=World.lt_of_block h1
  simpa [World.setCell] using this
 ·rw[Below.heap_setCell _ _ _ _ (by show w.heap.size≠w.heap.size+1;omega)]
  exact h0
 ·rw[setCell_eq_setRow V (w.heap.size+1) 0 _ _ _ _ h1,setRow_heap V _ _ _ _ _ h1]
  rfl
theorem bQ {w:World} {g:Nat} {a b c d e f i j:Value} {t:TypeId} (h:w.heap[g]?=some (.cells #[a,b,c,d,e,f,i,j] t)):(∀i,w.frozen? ⟨g,i,none⟩=false) ∧
 w.cell? ⟨g,0,none⟩=some a∧w.cell? ⟨g,1,none⟩=some b∧w.cell? ⟨g,2,none⟩=some c∧w.cell? ⟨g,3,none⟩=some d∧w.cell? ⟨g,4,none⟩=some e∧w.cell? ⟨g,5,none⟩=some f∧w.cell? ⟨g,6,none⟩=some i∧w.cell? ⟨g,7,none⟩=some j:=Py h
theorem Am (k op:Int) (tb nm:List UInt8) (v:Vl) (xs:List Ex):aF (.mk k op tb nm v xs) =
  if k=1 then dV v&&EN op tb nm zV xs.length
  else if k=2 then (aU nm&&oI tb)&&EN op [] [] v xs.length
  else if k=3 then (decide (1≤op∧op≤13)&&aR xs 2 2 aF)&&EN 0 tb nm v 0
  else if k=4∨k=5∨k=6 then aR xs 1 1 aF&&EN op tb nm v 0
  else false:=by
 have e2:decide (2≤xs.length∧xs.length≤2)=decide (xs.length=2):=by rw[Bool.eq_iff_iff,aaI,aaI];omega
 have e1:decide (1≤xs.length∧xs.length≤1)=decide (xs.length=1):=by rw[Bool.eq_iff_iff,aaI,aaI];omega
 rw[lW]
 unfold EN aR oI
 rw[e1,e2,G5]
 simp only[decide_true,aaA,Bool.and_true,Bool.and_assoc]
theorem qM (S:Nat→Prop):∀(N:Nat) (x:Ex) (v:Value) (w:World),SizeOf.sizeOf x<N→mO x→gH S w x v →
  Calls Tryz.prog 82 #[v] w fun e w'=>e = .returned (.bool (aF x))∧Below w.heap.size w w':=by
 intro N
 induction N with
 | zero=>intro x v w h;exact absurd h (Nat.not_lt_zero _)
 | succ N ih =>
 intro x v w hN hR hx
 obtain⟨k,op,tb,nm,vk,vn,vs,ys,aa,nn,cc,rfl,rfl,ha⟩:=hx
 obtain⟨_,_,_,_,_,_,r1,r2,r3,r4,r5,rx⟩:=hR
 dsimp only at r1 r2 r3
 obtain⟨a',c',hsl,_⟩:=ha.form
 simp only[aah] at hsl
 obtain⟨rfl,rfl,rfl⟩:=hsl
 rw[Am]
 obtain⟨W,hW,hbW,aJ,hc0,hc1⟩:=FN w k op tb nm vk vn vs aa ys.length cc
 have q0:=bQ hc0
 have q1:=bQ hc1
 have HB:=hid hbW
 have dI:=hid hc0
 have dB:=hid hc1
 have hz0:w.heap.size<W.heap.size:=by omega
 have Fq:Hid (∀(lo hi:Nat) (V:World),lo≤100→hi≤100→Below w.heap.size w V→Calls Tryz.prog 95 #[.slice aa ys.length cc,.int .i64 lo,.int .i64 hi,.func (.func 82) #[] #[]] V fun e w'=>e = .returned (.bool (aR ys lo hi aF))∧Below V.heap.size V w'):=hid (fun lo hi V h1 h2 hV =>
  qB S 82 (enters_of Tryz.func82 (by kernel_rfl) rfl) aF ys _ lo hi V h1 h2 (eZ (ha.new hV)) (hid (fun y hy U hU cs hcs=>ih y _ U (by have:=List.sizeOf_lt_of_mem hy;simp at hN;omega) (rx y hy) hcs.v)))
 have Cy:=hid (fun op' tb' nm' jM QB vs' Fu KL cc' V=>zw op' tb' nm' jM QB vs' Fu KL cc' V)
 clear ih rx ha hbW hc0 hc1 hN
 by_cases hk:k=1
 ·rw[if_pos hk]
  subst hk
  have RP:=hid (qd vk vn vs W r1 r2 r3)
  clear r1 r2 r3 r4 r5 Fq
  cases hv:dV ⟨vk,vn,vs⟩ with
  |
   true =>
   rw[hv] at RP
   rw[aaA]
   clear hv
   go_enter Tryz.func82,Tryz.ntmps82
   go_wp2_with (first | (refine lC (heap_alloc2_new w _ _) ?_;rw[aY]) | fail)
   try rw[hW]
   clear hW
   refine RP.out.mono ?_
   rintro e w1 ⟨rfl,hb1⟩
   have jR:=hid hb1
   clear hb1 RP q0 q1
   have q0:=bQ ((jR.out.block w.heap.size hz0).trans dI.out)
   have q1:=bQ ((jR.out.block (w.heap.size+1) aJ).trans dB.out)
   have iq:Hid (Below w.heap.size w w1):=hid (HB.out.trans (jR.out.mono (by omega)))
   have hle:w.heap.size≤w.heap.size+1:=by omega
   go_wp2_with fail
   refine (Cy.out op tb nm 0 0 [] aa ys.length cc _).mono ?_
   rintro e w9 ⟨rfl,kM⟩
   have hX:=(((iq.out.setCell (p:=⟨w.heap.size+1,4,none⟩) hle (.int .i64 0)).setCell (p:=⟨w.heap.size+1,5,none⟩) hle (.int .i64 0)).setCell (p:=⟨w.heap.size+1,6,none⟩) hle (.string ⟨#[]⟩))
   have nQ:=hid (hX.trans (kM.mono hX.size))
   clear kM hX
   go_wp2
   go_ret
   exact⟨rfl,nQ.out⟩
  |
   false =>
   rw[hv] at RP
   rw[aaz]
   clear hv
   go_enter Tryz.func82,Tryz.ntmps82
   go_wp2_with (first | (refine lC (heap_alloc2_new w _ _) ?_;rw[aY]) | fail)
   try rw[hW]
   clear hW
   refine RP.out.mono ?_
   rintro e w1 ⟨rfl,hb1⟩
   have jR:=hid hb1
   clear hb1 RP q0 q1
   have q0:=bQ ((jR.out.block w.heap.size hz0).trans dI.out)
   have q1:=bQ ((jR.out.block (w.heap.size+1) aJ).trans dB.out)
   have iq:Hid (Below w.heap.size w w1):=hid (HB.out.trans (jR.out.mono (by omega)))
   have hle:w.heap.size≤w.heap.size+1:=by omega
   go_wp2
   go_ret
   exact⟨rfl,(((iq.out.setCell (p:=⟨w.heap.size+1,4,none⟩) hle (.int .i64 0)).setCell (p:=⟨w.heap.size+1,5,none⟩) hle (.int .i64 0)).setCell (p:=⟨w.heap.size+1,6,none⟩) hle (.string ⟨#[]⟩))⟩
 ·rw[if_neg hk]
  have hk1:(k==1)=false:=by simpa using hk
  by_cases hk2:k=2
  ·rw[if_pos hk2]
   subst hk2
   have rM:=hid (je nm W r5)
   have mI:=hid (fun V=>Hq tb V r4)
   clear r1 r2 r3 r4 r5 Fq hk hk1
   cases hv:aU nm with
   |
    true =>
    rw[hv] at rM
    rw[aaA]
    clear hv
    cases hv:oI tb with
    |
     true =>
     rw[hv] at mI
     rw[aaA]
     clear hv
     go_enter Tryz.func82,Tryz.ntmps82
     go_wp2_with (first | (refine lC (heap_alloc2_new w _ _) ?_;rw[aY]) | fail)
     try rw[hW]
     clear hW
     refine rM.out.mono ?_
     rintro e w1 ⟨rfl,hb1⟩
     have q01:=bQ ((hb1.block w.heap.size hz0).trans dI.out)
     have HB1:=hid hb1
     clear hb1 rM
     go_wp2_with fail
     refine (mI.out w1).mono ?_
     rintro e w2 ⟨rfl,hb2⟩
     have jR:=htr HB1 hb2
     clear hb2 mI q0 q1 q01 HB1
     have q0:=bQ ((jR.out.block w.heap.size hz0).trans dI.out)
     have q1:=bQ ((jR.out.block (w.heap.size+1) aJ).trans dB.out)
     have iq:Hid (Below w.heap.size w w2):=hid (HB.out.trans (jR.out.mono (by omega)))
     have hle:w.heap.size≤w.heap.size+1:=by omega
     go_wp2_with fail
     refine (Cy.out op [] [] vk vn vs aa ys.length cc _).mono ?_
     rintro e w9 ⟨rfl,kM⟩
     have hX:=((iq.out.setCell (p:=⟨w.heap.size+1,3,none⟩) hle (.string ⟨#[]⟩)).setCell (p:=⟨w.heap.size+1,2,none⟩) hle (.string ⟨#[]⟩))
     have nQ:=hid (hX.trans (kM.mono hX.size))
     clear kM hX
     go_wp2
     go_ret
     exact⟨rfl,nQ.out⟩
    |
     false =>
     rw[hv] at mI
     rw[aaz]
     clear hv
     go_enter Tryz.func82,Tryz.ntmps82
     go_wp2_with (first | (refine lC (heap_alloc2_new w _ _) ?_;rw[aY]) | fail)
     try rw[hW]
     clear hW
     refine rM.out.mono ?_
     rintro e w1 ⟨rfl,hb1⟩
     have q01:=bQ ((hb1.block w.heap.size hz0).trans dI.out)
     have HB1:=hid hb1
     clear hb1 rM
     go_wp2_with fail
     refine (mI.out w1).mono ?_
     rintro e w2 ⟨rfl,hb2⟩
     have jR:=htr HB1 hb2
     clear hb2 mI q0 q1 q01 HB1
     have q0:=bQ ((jR.out.block w.heap.size hz0).trans dI.out)
     have q1:=bQ ((jR.out.block (w.heap.size+1) aJ).trans dB.out)
     have iq:Hid (Below w.heap.size w w2):=hid (HB.out.trans (jR.out.mono (by omega)))
     have hle:w.heap.size≤w.heap.size+1:=by omega
     go_wp2
     go_ret
     exact⟨rfl,((iq.out.setCell (p:=⟨w.heap.size+1,3,none⟩) hle (.string ⟨#[]⟩)).setCell (p:=⟨w.heap.size+1,2,none⟩) hle (.string ⟨#[]⟩))⟩
   |
    false =>
    rw[hv] at rM
    rw[aaz,aaz]
    clear hv
    go_enter Tryz.func82,Tryz.ntmps82
    go_wp2_with (first | (refine lC (heap_alloc2_new w _ _) ?_;rw[aY]) | fail)
    try rw[hW]
    clear hW
    refine rM.out.mono ?_
    rintro e w1 ⟨rfl,hb1⟩
    have jR:=hid hb1
    clear hb1 rM mI q0 q1
    have q0:=bQ ((jR.out.block w.heap.size hz0).trans dI.out)
    have q1:=bQ ((jR.out.block (w.heap.size+1) aJ).trans dB.out)
    have iq:Hid (Below w.heap.size w w1):=hid (HB.out.trans (jR.out.mono (by omega)))
    have hle:w.heap.size≤w.heap.size+1:=by omega
    go_wp2
    go_ret
    exact⟨rfl,((iq.out.setCell (p:=⟨w.heap.size+1,3,none⟩) hle (.string ⟨#[]⟩)).setCell (p:=⟨w.heap.size+1,2,none⟩) hle (.string ⟨#[]⟩))⟩
  ·rw[if_neg hk2]
   have Cj:(k==2)=false:=by simpa using hk2
   by_cases hk3:k=3
   ·rw[if_pos hk3]
    subst hk3
    have Ri:=hid (Mx op W)
    have yZ:=hid (Fq.out 2 2 W (by omega) (by omega) HB.out)
    clear r1 r2 r3 r4 r5 Fq hk hk1 hk2 Cj
    cases hv:decide (1≤op∧op≤13) with
    |
     true =>
     rw[hv] at Ri
     rw[aaA]
     clear hv
     cases hv:aR ys 2 2 aF with
     |
      true =>
      rw[hv] at yZ
      rw[aaA]
      clear hv
      go_enter Tryz.func82,Tryz.ntmps82
      go_wp2_with (first | (refine lC (heap_alloc2_new w _ _) ?_;rw[aY]) | fail)
      try rw[hW]
      clear hW
      refine Ri.out.mono ?_
      rintro e w1 ⟨rfl,hw1⟩
      obtain rfl:W=w1:=hw1.symm
      clear hw1 Ri
      go_wp2_with fail
      refine yZ.out.mono ?_
      rintro e w2 ⟨rfl,hb2⟩
      have jR:=hid hb2
      clear hb2 yZ q0 q1
      have q0:=bQ ((jR.out.block w.heap.size hz0).trans dI.out)
      have q1:=bQ ((jR.out.block (w.heap.size+1) aJ).trans dB.out)
      have iq:Hid (Below w.heap.size w w2):=hid (HB.out.trans (jR.out.mono (by omega)))
      have hle:w.heap.size≤w.heap.size+1:=by omega
      go_wp2_with fail
      refine (Cy.out 0 tb nm vk vn vs none 0 0 _).mono ?_
      rintro e w9 ⟨rfl,kM⟩
      have hX:=((iq.out.setCell (p:=⟨w.heap.size+1,1,none⟩) hle (.int .i64 0)).setCell (p:=⟨w.heap.size+1,7,none⟩) hle (.slice none 0 0))
      have nQ:=hid (hX.trans (kM.mono hX.size))
      clear kM hX
      go_wp2
      go_ret
      exact⟨rfl,nQ.out⟩
     |
      false =>
      rw[hv] at yZ
      rw[aaz]
      clear hv
      go_enter Tryz.func82,Tryz.ntmps82
      go_wp2_with (first | (refine lC (heap_alloc2_new w _ _) ?_;rw[aY]) | fail)
      try rw[hW]
      clear hW
      refine Ri.out.mono ?_
      rintro e w1 ⟨rfl,hw1⟩
      obtain rfl:W=w1:=hw1.symm
      clear hw1 Ri
      go_wp2_with fail
      refine yZ.out.mono ?_
      rintro e w2 ⟨rfl,hb2⟩
      have jR:=hid hb2
      clear hb2 yZ q0 q1
      have q0:=bQ ((jR.out.block w.heap.size hz0).trans dI.out)
      have q1:=bQ ((jR.out.block (w.heap.size+1) aJ).trans dB.out)
      have iq:Hid (Below w.heap.size w w2):=hid (HB.out.trans (jR.out.mono (by omega)))
      have hle:w.heap.size≤w.heap.size+1:=by omega
      go_wp2
      go_ret
      exact⟨rfl,((iq.out.setCell (p:=⟨w.heap.size+1,1,none⟩) hle (.int .i64 0)).setCell (p:=⟨w.heap.size+1,7,none⟩) hle (.slice none 0 0))⟩
    |
     false =>
     rw[hv] at Ri
     rw[aaz,aaz]
     clear hv
     go_enter Tryz.func82,Tryz.ntmps82
     go_wp2_with (first | (refine lC (heap_alloc2_new w _ _) ?_;rw[aY]) | fail)
     try rw[hW]
     clear hW
     refine Ri.out.mono ?_
     rintro e w1 ⟨rfl,hw1⟩
     obtain rfl:W=w1:=hw1.symm
     have jR:=hid (Below.refl W.heap.size W)
     clear hw1 Ri yZ q0 q1
     have q0:=bQ ((jR.out.block w.heap.size hz0).trans dI.out)
     have q1:=bQ ((jR.out.block (w.heap.size+1) aJ).trans dB.out)
     have iq:Hid (Below w.heap.size w W):=hid (HB.out.trans (jR.out.mono (by omega)))
     have hle:w.heap.size≤w.heap.size+1:=by omega
     go_wp2
     go_ret
     exact⟨rfl,((iq.out.setCell (p:=⟨w.heap.size+1,1,none⟩) hle (.int .i64 0)).setCell (p:=⟨w.heap.size+1,7,none⟩) hle (.slice none 0 0))⟩
   ·rw[if_neg hk3]
    have LM:(k==3)=false:=by simpa using hk3
    by_cases hk4:k=4∨k=5∨k=6
    ·rw[if_pos hk4]
     have yZ:=hid (Fq.out 1 1 W (by omega) (by omega) HB.out)
     clear r1 r2 r3 r4 r5 Fq hk hk1 hk2 Cj hk3 LM
     cases hv:aR ys 1 1 aF with
     |
      true =>
      rw[hv] at yZ
      rw[aaA]
      clear hv
      rcases hk4 with rfl | rfl | rfl
      ·go_enter Tryz.func82,Tryz.ntmps82
       go_wp2_with (first | (refine lC (heap_alloc2_new w _ _) ?_;rw[aY]) | fail)
       try rw[hW]
       clear hW
       refine yZ.out.mono ?_
       rintro e w2 ⟨rfl,hb2⟩
       have jR:=hid hb2
       clear hb2 yZ q0 q1
       have q0:=bQ ((jR.out.block w.heap.size hz0).trans dI.out)
       have q1:=bQ ((jR.out.block (w.heap.size+1) aJ).trans dB.out)
       have iq:Hid (Below w.heap.size w w2):=hid (HB.out.trans (jR.out.mono (by omega)))
       have hle:w.heap.size≤w.heap.size+1:=by omega
       go_wp2_with fail
       refine (Cy.out op tb nm vk vn vs none 0 0 _).mono ?_
       rintro e w9 ⟨rfl,kM⟩
       have hX:=(iq.out.setCell (p:=⟨w.heap.size+1,7,none⟩) hle (.slice none 0 0))
       have nQ:=hid (hX.trans (kM.mono hX.size))
       clear kM hX
       go_wp2
       go_ret
       exact⟨rfl,nQ.out⟩
      ·go_enter Tryz.func82,Tryz.ntmps82
       go_wp2_with (first | (refine lC (heap_alloc2_new w _ _) ?_;rw[aY]) | fail)
       try rw[hW]
       clear hW
       refine yZ.out.mono ?_
       rintro e w2 ⟨rfl,hb2⟩
       have jR:=hid hb2
       clear hb2 yZ q0 q1
       have q0:=bQ ((jR.out.block w.heap.size hz0).trans dI.out)
       have q1:=bQ ((jR.out.block (w.heap.size+1) aJ).trans dB.out)
       have iq:Hid (Below w.heap.size w w2):=hid (HB.out.trans (jR.out.mono (by omega)))
       have hle:w.heap.size≤w.heap.size+1:=by omega
       go_wp2_with fail
       refine (Cy.out op tb nm vk vn vs none 0 0 _).mono ?_
       rintro e w9 ⟨rfl,kM⟩
       have hX:=(iq.out.setCell (p:=⟨w.heap.size+1,7,none⟩) hle (.slice none 0 0))
       have nQ:=hid (hX.trans (kM.mono hX.size))
       clear kM hX
       go_wp2
       go_ret
       exact⟨rfl,nQ.out⟩
      ·go_enter Tryz.func82,Tryz.ntmps82
       go_wp2_with (first | (refine lC (heap_alloc2_new w _ _) ?_;rw[aY]) | fail)
       try rw[hW]
       clear hW
       refine yZ.out.mono ?_
       rintro e w2 ⟨rfl,hb2⟩
       have jR:=hid hb2
       clear hb2 yZ q0 q1
       have q0:=bQ ((jR.out.block w.heap.size hz0).trans dI.out)
       have q1:=bQ ((jR.out.block (w.heap.size+1) aJ).trans dB.out)
       have iq:Hid (Below w.heap.size w w2):=hid (HB.out.trans (jR.out.mono (by omega)))
       have hle:w.heap.size≤w.heap.size+1:=by omega
       go_wp2_with fail
       refine (Cy.out op tb nm vk vn vs none 0 0 _).mono ?_
       rintro e w9 ⟨rfl,kM⟩
       have hX:=(iq.out.setCell (p:=⟨w.heap.size+1,7,none⟩) hle (.slice none 0 0))
       have nQ:=hid (hX.trans (kM.mono hX.size))
       clear kM hX
       go_wp2
       go_ret
       exact⟨rfl,nQ.out⟩
     |
      false =>
      rw[hv] at yZ
      rw[aaz]
      clear hv
      rcases hk4 with rfl | rfl | rfl
      ·go_enter Tryz.func82,Tryz.ntmps82
       go_wp2_with (first | (refine lC (heap_alloc2_new w _ _) ?_;rw[aY]) | fail)
       try rw[hW]
       clear hW
       refine yZ.out.mono ?_
       rintro e w2 ⟨rfl,hb2⟩
       have jR:=hid hb2
       clear hb2 yZ q0 q1
       have q0:=bQ ((jR.out.block w.heap.size hz0).trans dI.out)
       have q1:=bQ ((jR.out.block (w.heap.size+1) aJ).trans dB.out)
       have iq:Hid (Below w.heap.size w w2):=hid (HB.out.trans (jR.out.mono (by omega)))
       have hle:w.heap.size≤w.heap.size+1:=by omega
       go_wp2
       go_ret
       exact⟨rfl,(iq.out.setCell (p:=⟨w.heap.size+1,7,none⟩) hle (.slice none 0 0))⟩
      ·go_enter Tryz.func82,Tryz.ntmps82
       go_wp2_with (first | (refine lC (heap_alloc2_new w _ _) ?_;rw[aY]) | fail)
       try rw[hW]
       clear hW
       refine yZ.out.mono ?_
       rintro e w2 ⟨rfl,hb2⟩
       have jR:=hid hb2
       clear hb2 yZ q0 q1
       have q0:=bQ ((jR.out.block w.heap.size hz0).trans dI.out)
       have q1:=bQ ((jR.out.block (w.heap.size+1) aJ).trans dB.out)
       have iq:Hid (Below w.heap.size w w2):=hid (HB.out.trans (jR.out.mono (by omega)))
       have hle:w.heap.size≤w.heap.size+1:=by omega
       go_wp2
       go_ret
       exact⟨rfl,(iq.out.setCell (p:=⟨w.heap.size+1,7,none⟩) hle (.slice none 0 0))⟩
      ·go_enter Tryz.func82,Tryz.ntmps82
       go_wp2_with (first | (refine lC (heap_alloc2_new w _ _) ?_;rw[aY]) | fail)
       try rw[hW]
       clear hW
       refine yZ.out.mono ?_
       rintro e w2 ⟨rfl,hb2⟩
       have jR:=hid hb2
       clear hb2 yZ q0 q1
       have q0:=bQ ((jR.out.block w.heap.size hz0).trans dI.out)
       have q1:=bQ ((jR.out.block (w.heap.size+1) aJ).trans dB.out)
       have iq:Hid (Below w.heap.size w w2):=hid (HB.out.trans (jR.out.mono (by omega)))
       have hle:w.heap.size≤w.heap.size+1:=by omega
       go_wp2
       go_ret
       exact⟨rfl,(iq.out.setCell (p:=⟨w.heap.size+1,7,none⟩) hle (.slice none 0 0))⟩
    ·rw[if_neg hk4]
     have g4:(k==4)=false:=by rw[aai];exact fun e=>hk4 (.inl e)
     have g5:(k==5)=false:=by rw[aai];exact fun e=>hk4 (.inr (.inl e))
     have g6:(k==6)=false:=by rw[aai];exact fun e=>hk4 (.inr (.inr e))
     clear r1 r2 r3 r4 r5 Fq hk hk2 hk3 hk4
     go_enter Tryz.func82,Tryz.ntmps82
     go_wp2_with (first | (refine lC (heap_alloc2_new w _ _) ?_;rw[aY]) | fail)
     go_ret
     exact⟨rfl,HB.out⟩
end Go.Proofs.YtfeglkleoijlaaaGreatDoor
namespace Go.Proofs.YtfeglkleoijlaaaGreatDoor
set_option linter.unusedSimpArgs false
set_option linter.unusedVariables false
set_option maxHeartbeats 8000000
theorem ug {α:Type} {xs:List α} {b:Nat} {p:α→Bool} (h:aR xs 1 b p=true):∃x l,xs=x::l∧l.length+1≤b∧∀y∈x::l,p y=true:=by
 unfold aR at h
 simp only[aaC,aaI,List.all_eq_true] at h
 match xs,h with
 | [],h=>exact absurd h.1.1 (by simp)
 | x::l,h=>exact⟨x,l,rfl,h.1.2,h.2⟩
theorem aP {α:Type} {xs:List α} {a b:Nat} {p:α→Bool} (h:aR xs a b p=true):∀x∈xs,p x=true:=by
 unfold aR at h
 simp only[aaC,List.all_eq_true] at h
 exact h.2
open Go.RowKit Go.Shelf
set_option maxRecDepth 20000
theorem mY.ok {t:Tk} (h:mY t):UE t:=⟨h.len,h.n0,h.n1⟩
end Go.Proofs.YtfeglkleoijlaaaGreatDoor
namespace Go.Proofs.YtfeglkleoijlaaaGreatDoor
set_option linter.unusedSimpArgs false
set_option linter.unusedVariables false
set_option maxHeartbeats 8000000
theorem Qw {s:List UInt8} (h1:skip false s=0) (h2:oZ s=(0,bg s,s.length)):mY (bg s):=by
 have:=EZ h1 h2 0
 have e:(⟨(bg s).k,(bg s).s,(bg s).n,0⟩:Tk)=bg s:=by unfold bg;split<;>rfl
 rw[e] at this
 exact this
def Vt:List (List UInt8):=[[40],[41],[44],[59],[46],[42],[43],[45],[47],[37],[61],[60],[62],[60,62],[60,61],[62,61],[65,78,68],[66,89],[67,79,85,78,84],[67,82,69,65,84,69],[68,69,76,69,84,69],[68,69,83,67],[68,82,79,80],[70,82,79,77],[71,82,79,85,80],[73,78,83,69,82,84],[73,78,84],[73,78,84,79],[73,83],[74,79,73,78],[75,69,89],[76,73,77,73,84],[77,65,88],[77,73,78],[78,79,84],[78,85,76,76],[79,78],[79,82],[79,82,68,69,82],[80,82,73,77,65,82,89],[83,69,76,69,67,84],[83,69,84],[83,85,77],[84,65,66,76,69],[84,69,88,84],[85,78,73,81,85,69],[85,80,68,65,84,69],[86,65,76,85,69,83],[87,72,69,82,69]]
theorem OA : ∀s∈Vt,mY (bg s):=by
 unfold Vt
 simp only[List.forall_mem_cons]
 refine ⟨?_,?_,?_,?_,?_,?_,?_,?_,?_,?_,?_,?_,?_,?_,?_,?_,?_,?_,?_,?_,?_,?_,?_,?_,?_,?_,?_,?_,?_,?_,?_,?_,?_,?_,?_,?_,?_,?_,?_,?_,?_,?_,?_,?_,?_,?_,?_,?_,?_,?_⟩<;>first | (refine Qw ?_ ?_<;>rfl) | (intro x hx;cases hx)
theorem bL {s:List UInt8} (h:s∈Vt):mY (bg s):=OA s h
theorem jk {s:List UInt8} (h:aU s=true):mY (dQ s):=by
 unfold aU at h
 simp only[aaC,aaI] at h
 obtain⟨h1,h2,h3,h4⟩:=h
 cases s with
 | nil=>simp at h1
 |
  cons c r =>
  have h3:dh gZ c=true:=h3
  have hc:oZ (c::r)=(0,dQ (c::r),(c::r).length):=by
   unfold oZ
   dsimp only
   rw[if_pos h3]
   unfold nU
   rw[h4,List.drop_length,List.take_length,if_neg (by decide),if_neg (by omega)]
   rfl
  have hs:skip false (c::r)=0:=by
   rw[skip,if_neg ?_]
   ·cases r with
    | nil=>rw[if_neg (by simp)]
    |
     cons d r' =>
     rw[if_neg ?_]
     rintro⟨rfl,_⟩
     exact absurd (show dh gZ 45=true from h3) (by decide)
   ·intro hb
    have : ∀c∈Mq,dh gZ c=false:=by decide
    rw[this c (by simpa [dh] using hb)] at h3
    cases h3
  exact EZ hs hc 0
def bD (ts:List Tk):Prop:=∀t∈ts,mY t
theorem bD.nil:bD []:=fun t h=>by cases h
theorem bD.cons {t:Tk} {ts:List Tk} (h:mY t) (hs:bD ts):bD (t::ts):=fun x hx=>by
 rcases abg.1 hx with rfl | hx
 ·exact h
 ·exact hs x hx
theorem bD.app {a b:List Tk} (h:bD a) (hs:bD b):bD (a++b):=fun x hx=>by
 rcases List.mem_append.1 hx with hx | hx
 ·exact h x hx
 ·exact hs x hx
theorem bD.words {l:List (List UInt8)} (h : ∀s∈l,s∈Vt):bD (ay l):=fun x hx=>by
 obtain⟨s,hs,rfl⟩:=List.mem_map.1 hx
 exact bL (h s hs)
theorem bD.sep {sep:Tk} {l:List (List Tk)} (hs:mY sep) (h : ∀x∈l,bD x):bD (aV sep l):=by
 cases l with
 | nil=>exact bD.nil
 |
  cons x l =>
  refine (h x (by simp)).app (fun t ht=>?_)
  obtain⟨y,hy,ht⟩:=List.mem_flatMap.1 ht
  exact bD.cons hs (h y (by simp[hy])) t ht
theorem bD.at' {l lv:Nat} {ts:List Tk} (h:bD ts):bD (oV l lv ts):=by
 unfold oV
 split
 ·exact h
 ·exact bD.cons (bL (by decide)) (h.app (bD.cons (bL (by decide)) bD.nil))
theorem Dv {v:Vl} (hv:dV v=true):bD (nK v):=by
 unfold nK
 rcases Db hv with⟨h1,h2,h3⟩ | ⟨h1,h2,h3⟩ | ⟨h1,h2,h3,h4⟩
 ·rw[if_pos h1]
  exact bD.cons (zL v.s 0 h3) bD.nil
 ·rw[if_neg (by omega),if_pos h1]
  exact bD.cons (bL (by decide)) bD.nil
 ·rw[if_neg (by omega),if_neg (by omega)]
  split
  ·exact bD.cons (bL (by decide)) (bD.cons (sG _ 0 (by omega) (by omega)) bD.nil)
  ·exact bD.cons (sG _ 0 (by omega) (by omega)) bD.nil
theorem Sk (o:Int) (h1:1≤o) (h2:o≤13):vW o∈Vt:=by
 rcases FI o h1 h2 with rfl | rfl | rfl | rfl | rfl | rfl | rfl | rfl | rfl | rfl | rfl | rfl | rfl<;>decide
theorem IK (t:Tm) (h:t.ok):bD t.tk:=by
 induction t with
 | val v=>exact Dv h
 |
  col a b =>
  simp only[Tm.tk]
  split
  ·exact bD.cons (jk h.1) bD.nil
  ·rename_i ha
   exact bD.cons (jk (h.2.resolve_left ha)) (bD.cons (bL (by decide)) (bD.cons (jk h.1) bD.nil))
 | op o a b ha hb=>exact (ha h.2.2.1).at'.app (bD.cons (bL (Sk o h.1 h.2.1)) (hb h.2.2.2).at')
 | not a ha=>exact bD.cons (bL (by decide)) (ha h.2).at'
 | neg a ha=>exact bD.cons (bL (by decide)) (ha h).at'
 | zZ a ha=>exact (ha h).at'.app (bD.cons (bL (by decide)) (bD.cons (bL (by decide)) bD.nil))
 | ny a ha=>exact (ha h).at'.app (bD.cons (bL (by decide)) (bD.cons (bL (by decide)) (bD.cons (bL (by decide)) bD.nil)))
theorem Bz {e:Ex} (h:aF e=true):bD (qb e):=IK _ (tq h).1
theorem lU {xs:List Ex} {ws:List (List UInt8)} (h : ∀x∈xs,aF x=true) (hw : ∀s∈ws,s∈Vt):bD (bM xs ws):=fun t ht=>by
 obtain⟨x,hx,ht⟩:=List.mem_flatMap.1 ht
 exact ((bD.words hw).app (Bz (h x hx))) t ht
theorem yL {e:Ex} (h:dO e=true):aF e=true:=by
 unfold dO at h
 simp only[aaC] at h
 exact h.2
theorem J8 {i:It} (h:oQ i=true):bD (Fx i):=by
 unfold oQ at h
 unfold Fx
 by_cases h1:i.k=1
 ·rw[if_pos h1];exact bD.cons (bL (by decide)) bD.nil
 ·rw[if_neg h1]
  by_cases h3:i.k=3
  ·rw[if_neg (by omega),if_pos h3];exact bD.words (by decide)
  ·rw[if_neg (by omega)] at h
   split at h
   ·rename_i hk
    obtain⟨x,l,hx,_,hp⟩:=ug h
    have hg:=Bz (hp x (by simp))
    rw[hx]
    split
    ·exact hg
    ·refine (bD.words ?_).app (hg.app (bD.cons (bL (by decide)) bD.nil))
     have:i.k=4∨i.k=5∨i.k=6∨i.k=7:=by omega
     rcases this with e | e | e | e<;>rw[e]<;>decide
   ·cases h
theorem Lg {s:List UInt8} (h:oI s=true) (hs:s≠[]):mY (dQ s):=by
 unfold oI at h
 simp only[Bool.or_eq_true,aaI] at h
 exact jk (h.resolve_left hs)
theorem xE {s:St} (h:aQ s=true):bD (o7 s):=by
 unfold aQ at h
 simp only[aaC] at h
 obtain⟨hk,ht,_⟩:=h
 have hn:=jk ht
 unfold lY at hk
 unfold o7
 split at hk
 ·rename_i h1
  rw[if_pos h1]
  simp only[aaC] at hk
  have hm:=aP hk.1
  refine (bD.words (by decide)).app (bD.cons hn (bD.cons (bL (by decide)) ((bD.sep (bL (by decide)) fun x hx=>?_).app ((bD.words (by decide)).app (bD.cons (jk hk.2) (bD.words (by decide)))))))
  obtain⟨c,hc,rfl⟩:=List.mem_map.1 hx
  have hcb:=hm c hc
  unfold iV at hcb
  simp only[aaC] at hcb
  refine bD.cons (jk hcb.1) (bD.cons (bL (by split<;>decide)) (bD.app ?_ ?_))
  ·split
   ·exact bD.words (by decide)
   ·exact bD.nil
  ·split
   ·exact bD.words (by decide)
   ·exact bD.nil
 ·rename_i h1
  rw[if_neg h1]
  split at hk
  ·rename_i h2
   rw[if_pos h2]
   exact (bD.words (by decide)).app (bD.cons hn bD.nil)
  ·rename_i h2
   rw[if_neg h2]
   split at hk
   ·rename_i h3
    rw[if_pos h3]
    have hm:=aP hk
    refine (bD.words (by decide)).app (bD.cons hn (bD.cons (bL (by decide)) (bD.sep (bL (by decide)) fun x hx=>?_)))
    obtain⟨r,hr,rfl⟩:=List.mem_map.1 hx
    have hrm:=aP (hm r hr)
    refine bD.cons (bL (by decide)) ((bD.sep (bL (by decide)) fun y hy=>?_).app (bD.cons (bL (by decide)) bD.nil))
    obtain⟨v,hv,rfl⟩:=List.mem_map.1 hy
    exact Dv (hrm v hv)
   ·rename_i h3
    rw[if_neg h3]
    split at hk
    ·rename_i h4
     rw[if_pos h4]
     simp only[aaC] at hk
     have hm:=aP hk.1
     refine bD.cons (bL (by decide)) (bD.cons hn (bD.cons (bL (by decide)) ((bD.sep (bL (by decide)) fun x hx=>?_).app (lU (aP hk.2) (by decide)))))
     obtain⟨e,he,rfl⟩:=List.mem_map.1 hx
     have:=hm e he
     unfold j6 at this
     simp only[aaC] at this
     exact bD.cons (jk this.1) (bD.cons (bL (by decide)) (Bz this.2))
    ·rename_i h4
     rw[if_neg h4]
     split at hk
     ·rename_i h5
      rw[if_pos h5]
      exact (bD.words (by decide)).app (bD.cons hn (lU (aP hk) (by decide)))
     ·rename_i h5
      rw[if_neg h5]
      split at hk
      ·unfold yA at hk
       simp only[aaC,aaI] at hk
       obtain⟨k1,k2,k3,k4,k5,k6,k7,k8⟩:=hk
       unfold QT
       refine bD.cons (bL (by decide)) ((bD.sep (bL (by decide)) fun x hx=>?_).app (bD.cons (bL (by decide)) (bD.cons hn (bD.app ?_ ((lU (aP k3) (by decide)).app ((lU (aP k4) (by decide)).app ((lU (fun x hx=>yL (aP k5 x hx)) (by decide)).app ((lU (fun x hx=>yL (aP k6 x hx)) (by decide)).app (bD.app ?_ ?_)))))))))
       ·obtain⟨i,hi,rfl⟩:=List.mem_map.1 hx
        exact J8 (aP k1 i hi)
       ·split
        ·exact bD.nil
        ·rename_i hj
         exact bD.cons (bL (by decide)) (bD.cons (Lg k2 hj) bD.nil)
       ·split
        ·exact bD.cons (bL (by decide)) bD.nil
        ·exact bD.nil
       ·split
        ·exact bD.nil
        ·rename_i hl
         exact bD.cons (bL (by decide)) (bD.cons (sG _ 0 (by omega) k8.2) bD.nil)
      ·cases hk
open Go.RowKit Go.Shelf
set_option maxRecDepth 20000
def tC (L:List Tk) (m:Int):List UInt8 × Int:=if 10<m then ([],10) else if 2000<(Lib.join (wD L) [32]).length then ([],2) else (Lib.join (wD L) [32],0)
def xZ (x:Ex):List UInt8 × Int:=if aF x=true then tC (qb x) (jw x) else ([],4)
theorem yG (g:Nat) (tb:Option Nat) (L:List Tk) (d m:Int) (w:World) (h:bO w g tb L d m) (hok : ∀t∈L,UE t) (hn:L.length≤10000000) :
  Calls Tryz.prog 50 #[.pointer (some ⟨g,0,none⟩)] w fun e w'=>e = .returned (.tuple #[.string (aj (tC L m).1),.int .i64 (tC L m).2])∧Below w.heap.size w w':=by
 obtain⟨v,hv,ho,_⟩:=h.lie
 have hT:=(A8 ho).2
 obtain⟨va,vb,vc,rfl⟩:∃va vb vc,v = .slice va vb vc:=by
  rcases ho.2 with⟨rfl,_⟩ | ⟨_,_,_,rfl,_⟩
  ·exact⟨_,_,_,rfl⟩
  ·exact⟨_,_,_,rfl⟩
 have k:=iZ hv
 have HW:=hid (GJ w.heap.size _ L w h.tab (aaF _) hT hok hn)
 unfold tC
 generalize Lib.join (wD L) [32]=T at HW ⊢
 clear h hv ho hT hok hn
 by_cases hm:10<m
 ·rw[if_pos hm]
  clear HW
  go_enter Tryz.func50,Tryz.ntmps50
  go_wp2
  exact bodyPost_ret (v:=.tuple #[.string ⟨#[]⟩,.int .i64 10]) (by simp[results,Tryz.results50,go_sem]) rfl ⟨rfl,Below.refl _ _⟩
 ·rw[if_neg hm]
  have hsz:(aj T).size=T.length:=rfl
  by_cases hl:2000<T.length
  ·rw[if_pos hl]
   have hl':((2000:Int)<((aj T).size:Int)):=by rw[hsz];omega
   clear hl hsz
   generalize aj T=S at HW hl'
   go_enter Tryz.func50,Tryz.ntmps50
   go_wp2_with fail
   refine HW.out.mono ?_
   rintro e w1 ⟨rfl,hb1⟩
   have HB:=hid hb1
   clear hb1 HW
   go_wp2
   exact bodyPost_ret (v:=.tuple #[.string ⟨#[]⟩,.int .i64 2]) (by simp[results,Tryz.results50,go_sem]) rfl ⟨rfl,HB.out⟩
  ·rw[if_neg hl]
   have hl' : ¬((2000:Int)<((aj T).size:Int)):=by rw[hsz];omega
   clear hl hsz
   dsimp only
   generalize aj T=S at HW hl' ⊢
   go_enter Tryz.func50,Tryz.ntmps50
   go_wp2_with fail
   refine HW.out.mono ?_
   rintro e w1 ⟨rfl,hb1⟩
   have HB:=hid hb1
   clear hb1 HW
   go_wp2
   exact bodyPost_ret (v:=.tuple #[.string S,.int .i64 0]) (by simp[results,Tryz.results50,go_sem]) rfl ⟨rfl,HB.out⟩
theorem FR (w:World) (h:iL w):∃W,w.alloc (.cells #[.slice none 0 0,.int .i64 0,.int .i64 0] 100)=W∧Below w.heap.size w W∧w.heap.size<W.heap.size∧bO W w.heap.size none [] 0 0:=by
 obtain⟨W,hW,hbW,aJ,hcW⟩:=aK w (.cells #[.slice none 0 0,.int .i64 0,.int .i64 0] 100)
 exact⟨W,hW,hbW,aJ,⟨⟨_,hcW,World.ownsRow_nil _ _ _ _,rfl⟩,h.on hbW,h.lt⟩⟩
theorem zy (S:Nat→Prop) (x:Ex) (v:Value) (w:World) (hT:iL w) (hR:mO x) (hx:gH S w x v) (hz:aF x=true→pX x≤1000000) :
  Calls Tryz.prog 37 #[v] w fun e w'=>e = .returned (.tuple #[.string (aj (xZ x).1),.int .i64 (xZ x).2])∧Below w.heap.size w w':=by
 have HX:=hid hx
 obtain⟨k,op,tb,nm,vk,vn,vs,ys,aa,nn,cc,he,rfl,ha⟩:=hx
 obtain⟨W,hW,hbW,aJ,hcW⟩:=aK w (.cells #[.int .i64 k,.int .i64 op,.string (aj tb),.string (aj nm),.int .i64 vk,.int .i64 vn,.string (aj vs),.slice aa nn cc] 48)
 have k0:=aG hcW
 have Pf:=hid (qM S _ x _ W (Nat.lt_succ_self _) hR (HX.out.new hbW))
 have HB:=hid hbW
 have HC:=hid hcW
 have QV:=hid (hT.on hbW)
 unfold xZ
 clear hbW hcW ha he hT hR
 cases hr:aF x with
 |
  false =>
  rw[hr] at Pf
  rw[if_neg Bool.false_ne_true]
  clear hr hz
  go_enter Tryz.func37,Tryz.ntmps37
  go_wp2_with fail
  refine Pf.out.mono ?_
  rintro e w1 ⟨rfl,hb1⟩
  have HB1:=htr HB hb1
  clear hb1 Pf
  go_wp2
  exact bodyPost_ret (v:=.tuple #[.string ⟨#[]⟩,.int .i64 4]) (by simp[results,Tryz.results37,go_sem]) rfl ⟨rfl,HB1.out⟩
 |
  true =>
  rw[hr] at Pf
  rw[if_pos rfl]
  obtain⟨hok,hex⟩:=tq hr
  have hz2:=hz hr
  unfold pX at hz2
  have hl:=L8 (nD x)
  have hd:=Rl (nD x)
  have hgd:=IK _ hok
  have hXW:=Lb (nD x) hok
  show Calls Tryz.prog 37 _ w fun e w'=>e = .returned (.tuple #[.string (aj (tC (nD x).tk (nD x).dp).1),.int .i64 (tC (nD x).tk (nD x).dp).2])∧_
  obtain⟨R,hR⟩:∃R,tC (nD x).tk ((nD x).dp:Int)=R:=⟨_,rfl⟩
  rw[hR]
  have HRR:=hid hR
  clear hR
  have K6:Hid (∀t∈(nD x).tk,UE t):=hid (fun t ht=>(hgd t ht).ok)
  clear hgd hr hz hok
  go_enter Tryz.func37,Tryz.ntmps37
  go_wp2_with fail
  refine Pf.out.mono ?_
  rintro e w1 ⟨rfl,hb1⟩
  have hB1:=HB.out.trans (hb1.mono HB.out.size)
  obtain⟨V,hV,mU,K4,Rs⟩:=FR w1 (QV.out.on hb1)
  have hlt1:w.heap.size<w1.heap.size:=aa7 aJ hb1.size
  have k1:=aG ((mU.block w.heap.size hlt1).trans ((hb1.block w.heap.size aJ).trans HC.out))
  have hxV:gH (fun b=>b<w1.heap.size) V (nD x).ex (.agg #[.int .i64 k,.int .i64 op,.string (aj tb),.string (aj nm),.int .i64 vk,.int .i64 vn,.string (aj vs),.slice aa nn cc]):=by
   rw[hex]
   exact (HX.out.to (R:=fun _=>False) (T:=fun b=>b<w1.heap.size) (ak.aA hB1) (fun b _ hb=>⟨id,aa7 hb hB1.size⟩)).new mU
  have HE:=hid (hXW w1.heap.size none [] 0 0 V _ Rs hxV (by simp;omega) (by omega) (by omega) (by omega) (by omega))
  have zl:=hid (hB1.trans (mU.mono hB1.size))
  clear hb1 hB1 Pf mU Rs hxV hXW
  go_wp2_with fail
  try rw[hV]
  refine HE.out.mono ?_
  rintro e w2 ⟨rfl,bX,hw2,ht2,hf2⟩
  rw[List.nil_append] at hw2
  have e1:max (0:Int) (0+((nD x).dp:Int))=((nD x).dp:Int):=by omega
  rw[e1] at hw2
  have HS:=hid (yG _ _ _ _ _ w2 hw2 K6.out (by omega))
  have HB2:Hid (Below w.heap.size w w2):=hid (zl.out.trans (hf2.below (fun i hi=>by
   rcases hi with rfl | e
   ·omega
   ·cases e) (by omega)))
  clear hw2 ht2 hf2 HE e1
  rw[HRR.out] at HS
  go_wp2_with fail
  refine HS.out.mono ?_
  rintro e w3 ⟨rfl,hb3⟩
  have HB3:=htr HB2 hb3
  clear hb3 HS
  go_wp2
  exact bodyPost_ret (v:=.tuple #[.string (aj R.1),.int .i64 R.2]) (by simp[results,Tryz.results37,go_sem]) rfl ⟨rfl,HB3.out⟩
end Go.Proofs.YtfeglkleoijlaaaGreatDoor
