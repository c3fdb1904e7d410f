/- Packed for the hand-in: WRightU -/
import Derived.Test.YtfeglkleoijlaaaGreatDoorZ15
import Derived.Test.YtfeglkleoijlaaaGreatDoorZ17
namespace Go.Proofs.YtfeglkleoijlaaaGreatDoor
open Go.RowKit Go.Shelf
set_option linter.unusedSimpArgs false
set_option linter.unusedVariables false
set_option maxRecDepth 20000
set_option maxHeartbeats 8000000
theorem nY (S:Nat→Prop) (k:Int) (tn:List UInt8) (items:List It) (on wh gr od:List Ex) (prim jn:List UInt8) (desc:Bool) (lim:Int) (a1 a2 a3 a4 a5 a6 a7 a8:Option Addr) (n1 n2 n3 n4 n5 n6 n7 n8 c1 c2 c3 c4 c5 c6 c7 c8:Nat) (w:World)
  (h4:aQ 2 qo S w items (.slice a4 n4 c4)) (h5:bF S w on (.slice a5 n5 c5)) (h6:bF S w wh (.slice a6 n6 c6)) (h7:bF S w gr (.slice a7 n7 c7)) (h8:bF S w od (.slice a8 n8 c8))
  (r4 : ∀i∈items,∀x∈i.xs,jD x) (r5 : ∀x∈on,jD x) (r6 : ∀x∈wh,jD x) (r7 : ∀x∈gr,jD x) (r8 : ∀x∈od,jD x) (rj:jn.length≤9223372036854775807) (rl:lim≤9223372036854775807) :
  Calls Tryz.prog 96 #[.agg #[.int .i64 k,.string (aj tn),.slice a1 n1 c1,.string (aj prim),.slice a2 n2 c2,.slice a3 n3 c3,.slice a4 n4 c4,.string (aj jn),.slice a5 n5 c5,.slice a6 n6 c6,.slice a7 n7 c7,.slice a8 n8 c8,.bool desc,.int .i64 lim]] w fun e w'=>e = .returned (.bool (bf items 1 8 sw&&(kN jn&&(bf on (fF jn) (fF jn) aJ&&(bf wh 0 1 aJ&&(bf gr 0 1 eF&&(bf od 0 1 eF&&((!desc||decide (od.length=1))&&decide (-1≤lim∧lim≤9223372036854775807)))))))))∧Below w.heap.size w w':=by
 have hej:=dF jn
 have hn8:n8=od.length:=by
  obtain⟨_,_,hf8,_⟩:=h8.form
  simp only[Value.slice.injEq] at hf8
  exact hf8.2.1
 rw[← hn8]
 clear hn8
 have HI:Hid (∀V,Below w.heap.size w V→Calls Tryz.prog 141 #[.slice a4 n4 c4,.int .i64 1,.int .i64 8,.func (.func 142) #[] #[]] V fun e w'=>e = .returned (.bool (bf items 1 8 sw))∧Below V.heap.size V w'):=hid (fun V hV=>AP S 142 (enters_of Tryz.func142 (by kernel_rfl) rfl) sw items _ 1 8 V (by omega) (by omega) (h4.to (by decide) (R:=fun _=>False) (T:=S) (aA.aC hV) (fun b hb _=>⟨id,hb⟩) (fun _ _ e=>e.to (R:=fun _=>False) (T:=S) (aA.aC hV) (fun b hb _=>⟨id,hb⟩))) (hid (fun y hy U hU cs hcs=>qX S y cs U (r4 y hy) hcs)))
 have HJ:=hid (fun V=>zi jn V rj)
 have HO:Hid (∀V,Below w.heap.size w V→Calls Tryz.prog 95 #[.slice a5 n5 c5,.int .i64 (fF jn:Nat),.int .i64 (fF jn:Nat),.func (.func 82) #[] #[]] V fun e w'=>e = .returned (.bool (bf on (fF jn) (fF jn) aJ))∧Below V.heap.size V w'):=hid (fun V hV=>iH S on _ _ _ V (by unfold fF;split<;>omega) (by unfold fF;split<;>omega) r5 (h5.new hV))
 have HW:Hid (∀V,Below w.heap.size w V→Calls Tryz.prog 95 #[.slice a6 n6 c6,.int .i64 0,.int .i64 1,.func (.func 82) #[] #[]] V fun e w'=>e = .returned (.bool (bf wh 0 1 aJ))∧Below V.heap.size V w'):=hid (fun V hV=>iH S wh _ 0 1 V (by omega) (by omega) r6 (h6.new hV))
 have HG:Hid (∀V,Below w.heap.size w V→Calls Tryz.prog 95 #[.slice a7 n7 c7,.int .i64 0,.int .i64 1,.func (.func 143) #[] #[]] V fun e w'=>e = .returned (.bool (bf gr 0 1 eF))∧Below V.heap.size V w'):=hid (fun V hV=>kg S 143 (enters_of Tryz.func143 (by kernel_rfl) rfl) eF gr _ 0 1 V (by omega) (by omega) (dN (h7.new hV)) (hid (fun y hy U hU cs hcs=>gM S y _ U (r7 y hy) hcs.v)))
 have HD:Hid (∀V,Below w.heap.size w V→Calls Tryz.prog 95 #[.slice a8 n8 c8,.int .i64 0,.int .i64 1,.func (.func 143) #[] #[]] V fun e w'=>e = .returned (.bool (bf od 0 1 eF))∧Below V.heap.size V w'):=hid (fun V hV=>kg S 143 (enters_of Tryz.func143 (by kernel_rfl) rfl) eF od _ 0 1 V (by omega) (by omega) (dN (h8.new hV)) (hid (fun y hy U hU cs hcs=>gM S y _ U (r8 y hy) hcs.v)))
 have hlm:decide (-1≤lim∧lim≤9223372036854775807)=decide (-1≤lim):=by rw[Bool.eq_iff_iff,decide_eq_true_eq,decide_eq_true_eq];omega
 rw[hlm]
 clear hlm h4 h5 h6 h7 h8 r4 r5 r6 r7 r8 rj rl
 generalize bf items 1 8 sw=BI at HI ⊢
 generalize kN jn=BJ at HJ ⊢
 generalize bf wh 0 1 aJ=BW at HW ⊢
 generalize bf gr 0 1 eF=BG at HG ⊢
 generalize bf od 0 1 eF=BD at HD ⊢
 by_cases hj:jn=[]
 ·have hjn:fF jn=0:=if_pos hj
  rw[decide_eq_true hj] at hej
  rw[hjn] at HO ⊢
  clear hj hjn
  generalize bf on 0 0 aJ=BO at HO ⊢
  have HO:Hid (∀V,Below w.heap.size w V→Calls Tryz.prog 95 #[.slice a5 n5 c5,.int .i64 0,.int .i64 0,.func (.func 82) #[] #[]] V fun e w'=>e = .returned (.bool BO)∧Below V.heap.size V w'):=hid HO.out
  cases desc with
  |
   false =>
   simp only[Bool.not_false,Bool.true_or,Bool.true_and]
   obtain⟨W,hW,hbW,hzW,hcW⟩:=aL w (.cells #[.int .i64 k,.string (aj tn),.slice a1 n1 c1,.string (aj prim),.slice a2 n2 c2,.slice a3 n3 c3,.slice a4 n4 c4,.string (aj jn),.slice a5 n5 c5,.slice a6 n6 c6,.slice a7 n7 c7,.slice a8 n8 c8,.bool false,.int .i64 lim] 29)
   have k0:=ay hcW
   have HB:=hid hbW
   have HC:=hid hcW
   have HQ0:=hid (Below.refl W.heap.size W)
   clear hbW hcW
   cases hv0:BI with
   |
    true =>
    rw[Bool.true_and]
    rw[hv0] at HI
    clear hv0
    cases hv1:BJ with
    |
     true =>
     rw[Bool.true_and]
     rw[hv1] at HJ
     clear hv1
     cases hv2:BO with
     |
      true =>
      rw[Bool.true_and]
      rw[hv2] at HO
      clear hv2
      cases hv3:BW with
      |
       true =>
       rw[Bool.true_and]
       rw[hv3] at HW
       clear hv3
       cases hv4:BG with
       |
        true =>
        rw[Bool.true_and]
        rw[hv4] at HG
        clear hv4
        cases hv5:BD with
        |
         true =>
         rw[Bool.true_and]
         rw[hv5] at HD
         clear hv5
         go_enter Tryz.func96,Tryz.ntmps96
         go_wp2_with fail
         refine (HI.out _ (HB.out.trans (HQ0.out.mono HB.out.size))).mono ?_
         rintro e v1 ⟨rfl,hb1⟩
         have HQ1:Hid (Below W.heap.size W v1):=hid (HQ0.out.trans (hb1.mono HQ0.out.size))
         have kk1:=ay ((HQ1.out.block w.heap.size hzW).trans HC.out)
         clear hb1
         go_wp2_with fail
         refine (HJ.out _).mono ?_
         rintro e v2 ⟨rfl,hb2⟩
         have HQ2:Hid (Below W.heap.size W v2):=hid (HQ1.out.trans (hb2.mono HQ1.out.size))
         have kk2:=ay ((HQ2.out.block w.heap.size hzW).trans HC.out)
         clear hb2
         go_wp2_with fail
         refine (HO.out _ (HB.out.trans (HQ2.out.mono HB.out.size))).mono ?_
         rintro e v3 ⟨rfl,hb3⟩
         have HQ3:Hid (Below W.heap.size W v3):=hid (HQ2.out.trans (hb3.mono HQ2.out.size))
         have kk3:=ay ((HQ3.out.block w.heap.size hzW).trans HC.out)
         clear hb3
         go_wp2_with fail
         refine (HW.out _ (HB.out.trans (HQ3.out.mono HB.out.size))).mono ?_
         rintro e v4 ⟨rfl,hb4⟩
         have HQ4:Hid (Below W.heap.size W v4):=hid (HQ3.out.trans (hb4.mono HQ3.out.size))
         have kk4:=ay ((HQ4.out.block w.heap.size hzW).trans HC.out)
         clear hb4
         go_wp2_with fail
         refine (HG.out _ (HB.out.trans (HQ4.out.mono HB.out.size))).mono ?_
         rintro e v5 ⟨rfl,hb5⟩
         have HQ5:Hid (Below W.heap.size W v5):=hid (HQ4.out.trans (hb5.mono HQ4.out.size))
         have kk5:=ay ((HQ5.out.block w.heap.size hzW).trans HC.out)
         clear hb5
         go_wp2_with fail
         refine (HD.out _ (HB.out.trans (HQ5.out.mono HB.out.size))).mono ?_
         rintro e v6 ⟨rfl,hb6⟩
         have HQ6:Hid (Below W.heap.size W v6):=hid (HQ5.out.trans (hb6.mono HQ5.out.size))
         have kk6:=ay ((HQ6.out.block w.heap.size hzW).trans HC.out)
         clear hb6
         go_wp2
         go_ret
         exact⟨rfl,HB.out.trans (HQ6.out.mono HB.out.size)⟩
        |
         false =>
         rw[Bool.false_and]
         rw[hv5] at HD
         clear hv5
         go_enter Tryz.func96,Tryz.ntmps96
         go_wp2_with fail
         refine (HI.out _ (HB.out.trans (HQ0.out.mono HB.out.size))).mono ?_
         rintro e v1 ⟨rfl,hb1⟩
         have HQ1:Hid (Below W.heap.size W v1):=hid (HQ0.out.trans (hb1.mono HQ0.out.size))
         have kk1:=ay ((HQ1.out.block w.heap.size hzW).trans HC.out)
         clear hb1
         go_wp2_with fail
         refine (HJ.out _).mono ?_
         rintro e v2 ⟨rfl,hb2⟩
         have HQ2:Hid (Below W.heap.size W v2):=hid (HQ1.out.trans (hb2.mono HQ1.out.size))
         have kk2:=ay ((HQ2.out.block w.heap.size hzW).trans HC.out)
         clear hb2
         go_wp2_with fail
         refine (HO.out _ (HB.out.trans (HQ2.out.mono HB.out.size))).mono ?_
         rintro e v3 ⟨rfl,hb3⟩
         have HQ3:Hid (Below W.heap.size W v3):=hid (HQ2.out.trans (hb3.mono HQ2.out.size))
         have kk3:=ay ((HQ3.out.block w.heap.size hzW).trans HC.out)
         clear hb3
         go_wp2_with fail
         refine (HW.out _ (HB.out.trans (HQ3.out.mono HB.out.size))).mono ?_
         rintro e v4 ⟨rfl,hb4⟩
         have HQ4:Hid (Below W.heap.size W v4):=hid (HQ3.out.trans (hb4.mono HQ3.out.size))
         have kk4:=ay ((HQ4.out.block w.heap.size hzW).trans HC.out)
         clear hb4
         go_wp2_with fail
         refine (HG.out _ (HB.out.trans (HQ4.out.mono HB.out.size))).mono ?_
         rintro e v5 ⟨rfl,hb5⟩
         have HQ5:Hid (Below W.heap.size W v5):=hid (HQ4.out.trans (hb5.mono HQ4.out.size))
         have kk5:=ay ((HQ5.out.block w.heap.size hzW).trans HC.out)
         clear hb5
         go_wp2_with fail
         refine (HD.out _ (HB.out.trans (HQ5.out.mono HB.out.size))).mono ?_
         rintro e v6 ⟨rfl,hb6⟩
         have HQ6:Hid (Below W.heap.size W v6):=hid (HQ5.out.trans (hb6.mono HQ5.out.size))
         have kk6:=ay ((HQ6.out.block w.heap.size hzW).trans HC.out)
         clear hb6
         go_wp2
         go_ret
         exact⟨rfl,HB.out.trans (HQ6.out.mono HB.out.size)⟩
       |
        false =>
        rw[Bool.false_and]
        rw[hv4] at HG
        clear hv4
        go_enter Tryz.func96,Tryz.ntmps96
        go_wp2_with fail
        refine (HI.out _ (HB.out.trans (HQ0.out.mono HB.out.size))).mono ?_
        rintro e v1 ⟨rfl,hb1⟩
        have HQ1:Hid (Below W.heap.size W v1):=hid (HQ0.out.trans (hb1.mono HQ0.out.size))
        have kk1:=ay ((HQ1.out.block w.heap.size hzW).trans HC.out)
        clear hb1
        go_wp2_with fail
        refine (HJ.out _).mono ?_
        rintro e v2 ⟨rfl,hb2⟩
        have HQ2:Hid (Below W.heap.size W v2):=hid (HQ1.out.trans (hb2.mono HQ1.out.size))
        have kk2:=ay ((HQ2.out.block w.heap.size hzW).trans HC.out)
        clear hb2
        go_wp2_with fail
        refine (HO.out _ (HB.out.trans (HQ2.out.mono HB.out.size))).mono ?_
        rintro e v3 ⟨rfl,hb3⟩
        have HQ3:Hid (Below W.heap.size W v3):=hid (HQ2.out.trans (hb3.mono HQ2.out.size))
        have kk3:=ay ((HQ3.out.block w.heap.size hzW).trans HC.out)
        clear hb3
        go_wp2_with fail
        refine (HW.out _ (HB.out.trans (HQ3.out.mono HB.out.size))).mono ?_
        rintro e v4 ⟨rfl,hb4⟩
        have HQ4:Hid (Below W.heap.size W v4):=hid (HQ3.out.trans (hb4.mono HQ3.out.size))
        have kk4:=ay ((HQ4.out.block w.heap.size hzW).trans HC.out)
        clear hb4
        go_wp2_with fail
        refine (HG.out _ (HB.out.trans (HQ4.out.mono HB.out.size))).mono ?_
        rintro e v5 ⟨rfl,hb5⟩
        have HQ5:Hid (Below W.heap.size W v5):=hid (HQ4.out.trans (hb5.mono HQ4.out.size))
        have kk5:=ay ((HQ5.out.block w.heap.size hzW).trans HC.out)
        clear hb5
        go_wp2
        go_ret
        exact⟨rfl,HB.out.trans (HQ5.out.mono HB.out.size)⟩
      |
       false =>
       rw[Bool.false_and]
       rw[hv3] at HW
       clear hv3
       go_enter Tryz.func96,Tryz.ntmps96
       go_wp2_with fail
       refine (HI.out _ (HB.out.trans (HQ0.out.mono HB.out.size))).mono ?_
       rintro e v1 ⟨rfl,hb1⟩
       have HQ1:Hid (Below W.heap.size W v1):=hid (HQ0.out.trans (hb1.mono HQ0.out.size))
       have kk1:=ay ((HQ1.out.block w.heap.size hzW).trans HC.out)
       clear hb1
       go_wp2_with fail
       refine (HJ.out _).mono ?_
       rintro e v2 ⟨rfl,hb2⟩
       have HQ2:Hid (Below W.heap.size W v2):=hid (HQ1.out.trans (hb2.mono HQ1.out.size))
       have kk2:=ay ((HQ2.out.block w.heap.size hzW).trans HC.out)
       clear hb2
       go_wp2_with fail
       refine (HO.out _ (HB.out.trans (HQ2.out.mono HB.out.size))).mono ?_
       rintro e v3 ⟨rfl,hb3⟩
       have HQ3:Hid (Below W.heap.size W v3):=hid (HQ2.out.trans (hb3.mono HQ2.out.size))
       have kk3:=ay ((HQ3.out.block w.heap.size hzW).trans HC.out)
       clear hb3
       go_wp2_with fail
       refine (HW.out _ (HB.out.trans (HQ3.out.mono HB.out.size))).mono ?_
       rintro e v4 ⟨rfl,hb4⟩
       have HQ4:Hid (Below W.heap.size W v4):=hid (HQ3.out.trans (hb4.mono HQ3.out.size))
       have kk4:=ay ((HQ4.out.block w.heap.size hzW).trans HC.out)
       clear hb4
       go_wp2
       go_ret
       exact⟨rfl,HB.out.trans (HQ4.out.mono HB.out.size)⟩
     |
      false =>
      rw[Bool.false_and]
      rw[hv2] at HO
      clear hv2
      go_enter Tryz.func96,Tryz.ntmps96
      go_wp2_with fail
      refine (HI.out _ (HB.out.trans (HQ0.out.mono HB.out.size))).mono ?_
      rintro e v1 ⟨rfl,hb1⟩
      have HQ1:Hid (Below W.heap.size W v1):=hid (HQ0.out.trans (hb1.mono HQ0.out.size))
      have kk1:=ay ((HQ1.out.block w.heap.size hzW).trans HC.out)
      clear hb1
      go_wp2_with fail
      refine (HJ.out _).mono ?_
      rintro e v2 ⟨rfl,hb2⟩
      have HQ2:Hid (Below W.heap.size W v2):=hid (HQ1.out.trans (hb2.mono HQ1.out.size))
      have kk2:=ay ((HQ2.out.block w.heap.size hzW).trans HC.out)
      clear hb2
      go_wp2_with fail
      refine (HO.out _ (HB.out.trans (HQ2.out.mono HB.out.size))).mono ?_
      rintro e v3 ⟨rfl,hb3⟩
      have HQ3:Hid (Below W.heap.size W v3):=hid (HQ2.out.trans (hb3.mono HQ2.out.size))
      have kk3:=ay ((HQ3.out.block w.heap.size hzW).trans HC.out)
      clear hb3
      go_wp2
      go_ret
      exact⟨rfl,HB.out.trans (HQ3.out.mono HB.out.size)⟩
    |
     false =>
     rw[Bool.false_and]
     rw[hv1] at HJ
     clear hv1
     go_enter Tryz.func96,Tryz.ntmps96
     go_wp2_with fail
     refine (HI.out _ (HB.out.trans (HQ0.out.mono HB.out.size))).mono ?_
     rintro e v1 ⟨rfl,hb1⟩
     have HQ1:Hid (Below W.heap.size W v1):=hid (HQ0.out.trans (hb1.mono HQ0.out.size))
     have kk1:=ay ((HQ1.out.block w.heap.size hzW).trans HC.out)
     clear hb1
     go_wp2_with fail
     refine (HJ.out _).mono ?_
     rintro e v2 ⟨rfl,hb2⟩
     have HQ2:Hid (Below W.heap.size W v2):=hid (HQ1.out.trans (hb2.mono HQ1.out.size))
     have kk2:=ay ((HQ2.out.block w.heap.size hzW).trans HC.out)
     clear hb2
     go_wp2
     go_ret
     exact⟨rfl,HB.out.trans (HQ2.out.mono HB.out.size)⟩
   |
    false =>
    rw[Bool.false_and]
    rw[hv0] at HI
    clear hv0
    go_enter Tryz.func96,Tryz.ntmps96
    go_wp2_with fail
    refine (HI.out _ (HB.out.trans (HQ0.out.mono HB.out.size))).mono ?_
    rintro e v1 ⟨rfl,hb1⟩
    have HQ1:Hid (Below W.heap.size W v1):=hid (HQ0.out.trans (hb1.mono HQ0.out.size))
    have kk1:=ay ((HQ1.out.block w.heap.size hzW).trans HC.out)
    clear hb1
    go_wp2
    go_ret
    exact⟨rfl,HB.out.trans (HQ1.out.mono HB.out.size)⟩
  |
   true =>
   simp only[Bool.not_true,Bool.false_or]
   obtain⟨W,hW,hbW,hzW,hcW⟩:=aL w (.cells #[.int .i64 k,.string (aj tn),.slice a1 n1 c1,.string (aj prim),.slice a2 n2 c2,.slice a3 n3 c3,.slice a4 n4 c4,.string (aj jn),.slice a5 n5 c5,.slice a6 n6 c6,.slice a7 n7 c7,.slice a8 n8 c8,.bool true,.int .i64 lim] 29)
   have k0:=ay hcW
   have HB:=hid hbW
   have HC:=hid hcW
   have HQ0:=hid (Below.refl W.heap.size W)
   clear hbW hcW
   cases hv0:BI with
   |
    true =>
    rw[Bool.true_and]
    rw[hv0] at HI
    clear hv0
    cases hv1:BJ with
    |
     true =>
     rw[Bool.true_and]
     rw[hv1] at HJ
     clear hv1
     cases hv2:BO with
     |
      true =>
      rw[Bool.true_and]
      rw[hv2] at HO
      clear hv2
      cases hv3:BW with
      |
       true =>
       rw[Bool.true_and]
       rw[hv3] at HW
       clear hv3
       cases hv4:BG with
       |
        true =>
        rw[Bool.true_and]
        rw[hv4] at HG
        clear hv4
        cases hv5:BD with
        |
         true =>
         rw[Bool.true_and]
         rw[hv5] at HD
         clear hv5
         cases hv6:decide (n8=1) with
         |
          true =>
          rw[Bool.true_and]
          have g8:((n8:Int)==1)=true:=by rw[of_decide_eq_true hv6];rfl
          clear hv6
          go_enter Tryz.func96,Tryz.ntmps96
          go_wp2_with fail
          refine (HI.out _ (HB.out.trans (HQ0.out.mono HB.out.size))).mono ?_
          rintro e v1 ⟨rfl,hb1⟩
          have HQ1:Hid (Below W.heap.size W v1):=hid (HQ0.out.trans (hb1.mono HQ0.out.size))
          have kk1:=ay ((HQ1.out.block w.heap.size hzW).trans HC.out)
          clear hb1
          go_wp2_with fail
          refine (HJ.out _).mono ?_
          rintro e v2 ⟨rfl,hb2⟩
          have HQ2:Hid (Below W.heap.size W v2):=hid (HQ1.out.trans (hb2.mono HQ1.out.size))
          have kk2:=ay ((HQ2.out.block w.heap.size hzW).trans HC.out)
          clear hb2
          go_wp2_with fail
          refine (HO.out _ (HB.out.trans (HQ2.out.mono HB.out.size))).mono ?_
          rintro e v3 ⟨rfl,hb3⟩
          have HQ3:Hid (Below W.heap.size W v3):=hid (HQ2.out.trans (hb3.mono HQ2.out.size))
          have kk3:=ay ((HQ3.out.block w.heap.size hzW).trans HC.out)
          clear hb3
          go_wp2_with fail
          refine (HW.out _ (HB.out.trans (HQ3.out.mono HB.out.size))).mono ?_
          rintro e v4 ⟨rfl,hb4⟩
          have HQ4:Hid (Below W.heap.size W v4):=hid (HQ3.out.trans (hb4.mono HQ3.out.size))
          have kk4:=ay ((HQ4.out.block w.heap.size hzW).trans HC.out)
          clear hb4
          go_wp2_with fail
          refine (HG.out _ (HB.out.trans (HQ4.out.mono HB.out.size))).mono ?_
          rintro e v5 ⟨rfl,hb5⟩
          have HQ5:Hid (Below W.heap.size W v5):=hid (HQ4.out.trans (hb5.mono HQ4.out.size))
          have kk5:=ay ((HQ5.out.block w.heap.size hzW).trans HC.out)
          clear hb5
          go_wp2_with fail
          refine (HD.out _ (HB.out.trans (HQ5.out.mono HB.out.size))).mono ?_
          rintro e v6 ⟨rfl,hb6⟩
          have HQ6:Hid (Below W.heap.size W v6):=hid (HQ5.out.trans (hb6.mono HQ5.out.size))
          have kk6:=ay ((HQ6.out.block w.heap.size hzW).trans HC.out)
          clear hb6
          go_wp2
          go_ret
          exact⟨rfl,HB.out.trans (HQ6.out.mono HB.out.size)⟩
         |
          false =>
          rw[Bool.false_and]
          have g8:((n8:Int)==1)=false:=by have:=of_decide_eq_false hv6;rw[beq_eq_false_iff_ne];omega
          clear hv6
          go_enter Tryz.func96,Tryz.ntmps96
          go_wp2_with fail
          refine (HI.out _ (HB.out.trans (HQ0.out.mono HB.out.size))).mono ?_
          rintro e v1 ⟨rfl,hb1⟩
          have HQ1:Hid (Below W.heap.size W v1):=hid (HQ0.out.trans (hb1.mono HQ0.out.size))
          have kk1:=ay ((HQ1.out.block w.heap.size hzW).trans HC.out)
          clear hb1
          go_wp2_with fail
          refine (HJ.out _).mono ?_
          rintro e v2 ⟨rfl,hb2⟩
          have HQ2:Hid (Below W.heap.size W v2):=hid (HQ1.out.trans (hb2.mono HQ1.out.size))
          have kk2:=ay ((HQ2.out.block w.heap.size hzW).trans HC.out)
          clear hb2
          go_wp2_with fail
          refine (HO.out _ (HB.out.trans (HQ2.out.mono HB.out.size))).mono ?_
          rintro e v3 ⟨rfl,hb3⟩
          have HQ3:Hid (Below W.heap.size W v3):=hid (HQ2.out.trans (hb3.mono HQ2.out.size))
          have kk3:=ay ((HQ3.out.block w.heap.size hzW).trans HC.out)
          clear hb3
          go_wp2_with fail
          refine (HW.out _ (HB.out.trans (HQ3.out.mono HB.out.size))).mono ?_
          rintro e v4 ⟨rfl,hb4⟩
          have HQ4:Hid (Below W.heap.size W v4):=hid (HQ3.out.trans (hb4.mono HQ3.out.size))
          have kk4:=ay ((HQ4.out.block w.heap.size hzW).trans HC.out)
          clear hb4
          go_wp2_with fail
          refine (HG.out _ (HB.out.trans (HQ4.out.mono HB.out.size))).mono ?_
          rintro e v5 ⟨rfl,hb5⟩
          have HQ5:Hid (Below W.heap.size W v5):=hid (HQ4.out.trans (hb5.mono HQ4.out.size))
          have kk5:=ay ((HQ5.out.block w.heap.size hzW).trans HC.out)
          clear hb5
          go_wp2_with fail
          refine (HD.out _ (HB.out.trans (HQ5.out.mono HB.out.size))).mono ?_
          rintro e v6 ⟨rfl,hb6⟩
          have HQ6:Hid (Below W.heap.size W v6):=hid (HQ5.out.trans (hb6.mono HQ5.out.size))
          have kk6:=ay ((HQ6.out.block w.heap.size hzW).trans HC.out)
          clear hb6
          go_wp2
          go_ret
          exact⟨rfl,HB.out.trans (HQ6.out.mono HB.out.size)⟩
        |
         false =>
         rw[Bool.false_and]
         rw[hv5] at HD
         clear hv5
         go_enter Tryz.func96,Tryz.ntmps96
         go_wp2_with fail
         refine (HI.out _ (HB.out.trans (HQ0.out.mono HB.out.size))).mono ?_
         rintro e v1 ⟨rfl,hb1⟩
         have HQ1:Hid (Below W.heap.size W v1):=hid (HQ0.out.trans (hb1.mono HQ0.out.size))
         have kk1:=ay ((HQ1.out.block w.heap.size hzW).trans HC.out)
         clear hb1
         go_wp2_with fail
         refine (HJ.out _).mono ?_
         rintro e v2 ⟨rfl,hb2⟩
         have HQ2:Hid (Below W.heap.size W v2):=hid (HQ1.out.trans (hb2.mono HQ1.out.size))
         have kk2:=ay ((HQ2.out.block w.heap.size hzW).trans HC.out)
         clear hb2
         go_wp2_with fail
         refine (HO.out _ (HB.out.trans (HQ2.out.mono HB.out.size))).mono ?_
         rintro e v3 ⟨rfl,hb3⟩
         have HQ3:Hid (Below W.heap.size W v3):=hid (HQ2.out.trans (hb3.mono HQ2.out.size))
         have kk3:=ay ((HQ3.out.block w.heap.size hzW).trans HC.out)
         clear hb3
         go_wp2_with fail
         refine (HW.out _ (HB.out.trans (HQ3.out.mono HB.out.size))).mono ?_
         rintro e v4 ⟨rfl,hb4⟩
         have HQ4:Hid (Below W.heap.size W v4):=hid (HQ3.out.trans (hb4.mono HQ3.out.size))
         have kk4:=ay ((HQ4.out.block w.heap.size hzW).trans HC.out)
         clear hb4
         go_wp2_with fail
         refine (HG.out _ (HB.out.trans (HQ4.out.mono HB.out.size))).mono ?_
         rintro e v5 ⟨rfl,hb5⟩
         have HQ5:Hid (Below W.heap.size W v5):=hid (HQ4.out.trans (hb5.mono HQ4.out.size))
         have kk5:=ay ((HQ5.out.block w.heap.size hzW).trans HC.out)
         clear hb5
         go_wp2_with fail
         refine (HD.out _ (HB.out.trans (HQ5.out.mono HB.out.size))).mono ?_
         rintro e v6 ⟨rfl,hb6⟩
         have HQ6:Hid (Below W.heap.size W v6):=hid (HQ5.out.trans (hb6.mono HQ5.out.size))
         have kk6:=ay ((HQ6.out.block w.heap.size hzW).trans HC.out)
         clear hb6
         go_wp2
         go_ret
         exact⟨rfl,HB.out.trans (HQ6.out.mono HB.out.size)⟩
       |
        false =>
        rw[Bool.false_and]
        rw[hv4] at HG
        clear hv4
        go_enter Tryz.func96,Tryz.ntmps96
        go_wp2_with fail
        refine (HI.out _ (HB.out.trans (HQ0.out.mono HB.out.size))).mono ?_
        rintro e v1 ⟨rfl,hb1⟩
        have HQ1:Hid (Below W.heap.size W v1):=hid (HQ0.out.trans (hb1.mono HQ0.out.size))
        have kk1:=ay ((HQ1.out.block w.heap.size hzW).trans HC.out)
        clear hb1
        go_wp2_with fail
        refine (HJ.out _).mono ?_
        rintro e v2 ⟨rfl,hb2⟩
        have HQ2:Hid (Below W.heap.size W v2):=hid (HQ1.out.trans (hb2.mono HQ1.out.size))
        have kk2:=ay ((HQ2.out.block w.heap.size hzW).trans HC.out)
        clear hb2
        go_wp2_with fail
        refine (HO.out _ (HB.out.trans (HQ2.out.mono HB.out.size))).mono ?_
        rintro e v3 ⟨rfl,hb3⟩
        have HQ3:Hid (Below W.heap.size W v3):=hid (HQ2.out.trans (hb3.mono HQ2.out.size))
        have kk3:=ay ((HQ3.out.block w.heap.size hzW).trans HC.out)
        clear hb3
        go_wp2_with fail
        refine (HW.out _ (HB.out.trans (HQ3.out.mono HB.out.size))).mono ?_
        rintro e v4 ⟨rfl,hb4⟩
        have HQ4:Hid (Below W.heap.size W v4):=hid (HQ3.out.trans (hb4.mono HQ3.out.size))
        have kk4:=ay ((HQ4.out.block w.heap.size hzW).trans HC.out)
        clear hb4
        go_wp2_with fail
        refine (HG.out _ (HB.out.trans (HQ4.out.mono HB.out.size))).mono ?_
        rintro e v5 ⟨rfl,hb5⟩
        have HQ5:Hid (Below W.heap.size W v5):=hid (HQ4.out.trans (hb5.mono HQ4.out.size))
        have kk5:=ay ((HQ5.out.block w.heap.size hzW).trans HC.out)
        clear hb5
        go_wp2
        go_ret
        exact⟨rfl,HB.out.trans (HQ5.out.mono HB.out.size)⟩
      |
       false =>
       rw[Bool.false_and]
       rw[hv3] at HW
       clear hv3
       go_enter Tryz.func96,Tryz.ntmps96
       go_wp2_with fail
       refine (HI.out _ (HB.out.trans (HQ0.out.mono HB.out.size))).mono ?_
       rintro e v1 ⟨rfl,hb1⟩
       have HQ1:Hid (Below W.heap.size W v1):=hid (HQ0.out.trans (hb1.mono HQ0.out.size))
       have kk1:=ay ((HQ1.out.block w.heap.size hzW).trans HC.out)
       clear hb1
       go_wp2_with fail
       refine (HJ.out _).mono ?_
       rintro e v2 ⟨rfl,hb2⟩
       have HQ2:Hid (Below W.heap.size W v2):=hid (HQ1.out.trans (hb2.mono HQ1.out.size))
       have kk2:=ay ((HQ2.out.block w.heap.size hzW).trans HC.out)
       clear hb2
       go_wp2_with fail
       refine (HO.out _ (HB.out.trans (HQ2.out.mono HB.out.size))).mono ?_
       rintro e v3 ⟨rfl,hb3⟩
       have HQ3:Hid (Below W.heap.size W v3):=hid (HQ2.out.trans (hb3.mono HQ2.out.size))
       have kk3:=ay ((HQ3.out.block w.heap.size hzW).trans HC.out)
       clear hb3
       go_wp2_with fail
       refine (HW.out _ (HB.out.trans (HQ3.out.mono HB.out.size))).mono ?_
       rintro e v4 ⟨rfl,hb4⟩
       have HQ4:Hid (Below W.heap.size W v4):=hid (HQ3.out.trans (hb4.mono HQ3.out.size))
       have kk4:=ay ((HQ4.out.block w.heap.size hzW).trans HC.out)
       clear hb4
       go_wp2
       go_ret
       exact⟨rfl,HB.out.trans (HQ4.out.mono HB.out.size)⟩
     |
      false =>
      rw[Bool.false_and]
      rw[hv2] at HO
      clear hv2
      go_enter Tryz.func96,Tryz.ntmps96
      go_wp2_with fail
      refine (HI.out _ (HB.out.trans (HQ0.out.mono HB.out.size))).mono ?_
      rintro e v1 ⟨rfl,hb1⟩
      have HQ1:Hid (Below W.heap.size W v1):=hid (HQ0.out.trans (hb1.mono HQ0.out.size))
      have kk1:=ay ((HQ1.out.block w.heap.size hzW).trans HC.out)
      clear hb1
      go_wp2_with fail
      refine (HJ.out _).mono ?_
      rintro e v2 ⟨rfl,hb2⟩
      have HQ2:Hid (Below W.heap.size W v2):=hid (HQ1.out.trans (hb2.mono HQ1.out.size))
      have kk2:=ay ((HQ2.out.block w.heap.size hzW).trans HC.out)
      clear hb2
      go_wp2_with fail
      refine (HO.out _ (HB.out.trans (HQ2.out.mono HB.out.size))).mono ?_
      rintro e v3 ⟨rfl,hb3⟩
      have HQ3:Hid (Below W.heap.size W v3):=hid (HQ2.out.trans (hb3.mono HQ2.out.size))
      have kk3:=ay ((HQ3.out.block w.heap.size hzW).trans HC.out)
      clear hb3
      go_wp2
      go_ret
      exact⟨rfl,HB.out.trans (HQ3.out.mono HB.out.size)⟩
    |
     false =>
     rw[Bool.false_and]
     rw[hv1] at HJ
     clear hv1
     go_enter Tryz.func96,Tryz.ntmps96
     go_wp2_with fail
     refine (HI.out _ (HB.out.trans (HQ0.out.mono HB.out.size))).mono ?_
     rintro e v1 ⟨rfl,hb1⟩
     have HQ1:Hid (Below W.heap.size W v1):=hid (HQ0.out.trans (hb1.mono HQ0.out.size))
     have kk1:=ay ((HQ1.out.block w.heap.size hzW).trans HC.out)
     clear hb1
     go_wp2_with fail
     refine (HJ.out _).mono ?_
     rintro e v2 ⟨rfl,hb2⟩
     have HQ2:Hid (Below W.heap.size W v2):=hid (HQ1.out.trans (hb2.mono HQ1.out.size))
     have kk2:=ay ((HQ2.out.block w.heap.size hzW).trans HC.out)
     clear hb2
     go_wp2
     go_ret
     exact⟨rfl,HB.out.trans (HQ2.out.mono HB.out.size)⟩
   |
    false =>
    rw[Bool.false_and]
    rw[hv0] at HI
    clear hv0
    go_enter Tryz.func96,Tryz.ntmps96
    go_wp2_with fail
    refine (HI.out _ (HB.out.trans (HQ0.out.mono HB.out.size))).mono ?_
    rintro e v1 ⟨rfl,hb1⟩
    have HQ1:Hid (Below W.heap.size W v1):=hid (HQ0.out.trans (hb1.mono HQ0.out.size))
    have kk1:=ay ((HQ1.out.block w.heap.size hzW).trans HC.out)
    clear hb1
    go_wp2
    go_ret
    exact⟨rfl,HB.out.trans (HQ1.out.mono HB.out.size)⟩
 ·have hjn:fF jn=1:=if_neg hj
  rw[decide_eq_false hj] at hej
  rw[hjn] at HO ⊢
  clear hj hjn
  generalize bf on 1 1 aJ=BO at HO ⊢
  have HO:Hid (∀V,Below w.heap.size w V→Calls Tryz.prog 95 #[.slice a5 n5 c5,.int .i64 1,.int .i64 1,.func (.func 82) #[] #[]] V fun e w'=>e = .returned (.bool BO)∧Below V.heap.size V w'):=hid HO.out
  cases desc with
  |
   false =>
   simp only[Bool.not_false,Bool.true_or,Bool.true_and]
   obtain⟨W,hW,hbW,hzW,hcW⟩:=aL w (.cells #[.int .i64 k,.string (aj tn),.slice a1 n1 c1,.string (aj prim),.slice a2 n2 c2,.slice a3 n3 c3,.slice a4 n4 c4,.string (aj jn),.slice a5 n5 c5,.slice a6 n6 c6,.slice a7 n7 c7,.slice a8 n8 c8,.bool false,.int .i64 lim] 29)
   have k0:=ay hcW
   have HB:=hid hbW
   have HC:=hid hcW
   have HQ0:=hid (Below.refl W.heap.size W)
   clear hbW hcW
   cases hv0:BI with
   |
    true =>
    rw[Bool.true_and]
    rw[hv0] at HI
    clear hv0
    cases hv1:BJ with
    |
     true =>
     rw[Bool.true_and]
     rw[hv1] at HJ
     clear hv1
     cases hv2:BO with
     |
      true =>
      rw[Bool.true_and]
      rw[hv2] at HO
      clear hv2
      cases hv3:BW with
      |
       true =>
       rw[Bool.true_and]
       rw[hv3] at HW
       clear hv3
       cases hv4:BG with
       |
        true =>
        rw[Bool.true_and]
        rw[hv4] at HG
        clear hv4
        cases hv5:BD with
        |
         true =>
         rw[Bool.true_and]
         rw[hv5] at HD
         clear hv5
         go_enter Tryz.func96,Tryz.ntmps96
         go_wp2_with fail
         refine (HI.out _ (HB.out.trans (HQ0.out.mono HB.out.size))).mono ?_
         rintro e v1 ⟨rfl,hb1⟩
         have HQ1:Hid (Below W.heap.size W v1):=hid (HQ0.out.trans (hb1.mono HQ0.out.size))
         have kk1:=ay ((HQ1.out.block w.heap.size hzW).trans HC.out)
         clear hb1
         go_wp2_with fail
         refine (HJ.out _).mono ?_
         rintro e v2 ⟨rfl,hb2⟩
         have HQ2:Hid (Below W.heap.size W v2):=hid (HQ1.out.trans (hb2.mono HQ1.out.size))
         have kk2:=ay ((HQ2.out.block w.heap.size hzW).trans HC.out)
         clear hb2
         go_wp2_with fail
         refine (HO.out _ (HB.out.trans (HQ2.out.mono HB.out.size))).mono ?_
         rintro e v3 ⟨rfl,hb3⟩
         have HQ3:Hid (Below W.heap.size W v3):=hid (HQ2.out.trans (hb3.mono HQ2.out.size))
         have kk3:=ay ((HQ3.out.block w.heap.size hzW).trans HC.out)
         clear hb3
         go_wp2_with fail
         refine (HW.out _ (HB.out.trans (HQ3.out.mono HB.out.size))).mono ?_
         rintro e v4 ⟨rfl,hb4⟩
         have HQ4:Hid (Below W.heap.size W v4):=hid (HQ3.out.trans (hb4.mono HQ3.out.size))
         have kk4:=ay ((HQ4.out.block w.heap.size hzW).trans HC.out)
         clear hb4
         go_wp2_with fail
         refine (HG.out _ (HB.out.trans (HQ4.out.mono HB.out.size))).mono ?_
         rintro e v5 ⟨rfl,hb5⟩
         have HQ5:Hid (Below W.heap.size W v5):=hid (HQ4.out.trans (hb5.mono HQ4.out.size))
         have kk5:=ay ((HQ5.out.block w.heap.size hzW).trans HC.out)
         clear hb5
         go_wp2_with fail
         refine (HD.out _ (HB.out.trans (HQ5.out.mono HB.out.size))).mono ?_
         rintro e v6 ⟨rfl,hb6⟩
         have HQ6:Hid (Below W.heap.size W v6):=hid (HQ5.out.trans (hb6.mono HQ5.out.size))
         have kk6:=ay ((HQ6.out.block w.heap.size hzW).trans HC.out)
         clear hb6
         go_wp2
         go_ret
         exact⟨rfl,HB.out.trans (HQ6.out.mono HB.out.size)⟩
        |
         false =>
         rw[Bool.false_and]
         rw[hv5] at HD
         clear hv5
         go_enter Tryz.func96,Tryz.ntmps96
         go_wp2_with fail
         refine (HI.out _ (HB.out.trans (HQ0.out.mono HB.out.size))).mono ?_
         rintro e v1 ⟨rfl,hb1⟩
         have HQ1:Hid (Below W.heap.size W v1):=hid (HQ0.out.trans (hb1.mono HQ0.out.size))
         have kk1:=ay ((HQ1.out.block w.heap.size hzW).trans HC.out)
         clear hb1
         go_wp2_with fail
         refine (HJ.out _).mono ?_
         rintro e v2 ⟨rfl,hb2⟩
         have HQ2:Hid (Below W.heap.size W v2):=hid (HQ1.out.trans (hb2.mono HQ1.out.size))
         have kk2:=ay ((HQ2.out.block w.heap.size hzW).trans HC.out)
         clear hb2
         go_wp2_with fail
         refine (HO.out _ (HB.out.trans (HQ2.out.mono HB.out.size))).mono ?_
         rintro e v3 ⟨rfl,hb3⟩
         have HQ3:Hid (Below W.heap.size W v3):=hid (HQ2.out.trans (hb3.mono HQ2.out.size))
         have kk3:=ay ((HQ3.out.block w.heap.size hzW).trans HC.out)
         clear hb3
         go_wp2_with fail
         refine (HW.out _ (HB.out.trans (HQ3.out.mono HB.out.size))).mono ?_
         rintro e v4 ⟨rfl,hb4⟩
         have HQ4:Hid (Below W.heap.size W v4):=hid (HQ3.out.trans (hb4.mono HQ3.out.size))
         have kk4:=ay ((HQ4.out.block w.heap.size hzW).trans HC.out)
         clear hb4
         go_wp2_with fail
         refine (HG.out _ (HB.out.trans (HQ4.out.mono HB.out.size))).mono ?_
         rintro e v5 ⟨rfl,hb5⟩
         have HQ5:Hid (Below W.heap.size W v5):=hid (HQ4.out.trans (hb5.mono HQ4.out.size))
         have kk5:=ay ((HQ5.out.block w.heap.size hzW).trans HC.out)
         clear hb5
         go_wp2_with fail
         refine (HD.out _ (HB.out.trans (HQ5.out.mono HB.out.size))).mono ?_
         rintro e v6 ⟨rfl,hb6⟩
         have HQ6:Hid (Below W.heap.size W v6):=hid (HQ5.out.trans (hb6.mono HQ5.out.size))
         have kk6:=ay ((HQ6.out.block w.heap.size hzW).trans HC.out)
         clear hb6
         go_wp2
         go_ret
         exact⟨rfl,HB.out.trans (HQ6.out.mono HB.out.size)⟩
       |
        false =>
        rw[Bool.false_and]
        rw[hv4] at HG
        clear hv4
        go_enter Tryz.func96,Tryz.ntmps96
        go_wp2_with fail
        refine (HI.out _ (HB.out.trans (HQ0.out.mono HB.out.size))).mono ?_
        rintro e v1 ⟨rfl,hb1⟩
        have HQ1:Hid (Below W.heap.size W v1):=hid (HQ0.out.trans (hb1.mono HQ0.out.size))
        have kk1:=ay ((HQ1.out.block w.heap.size hzW).trans HC.out)
        clear hb1
        go_wp2_with fail
        refine (HJ.out _).mono ?_
        rintro e v2 ⟨rfl,hb2⟩
        have HQ2:Hid (Below W.heap.size W v2):=hid (HQ1.out.trans (hb2.mono HQ1.out.size))
        have kk2:=ay ((HQ2.out.block w.heap.size hzW).trans HC.out)
        clear hb2
        go_wp2_with fail
        refine (HO.out _ (HB.out.trans (HQ2.out.mono HB.out.size))).mono ?_
        rintro e v3 ⟨rfl,hb3⟩
        have HQ3:Hid (Below W.heap.size W v3):=hid (HQ2.out.trans (hb3.mono HQ2.out.size))
        have kk3:=ay ((HQ3.out.block w.heap.size hzW).trans HC.out)
        clear hb3
        go_wp2_with fail
        refine (HW.out _ (HB.out.trans (HQ3.out.mono HB.out.size))).mono ?_
        rintro e v4 ⟨rfl,hb4⟩
        have HQ4:Hid (Below W.heap.size W v4):=hid (HQ3.out.trans (hb4.mono HQ3.out.size))
        have kk4:=ay ((HQ4.out.block w.heap.size hzW).trans HC.out)
        clear hb4
        go_wp2_with fail
        refine (HG.out _ (HB.out.trans (HQ4.out.mono HB.out.size))).mono ?_
        rintro e v5 ⟨rfl,hb5⟩
        have HQ5:Hid (Below W.heap.size W v5):=hid (HQ4.out.trans (hb5.mono HQ4.out.size))
        have kk5:=ay ((HQ5.out.block w.heap.size hzW).trans HC.out)
        clear hb5
        go_wp2
        go_ret
        exact⟨rfl,HB.out.trans (HQ5.out.mono HB.out.size)⟩
      |
       false =>
       rw[Bool.false_and]
       rw[hv3] at HW
       clear hv3
       go_enter Tryz.func96,Tryz.ntmps96
       go_wp2_with fail
       refine (HI.out _ (HB.out.trans (HQ0.out.mono HB.out.size))).mono ?_
       rintro e v1 ⟨rfl,hb1⟩
       have HQ1:Hid (Below W.heap.size W v1):=hid (HQ0.out.trans (hb1.mono HQ0.out.size))
       have kk1:=ay ((HQ1.out.block w.heap.size hzW).trans HC.out)
       clear hb1
       go_wp2_with fail
       refine (HJ.out _).mono ?_
       rintro e v2 ⟨rfl,hb2⟩
       have HQ2:Hid (Below W.heap.size W v2):=hid (HQ1.out.trans (hb2.mono HQ1.out.size))
       have kk2:=ay ((HQ2.out.block w.heap.size hzW).trans HC.out)
       clear hb2
       go_wp2_with fail
       refine (HO.out _ (HB.out.trans (HQ2.out.mono HB.out.size))).mono ?_
       rintro e v3 ⟨rfl,hb3⟩
       have HQ3:Hid (Below W.heap.size W v3):=hid (HQ2.out.trans (hb3.mono HQ2.out.size))
       have kk3:=ay ((HQ3.out.block w.heap.size hzW).trans HC.out)
       clear hb3
       go_wp2_with fail
       refine (HW.out _ (HB.out.trans (HQ3.out.mono HB.out.size))).mono ?_
       rintro e v4 ⟨rfl,hb4⟩
       have HQ4:Hid (Below W.heap.size W v4):=hid (HQ3.out.trans (hb4.mono HQ3.out.size))
       have kk4:=ay ((HQ4.out.block w.heap.size hzW).trans HC.out)
       clear hb4
       go_wp2
       go_ret
       exact⟨rfl,HB.out.trans (HQ4.out.mono HB.out.size)⟩
     |
      false =>
      rw[Bool.false_and]
      rw[hv2] at HO
      clear hv2
      go_enter Tryz.func96,Tryz.ntmps96
      go_wp2_with fail
      refine (HI.out _ (HB.out.trans (HQ0.out.mono HB.out.size))).mono ?_
      rintro e v1 ⟨rfl,hb1⟩
      have HQ1:Hid (Below W.heap.size W v1):=hid (HQ0.out.trans (hb1.mono HQ0.out.size))
      have kk1:=ay ((HQ1.out.block w.heap.size hzW).trans HC.out)
      clear hb1
      go_wp2_with fail
      refine (HJ.out _).mono ?_
      rintro e v2 ⟨rfl,hb2⟩
      have HQ2:Hid (Below W.heap.size W v2):=hid (HQ1.out.trans (hb2.mono HQ1.out.size))
      have kk2:=ay ((HQ2.out.block w.heap.size hzW).trans HC.out)
      clear hb2
      go_wp2_with fail
      refine (HO.out _ (HB.out.trans (HQ2.out.mono HB.out.size))).mono ?_
      rintro e v3 ⟨rfl,hb3⟩
      have HQ3:Hid (Below W.heap.size W v3):=hid (HQ2.out.trans (hb3.mono HQ2.out.size))
      have kk3:=ay ((HQ3.out.block w.heap.size hzW).trans HC.out)
      clear hb3
      go_wp2
      go_ret
      exact⟨rfl,HB.out.trans (HQ3.out.mono HB.out.size)⟩
    |
     false =>
     rw[Bool.false_and]
     rw[hv1] at HJ
     clear hv1
     go_enter Tryz.func96,Tryz.ntmps96
     go_wp2_with fail
     refine (HI.out _ (HB.out.trans (HQ0.out.mono HB.out.size))).mono ?_
     rintro e v1 ⟨rfl,hb1⟩
     have HQ1:Hid (Below W.heap.size W v1):=hid (HQ0.out.trans (hb1.mono HQ0.out.size))
     have kk1:=ay ((HQ1.out.block w.heap.size hzW).trans HC.out)
     clear hb1
     go_wp2_with fail
     refine (HJ.out _).mono ?_
     rintro e v2 ⟨rfl,hb2⟩
     have HQ2:Hid (Below W.heap.size W v2):=hid (HQ1.out.trans (hb2.mono HQ1.out.size))
     have kk2:=ay ((HQ2.out.block w.heap.size hzW).trans HC.out)
     clear hb2
     go_wp2
     go_ret
     exact⟨rfl,HB.out.trans (HQ2.out.mono HB.out.size)⟩
   |
    false =>
    rw[Bool.false_and]
    rw[hv0] at HI
    clear hv0
    go_enter Tryz.func96,Tryz.ntmps96
    go_wp2_with fail
    refine (HI.out _ (HB.out.trans (HQ0.out.mono HB.out.size))).mono ?_
    rintro e v1 ⟨rfl,hb1⟩
    have HQ1:Hid (Below W.heap.size W v1):=hid (HQ0.out.trans (hb1.mono HQ0.out.size))
    have kk1:=ay ((HQ1.out.block w.heap.size hzW).trans HC.out)
    clear hb1
    go_wp2
    go_ret
    exact⟨rfl,HB.out.trans (HQ1.out.mono HB.out.size)⟩
  |
   true =>
   simp only[Bool.not_true,Bool.false_or]
   obtain⟨W,hW,hbW,hzW,hcW⟩:=aL w (.cells #[.int .i64 k,.string (aj tn),.slice a1 n1 c1,.string (aj prim),.slice a2 n2 c2,.slice a3 n3 c3,.slice a4 n4 c4,.string (aj jn),.slice a5 n5 c5,.slice a6 n6 c6,.slice a7 n7 c7,.slice a8 n8 c8,.bool true,.int .i64 lim] 29)
   have k0:=ay hcW
   have HB:=hid hbW
   have HC:=hid hcW
   have HQ0:=hid (Below.refl W.heap.size W)
   clear hbW hcW
   cases hv0:BI with
   |
    true =>
    rw[Bool.true_and]
    rw[hv0] at HI
    clear hv0
    cases hv1:BJ with
    |
     true =>
     rw[Bool.true_and]
     rw[hv1] at HJ
     clear hv1
     cases hv2:BO with
     |
      true =>
      rw[Bool.true_and]
      rw[hv2] at HO
      clear hv2
      cases hv3:BW with
      |
       true =>
       rw[Bool.true_and]
       rw[hv3] at HW
       clear hv3
       cases hv4:BG with
       |
        true =>
        rw[Bool.true_and]
        rw[hv4] at HG
        clear hv4
        cases hv5:BD with
        |
         true =>
         rw[Bool.true_and]
         rw[hv5] at HD
         clear hv5
         cases hv6:decide (n8=1) with
         |
          true =>
          rw[Bool.true_and]
          have g8:((n8:Int)==1)=true:=by rw[of_decide_eq_true hv6];rfl
          clear hv6
          go_enter Tryz.func96,Tryz.ntmps96
          go_wp2_with fail
          refine (HI.out _ (HB.out.trans (HQ0.out.mono HB.out.size))).mono ?_
          rintro e v1 ⟨rfl,hb1⟩
          have HQ1:Hid (Below W.heap.size W v1):=hid (HQ0.out.trans (hb1.mono HQ0.out.size))
          have kk1:=ay ((HQ1.out.block w.heap.size hzW).trans HC.out)
          clear hb1
          go_wp2_with fail
          refine (HJ.out _).mono ?_
          rintro e v2 ⟨rfl,hb2⟩
          have HQ2:Hid (Below W.heap.size W v2):=hid (HQ1.out.trans (hb2.mono HQ1.out.size))
          have kk2:=ay ((HQ2.out.block w.heap.size hzW).trans HC.out)
          clear hb2
          go_wp2_with fail
          refine (HO.out _ (HB.out.trans (HQ2.out.mono HB.out.size))).mono ?_
          rintro e v3 ⟨rfl,hb3⟩
          have HQ3:Hid (Below W.heap.size W v3):=hid (HQ2.out.trans (hb3.mono HQ2.out.size))
          have kk3:=ay ((HQ3.out.block w.heap.size hzW).trans HC.out)
          clear hb3
          go_wp2_with fail
          refine (HW.out _ (HB.out.trans (HQ3.out.mono HB.out.size))).mono ?_
          rintro e v4 ⟨rfl,hb4⟩
          have HQ4:Hid (Below W.heap.size W v4):=hid (HQ3.out.trans (hb4.mono HQ3.out.size))
          have kk4:=ay ((HQ4.out.block w.heap.size hzW).trans HC.out)
          clear hb4
          go_wp2_with fail
          refine (HG.out _ (HB.out.trans (HQ4.out.mono HB.out.size))).mono ?_
          rintro e v5 ⟨rfl,hb5⟩
          have HQ5:Hid (Below W.heap.size W v5):=hid (HQ4.out.trans (hb5.mono HQ4.out.size))
          have kk5:=ay ((HQ5.out.block w.heap.size hzW).trans HC.out)
          clear hb5
          go_wp2_with fail
          refine (HD.out _ (HB.out.trans (HQ5.out.mono HB.out.size))).mono ?_
          rintro e v6 ⟨rfl,hb6⟩
          have HQ6:Hid (Below W.heap.size W v6):=hid (HQ5.out.trans (hb6.mono HQ5.out.size))
          have kk6:=ay ((HQ6.out.block w.heap.size hzW).trans HC.out)
          clear hb6
          go_wp2
          go_ret
          exact⟨rfl,HB.out.trans (HQ6.out.mono HB.out.size)⟩
         |
          false =>
          rw[Bool.false_and]
          have g8:((n8:Int)==1)=false:=by have:=of_decide_eq_false hv6;rw[beq_eq_false_iff_ne];omega
          clear hv6
          go_enter Tryz.func96,Tryz.ntmps96
          go_wp2_with fail
          refine (HI.out _ (HB.out.trans (HQ0.out.mono HB.out.size))).mono ?_
          rintro e v1 ⟨rfl,hb1⟩
          have HQ1:Hid (Below W.heap.size W v1):=hid (HQ0.out.trans (hb1.mono HQ0.out.size))
          have kk1:=ay ((HQ1.out.block w.heap.size hzW).trans HC.out)
          clear hb1
          go_wp2_with fail
          refine (HJ.out _).mono ?_
          rintro e v2 ⟨rfl,hb2⟩
          have HQ2:Hid (Below W.heap.size W v2):=hid (HQ1.out.trans (hb2.mono HQ1.out.size))
          have kk2:=ay ((HQ2.out.block w.heap.size hzW).trans HC.out)
          clear hb2
          go_wp2_with fail
          refine (HO.out _ (HB.out.trans (HQ2.out.mono HB.out.size))).mono ?_
          rintro e v3 ⟨rfl,hb3⟩
          have HQ3:Hid (Below W.heap.size W v3):=hid (HQ2.out.trans (hb3.mono HQ2.out.size))
          have kk3:=ay ((HQ3.out.block w.heap.size hzW).trans HC.out)
          clear hb3
          go_wp2_with fail
          refine (HW.out _ (HB.out.trans (HQ3.out.mono HB.out.size))).mono ?_
          rintro e v4 ⟨rfl,hb4⟩
          have HQ4:Hid (Below W.heap.size W v4):=hid (HQ3.out.trans (hb4.mono HQ3.out.size))
          have kk4:=ay ((HQ4.out.block w.heap.size hzW).trans HC.out)
          clear hb4
          go_wp2_with fail
          refine (HG.out _ (HB.out.trans (HQ4.out.mono HB.out.size))).mono ?_
          rintro e v5 ⟨rfl,hb5⟩
          have HQ5:Hid (Below W.heap.size W v5):=hid (HQ4.out.trans (hb5.mono HQ4.out.size))
          have kk5:=ay ((HQ5.out.block w.heap.size hzW).trans HC.out)
          clear hb5
          go_wp2_with fail
          refine (HD.out _ (HB.out.trans (HQ5.out.mono HB.out.size))).mono ?_
          rintro e v6 ⟨rfl,hb6⟩
          have HQ6:Hid (Below W.heap.size W v6):=hid (HQ5.out.trans (hb6.mono HQ5.out.size))
          have kk6:=ay ((HQ6.out.block w.heap.size hzW).trans HC.out)
          clear hb6
          go_wp2
          go_ret
          exact⟨rfl,HB.out.trans (HQ6.out.mono HB.out.size)⟩
        |
         false =>
         rw[Bool.false_and]
         rw[hv5] at HD
         clear hv5
         go_enter Tryz.func96,Tryz.ntmps96
         go_wp2_with fail
         refine (HI.out _ (HB.out.trans (HQ0.out.mono HB.out.size))).mono ?_
         rintro e v1 ⟨rfl,hb1⟩
         have HQ1:Hid (Below W.heap.size W v1):=hid (HQ0.out.trans (hb1.mono HQ0.out.size))
         have kk1:=ay ((HQ1.out.block w.heap.size hzW).trans HC.out)
         clear hb1
         go_wp2_with fail
         refine (HJ.out _).mono ?_
         rintro e v2 ⟨rfl,hb2⟩
         have HQ2:Hid (Below W.heap.size W v2):=hid (HQ1.out.trans (hb2.mono HQ1.out.size))
         have kk2:=ay ((HQ2.out.block w.heap.size hzW).trans HC.out)
         clear hb2
         go_wp2_with fail
         refine (HO.out _ (HB.out.trans (HQ2.out.mono HB.out.size))).mono ?_
         rintro e v3 ⟨rfl,hb3⟩
         have HQ3:Hid (Below W.heap.size W v3):=hid (HQ2.out.trans (hb3.mono HQ2.out.size))
         have kk3:=ay ((HQ3.out.block w.heap.size hzW).trans HC.out)
         clear hb3
         go_wp2_with fail
         refine (HW.out _ (HB.out.trans (HQ3.out.mono HB.out.size))).mono ?_
         rintro e v4 ⟨rfl,hb4⟩
         have HQ4:Hid (Below W.heap.size W v4):=hid (HQ3.out.trans (hb4.mono HQ3.out.size))
         have kk4:=ay ((HQ4.out.block w.heap.size hzW).trans HC.out)
         clear hb4
         go_wp2_with fail
         refine (HG.out _ (HB.out.trans (HQ4.out.mono HB.out.size))).mono ?_
         rintro e v5 ⟨rfl,hb5⟩
         have HQ5:Hid (Below W.heap.size W v5):=hid (HQ4.out.trans (hb5.mono HQ4.out.size))
         have kk5:=ay ((HQ5.out.block w.heap.size hzW).trans HC.out)
         clear hb5
         go_wp2_with fail
         refine (HD.out _ (HB.out.trans (HQ5.out.mono HB.out.size))).mono ?_
         rintro e v6 ⟨rfl,hb6⟩
         have HQ6:Hid (Below W.heap.size W v6):=hid (HQ5.out.trans (hb6.mono HQ5.out.size))
         have kk6:=ay ((HQ6.out.block w.heap.size hzW).trans HC.out)
         clear hb6
         go_wp2
         go_ret
         exact⟨rfl,HB.out.trans (HQ6.out.mono HB.out.size)⟩
       |
        false =>
        rw[Bool.false_and]
        rw[hv4] at HG
        clear hv4
        go_enter Tryz.func96,Tryz.ntmps96
        go_wp2_with fail
        refine (HI.out _ (HB.out.trans (HQ0.out.mono HB.out.size))).mono ?_
        rintro e v1 ⟨rfl,hb1⟩
        have HQ1:Hid (Below W.heap.size W v1):=hid (HQ0.out.trans (hb1.mono HQ0.out.size))
        have kk1:=ay ((HQ1.out.block w.heap.size hzW).trans HC.out)
        clear hb1
        go_wp2_with fail
        refine (HJ.out _).mono ?_
        rintro e v2 ⟨rfl,hb2⟩
        have HQ2:Hid (Below W.heap.size W v2):=hid (HQ1.out.trans (hb2.mono HQ1.out.size))
        have kk2:=ay ((HQ2.out.block w.heap.size hzW).trans HC.out)
        clear hb2
        go_wp2_with fail
        refine (HO.out _ (HB.out.trans (HQ2.out.mono HB.out.size))).mono ?_
        rintro e v3 ⟨rfl,hb3⟩
        have HQ3:Hid (Below W.heap.size W v3):=hid (HQ2.out.trans (hb3.mono HQ2.out.size))
        have kk3:=ay ((HQ3.out.block w.heap.size hzW).trans HC.out)
        clear hb3
        go_wp2_with fail
        refine (HW.out _ (HB.out.trans (HQ3.out.mono HB.out.size))).mono ?_
        rintro e v4 ⟨rfl,hb4⟩
        have HQ4:Hid (Below W.heap.size W v4):=hid (HQ3.out.trans (hb4.mono HQ3.out.size))
        have kk4:=ay ((HQ4.out.block w.heap.size hzW).trans HC.out)
        clear hb4
        go_wp2_with fail
        refine (HG.out _ (HB.out.trans (HQ4.out.mono HB.out.size))).mono ?_
        rintro e v5 ⟨rfl,hb5⟩
        have HQ5:Hid (Below W.heap.size W v5):=hid (HQ4.out.trans (hb5.mono HQ4.out.size))
        have kk5:=ay ((HQ5.out.block w.heap.size hzW).trans HC.out)
        clear hb5
        go_wp2
        go_ret
        exact⟨rfl,HB.out.trans (HQ5.out.mono HB.out.size)⟩
      |
       false =>
       rw[Bool.false_and]
       rw[hv3] at HW
       clear hv3
       go_enter Tryz.func96,Tryz.ntmps96
       go_wp2_with fail
       refine (HI.out _ (HB.out.trans (HQ0.out.mono HB.out.size))).mono ?_
       rintro e v1 ⟨rfl,hb1⟩
       have HQ1:Hid (Below W.heap.size W v1):=hid (HQ0.out.trans (hb1.mono HQ0.out.size))
       have kk1:=ay ((HQ1.out.block w.heap.size hzW).trans HC.out)
       clear hb1
       go_wp2_with fail
       refine (HJ.out _).mono ?_
       rintro e v2 ⟨rfl,hb2⟩
       have HQ2:Hid (Below W.heap.size W v2):=hid (HQ1.out.trans (hb2.mono HQ1.out.size))
       have kk2:=ay ((HQ2.out.block w.heap.size hzW).trans HC.out)
       clear hb2
       go_wp2_with fail
       refine (HO.out _ (HB.out.trans (HQ2.out.mono HB.out.size))).mono ?_
       rintro e v3 ⟨rfl,hb3⟩
       have HQ3:Hid (Below W.heap.size W v3):=hid (HQ2.out.trans (hb3.mono HQ2.out.size))
       have kk3:=ay ((HQ3.out.block w.heap.size hzW).trans HC.out)
       clear hb3
       go_wp2_with fail
       refine (HW.out _ (HB.out.trans (HQ3.out.mono HB.out.size))).mono ?_
       rintro e v4 ⟨rfl,hb4⟩
       have HQ4:Hid (Below W.heap.size W v4):=hid (HQ3.out.trans (hb4.mono HQ3.out.size))
       have kk4:=ay ((HQ4.out.block w.heap.size hzW).trans HC.out)
       clear hb4
       go_wp2
       go_ret
       exact⟨rfl,HB.out.trans (HQ4.out.mono HB.out.size)⟩
     |
      false =>
      rw[Bool.false_and]
      rw[hv2] at HO
      clear hv2
      go_enter Tryz.func96,Tryz.ntmps96
      go_wp2_with fail
      refine (HI.out _ (HB.out.trans (HQ0.out.mono HB.out.size))).mono ?_
      rintro e v1 ⟨rfl,hb1⟩
      have HQ1:Hid (Below W.heap.size W v1):=hid (HQ0.out.trans (hb1.mono HQ0.out.size))
      have kk1:=ay ((HQ1.out.block w.heap.size hzW).trans HC.out)
      clear hb1
      go_wp2_with fail
      refine (HJ.out _).mono ?_
      rintro e v2 ⟨rfl,hb2⟩
      have HQ2:Hid (Below W.heap.size W v2):=hid (HQ1.out.trans (hb2.mono HQ1.out.size))
      have kk2:=ay ((HQ2.out.block w.heap.size hzW).trans HC.out)
      clear hb2
      go_wp2_with fail
      refine (HO.out _ (HB.out.trans (HQ2.out.mono HB.out.size))).mono ?_
      rintro e v3 ⟨rfl,hb3⟩
      have HQ3:Hid (Below W.heap.size W v3):=hid (HQ2.out.trans (hb3.mono HQ2.out.size))
      have kk3:=ay ((HQ3.out.block w.heap.size hzW).trans HC.out)
      clear hb3
      go_wp2
      go_ret
      exact⟨rfl,HB.out.trans (HQ3.out.mono HB.out.size)⟩
    |
     false =>
     rw[Bool.false_and]
     rw[hv1] at HJ
     clear hv1
     go_enter Tryz.func96,Tryz.ntmps96
     go_wp2_with fail
     refine (HI.out _ (HB.out.trans (HQ0.out.mono HB.out.size))).mono ?_
     rintro e v1 ⟨rfl,hb1⟩
     have HQ1:Hid (Below W.heap.size W v1):=hid (HQ0.out.trans (hb1.mono HQ0.out.size))
     have kk1:=ay ((HQ1.out.block w.heap.size hzW).trans HC.out)
     clear hb1
     go_wp2_with fail
     refine (HJ.out _).mono ?_
     rintro e v2 ⟨rfl,hb2⟩
     have HQ2:Hid (Below W.heap.size W v2):=hid (HQ1.out.trans (hb2.mono HQ1.out.size))
     have kk2:=ay ((HQ2.out.block w.heap.size hzW).trans HC.out)
     clear hb2
     go_wp2
     go_ret
     exact⟨rfl,HB.out.trans (HQ2.out.mono HB.out.size)⟩
   |
    false =>
    rw[Bool.false_and]
    rw[hv0] at HI
    clear hv0
    go_enter Tryz.func96,Tryz.ntmps96
    go_wp2_with fail
    refine (HI.out _ (HB.out.trans (HQ0.out.mono HB.out.size))).mono ?_
    rintro e v1 ⟨rfl,hb1⟩
    have HQ1:Hid (Below W.heap.size W v1):=hid (HQ0.out.trans (hb1.mono HQ0.out.size))
    have kk1:=ay ((HQ1.out.block w.heap.size hzW).trans HC.out)
    clear hb1
    go_wp2
    go_ret
    exact⟨rfl,HB.out.trans (HQ1.out.mono HB.out.size)⟩
end Go.Proofs.YtfeglkleoijlaaaGreatDoor
