import Derived.Test.YtfeglkleoijlaaaGreatDoorY13
import Derived.Test.YtfeglkleoijlaaaGreatDoorY14
namespace Go.Proofs.YtfeglkleoijlaaaGreatDoor
open Go.RowKit Go.Shelf
set_option linter.unusedSimpArgs false
set_option linter.unusedVariables false
set_option maxRecDepth 20000
set_option maxHeartbeats 8000000
theorem vO (S:Nat→Prop) (k:Int) (tn:List UInt8) (items:List It) (on wh gr od:List Ex) (aD jn:List UInt8) (desc:Bool) (lim:Int) (a1 a2 a3 a4 a5 a6 a7 a8:Option Addr) (n1 n2 n3 n4 n5 n6 n7 n8 c1 c2 c3 c4 c5 c6 c7 c8:Nat) (w:World)
  (h4:aM 2 vY S w items (.slice a4 n4 c4)) (h5:bA S w on (.slice a5 n5 c5)) (h6:bA S w wh (.slice a6 n6 c6)) (h7:bA S w gr (.slice a7 n7 c7)) (h8:bA S w od (.slice a8 n8 c8))
  (r4 : ∀i∈items,∀x∈i.xs,mO x) (r5 : ∀x∈on,mO x) (r6 : ∀x∈wh,mO x) (r7 : ∀x∈gr,mO x) (r8 : ∀x∈od,mO x) (rj:jn.length≤9223372036854775807) (rl:lim≤9223372036854775807) :
  Calls Tryz.prog 96 #[.agg #[.int .i64 k,.string (aj tn),.slice a1 n1 c1,.string (aj aD),.slice a2 n2 c2,.slice a3 n3 c3,.slice a4 n4 c4,.string (aj jn),.slice a5 n5 c5,.slice a6 n6 c6,.slice a7 n7 c7,.slice a8 n8 c8,.bool desc,.int .i64 lim]] w fun e w'=>e = .returned (.bool (aR items 1 8 oQ&&(oI jn&&(aR on (gB jn) (gB jn) aF&&(aR wh 0 1 aF&&(aR gr 0 1 dO&&(aR od 0 1 dO&&((!desc||decide (od.length=1))&&decide (-1≤lim∧lim≤9223372036854775807)))))))))∧Below w.heap.size w w':=by
 have hej:=bf jn
 have hn8:n8=od.length:=by
  obtain⟨_,_,hf8,_⟩:=h8.form
  simp only[aah] at hf8
  exact hf8.2.1
 rw[← hn8]
 clear hn8
 have HI:Hid (∀V,Below w.heap.size w V→Calls Tryz.prog 141 #[.slice a4 n4 c4,.int .i64 1,.int .i64 8,.func (.func 142) #[] #[]] V fun e w'=>e = .returned (.bool (aR items 1 8 oQ))∧Below V.heap.size V w'):=hid (fun V hV=>Kv S 142 (enters_of Tryz.func142 (by kernel_rfl) rfl) oQ items _ 1 8 V (by omega) (by omega) (h4.to (by decide) (R:=fun _=>False) (T:=S) (ak.aA hV) (fun b hb _=>⟨id,hb⟩) (fun _ _ e=>e.to (R:=fun _=>False) (T:=S) (ak.aA hV) (fun b hb _=>⟨id,hb⟩))) (hid (fun y hy U hU cs hcs=>zk S y cs U (r4 y hy) hcs)))
 have HJ:=hid (fun V=>Hq jn V rj)
 have HO:Hid (∀V,Below w.heap.size w V→Calls Tryz.prog 95 #[.slice a5 n5 c5,.int .i64 (gB jn:Nat),.int .i64 (gB jn:Nat),.func (.func 82) #[] #[]] V fun e w'=>e = .returned (.bool (aR on (gB jn) (gB jn) aF))∧Below V.heap.size V w'):=hid (fun V hV=>mJ S on _ _ _ V (by unfold gB;split<;>omega) (by unfold gB;split<;>omega) r5 (h5.new hV))
 have HW:Hid (∀V,Below w.heap.size w V→Calls Tryz.prog 95 #[.slice a6 n6 c6,.int .i64 0,.int .i64 1,.func (.func 82) #[] #[]] V fun e w'=>e = .returned (.bool (aR wh 0 1 aF))∧Below V.heap.size V w'):=hid (fun V hV=>mJ S wh _ 0 1 V (by omega) (by omega) r6 (h6.new hV))
 have HG:Hid (∀V,Below w.heap.size w V→Calls Tryz.prog 95 #[.slice a7 n7 c7,.int .i64 0,.int .i64 1,.func (.func 143) #[] #[]] V fun e w'=>e = .returned (.bool (aR gr 0 1 dO))∧Below V.heap.size V w'):=hid (fun V hV=>qB S 143 (enters_of Tryz.func143 (by kernel_rfl) rfl) dO gr _ 0 1 V (by omega) (by omega) (eZ (h7.new hV)) (hid (fun y hy U hU cs hcs=>lD S y _ U (r7 y hy) hcs.v)))
 have HD:Hid (∀V,Below w.heap.size w V→Calls Tryz.prog 95 #[.slice a8 n8 c8,.int .i64 0,.int .i64 1,.func (.func 143) #[] #[]] V fun e w'=>e = .returned (.bool (aR od 0 1 dO))∧Below V.heap.size V w'):=hid (fun V hV=>qB S 143 (enters_of Tryz.func143 (by kernel_rfl) rfl) dO od _ 0 1 V (by omega) (by omega) (eZ (h8.new hV)) (hid (fun y hy U hU cs hcs=>lD S y _ U (r8 y hy) hcs.v)))
 have hlm:decide (-1≤lim∧lim≤9223372036854775807)=decide (-1≤lim):=by rw[Bool.eq_iff_iff,aaI,aaI];omega
 rw[hlm]
 clear hlm h4 h5 h6 h7 h8 r4 r5 r6 r7 r8 rj rl
 generalize aR items 1 8 oQ=BI at HI ⊢
 generalize oI jn=BJ at HJ ⊢
 generalize aR wh 0 1 aF=BW at HW ⊢
 generalize aR gr 0 1 dO=BG at HG ⊢
 generalize aR od 0 1 dO=BD at HD ⊢
 by_cases hj:jn=[]
 ·have hjn:gB jn=0:=if_pos hj
  rw[aar hj] at hej
  rw[hjn] at HO ⊢
  clear hj hjn
  generalize aR on 0 0 aF=BO at HO ⊢
  have HO:Hid (∀V,Below w.heap.size w V→Calls Tryz.prog 95 #[.slice a5 n5 c5,.int .i64 0,.int .i64 0,.func (.func 82) #[] #[]] V fun e w'=>e = .returned (.bool BO)∧Below V.heap.size V w'):=hid HO.out
  cases desc with
  |
   false =>
   simp only[Bool.not_false,Bool.true_or,aaA]
   obtain⟨W,hW,hbW,aJ,hcW⟩:=aK w (.cells #[.int .i64 k,.string (aj tn),.slice a1 n1 c1,.string (aj aD),.slice a2 n2 c2,.slice a3 n3 c3,.slice a4 n4 c4,.string (aj jn),.slice a5 n5 c5,.slice a6 n6 c6,.slice a7 n7 c7,.slice a8 n8 c8,.bool false,.int .i64 lim] 29)
   have k0:=au hcW
   have HB:=hid hbW
   have HC:=hid hcW
   have dn:=hid (Below.refl W.heap.size W)
   clear hbW hcW
   cases hv0:BI with
   |
    true =>
    rw[aaA]
    rw[hv0] at HI
    clear hv0
    cases hv1:BJ with
    |
     true =>
     rw[aaA]
     rw[hv1] at HJ
     clear hv1
     cases hv2:BO with
     |
      true =>
      rw[aaA]
      rw[hv2] at HO
      clear hv2
      cases hv3:BW with
      |
       true =>
       rw[aaA]
       rw[hv3] at HW
       clear hv3
       cases hv4:BG with
       |
        true =>
        rw[aaA]
        rw[hv4] at HG
        clear hv4
        cases hv5:BD with
        |
         true =>
         rw[aaA]
         rw[hv5] at HD
         clear hv5
         go_enter Tryz.func96,Tryz.ntmps96
         go_wp2_with fail
         refine (HI.out _ (HB.out.trans (dn.out.mono HB.out.size))).mono ?_
         rintro e v1 ⟨rfl,hb1⟩
         have cZ:=htr dn hb1
         have iU:=au ((cZ.out.block w.heap.size aJ).trans HC.out)
         clear hb1
         go_wp2_with fail
         refine (HJ.out _).mono ?_
         rintro e v2 ⟨rfl,hb2⟩
         have dA:=htr cZ hb2
         have j4:=au ((dA.out.block w.heap.size aJ).trans HC.out)
         clear hb2
         go_wp2_with fail
         refine (HO.out _ (HB.out.trans (dA.out.mono HB.out.size))).mono ?_
         rintro e v3 ⟨rfl,hb3⟩
         have gq:=htr dA hb3
         have nX:=au ((gq.out.block w.heap.size aJ).trans HC.out)
         clear hb3
         go_wp2_with fail
         refine (HW.out _ (HB.out.trans (gq.out.mono HB.out.size))).mono ?_
         rintro e v4 ⟨rfl,hb4⟩
         have iR:=htr gq hb4
         have u7:=au ((iR.out.block w.heap.size aJ).trans HC.out)
         clear hb4
         go_wp2_with fail
         refine (HG.out _ (HB.out.trans (iR.out.mono HB.out.size))).mono ?_
         rintro e v5 ⟨rfl,hb5⟩
         have kN:=htr iR hb5
         have AQ:=au ((kN.out.block w.heap.size aJ).trans HC.out)
         clear hb5
         go_wp2_with fail
         refine (HD.out _ (HB.out.trans (kN.out.mono HB.out.size))).mono ?_
         rintro e v6 ⟨rfl,hb6⟩
         have rT:=htr kN hb6
         have I7:=au ((rT.out.block w.heap.size aJ).trans HC.out)
         clear hb6
         go_wp2
         go_ret
         exact⟨rfl,HB.out.trans (rT.out.mono HB.out.size)⟩
        |
         false =>
         rw[aaz]
         rw[hv5] at HD
         clear hv5
         go_enter Tryz.func96,Tryz.ntmps96
         go_wp2_with fail
         refine (HI.out _ (HB.out.trans (dn.out.mono HB.out.size))).mono ?_
         rintro e v1 ⟨rfl,hb1⟩
         have cZ:=htr dn hb1
         have iU:=au ((cZ.out.block w.heap.size aJ).trans HC.out)
         clear hb1
         go_wp2_with fail
         refine (HJ.out _).mono ?_
         rintro e v2 ⟨rfl,hb2⟩
         have dA:=htr cZ hb2
         have j4:=au ((dA.out.block w.heap.size aJ).trans HC.out)
         clear hb2
         go_wp2_with fail
         refine (HO.out _ (HB.out.trans (dA.out.mono HB.out.size))).mono ?_
         rintro e v3 ⟨rfl,hb3⟩
         have gq:=htr dA hb3
         have nX:=au ((gq.out.block w.heap.size aJ).trans HC.out)
         clear hb3
         go_wp2_with fail
         refine (HW.out _ (HB.out.trans (gq.out.mono HB.out.size))).mono ?_
         rintro e v4 ⟨rfl,hb4⟩
         have iR:=htr gq hb4
         have u7:=au ((iR.out.block w.heap.size aJ).trans HC.out)
         clear hb4
         go_wp2_with fail
         refine (HG.out _ (HB.out.trans (iR.out.mono HB.out.size))).mono ?_
         rintro e v5 ⟨rfl,hb5⟩
         have kN:=htr iR hb5
         have AQ:=au ((kN.out.block w.heap.size aJ).trans HC.out)
         clear hb5
         go_wp2_with fail
         refine (HD.out _ (HB.out.trans (kN.out.mono HB.out.size))).mono ?_
         rintro e v6 ⟨rfl,hb6⟩
         have rT:=htr kN hb6
         have I7:=au ((rT.out.block w.heap.size aJ).trans HC.out)
         clear hb6
         go_wp2
         go_ret
         exact⟨rfl,HB.out.trans (rT.out.mono HB.out.size)⟩
       |
        false =>
        rw[aaz]
        rw[hv4] at HG
        clear hv4
        go_enter Tryz.func96,Tryz.ntmps96
        go_wp2_with fail
        refine (HI.out _ (HB.out.trans (dn.out.mono HB.out.size))).mono ?_
        rintro e v1 ⟨rfl,hb1⟩
        have cZ:=htr dn hb1
        have iU:=au ((cZ.out.block w.heap.size aJ).trans HC.out)
        clear hb1
        go_wp2_with fail
        refine (HJ.out _).mono ?_
        rintro e v2 ⟨rfl,hb2⟩
        have dA:=htr cZ hb2
        have j4:=au ((dA.out.block w.heap.size aJ).trans HC.out)
        clear hb2
        go_wp2_with fail
        refine (HO.out _ (HB.out.trans (dA.out.mono HB.out.size))).mono ?_
        rintro e v3 ⟨rfl,hb3⟩
        have gq:=htr dA hb3
        have nX:=au ((gq.out.block w.heap.size aJ).trans HC.out)
        clear hb3
        go_wp2_with fail
        refine (HW.out _ (HB.out.trans (gq.out.mono HB.out.size))).mono ?_
        rintro e v4 ⟨rfl,hb4⟩
        have iR:=htr gq hb4
        have u7:=au ((iR.out.block w.heap.size aJ).trans HC.out)
        clear hb4
        go_wp2_with fail
        refine (HG.out _ (HB.out.trans (iR.out.mono HB.out.size))).mono ?_
        rintro e v5 ⟨rfl,hb5⟩
        have kN:=htr iR hb5
        have AQ:=au ((kN.out.block w.heap.size aJ).trans HC.out)
        clear hb5
        go_wp2
        go_ret
        exact⟨rfl,HB.out.trans (kN.out.mono HB.out.size)⟩
      |
       false =>
       rw[aaz]
       rw[hv3] at HW
       clear hv3
       go_enter Tryz.func96,Tryz.ntmps96
       go_wp2_with fail
       refine (HI.out _ (HB.out.trans (dn.out.mono HB.out.size))).mono ?_
       rintro e v1 ⟨rfl,hb1⟩
       have cZ:=htr dn hb1
       have iU:=au ((cZ.out.block w.heap.size aJ).trans HC.out)
       clear hb1
       go_wp2_with fail
       refine (HJ.out _).mono ?_
       rintro e v2 ⟨rfl,hb2⟩
       have dA:=htr cZ hb2
       have j4:=au ((dA.out.block w.heap.size aJ).trans HC.out)
       clear hb2
       go_wp2_with fail
       refine (HO.out _ (HB.out.trans (dA.out.mono HB.out.size))).mono ?_
       rintro e v3 ⟨rfl,hb3⟩
       have gq:=htr dA hb3
       have nX:=au ((gq.out.block w.heap.size aJ).trans HC.out)
       clear hb3
       go_wp2_with fail
       refine (HW.out _ (HB.out.trans (gq.out.mono HB.out.size))).mono ?_
       rintro e v4 ⟨rfl,hb4⟩
       have iR:=htr gq hb4
       have u7:=au ((iR.out.block w.heap.size aJ).trans HC.out)
       clear hb4
       go_wp2
       go_ret
       exact⟨rfl,HB.out.trans (iR.out.mono HB.out.size)⟩
     |
      false =>
      rw[aaz]
      rw[hv2] at HO
      clear hv2
      go_enter Tryz.func96,Tryz.ntmps96
      go_wp2_with fail
      refine (HI.out _ (HB.out.trans (dn.out.mono HB.out.size))).mono ?_
      rintro e v1 ⟨rfl,hb1⟩
      have cZ:=htr dn hb1
      have iU:=au ((cZ.out.block w.heap.size aJ).trans HC.out)
      clear hb1
      go_wp2_with fail
      refine (HJ.out _).mono ?_
      rintro e v2 ⟨rfl,hb2⟩
      have dA:=htr cZ hb2
      have j4:=au ((dA.out.block w.heap.size aJ).trans HC.out)
      clear hb2
      go_wp2_with fail
      refine (HO.out _ (HB.out.trans (dA.out.mono HB.out.size))).mono ?_
      rintro e v3 ⟨rfl,hb3⟩
      have gq:=htr dA hb3
      have nX:=au ((gq.out.block w.heap.size aJ).trans HC.out)
      clear hb3
      go_wp2
      go_ret
      exact⟨rfl,HB.out.trans (gq.out.mono HB.out.size)⟩
    |
     false =>
     rw[aaz]
     rw[hv1] at HJ
     clear hv1
     go_enter Tryz.func96,Tryz.ntmps96
     go_wp2_with fail
     refine (HI.out _ (HB.out.trans (dn.out.mono HB.out.size))).mono ?_
     rintro e v1 ⟨rfl,hb1⟩
     have cZ:=htr dn hb1
     have iU:=au ((cZ.out.block w.heap.size aJ).trans HC.out)
     clear hb1
     go_wp2_with fail
     refine (HJ.out _).mono ?_
     rintro e v2 ⟨rfl,hb2⟩
     have dA:=htr cZ hb2
     have j4:=au ((dA.out.block w.heap.size aJ).trans HC.out)
     clear hb2
     go_wp2
     go_ret
     exact⟨rfl,HB.out.trans (dA.out.mono HB.out.size)⟩
   |
    false =>
    rw[aaz]
    rw[hv0] at HI
    clear hv0
    go_enter Tryz.func96,Tryz.ntmps96
    go_wp2_with fail
    refine (HI.out _ (HB.out.trans (dn.out.mono HB.out.size))).mono ?_
    rintro e v1 ⟨rfl,hb1⟩
    have cZ:=htr dn hb1
    have iU:=au ((cZ.out.block w.heap.size aJ).trans HC.out)
    clear hb1
    go_wp2
    go_ret
    exact⟨rfl,HB.out.trans (cZ.out.mono HB.out.size)⟩
  |
   true =>
   simp only[Bool.not_true,Bool.false_or]
   obtain⟨W,hW,hbW,aJ,hcW⟩:=aK w (.cells #[.int .i64 k,.string (aj tn),.slice a1 n1 c1,.string (aj aD),.slice a2 n2 c2,.slice a3 n3 c3,.slice a4 n4 c4,.string (aj jn),.slice a5 n5 c5,.slice a6 n6 c6,.slice a7 n7 c7,.slice a8 n8 c8,.bool true,.int .i64 lim] 29)
   have k0:=au hcW
   have HB:=hid hbW
   have HC:=hid hcW
   have dn:=hid (Below.refl W.heap.size W)
   clear hbW hcW
   cases hv0:BI with
   |
    true =>
    rw[aaA]
    rw[hv0] at HI
    clear hv0
    cases hv1:BJ with
    |
     true =>
     rw[aaA]
     rw[hv1] at HJ
     clear hv1
     cases hv2:BO with
     |
      true =>
      rw[aaA]
      rw[hv2] at HO
      clear hv2
      cases hv3:BW with
      |
       true =>
       rw[aaA]
       rw[hv3] at HW
       clear hv3
       cases hv4:BG with
       |
        true =>
        rw[aaA]
        rw[hv4] at HG
        clear hv4
        cases hv5:BD with
        |
         true =>
         rw[aaA]
         rw[hv5] at HD
         clear hv5
         cases hv6:decide (n8=1) with
         |
          true =>
          rw[aaA]
          have g8:((n8:Int)==1)=true:=by rw[of_decide_eq_true hv6];rfl
          clear hv6
          go_enter Tryz.func96,Tryz.ntmps96
          go_wp2_with fail
          refine (HI.out _ (HB.out.trans (dn.out.mono HB.out.size))).mono ?_
          rintro e v1 ⟨rfl,hb1⟩
          have cZ:=htr dn hb1
          have iU:=au ((cZ.out.block w.heap.size aJ).trans HC.out)
          clear hb1
          go_wp2_with fail
          refine (HJ.out _).mono ?_
          rintro e v2 ⟨rfl,hb2⟩
          have dA:=htr cZ hb2
          have j4:=au ((dA.out.block w.heap.size aJ).trans HC.out)
          clear hb2
          go_wp2_with fail
          refine (HO.out _ (HB.out.trans (dA.out.mono HB.out.size))).mono ?_
          rintro e v3 ⟨rfl,hb3⟩
          have gq:=htr dA hb3
          have nX:=au ((gq.out.block w.heap.size aJ).trans HC.out)
          clear hb3
          go_wp2_with fail
          refine (HW.out _ (HB.out.trans (gq.out.mono HB.out.size))).mono ?_
          rintro e v4 ⟨rfl,hb4⟩
          have iR:=htr gq hb4
          have u7:=au ((iR.out.block w.heap.size aJ).trans HC.out)
          clear hb4
          go_wp2_with fail
          refine (HG.out _ (HB.out.trans (iR.out.mono HB.out.size))).mono ?_
          rintro e v5 ⟨rfl,hb5⟩
          have kN:=htr iR hb5
          have AQ:=au ((kN.out.block w.heap.size aJ).trans HC.out)
          clear hb5
          go_wp2_with fail
          refine (HD.out _ (HB.out.trans (kN.out.mono HB.out.size))).mono ?_
          rintro e v6 ⟨rfl,hb6⟩
          have rT:=htr kN hb6
          have I7:=au ((rT.out.block w.heap.size aJ).trans HC.out)
          clear hb6
          go_wp2
          go_ret
          exact⟨rfl,HB.out.trans (rT.out.mono HB.out.size)⟩
         |
          false =>
          rw[aaz]
          have g8:((n8:Int)==1)=false:=by have:=of_decide_eq_false hv6;rw[aai];omega
          clear hv6
          go_enter Tryz.func96,Tryz.ntmps96
          go_wp2_with fail
          refine (HI.out _ (HB.out.trans (dn.out.mono HB.out.size))).mono ?_
          rintro e v1 ⟨rfl,hb1⟩
          have cZ:=htr dn hb1
          have iU:=au ((cZ.out.block w.heap.size aJ).trans HC.out)
          clear hb1
          go_wp2_with fail
          refine (HJ.out _).mono ?_
          rintro e v2 ⟨rfl,hb2⟩
          have dA:=htr cZ hb2
          have j4:=au ((dA.out.block w.heap.size aJ).trans HC.out)
          clear hb2
          go_wp2_with fail
          refine (HO.out _ (HB.out.trans (dA.out.mono HB.out.size))).mono ?_
          rintro e v3 ⟨rfl,hb3⟩
          have gq:=htr dA hb3
          have nX:=au ((gq.out.block w.heap.size aJ).trans HC.out)
          clear hb3
          go_wp2_with fail
          refine (HW.out _ (HB.out.trans (gq.out.mono HB.out.size))).mono ?_
          rintro e v4 ⟨rfl,hb4⟩
          have iR:=htr gq hb4
          have u7:=au ((iR.out.block w.heap.size aJ).trans HC.out)
          clear hb4
          go_wp2_with fail
          refine (HG.out _ (HB.out.trans (iR.out.mono HB.out.size))).mono ?_
          rintro e v5 ⟨rfl,hb5⟩
          have kN:=htr iR hb5
          have AQ:=au ((kN.out.block w.heap.size aJ).trans HC.out)
          clear hb5
          go_wp2_with fail
          refine (HD.out _ (HB.out.trans (kN.out.mono HB.out.size))).mono ?_
          rintro e v6 ⟨rfl,hb6⟩
          have rT:=htr kN hb6
          have I7:=au ((rT.out.block w.heap.size aJ).trans HC.out)
          clear hb6
          go_wp2
          go_ret
          exact⟨rfl,HB.out.trans (rT.out.mono HB.out.size)⟩
        |
         false =>
         rw[aaz]
         rw[hv5] at HD
         clear hv5
         go_enter Tryz.func96,Tryz.ntmps96
         go_wp2_with fail
         refine (HI.out _ (HB.out.trans (dn.out.mono HB.out.size))).mono ?_
         rintro e v1 ⟨rfl,hb1⟩
         have cZ:=htr dn hb1
         have iU:=au ((cZ.out.block w.heap.size aJ).trans HC.out)
         clear hb1
         go_wp2_with fail
         refine (HJ.out _).mono ?_
         rintro e v2 ⟨rfl,hb2⟩
         have dA:=htr cZ hb2
         have j4:=au ((dA.out.block w.heap.size aJ).trans HC.out)
         clear hb2
         go_wp2_with fail
         refine (HO.out _ (HB.out.trans (dA.out.mono HB.out.size))).mono ?_
         rintro e v3 ⟨rfl,hb3⟩
         have gq:=htr dA hb3
         have nX:=au ((gq.out.block w.heap.size aJ).trans HC.out)
         clear hb3
         go_wp2_with fail
         refine (HW.out _ (HB.out.trans (gq.out.mono HB.out.size))).mono ?_
         rintro e v4 ⟨rfl,hb4⟩
         have iR:=htr gq hb4
         have u7:=au ((iR.out.block w.heap.size aJ).trans HC.out)
         clear hb4
         go_wp2_with fail
         refine (HG.out _ (HB.out.trans (iR.out.mono HB.out.size))).mono ?_
         rintro e v5 ⟨rfl,hb5⟩
         have kN:=htr iR hb5
         have AQ:=au ((kN.out.block w.heap.size aJ).trans HC.out)
         clear hb5
         go_wp2_with fail
         refine (HD.out _ (HB.out.trans (kN.out.mono HB.out.size))).mono ?_
         rintro e v6 ⟨rfl,hb6⟩
         have rT:=htr kN hb6
         have I7:=au ((rT.out.block w.heap.size aJ).trans HC.out)
         clear hb6
         go_wp2
         go_ret
         exact⟨rfl,HB.out.trans (rT.out.mono HB.out.size)⟩
       |
        false =>
        rw[aaz]
        rw[hv4] at HG
        clear hv4
        go_enter Tryz.func96,Tryz.ntmps96
        go_wp2_with fail
        refine (HI.out _ (HB.out.trans (dn.out.mono HB.out.size))).mono ?_
        rintro e v1 ⟨rfl,hb1⟩
        have cZ:=htr dn hb1
        have iU:=au ((cZ.out.block w.heap.size aJ).trans HC.out)
        clear hb1
        go_wp2_with fail
        refine (HJ.out _).mono ?_
        rintro e v2 ⟨rfl,hb2⟩
        have dA:=htr cZ hb2
        have j4:=au ((dA.out.block w.heap.size aJ).trans HC.out)
        clear hb2
        go_wp2_with fail
        refine (HO.out _ (HB.out.trans (dA.out.mono HB.out.size))).mono ?_
        rintro e v3 ⟨rfl,hb3⟩
        have gq:=htr dA hb3
        have nX:=au ((gq.out.block w.heap.size aJ).trans HC.out)
        clear hb3
        go_wp2_with fail
        refine (HW.out _ (HB.out.trans (gq.out.mono HB.out.size))).mono ?_
        rintro e v4 ⟨rfl,hb4⟩
        have iR:=htr gq hb4
        have u7:=au ((iR.out.block w.heap.size aJ).trans HC.out)
        clear hb4
        go_wp2_with fail
        refine (HG.out _ (HB.out.trans (iR.out.mono HB.out.size))).mono ?_
        rintro e v5 ⟨rfl,hb5⟩
        have kN:=htr iR hb5
        have AQ:=au ((kN.out.block w.heap.size aJ).trans HC.out)
        clear hb5
        go_wp2
        go_ret
        exact⟨rfl,HB.out.trans (kN.out.mono HB.out.size)⟩
      |
       false =>
       rw[aaz]
       rw[hv3] at HW
       clear hv3
       go_enter Tryz.func96,Tryz.ntmps96
       go_wp2_with fail
       refine (HI.out _ (HB.out.trans (dn.out.mono HB.out.size))).mono ?_
       rintro e v1 ⟨rfl,hb1⟩
       have cZ:=htr dn hb1
       have iU:=au ((cZ.out.block w.heap.size aJ).trans HC.out)
       clear hb1
       go_wp2_with fail
       refine (HJ.out _).mono ?_
       rintro e v2 ⟨rfl,hb2⟩
       have dA:=htr cZ hb2
       have j4:=au ((dA.out.block w.heap.size aJ).trans HC.out)
       clear hb2
       go_wp2_with fail
       refine (HO.out _ (HB.out.trans (dA.out.mono HB.out.size))).mono ?_
       rintro e v3 ⟨rfl,hb3⟩
       have gq:=htr dA hb3
       have nX:=au ((gq.out.block w.heap.size aJ).trans HC.out)
       clear hb3
       go_wp2_with fail
       refine (HW.out _ (HB.out.trans (gq.out.mono HB.out.size))).mono ?_
       rintro e v4 ⟨rfl,hb4⟩
       have iR:=htr gq hb4
       have u7:=au ((iR.out.block w.heap.size aJ).trans HC.out)
       clear hb4
       go_wp2
       go_ret
       exact⟨rfl,HB.out.trans (iR.out.mono HB.out.size)⟩
     |
      false =>
      rw[aaz]
      rw[hv2] at HO
      clear hv2
      go_enter Tryz.func96,Tryz.ntmps96
      go_wp2_with fail
      refine (HI.out _ (HB.out.trans (dn.out.mono HB.out.size))).mono ?_
      rintro e v1 ⟨rfl,hb1⟩
      have cZ:=htr dn hb1
      have iU:=au ((cZ.out.block w.heap.size aJ).trans HC.out)
      clear hb1
      go_wp2_with fail
      refine (HJ.out _).mono ?_
      rintro e v2 ⟨rfl,hb2⟩
      have dA:=htr cZ hb2
      have j4:=au ((dA.out.block w.heap.size aJ).trans HC.out)
      clear hb2
      go_wp2_with fail
      refine (HO.out _ (HB.out.trans (dA.out.mono HB.out.size))).mono ?_
      rintro e v3 ⟨rfl,hb3⟩
      have gq:=htr dA hb3
      have nX:=au ((gq.out.block w.heap.size aJ).trans HC.out)
      clear hb3
      go_wp2
      go_ret
      exact⟨rfl,HB.out.trans (gq.out.mono HB.out.size)⟩
    |
     false =>
     rw[aaz]
     rw[hv1] at HJ
     clear hv1
     go_enter Tryz.func96,Tryz.ntmps96
     go_wp2_with fail
     refine (HI.out _ (HB.out.trans (dn.out.mono HB.out.size))).mono ?_
     rintro e v1 ⟨rfl,hb1⟩
     have cZ:=htr dn hb1
     have iU:=au ((cZ.out.block w.heap.size aJ).trans HC.out)
     clear hb1
     go_wp2_with fail
     refine (HJ.out _).mono ?_
     rintro e v2 ⟨rfl,hb2⟩
     have dA:=htr cZ hb2
     have j4:=au ((dA.out.block w.heap.size aJ).trans HC.out)
     clear hb2
     go_wp2
     go_ret
     exact⟨rfl,HB.out.trans (dA.out.mono HB.out.size)⟩
   |
    false =>
    rw[aaz]
    rw[hv0] at HI
    clear hv0
    go_enter Tryz.func96,Tryz.ntmps96
    go_wp2_with fail
    refine (HI.out _ (HB.out.trans (dn.out.mono HB.out.size))).mono ?_
    rintro e v1 ⟨rfl,hb1⟩
    have cZ:=htr dn hb1
    have iU:=au ((cZ.out.block w.heap.size aJ).trans HC.out)
    clear hb1
    go_wp2
    go_ret
    exact⟨rfl,HB.out.trans (cZ.out.mono HB.out.size)⟩
 ·have hjn:gB jn=1:=if_neg hj
  rw[aaj hj] at hej
  rw[hjn] at HO ⊢
  clear hj hjn
  generalize aR on 1 1 aF=BO at HO ⊢
  have HO:Hid (∀V,Below w.heap.size w V→Calls Tryz.prog 95 #[.slice a5 n5 c5,.int .i64 1,.int .i64 1,.func (.func 82) #[] #[]] V fun e w'=>e = .returned (.bool BO)∧Below V.heap.size V w'):=hid HO.out
  cases desc with
  |
   false =>
   simp only[Bool.not_false,Bool.true_or,aaA]
   obtain⟨W,hW,hbW,aJ,hcW⟩:=aK w (.cells #[.int .i64 k,.string (aj tn),.slice a1 n1 c1,.string (aj aD),.slice a2 n2 c2,.slice a3 n3 c3,.slice a4 n4 c4,.string (aj jn),.slice a5 n5 c5,.slice a6 n6 c6,.slice a7 n7 c7,.slice a8 n8 c8,.bool false,.int .i64 lim] 29)
   have k0:=au hcW
   have HB:=hid hbW
   have HC:=hid hcW
   have dn:=hid (Below.refl W.heap.size W)
   clear hbW hcW
   cases hv0:BI with
   |
    true =>
    rw[aaA]
    rw[hv0] at HI
    clear hv0
    cases hv1:BJ with
    |
     true =>
     rw[aaA]
     rw[hv1] at HJ
     clear hv1
     cases hv2:BO with
     |
      true =>
      rw[aaA]
      rw[hv2] at HO
      clear hv2
      cases hv3:BW with
      |
       true =>
       rw[aaA]
       rw[hv3] at HW
       clear hv3
       cases hv4:BG with
       |
        true =>
        rw[aaA]
        rw[hv4] at HG
        clear hv4
        cases hv5:BD with
        |
         true =>
         rw[aaA]
         rw[hv5] at HD
         clear hv5
         go_enter Tryz.func96,Tryz.ntmps96
         go_wp2_with fail
         refine (HI.out _ (HB.out.trans (dn.out.mono HB.out.size))).mono ?_
         rintro e v1 ⟨rfl,hb1⟩
         have cZ:=htr dn hb1
         have iU:=au ((cZ.out.block w.heap.size aJ).trans HC.out)
         clear hb1
         go_wp2_with fail
         refine (HJ.out _).mono ?_
         rintro e v2 ⟨rfl,hb2⟩
         have dA:=htr cZ hb2
         have j4:=au ((dA.out.block w.heap.size aJ).trans HC.out)
         clear hb2
         go_wp2_with fail
         refine (HO.out _ (HB.out.trans (dA.out.mono HB.out.size))).mono ?_
         rintro e v3 ⟨rfl,hb3⟩
         have gq:=htr dA hb3
         have nX:=au ((gq.out.block w.heap.size aJ).trans HC.out)
         clear hb3
         go_wp2_with fail
         refine (HW.out _ (HB.out.trans (gq.out.mono HB.out.size))).mono ?_
         rintro e v4 ⟨rfl,hb4⟩
         have iR:=htr gq hb4
         have u7:=au ((iR.out.block w.heap.size aJ).trans HC.out)
         clear hb4
         go_wp2_with fail
         refine (HG.out _ (HB.out.trans (iR.out.mono HB.out.size))).mono ?_
         rintro e v5 ⟨rfl,hb5⟩
         have kN:=htr iR hb5
         have AQ:=au ((kN.out.block w.heap.size aJ).trans HC.out)
         clear hb5
         go_wp2_with fail
         refine (HD.out _ (HB.out.trans (kN.out.mono HB.out.size))).mono ?_
         rintro e v6 ⟨rfl,hb6⟩
         have rT:=htr kN hb6
         have I7:=au ((rT.out.block w.heap.size aJ).trans HC.out)
         clear hb6
         go_wp2
         go_ret
         exact⟨rfl,HB.out.trans (rT.out.mono HB.out.size)⟩
        |
         false =>
         rw[aaz]
         rw[hv5] at HD
         clear hv5
         go_enter Tryz.func96,Tryz.ntmps96
         go_wp2_with fail
         refine (HI.out _ (HB.out.trans (dn.out.mono HB.out.size))).mono ?_
         rintro e v1 ⟨rfl,hb1⟩
         have cZ:=htr dn hb1
         have iU:=au ((cZ.out.block w.heap.size aJ).trans HC.out)
         clear hb1
         go_wp2_with fail
         refine (HJ.out _).mono ?_
         rintro e v2 ⟨rfl,hb2⟩
         have dA:=htr cZ hb2
         have j4:=au ((dA.out.block w.heap.size aJ).trans HC.out)
         clear hb2
         go_wp2_with fail
         refine (HO.out _ (HB.out.trans (dA.out.mono HB.out.size))).mono ?_
         rintro e v3 ⟨rfl,hb3⟩
         have gq:=htr dA hb3
         have nX:=au ((gq.out.block w.heap.size aJ).trans HC.out)
         clear hb3
         go_wp2_with fail
         refine (HW.out _ (HB.out.trans (gq.out.mono HB.out.size))).mono ?_
         rintro e v4 ⟨rfl,hb4⟩
         have iR:=htr gq hb4
         have u7:=au ((iR.out.block w.heap.size aJ).trans HC.out)
         clear hb4
         go_wp2_with fail
         refine (HG.out _ (HB.out.trans (iR.out.mono HB.out.size))).mono ?_
         rintro e v5 ⟨rfl,hb5⟩
         have kN:=htr iR hb5
         have AQ:=au ((kN.out.block w.heap.size aJ).trans HC.out)
         clear hb5
         go_wp2_with fail
         refine (HD.out _ (HB.out.trans (kN.out.mono HB.out.size))).mono ?_
         rintro e v6 ⟨rfl,hb6⟩
         have rT:=htr kN hb6
         have I7:=au ((rT.out.block w.heap.size aJ).trans HC.out)
         clear hb6
         go_wp2
         go_ret
         exact⟨rfl,HB.out.trans (rT.out.mono HB.out.size)⟩
       |
        false =>
        rw[aaz]
        rw[hv4] at HG
        clear hv4
        go_enter Tryz.func96,Tryz.ntmps96
        go_wp2_with fail
        refine (HI.out _ (HB.out.trans (dn.out.mono HB.out.size))).mono ?_
        rintro e v1 ⟨rfl,hb1⟩
        have cZ:=htr dn hb1
        have iU:=au ((cZ.out.block w.heap.size aJ).trans HC.out)
        clear hb1
        go_wp2_with fail
        refine (HJ.out _).mono ?_
        rintro e v2 ⟨rfl,hb2⟩
        have dA:=htr cZ hb2
        have j4:=au ((dA.out.block w.heap.size aJ).trans HC.out)
        clear hb2
        go_wp2_with fail
        refine (HO.out _ (HB.out.trans (dA.out.mono HB.out.size))).mono ?_
        rintro e v3 ⟨rfl,hb3⟩
        have gq:=htr dA hb3
        have nX:=au ((gq.out.block w.heap.size aJ).trans HC.out)
        clear hb3
        go_wp2_with fail
        refine (HW.out _ (HB.out.trans (gq.out.mono HB.out.size))).mono ?_
        rintro e v4 ⟨rfl,hb4⟩
        have iR:=htr gq hb4
        have u7:=au ((iR.out.block w.heap.size aJ).trans HC.out)
        clear hb4
        go_wp2_with fail
        refine (HG.out _ (HB.out.trans (iR.out.mono HB.out.size))).mono ?_
        rintro e v5 ⟨rfl,hb5⟩
        have kN:=htr iR hb5
        have AQ:=au ((kN.out.block w.heap.size aJ).trans HC.out)
        clear hb5
        go_wp2
        go_ret
        exact⟨rfl,HB.out.trans (kN.out.mono HB.out.size)⟩
      |
       false =>
       rw[aaz]
       rw[hv3] at HW
       clear hv3
       go_enter Tryz.func96,Tryz.ntmps96
       go_wp2_with fail
       refine (HI.out _ (HB.out.trans (dn.out.mono HB.out.size))).mono ?_
       rintro e v1 ⟨rfl,hb1⟩
       have cZ:=htr dn hb1
       have iU:=au ((cZ.out.block w.heap.size aJ).trans HC.out)
       clear hb1
       go_wp2_with fail
       refine (HJ.out _).mono ?_
       rintro e v2 ⟨rfl,hb2⟩
       have dA:=htr cZ hb2
       have j4:=au ((dA.out.block w.heap.size aJ).trans HC.out)
       clear hb2
       go_wp2_with fail
       refine (HO.out _ (HB.out.trans (dA.out.mono HB.out.size))).mono ?_
       rintro e v3 ⟨rfl,hb3⟩
       have gq:=htr dA hb3
       have nX:=au ((gq.out.block w.heap.size aJ).trans HC.out)
       clear hb3
       go_wp2_with fail
       refine (HW.out _ (HB.out.trans (gq.out.mono HB.out.size))).mono ?_
       rintro e v4 ⟨rfl,hb4⟩
       have iR:=htr gq hb4
       have u7:=au ((iR.out.block w.heap.size aJ).trans HC.out)
       clear hb4
       go_wp2
       go_ret
       exact⟨rfl,HB.out.trans (iR.out.mono HB.out.size)⟩
     |
      false =>
      rw[aaz]
      rw[hv2] at HO
      clear hv2
      go_enter Tryz.func96,Tryz.ntmps96
      go_wp2_with fail
      refine (HI.out _ (HB.out.trans (dn.out.mono HB.out.size))).mono ?_
      rintro e v1 ⟨rfl,hb1⟩
      have cZ:=htr dn hb1
      have iU:=au ((cZ.out.block w.heap.size aJ).trans HC.out)
      clear hb1
      go_wp2_with fail
      refine (HJ.out _).mono ?_
      rintro e v2 ⟨rfl,hb2⟩
      have dA:=htr cZ hb2
      have j4:=au ((dA.out.block w.heap.size aJ).trans HC.out)
      clear hb2
      go_wp2_with fail
      refine (HO.out _ (HB.out.trans (dA.out.mono HB.out.size))).mono ?_
      rintro e v3 ⟨rfl,hb3⟩
      have gq:=htr dA hb3
      have nX:=au ((gq.out.block w.heap.size aJ).trans HC.out)
      clear hb3
      go_wp2
      go_ret
      exact⟨rfl,HB.out.trans (gq.out.mono HB.out.size)⟩
    |
     false =>
     rw[aaz]
     rw[hv1] at HJ
     clear hv1
     go_enter Tryz.func96,Tryz.ntmps96
     go_wp2_with fail
     refine (HI.out _ (HB.out.trans (dn.out.mono HB.out.size))).mono ?_
     rintro e v1 ⟨rfl,hb1⟩
     have cZ:=htr dn hb1
     have iU:=au ((cZ.out.block w.heap.size aJ).trans HC.out)
     clear hb1
     go_wp2_with fail
     refine (HJ.out _).mono ?_
     rintro e v2 ⟨rfl,hb2⟩
     have dA:=htr cZ hb2
     have j4:=au ((dA.out.block w.heap.size aJ).trans HC.out)
     clear hb2
     go_wp2
     go_ret
     exact⟨rfl,HB.out.trans (dA.out.mono HB.out.size)⟩
   |
    false =>
    rw[aaz]
    rw[hv0] at HI
    clear hv0
    go_enter Tryz.func96,Tryz.ntmps96
    go_wp2_with fail
    refine (HI.out _ (HB.out.trans (dn.out.mono HB.out.size))).mono ?_
    rintro e v1 ⟨rfl,hb1⟩
    have cZ:=htr dn hb1
    have iU:=au ((cZ.out.block w.heap.size aJ).trans HC.out)
    clear hb1
    go_wp2
    go_ret
    exact⟨rfl,HB.out.trans (cZ.out.mono HB.out.size)⟩
  |
   true =>
   simp only[Bool.not_true,Bool.false_or]
   obtain⟨W,hW,hbW,aJ,hcW⟩:=aK w (.cells #[.int .i64 k,.string (aj tn),.slice a1 n1 c1,.string (aj aD),.slice a2 n2 c2,.slice a3 n3 c3,.slice a4 n4 c4,.string (aj jn),.slice a5 n5 c5,.slice a6 n6 c6,.slice a7 n7 c7,.slice a8 n8 c8,.bool true,.int .i64 lim] 29)
   have k0:=au hcW
   have HB:=hid hbW
   have HC:=hid hcW
   have dn:=hid (Below.refl W.heap.size W)
   clear hbW hcW
   cases hv0:BI with
   |
    true =>
    rw[aaA]
    rw[hv0] at HI
    clear hv0
    cases hv1:BJ with
    |
     true =>
     rw[aaA]
     rw[hv1] at HJ
     clear hv1
     cases hv2:BO with
     |
      true =>
      rw[aaA]
      rw[hv2] at HO
      clear hv2
      cases hv3:BW with
      |
       true =>
       rw[aaA]
       rw[hv3] at HW
       clear hv3
       cases hv4:BG with
       |
        true =>
        rw[aaA]
        rw[hv4] at HG
        clear hv4
        cases hv5:BD with
        |
         true =>
         rw[aaA]
         rw[hv5] at HD
         clear hv5
         cases hv6:decide (n8=1) with
         |
          true =>
          rw[aaA]
          have g8:((n8:Int)==1)=true:=by rw[of_decide_eq_true hv6];rfl
          clear hv6
          go_enter Tryz.func96,Tryz.ntmps96
          go_wp2_with fail
          refine (HI.out _ (HB.out.trans (dn.out.mono HB.out.size))).mono ?_
          rintro e v1 ⟨rfl,hb1⟩
          have cZ:=htr dn hb1
          have iU:=au ((cZ.out.block w.heap.size aJ).trans HC.out)
          clear hb1
          go_wp2_with fail
          refine (HJ.out _).mono ?_
          rintro e v2 ⟨rfl,hb2⟩
          have dA:=htr cZ hb2
          have j4:=au ((dA.out.block w.heap.size aJ).trans HC.out)
          clear hb2
          go_wp2_with fail
          refine (HO.out _ (HB.out.trans (dA.out.mono HB.out.size))).mono ?_
          rintro e v3 ⟨rfl,hb3⟩
          have gq:=htr dA hb3
          have nX:=au ((gq.out.block w.heap.size aJ).trans HC.out)
          clear hb3
          go_wp2_with fail
          refine (HW.out _ (HB.out.trans (gq.out.mono HB.out.size))).mono ?_
          rintro e v4 ⟨rfl,hb4⟩
          have iR:=htr gq hb4
          have u7:=au ((iR.out.block w.heap.size aJ).trans HC.out)
          clear hb4
          go_wp2_with fail
          refine (HG.out _ (HB.out.trans (iR.out.mono HB.out.size))).mono ?_
          rintro e v5 ⟨rfl,hb5⟩
          have kN:=htr iR hb5
          have AQ:=au ((kN.out.block w.heap.size aJ).trans HC.out)
          clear hb5
          go_wp2_with fail
          refine (HD.out _ (HB.out.trans (kN.out.mono HB.out.size))).mono ?_
          rintro e v6 ⟨rfl,hb6⟩
          have rT:=htr kN hb6
          have I7:=au ((rT.out.block w.heap.size aJ).trans HC.out)
          clear hb6
          go_wp2
          go_ret
          exact⟨rfl,HB.out.trans (rT.out.mono HB.out.size)⟩
         |
          false =>
          rw[aaz]
          have g8:((n8:Int)==1)=false:=by have:=of_decide_eq_false hv6;rw[aai];omega
          clear hv6
          go_enter Tryz.func96,Tryz.ntmps96
          go_wp2_with fail
          refine (HI.out _ (HB.out.trans (dn.out.mono HB.out.size))).mono ?_
          rintro e v1 ⟨rfl,hb1⟩
          have cZ:=htr dn hb1
          have iU:=au ((cZ.out.block w.heap.size aJ).trans HC.out)
          clear hb1
          go_wp2_with fail
          refine (HJ.out _).mono ?_
          rintro e v2 ⟨rfl,hb2⟩
          have dA:=htr cZ hb2
          have j4:=au ((dA.out.block w.heap.size aJ).trans HC.out)
          clear hb2
          go_wp2_with fail
          refine (HO.out _ (HB.out.trans (dA.out.mono HB.out.size))).mono ?_
          rintro e v3 ⟨rfl,hb3⟩
          have gq:=htr dA hb3
          have nX:=au ((gq.out.block w.heap.size aJ).trans HC.out)
          clear hb3
          go_wp2_with fail
          refine (HW.out _ (HB.out.trans (gq.out.mono HB.out.size))).mono ?_
          rintro e v4 ⟨rfl,hb4⟩
          have iR:=htr gq hb4
          have u7:=au ((iR.out.block w.heap.size aJ).trans HC.out)
          clear hb4
          go_wp2_with fail
          refine (HG.out _ (HB.out.trans (iR.out.mono HB.out.size))).mono ?_
          rintro e v5 ⟨rfl,hb5⟩
          have kN:=htr iR hb5
          have AQ:=au ((kN.out.block w.heap.size aJ).trans HC.out)
          clear hb5
          go_wp2_with fail
          refine (HD.out _ (HB.out.trans (kN.out.mono HB.out.size))).mono ?_
          rintro e v6 ⟨rfl,hb6⟩
          have rT:=htr kN hb6
          have I7:=au ((rT.out.block w.heap.size aJ).trans HC.out)
          clear hb6
          go_wp2
          go_ret
          exact⟨rfl,HB.out.trans (rT.out.mono HB.out.size)⟩
        |
         false =>
         rw[aaz]
         rw[hv5] at HD
         clear hv5
         go_enter Tryz.func96,Tryz.ntmps96
         go_wp2_with fail
         refine (HI.out _ (HB.out.trans (dn.out.mono HB.out.size))).mono ?_
         rintro e v1 ⟨rfl,hb1⟩
         have cZ:=htr dn hb1
         have iU:=au ((cZ.out.block w.heap.size aJ).trans HC.out)
         clear hb1
         go_wp2_with fail
         refine (HJ.out _).mono ?_
         rintro e v2 ⟨rfl,hb2⟩
         have dA:=htr cZ hb2
         have j4:=au ((dA.out.block w.heap.size aJ).trans HC.out)
         clear hb2
         go_wp2_with fail
         refine (HO.out _ (HB.out.trans (dA.out.mono HB.out.size))).mono ?_
         rintro e v3 ⟨rfl,hb3⟩
         have gq:=htr dA hb3
         have nX:=au ((gq.out.block w.heap.size aJ).trans HC.out)
         clear hb3
         go_wp2_with fail
         refine (HW.out _ (HB.out.trans (gq.out.mono HB.out.size))).mono ?_
         rintro e v4 ⟨rfl,hb4⟩
         have iR:=htr gq hb4
         have u7:=au ((iR.out.block w.heap.size aJ).trans HC.out)
         clear hb4
         go_wp2_with fail
         refine (HG.out _ (HB.out.trans (iR.out.mono HB.out.size))).mono ?_
         rintro e v5 ⟨rfl,hb5⟩
         have kN:=htr iR hb5
         have AQ:=au ((kN.out.block w.heap.size aJ).trans HC.out)
         clear hb5
         go_wp2_with fail
         refine (HD.out _ (HB.out.trans (kN.out.mono HB.out.size))).mono ?_
         rintro e v6 ⟨rfl,hb6⟩
         have rT:=htr kN hb6
         have I7:=au ((rT.out.block w.heap.size aJ).trans HC.out)
         clear hb6
         go_wp2
         go_ret
         exact⟨rfl,HB.out.trans (rT.out.mono HB.out.size)⟩
       |
        false =>
        rw[aaz]
        rw[hv4] at HG
        clear hv4
        go_enter Tryz.func96,Tryz.ntmps96
        go_wp2_with fail
        refine (HI.out _ (HB.out.trans (dn.out.mono HB.out.size))).mono ?_
        rintro e v1 ⟨rfl,hb1⟩
        have cZ:=htr dn hb1
        have iU:=au ((cZ.out.block w.heap.size aJ).trans HC.out)
        clear hb1
        go_wp2_with fail
        refine (HJ.out _).mono ?_
        rintro e v2 ⟨rfl,hb2⟩
        have dA:=htr cZ hb2
        have j4:=au ((dA.out.block w.heap.size aJ).trans HC.out)
        clear hb2
        go_wp2_with fail
        refine (HO.out _ (HB.out.trans (dA.out.mono HB.out.size))).mono ?_
        rintro e v3 ⟨rfl,hb3⟩
        have gq:=htr dA hb3
        have nX:=au ((gq.out.block w.heap.size aJ).trans HC.out)
        clear hb3
        go_wp2_with fail
        refine (HW.out _ (HB.out.trans (gq.out.mono HB.out.size))).mono ?_
        rintro e v4 ⟨rfl,hb4⟩
        have iR:=htr gq hb4
        have u7:=au ((iR.out.block w.heap.size aJ).trans HC.out)
        clear hb4
        go_wp2_with fail
        refine (HG.out _ (HB.out.trans (iR.out.mono HB.out.size))).mono ?_
        rintro e v5 ⟨rfl,hb5⟩
        have kN:=htr iR hb5
        have AQ:=au ((kN.out.block w.heap.size aJ).trans HC.out)
        clear hb5
        go_wp2
        go_ret
        exact⟨rfl,HB.out.trans (kN.out.mono HB.out.size)⟩
      |
       false =>
       rw[aaz]
       rw[hv3] at HW
       clear hv3
       go_enter Tryz.func96,Tryz.ntmps96
       go_wp2_with fail
       refine (HI.out _ (HB.out.trans (dn.out.mono HB.out.size))).mono ?_
       rintro e v1 ⟨rfl,hb1⟩
       have cZ:=htr dn hb1
       have iU:=au ((cZ.out.block w.heap.size aJ).trans HC.out)
       clear hb1
       go_wp2_with fail
       refine (HJ.out _).mono ?_
       rintro e v2 ⟨rfl,hb2⟩
       have dA:=htr cZ hb2
       have j4:=au ((dA.out.block w.heap.size aJ).trans HC.out)
       clear hb2
       go_wp2_with fail
       refine (HO.out _ (HB.out.trans (dA.out.mono HB.out.size))).mono ?_
       rintro e v3 ⟨rfl,hb3⟩
       have gq:=htr dA hb3
       have nX:=au ((gq.out.block w.heap.size aJ).trans HC.out)
       clear hb3
       go_wp2_with fail
       refine (HW.out _ (HB.out.trans (gq.out.mono HB.out.size))).mono ?_
       rintro e v4 ⟨rfl,hb4⟩
       have iR:=htr gq hb4
       have u7:=au ((iR.out.block w.heap.size aJ).trans HC.out)
       clear hb4
       go_wp2
       go_ret
       exact⟨rfl,HB.out.trans (iR.out.mono HB.out.size)⟩
     |
      false =>
      rw[aaz]
      rw[hv2] at HO
      clear hv2
      go_enter Tryz.func96,Tryz.ntmps96
      go_wp2_with fail
      refine (HI.out _ (HB.out.trans (dn.out.mono HB.out.size))).mono ?_
      rintro e v1 ⟨rfl,hb1⟩
      have cZ:=htr dn hb1
      have iU:=au ((cZ.out.block w.heap.size aJ).trans HC.out)
      clear hb1
      go_wp2_with fail
      refine (HJ.out _).mono ?_
      rintro e v2 ⟨rfl,hb2⟩
      have dA:=htr cZ hb2
      have j4:=au ((dA.out.block w.heap.size aJ).trans HC.out)
      clear hb2
      go_wp2_with fail
      refine (HO.out _ (HB.out.trans (dA.out.mono HB.out.size))).mono ?_
      rintro e v3 ⟨rfl,hb3⟩
      have gq:=htr dA hb3
      have nX:=au ((gq.out.block w.heap.size aJ).trans HC.out)
      clear hb3
      go_wp2
      go_ret
      exact⟨rfl,HB.out.trans (gq.out.mono HB.out.size)⟩
    |
     false =>
     rw[aaz]
     rw[hv1] at HJ
     clear hv1
     go_enter Tryz.func96,Tryz.ntmps96
     go_wp2_with fail
     refine (HI.out _ (HB.out.trans (dn.out.mono HB.out.size))).mono ?_
     rintro e v1 ⟨rfl,hb1⟩
     have cZ:=htr dn hb1
     have iU:=au ((cZ.out.block w.heap.size aJ).trans HC.out)
     clear hb1
     go_wp2_with fail
     refine (HJ.out _).mono ?_
     rintro e v2 ⟨rfl,hb2⟩
     have dA:=htr cZ hb2
     have j4:=au ((dA.out.block w.heap.size aJ).trans HC.out)
     clear hb2
     go_wp2
     go_ret
     exact⟨rfl,HB.out.trans (dA.out.mono HB.out.size)⟩
   |
    false =>
    rw[aaz]
    rw[hv0] at HI
    clear hv0
    go_enter Tryz.func96,Tryz.ntmps96
    go_wp2_with fail
    refine (HI.out _ (HB.out.trans (dn.out.mono HB.out.size))).mono ?_
    rintro e v1 ⟨rfl,hb1⟩
    have cZ:=htr dn hb1
    have iU:=au ((cZ.out.block w.heap.size aJ).trans HC.out)
    clear hb1
    go_wp2
    go_ret
    exact⟨rfl,HB.out.trans (cZ.out.mono HB.out.size)⟩
end Go.Proofs.YtfeglkleoijlaaaGreatDoor
