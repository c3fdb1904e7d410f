/- Packed for the hand-in: WName -/
import Derived.Test.YtfeglkleoijlaaaGreatDoorZ06
import Derived.Deep.RegionHeld3
import Derived.BigQuiet
namespace Go.Proofs.YtfeglkleoijlaaaGreatDoor
open Go.RowKit Go.Shelf
set_option linter.unusedSimpArgs false
set_option linter.unusedVariables false
set_option maxRecDepth 20000
set_option maxHeartbeats 8000000
theorem fD (s:List UInt8) (w:World) (hs:s.length≤9223372036854775807) :
  Calls Tryz.prog 90 #[.string (aj s)] w fun e w'=>e = .returned (.bool (bC s))∧Below w.heap.size w w':=by
 have hsz:(aj s).size=s.length:=rfl
 have HD:Hid (Below w.heap.size w w.drew):=hid (Below.refl _ w).drew
 by_cases h0:0<s.length
 ·by_cases h16:s.length≤16
  ·obtain⟨c,r,rfl⟩:∃c r,s=c::r:=by
    cases s with
    | nil=>simp at h0
    | cons c r=>exact⟨c,r,rfl⟩
   have hix : ∀W,(Instr.index 9 (.string (aj (c::r))) (.int .i64 0)).run Tryz.prog W = .ok (.int .u8 (c.toNat:Int)) W:=fun W=>uF (c::r) 0 c rfl W
   have HO:Hid (∀w,Calls Tryz.prog 138 #[.string ⟨#[97,98,99,100,101,102,103,104,105,106,107,108,109,110,111,112,113,114,115,116,117,118,119,120,121,122,95]⟩] w fun e w'=>(e = .returned (.func (.func 164) #[] #[.pointer (some ⟨w.heap.size,0,none⟩)])∧lg 164 #[.pointer (some ⟨w.heap.size,0,none⟩)] (bT dX) w')∧Below w.heap.size w w'):=hid (fun w=>nN dX w)
   have HO2:Hid (∀w,Calls Tryz.prog 138 #[.string ⟨#[97,98,99,100,101,102,103,104,105,106,107,108,109,110,111,112,113,114,115,116,117,118,119,120,121,122,95,48,49,50,51,52,53,54,55,56,57]⟩] w fun e w'=>(e = .returned (.func (.func 164) #[] #[.pointer (some ⟨w.heap.size,0,none⟩)])∧lg 164 #[.pointer (some ⟨w.heap.size,0,none⟩)] (bT dD) w')∧Below w.heap.size w w'):=hid (fun w=>nN dD w)
   have HW:=hid (fun B w1 hp=>yY (c::r) dD B w1 (by omega) hp)
   have hnm:bC (c::r)=(bT dX c&&((row (bT dD) (c::r):Int)==((aj (c::r)).size:Int))):=by
    unfold bC
    rw[decide_eq_true h0,decide_eq_true h16,show (c::r).headD 0=c from rfl,hsz]
    simp only[Bool.true_and]
    congr 1
    rw[Bool.eq_iff_iff,decide_eq_true_eq,beq_iff_eq]
    omega
   rw[hnm]
   clear hnm
   have hS1:0<(aj (c::r)).size:=by rw[hsz];exact h0
   have hS2:(aj (c::r)).size≤16:=by rw[hsz];exact h16
   generalize aj (c::r)=S at hix HW hS1 hS2 ⊢
   have d1:decide ((0:Int)<(S.size:Int))=true:=decide_eq_true (by omega)
   have d2:decide ((S.size:Int)≤16)=true:=decide_eq_true (by omega)
   have d3:decide (0<S.size)=true:=decide_eq_true hS1
   have d4:decide (S.size≤16)=true:=decide_eq_true hS2
   clear h0 h16 hsz hs
   cases hl:bT dX c with
   |
    true =>
    rw[Bool.true_and]
    have HL:=hid hl
    clear hl
    generalize row (bT dD) (c::r)=n at HW ⊢
    go_enter Tryz.func90,Tryz.ntmps90
    go_wp2_with fail
    go_region_held3 (fun _=>True) (first | trivial) (first
     | (
      go_at_call 138;refine (HO.out _).mono ?_;rintro e w1 ⟨⟨rfl,hp⟩,hb1⟩
      have HP1:=hid (hp w1 c (Below.refl _ _))
      rw[HL.out] at HP1
      have HD1:Hid (Below w.heap.size w w1):=hid (HD.out.trans (hb1.mono HD.out.size))
      clear hp hb1)
     | (go_at_call 164;refine HP1.out.mono ?_;rintro e w2 ⟨rfl,hw2⟩;rw[hw2])
     | (
      go_at_call 138;refine (HO2.out _).mono ?_;rintro e w3 ⟨⟨rfl,hp⟩,hb3⟩
      have HD3:Hid (Below w.heap.size w w3):=hid (HD1.out.trans (hb3.mono HD1.out.size))
      have HP3:=hid (HW.out _ w3 hp)
      clear hp hb3)
     | (go_at_call 139;refine HP3.out.mono ?_;rintro e w4 ⟨rfl,hw4⟩;rw[hw4]))
    all_goals go_wp2
    all_goals go_ret
    all_goals exact⟨rfl,HD3.out⟩
   |
    false =>
    rw[Bool.false_and]
    have HL:=hid hl
    clear hl HW HO2
    go_enter Tryz.func90,Tryz.ntmps90
    go_wp2_with fail
    refine iE (fun _:World=>True) 22 (by kernel_rfl) ?_
    have hT0:True:=trivial
    refine aI (i:=0) (v:=?_) rfl (by kernel_rfl) (by kernel_rfl) (by kernel_rfl) (by kernel_rfl) (by kernel_rfl) (fun _ _ _ h=>h) (Or.inl ⟨by rfl,?_⟩) (by assumption) ?_;rotate_left;(focus (intro w hSw;(try dsimp only at hSw);(try obtain⟨hSw1,hSw2,hSw3⟩:=hSw);go_simp<;>with_reducible rfl));(try simp only[Act.put,List.getElem_toArray,List.getElem_cons_zero,List.getElem_cons_succ,List.setIfInBounds_toArray,List.set_cons_zero,List.set_cons_succ])
    refine aI (i:=1) (v:=?_) rfl (by kernel_rfl) (by kernel_rfl) (by kernel_rfl) (by kernel_rfl) (by kernel_rfl) (fun _ _ _ h=>h) (Or.inl ⟨by rfl,?_⟩) (by assumption) ?_;rotate_left;(focus (intro w hSw;(try dsimp only at hSw);(try obtain⟨hSw1,hSw2,hSw3⟩:=hSw);go_simp<;>with_reducible rfl));(try simp only[Act.put,List.getElem_toArray,List.getElem_cons_zero,List.getElem_cons_succ,List.setIfInBounds_toArray,List.set_cons_zero,List.set_cons_succ])
    refine aI (i:=2) (v:=.bool true) rfl (by kernel_rfl) (by kernel_rfl) (by kernel_rfl) (by kernel_rfl) (by kernel_rfl) (fun _ _ _ h=>h) (Or.inl ⟨by rfl,fun W _=>by go_simp<;>simp[d1,d3]⟩) trivial ?_
    simp only[Act.put,List.getElem_toArray,List.getElem_cons_zero,List.getElem_cons_succ,List.setIfInBounds_toArray,List.set_cons_zero,List.set_cons_succ]
    refine aI (i:=3) (v:=?_) rfl (by kernel_rfl) (by kernel_rfl) (by kernel_rfl) (by kernel_rfl) (by kernel_rfl) (fun _ _ _ h=>h) (Or.inl ⟨by rfl,?_⟩) (by assumption) ?_;rotate_left;(focus (intro w hSw;(try dsimp only at hSw);(try obtain⟨hSw1,hSw2,hSw3⟩:=hSw);go_simp<;>with_reducible rfl));(try simp only[Act.put,List.getElem_toArray,List.getElem_cons_zero,List.getElem_cons_succ,List.setIfInBounds_toArray,List.set_cons_zero,List.set_cons_succ])
    refine aI (i:=4) (v:=?_) rfl (by kernel_rfl) (by kernel_rfl) (by kernel_rfl) (by kernel_rfl) (by kernel_rfl) (fun _ _ _ h=>h) (Or.inl ⟨by rfl,?_⟩) (by assumption) ?_;rotate_left;(focus (intro w hSw;(try dsimp only at hSw);(try obtain⟨hSw1,hSw2,hSw3⟩:=hSw);go_simp<;>with_reducible rfl));(try simp only[Act.put,List.getElem_toArray,List.getElem_cons_zero,List.getElem_cons_succ,List.setIfInBounds_toArray,List.set_cons_zero,List.set_cons_succ])
    refine aI (i:=5) (v:=?_) rfl (by kernel_rfl) (by kernel_rfl) (by kernel_rfl) (by kernel_rfl) (by kernel_rfl) (fun _ _ _ h=>h) (Or.inl ⟨by rfl,?_⟩) (by assumption) ?_;rotate_left;(focus (intro w hSw;(try dsimp only at hSw);(try obtain⟨hSw1,hSw2,hSw3⟩:=hSw);go_simp<;>with_reducible rfl));(try simp only[Act.put,List.getElem_toArray,List.getElem_cons_zero,List.getElem_cons_succ,List.setIfInBounds_toArray,List.set_cons_zero,List.set_cons_succ])
    refine aI (i:=6) (v:=.bool true) rfl (by kernel_rfl) (by kernel_rfl) (by kernel_rfl) (by kernel_rfl) (by kernel_rfl) (fun _ _ _ h=>h) (Or.inl ⟨by rfl,fun W _=>by go_simp<;>simp[d2,d4]⟩) trivial ?_
    simp only[Act.put,List.getElem_toArray,List.getElem_cons_zero,List.getElem_cons_succ,List.setIfInBounds_toArray,List.set_cons_zero,List.set_cons_succ]
    refine aI (i:=7) (v:=?_) rfl (by kernel_rfl) (by kernel_rfl) (by kernel_rfl) (by kernel_rfl) (by kernel_rfl) (fun _ _ _ h=>h) (Or.inl ⟨by rfl,?_⟩) (by assumption) ?_;rotate_left;(focus (intro w hSw;(try dsimp only at hSw);(try obtain⟨hSw1,hSw2,hSw3⟩:=hSw);go_simp<;>with_reducible rfl));(try simp only[Act.put,List.getElem_toArray,List.getElem_cons_zero,List.getElem_cons_succ,List.setIfInBounds_toArray,List.set_cons_zero,List.set_cons_succ])
    refine aI (i:=8) (v:=?_) rfl (by kernel_rfl) (by kernel_rfl) (by kernel_rfl) (by kernel_rfl) (by kernel_rfl) (fun _ _ _ h=>h) (Or.inl ⟨by rfl,?_⟩) (by assumption) ?_;rotate_left;(focus (intro w hSw;(try dsimp only at hSw);(try obtain⟨hSw1,hSw2,hSw3⟩:=hSw);go_simp<;>with_reducible rfl));(try simp only[Act.put,List.getElem_toArray,List.getElem_cons_zero,List.getElem_cons_succ,List.setIfInBounds_toArray,List.set_cons_zero,List.set_cons_succ])
    refine aI (i:=10) (v:=?_) rfl (by kernel_rfl) (by kernel_rfl) (by kernel_rfl) (by kernel_rfl) (by kernel_rfl) (fun _ _ _ h=>h) (Or.inl ⟨by rfl,?_⟩) (by assumption) ?_;rotate_left;(focus (intro w hSw;(try dsimp only at hSw);(try obtain⟨hSw1,hSw2,hSw3⟩:=hSw);go_simp<;>with_reducible rfl));(try simp only[Act.put,List.getElem_toArray,List.getElem_cons_zero,List.getElem_cons_succ,List.setIfInBounds_toArray,List.set_cons_zero,List.set_cons_succ])
    refine aI (i:=11) (v:=.int .u8 (c.toNat:Int)) rfl (by kernel_rfl) (by kernel_rfl) (by kernel_rfl) (by kernel_rfl) (by kernel_rfl) (fun _ _ _ h=>h) (Or.inl ⟨by rfl,fun W _=>by go_simp<;>simp[hix]⟩) trivial ?_
    simp only[Act.put,List.getElem_toArray,List.getElem_cons_zero,List.getElem_cons_succ,List.setIfInBounds_toArray,List.set_cons_zero,List.set_cons_succ]
    refine wL (i:=9) #[.string ⟨#[97,98,99,100,101,102,103,104,105,106,107,108,109,110,111,112,113,114,115,116,117,118,119,120,121,122,95]⟩] (fun u w'=>(u=(.func (.func 164) #[] #[.pointer (some ⟨w.drew.heap.size,0,none⟩)])∧lg 164 #[.pointer (some ⟨w.drew.heap.size,0,none⟩)] (bT dX) w')∧Below w.heap.size w w') (by kernel_rfl) rfl (by rfl) rfl (by kernel_rfl) (enters_of Tryz.func138 (by kernel_rfl) rfl) ((HO.out w.drew).mono fun e w' ⟨⟨h1,h2⟩,h3⟩=>⟨_,h1,⟨rfl,h2⟩,HD.out.trans (h3.mono HD.out.size)⟩) ?_
    rintro _ w1 ⟨⟨rfl,hp⟩,hb1⟩
    refine ⟨trivial,?_⟩
    simp only[Act.put,List.getElem_toArray,List.getElem_cons_zero,List.getElem_cons_succ,List.setIfInBounds_toArray,List.set_cons_zero,List.set_cons_succ]
    have HP1:=hp w1 c (Below.refl _ _)
    rw[HL.out] at HP1
    refine wX (i:=12) (f:=164) (lb:=#[.pointer (some ⟨w.drew.heap.size,0,none⟩)]) #[.int .u8 (c.toNat:Int)] (fun u w'=>u = .bool false∧w'=w1) (by kernel_rfl) rfl (by rfl) rfl (by kernel_rfl) (by kernel_rfl) (enters_of Tryz.func164 (by kernel_rfl) rfl) (HP1.mono fun e w' ⟨h1,h2⟩=>⟨_,h1,rfl,h2⟩) ?_
    rintro _ w2 ⟨rfl,hw2⟩
    obtain rfl:w1=w2:=hw2.symm
    refine ⟨trivial,?_⟩
    simp only[Act.put,List.getElem_toArray,List.getElem_cons_zero,List.getElem_cons_succ,List.setIfInBounds_toArray,List.set_cons_zero,List.set_cons_succ]
    refine aI (i:=13) (v:=?_) rfl (by kernel_rfl) (by kernel_rfl) (by kernel_rfl) (by kernel_rfl) (by kernel_rfl) (fun _ _ _ h=>h) (Or.inl ⟨by rfl,?_⟩) (by assumption) ?_;rotate_left;(focus (intro w hSw;(try dsimp only at hSw);(try obtain⟨hSw1,hSw2,hSw3⟩:=hSw);go_simp<;>with_reducible rfl));(try simp only[Act.put,List.getElem_toArray,List.getElem_cons_zero,List.getElem_cons_succ,List.setIfInBounds_toArray,List.set_cons_zero,List.set_cons_succ])
    refine aI (i:=14) (v:=?_) rfl (by kernel_rfl) (by kernel_rfl) (by kernel_rfl) (by kernel_rfl) (by kernel_rfl) (fun _ _ _ h=>h) (Or.inl ⟨by rfl,?_⟩) (by assumption) ?_;rotate_left;(focus (intro w hSw;(try dsimp only at hSw);(try obtain⟨hSw1,hSw2,hSw3⟩:=hSw);go_simp<;>with_reducible rfl));(try simp only[Act.put,List.getElem_toArray,List.getElem_cons_zero,List.getElem_cons_succ,List.setIfInBounds_toArray,List.set_cons_zero,List.set_cons_succ])
    refine aI (i:=15) (v:=undef) rfl (by kernel_rfl) (by kernel_rfl) (by kernel_rfl) (by kernel_rfl) (by kernel_rfl) (fun _ _ _ h=>h) (Or.inr ⟨by rfl,rfl⟩) (by assumption) ?_;(try simp only[Act.put,List.getElem_toArray,List.getElem_cons_zero,List.getElem_cons_succ,List.setIfInBounds_toArray,List.set_cons_zero,List.set_cons_succ])
    refine aI (i:=18) (v:=undef) rfl (by kernel_rfl) (by kernel_rfl) (by kernel_rfl) (by kernel_rfl) (by kernel_rfl) (fun _ _ _ h=>h) (Or.inr ⟨by rfl,rfl⟩) (by assumption) ?_;(try simp only[Act.put,List.getElem_toArray,List.getElem_cons_zero,List.getElem_cons_succ,List.setIfInBounds_toArray,List.set_cons_zero,List.set_cons_succ])
    refine aI (i:=19) (v:=undef) rfl (by kernel_rfl) (by kernel_rfl) (by kernel_rfl) (by kernel_rfl) (by kernel_rfl) (fun _ _ _ h=>h) (Or.inr ⟨by rfl,rfl⟩) (by assumption) ?_;(try simp only[Act.put,List.getElem_toArray,List.getElem_cons_zero,List.getElem_cons_succ,List.setIfInBounds_toArray,List.set_cons_zero,List.set_cons_succ])
    refine qR (i:=16) (by kernel_rfl) rfl (by rfl) trivial ?_
    simp only[Act.put,List.getElem_toArray,List.getElem_cons_zero,List.getElem_cons_succ,List.setIfInBounds_toArray,List.set_cons_zero,List.set_cons_succ]
    refine qR (i:=17) (by kernel_rfl) rfl (by rfl) trivial ?_
    simp only[Act.put,List.getElem_toArray,List.getElem_cons_zero,List.getElem_cons_succ,List.setIfInBounds_toArray,List.set_cons_zero,List.set_cons_succ]
    refine aI (i:=20) (v:=undef) rfl (by kernel_rfl) (by kernel_rfl) (by kernel_rfl) (by kernel_rfl) (by kernel_rfl) (fun _ _ _ h=>h) (Or.inr ⟨by rfl,rfl⟩) (by assumption) ?_;(try simp only[Act.put,List.getElem_toArray,List.getElem_cons_zero,List.getElem_cons_succ,List.setIfInBounds_toArray,List.set_cons_zero,List.set_cons_succ])
    refine aI (i:=21) (v:=?_) rfl (by kernel_rfl) (by kernel_rfl) (by kernel_rfl) (by kernel_rfl) (by kernel_rfl) (fun _ _ _ h=>h) (Or.inl ⟨by rfl,?_⟩) (by assumption) ?_;rotate_left;(focus (intro w hSw;(try dsimp only at hSw);(try obtain⟨hSw1,hSw2,hSw3⟩:=hSw);go_simp<;>with_reducible rfl));(try simp only[Act.put,List.getElem_toArray,List.getElem_cons_zero,List.getElem_cons_succ,List.setIfInBounds_toArray,List.set_cons_zero,List.set_cons_succ])
    refine wQ (i:=22) (v:=.bool false) (by kernel_rfl) rfl rfl (by rfl) trivial ?_
    simp only[Act.put,List.getElem_toArray,List.getElem_cons_zero,List.getElem_cons_succ,List.setIfInBounds_toArray,List.set_cons_zero,List.set_cons_succ]
    refine fC (by kernel_rfl) ?_ _
    show Only _ .normal _ _
    unfold Only
    clear hp HP1
    have HB1:=hid hb1
    clear hb1
    go_wp2
    go_ret
    exact⟨rfl,HB1.out⟩
  ·have hnm:bC s=false:=by
    unfold bC
    rw[decide_eq_false h16]
    simp
   rw[hnm]
   have hS1:0<(aj s).size:=by rw[hsz];exact h0
   have hS2 : ¬(aj s).size≤16:=by rw[hsz];exact h16
   clear hnm h0 h16 hsz hs
   generalize aj s=S at hS1 hS2 ⊢
   have d1:decide ((0:Int)<(S.size:Int))=true:=decide_eq_true (by omega)
   have d2:decide ((S.size:Int)≤16)=false:=decide_eq_false (by omega)
   have d3:decide (0<S.size)=true:=decide_eq_true hS1
   have d4:decide (S.size≤16)=false:=decide_eq_false hS2
   go_enter Tryz.func90,Tryz.ntmps90
   go_wp2_with fail
   refine wp_region_quiet (C:=fun W'=>Below w.heap.size w W') (by kernel_rfl) (by kernel_rfl) HD.out ?_
   dsimp only
   repeat go_big_quiet_step ((intro _;rfl))
   refine wpQuiet_nil ?_
   intro w3 hD3
   have HD:=hid hD3
   clear hD3
   go_wp2
   go_ret
   exact⟨rfl,HD.out⟩
 ·have hnm:bC s=false:=by
   unfold bC
   rw[decide_eq_false h0]
   simp
  rw[hnm]
  have hS1 : ¬0<(aj s).size:=by rw[hsz];exact h0
  clear hnm h0 hsz hs
  generalize aj s=S at hS1 ⊢
  have d1:decide ((0:Int)<(S.size:Int))=false:=decide_eq_false (by omega)
  have d3:decide (0<S.size)=false:=decide_eq_false hS1
  go_enter Tryz.func90,Tryz.ntmps90
  go_wp2_with fail
  refine wp_region_quiet (C:=fun W'=>Below w.heap.size w W') (by kernel_rfl) (by kernel_rfl) HD.out ?_
  dsimp only
  repeat go_big_quiet_step ((intro _;rfl))
  refine wpQuiet_nil ?_
  intro w3 hD3
  have HD:=hid hD3
  clear hD3
  go_wp2
  go_ret
  exact⟨rfl,HD.out⟩
end Go.Proofs.YtfeglkleoijlaaaGreatDoor
