/- Packed for the hand-in: WName WAre WRight WRightE -/
import Derived.Test.YtaaggohjmhifbaaGreatDoorP18
import Derived.Deep.RegionHeld3
import Derived.BigQuiet
namespace Go.Proofs.YtaaggohjmhifbaaGreatDoor
open Go.RowKit Go.Shelf
set_option linter.unusedSimpArgs false
set_option linter.unusedVariables false
set_option maxRecDepth 20000
set_option maxHeartbeats 8000000
theorem lname_any (s:List UInt8) (w:World) (hs:s.length≤9223372036854775807) :
  Calls Tryz.prog 88 #[.string (str8 s)] w fun e w'=>e = .returned (.bool (nameOk s))∧Below w.heap.size w w':=by
 have hsz:(str8 s).size=s.length:=rfl
 have HD:Hid (Below w.heap.size w w.drew):=hid (Below.refl _ w).drew
 by_cases h0:0<s.length
 ·by_cases h16:s.length≤16
  ·obtain⟨c,r,rfl⟩:∃c r,s=c::r:=by
    cases s with
    | nil=>simp at h0
    | cons c r=>exact⟨c,r,rfl⟩
   have hix : ∀W,(Instr.index 9 (.string (str8 (c::r))) (.int .i64 0)).run Tryz.prog W = .ok (.int .u8 (c.toNat:Int)) W:=fun W=>run_ix (c::r) 0 c rfl W
   have HO:Hid (∀w,Calls Tryz.prog 153 #[.string ⟨#[97,98,99,100,101,102,103,104,105,106,107,108,109,110,111,112,113,114,115,116,117,118,119,120,121,122,95]⟩] w fun e w'=>(e = .returned (.func (.func 208) #[] #[.pointer (some ⟨w.heap.size,0,none⟩)])∧PredS 208 #[.pointer (some ⟨w.heap.size,0,none⟩)] (inS lowsB) w')∧Below w.heap.size w w'):=hid (fun w=>oneOf_tells lowsB w)
   have HO2:Hid (∀w,Calls Tryz.prog 153 #[.string ⟨#[97,98,99,100,101,102,103,104,105,106,107,108,109,110,111,112,113,114,115,116,117,118,119,120,121,122,95,48,49,50,51,52,53,54,55,56,57]⟩] w fun e w'=>(e = .returned (.func (.func 208) #[] #[.pointer (some ⟨w.heap.size,0,none⟩)])∧PredS 208 #[.pointer (some ⟨w.heap.size,0,none⟩)] (inS nameB) w')∧Below w.heap.size w w'):=hid (fun w=>oneOf_tells nameB w)
   have HW:=hid (fun B w1 hp=>rowOne_any (c::r) nameB B w1 (by omega) hp)
   have hnm:nameOk (c::r)=(inS lowsB c&&((row (inS nameB) (c::r):Int)==((str8 (c::r)).size:Int))):=by
    unfold nameOk
    rw[decide_eq_true h0,decide_eq_true h16,show (c::r).headD 0=c from rfl,hsz]
    simp only[Bool.true_and]
    congr 1
    rw[Bool.eq_iff_iff,decide_eq_true_eq,beq_iff_eq]
    omega
   rw[hnm]
   clear hnm
   have hS1:0<(str8 (c::r)).size:=by rw[hsz];exact h0
   have hS2:(str8 (c::r)).size≤16:=by rw[hsz];exact h16
   generalize str8 (c::r)=S at hix HW hS1 hS2 ⊢
   have d1:decide ((0:Int)<(S.size:Int))=true:=decide_eq_true (by omega)
   have d2:decide ((S.size:Int)≤16)=true:=decide_eq_true (by omega)
   have d3:decide (0<S.size)=true:=decide_eq_true hS1
   have d4:decide (S.size≤16)=true:=decide_eq_true hS2
   clear h0 h16 hsz hs
   cases hl:inS lowsB c with
   |
    true =>
    rw[Bool.true_and]
    have HL:=hid hl
    clear hl
    generalize row (inS nameB) (c::r)=n at HW ⊢
    go_enter Tryz.func88,Tryz.ntmps88
    go_wp2_with fail
    go_region_held3 (fun _=>True) (first | trivial) (first
     | (
      go_at_call 153;refine (HO.out _).mono ?_;rintro e w1 ⟨⟨rfl,hp⟩,hb1⟩
      have HP1:=hid (hp w1 c (Below.refl _ _))
      rw[HL.out] at HP1
      have HD1:Hid (Below w.heap.size w w1):=hid (HD.out.trans (hb1.mono HD.out.size))
      clear hp hb1)
     | (go_at_call 208;refine HP1.out.mono ?_;rintro e w2 ⟨rfl,hw2⟩;rw[hw2])
     | (
      go_at_call 153;refine (HO2.out _).mono ?_;rintro e w3 ⟨⟨rfl,hp⟩,hb3⟩
      have HD3:Hid (Below w.heap.size w w3):=hid (HD1.out.trans (hb3.mono HD1.out.size))
      have HP3:=hid (HW.out _ w3 hp)
      clear hp hb3)
     | (go_at_call 154;refine HP3.out.mono ?_;rintro e w4 ⟨rfl,hw4⟩;rw[hw4]))
    all_goals go_wp2
    all_goals go_ret
    all_goals exact⟨rfl,HD3.out⟩
   |
    false =>
    rw[Bool.false_and]
    have HL:=hid hl
    clear hl HW HO2
    go_enter Tryz.func88,Tryz.ntmps88
    go_wp2_with fail
    refine last_region (fun _:World=>True) 22 (by kernel_rfl) ?_
    have hT0:True:=trivial
    refine wpAnyE_take (i:=0) (v:=?_) rfl (by kernel_rfl) (by kernel_rfl) (by kernel_rfl) (by kernel_rfl) (by kernel_rfl) (fun _ _ _ h=>h) (Or.inl ⟨by rfl,?_⟩) (by assumption) ?_;rotate_left;(focus (intro w hSw;(try dsimp only at hSw);(try obtain⟨hSw1,hSw2,hSw3⟩:=hSw);go_simp<;>with_reducible rfl));(try simp only[Act.put,List.getElem_toArray,List.getElem_cons_zero,List.getElem_cons_succ,List.setIfInBounds_toArray,List.set_cons_zero,List.set_cons_succ])
    refine wpAnyE_take (i:=1) (v:=?_) rfl (by kernel_rfl) (by kernel_rfl) (by kernel_rfl) (by kernel_rfl) (by kernel_rfl) (fun _ _ _ h=>h) (Or.inl ⟨by rfl,?_⟩) (by assumption) ?_;rotate_left;(focus (intro w hSw;(try dsimp only at hSw);(try obtain⟨hSw1,hSw2,hSw3⟩:=hSw);go_simp<;>with_reducible rfl));(try simp only[Act.put,List.getElem_toArray,List.getElem_cons_zero,List.getElem_cons_succ,List.setIfInBounds_toArray,List.set_cons_zero,List.set_cons_succ])
    refine wpAnyE_take (i:=2) (v:=.bool true) rfl (by kernel_rfl) (by kernel_rfl) (by kernel_rfl) (by kernel_rfl) (by kernel_rfl) (fun _ _ _ h=>h) (Or.inl ⟨by rfl,fun W _=>by go_simp<;>simp[d1,d3]⟩) trivial ?_
    simp only[Act.put,List.getElem_toArray,List.getElem_cons_zero,List.getElem_cons_succ,List.setIfInBounds_toArray,List.set_cons_zero,List.set_cons_succ]
    refine wpAnyE_take (i:=3) (v:=?_) rfl (by kernel_rfl) (by kernel_rfl) (by kernel_rfl) (by kernel_rfl) (by kernel_rfl) (fun _ _ _ h=>h) (Or.inl ⟨by rfl,?_⟩) (by assumption) ?_;rotate_left;(focus (intro w hSw;(try dsimp only at hSw);(try obtain⟨hSw1,hSw2,hSw3⟩:=hSw);go_simp<;>with_reducible rfl));(try simp only[Act.put,List.getElem_toArray,List.getElem_cons_zero,List.getElem_cons_succ,List.setIfInBounds_toArray,List.set_cons_zero,List.set_cons_succ])
    refine wpAnyE_take (i:=4) (v:=?_) rfl (by kernel_rfl) (by kernel_rfl) (by kernel_rfl) (by kernel_rfl) (by kernel_rfl) (fun _ _ _ h=>h) (Or.inl ⟨by rfl,?_⟩) (by assumption) ?_;rotate_left;(focus (intro w hSw;(try dsimp only at hSw);(try obtain⟨hSw1,hSw2,hSw3⟩:=hSw);go_simp<;>with_reducible rfl));(try simp only[Act.put,List.getElem_toArray,List.getElem_cons_zero,List.getElem_cons_succ,List.setIfInBounds_toArray,List.set_cons_zero,List.set_cons_succ])
    refine wpAnyE_take (i:=5) (v:=?_) rfl (by kernel_rfl) (by kernel_rfl) (by kernel_rfl) (by kernel_rfl) (by kernel_rfl) (fun _ _ _ h=>h) (Or.inl ⟨by rfl,?_⟩) (by assumption) ?_;rotate_left;(focus (intro w hSw;(try dsimp only at hSw);(try obtain⟨hSw1,hSw2,hSw3⟩:=hSw);go_simp<;>with_reducible rfl));(try simp only[Act.put,List.getElem_toArray,List.getElem_cons_zero,List.getElem_cons_succ,List.setIfInBounds_toArray,List.set_cons_zero,List.set_cons_succ])
    refine wpAnyE_take (i:=6) (v:=.bool true) rfl (by kernel_rfl) (by kernel_rfl) (by kernel_rfl) (by kernel_rfl) (by kernel_rfl) (fun _ _ _ h=>h) (Or.inl ⟨by rfl,fun W _=>by go_simp<;>simp[d2,d4]⟩) trivial ?_
    simp only[Act.put,List.getElem_toArray,List.getElem_cons_zero,List.getElem_cons_succ,List.setIfInBounds_toArray,List.set_cons_zero,List.set_cons_succ]
    refine wpAnyE_take (i:=7) (v:=?_) rfl (by kernel_rfl) (by kernel_rfl) (by kernel_rfl) (by kernel_rfl) (by kernel_rfl) (fun _ _ _ h=>h) (Or.inl ⟨by rfl,?_⟩) (by assumption) ?_;rotate_left;(focus (intro w hSw;(try dsimp only at hSw);(try obtain⟨hSw1,hSw2,hSw3⟩:=hSw);go_simp<;>with_reducible rfl));(try simp only[Act.put,List.getElem_toArray,List.getElem_cons_zero,List.getElem_cons_succ,List.setIfInBounds_toArray,List.set_cons_zero,List.set_cons_succ])
    refine wpAnyE_take (i:=8) (v:=?_) rfl (by kernel_rfl) (by kernel_rfl) (by kernel_rfl) (by kernel_rfl) (by kernel_rfl) (fun _ _ _ h=>h) (Or.inl ⟨by rfl,?_⟩) (by assumption) ?_;rotate_left;(focus (intro w hSw;(try dsimp only at hSw);(try obtain⟨hSw1,hSw2,hSw3⟩:=hSw);go_simp<;>with_reducible rfl));(try simp only[Act.put,List.getElem_toArray,List.getElem_cons_zero,List.getElem_cons_succ,List.setIfInBounds_toArray,List.set_cons_zero,List.set_cons_succ])
    refine wpAnyE_take (i:=10) (v:=?_) rfl (by kernel_rfl) (by kernel_rfl) (by kernel_rfl) (by kernel_rfl) (by kernel_rfl) (fun _ _ _ h=>h) (Or.inl ⟨by rfl,?_⟩) (by assumption) ?_;rotate_left;(focus (intro w hSw;(try dsimp only at hSw);(try obtain⟨hSw1,hSw2,hSw3⟩:=hSw);go_simp<;>with_reducible rfl));(try simp only[Act.put,List.getElem_toArray,List.getElem_cons_zero,List.getElem_cons_succ,List.setIfInBounds_toArray,List.set_cons_zero,List.set_cons_succ])
    refine wpAnyE_take (i:=11) (v:=.int .u8 (c.toNat:Int)) rfl (by kernel_rfl) (by kernel_rfl) (by kernel_rfl) (by kernel_rfl) (by kernel_rfl) (fun _ _ _ h=>h) (Or.inl ⟨by rfl,fun W _=>by go_simp<;>simp[hix]⟩) trivial ?_
    simp only[Act.put,List.getElem_toArray,List.getElem_cons_zero,List.getElem_cons_succ,List.setIfInBounds_toArray,List.set_cons_zero,List.set_cons_succ]
    refine takeE_callw (i:=9) #[.string ⟨#[97,98,99,100,101,102,103,104,105,106,107,108,109,110,111,112,113,114,115,116,117,118,119,120,121,122,95]⟩] (fun u w'=>(u=(.func (.func 208) #[] #[.pointer (some ⟨w.drew.heap.size,0,none⟩)])∧PredS 208 #[.pointer (some ⟨w.drew.heap.size,0,none⟩)] (inS lowsB) w')∧Below w.heap.size w w') (by kernel_rfl) rfl (by rfl) rfl (by kernel_rfl) (enters_of Tryz.func153 (by kernel_rfl) rfl) ((HO.out w.drew).mono fun e w' ⟨⟨h1,h2⟩,h3⟩=>⟨_,h1,⟨rfl,h2⟩,HD.out.trans (h3.mono HD.out.size)⟩) ?_
    rintro _ w1 ⟨⟨rfl,hp⟩,hb1⟩
    refine ⟨trivial,?_⟩
    simp only[Act.put,List.getElem_toArray,List.getElem_cons_zero,List.getElem_cons_succ,List.setIfInBounds_toArray,List.set_cons_zero,List.set_cons_succ]
    have HP1:=hp w1 c (Below.refl _ _)
    rw[HL.out] at HP1
    refine takeE_callv (i:=12) (f:=208) (lb:=#[.pointer (some ⟨w.drew.heap.size,0,none⟩)]) #[.int .u8 (c.toNat:Int)] (fun u w'=>u = .bool false∧w'=w1) (by kernel_rfl) rfl (by rfl) rfl (by kernel_rfl) (by kernel_rfl) (enters_of Tryz.func208 (by kernel_rfl) rfl) (HP1.mono fun e w' ⟨h1,h2⟩=>⟨_,h1,rfl,h2⟩) ?_
    rintro _ w2 ⟨rfl,hw2⟩
    obtain rfl:w1=w2:=hw2.symm
    refine ⟨trivial,?_⟩
    simp only[Act.put,List.getElem_toArray,List.getElem_cons_zero,List.getElem_cons_succ,List.setIfInBounds_toArray,List.set_cons_zero,List.set_cons_succ]
    refine wpAnyE_take (i:=13) (v:=?_) rfl (by kernel_rfl) (by kernel_rfl) (by kernel_rfl) (by kernel_rfl) (by kernel_rfl) (fun _ _ _ h=>h) (Or.inl ⟨by rfl,?_⟩) (by assumption) ?_;rotate_left;(focus (intro w hSw;(try dsimp only at hSw);(try obtain⟨hSw1,hSw2,hSw3⟩:=hSw);go_simp<;>with_reducible rfl));(try simp only[Act.put,List.getElem_toArray,List.getElem_cons_zero,List.getElem_cons_succ,List.setIfInBounds_toArray,List.set_cons_zero,List.set_cons_succ])
    refine wpAnyE_take (i:=14) (v:=?_) rfl (by kernel_rfl) (by kernel_rfl) (by kernel_rfl) (by kernel_rfl) (by kernel_rfl) (fun _ _ _ h=>h) (Or.inl ⟨by rfl,?_⟩) (by assumption) ?_;rotate_left;(focus (intro w hSw;(try dsimp only at hSw);(try obtain⟨hSw1,hSw2,hSw3⟩:=hSw);go_simp<;>with_reducible rfl));(try simp only[Act.put,List.getElem_toArray,List.getElem_cons_zero,List.getElem_cons_succ,List.setIfInBounds_toArray,List.set_cons_zero,List.set_cons_succ])
    refine wpAnyE_take (i:=15) (v:=undef) rfl (by kernel_rfl) (by kernel_rfl) (by kernel_rfl) (by kernel_rfl) (by kernel_rfl) (fun _ _ _ h=>h) (Or.inr ⟨by rfl,rfl⟩) (by assumption) ?_;(try simp only[Act.put,List.getElem_toArray,List.getElem_cons_zero,List.getElem_cons_succ,List.setIfInBounds_toArray,List.set_cons_zero,List.set_cons_succ])
    refine wpAnyE_take (i:=18) (v:=undef) rfl (by kernel_rfl) (by kernel_rfl) (by kernel_rfl) (by kernel_rfl) (by kernel_rfl) (fun _ _ _ h=>h) (Or.inr ⟨by rfl,rfl⟩) (by assumption) ?_;(try simp only[Act.put,List.getElem_toArray,List.getElem_cons_zero,List.getElem_cons_succ,List.setIfInBounds_toArray,List.set_cons_zero,List.set_cons_succ])
    refine wpAnyE_take (i:=19) (v:=undef) rfl (by kernel_rfl) (by kernel_rfl) (by kernel_rfl) (by kernel_rfl) (by kernel_rfl) (fun _ _ _ h=>h) (Or.inr ⟨by rfl,rfl⟩) (by assumption) ?_;(try simp only[Act.put,List.getElem_toArray,List.getElem_cons_zero,List.getElem_cons_succ,List.setIfInBounds_toArray,List.set_cons_zero,List.set_cons_succ])
    refine takeE_skip (i:=16) (by kernel_rfl) rfl (by rfl) trivial ?_
    simp only[Act.put,List.getElem_toArray,List.getElem_cons_zero,List.getElem_cons_succ,List.setIfInBounds_toArray,List.set_cons_zero,List.set_cons_succ]
    refine takeE_skip (i:=17) (by kernel_rfl) rfl (by rfl) trivial ?_
    simp only[Act.put,List.getElem_toArray,List.getElem_cons_zero,List.getElem_cons_succ,List.setIfInBounds_toArray,List.set_cons_zero,List.set_cons_succ]
    refine wpAnyE_take (i:=20) (v:=undef) rfl (by kernel_rfl) (by kernel_rfl) (by kernel_rfl) (by kernel_rfl) (by kernel_rfl) (fun _ _ _ h=>h) (Or.inr ⟨by rfl,rfl⟩) (by assumption) ?_;(try simp only[Act.put,List.getElem_toArray,List.getElem_cons_zero,List.getElem_cons_succ,List.setIfInBounds_toArray,List.set_cons_zero,List.set_cons_succ])
    refine wpAnyE_take (i:=21) (v:=?_) rfl (by kernel_rfl) (by kernel_rfl) (by kernel_rfl) (by kernel_rfl) (by kernel_rfl) (fun _ _ _ h=>h) (Or.inl ⟨by rfl,?_⟩) (by assumption) ?_;rotate_left;(focus (intro w hSw;(try dsimp only at hSw);(try obtain⟨hSw1,hSw2,hSw3⟩:=hSw);go_simp<;>with_reducible rfl));(try simp only[Act.put,List.getElem_toArray,List.getElem_cons_zero,List.getElem_cons_succ,List.setIfInBounds_toArray,List.set_cons_zero,List.set_cons_succ])
    refine takeE_value (i:=22) (v:=.bool false) (by kernel_rfl) rfl rfl (by rfl) trivial ?_
    simp only[Act.put,List.getElem_toArray,List.getElem_cons_zero,List.getElem_cons_succ,List.setIfInBounds_toArray,List.set_cons_zero,List.set_cons_succ]
    refine wpAnyE_done (by kernel_rfl) ?_ _
    show Only _ .normal _ _
    unfold Only
    clear hp HP1
    have HB1:=hid hb1
    clear hb1
    go_wp2
    go_ret
    exact⟨rfl,HB1.out⟩
  ·have hnm:nameOk s=false:=by
    unfold nameOk
    rw[decide_eq_false h16]
    simp
   rw[hnm]
   have hS1:0<(str8 s).size:=by rw[hsz];exact h0
   have hS2 : ¬(str8 s).size≤16:=by rw[hsz];exact h16
   clear hnm h0 h16 hsz hs
   generalize str8 s=S at hS1 hS2 ⊢
   have d1:decide ((0:Int)<(S.size:Int))=true:=decide_eq_true (by omega)
   have d2:decide ((S.size:Int)≤16)=false:=decide_eq_false (by omega)
   have d3:decide (0<S.size)=true:=decide_eq_true hS1
   have d4:decide (S.size≤16)=false:=decide_eq_false hS2
   go_enter Tryz.func88,Tryz.ntmps88
   go_wp2_with fail
   refine wp_region_quiet (C:=fun W'=>Below w.heap.size w W') (by kernel_rfl) (by kernel_rfl) HD.out ?_
   dsimp only
   repeat go_big_quiet_step ((intro _;rfl))
   refine wpQuiet_nil ?_
   intro w3 hD3
   have HD:=hid hD3
   clear hD3
   go_wp2
   go_ret
   exact⟨rfl,HD.out⟩
 ·have hnm:nameOk s=false:=by
   unfold nameOk
   rw[decide_eq_false h0]
   simp
  rw[hnm]
  have hS1 : ¬0<(str8 s).size:=by rw[hsz];exact h0
  clear hnm h0 hsz hs
  generalize str8 s=S at hS1 ⊢
  have d1:decide ((0:Int)<(S.size:Int))=false:=decide_eq_false (by omega)
  have d3:decide (0<S.size)=false:=decide_eq_false hS1
  go_enter Tryz.func88,Tryz.ntmps88
  go_wp2_with fail
  refine wp_region_quiet (C:=fun W'=>Below w.heap.size w W') (by kernel_rfl) (by kernel_rfl) HD.out ?_
  dsimp only
  repeat go_big_quiet_step ((intro _;rfl))
  refine wpQuiet_nil ?_
  intro w3 hD3
  have HD:=hid hD3
  clear hD3
  go_wp2
  go_ret
  exact⟨rfl,HD.out⟩
theorem sl_get {α:Type} {z:Nat} {El:(Nat→Prop)→World→α→List Value→Prop} {S:Nat→Prop} {w:World} {xs:List α} {aa:Option Addr} {nn cc:Nat} (h:SlAt z El S w xs (.slice aa nn cc)) {j:Nat} {x:α} (hx:xs[j]?=some x) :
  nn=xs.length∧nn≤cc∧cc≤maxLen∧∃(b off:Nat) (cs:List Value),aa=some ⟨b,off,none⟩∧S b∧El S w x cs∧∀(i:Nat) (u:Value),cs[i]?=some u→w.cell? ⟨b,off+j*z+i,none⟩=some u:=by
 obtain⟨a,c,css,hv,h1,h2,h3,h4⟩:=h
 simp only[Value.slice.injEq] at hv
 obtain⟨rfl,rfl,rfl⟩:=hv
 have hj:j<xs.length:=(List.getElem?_eq_some_iff.1 hx).1
 obtain⟨b,off,rfl,hS,hc⟩:=h4 (fun e=>by rw[e] at hj;simp at hj)
 obtain⟨cs,hcs⟩:∃cs,css[j]?=some cs:=⟨_,List.getElem?_eq_getElem (by rw[h3.1];exact hj)⟩
 exact⟨rfl,h1,h2,b,off,cs,rfl,hS,(h3.2 j x cs hx hcs).2,fun i u hu=>hc j cs hcs i u hu⟩
def ExE (S:Nat→Prop) (w:World) (x:Ex) (cs:List Value):Prop :=
 ∃(k op:Int) (tb nm:List UInt8) (vk vn:Int) (vs:List UInt8) (ys:List Ex) (aa:Option Addr) (nn cc:Nat),x = .mk k op tb nm ⟨vk,vn,vs⟩ ys∧cs=[.int .i64 k,.int .i64 op,.string (str8 tb),.string (str8 nm),.int .i64 vk,.int .i64 vn,.string (str8 vs),.slice aa nn cc]∧ArgsAt S w ys (.slice aa nn cc)
theorem ExE.to {S R T:Nat→Prop} {w w':World} {x:Ex} {cs:List Value} (h:ExE S w x cs) (hk:Spares R w w') (hS : ∀b,S b→b<w.heap.size→¬R b∧T b):ExE T w' x cs:=by
 obtain⟨k,op,tb,nm,vk,vn,vs,ys,aa,nn,cc,h1,h2,h3⟩:=h
 exact⟨k,op,tb,nm,vk,vn,vs,ys,aa,nn,cc,h1,h2,h3.to hk hS⟩
theorem alloc_setRow (w:World) (old cs:Array Value) (t:TypeId):(w.alloc (.cells old t)).setRow w.heap.size cs=w.alloc (.cells cs t):=by
 have hh:((w.alloc (.cells old t)).setRow w.heap.size cs).heap=(w.alloc (.cells cs t)).heap:=by
  apply Array.ext_getElem?
  intro i
  by_cases e:i=w.heap.size
  ·subst e
   rw[setRow_heap _ _ _ _ _ _ (heap_alloc_new w _),heap_alloc_new]
  ·rw[setRow_other _ _ _ _ e]
   unfold World.alloc
   simp[Array.getElem?_push,e]
 have:(w.alloc (.cells old t)).setRow w.heap.size cs = { (w.alloc (.cells old t)).setRow w.heap.size cs with heap:=((w.alloc (.cells old t)).setRow w.heap.size cs).heap }:=rfl
 rw[this,hh]
 rfl
theorem Tryz.sizeCo:(Tryz.prog.info? 37).map (·.size)=some 4:=by kernel_rfl
theorem areCo_any (S:Nat→Prop) (fr:Nat) (eg : ∀args w,(callFunc fr args).run Tryz.prog w = .ok (.enter fr args) w) (p:Co→Bool) (xs:List (Co)) (v:Value) (lo hi:Nat) (w:World) (hlo:lo≤100) (hhi:hi≤100) (hv:SlAt 4 ColE S w xs v)
  (HF:Hid (∀x∈xs,∀V,Below w.heap.size w V→∀cs,ColE S V x cs→Calls Tryz.prog fr #[.agg cs.toArray] V fun e w'=>e = .returned (.bool (p x))∧Below V.heap.size V w')) :
  Calls Tryz.prog 86 #[v,.int .i64 lo,.int .i64 hi,.func (.func fr) #[] #[]] w fun e w'=>e = .returned (.bool (areB xs lo hi p))∧Below w.heap.size w w':=by
 have HV:=hid hv
 obtain⟨aa,cc,css,rfl,h1,h2,_⟩:=hv
 unfold maxLen at h2
 by_cases hl:lo≤xs.length∧xs.length≤hi
 ·have hA:areB xs lo hi p=xs.all p:=by unfold areB;rw[decide_eq_true hl,Bool.true_and]
  rw[hA]
  have hl1 : ¬((xs.length:Int)<(lo:Int)):=by omega
  have hl2 : ¬((hi:Int)<(xs.length:Int)):=by omega
  clear hA hl
  obtain⟨X,hX⟩:∃X,xs.all p=X:=⟨_,rfl⟩
  rw[hX]
  have HX:=hid hX
  clear hX
  generalize (lo:Int)=lo' at hl1 ⊢
  generalize (hi:Int)=hi' at hl2 ⊢
  go_enter Tryz.func86,Tryz.ntmps86
  go_wp2_with fail
  go_loopw [8,10,23] (fun _ _ i wr=>∃(k:Nat),k≤xs.length∧i = .int .i64 k∧Below w.heap.size w wr∧Hid ((xs.take k).all p=true)) (fun _ _ i _=>xs.length-(intOf i).toNat)
  case atStart=>exact⟨0,Nat.zero_le _,rfl,Below.refl _ _,hid rfl⟩
  case round =>
   obtain⟨k,hk,rfl,hbel,HK⟩:=hrel
   have hszr:=hbel.size
   by_cases hlt:k<xs.length
   ·obtain⟨x,hx⟩:∃x,xs[k]?=some x:=⟨_,List.getElem?_eq_getElem hlt⟩
    have hlt':((k:Int)<(xs.length:Int)):=by omega
    obtain⟨_,_,_,b,off,cs,rfl,_,hel,hcell⟩:=sl_get (HV.out.to (T:=S) (by decide) (R:=fun _=>False) (Spares.of_below hbel (fun k h1 h2=>by omega)) (fun b hb _=>⟨id,hb⟩) (fun _ _ e=>e.to (R:=fun _=>False) (Spares.of_below hbel (fun k h1 h2=>by omega)) (fun b hb _=>⟨id,hb⟩))) hx
    have htk:(xs.take (k+1)).all p=((xs.take k).all p&&p x):=by
     obtain⟨h1,h2⟩:=List.getElem?_eq_some_iff.1 hx
     rw[List.take_succ_eq_append_getElem h1,h2,List.all_append]
     simp
    have HT:=hid htk
    have hxm:=List.mem_of_getElem? hx
    have hel0:=hel
    obtain rfl:=hel
    have q0:=hcell 0 _ rfl
    have q1:=hcell 1 _ rfl
    have q2:=hcell 2 _ rfl
    have q3:=hcell 3 _ rfl
    simp only[Nat.add_zero] at q0
    obtain⟨U,hU,hbU,hzU,hcU⟩:=box8 wr (.cells #[.string (str8 x.nm),.int .i64 x.k,.bool x.nn,.bool x.uq] 37)
    have kU:=fun i=>cell_row U wr.heap.size _ _ _ i hcU
    have kU':U.cell? ⟨wr.heap.size,0,none⟩=some (.string (str8 x.nm))∧U.cell? ⟨wr.heap.size,1,none⟩=some (.int .i64 x.k)∧U.cell? ⟨wr.heap.size,2,none⟩=some (.bool x.nn)∧U.cell? ⟨wr.heap.size,3,none⟩=some (.bool x.uq):=⟨(kU 0).trans rfl,(kU 1).trans rfl,(kU 2).trans rfl,(kU 3).trans rfl⟩
    clear kU
    have hBU:=hbel.trans (hbU.mono hszr)
    have HC:=hid (HF.out x hxm U hBU _ (hel0.to (R:=fun _=>False) (Spares.of_new hbU) (fun b hb _=>⟨id,hb⟩)))
    have HM:=hid hxm
    have HBU:=hid hBU
    clear hBU hbU hcU hbel
    clear hcell hx htk hel0 hxm
    cases hp:p x with
    |
     true =>
     rw[hp] at HC
     have HK2:Hid ((xs.take (k+1)).all p=true):=hid (by rw[HT.out,HK.out,hp];rfl)
     clear HK hp HT
     go_wp2_with (first | (refine wpList_store_row rfl 37 (.tmp 10) (.tmp 26) rfl wr.heap.size #[.string (str8 x.nm),.int .i64 x.k,.bool x.nn,.bool x.uq] rfl rfl 37 #[.string ⟨#[]⟩,.int .i64 0,.bool false,.bool false] (heap_alloc_new wr _) Tryz.sizeCo rfl rfl ?_;rw[alloc_setRow,hU];clear hU) | fail)
     refine HC.out.mono ?_
     rintro e w2 ⟨rfl,hb2⟩
     have HB2:=hid (HBU.out.trans (hb2.mono HBU.out.size))
     clear hb2 HC
     go_wp2
     go_roundw
     case rel=>exact⟨k+1,by omega,by go_num,HB2.out,HK2⟩
     case measure=>simp[intOf];omega
    |
     false =>
     rw[hp] at HC
     have HXF:Hid (X=false):=hid (by
      rw[← HX.out,Bool.eq_false_iff]
      intro h
      have:=List.all_eq_true.1 h x HM.out
      rw[hp] at this
      cases this)
     clear HK hp HT
     go_wp2_with (first | (refine wpList_store_row rfl 37 (.tmp 10) (.tmp 26) rfl wr.heap.size #[.string (str8 x.nm),.int .i64 x.k,.bool x.nn,.bool x.uq] rfl rfl 37 #[.string ⟨#[]⟩,.int .i64 0,.bool false,.bool false] (heap_alloc_new wr _) Tryz.sizeCo rfl rfl ?_;rw[alloc_setRow,hU];clear hU) | fail)
     refine HC.out.mono ?_
     rintro e w2 ⟨rfl,hb2⟩
     have HB2:=hid (HBU.out.trans (hb2.mono HBU.out.size))
     clear hb2 HC
     go_wp2
     go_ret
     exact⟨by rw[HXF.out];rfl,HB2.out⟩
   ·have hlt' : ¬((k:Int)<(xs.length:Int)):=by omega
    have HXT:Hid (X=true):=hid (by rw[← HX.out];have:=HK.out;rw[List.take_of_length_le (by omega)] at this;exact this)
    have HB2:=hid hbel
    clear hbel HK
    go_wp2
    go_ret
    exact⟨by rw[HXT.out];rfl,HB2.out⟩
 ·have hA:areB xs lo hi p=false:=by unfold areB;rw[decide_eq_false hl,Bool.false_and]
  rw[hA]
  clear hA
  by_cases hl1:xs.length<lo
  ·have hl1':((xs.length:Int)<(lo:Int)):=by omega
   clear hl hl1
   generalize (lo:Int)=lo' at hl1' ⊢
   go_enter Tryz.func86,Tryz.ntmps86
   go_wp2
   go_ret
   exact⟨rfl,Below.refl _ _⟩
  ·have hl1' : ¬((xs.length:Int)<(lo:Int)):=by omega
   have hl2':((hi:Int)<(xs.length:Int)):=by omega
   clear hl hl1
   generalize (lo:Int)=lo' at hl1' ⊢
   generalize (hi:Int)=hi' at hl2' ⊢
   go_enter Tryz.func86,Tryz.ntmps86
   go_wp2
   go_ret
   exact⟨rfl,Below.refl _ _⟩
inductive RgE:Ex→Prop
 | mk (k op:Int) (tb nm:List UInt8) (v:Vl) (xs:List Ex) (h1 : -9223372036854775808≤v.n) (h2:v.n≤9223372036854775807) (h3:v.s.length≤9223372036854775807) (h4:tb.length≤9223372036854775807) (h5:nm.length≤9223372036854775807) (hx : ∀x∈xs,RgE x):RgE (.mk k op tb nm v xs)
theorem str8_empty (s:List UInt8):(str8 s).toList.isEmpty=decide (s=[]):=by
 rw[str8_toList]
 cases s<;>simp
theorem rest_store (w:World) (A:Obj) (old cs:Array Value) (t:TypeId):((w.alloc A).alloc (.cells old t)).setRow (w.heap.size+1) cs=(w.alloc A).alloc (.cells cs t):=by
 have e:w.heap.size+1=(w.alloc A).heap.size:=by simp
 rw[e,alloc_setRow]
end Go.Proofs.YtaaggohjmhifbaaGreatDoor
