/- For every string and every slice of bytes of bulk at most 1048576, PlainTexts returns true. -/
import Derived.Test.YtknanockidellaaLawKit
import Derived.Test.YtknanockidellaaRefT
namespace Go.Proofs.Ytknanockidellaa
open Go.RowKit
set_option linter.unusedVariables false

set_option maxRecDepth 100000 in
set_option maxHeartbeats 4000000 in
theorem texts_law (s : ByteArray) (vb : Value) (bs : List UInt8) (w : World) (hs : s.size ≤ 1048576) (hsh : Shows w.heap.size w vb bs) (hl : bs.length ≤ 1048576) :
    Calls Try.prog 4 #[.string s, vb] w fun e w' => e = .returned (.bool true) ∧ Below w.heap.size w w' := by
  go_enter Try.func4, Try.ntmps4
  go_wp2_with fail
  refine (small_any w).mono ?_
  rintro e w1 ⟨rfl, hb1⟩
  have hz1 := hb1.size
  have hsh1 := hsh.below hb1
  go_wp2_with fail
  refine (lent_any w.heap.size vb bs w1 hz1 hsh1 (by omega)).mono ?_
  rintro e w2 ⟨v2, rfl, hlend2, hbel2⟩
  have hz2 := hbel2.size
  have hb2 := hb1.trans (hbel2.mono hz1)
  go_wp2_with fail
  refine (textKey_any s w2 (by omega)).mono ?_
  rintro e w3 ⟨v3, rfl, hown3, hbel3⟩
  have hz3 := hbel3.size
  have hb3 := hb2.trans (hbel3.mono (by omega))
  have hlend3 := hlend2.below hbel3
  have HIN := hid (hlend3.shows (by unfold maxLen; omega))
  have HLE := hid hlend3
  have HX := hid hown3
  have HAP : Hid (Apart [v3, v2]) := apart_cons (apart_cons apart_nil (fun g hg v hv => by cases hv)) (fun g hg v hv e => by
    simp at hv
    subst hv
    have h1 := (hown3.lt g hg).1
    have h2 := (hlend2.lt g e).2
    omega)
  clear hown3 hlend2 hbel2 hlend3 hb1 hb2
  have HT1 := hid (takeText_any w3.heap.size v2 bs w3 (Nat.le_refl _) HIN.out (by omega))
  have HT2 := hid (fun wx (hbx : Below w.heap.size w wx) => refTakeText_any w.heap.size vb bs wx hbx.size (hsh.below hbx) (by omega))
  generalize ttext bs = R at *
  go_wp2_with fail
  refine HT1.out.mono ?_
  rintro e w4 ⟨rfl, hbel4⟩
  have hz4 := hbel4.size
  have hb4 := hb3.trans (hbel4.mono hb3.size)
  go_wp2_with fail
  refine (HT2.out w4 hb4).mono ?_
  rintro e w5 ⟨rfl, hbel5⟩
  have hz5 := hbel5.size
  have hb5 := hb4.trans (hbel5.mono hb4.size)
  have hb35 := hbel4.trans (hbel5.mono hz4)
  clear HT1 HT2 hbel4 hbel5 hb4 hb3 hbel3
  go_wp2_with fail
  refine (kept_any w1.heap.size w.heap.size v2 vb bs w5 (HLE.out.below hb35) (hsh.below hb5) (by omega)).mono ?_
  rintro e w6 ⟨rfl, rfl⟩
  go_wp2_with fail
  go_cut [15] (fun u wx => u = .bool true ∧ Below w6.heap.size w6 wx)
  case first =>
    have hx9 := (shows_of_owns (ownsRow_below HX.out hb35)).2.drew
    have HX9 := hid hx9
    have hsx := strs hx9
    clear hx9 HIN HLE HX HAP hsh hsh1
    have HN := hid (fun wx => refTextKey_any s wx (by omega))
    generalize tkey s.data.toList = K at *
    go_region_with (first
      | (go_at_call 24; refine (HN.out _).mono ?_; rintro e wa ⟨ga, rfl, howna, hbela⟩; have hxa := strs (HX9.out.below hbela); have hra := strs (shows_of_owns howna).2))
    all_goals (go_wp2_with fail; go_meet)
    all_goals exact ⟨rfl, (Below.refl _ _).drew.trans hbela⟩
  case rest =>
    obtain ⟨rfl, hbc⟩ := hcut
    obtain ⟨a3, c3, rfl⟩ := own_form HX.out
    obtain ⟨g2, rfl⟩ : ∃ g, v2 = .slice (some ⟨g, 0, none⟩) bs.length (bs.length + 1) := by
      obtain ⟨g, e, _⟩ := HLE.out
      exact ⟨g, e⟩
    have hb36 := hb35.trans (hbc.mono hb35.size)
    have hbw := hb5.trans (hbc.mono hb5.size)
    obtain ⟨xs3, f3⟩ := full_of_owns HX.out
    obtain ⟨xs2, f2⟩ := HLE.out.full
    have q3 := (f3.below hb36).mono (show w.heap.size ≤ w2.heap.size by omega)
    have q2 := (f2.below hb36).mono (show w.heap.size ≤ w1.heap.size by omega)
    have hal : Below wc.heap.size wc (wc.alloc (.cells #[.slice a3 (tkey s.data.toList).length c3, .slice (some ⟨g2, 0, none⟩) bs.length (bs.length + 1)] 22)) := (Below.refl _ _).alloc (Nat.le_refl _) _
    have hmk := marked_cons (q3.below hal) (marked_cons (q2.below hal) (marked_nil0 _ _))
    have hro := World.ownsRow_lit (base := w.heap.size) (e := 22) (size := 1) wc #[.slice a3 (tkey s.data.toList).length c3, .slice (some ⟨g2, 0, none⟩) bs.length (bs.length + 1)] 2 hbw.size (by unfold maxLen; omega) rfl
    have HOW := hid (owned_any w.heap.size wc.heap.size 2 [.slice a3 (tkey s.data.toList).length c3, .slice (some ⟨g2, 0, none⟩) bs.length (bs.length + 1)] _ (by simp; have := hbw.size; omega) hro hmk HAP.out (by simp))
    clear f3 f2 q3 q2 hmk hro HX HLE HAP HIN hal
    go_wp2_with fail
    refine HOW.out.mono ?_
    rintro e wo ⟨rfl, hbo⟩
    have hfin := (hbw.alloc hbw.size _).trans hbo
    clear HOW hbo
    go_wp2
    go_ret
    exact ⟨rfl, hfin⟩
end Go.Proofs.Ytknanockidellaa
