/- For every two slices of bytes, PlainBlobs returns true. -/
import Derived.Test.YtknanockidellaaLawKit
import Derived.Test.YtknanockidellaaRefB
namespace Go.Proofs.Ytknanockidellaa
open Go.RowKit
set_option linter.unusedVariables false

set_option maxRecDepth 100000 in
set_option maxHeartbeats 4000000 in
theorem blobs_law (vp : Value) (ps : List UInt8) (vb : Value) (bs : List UInt8) (w : World) (hp : Shows w.heap.size w vp ps) (hlp : ps.length ≤ 140737488351232) (hb : Shows w.heap.size w vb bs) (hlb : bs.length ≤ 140737488351232) :
    Calls Try.prog 5 #[vp, vb] w fun e w' => e = .returned (.bool true) ∧ Below w.heap.size w w' := by
  go_enter Try.func5, Try.ntmps5
  go_wp2_with fail
  refine (small_any w).mono ?_
  rintro e w1 ⟨rfl, hb1⟩
  have hz1 := hb1.size
  go_wp2_with fail
  refine (lent_any w.heap.size vp ps w1 hz1 (hp.below hb1) hlp).mono ?_
  rintro e w2 ⟨v2, rfl, hL2, hbel2⟩
  have hz2 := hbel2.size
  have hb2 := hb1.trans (hbel2.mono hz1)
  go_wp2_with fail
  refine (lent_any w.heap.size vb bs w2 hb2.size (hb.below hb2) hlb).mono ?_
  rintro e w3 ⟨v3, rfl, hL3, hbel3⟩
  have hz3 := hbel3.size
  have hb3 := hb2.trans (hbel3.mono hb2.size)
  have hL23 := hL2.below hbel3
  go_wp2_with fail
  refine (blob_any w3.heap.size v2 ps w3 (Nat.le_refl _) (hL23.shows (by unfold maxLen; omega))).mono ?_
  rintro e w4 ⟨v4, rfl, hown4, hbel4⟩
  have hz4 := hbel4.size
  have hb4 := hb3.trans (hbel4.mono hb3.size)
  have hL24 := hL23.below hbel4
  have hL34 := hL3.below hbel4
  go_wp2_with fail
  refine (takeBlob_any w4.heap.size v3 bs w4 (hL34.shows (by unfold maxLen; omega)) (Nat.le_refl _)).mono ?_
  rintro e w5 ⟨v5, rfl, _, hown5, hbel5⟩
  have hz5 := hbel5.size
  have hb5 := hb4.trans (hbel5.mono hb4.size)
  have HAP : Hid (Apart [v4, v5, v2, v3]) :=
    apart_cons (apart_cons (apart_cons (apart_cons apart_nil (fun g hg v hv => by cases hv)) (fun g hg v hv e => by
      simp at hv
      subst hv
      have h1 := (hL2.lt g hg).2
      have h2 := (hL3.lt g e).1
      omega)) (fun g hg v hv e => by
      have h1 := (hown5.lt g hg).1
      simp at hv
      rcases hv with rfl | rfl
      · have h2 := (hL2.lt g e).2
        omega
      · have h2 := (hL3.lt g e).2
        omega)) (fun g hg v hv e => by
      have h1 := (hown4.lt g hg)
      simp at hv
      rcases hv with rfl | rfl | rfl
      · have h2 := (hown5.lt g e).1
        omega
      · have h2 := (hL2.lt g e).2
        omega
      · have h2 := (hL3.lt g e).2
        omega)
  have hx5 := ownsRow_below hown4 hbel5
  have hL25 := hL24.below hbel5
  have hL35 := hL34.below hbel5
  have HX := hid hx5
  have HY := hid hown5
  have H2 := hid hL25
  have H3 := hid hL35
  clear hL2 hL23 hL24 hL25 hL3 hL34 hL35 hown4 hown5 hx5 hbel2 hbel3 hbel4 hbel5 hb1 hb2 hb3 hb4
  go_wp2_with fail
  refine (refBlob_any w.heap.size vp ps w5 hb5.size (hp.below hb5)).mono ?_
  rintro e w6 ⟨v6, rfl, hown6, hbel6⟩
  have hz6 := hbel6.size
  have hb6 := hb5.trans (hbel6.mono hb5.size)
  go_wp2_with fail
  refine (refTakeBlob_any w.heap.size vb bs w6 (hb.below hb6) hb6.size).mono ?_
  rintro e w7 ⟨v7, rfl, _, hown7, hbel7⟩
  have hb7 := hb6.trans (hbel7.mono hb6.size)
  have hb57 := hbel6.trans (hbel7.mono hz6)
  have s4 := strs (shows_of_owns (ownsRow_below HX.out hb57)).2
  have s5 := strs (shows_of_owns (ownsRow_below HY.out hb57)).2
  have s6 := strs (shows_of_owns (ownsRow_below hown6 hbel7)).2
  have s7 := strs (shows_of_owns hown7).2
  clear hown6 hown7 hbel6 hbel7 hb5 hb6
  go_wp2_with fail
  refine (kept_any _ w.heap.size v2 vp ps w7 (H2.out.below hb57) (hp.below hb7) hlp).mono ?_
  rintro e w8 ⟨rfl, rfl⟩
  go_wp2_with fail
  refine (kept_any _ w.heap.size v3 vb bs w8 (H3.out.below hb57) (hb.below hb7) hlb).mono ?_
  rintro e w9 ⟨rfl, rfl⟩
  obtain ⟨a4, c4, rfl⟩ := own_form HX.out
  obtain ⟨a5, c5, rfl⟩ := own_form HY.out
  obtain ⟨g2, rfl⟩ : ∃ g, v2 = .slice (some ⟨g, 0, none⟩) ps.length (ps.length + 1) := by
    obtain ⟨g, e, _⟩ := H2.out
    exact ⟨g, e⟩
  obtain ⟨g3, rfl⟩ : ∃ g, v3 = .slice (some ⟨g, 0, none⟩) bs.length (bs.length + 1) := by
    obtain ⟨g, e, _⟩ := H3.out
    exact ⟨g, e⟩
  obtain ⟨xs4, f4⟩ := full_of_owns HX.out
  obtain ⟨xs5, f5⟩ := full_of_owns HY.out
  obtain ⟨xs2, f2⟩ := H2.out.full
  obtain ⟨xs3, f3⟩ := H3.out.full
  have q4 := (f4.below hb57).mono (show w.heap.size ≤ w3.heap.size by omega)
  have q5 := (f5.below hb57).mono (show w.heap.size ≤ w4.heap.size by omega)
  have q2 := (f2.below hb57).mono (show w.heap.size ≤ w1.heap.size by omega)
  have q3 := (f3.below hb57).mono (show w.heap.size ≤ w2.heap.size by omega)
  clear f4 f5 f2 f3 HX HY H2 H3
  generalize (blobOf ps).2.length = lx at *
  generalize (tblob bs).2.1.length = ly at *
  have hal : ∀ o, Below w9.heap.size w9 (w9.alloc o) := fun o => (Below.refl _ _).alloc (Nat.le_refl _) _
  have HOW := hid (owned_any w.heap.size w9.heap.size 4 [.slice a4 lx c4, .slice a5 ly c5, .slice (some ⟨g2, 0, none⟩) ps.length (ps.length + 1), .slice (some ⟨g3, 0, none⟩) bs.length (bs.length + 1)] _
    (by simp; have := hb7.size; omega)
    (World.ownsRow_lit (base := w.heap.size) (e := 22) (size := 1) w9 #[.slice a4 lx c4, .slice a5 ly c5, .slice (some ⟨g2, 0, none⟩) ps.length (ps.length + 1), .slice (some ⟨g3, 0, none⟩) bs.length (bs.length + 1)] 4 hb7.size (by unfold maxLen; omega) rfl)
    (marked_cons (q4.below (hal _)) (marked_cons (q5.below (hal _)) (marked_cons (q2.below (hal _)) (marked_cons (q3.below (hal _)) (marked_nil0 _ _))))) HAP.out (by simp))
  have hfin := hb7.alloc hb7.size (.cells #[.slice a4 lx c4, .slice a5 ly c5, .slice (some ⟨g2, 0, none⟩) ps.length (ps.length + 1), .slice (some ⟨g3, 0, none⟩) bs.length (bs.length + 1)] 22)
  clear q4 q5 q2 q3 hal HAP
  generalize blobOf ps = R at *
  generalize tblob bs = T at *
  go_wp2_with fail
  refine HOW.out.mono ?_
  rintro e wo ⟨rfl, hbo⟩
  have hfin2 := hfin.trans hbo
  clear HOW hbo hfin s4 s5 s6 s7
  go_wp2
  go_ret
  exact ⟨rfl, hfin2⟩
end Go.Proofs.Ytknanockidellaa
