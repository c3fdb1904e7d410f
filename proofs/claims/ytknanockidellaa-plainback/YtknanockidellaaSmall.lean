/- Contract of the law's 'small': it answers true. -/
import Derived.Test.YtknanockidellaaTRow
import Derived.Test.YtknanockidellaaRow
import Derived.Lib.SlBytesConst
import Derived.Laws.BytesArg
namespace Go.Proofs.Ytknanockidellaa
open Go.RowKit
set_option linter.unusedVariables false

def smallRow : List UInt8 := [0, 0, 0, 2, 0, 0, 0, 1, 97, 0, 0, 0, 0]

theorem small_nine : List.map by8 smallRow ++ [Value.int .u8 9] = (smallRow ++ [9]).map by8 := rfl

theorem small_lists (w : World) : Lists (w.heap.size + 2) ((w.alloc (Obj.cells #[Value.int IntKind.u8 97] 5 (1, 2))).alloc (Obj.cells #[Value.slice (some ⟨w.heap.size, 0, none⟩) 1 1, Value.slice none 0 0] 22))
    (.slice (some ⟨w.heap.size + 1, 0, none⟩) 2 2) [[97], []] := by
  refine ⟨_, 2, [Value.slice (some ⟨w.heap.size, 0, none⟩) 1 1, Value.slice none 0 0], rfl, by simp, by unfold maxLen; omega, rfl, fun _ => ⟨w.heap.size + 1, 0, rfl, by omega, fun j u hu => ?_⟩, fun j u r hu hr => ?_⟩
  · match j, hu with
    | 0, hu => simp at hu; subst hu; simp [go_sem]
    | 1, hu => simp at hu; subst hu; simp [go_sem]
  · match j, hu, hr with
    | 0, hu, hr =>
      simp at hu hr
      subst hu hr
      refine ⟨_, 1, rfl, by simp, by unfold maxLen; omega, (fun e => by cases e), fun _ => ⟨w.heap.size, 0, rfl, by omega, fun j hj => ?_⟩⟩
      match j, hj with
      | 0, _ => simp [go_sem]; rw [World.cell?_alloc_mark]; rfl
    | 1, hu, hr =>
      simp at hu hr
      subst hu hr
      exact ⟨none, 0, rfl, by simp, by unfold maxLen; omega, fun _ => rfl, fun h => absurd rfl h⟩

set_option maxHeartbeats 1000000 in
theorem small_any (w : World) : Calls Try.prog 9 #[] w fun e w' => e = .returned (.bool true) ∧ Below w.heap.size w w' := by
  have kc := fun (w : World) (C : Array Value) (n c : Nat) => Lib.run_convert_bytes_const (P := Try.prog) w 22 5 C n c Try.underlying22 Try.underlying5
  obtain ⟨i0, hi, hz0, hz1, hz2⟩ := info_parts Try.infoU8
  have HL := hid (small_lists w)
  go_enter Try.func9, Try.ntmps9
  go_wp2_with fail
  refine (row_ok (w.heap.size + 2) _ 2 [[97], []] _ (by simp) HL.out (by simp) (by intro r hr; simp at hr; rcases hr with rfl | rfl <;> simp)).mono ?_
  rintro e w1 ⟨v1, rfl, hown1, hbel1⟩
  have hb1 : Below w.heap.size w w1 := (((Below.refl _ _).alloc (Nat.le_refl _) _).alloc (by simp) _).trans (hbel1.mono (by simp; omega))
  rw [show rowBytes [[97], []] = smallRow from rfl] at hown1
  have hsz1 := hb1.size
  clear hbel1 kc
  have hsh1 := (shows_of_owns hown1).2
  go_wp2_with (first
    | (at_builtin; refine wpList_append_shows _ rfl (.tmp 14) (.tmp 15) 22 rfl w1.heap.size 5 i0 Try.underlying22 hi hz0 hz1 hz2 _ 0 [] rfl (World.ownsRow_made w1 #[] 0 (Nat.le_refl _) (by unfold maxLen; omega) rfl) w1.heap.size _ smallRow rfl (hsh1.alloc (Nat.le_refl _) _) (by simp [smallRow]) (by simp) ?_; intro v2 w2 hown2 hg2 _; simp only [Nat.zero_add, List.nil_append] at hown2)
    | (at_builtin; refine wpList_append_own _ rfl (.tmp 16) (.tmp 17) 22 rfl w1.heap.size 5 i0 (.int .u8 0) 1 1 Try.underlying22 hi hz0 hz1 hz2 rfl (by decide) _ _ _ rfl (hown2.alloc _) ⟨w2.heap.size, 0, none⟩ 1 1 [.int .u8 9] rfl rfl (one_cell _ _ _) (by intro u hu; simp at hu; subst hu; rfl) (by simp [smallRow, maxLen]) (by simp [smallRow]) (by have := hg2.size; simp at this ⊢; omega) ?_; intro v3 w3 hown3 hg3 _)
    | fail)
  have hb12 : Below w1.heap.size w1 w2 := ((Below.refl _ _).alloc (Nat.le_refl _) _).grown hg2 (by simp) (fun q hq => by have hq' : some w1.heap.size = some q := hq; cases hq'; exact Nat.le_refl _)
  have hb13 : Below w1.heap.size w1 w3 := (hb12.alloc hb12.size _).grown hg3 (by have := hb12.size; simp; omega) (fun q hq => (hown2.lt q hq).1)
  rw [small_nine] at hown3
  have hsh3 := (shows_of_owns hown3).2
  have hsz3 := hb13.size
  refine (takeRow_any w3.heap.size _ (smallRow ++ [9]) w3 hsh3 (Nat.le_refl _)).mono ?_
  rintro e w4 ⟨v4, rfl, hrows, hbel4⟩
  rw [show trow (smallRow ++ [9]) = (0, [[97], []], 13) from by kernel_rfl] at hrows ⊢
  obtain ⟨vs, hown4, _⟩ := hrows
  have hb14 : Below w1.heap.size w1 w4 := hb13.trans (hbel4.mono hsz3)
  have hsh4 := hsh1.below hb14
  have hb4 := hb1.trans (hb14.mono hsz1)
  have hs1 := run_string_shows (P := Try.prog) 22 5 9 Try.underlying22 Try.underlying5 Try.underlying9 hsh4
  have hl4 : ∃ a4 c4, v4 = .slice a4 2 c4 := by
    rcases hown4.2 with ⟨e, h0⟩ | ⟨g, cap, _, e, _⟩
    · simp at h0
    · exact ⟨_, _, e⟩
  obtain ⟨a4, c4, rfl⟩ := hl4
  have hsz4 := hb4.size
  clear hb12 hb13 hb14 hsh1 hsh3 hsh4 hown1 hown2 hown3 hown4 hg2 hg3 hbel4 hb1 HL hsz3 hsz1
  have hq1 : ((str8 smallRow).toList == [0, 0, 0, 2, 0, 0, 0, 1, 97, 0, 0, 0, 0]) = true := by decide +kernel
  go_wp2_with fail
  refine (num_any 258 w4).mono ?_
  rintro e w5 ⟨v5, rfl, hown5, hbel5⟩
  have hb5 := hb4.trans (hbel5.mono hsz4)
  have hs5 := run_string_shows (P := Try.prog) 22 5 9 Try.underlying22 Try.underlying5 Try.underlying9 (shows_of_owns hown5).2
  have hq5 : ((str8 (be (u64of 258) 8)).toList == [0, 0, 0, 0, 0, 0, 1, 2]) = true := by decide +kernel
  clear hown5 hbel5 hb4
  go_wp2
  go_ret
  exact ⟨rfl, hb5⟩
end Go.Proofs.Ytknanockidellaa
