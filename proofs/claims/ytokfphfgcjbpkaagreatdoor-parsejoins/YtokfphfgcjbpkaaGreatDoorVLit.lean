/- Contract of value.Literal. -/
import Derived.Test.YtokfphfgcjbpkaaGreatDoorVRight
import Derived.Test.YtokfphfgcjbpkaaGreatDoorLaysV
import Derived.Test.YtokfphfgcjbpkaaGreatDoorVDbl
namespace Go.Proofs.YtokfphfgcjbpkaaGreatDoor
open Go.RowKit Go.Shelf
set_option linter.unusedVariables false
set_option linter.unusedSimpArgs false
set_option maxRecDepth 20000

/-- What the library's contracts ask of its package variables: a table of powers, a number. -/
structure TabV (w : World) : Prop where
  lt : 5 < w.heap.size
  max : ∃ m, w.cell? ⟨2, 0, none⟩ = some (.int .i64 m)
  pow : Lib.TabIs Tryz.prog w "internal/strconv.uint64pow10" .u64 Lib.pow10Tab

theorem TabV.below {w w' : World} {B : Nat} (h : TabV w) (hb : Below B w w') (hB : 5 < B) : TabV w' := by
  refine ⟨Nat.lt_of_lt_of_le h.lt hb.size, ?_, ?_⟩
  · obtain ⟨m, hm⟩ := h.max
    exact ⟨m, by rw [hb.cell (p := ⟨2, 0, none⟩) (by show 2 < B; omega)]; exact hm⟩
  · have hp := h.pow
    unfold Lib.TabIs World.var? at hp ⊢
    rw [laysI.m17] at hp ⊢
    have e : w'.heap[renV.g 17]? = w.heap[renV.g 17]? := hb.block _ (by rw [numR.2.2.2]; omega)
    simp only [Option.bind_some] at hp ⊢
    rw [e]
    exact hp

theorem str8_add (a b : List UInt8) : str8 a ++ str8 b = str8 (a ++ b) := by
  apply ByteArray.ext
  simp [str8]

/-- Literal's answer. -/
def litV (x : Vl) : List UInt8 := if x.k = 1 then Lib.itoa x.n else if x.k = 2 then [39] ++ (dbl x.s ++ [39]) else [78, 85, 76, 76]

theorem replaceAll_any (s : List UInt8) (w : World) (hT : TabV w) (hs : s.length < 4294967281) :
    Calls Tryz.prog 115 #[.string (str8 s), .string ⟨#[39]⟩, .string ⟨#[39, 39]⟩] w fun e w' => e = .returned (.string (str8 (dbl s))) ∧ Below w.heap.size w w' := by
  obtain ⟨m, hm⟩ := hT.max
  have hc := Lib.countB_mul_le ⟨#[39]⟩ (by decide) (str8 s).size (str8 s) (Nat.le_refl _)
  have h1 : (⟨#[39]⟩ : ByteArray).size = 1 := rfl
  have h2 : (⟨#[39, 39]⟩ : ByteArray).size = 2 := rfl
  rw [h1, str8_size] at hc
  have := Any.strings_ReplaceAll laysR extraR (str8 s) ⟨#[39]⟩ ⟨#[39, 39]⟩ m w (by rw [str8_size]; exact hs) (by rw [numR.2.2.1]; exact hm) (by decide) (by rw [h2, str8_size]; omega)
  rw [numR.1] at this
  rw [← replaceAll_dbl]
  exact this

theorem itoa_any (n : Int) (w : World) (hT : TabV w) (h0 : -9223372036854775808 ≤ n) (h1 : n ≤ 9223372036854775807) :
    Calls Tryz.prog 72 #[.int .i64 n] w fun e w' => e = .returned (.string (str8 (Lib.itoa n))) ∧ Below w.heap.size w w' := by
  have := Any.strconv_Itoa laysI n h0 h1 w hT.pow
  rw [numR.2.1] at this
  refine this.mono fun e w' ⟨he, k, os, hw⟩ => ⟨he, ?_⟩
  subst hw
  exact ⟨rfl, rfl, rfl, by simp [Sort.grow, World.drewN], fun j hj => by simp [Sort.grow, World.drewN, Array.getElem?_append_left hj]⟩

set_option maxHeartbeats 1000000 in
set_option maxRecDepth 100000 in
theorem literal_any (k n : Int) (s : List UInt8) (w : World) (hT : TabV w) (h0 : -9223372036854775808 ≤ n) (h1 : n ≤ 9223372036854775807) (hs : s.length < 4294967281) :
    Calls Tryz.prog 73 #[.agg #[.int .i64 k, .int .i64 n, .string (str8 s)]] w fun e w' => e = .returned (.string (str8 (litV ⟨k, n, s⟩))) ∧ Below w.heap.size w w' := by
  obtain ⟨W, hW, hbW, hzW, hcW⟩ := box3 w (.int .i64 k) (.int .i64 n) (.string (str8 s)) 37
  have c0 := hcW W (Below.refl _ _)
  have HI := hid (itoa_any n W (hT.below hbW hT.lt) h0 h1)
  have HR := hid (replaceAll_any s W (hT.below hbW hT.lt) hs)
  have HB := hid hbW
  clear hcW hbW
  by_cases hk1 : k = 1
  · have hd : litV ⟨k, n, s⟩ = Lib.itoa n := by rw [litV, if_pos hk1]
    rw [hd]
    clear hd
    subst hk1
    go_enter Tryz.func73, Tryz.ntmps73
    go_wp2_with fail
    refine HI.out.mono ?_
    rintro e w1 ⟨rfl, hb1⟩
    go_wp2
    go_ret
    exact ⟨rfl, HB.out.trans (hb1.mono HB.out.size)⟩
  · have hk1' : (k == 1) = false := by simpa using hk1
    by_cases hk2 : k = 2
    · have hd : litV ⟨k, n, s⟩ = [39] ++ (dbl s ++ [39]) := by rw [litV, if_neg hk1, if_pos hk2]
      have hle := dbl_le s
      obtain ⟨L, hL⟩ : ∃ L, dbl s = L := ⟨_, rfl⟩
      rw [hL] at hd HR hle
      rw [hd]
      clear hd hL
      subst hk2
      go_enter Tryz.func73, Tryz.ntmps73
      go_wp2_with fail
      refine HR.out.mono ?_
      rintro e w1 ⟨rfl, hb1⟩
      have ha1 : ∀ w, (Op.stringOp .add ⟨#[39]⟩ (str8 L)).run Tryz.prog w = .ok (.string (str8 (39 :: L))) w := fun w => by
        rw [run_string_add_sum w _ _ (by rw [str8_size]; show 1 + L.length ≤ _; omega)]
        exact congrArg (fun x => Result.ok (Value.string x) w) (str8_add [39] L)
      have ha2 : ∀ w, (Op.stringOp .add (str8 (39 :: L)) ⟨#[39]⟩).run Tryz.prog w = .ok (.string (str8 ([39] ++ (L ++ [39])))) w := fun w => by
        rw [run_string_add_sum w _ _ (by rw [str8_size, List.length_cons]; show L.length + 1 + 1 ≤ _; omega)]
        exact congrArg (fun x => Result.ok (Value.string x) w) (str8_add (39 :: L) [39])
      clear hle
      go_wp2
      go_ret
      exact ⟨rfl, HB.out.trans (hb1.mono HB.out.size)⟩
    · have hk2' : (k == 2) = false := by simpa using hk2
      have hd : litV ⟨k, n, s⟩ = [78, 85, 76, 76] := by rw [litV, if_neg hk1, if_neg hk2]
      rw [hd]
      clear hd
      go_enter Tryz.func73, Tryz.ntmps73
      go_wp2
      go_ret
      exact ⟨rfl, HB.out⟩
end Go.Proofs.YtokfphfgcjbpkaaGreatDoor
