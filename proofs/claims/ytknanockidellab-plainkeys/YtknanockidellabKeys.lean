/- For every int, PlainKeys returns true: the key of a number and that of the next one differ by one. -/
import Derived.Test.YtknanockidellabSmall
import Derived.Deep.QuietTactic
import Derived.BigQuiet
namespace Go.Proofs.Ytknanockidellab
open Go.RowKit
set_option linter.unusedVariables false

theorem be_at (n : Nat) : ∀ (s j : Nat), j < s → ((be n s)[j]?.getD 0).toNat = n / 256 ^ (s - 1 - j) % 256
  | s + 1, 0, _ => by simp [be, UInt8.toNat_ofNat']
  | s + 1, j + 1, h => by
    have := be_at n s j (by omega)
    rw [be, List.getElem?_cons_succ, this]
    congr 3
    omega

/-- A carry goes on. -/
theorem carry_on (K q : Nat) (h1 : K % 256 ^ q = 256 ^ q - 1) (h2 : K / 256 ^ q % 256 = 255) : (K + 1) / 256 ^ q % 256 = 0 ∧ K % 256 ^ (q + 1) = 256 ^ (q + 1) - 1 := by
  have hp : 0 < 256 ^ q := Nat.pow_pos (by omega)
  rw [Nat.pow_succ, Nat.mod_mul]
  have hd := Nat.div_add_mod K (256 ^ q)
  generalize 256 ^ q = b at *
  have e : (K + 1) / b = K / b + 1 := by
    have : K + 1 = b * (K / b + 1) := by rw [Nat.mul_add]; omega
    rw [this, Nat.mul_div_cancel_left _ hp]
  rw [e, h1, h2]
  constructor
  · omega
  · omega

/-- A carry ends. -/
theorem carry_end (K q : Nat) (h1 : K % 256 ^ q = 256 ^ q - 1) (h2 : K / 256 ^ q % 256 ≠ 255) :
    (K + 1) / 256 ^ q % 256 = K / 256 ^ q % 256 + 1 ∧ ∀ m, q < m → (K + 1) / 256 ^ m = K / 256 ^ m := by
  have hp : 0 < 256 ^ q := Nat.pow_pos (by omega)
  have e : (K + 1) / 256 ^ q = K / 256 ^ q + 1 := by
    have hd := Nat.div_add_mod K (256 ^ q)
    generalize 256 ^ q = b at *
    have : K + 1 = b * (K / b + 1) := by rw [Nat.mul_add]; omega
    rw [this, Nat.mul_div_cancel_left _ hp]
  refine ⟨by rw [e]; omega, fun m hm => ?_⟩
  have em : 256 ^ m = 256 ^ q * (256 * 256 ^ (m - q - 1)) := by
    rw [← Nat.pow_succ', ← Nat.pow_add]
    congr 1
    omega
  have d : ∀ x : Nat, x / (256 ^ q * (256 * 256 ^ (m - q - 1))) = x / 256 ^ q / 256 / 256 ^ (m - q - 1) := fun x => by rw [Nat.div_div_eq_div_mul, Nat.div_div_eq_div_mul]
  rw [em, d, d, e]
  have e2 : (K / 256 ^ q + 1) / 256 = K / 256 ^ q / 256 := by omega
  rw [e2]

theorem take_ext (a b : List UInt8) (p : Nat) (ha : p ≤ a.length) (hb : p ≤ b.length) (h : ∀ j, j < p → (a[j]?.getD 0).toNat = (b[j]?.getD 0).toNat) : a.take p = b.take p := by
  apply List.ext_getElem (by simp; omega)
  intro j h1 h2
  simp at h1 h2
  have := h j (by omega)
  rw [List.getElem?_eq_getElem (by omega), List.getElem?_eq_getElem (by omega)] at this
  simp at this
  simpa using UInt8.toNat_inj.1 this

theorem Shows.drewN {B : Nat} {w : World} {v : Value} {bs : List UInt8} (h : Shows B w v bs) (n : Nat) : Shows B (w.drewN n) v bs := by
  obtain ⟨a, c, hv, h1, h2, hn, h3⟩ := h
  refine ⟨a, c, hv, h1, h2, hn, fun hne => ?_⟩
  obtain ⟨b, off, ha, hlt, hc⟩ := h3 hne
  exact ⟨b, off, ha, hlt, fun j hj => by rw [← hc j hj]; rfl⟩

theorem u64_max : u64of (9223372036854775807 + 9223372036854775808) = 18446744073709551615 := by decide +kernel

theorem u64_key (n : Int) (h0 : -9223372036854775808 ≤ n) (h1 : n ≤ 9223372036854775807) : u64of (n + 9223372036854775808) = (n + 9223372036854775808).toNat := by
  unfold u64of
  congr 1
  exact Int.emod_eq_of_lt (by omega) (by omega)

set_option maxHeartbeats 1000000 in
theorem keys_max (w : World) : Calls Try.prog 4 #[.int .i64 9223372036854775807] w fun e w' => e = .returned (.bool true) ∧ Below w.heap.size w w' := by
  go_enter Try.func4, Try.ntmps4
  go_wp2_with fail
  refine (small_any w).mono ?_
  rintro e w1 ⟨rfl, hb1⟩
  have hsz1 := hb1.size
  go_wp2_with fail
  refine (numKey_any 9223372036854775807 w1).mono ?_
  rintro e w2 ⟨v2, rfl, hown2, hbel2⟩
  have hb2 := hb1.trans (hbel2.mono hsz1)
  have hs2 := run_string_shows (P := Try.prog) 24 5 9 Try.underlying24 Try.underlying5 Try.underlying9 (shows_of_owns hown2).2
  have hl : ∃ a c, v2 = .slice a 8 c := by
    rcases hown2.2 with ⟨e, h0⟩ | ⟨g, cap, _, e, _⟩
    · simp at h0
    · exact ⟨_, _, e⟩
  obtain ⟨a, c, rfl⟩ := hl
  have hq : ((str8 (be (u64of (9223372036854775807 + 9223372036854775808)) 8)).toList == [255, 255, 255, 255, 255, 255, 255, 255]) = true := by decide +kernel
  clear hown2 hbel2 hb1
  generalize str8 (be (u64of (9223372036854775807 + 9223372036854775808)) 8) = sv at *
  go_wp2
  go_ret
  exact ⟨rfl, hb2⟩

set_option maxHeartbeats 2000000 in
theorem keys_less (n : Int) (w : World) (h0 : -9223372036854775808 ≤ n) (h1 : n < 9223372036854775807) : Calls Try.prog 4 #[.int .i64 n] w fun e w' => e = .returned (.bool true) ∧ Below w.heap.size w w' := by
  have hne : (n == 9223372036854775807) = false := by rw [beq_eq_false_iff_ne]; omega
  go_enter Try.func4, Try.ntmps4
  go_wp2_with fail
  refine (small_any w).mono ?_
  rintro e w1 ⟨rfl, hb1⟩
  have hsz1 := hb1.size
  go_wp2_with fail
  refine (numKey_any n w1).mono ?_
  rintro e w2 ⟨v2, rfl, hown2, hbel2⟩
  have hb2 := hb1.trans (hbel2.mono hsz1)
  have hsz2 := hb2.size
  go_wp2_with fail
  refine (numKey_any (n + 1) w2).mono ?_
  rintro e w3 ⟨v3, rfl, hown3, hbel3⟩
  have hb3 := hb2.trans (hbel3.mono hsz2)
  have hown2' := ownsRow_below hown2 hbel3
  rw [u64_key n (by omega) (by omega)] at hown2'
  rw [u64_key (n + 1) (by omega) (by omega), show (n + 1 + 9223372036854775808).toNat = (n + 9223372036854775808).toNat + 1 from by omega] at hown3
  have hK : (n + 9223372036854775808).toNat < 18446744073709551615 := by omega
  generalize (n + 9223372036854775808).toNat = K at *
  have hsh2 := (shows_of_owns hown2').2
  have hsh3 := (shows_of_owns hown3).2
  obtain ⟨g2, c2, rfl⟩ : ∃ g c, v2 = .slice (some ⟨g, 0, none⟩) 8 c := by
    rcases hown2'.2 with ⟨e, h0⟩ | ⟨g, cap, _, e, _⟩
    · simp at h0
    · exact ⟨_, _, e⟩
  obtain ⟨g3, c3, rfl⟩ : ∃ g c, v3 = .slice (some ⟨g, 0, none⟩) 8 c := by
    rcases hown3.2 with ⟨e, h0⟩ | ⟨g, cap, _, e, _⟩
    · simp at h0
    · exact ⟨_, _, e⟩
  clear hown2 hbel2 hb1 hbel3 hb2 hsz1 hsz2 hown2' hown3
  have HS2 := hid hsh2
  have HS3 := hid hsh3
  clear hsh2 hsh3
  go_wp2_with fail
  go_loop [6] (fun i => ∃ p : Nat, p ≤ 7 ∧ i = .int .i64 p ∧ Hid (K % 256 ^ (7 - p) = 256 ^ (7 - p) - 1)) (fun i => (intOf i).toNat)
  case atStart => exact ⟨7, by omega, rfl, by show K % 256 ^ (7 - 7) = 256 ^ (7 - 7) - 1; simp [Nat.mod_one]⟩
  case round =>
    obtain ⟨p, hp, rfl, HM⟩ := hrel
    have hx := hid (be_at K 8 p (by omega))
    have hy := hid (be_at (K + 1) 8 p (by omega))
    rw [show 8 - 1 - p = 7 - p from by omega] at hx hy
    obtain ⟨cx, cy⟩ : w3.cell? ⟨g2, p, none⟩ = some (.int .u8 (((be K 8)[p]?.getD 0).toNat : Int)) ∧ w3.cell? ⟨g3, p, none⟩ = some (.int .u8 (((be (K + 1) 8)[p]?.getD 0).toNat : Int)) := by
      have c2 := by8_cells HS2.out
      have c3 := by8_cells HS3.out
      have l2 : p < (be K 8).length := by rw [be_length]; omega
      have l3 : p < (be (K + 1) 8).length := by rw [be_length]; omega
      have a2 := c2.2 p (by8 (be K 8)[p]) (by rw [List.getElem?_map, List.getElem?_eq_getElem l2]; rfl)
      have a3 := c3.2 p (by8 (be (K + 1) 8)[p]) (by rw [List.getElem?_map, List.getElem?_eq_getElem l3]; rfl)
      rw [Addr.add_lit, Nat.zero_add] at a2 a3
      rw [List.getElem?_eq_getElem l2, List.getElem?_eq_getElem l3]
      exact ⟨a2, a3⟩
    by_cases h255 : K / 256 ^ (7 - p) % 256 = 255
    · obtain ⟨z1, z2⟩ := carry_on K (7 - p) HM.out h255
      have hp1 : 1 ≤ p := by
        rcases Nat.eq_zero_or_pos p with e | e
        · subst e
          exfalso
          rw [show 7 - 0 + 1 = 8 from rfl, Nat.mod_eq_of_lt (by omega)] at z2
          omega
        · exact e
      rw [hx.out, h255] at cx
      rw [hy.out, z1] at cy
      rw [show 7 - p + 1 = 7 - (p - 1) from by omega] at z2
      have HZ := hid z2
      clear z1 z2 h255 hx hy HM
      go_wp2
      go_round
      case rel => exact ⟨p - 1, by omega, by go_num, HZ⟩
      case measure => simp [intOf]; omega
    · obtain ⟨z1, z2⟩ := carry_end K (7 - p) HM.out h255
      have hpre : (be (K + 1) 8).take p = (be K 8).take p := take_ext _ _ p (by rw [be_length]; omega) (by rw [be_length]; omega) fun j hj => by
        rw [be_at K 8 j (by omega), be_at (K + 1) 8 j (by omega), z2 _ (by omega)]
      rw [hx.out] at cx
      rw [hy.out, z1] at cy
      have hlt : K / 256 ^ (7 - p) % 256 < 256 := Nat.mod_lt _ (by omega)
      have ht2 := HS2.out.take p (by rw [be_length]; omega)
      have ht3 := HS3.out.take p (by rw [be_length]; omega)
      rw [hpre] at ht3
      have hs2 := fun nq => run_string_shows (P := Try.prog) 24 5 9 Try.underlying24 Try.underlying5 Try.underlying9 (ht2.drewN nq)
      have hs3 := fun nq => run_string_shows (P := Try.prog) 24 5 9 Try.underlying24 Try.underlying5 Try.underlying9 (ht3.drewN nq)
      clear z1 z2 ht2 ht3 hpre hx hy HM
      generalize str8 ((be K 8).take p) = sv at *
      generalize K / 256 ^ (7 - p) % 256 = x at *
      have hxf : ((x : Int) == 255) = false := by rw [beq_eq_false_iff_ne]; omega
      have hx255 : x < 255 := by omega
      clear h255
      have hx1 : IntKind.u8.wrap ((x : Int) + 1) = (x : Int) + 1 := by rw [IntKind.wrap_u8]; omega
      have hp8 : (p : Int) < 8 := by omega
      have hp0 : (0 : Int) ≤ (p : Int) := by omega
      have hpc2 : (p : Int) ≤ (c2 : Int) := by
        obtain ⟨_, _, e, h, _⟩ := HS2.out
        simp only [Value.slice.injEq] at e
        rw [be_length] at h
        omega
      have hpc3 : (p : Int) ≤ (c3 : Int) := by
        obtain ⟨_, _, e, h, _⟩ := HS3.out
        simp only [Value.slice.injEq] at e
        rw [be_length] at h
        omega
      go_wp2_with fail
      go_quiet (fail)
      go_wp2
      go_ret
      exact ⟨rfl, below_drewN hb3 _⟩

theorem keys_any (n : Int) (w : World) (h0 : -9223372036854775808 ≤ n) (h1 : n ≤ 9223372036854775807) : Calls Try.prog 4 #[.int .i64 n] w fun e w' => e = .returned (.bool true) ∧ Below w.heap.size w w' := by
  by_cases h : n = 9223372036854775807
  · subst h
    exact keys_max w
  · exact keys_less n w h0 (by omega)
end Go.Proofs.Ytknanockidellab
