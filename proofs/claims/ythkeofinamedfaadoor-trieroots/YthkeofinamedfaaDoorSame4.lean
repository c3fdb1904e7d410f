/- Contract of the document's own Same, where the entries are the same. -/
import Derived.Test.YthkeofinamedfaaDoorEntsF
import Derived.Deep.QuietTactic
import Derived.BigQuiet
namespace Go.Proofs.YthkeofinamedfaaDoor
open Go.RowKit Go.Shelf
set_option linter.unusedVariables false
set_option linter.unusedSimpArgs false
set_option maxRecDepth 20000

theorem str4 {B : Nat} {w : World} {v : Value} {bs : List UInt8} (h : Shows B w v bs) : (convert 28 9 v).run Tryd.prog w = .ok (.string (str8 bs)) w :=
  run_string_shows (P := Tryd.prog) 28 5 9 Tryd.underlying28 Tryd.underlying5 Tryd.underlying9 h

theorem same_any (B C : Nat) (v u : Value) (xs ys : List EntV) (w : World) (hE : Ents B w v xs) (hF : Ents C w u ys) (hxy : xs.map EntV.ent = ys.map EntV.ent) :
    Calls Tryd.prog 16 #[v, u] w fun e w' => e = .returned (.bool true) ∧ ∃ q, w' = w.drewN q := by
  obtain ⟨a, c, rfl, hc1, hc2, _⟩ := id hE
  obtain ⟨a', c', rfl, hd1, hd2, _⟩ := id hF
  unfold maxLen at hc2 hd2
  have hlen : ys.length = xs.length := by have := congrArg List.length hxy; simp at this; omega
  have HE := hid hE
  have HF := hid hF
  have HXY := hid hxy
  rw [hlen] at HF ⊢
  have HL := hid hlen
  clear hE hF hxy hlen hd1
  go_enter Tryd.func16, Tryd.ntmps16
  go_wp2_with fail
  go_loopw [5] (fun i wr => ∃ k : Nat, k ≤ xs.length ∧ i = .int .i64 k ∧ Hid (∃ q, wr = w.drewN q)) (fun i _ => xs.length - (intOf i).toNat)
  case atStart => exact ⟨0, Nat.zero_le _, rfl, hid ⟨0, rfl⟩⟩
  case round =>
    obtain ⟨k, hk, rfl, HD⟩ := hrel
    have HBB : Hid (∀ n, Below n w wr) := hid (fun n => by obtain ⟨q, hq⟩ := HD.out; rw [hq]; exact below_drewN _ _ q)
    have HD2 : Hid (∀ m, ∃ q, wr.drewN m = w.drewN q) := hid (fun m => by obtain ⟨q, hq⟩ := HD.out; exact ⟨q + m, by rw [hq, World.drewN_drewN]⟩)
    by_cases hlt : k < xs.length
    · obtain ⟨b, off, ka, kc, va, vc, kb, vb, rfl, hb, hx, c0, c1, s1, s2⟩ := (HE.out.below (HBB.out _)).at k hlt
      obtain ⟨b', off', la, lc, ua, uc, lb, ub, rfl, hb', hy, d0, d1, t1, t2⟩ := (HF.out.below (HBB.out _)).at k (by rw [HL.out]; exact hlt)
      have e1 : (lb, ub) = (kb, vb) := by
        have h1 := congrArg (fun l => l[k]?) HXY.out
        simp only [List.getElem?_map, hx, hy, Option.map_some, EntV.ent, Option.some.injEq] at h1
        exact h1.symm
      simp only [Prod.mk.injEq] at e1
      obtain ⟨rfl, rfl⟩ := e1
      have e1 := fun nq => str4 (s1.below (below_drewN _ wr nq))
      have e2 := fun nq => str4 (s2.below (below_drewN _ wr nq))
      have e3 := fun nq => str4 (t1.below (below_drewN _ wr nq))
      have e4 := fun nq => str4 (t2.below (below_drewN _ wr nq))
      have hki : (k : Int) < (xs.length : Int) := by omega
      have hk0 : (0 : Int) ≤ (k : Int) := by omega
      have HKX := hid hlt
      clear s1 s2 t1 t2 hx hy
      go_wp2_with fail
      go_quiet (fail)
      go_wp2_with fail
      go_roundw
      case rel => exact ⟨k + 1, HKX.out, by go_num, hid (HD2.out _)⟩
      case measure => have := HKX.out; simp [intOf]; omega
    · have hki : (xs.length : Int) ≤ (k : Int) := by omega
      go_wp2
      go_ret
      exact ⟨rfl, HD.out⟩
end Go.Proofs.YthkeofinamedfaaDoor
