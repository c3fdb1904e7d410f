/- The law's own short: what is short has few columns. -/
import Derived.Test.YtaaggohjmhifbaaGreatDoorP39
namespace Go.Proofs.YtaaggohjmhifbaaGreatDoor
open Go.RowKit Go.Shelf Go.Lib
set_option linter.unusedVariables false
set_option linter.unusedSimpArgs false
set_option maxRecDepth 20000
def AnsS (n : Nat) (e : Ending) : Prop := ∃ b : Bool, e = .returned (.bool b) ∧ (b = true → n ≤ 41)
set_option maxHeartbeats 1000000 in
theorem shortP_any (S : Nat → Prop) (t : Tb) (cs : List Value) (w : World) (h : TbE S w t cs) :
    Calls Tryz.prog 13 #[.agg cs.toArray] w fun e w' => AnsS t.cols.length e ∧ Below w.heap.size w w' := by
  obtain ⟨a1, n1, c1, rfl, hs⟩ := h
  have hn1 : n1 = t.cols.length := by obtain ⟨_, _, hf⟩ := hs.form; simp only [Value.slice.injEq] at hf; exact hf.2.1
  obtain ⟨nm, xs, pr⟩ := t
  dsimp only at hs hn1 ⊢
  subst hn1
  obtain ⟨W, hW, hbW, hzW, hcA⟩ := box8 w (.cells #[.string (str8 nm), .slice a1 xs.length c1, .int .i64 pr] 31)
  have kA := cells3f hcA
  have HCA := hid hcA
  have HB := hid hbW
  by_cases hne : xs = []
  · subst hne
    simp only [List.length_nil] at hW kA
    clear hbW hcA hs HCA
    go_enter Tryz.func13, Tryz.ntmps13
    go_wp2_with fail
    try rw [hW]
    go_rounds 1
    go_ret
    exact ⟨⟨_, rfl, fun _ => by simp⟩, HB.out⟩
  · obtain ⟨b1, o1, d1, e1, hlc1, hcm1, _, hlt1, hel1⟩ := cols_at hs hne
    simp only [Value.slice.injEq] at e1
    obtain ⟨rfl, _, rfl⟩ := e1
    unfold maxLen at hcm1
    have H1 := hid hel1
    clear hbW hcA hs hel1 hne
    go_enter Tryz.func13, Tryz.ntmps13
    go_wp2_with fail
    try rw [hW]
    clear hW kA
    go_loopw [3] (fun i wr => ∃ k : Nat, k ≤ xs.length ∧ k ≤ 41 ∧ i = .int .i64 k ∧ Below W.heap.size W wr) (fun i _ => xs.length - (intOf i).toNat)
    case atStart => exact ⟨0, Nat.zero_le _, by omega, rfl, Below.refl _ _⟩
    case round =>
      obtain ⟨j, hj, hj41, rfl, hbr⟩ := hrel
      have hsr := hbr.size
      have kA := cells3f ((hbr.block w.heap.size (by omega)).trans HCA.out)
      have hBR := HB.out.trans (hbr.mono HB.out.size)
      have HBR := hid hbr
      have HBRW := hid hBR
      by_cases hlt : j < xs.length
      · obtain ⟨x, hx⟩ : ∃ x, xs[j]? = some x := ⟨_, List.getElem?_eq_getElem hlt⟩
        have hlt' : (j : Int) < (xs.length : Int) := by omega
        have p0 := H1.out wr hBR j x hx 0 _ rfl
        rw [Nat.add_zero] at p0
        clear hbr hBR hx
        by_cases q1 : (4096 : Int) < ((str8 x.nm).size : Int)
        · go_wp2
          go_ret
          exact ⟨⟨_, rfl, fun h => by cases h⟩, HBRW.out⟩
        · by_cases q2 : (40 : Int) < (j : Int)
          · go_wp2
            go_ret
            exact ⟨⟨_, rfl, fun h => by cases h⟩, HBRW.out⟩
          · go_wp2
            go_roundw
            case rel => exact ⟨j + 1, by omega, by omega, by go_num, HBR.out⟩
            case measure => simp [intOf]; omega
      · have hlt' : ¬ ((j : Int) < (xs.length : Int)) := by omega
        clear hbr hBR
        go_wp2
        go_ret
        exact ⟨⟨_, rfl, fun _ => by show xs.length ≤ 41; omega⟩, HBRW.out⟩
end Go.Proofs.YtaaggohjmhifbaaGreatDoor
