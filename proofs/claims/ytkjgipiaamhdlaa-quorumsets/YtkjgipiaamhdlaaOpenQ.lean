/- How arguments that are slices of numbers, and slices of texts, are read. -/
import Derived.Test.YtkjgipiaamhdlaaQAgr
import Derived.ProofKit
import Derived.OpenShut
import Derived.ShutString
import Derived.ChangeOld
import Derived.SliceStrings
import Derived.SizedLaws
namespace Go.Proofs.Ytkjgipiaamhdlaa
open Go.RowKit Go.ChangeShapes Go.WideShapes
set_option linter.unusedVariables false
set_option maxRecDepth 20000

theorem cel_of_row (w : World) (a : Option Addr) (len cap : Nat) (zs : List Value) (hl : len ≤ cap) (hm : cap ≤ maxLen) (hz : zs.length = cap) (hn : a = none → cap = 0)
    (hc : ∀ x, a = some x → ∀ i u, zs[i]? = some u → w.cell? (x.add i) = some u) : Cel w.heap.size w (.slice a len cap) (zs.take len) := by
  have hlen : (zs.take len).length = len := by simp; omega
  refine ⟨a, cap, by rw [hlen], by omega, hm, hn, fun hne => ?_⟩
  have hpos : 0 < len := by
    rcases Nat.eq_zero_or_pos len with e | e
    · exact absurd (List.eq_nil_of_length_eq_zero (by omega)) hne
    · exact e
  cases a with
  | none => exact absurd (hn rfl) (by omega)
  | some x =>
    obtain ⟨b, off, spot⟩ := x
    have h0 := hc _ rfl 0 zs[0] (List.getElem?_eq_getElem (by omega))
    have hspot : spot = none := by simpa [Addr.add] using World.cell?_spot h0
    subst hspot
    refine ⟨b, off, rfl, World.block_lt_of_cell? w _ h0, fun j u hj => ?_⟩
    have hjl : j < len := by have := (List.getElem?_eq_some_iff.1 hj).1; omega
    rw [List.getElem?_take, if_pos hjl] at hj
    have h1 := hc _ rfl j u hj
    rw [Addr.add_lit] at h1
    exact h1

theorem all_weights {H : Type} {P : Program} {e : TypeId} {d : DataW H} {n : Nat} (hn : n ∈ d.weights P e) : ∀ l : List (DataW H), d ∈ l → n ∈ DataW.weightsAll P e l
  | [], h => by simp at h
  | x :: r, h => by
    rw [DataW.weightsAll, List.mem_append]
    rcases List.mem_cons.1 h with rfl | h
    · exact .inl hn
    · exact .inr (all_weights hn r h)

theorem Try.cellsInt : Try.prog.cellsOf 3 = 1 := by kernel_rfl
theorem Try.cellsStr : Try.prog.cellsOf 9 = 1 := by kernel_rfl
theorem Try.bytesInt : Try.prog.bytesOf 3 = 8 := by kernel_rfl

section
variable {H : Type} {enc : TypeId × Value → H} {w : World} {base : Nat} {held : Bool}

theorem ints_of_trod {fuel : Nat} {a : Option Addr} {len cap : Nat} {x : DataW H × List MemPlace} (h : DataW.trod enc Try.prog w base (fun _ => true) held fuel 28 [.slice a len cap] = some x) (hsz : ∀ n ∈ x.1.weights Try.prog 28, n ≤ reachBytes) :
    ∃ l, Ints w.heap.size w (.slice a len cap) l ∧ l.length * 8 ≤ 140737488351232 := by
  rcases open_ints Try.underlying28 Try.underlying3 Try.cellsInt h with ⟨hcs, _⟩ | ⟨y, l, c, zs, hcs, _, hl, hm, hz, hx, hcell, hwz⟩
  · simp only [List.cons.injEq, Value.slice.injEq, and_true] at hcs
    obtain ⟨rfl, rfl, rfl⟩ := hcs
    exact ⟨[], ⟨⟨none, 0, rfl, Nat.le_refl _, Nat.zero_le _, fun _ => rfl, fun h => absurd rfl h⟩, by simp⟩, by simp⟩
  · simp only [List.cons.injEq, Value.slice.injEq, and_true] at hcs
    obtain ⟨rfl, rfl, rfl⟩ := hcs
    simp only [if_true] at hz
    refine ⟨zs.take len, ⟨?_, fun z hz2 => I64.of_wf (hwz z (List.mem_of_mem_take hz2))⟩, ?_⟩
    · have := cel_of_row w (some y) len cap (intC zs) hl hm (by rw [intC_len]; exact hz) (fun e => by cases e) (fun x hx i u hi => by
        cases hx
        have hil : i < zs.length := by have := (List.getElem?_eq_some_iff.1 hi).1; rwa [intC_len] at this
        have h1 := hcell i hil
        rw [intC_at hil] at hi
        cases hi
        rw [h1, List.getD_eq_getElem?_getD, List.getElem?_eq_getElem hil]
        rfl)
      unfold intC at this ⊢
      rw [List.map_take]
      exact this
    · have := hsz ((zs.length) * 8) (by
        rw [hx]
        simp only [DataW.weights, Try.underlying28, Try.bytesInt]
        refine List.mem_cons.2 (.inl ?_)
        simp [lits]
        omega)
      simp only [reachBytes] at this
      simp
      omega

theorem strs_of_trod {fuel : Nat} {a : Option Addr} {len cap : Nat} {x : DataW H × List MemPlace} (h : DataW.trod enc Try.prog w base (fun _ => true) held fuel 35 [.slice a len cap] = some x) (hsz : ∀ n ∈ x.1.weights Try.prog 35, n ≤ reachBytes) :
    ∃ ts, Strs w.heap.size w (.slice a len cap) ts := by
  rcases open_strings Try.underlying35 Try.underlying9 Try.cellsStr h with ⟨hcs, _⟩ | ⟨y, l, c, ss, hcs, _, hl, hm, hz, hx, hcell, hsm⟩
  · simp only [List.cons.injEq, Value.slice.injEq, and_true] at hcs
    obtain ⟨rfl, rfl, rfl⟩ := hcs
    exact ⟨[], ⟨⟨none, 0, rfl, Nat.le_refl _, Nat.zero_le _, fun _ => rfl, fun h => absurd rfl h⟩, by simp⟩⟩
  · simp only [List.cons.injEq, Value.slice.injEq, and_true] at hcs
    obtain ⟨rfl, rfl, rfl⟩ := hcs
    simp only [if_true] at hz
    have e0 : strC (ss.map fun s => s.data.toList) = ss.map fun s => .string s := by
      unfold strC
      rw [List.map_map]
      exact List.map_congr_left fun s _ => by simp [str8_of]
    refine ⟨(ss.take len).map fun s => s.data.toList, ⟨?_, fun t ht => ?_⟩⟩
    · have := cel_of_row w (some y) len cap (strC (ss.map fun s => s.data.toList)) hl hm (by rw [strC_len, List.length_map]; exact hz) (fun e => by cases e) (fun x hx i u hi => by
        cases hx
        rw [e0] at hi
        have hil : i < ss.length := by have := (List.getElem?_eq_some_iff.1 hi).1; simpa using this
        have h1 := hcell i hil
        rw [List.getElem?_map, List.getElem?_eq_getElem hil] at hi
        cases hi
        rw [h1, List.getD_eq_getElem?_getD, List.getElem?_eq_getElem hil]
        rfl)
      rw [List.map_take]
      unfold strC at this ⊢
      rw [List.map_take]
      exact this
    · obtain ⟨s, hs, rfl⟩ := List.mem_map.1 ht
      have := hsz s.data.toList.length (by
        rw [hx]
        simp only [DataW.weights, Try.underlying35]
        refine List.mem_cons_of_mem _ (List.mem_append.2 (.inl (all_weights (d := .lit (.string s.data.toList)) (by simp [DataW.weights]) _ (List.mem_map.2 ⟨s, hs, rfl⟩)))))
      simp only [reachBytes] at this
      omega
end
end Go.Proofs.Ytkjgipiaamhdlaa
