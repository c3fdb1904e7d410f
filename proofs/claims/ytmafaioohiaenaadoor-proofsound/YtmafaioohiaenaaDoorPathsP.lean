/- The steps of a way: they rise, they tell the key's bits, and those of the entry at its end. -/
import Derived.Test.YtmafaioohiaenaaDoorMadeF
import Derived.Test.YtmafaioohiaenaaDoorSmall4
namespace Go.Proofs.YtmafaioohiaenaaDoor
open Go.RowKit
set_option linter.unusedVariables false
set_option maxRecDepth 20000

namespace Tri
/-- Alike ahead of a place. -/
def Agree (t : Tri) (q : Nat) : Prop := ∀ e ∈ t.ents, ∀ f ∈ t.ents, ∀ i, i < q → bit e.1 i = bit f.1 i

theorem agree_right {p : Nat} {l r : Tri} (h : (fork p l r).WF) : r.Agree (p + 1) := fun e he f hf i hi => by
  obtain ⟨hl, hr, h0, h1, h2⟩ := h
  rcases Nat.lt_or_ge i p with h | h
  · exact h2 e (List.mem_append.2 (.inr he)) f (List.mem_append.2 (.inr hf)) i h
  · have : i = p := by omega
    subst this
    rw [h1 e he, h1 f hf]

theorem agree_left {p : Nat} {l r : Tri} (h : (fork p l r).WF) : l.Agree (p + 1) := fun e he f hf i hi => by
  obtain ⟨hl, hr, h0, h1, h2⟩ := h
  rcases Nat.lt_or_ge i p with h | h
  · exact h2 e (List.mem_append.2 (.inl he)) f (List.mem_append.2 (.inl hf)) i h
  · have : i = p := by omega
    subst this
    rw [h0 e he, h0 f hf]

theorem steps_ge : ∀ (t : Tri) (key : List UInt8) (q : Nat), t.WF → t.Agree q → ∀ s ∈ t.steps key, q ≤ s.1
  | leaf k v, key, q, h, ha, s, hs => by simp [steps] at hs
  | fork p l r, key, q, h, ha, s, hs => by
    have hq : q ≤ p := place_lt p l r h q ha
    simp only [steps, List.mem_cons] at hs
    rcases hs with rfl | hs
    · exact hq
    · split at hs
      · have := steps_ge r key (p + 1) h.2.1 (agree_right h) s hs; omega
      · have := steps_ge l key (p + 1) h.1 (agree_left h) s hs; omega

theorem steps_rise : ∀ (t : Tri) (key : List UInt8), t.WF → (t.steps key).Pairwise (fun a b => a.1 < b.1)
  | leaf k v, key, h => by simp [steps]
  | fork p l r, key, h => by
    simp only [steps, List.pairwise_cons]
    split
    · exact ⟨fun s hs => steps_ge r key (p + 1) h.2.1 (agree_right h) s hs, steps_rise r key h.2.1⟩
    · exact ⟨fun s hs => steps_ge l key (p + 1) h.1 (agree_left h) s hs, steps_rise l key h.1⟩

theorem steps_bits : ∀ (t : Tri) (key : List UInt8), t.WF → ∀ s ∈ t.steps key, s.2.1 = bit key s.1 ∧ bit (t.near key).1 s.1 = s.2.1 ∧ s.1 < 1080 ∧ s.2.2.length = 32
  | leaf k v, key, h, s, hs => by simp [steps] at hs
  | fork p l r, key, h, s, hs => by
    have hp := place_bound p _ _ h
    have h' := h
    obtain ⟨hl, hr, h0, h1, _⟩ := h'
    simp only [steps, List.mem_cons] at hs
    simp only [near]
    cases hb : bit key p with
    | true =>
      simp only [hb, if_true] at hs ⊢
      rcases hs with rfl | hs
      · exact ⟨hb.symm, h1 _ (near_mem r key), hp, rootT_length _⟩
      · exact steps_bits r key hr s hs
    | false =>
      simp only [hb, Bool.false_eq_true, if_false] at hs ⊢
      rcases hs with rfl | hs
      · exact ⟨hb.symm, h0 _ (near_mem l key), hp, rootT_length _⟩
      · exact steps_bits l key hl s hs
end Tri

theorem flat_at : ∀ (L : List Stp) (j : Nat) (s : Stp), (∀ s ∈ L, s.2.2.length = 32) → L[j]? = some s → (L.flatMap stepC)[j * 34]? = some (.int .i64 s.1) ∧ (L.flatMap stepC)[j * 34 + 1]? = some (.bool s.2.1)
  | [], j, s, h, hj => by simp at hj
  | x :: r, 0, s, h, hj => by
    simp at hj
    subst hj
    simp [List.flatMap_cons, stepC]
  | x :: r, j + 1, s, h, hj => by
    have hx : (stepC x).length = 34 := by simp [stepC, h x (by simp)]
    have ih := flat_at r j s (fun y hy => h y (by simp [hy])) (by simpa using hj)
    simp only [List.flatMap_cons]
    rw [List.getElem?_append_right (by rw [hx]; omega), List.getElem?_append_right (by rw [hx]; omega), hx, show (j + 1) * 34 - 34 = j * 34 by omega, show (j + 1) * 34 + 1 - 34 = j * 34 + 1 by omega]
    exact ih

/-- What a loop over a proof's steps wants. -/
theorem steps_facts (T : Option Tri) (key : List UInt8) (hT : Tri.WFO T) (j : Nat) (hj : j < (stepsO T key).length) :
    ∃ p b, (∃ s, (stepsO T key)[j]? = some s ∧ s.1 = p ∧ s.2.1 = b) ∧ ((stepsO T key).flatMap stepC)[j * 34]? = some (.int .i64 (p : Int)) ∧ ((stepsO T key).flatMap stepC)[j * 34 + 1]? = some (.bool b) ∧ b = bit key p ∧ bit (((T.map (·.near key)).map (·.1)).getD []) p = b ∧ p < 1080 := by
  cases T with
  | none => simp [stepsO] at hj
  | some t =>
    have hs := List.getElem?_eq_getElem hj
    obtain ⟨h1, h2, h3, h4⟩ := Tri.steps_bits t key hT _ (List.getElem_mem hj)
    obtain ⟨f1, f2⟩ := flat_at (t.steps key) j _ (fun s hs => (Tri.steps_bits t key hT s hs).2.2.2) hs
    exact ⟨_, _, ⟨_, hs, rfl, rfl⟩, f1, f2, h1, h2, h3⟩

theorem steps_less (T : Option Tri) (key : List UInt8) (hT : Tri.WFO T) (j : Nat) (s s' : Stp) (h : (stepsO T key)[j]? = some s) (h' : (stepsO T key)[j + 1]? = some s') : s.1 < s'.1 := by
  cases T with
  | none => simp [stepsO] at h
  | some t =>
    have hp := Tri.steps_rise t key hT
    obtain ⟨hj, e⟩ := List.getElem?_eq_some_iff.1 h
    obtain ⟨hj', e'⟩ := List.getElem?_eq_some_iff.1 h'
    have := List.pairwise_iff_getElem.1 hp j (j + 1) hj hj' (by omega)
    subst e e'
    exact this

theorem steps_few (T : Option Tri) (key : List UInt8) : (stepsO T key).length < max (Tri.entsO T).length 1 := by
  cases T with
  | none => show (0 : Nat) < max _ 1; omega
  | some t => have := Tri.steps_length t key; simp only [stepsO, Tri.entsO]; omega

theorem Acts.mono {B B' : Nat} {w : World} {v : Value} {xs : List ActV} (h : Acts B w v xs) (hB : B ≤ B') : Acts B' w v xs := by
  obtain ⟨a, c, hv, h1, h2, h3⟩ := h
  refine ⟨a, c, hv, h1, h2, fun hne => ?_⟩
  obtain ⟨b, off, ha, hlt, hc⟩ := h3 hne
  refine ⟨b, off, ha, by omega, fun j x hx => ?_⟩
  obtain ⟨c0, c1, c2, i0, s1, s2⟩ := hc j x hx
  exact ⟨c0, c1, c2, i0, s1.mono hB, s2.mono hB⟩

/-- The place of a step, and its side. -/
def plc (T : Option Tri) (key : List UInt8) (j : Nat) : Nat := ((stepsO T key)[j]?.map (·.1)).getD 0
def sid (T : Option Tri) (key : List UInt8) (j : Nat) : Bool := ((stepsO T key)[j]?.map (·.2.1)).getD false

theorem steps_cells {w : World} {B c : Nat} {a : Option Addr} {T : Option Tri} {key : List UInt8} {n : Nat} (hn : (stepsO T key).length = n) (hT : Tri.WFO T) (h : w.ownsRow B 66 34 (.slice a n c) n ((stepsO T key).flatMap stepC)) (hp : 0 < n) :
    ∃ g, a = some ⟨g, 0, none⟩ ∧ g < w.heap.size ∧ ∀ j, j < n → w.cell? ⟨g, j * 34, none⟩ = some (.int .i64 (plc T key j)) ∧ w.cell? ⟨g, j * 34 + 1, none⟩ = some (.bool (sid T key j)) ∧ sid T key j = bit key (plc T key j) ∧ bit (((T.map (·.near key)).map (·.1)).getD []) (plc T key j) = sid T key j ∧ plc T key j < 1080 ∧ (j + 1 < n → plc T key j < plc T key (j + 1)) := by
  obtain ⟨g, cap, e, _, hg⟩ := h.form hp
  simp only [Value.slice.injEq] at e
  obtain ⟨rfl, _, rfl⟩ := e
  refine ⟨g, rfl, hg, fun j hj => ?_⟩
  obtain ⟨p, b, ⟨s, hs, rfl, rfl⟩, f1, f2, f3, f4, f5⟩ := steps_facts T key hT j (by omega)
  have e1 : plc T key j = s.1 := by simp [plc, hs]
  have e2 : sid T key j = s.2.1 := by simp [sid, hs]
  rw [e1, e2]
  refine ⟨(h.cellAt (j * 34) (by omega)).trans f1, (h.cellAt (j * 34 + 1) (by omega)).trans f2, f3, f4, f5, fun h1 => ?_⟩
  obtain ⟨p', b', ⟨s', hs', rfl, rfl⟩, _⟩ := steps_facts T key hT (j + 1) (by omega)
  have e3 : plc T key (j + 1) = s'.1 := by simp [plc, hs']
  rw [e3]
  exact steps_less T key hT j s s' hs hs'

/-- What the law asks of a tree. -/
theorem path_law (T : Option Tri) (key : List UInt8) : (((Tri.entsO T).length : Int) == 0) = T.isNone ∧ (look T key).isSome = (!T.isNone && decide (((T.map (·.near key)).map (·.1)).getD [] = key)) ∧ ((look T key).isSome = true → ((T.map (·.near key)).map (·.2)).getD [] = (look T key).getD []) ∧ (T.isNone = true → (stepsO T key).length = 0) := by
  cases T with
  | none => simp [Tri.entsO, look, stepsO]
  | some t =>
    have hp := Tri.ents_pos t
    refine ⟨?_, ?_, ?_, by simp⟩
    · rw [Option.isNone_some, beq_eq_false_iff_ne]
      simp only [Tri.entsO]
      omega
    · simp only [look, Option.isNone_some, Bool.not_false, Bool.true_and, Option.map_some, Option.getD_some]
      split <;> simp [*]
    · intro h
      simp only [look, Option.map_some, Option.getD_some] at h ⊢
      split at h
      · rename_i h1; rw [if_pos h1]; rfl
      · simp at h
end Go.Proofs.YtmafaioohiaenaaDoor
