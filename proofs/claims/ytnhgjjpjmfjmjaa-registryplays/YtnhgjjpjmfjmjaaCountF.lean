/- How many texts all signers have; lists of rows that are owned. -/
import Derived.Test.YtnhgjjpjmfjmjaaByF
import Derived.Test.YtnhgjjpjmfjmjaaActs
import Derived.Test.YtnhgjjpjmfjmjaaRow
namespace Go.Proofs.Ytnhgjjpjmfjmjaa
open Go.RowKit Go.Maps
set_option linter.unusedVariables false

/-- How many texts the signers from 0 on have. -/
def cnt (L : List Pr) : Nat → Nat
  | 0 => 0
  | k + 1 => cnt L k + (textsOf L (k : Int)).length

theorem cnt_nil : ∀ k, cnt [] k = 0
  | 0 => rfl
  | k + 1 => by rw [cnt, cnt_nil k]; rfl

theorem cnt_cons (p : Pr) (L : List Pr) : ∀ k, cnt (p :: L) k = cnt L k + (if 0 ≤ p.1 ∧ p.1 < (k : Int) then 1 else 0)
  | 0 => by
    have : ¬ (0 ≤ p.1 ∧ p.1 < ((0 : Nat) : Int)) := by omega
    rw [if_neg this]
    rfl
  | k + 1 => by
    rw [cnt, cnt, cnt_cons p L k]
    by_cases h : p.1 = (k : Int)
    · have e1 : (textsOf (p :: L) (k : Int)).length = (textsOf L (k : Int)).length + 1 := by simp [textsOf, h]
      have e2 : ¬ (0 ≤ p.1 ∧ p.1 < (k : Int)) := by omega
      have e3 : 0 ≤ p.1 ∧ p.1 < ((k + 1 : Nat) : Int) := by omega
      rw [e1, if_neg e2, if_pos e3]
      omega
    · have e1 : (textsOf (p :: L) (k : Int)).length = (textsOf L (k : Int)).length := by simp [textsOf, h]
      rw [e1]
      by_cases h2 : 0 ≤ p.1 ∧ p.1 < (k : Int)
      · have h3 : 0 ≤ p.1 ∧ p.1 < ((k + 1 : Nat) : Int) := by omega
        rw [if_pos h2, if_pos h3]
        omega
      · have h3 : ¬ (0 ≤ p.1 ∧ p.1 < ((k + 1 : Nat) : Int)) := by omega
        rw [if_neg h2, if_neg h3]
        omega

theorem cnt_all : ∀ (L : List Pr), (∀ p ∈ L, 1 ≤ p.1 ∧ p.1 ≤ 64 ∧ p.2.length ≤ 65536) → cnt L 66 = L.length
  | [], _ => cnt_nil 66
  | p :: L, h => by
    have hp := h p (by simp)
    rw [cnt_cons, cnt_all L fun q hq => h q (by simp [hq]), if_pos (by omega)]
    rfl

theorem cnt_le (L : List Pr) (h : ∀ p ∈ L, 1 ≤ p.1 ∧ p.1 ≤ 64 ∧ p.2.length ≤ 65536) : ∀ k, cnt L k ≤ L.length := by
  induction L with
  | nil => intro k; rw [cnt_nil]; simp
  | cons p L ih =>
    intro k
    have := ih (fun q hq => h q (by simp [hq])) k
    rw [cnt_cons]
    split <;> simp <;> omega

theorem mem_texts (L : List Pr) (x : Int) (t : List UInt8) : t ∈ textsOf L x ↔ (x, t) ∈ L := by
  simp only [textsOf, List.mem_map, List.mem_filter, decide_eq_true_eq]
  constructor
  · rintro ⟨⟨a, b⟩, ⟨h1, h2⟩, h3⟩
    simp only at h2 h3
    subst h2 h3
    exact h1
  · intro h
    exact ⟨(x, t), ⟨h, rfl⟩, rfl⟩

theorem texts_nodup (L : List Pr) (h : L.Nodup) (x : Int) : (textsOf L x).Nodup := by
  induction L with
  | nil => exact List.nodup_nil
  | cons p L ih =>
    obtain ⟨h1, h2⟩ := List.nodup_cons.1 h
    by_cases hp : p.1 = x
    · have e : textsOf (p :: L) x = p.2 :: textsOf L x := by simp [textsOf, hp]
      rw [e, List.nodup_cons]
      refine ⟨fun hm => h1 ?_, ih h2⟩
      have := (mem_texts L x p.2).1 hm
      rw [← hp] at this
      exact this
    · have e : textsOf (p :: L) x = textsOf L x := by simp [textsOf, hp]
      rw [e]
      exact ih h2

theorem Reg.ok {w : World} {v : Value} {L : List Pr} {S : Nat → Prop} (h : Reg w v L S) : (∀ p ∈ L, 1 ≤ p.1 ∧ p.1 ≤ 64 ∧ p.2.length ≤ 65536) ∧ L.Nodup := by
  obtain ⟨sb, bk, bs, D, E, f, rfl, h0⟩ := h
  exact ⟨h0.ok, h0.once⟩

theorem RegB.ok {B : Nat} {w : World} {v : Value} {L : List Pr} (h : RegB B w v L) : (∀ p ∈ L, 1 ≤ p.1 ∧ p.1 ≤ 64 ∧ p.2.length ≤ 65536) ∧ L.Nodup := by
  obtain ⟨S, hR, _⟩ := h
  exact hR.ok

theorem lists_of_rowsF {w : World} {B : Nat} {v : Value} {rows : List (List UInt8)} (h : RowsFAt w B v rows) : Lists w.heap.size w v rows := by
  obtain ⟨vs, ho, hr⟩ := h
  have hlen := hr.len
  have ho0 := ho
  rcases ho.2 with ⟨rfl, h0⟩ | ⟨g, cap, cur, rfl, hB, hg, h1, h2, h3, h4⟩
  · have e := List.eq_nil_of_length_eq_zero h0
    subst e
    exact ⟨none, 0, vs, rfl, Nat.le_refl _, Nat.zero_le _, hlen, fun h => absurd rfl h, fun j u r _ hr2 => by simp at hr2⟩
  · refine ⟨_, cap, vs, rfl, h1, h2, hlen, fun _ => ⟨g, 0, rfl, (Array.getElem?_eq_some_iff.1 hg).1, fun j u hu => ?_⟩, fun j u r hu hr2 => (hr.own j u r hu hr2).shows⟩
    have hj : j < rows.length := by rw [← hlen]; exact (List.getElem?_eq_some_iff.1 hu).1
    rw [Nat.zero_add, ho0.cellAt j (by omega), hu]

theorem by_B (B : Nat) (v : Value) (who : Int) (L : List Pr) (w : World) (hR : RegB B w v L) (hw : I64 who) (hL : L.length ≤ 100000) :
    Calls Try.prog 15 #[v, .int .i64 who] w fun e w' => ∃ a c, e = .returned (.slice a (textsOf L who).length c) ∧ c ≤ maxLen ∧ (textsOf L who).length ≤ c ∧ Lists w'.heap.size w' (.slice a (textsOf L who).length c) (textsOf L who) ∧ RegB B w' v L ∧ Below w.heap.size w w' := by
  obtain ⟨S, hR', hS⟩ := hR
  refine (by_any v who L S w hR' hw hL).mono ?_
  rintro e w' ⟨v', rfl, hr, hb⟩
  obtain ⟨vs, ho, hr2⟩ := id hr
  obtain ⟨a, c, rfl, h1, h2⟩ := own_formR ho
  exact ⟨a, c, rfl, h2, h1, lists_of_rowsF hr, ⟨S, hR'.new hb, hS⟩, hb⟩
end Go.Proofs.Ytnhgjjpjmfjmjaa
