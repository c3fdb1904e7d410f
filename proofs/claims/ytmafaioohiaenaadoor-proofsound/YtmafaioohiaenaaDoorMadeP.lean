/- The proof that a tree makes of a key: it may be, its root is the tree's, it tells what the tree has. -/
import Derived.Test.YtmafaioohiaenaaDoorCheckG
import Derived.Test.YtmafaioohiaenaaDoorPathsP
namespace Go.Proofs.YtmafaioohiaenaaDoor
open Go.RowKit Go.Shelf
set_option linter.unusedVariables false
set_option linter.unusedSimpArgs false
set_option maxRecDepth 20000

def toZ (s : Stp) : Zst := ((s.1 : Int), s.2)

theorem zc_toZ (s : Stp) : zc (toZ s) = stepC s := rfl

theorem flat_toZ (L : List Stp) : (L.map toZ).flatMap zc = L.flatMap stepC := by
  rw [List.flatMap_map]
  rfl

/-- The proof of a key. -/
def mkP (T : Option Tri) (key : List UInt8) : Prf := ⟨T.isNone, ((T.map (·.near key)).map (·.1)).getD [], ((T.map (·.near key)).map (·.2)).getD [], (stepsO T key).map toZ⟩

theorem bit_nine (f : List UInt8) (m : Nat) (h : m < f.length) : bit f (9 * m) = true := by
  unfold bit
  rw [show 9 * m / 9 = m by omega, List.getElem?_eq_getElem h, show 9 * m % 9 = 0 by omega]
  rfl

theorem Tri.place_low (p : Nat) (l r : Tri) (h : (fork p l r).WF) (e : Ent) (he : e ∈ (fork p l r).ents) : p ≤ 9 * e.1.length := by
  rcases Nat.lt_or_ge (9 * e.1.length) p with hlt | hge
  · obtain ⟨f, hf⟩ := List.exists_mem_of_ne_nil _ r.ents_ne
    have hf' : f ∈ (fork p l r).ents := List.mem_append.2 (.inr hf)
    have h1 : bit f.1 p = true := h.2.2.2.1 f hf
    have h2 := bit_lt _ _ h1
    have h3 := alike p l r h e f he hf' (9 * e.1.length) hlt
    rw [bit_far _ _ (Nat.le_refl _), bit_nine _ _ (by omega)] at h3
    cases h3
  · exact hge

theorem Tri.steps_low : ∀ (t : Tri) (key : List UInt8), t.WF → ∀ s ∈ t.steps key, s.1 ≤ 9 * (t.near key).1.length
  | leaf k v, key, h, s, hs => by simp [steps] at hs
  | fork p l r, key, h, s, hs => by
    simp only [steps, List.mem_cons] at hs
    rcases hs with rfl | hs
    · exact place_low p l r h _ (near_mem _ _)
    · simp only [near]
      split at hs
      · rename_i hb; rw [if_pos hb]; exact steps_low r key h.2.1 s hs
      · rename_i hb; rw [if_neg hb]; exact steps_low l key h.1 s hs

theorem risesZ_of (e : Int) : ∀ (L : List Stp) (m : Nat), L.Pairwise (fun a b => a.1 < b.1) → (∀ s ∈ L, m ≤ s.1 ∧ (s.1 : Int) < e) → risesZ e m (L.map toZ) = true
  | [], m, _, _ => rfl
  | s :: r, m, hp, hb => by
    obtain ⟨h1, h2⟩ := List.pairwise_cons.1 hp
    have hs := hb s (by simp)
    simp only [List.map_cons, risesZ, toZ]
    rw [if_neg (by omega)]
    have := risesZ_of e r (s.1 + 1) h2 (fun q hq => ⟨h1 q hq, (hb q (by simp [hq])).2⟩)
    simpa [toZ] using this

theorem leadsZ_of (key : List UInt8) (L : List Stp) (h : ∀ s ∈ L, s.2.1 = bit key s.1) : leadsZ key (L.map toZ) = true := by
  simp only [leadsZ, List.all_eq_true, List.mem_map]
  rintro z ⟨s, hs, rfl⟩
  simp only [toZ, bitI_nat, h s hs, beq_self_eq_true]

theorem mkP_ok (T : Option Tri) (key : List UInt8) (hT : Tri.WFO T) : ∀ s ∈ (mkP T key).st, ZOk s := by
  intro z hz
  obtain ⟨s, hs, rfl⟩ := List.mem_map.1 hz
  cases T with
  | none => simp [stepsO] at hs
  | some t =>
    obtain ⟨_, _, h3, h4⟩ := Tri.steps_bits t key hT s hs
    exact ⟨h4, by simp only [toZ]; omega, by simp only [toZ]; omega⟩

theorem mkP_leads (T : Option Tri) (key : List UInt8) (hT : Tri.WFO T) : leadsZ key (mkP T key).st = true := by
  cases T with
  | none => rfl
  | some t => exact leadsZ_of key _ (fun s hs => (Tri.steps_bits t key hT s hs).1)

theorem mkP_may (T : Option Tri) (key : List UInt8) (hT : Tri.WFO T) : (mkP T key).may = true := by
  cases T with
  | none => rfl
  | some t =>
    have hsh := Tri.short_of t hT _ (Tri.near_mem t key)
    have h1 : risesZ (9 * ((t.near key).1.length : Int) + 1) 0 ((t.steps key).map toZ) = true := risesZ_of _ _ 0 (Tri.steps_rise t key hT) (fun s hs => ⟨Nat.zero_le _, by have := Tri.steps_low t key hT s hs; omega⟩)
    have h2 : leadsZ (t.near key).1 ((t.steps key).map toZ) = true := leadsZ_of _ _ (fun s hs => by
      obtain ⟨_, h2, _⟩ := Tri.steps_bits t key hT s hs
      exact h2.symm)
    have h3 := hsh.1
    have h4 := hsh.2
    simp only [Prf.may, mkP, Option.isNone_some, Bool.false_eq_true, if_false, Option.map_some, Option.getD_some, stepsO, Bool.and_eq_true, decide_eq_true_eq]
    exact ⟨decide_eq_true h3, decide_eq_true h4, h1, h2⟩

theorem ofS_fits (name : List UInt8) (rows : List (List UInt8)) (h1 : name.length ≤ 16) (h2 : rows.length < 4096) (h3 : ∀ r ∈ rows, r.length ≤ 65536) : ofS name rows = sha (textOf name rows).2 := by
  unfold ofS ofOf
  rw [textOf_fits name rows h1 h2 h3]
  simp

theorem leafS_Z (k v : List UInt8) (h : Tri.short (k, v)) : leafS (k, v) = sha (leafZ k v) := by
  have h1 := h.1
  have h2 := h.2
  simp only at h1 h2
  exact ofS_fits _ _ (by decide) (by simp) (by intro r hr; simp at hr; rcases hr with rfl | rfl <;> omega)

theorem noneS_Z : noneS = sha noneZ := ofS_fits _ _ (by decide) (by simp) (by simp)

theorem forkS_Z (p : Nat) (a b : List UInt8) (ha : a.length = 32) (hb : b.length = 32) : forkS p a b = sha (forkZ p a b) :=
  ofS_fits _ _ (by decide) (by simp) (by intro r hr; simp at hr; rcases hr with rfl | rfl | rfl <;> simp [be_length, ha, hb])

theorem steps_root : ∀ (t : Tri) (key : List UInt8), t.WF → sha (topU (leafZ (t.near key).1 (t.near key).2) ((t.steps key).map toZ).reverse) = rootT t
  | .leaf k v, key, h => (leafS_Z k v h).symm
  | .fork p l r, key, h => by
    have hl := steps_root l key h.1
    have hr := steps_root r key h.2.1
    simp only [Tri.steps, Tri.near, List.map_cons, List.reverse_cons, topU_snoc, rootT]
    rw [forkS_Z p _ _ (rootT_length _) (rootT_length _)]
    cases hb : bit key p with
    | true =>
      simp only [if_true, toZ] at hr ⊢
      rw [hr]
      simp [stepZ]
    | false =>
      simp only [Bool.false_eq_true, if_false, toZ] at hl ⊢
      rw [hl]
      simp [stepZ]

theorem mkP_root (T : Option Tri) (key : List UInt8) (hT : Tri.WFO T) : (mkP T key).root = rootO T := by
  cases T with
  | none => exact noneS_Z.symm
  | some t => exact steps_root t key hT

/-- WHAT WAS MADE HOLDS, AND TELLS WHAT THERE IS. -/
theorem mkP_tells (T : Option Tri) (key : List UInt8) (hT : Tri.WFO T) : (mkP T key).tells (rootO T) key = (0, (look T key).isSome, (look T key).getD []) := by
  unfold Prf.tells
  rw [mkP_may T key hT, mkP_root T key hT, mkP_leads T key hT]
  cases T with
  | none => rfl
  | some t =>
    simp only [decide_true, Bool.and_self, if_true, mkP, Option.isNone_some, Option.map_some, Option.getD_some, Bool.false_or, look]
    by_cases hk : (t.near key).1 = key
    · simp [hk]
    · simp [hk]

/-- A key that leads elsewhere. -/
theorem mkP_off (T : Option Tri) (key k : List UInt8) (hT : Tri.WFO T) (h : leadsZ k (mkP T key).st = false) (rt : List UInt8) : (mkP T key).tells rt k = (5, false, []) := by
  simp [Prf.tells, h]
end Go.Proofs.YtmafaioohiaenaaDoor
