/- What the walk of TrieRoots leans on: blocks that a tree's calls leave alone; trees put together anew. -/
import Derived.Test.YthkeofinamedfaaDoorRootsF
import Derived.Test.YthkeofinamedfaaDoorAllF
import Derived.Test.YthkeofinamedfaaDoorMadeF
import Derived.Test.YthkeofinamedfaaDoorForksP
namespace Go.Proofs.YthkeofinamedfaaDoor
open Go.RowKit Go.Shelf
set_option linter.unusedVariables false
set_option maxRecDepth 20000

/-- All blocks of cells but trees and nodes are as they were. -/
structure Others (w w' : World) : Prop where
  size : w.heap.size ≤ w'.heap.size
  keep : ∀ (g : Nat) (cs : Array Value) (t : TypeId), t ≠ 69 → t ≠ 84 → w.heap[g]? = some (Obj.cells cs t (0, 0)) → w'.heap[g]? = some (Obj.cells cs t (0, 0))

theorem Others.trans {a b c : World} (h : Others a b) (k : Others b c) : Others a c := ⟨Nat.le_trans h.size k.size, fun g cs t h1 h2 hg => k.keep g cs t h1 h2 (h.keep g cs t h1 h2 hg)⟩
theorem Others.of_new {w w' : World} (h : Below w.heap.size w w') : Others w w' := ⟨h.size, fun g cs t _ _ hg => (h.block g (Array.getElem?_eq_some_iff.1 hg).1).trans hg⟩

theorem Others.row {w w' : World} (h : Others w w') {B e s n : Nat} {v : Value} {xs : List Value} (h1 : e ≠ 69) (h2 : e ≠ 84) (ho : w.ownsRow B e s v n xs) : w'.ownsRow B e s v n xs := by
  refine ⟨ho.1, ?_⟩
  rcases ho.2 with h0 | ⟨g, cap, cur, rfl, hB, hg, r⟩
  · exact .inl h0
  · exact .inr ⟨g, cap, cur, rfl, hB, h.keep g _ _ h1 h2 hg, r⟩

theorem Rowed.others {B : Nat} {w w' : World} {sv : Value} {xs : List EntV} (h : Rowed B w sv xs) (ho : Others w w') : Rowed B w' sv xs :=
  ⟨ho.row (by decide) (by decide) h.row, fun x hx => ⟨ho.row (by decide) (by decide) (h.cps x hx).1, ho.row (by decide) (by decide) (h.cps x hx).2⟩, h.sep⟩

theorem put_O (B tb : Nat) (T : Option Tri) (kv vv : Value) (key val : List UInt8) (w : World) (hB : B ≤ w.heap.size) (ht : TreeB B w tb T) (hk : Says w kv key) (hv : Says w vv val) (hs : Tri.short (key, val)) (hfew : (Tri.entsO T).length < 1000000000) :
    Calls Tryd.prog 23 #[.pointer (some ⟨tb, 0, none⟩), kv, vv] w fun e w' => e = .returned (.int .i64 0) ∧ TreeB B w' tb (some (Tri.put T (key, val))) ∧ Below B w w' ∧ Others w w' ∧ Bytes w w' := by
  obtain ⟨o, h1, rfl, h3⟩ := ht
  refine (put_any tb o kv vv key val w h1 hk hv hs hfew).mono ?_
  rintro e w' ⟨rfl, y, hy, hyt, hyb, hsp⟩
  refine ⟨rfl, ⟨some y, hy, by simp [triO, hyt], ?_⟩, hsp.below h3 hB, ⟨hsp.size, fun g cs t t1 t2 hg => (hsp.block g (Array.getElem?_eq_some_iff.1 hg).1 (h1.types hg t1 t2)).trans hg⟩, h1.bytes hsp⟩
  rintro b (rfl | ⟨x, e, hi⟩)
  · exact h3 _ (.inl rfl)
  · cases e
    rcases hyb b hi with h | h
    · exact h3 b h
    · omega

theorem delete_O (B tb : Nat) (T : Option Tri) (kv : Value) (key : List UInt8) (w : World) (hB : B ≤ w.heap.size) (ht : TreeB B w tb T) (hk : Says w kv key) (hfew : (Tri.entsO T).length < 1000000000) :
    Calls Tryd.prog 25 #[.pointer (some ⟨tb, 0, none⟩), kv] w fun e w' => e = .returned (.bool (look T key).isSome) ∧ TreeB B w' tb (dropT T key) ∧ Below B w w' ∧ Others w w' ∧ Bytes w w' := by
  obtain ⟨o, h1, rfl, h3⟩ := ht
  refine (delete_any tb o kv key w h1 hk hfew).mono ?_
  rintro e w' ⟨rfl, h | ⟨x, rfl, hn, hd, hs, hsp⟩⟩
  · refine ⟨rfl, ⟨o, h1.new h.2, ?_, h3⟩, h.2.mono hB, Others.of_new h.2, Bytes.of_new h.2⟩
    cases o with
    | none => rfl
    | some x =>
      have h0 := h.1
      simp only [look, triO, Option.map_some, dropT] at h0 ⊢
      split at h0
      · cases h0
      · rename_i hne; rw [if_neg hne]
  · refine ⟨rfl, ⟨x.cutN key, hd, ?_, fun b hb => h3 b (hs b hb)⟩, hsp.below h3 hB, ⟨hsp.size, fun g cs t t1 t2 hg => (hsp.block g (Array.getElem?_eq_some_iff.1 hg).1 (h1.types hg t1 t2)).trans hg⟩, h1.bytes hsp⟩
    simp only [dropT, triO, Option.map_some, if_pos hn]
    exact Nod.cutN_tri x key

theorem all_B (B tb : Nat) (T : Option Tri) (w : World) (ht : TreeB B w tb T) (hn : (Tri.entsO T).length < 1000000000) :
    Calls Tryd.prog 15 #[.pointer (some ⟨tb, 0, none⟩)] w fun e w' => ∃ sv xs, e = .returned sv ∧ Rowed w.heap.size w' sv xs ∧ xs.map EntV.ent = Tri.entsO T ∧ Below w.heap.size w w' := by
  obtain ⟨o, h1, rfl, h3⟩ := ht
  exact all_any tb o w h1 hn

theorem risesO {T : Option Tri} (h : Tri.WFO T) : Tri.Rises (Tri.entsO T) := by
  cases T with
  | none => exact List.Pairwise.nil
  | some t => exact Tri.rises t h

theorem shortO {T : Option Tri} (h : Tri.WFO T) : ∀ e ∈ Tri.entsO T, Tri.short e := by
  cases T with
  | none => intro x hx; cases hx
  | some t => exact Tri.short_of t h

theorem uniqueO {T U : Option Tri} (hT : Tri.WFO T) (hU : Tri.WFO U) (h : Tri.entsO T = Tri.entsO U) : T = U := by
  cases T with
  | none =>
    cases U with
    | none => rfl
    | some u => exact absurd h.symm (Tri.ents_ne u)
  | some t =>
    cases U with
    | none => exact absurd h (Tri.ents_ne t)
    | some u => rw [Tri.unique t u hT hU h]

/-- One entry more ahead of those that stand behind it. -/
theorem put_ahead {U : Option Tri} (hU : Tri.WFO U) {L : List Ent} (hL : Tri.Rises L) {k : Nat} {e : Ent} (he : L[k]? = some e) (hs : Tri.short e) (hUe : Tri.entsO U = L.drop (k + 1)) : (Tri.put U e).ents = L.drop k := by
  obtain ⟨hw, hm⟩ := Tri.put_spec U hU e hs
  have hk := (List.getElem?_eq_some_iff.1 he).1
  have hd : L.drop k = e :: L.drop (k + 1) := by
    rw [List.drop_eq_getElem_cons hk, (List.getElem?_eq_some_iff.1 he).2]
  have hr : Tri.Rises (L.drop k) := hL.sublist (List.drop_sublist k L)
  rw [hd] at hr ⊢
  refine Tri.Rises.ext (Tri.rises _ hw) hr fun f => ?_
  rw [hm, hUe, List.mem_cons]
  refine ⟨fun hf => hf.imp id (·.1), fun hf => hf.imp id fun hf => ⟨hf, fun e' => ?_⟩⟩
  have := (List.pairwise_cons.1 hr).1 f hf
  rw [e', less_irrefl] at this
  cases this

theorem look_none {T : Option Tri} (hT : Tri.WFO T) {key : List UInt8} (h : look T key = none) : ∀ e ∈ Tri.entsO T, e.1 ≠ key := by
  cases T with
  | none => intro e he; cases he
  | some t =>
    intro e he e'
    simp only [look] at h
    split at h
    · cases h
    · rename_i hn
      subst e'
      exact hn (by rw [Tri.near_of_mem t hT e he])

/-- What is put and taken away again leaves all as it was. -/
theorem put_drop {T : Option Tri} (hT : Tri.WFO T) {key val : List UInt8} (hs : Tri.short (key, val)) (h : look T key = none) :
    (look (some (Tri.put T (key, val))) key).isSome = true ∧ dropT (some (Tri.put T (key, val))) key = T := by
  obtain ⟨hw, hm⟩ := Tri.put_spec T hT (key, val) hs
  have hin : (key, val) ∈ (Tri.put T (key, val)).ents := (hm _).2 (.inl rfl)
  have hnear := Tri.near_of_mem _ hw _ hin
  simp only at hnear
  have hk : ((Tri.put T (key, val)).near key).1 = key := by rw [hnear]
  refine ⟨by simp [look, hk], ?_⟩
  simp only [dropT, if_pos hk]
  obtain ⟨c1, c2, c3⟩ := Tri.cut_spec _ hw key hk
  refine uniqueO c2 hT (Tri.Rises.ext (risesO c2) (risesO hT) fun f => ?_)
  rw [c1, hm]
  have hno := look_none hT h
  constructor
  · rintro ⟨rfl | ⟨hf, _⟩, hne⟩
    · exact absurd rfl hne
    · exact hf
  · exact fun hf => ⟨.inr ⟨hf, hno f hf⟩, hno f hf⟩
end Go.Proofs.YthkeofinamedfaaDoor
