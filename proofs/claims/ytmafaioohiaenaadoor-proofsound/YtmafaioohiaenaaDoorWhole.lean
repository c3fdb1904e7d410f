/- Trees whose blocks lie from a block on; contracts of New, Put, Get, Count, Root, Path over them. -/
import Derived.Test.YtmafaioohiaenaaDoorPathF
import Derived.Test.YtmafaioohiaenaaDoorPutF
namespace Go.Proofs.YtmafaioohiaenaaDoor
open Go.RowKit
set_option linter.unusedVariables false
set_option maxRecDepth 20000

/-- A tree, all of whose blocks lie from B on. -/
def TreeB (B : Nat) (w : World) (tb : Nat) (T : Option Tri) : Prop := ∃ o, TreeAt w tb o ∧ triO o = T ∧ ∀ b, own tb o b → B ≤ b

theorem TreeB.new {B : Nat} {w w' : World} {tb : Nat} {T : Option Tri} (h : TreeB B w tb T) (hb : Below w.heap.size w w') : TreeB B w' tb T := by
  obtain ⟨o, h1, h2, h3⟩ := h
  exact ⟨o, h1.new hb, h2, h3⟩

theorem TreeB.wf {B : Nat} {w : World} {tb : Nat} {T : Option Tri} (h : TreeB B w tb T) : Tri.WFO T := by
  obtain ⟨o, h1, h2, h3⟩ := h
  rw [← h2]; exact h1.wf

theorem TreeB.lower {B B' : Nat} {w : World} {tb : Nat} {T : Option Tri} (h : TreeB B w tb T) (hB : B' ≤ B) : TreeB B' w tb T := by
  obtain ⟨o, h1, h2, h3⟩ := h
  exact ⟨o, h1, h2, fun b hb => Nat.le_trans hB (h3 b hb)⟩

/-- What of bytes there was is there, behind a change of a tree's blocks alone. -/
structure Left (B : Nat) (w w' : World) : Prop where
  below : Below B w w'
  bytes : Bytes w w'

theorem new_B (w : World) : Calls Tryd.prog 63 #[] w fun e w' => e = .returned (.pointer (some ⟨w.heap.size, 0, none⟩)) ∧ TreeB w.heap.size w' w.heap.size none ∧ Below w.heap.size w w' :=
  (new_any w).mono fun e w' ⟨h1, h2, h3, _⟩ => ⟨h1, ⟨none, h2, rfl, fun b hb => by rcases hb with rfl | ⟨x, e, _⟩; exact Nat.le_refl _; cases e⟩, h3⟩

theorem put_B (B tb : Nat) (T : Option Tri) (kv vv : Value) (key val : List UInt8) (w : World) (hB : B ≤ w.heap.size) (ht : TreeB B w tb T) (hk : Says w kv key) (hv : Says w vv val) (hs : Tri.short (key, val)) (hfew : (Tri.entsO T).length < 1000000000) :
    Calls Tryd.prog 64 #[.pointer (some ⟨tb, 0, none⟩), kv, vv] w fun e w' => e = .returned (.int .i64 0) ∧ TreeB B w' tb (some (Tri.put T (key, val))) ∧ Below B w w' ∧ Bytes w w' := by
  obtain ⟨o, h1, rfl, h3⟩ := ht
  refine (put_any tb o kv vv key val w h1 hk hv hs hfew).mono ?_
  rintro e w' ⟨rfl, y, hy, hyt, hyb, hsp⟩
  refine ⟨rfl, ⟨some y, hy, by simp [triO, hyt], ?_⟩, hsp.below h3 hB, h1.bytes hsp⟩
  rintro b (rfl | ⟨x, e, hi⟩)
  · exact h3 _ (.inl rfl)
  · cases e
    rcases hyb b hi with h | h
    · exact h3 b h
    · omega

theorem long_B (tb : Nat) (kv vv : Value) (key val : List UInt8) (w : World) (hk : Says w kv key) (hv : Says w vv val) (hl : ¬ Tri.short (key, val)) :
    Calls Tryd.prog 64 #[.pointer (some ⟨tb, 0, none⟩), kv, vv] w fun e w' => e = .returned (.int .i64 2) ∧ w' = w := put_long tb kv vv key val w hk hv hl

theorem get_B (B tb : Nat) (T : Option Tri) (kv : Value) (key : List UInt8) (w : World) (ht : TreeB B w tb T) (hk : Says w kv key) :
    Calls Tryd.prog 27 #[.pointer (some ⟨tb, 0, none⟩), kv] w fun e w' => ∃ v', e = .returned (.tuple #[v', .bool (look T key).isSome]) ∧ Copy w.heap.size w' v' ((look T key).getD []) ∧ Below w.heap.size w w' := by
  obtain ⟨o, h1, rfl, h3⟩ := ht
  exact get_any tb o kv key w h1 hk

theorem root_B (B tb : Nat) (T : Option Tri) (w : World) (ht : TreeB B w tb T) (hT : Tables w) :
    Calls Tryd.prog 29 #[.pointer (some ⟨tb, 0, none⟩)] w fun e w' => e = .returned (.agg (sumV (rootO T))) ∧ Below w.heap.size w w' := by
  obtain ⟨o, h1, rfl, h3⟩ := ht
  exact root_any tb o w h1 hT

theorem path_B (B tb : Nat) (T : Option Tri) (kv : Value) (key : List UInt8) (w : World) (ht : TreeB B w tb T) (hk : Says w kv key) (hT : Tables w) (hn : (Tri.entsO T).length < 1000000000) :
    Calls Tryd.prog 66 #[.pointer (some ⟨tb, 0, none⟩), kv] w fun e w' => ∃ ek ev sv, e = .returned (.agg #[.bool T.isNone, ek, ev, sv]) ∧
      Copy w.heap.size w' ek (((T.map (·.near key)).map (·.1)).getD []) ∧ Copy w.heap.size w' ev (((T.map (·.near key)).map (·.2)).getD []) ∧
      w'.ownsRow w.heap.size 66 34 sv (stepsO T key).length ((stepsO T key).flatMap stepC) ∧ (∀ g, ek.ownBlock = some g → ev.ownBlock ≠ some g) ∧ Below w.heap.size w w' := by
  obtain ⟨o, h1, rfl, h3⟩ := ht
  exact path_any tb o kv key w h1 hk hT hn

/-- A literal's bytes. -/
theorem says_one (w : World) (u : UInt8) (t : TypeId) (fr : Nat × Nat) : Says (w.alloc (.cells #[.int .u8 (u.toNat : Int)] t fr)) (.slice (some ⟨w.heap.size, 0, none⟩) 1 1) [u] := by
  refine ⟨_, 1, rfl, Nat.le_refl _, by unfold maxLen; omega, fun e => (by cases e), fun _ => ⟨w.heap.size, 0, rfl, by simp, fun j hj => ?_⟩⟩
  have : j = 0 := by simp at hj; omega
  subst this
  rw [cell_of_row _ _ _ _ _ _ (heap_alloc_new w _)]
  rfl

theorem new_alloc (w : World) (o : Obj) : Below w.heap.size w (w.alloc o) := (Below.refl _ w).alloc (Nat.le_refl _) _

theorem alloc_ge {B : Nat} {w : World} (h : B ≤ w.heap.size) (o : Obj) : B ≤ (w.alloc o).heap.size := by simp; omega

def tA : Tri := .leaf [97] [49]
def tAB : Tri := .fork 7 (.leaf [97] [49]) (.leaf [98] [50])
theorem put_a : Tri.put none ([97], [49]) = tA := rfl
theorem put_b : Tri.put (some tA) ([98], [50]) = tAB := by kernel_rfl
theorem steps_a : (stepsO (some tAB) [97]) = [(7, false, rootT (.leaf [98] [50]))] := by kernel_rfl
end Go.Proofs.YtmafaioohiaenaaDoor
