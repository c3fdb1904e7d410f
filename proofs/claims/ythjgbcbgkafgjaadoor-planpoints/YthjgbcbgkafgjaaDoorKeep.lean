/- Worlds that keep all blocks but some; nothing of the program is named here. -/
import Derived.Test.YthjgbcbgkafgjaaDoorBase
namespace Go.Proofs.YthjgbcbgkafgjaaDoor
open Go.RowKit
set_option linter.unusedVariables false
set_option maxRecDepth 20000

/-- All that was there is as it was, but for the blocks of S. -/
structure Spares (S : Nat → Prop) (w w' : World) : Prop where
  os : w'.os = w.os
  tape : w'.tape = w.tape
  output : w'.output = w.output
  size : w.heap.size ≤ w'.heap.size
  block : ∀ k, k < w.heap.size → ¬ S k → w'.heap[k]? = w.heap[k]?

theorem Spares.refl (S : Nat → Prop) (w : World) : Spares S w w := ⟨rfl, rfl, rfl, Nat.le_refl _, fun _ _ _ => rfl⟩

theorem Spares.andThen {S T : Nat → Prop} {a b c : World} (h : Spares S a b) (k : Spares T b c) (hT : ∀ i, T i → S i ∨ a.heap.size ≤ i) : Spares S a c :=
  ⟨k.os.trans h.os, k.tape.trans h.tape, k.output.trans h.output, Nat.le_trans h.size k.size, fun i hi hS =>
    (k.block i (Nat.lt_of_lt_of_le hi h.size) (fun ht => by rcases hT i ht with h1 | h1; exact hS h1; omega)).trans (h.block i hi hS)⟩

theorem Spares.mono {S T : Nat → Prop} {a b : World} (h : Spares S a b) (hT : ∀ i, S i → T i) : Spares T a b :=
  ⟨h.os, h.tape, h.output, h.size, fun i hi hS => h.block i hi fun hs => hS (hT i hs)⟩

theorem Spares.of_grown {S : Nat → Prop} {w w' : World} {row : Option Nat} (hg : w.grownBy w' row) (hr : ∀ k, row = some k → S k) : Spares S w w' :=
  ⟨hg.os, hg.tape, hg.output, hg.size, fun k hk hS => hg.block k hk fun e => hS (hr k e.symm)⟩

theorem Spares.of_below {S : Nat → Prop} {w w' : World} {B : Nat} (h : Below B w w') (hB : ∀ k, B ≤ k → k < w.heap.size → S k) : Spares S w w' :=
  ⟨h.os, h.tape, h.output, h.size, fun k hk hS => h.block k (Nat.lt_of_not_le fun hb => hS (hB k hb hk))⟩

/-- Nothing that was there has turned. -/
theorem Spares.of_new {S : Nat → Prop} {w w' : World} (h : Below w.heap.size w w') : Spares S w w' := Spares.of_below h (fun k h1 h2 => by omega)

theorem Spares.below {S : Nat → Prop} {w w' : World} {B : Nat} (h : Spares S w w') (hS : ∀ i, S i → B ≤ i) (hB : B ≤ w.heap.size) : Below B w w' :=
  ⟨h.os, h.tape, h.output, h.size, fun k hk => h.block k (by omega) fun hs => by have := hS k hs; omega⟩

theorem Spares.cell {S : Nat → Prop} {w w' : World} (h : Spares S w w') {p : Addr} {v : Value} (hc : w.cell? p = some v) (hS : ¬ S p.block) : w'.cell? p = some v := by
  rw [World.cell?_of_block (w := w) (h.block p.block (World.block_lt_of_cell? w p hc) hS)]
  exact hc

theorem Spares.row {S : Nat → Prop} {w w' : World} (h : Spares S w w') {B e s n : Nat} {v : Value} {xs : List Value} (ho : w.ownsRow B e s v n xs) (hS : ∀ g, v.ownBlock = some g → ¬ S g) : w'.ownsRow B e s v n xs := by
  refine ⟨ho.1, ?_⟩
  rcases ho.2 with h0 | ⟨g, cap, cur, rfl, hB, hg, r⟩
  · exact .inl h0
  · exact .inr ⟨g, cap, cur, rfl, hB, by rw [h.block g (Array.getElem?_eq_some_iff.1 hg).1 (hS g rfl)]; exact hg, r⟩

/-- A row that is owned, from a lower block on. -/
theorem owns_lower {w : World} {B B' e s n : Nat} {v : Value} {xs : List Value} (ho : w.ownsRow B e s v n xs) (hB : ∀ g, v.ownBlock = some g → B' ≤ g) : w.ownsRow B' e s v n xs := by
  refine ⟨ho.1, ?_⟩
  rcases ho.2 with h0 | ⟨g, cap, cur, rfl, _, r⟩
  · exact .inl h0
  · exact .inr ⟨g, cap, cur, rfl, hB g rfl, r⟩

theorem Shows.keeps {S : Nat → Prop} {B : Nat} {w w' : World} {v : Value} {bs : List UInt8} (h : Shows B w v bs) (hk : Spares S w w') (hS : ∀ i, i < B → ¬ S i) : Shows B w' v bs := by
  obtain ⟨a, c, hv, h1, h2, hn, h3⟩ := h
  refine ⟨a, c, hv, h1, h2, hn, fun hne => ?_⟩
  obtain ⟨b, off, ha, hlt, hc⟩ := h3 hne
  exact ⟨b, off, ha, hlt, fun j hj => hk.cell (hc j hj) (hS b hlt)⟩

theorem Shows.len {B : Nat} {w : World} {v : Value} {bs : List UInt8} (h : Shows B w v bs) : bs.length ≤ maxLen := by
  obtain ⟨a, c, hv, h1, h2, _⟩ := h
  omega

theorem grown_drew (w : World) : w.grownBy w.drew none := ⟨rfl, rfl, rfl, Nat.le_refl _, fun _ _ _ => rfl⟩
end Go.Proofs.YthjgbcbgkafgjaaDoor
