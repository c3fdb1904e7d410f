/- WHAT A REGISTRY IS: a struct of two maps: the pairs that are known, and each signer's texts in their order. -/
import Derived.Test.YtnhgjjpjmfjmjaaChecked
import Derived.Test.YtnhgjjpjmfjmjaaKeep
import Derived.Maps.RangeWalk
import Derived.Maps.AppendAt
import Derived.DeepKeys4
namespace Go.Proofs.Ytnhgjjpjmfjmjaa
open Go.RowKit Go.Maps
set_option linter.unusedVariables false

/-- A signer and a text. -/
abbrev Pr := Int × List UInt8

/-- The texts of one signer. -/
def textsOf (L : List Pr) (x : Int) : List (List UInt8) := (L.filter (fun p => decide (p.1 = x))).map (·.2)

/-- Texts as cells. -/
def strCells (ts : List (List UInt8)) : List Value := ts.map fun t => .string (str8 t)

theorem strCells_length (ts : List (List UInt8)) : (strCells ts).length = ts.length := by simp [strCells]

theorem textsOf_snoc (L : List Pr) (p : Pr) (x : Int) : textsOf (L ++ [p]) x = if p.1 = x then textsOf L x ++ [p.2] else textsOf L x := by
  by_cases h : p.1 = x <;> simp [textsOf, List.filter_append, h]

theorem textsOf_le (L : List Pr) (x : Int) : (textsOf L x).length ≤ L.length := by
  simp only [textsOf, List.length_map]
  exact List.length_filter_le _ _

/-! ### keys -/

/-- An int that an int can be. -/
def I64 (x : Int) : Prop := -9223372036854775808 ≤ x ∧ x ≤ 9223372036854775807

theorem I64.wf {x : Int} (h : I64 x) : (Lit.int .i64 x).wf = true := by
  obtain ⟨h1, h2⟩ := h
  simp [Lit.wf, IntKind.min, IntKind.max, IntKind.signed, IntKind.bits]
  omega

theorem I64.of_wf {x : Int} (h : (Lit.int .i64 x).wf = true) : I64 x := by
  simpa [I64, Lit.wf, IntKind.min, IntKind.max, IntKind.signed, IntKind.bits] using h

theorem Try.laidOut0 : laidOutB Try.prog = true := by kernel_rfl

theorem Try.cellsPair : Try.prog.cellsOf 55 = 2 := by kernel_rfl

theorem lawP : Keyed Try.prog 55 := Keyed.of_law (deep_law_laid Try.laidOut0 (m := 3) (by omega) (of_decide_eq_true (by kernel_rfl)) (by kernel_rfl) (by rw [Try.underlying55]))

theorem lawI : Keyed Try.prog 3 := int_keyed Try.underlying3

/-- The value of a pair. -/
def pv (x : Int) (t : List UInt8) : Value := .agg #[.int .i64 x, .string (str8 t)]

/-- What a pair's key reads as. -/
def pk (x : Int) (t : List UInt8) : Lit := .string (Go.keyBytes [.int .i64 x, .string t])

theorem str8_size (t : List UInt8) : (str8 t).size = t.length := by simp [str8, ByteArray.size]

theorem str8_list (t : List UInt8) : (str8 t).data.toList = t := by simp [str8]

theorem str8_inj {a b : List UInt8} (h : str8 a = str8 b) : a = b := by
  have := congrArg (fun s : ByteArray => s.data.toList) h
  simpa [str8] using this

theorem Try.keyTypePair : Try.prog.keyType 55 = true := by kernel_rfl

theorem Try.typesSize : ∃ m, Try.prog.types.size = m + 2 := ⟨Try.prog.types.size - 2, by have : 2 ≤ Try.prog.types.size := of_decide_eq_true (by kernel_rfl); omega⟩

theorem key_pair {x : Int} {t : List UInt8} (hx : I64 x) (ht : t.length ≤ maxLen) : keyOf Try.prog 55 (pv x t) = some (pk x t) := by
  have hw := hx.wf
  obtain ⟨m, hm⟩ := Try.typesSize
  have hf : (pv x t).formed Try.prog 55 = true := by simp [pv, Value.formed, Try.underlying55, Try.cellsPair]
  have hc1 : Try.prog.cellsOf 3 = 1 := by kernel_rfl
  have hc2 : Try.prog.cellsOf 9 = 1 := by kernel_rfl
  unfold keyOf
  rw [Try.underlying55]
  simp only [Try.keyTypePair, hf, Bool.and_self, if_true]
  rw [hm]
  simp [Program.keyLits, Try.underlying55, Try.underlying3, Try.underlying9, Try.cellsPair, pv, Value.cells, hw, hc1, hc2, str8_size, ht, pk, str8_list]

theorem pk_inj {x y : Int} {s t : List UInt8} (hx : I64 x) (hs : s.length ≤ maxLen) (hy : I64 y) (ht : t.length ≤ maxLen) (h : pk x s = pk y t) : x = y ∧ s = t := by
  have h1 := key_pair hx hs
  have h2 := key_pair hy ht
  rw [h] at h1
  have := lawP.inj h1 h2
  simp only [pv, Value.agg.injEq, Array.mk.injEq, List.cons.injEq, Value.int.injEq, Value.string.injEq, true_and, and_true] at this
  exact ⟨this.1, str8_inj this.2⟩

/-- A map's element as it stands. -/
def rawElem (v : Value) : Option (DataW Value × List MemPlace) := some (.held v, [])

theorem rawElem_inv {v : Value} {z : DataW Value × List MemPlace} (h : rawElem v = some z) : z = (.held v, []) := (Option.some.inj h).symm

/-- No slice. -/
abbrev nilS : Value := .slice none 0 0

/-! ### the registry -/

structure Reg0 (w : World) (sb bk bs : Nat) (D : DataW Unit) (E : DataW Value) (f : Int → Value) (L : List Pr) (S : Nat → Prop) : Prop where
  cellK : w.cell? ⟨sb, 0, none⟩ = some (.map (some bk))
  cellS : w.cell? ⟨sb, 1, none⟩ = some (.map (some bs))
  known : w.ownsMap Try.prog 55 (unitElem (H := Unit)) bk L.length D
  has : ∀ x t, I64 x → t.length ≤ maxLen → Maps.has D (pk x t) = decide ((x, t) ∈ L)
  size : Maps.size D = L.length
  signed : w.ownsMap Try.prog 3 rawElem bs L.length E
  at' : ∀ x, I64 x → E.atKey (.int .i64 x) (.held nilS) = .held (f x)
  rows : ∀ x, w.ownsRow 0 9 1 (f x) (textsOf L x).length (strCells (textsOf L x))
  apart : ∀ x y g, x ≠ y → (f x).ownBlock = some g → (f y).ownBlock ≠ some g
  ne : bk ≠ bs
  rne : ∀ x, (f x).ownBlock ≠ some sb
  inS : S sb ∧ S bk ∧ S bs
  rowS : ∀ x g, (f x).ownBlock = some g → S g
  lt : ∀ i, S i → i < w.heap.size
  ok : ∀ p ∈ L, 1 ≤ p.1 ∧ p.1 ≤ 64 ∧ p.2.length ≤ 65536
  once : L.Nodup

/-- THE POINTER v LEADS TO A REGISTRY THAT HAS THE PAIRS L, in their order; its blocks are among S. -/
def Reg (w : World) (v : Value) (L : List Pr) (S : Nat → Prop) : Prop :=
  ∃ sb bk bs D E f, v = .pointer (some ⟨sb, 0, none⟩) ∧ Reg0 w sb bk bs D E f L S

theorem map_keeps {H : Type} {R : Value → Option (DataW H × List MemPlace)} {w w' : World} {S : Nat → Prop} {k : TypeId} {b n : Nat} {D : DataW H} (h : w.ownsMap Try.prog k R b n D) (hk : Spares S w w') (hS : ¬ S b) : w'.ownsMap Try.prog k R b n D := by
  have hlt := h.lt
  obtain ⟨es, clock, hb, F, hs, hD⟩ := h
  exact ⟨es, clock, (hk.block b hlt hS).trans hb, F, hs, hD⟩

theorem Reg0.keeps {w w' : World} {sb bk bs : Nat} {D : DataW Unit} {E : DataW Value} {f : Int → Value} {L : List Pr} {S T : Nat → Prop} (h : Reg0 w sb bk bs D E f L S) (hk : Spares T w w') (hT : ∀ i, S i → ¬ T i) : Reg0 w' sb bk bs D E f L S :=
  ⟨hk.cell h.cellK (hT _ h.inS.1), hk.cell h.cellS (hT _ h.inS.1), map_keeps h.known hk (hT _ h.inS.2.1), h.has, h.size, map_keeps h.signed hk (hT _ h.inS.2.2), h.at', fun x => hk.row (h.rows x) fun g hg => hT g (h.rowS x g hg),
    h.apart, h.ne, h.rne, h.inS, h.rowS, fun i hi => Nat.lt_of_lt_of_le (h.lt i hi) hk.size, h.ok, h.once⟩

theorem Reg.keeps {w w' : World} {v : Value} {L : List Pr} {S T : Nat → Prop} (h : Reg w v L S) (hk : Spares T w w') (hT : ∀ i, S i → ¬ T i) : Reg w' v L S := by
  obtain ⟨sb, bk, bs, D, E, f, rfl, h0⟩ := h
  exact ⟨sb, bk, bs, D, E, f, rfl, h0.keeps hk hT⟩

/-- Nothing that was there has turned. -/
theorem Reg.new {w w' : World} {v : Value} {L : List Pr} {S : Nat → Prop} (h : Reg w v L S) (hb : Below w.heap.size w w') : Reg w' v L S :=
  h.keeps (T := fun _ => False) (Spares.of_new hb) (fun _ _ => id)

theorem Reg.lt {w : World} {v : Value} {L : List Pr} {S : Nat → Prop} (h : Reg w v L S) : ∀ i, S i → i < w.heap.size := by
  obtain ⟨sb, bk, bs, D, E, f, rfl, h0⟩ := h
  exact h0.lt

theorem Reg.ptr {w : World} {v : Value} {L : List Pr} {S : Nat → Prop} (h : Reg w v L S) : ∃ sb, v = .pointer (some ⟨sb, 0, none⟩) := by
  obtain ⟨sb, bk, bs, D, E, f, rfl, h0⟩ := h
  exact ⟨sb, rfl⟩

/-- The blocks of S, and those that are new. -/
def ext (S : Nat → Prop) (w w' : World) (i : Nat) : Prop := S i ∨ (w.heap.size ≤ i ∧ i < w'.heap.size)

/-- What Sign answers. -/
def signE (who : Int) (t : List UInt8) : Int := if who < 1 ∨ 64 < who then 1 else if 65536 < t.length then 2 else 0

/-- .. and what it has behind it. -/
def signL (L : List Pr) (who : Int) (t : List UInt8) : List Pr := if signE who t = 0 ∧ (who, t) ∉ L then L ++ [(who, t)] else L

theorem signL_le (L : List Pr) (who : Int) (t : List UInt8) : (signL L who t).length ≤ L.length + 1 := by
  unfold signL
  split
  · simp
  · omega
end Go.Proofs.Ytnhgjjpjmfjmjaa
