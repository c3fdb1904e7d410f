/- Bytes, expressions in memory (tools/plmem.py: out of stage 4's, 9's and 10's texts). -/
import Derived.Test.YthjgbcbgkafgjaaDoorVKey
import Derived.Test.YthjgbcbgkafgjaaDoorKeep
import Derived.Deep.QuietTactic
import Derived.BigQuiet
import Derived.Deep.Quiet
import Derived.Deep.RegionHeld3
import Derived.Deep.RegionWith
import Derived.Deep.Heap
import Derived.RangeFuncRecord
import Derived.OrdersHeld
import Derived.Deep.AppendLies
import Derived.Great.BuildSlice
import Derived.Shelf.Abstract
import Derived.Shelf.RegionOpen
import Derived.WalkKit
import Derived.WalkMore
import Derived.Lib.Bytealg
import Derived.Lib.UnsafeStr
namespace Go.Proofs.YthjgbcbgkafgjaaDoor
open Go.RowKit Go.Shelf
set_option linter.unusedVariables false
set_option linter.unusedSimpArgs false
set_option maxRecDepth 20000

structure Bytes (w w' : World) : Prop where
  size : w.heap.size ≤ w'.heap.size
  cell : ∀ ad n, w.cell? ad = some (.int .u8 n) → w'.cell? ad = some (.int .u8 n)

theorem Bytes.refl (w : World) : Bytes w w := ⟨Nat.le_refl _, fun _ _ h => h⟩
theorem Bytes.trans {a b c : World} (h : Bytes a b) (k : Bytes b c) : Bytes a c := ⟨Nat.le_trans h.size k.size, fun ad n hc => k.cell ad n (h.cell ad n hc)⟩
theorem Bytes.of_new {w w' : World} (h : Below w.heap.size w w') : Bytes w w' := ⟨h.size, fun ad n hc => by rw [h.cell (p := ad) (World.block_lt_of_cell? w ad hc)]; exact hc⟩

def Says (w : World) (v : Value) (bs : List UInt8) : Prop := Shows w.heap.size w v bs

theorem Says.bytes {w w' : World} {v : Value} {bs : List UInt8} (h : Says w v bs) (hb : Bytes w w') : Says w' v bs := by
  obtain ⟨a, c, hv, h1, h2, hn, h3⟩ := h
  refine ⟨a, c, hv, h1, h2, hn, fun hne => ?_⟩
  obtain ⟨b, off, ha, hlt, hc⟩ := h3 hne
  exact ⟨b, off, ha, by have := hb.size; omega, fun j hj => hb.cell _ _ (hc j hj)⟩

theorem Says.new {w w' : World} {v : Value} {bs : List UInt8} (h : Says w v bs) (hb : Below w.heap.size w w') : Says w' v bs := h.bytes (Bytes.of_new hb)

theorem block_lt {w : World} {g : Nat} {o : Obj} (h : w.heap[g]? = some o) : g < w.heap.size := (Array.getElem?_eq_some_iff.1 h).1

theorem row_form {w : World} {B e n : Nat} {v : Value} {xs : List Value} (h : w.ownsRow B e 1 v n xs) : ∃ a c, v = .slice a n c := by
  rcases h.2 with ⟨rfl, hn⟩ | ⟨g, cap, cur, rfl, _⟩
  · exact ⟨none, 0, by rw [hn]⟩
  · exact ⟨_, _, rfl⟩

theorem below_drewN (n : Nat) (w : World) (m : Nat) : Below n w (w.drewN m) := ⟨rfl, rfl, rfl, Nat.le_refl _, fun _ _ => rfl⟩

def Copy (B : Nat) (w : World) (v : Value) (bs : List UInt8) : Prop := w.ownsRow B 5 1 v bs.length (bs.map by8)

theorem Copy.says {B : Nat} {w : World} {v : Value} {bs : List UInt8} (h : Copy B w v bs) : Says w v bs := (shows_of_owns h).2

theorem Copy.new {B : Nat} {w w' : World} {v : Value} {bs : List UInt8} (h : Copy B w v bs) (hb : Below w.heap.size w w') : Copy B w' v bs :=
  (Spares.of_new (S := fun _ => False) hb).row h (fun _ _ => id)

theorem Copy.spares {S : Nat → Prop} {B B' : Nat} {w w' : World} {v : Value} {bs : List UInt8} (h : Copy B w v bs) (hk : Spares S w w') (hS : ∀ i, S i → i < B) (hB : B' ≤ B) : Copy B' w' v bs :=
  owns_lower (hk.row h (fun g hg hs => by have h1 := (h.lt g hg).1; have h2 := hS g hs; omega)) (fun g hg => by have h1 := (h.lt g hg).1; omega)

theorem spares_set (w : World) (ad : Addr) (v : Value) : Spares (fun b => b = ad.block) w (w.setCell ad v) :=
  ⟨rfl, rfl, rfl, by simp [World.setCell], fun k _ hk => Below.heap_setCell w ad v k hk⟩

theorem Copy.form {B : Nat} {w : World} {v : Value} {bs : List UInt8} (h : Copy B w v bs) : ∃ a c, v = .slice a bs.length c := by
  rcases h.2 with ⟨rfl, hn⟩ | ⟨g, cap, cur, rfl, _⟩
  · exact ⟨none, 0, by rw [hn]⟩
  · exact ⟨_, _, rfl⟩

theorem str4 {B : Nat} {w : World} {v : Value} {bs : List UInt8} (h : Shows B w v bs) : (convert 29 9 v).run Tryd.prog w = .ok (.string (str8 bs)) w :=
  run_string_shows (P := Tryd.prog) 29 5 9 Tryd.underlying29 Tryd.underlying5 Tryd.underlying9 h

theorem new_alloc (w : World) (o : Obj) : Below w.heap.size w (w.alloc o) := (Below.refl _ w).alloc (Nat.le_refl _) _

theorem says_nil (w : World) : Says w (.slice none 0 0) [] := ⟨none, 0, rfl, Nat.le_refl _, by unfold maxLen; omega, fun _ => rfl, fun h => absurd rfl h⟩

theorem alloc3 (w : World) (o1 o2 o3 : Obj) : (((w.alloc o1).alloc o2).alloc o3).heap[w.heap.size]? = some o1 ∧ (((w.alloc o1).alloc o2).alloc o3).heap[w.heap.size + 1]? = some o2 ∧ (((w.alloc o1).alloc o2).alloc o3).heap[w.heap.size + 2]? = some o3 ∧
    Below w.heap.size w (((w.alloc o1).alloc o2).alloc o3) ∧ (((w.alloc o1).alloc o2).alloc o3).heap.size = w.heap.size + 3 := by
  have s1 : (w.alloc o1).heap.size = w.heap.size + 1 := World.size_alloc _ _
  have s2 : ((w.alloc o1).alloc o2).heap.size = w.heap.size + 2 := by rw [World.size_alloc, s1]
  have b1 := (Below.refl (w.alloc o1).heap.size (w.alloc o1)).alloc (Nat.le_refl _) o2
  have b2 := (Below.refl ((w.alloc o1).alloc o2).heap.size ((w.alloc o1).alloc o2)).alloc (Nat.le_refl _) o3
  have n1 := World.alloc_heap_new w o1
  have n2 := World.alloc_heap_new (w.alloc o1) o2
  have n3 := World.alloc_heap_new ((w.alloc o1).alloc o2) o3
  rw [s1] at n2
  rw [s2] at n3
  refine ⟨(b2.block _ (by omega)).trans ((b1.block _ (by omega)).trans n1), (b2.block _ (by omega)).trans n2, n3, (((Below.refl _ w).alloc (Nat.le_refl _) _).alloc (by omega) _).alloc (by omega) _, by rw [World.size_alloc, s2]⟩

theorem alloc2 (w : World) (o1 o2 : Obj) : ((w.alloc o1).alloc o2).heap[w.heap.size]? = some o1 ∧ ((w.alloc o1).alloc o2).heap[w.heap.size + 1]? = some o2 ∧ Below w.heap.size w ((w.alloc o1).alloc o2) ∧ ((w.alloc o1).alloc o2).heap.size = w.heap.size + 2 := by
  have s1 : (w.alloc o1).heap.size = w.heap.size + 1 := World.size_alloc _ _
  have b1 := (Below.refl (w.alloc o1).heap.size (w.alloc o1)).alloc (Nat.le_refl _) o2
  have n1 := World.alloc_heap_new w o1
  have n2 := World.alloc_heap_new (w.alloc o1) o2
  rw [s1] at n2
  exact ⟨(b1.block _ (by omega)).trans n1, n2, ((Below.refl _ w).alloc (Nat.le_refl _) _).alloc (by omega) _, by rw [World.size_alloc, s1]⟩

theorem alloc4 (w : World) (o1 o2 o3 o4 : Obj) : ∃ w4, (((w.alloc o1).alloc o2).alloc o3).alloc o4 = w4 ∧ w4.heap[w.heap.size]? = some o1 ∧ w4.heap[w.heap.size + 1]? = some o2 ∧ w4.heap[w.heap.size + 2]? = some o3 ∧ w4.heap[w.heap.size + 3]? = some o4 ∧ Below w.heap.size w w4 ∧ w4.heap.size = w.heap.size + 4 := by
  obtain ⟨h0, h1, h2, hb, hz⟩ := alloc3 w o1 o2 o3
  have hn := World.alloc_heap_new (((w.alloc o1).alloc o2).alloc o3) o4
  have hb' := (Below.refl (((w.alloc o1).alloc o2).alloc o3).heap.size (((w.alloc o1).alloc o2).alloc o3)).alloc (Nat.le_refl _) o4
  rw [hz] at hn
  exact ⟨_, rfl, (hb'.block _ (by omega)).trans h0, (hb'.block _ (by omega)).trans h1, (hb'.block _ (by omega)).trans h2, hn, hb.trans (hb'.mono (by omega)), by rw [World.size_alloc, hz]⟩

theorem box8 (w : World) (o : Obj) : ∃ W, w.alloc o = W ∧ Below w.heap.size w W ∧ w.heap.size < W.heap.size ∧ W.heap[w.heap.size]? = some o :=
  ⟨_, rfl, (Below.refl _ _).alloc (Nat.le_refl _) _, by simp, heap_alloc_new w _⟩

inductive Ex where
  | mk (k op : Int) (tb nm : List UInt8) (v : Vl) (xs : List Ex)

def zV : Vl := ⟨0, 0, []⟩
def zEx : Ex := .mk 0 0 [] [] zV []

inductive ArgsAt (S : Nat → Prop) (w : World) : List Ex → Value → Prop
  | nil (a : Option Addr) (c : Nat) (hc : c ≤ maxLen) : ArgsAt S w [] (.slice a 0 c)
  | cons (xs : List Ex) (b off c : Nat) (avs : Nat → Value) (hne : xs ≠ []) (hS : S b) (hl : xs.length ≤ c) (hc : c ≤ maxLen)
      (hcell : ∀ (j : Nat) (k op : Int) (tb nm : List UInt8) (vk vn : Int) (vs : List UInt8) (ys : List Ex), xs[j]? = some (.mk k op tb nm ⟨vk, vn, vs⟩ ys) →
        w.cell? ⟨b, off + j * 8, none⟩ = some (.int .i64 k) ∧ w.cell? ⟨b, off + j * 8 + 1, none⟩ = some (.int .i64 op) ∧ w.cell? ⟨b, off + j * 8 + 2, none⟩ = some (.string (str8 tb)) ∧ w.cell? ⟨b, off + j * 8 + 3, none⟩ = some (.string (str8 nm)) ∧
        w.cell? ⟨b, off + j * 8 + 4, none⟩ = some (.int .i64 vk) ∧ w.cell? ⟨b, off + j * 8 + 5, none⟩ = some (.int .i64 vn) ∧ w.cell? ⟨b, off + j * 8 + 6, none⟩ = some (.string (str8 vs)) ∧ w.cell? ⟨b, off + j * 8 + 7, none⟩ = some (avs j))
      (hrec : ∀ (j : Nat) (k op : Int) (tb nm : List UInt8) (vk vn : Int) (vs : List UInt8) (ys : List Ex), xs[j]? = some (.mk k op tb nm ⟨vk, vn, vs⟩ ys) → ArgsAt S w ys (avs j)) :
      ArgsAt S w xs (.slice (some ⟨b, off, none⟩) xs.length c)

theorem ArgsAt.to {S R T : Nat → Prop} {w w' : World} {xs : List Ex} {v : Value} (h : ArgsAt S w xs v) (hk : Spares R w w') (hS : ∀ b, S b → b < w.heap.size → ¬ R b ∧ T b) : ArgsAt T w' xs v := by
  induction h with
  | nil a c hc => exact .nil a c hc
  | cons xs b off c avs hne hSb hl hc hcell hrec ih =>
    have hb : b < w.heap.size := by
      cases xs with
      | nil => exact absurd rfl hne
      | cons x l =>
        obtain ⟨k, op, tb, nm, ⟨vk, vn, vs⟩, ys⟩ := x
        exact World.block_lt_of_cell? w _ (hcell 0 k op tb nm vk vn vs ys rfl).1
    obtain ⟨h1, h2⟩ := hS b hSb hb
    refine .cons xs b off c avs hne h2 hl hc (fun j k op tb nm vk vn vs ys hj => ?_) ih
    obtain ⟨c0, c1, c2, c3, c4, c5, c6, c7⟩ := hcell j k op tb nm vk vn vs ys hj
    exact ⟨hk.cell c0 h1, hk.cell c1 h1, hk.cell c2 h1, hk.cell c3 h1, hk.cell c4 h1, hk.cell c5 h1, hk.cell c6 h1, hk.cell c7 h1⟩

theorem ArgsAt.form {S : Nat → Prop} {w : World} {xs : List Ex} {v : Value} (h : ArgsAt S w xs v) : ∃ a c, v = .slice a xs.length c ∧ c ≤ maxLen := by
  cases h with
  | nil a c hc => exact ⟨a, c, rfl, hc⟩
  | cons xs b off c avs hne hS hl hc hcell hrec => exact ⟨_, c, rfl, hc⟩

def ExV (S : Nat → Prop) (w : World) (x : Ex) (v : Value) : Prop :=
  ∃ (k op : Int) (tb nm : List UInt8) (vk vn : Int) (vs : List UInt8) (ys : List Ex) (aa : Option Addr) (nn cc : Nat), x = .mk k op tb nm ⟨vk, vn, vs⟩ ys ∧ v = .agg #[.int .i64 k, .int .i64 op, .string (str8 tb), .string (str8 nm), .int .i64 vk, .int .i64 vn, .string (str8 vs), .slice aa nn cc] ∧ ArgsAt S w ys (.slice aa nn cc)

theorem ExV.to {S R T : Nat → Prop} {w w' : World} {x : Ex} {v : Value} (h : ExV S w x v) (hk : Spares R w w') (hS : ∀ b, S b → b < w.heap.size → ¬ R b ∧ T b) : ExV T w' x v := by
  obtain ⟨k, op, tb, nm, vk, vn, vs, ys, aa, nn, cc, h1, h2, h3⟩ := h
  exact ⟨k, op, tb, nm, vk, vn, vs, ys, aa, nn, cc, h1, h2, h3.to hk hS⟩

theorem cells8 {w : World} {g : Nat} {a b c d e f i j : Value} {t : TypeId} {fr : Nat × Nat} (h : w.heap[g]? = some (.cells #[a, b, c, d, e, f, i, j] t fr)) :
    w.cell? ⟨g, 0, none⟩ = some a ∧ w.cell? ⟨g, 1, none⟩ = some b ∧ w.cell? ⟨g, 2, none⟩ = some c ∧ w.cell? ⟨g, 3, none⟩ = some d ∧ w.cell? ⟨g, 4, none⟩ = some e ∧ w.cell? ⟨g, 5, none⟩ = some f ∧ w.cell? ⟨g, 6, none⟩ = some i ∧ w.cell? ⟨g, 7, none⟩ = some j :=
  ⟨by rw [cell_row _ _ _ _ _ _ h]; rfl, by rw [cell_row _ _ _ _ _ _ h]; rfl, by rw [cell_row _ _ _ _ _ _ h]; rfl, by rw [cell_row _ _ _ _ _ _ h]; rfl, by rw [cell_row _ _ _ _ _ _ h]; rfl, by rw [cell_row _ _ _ _ _ _ h]; rfl, by rw [cell_row _ _ _ _ _ _ h]; rfl, by rw [cell_row _ _ _ _ _ _ h]; rfl⟩

theorem args_one {S : Nat → Prop} {w : World} {b : Nat} {k op : Int} {tb nm : List UInt8} {vk vn : Int} {vs : List UInt8} {ys : List Ex} {av : Value} {t : TypeId} (hS : S b)
    (hb : w.heap[b]? = some (.cells #[.int .i64 k, .int .i64 op, .string (str8 tb), .string (str8 nm), .int .i64 vk, .int .i64 vn, .string (str8 vs), av] t)) (ha : ArgsAt S w ys av) :
    ArgsAt S w [.mk k op tb nm ⟨vk, vn, vs⟩ ys] (.slice (some ⟨b, 0, none⟩) 1 1) := by
  refine ArgsAt.cons (S := S) (w := w) [.mk k op tb nm ⟨vk, vn, vs⟩ ys] b 0 1 (fun _ => av) (by simp) hS (by simp) (by unfold maxLen; omega) ?_ ?_
  · intro j k' op' tb' nm' vk' vn' vs' ys' hj
    match j, hj with
    | 0, hj =>
      simp only [List.getElem?_cons_zero, Option.some.injEq, Ex.mk.injEq, Vl.mk.injEq] at hj
      obtain ⟨rfl, rfl, rfl, rfl, ⟨rfl, rfl, rfl⟩, rfl⟩ := hj
      simpa using cells8 hb
  · intro j k' op' tb' nm' vk' vn' vs' ys' hj
    match j, hj with
    | 0, hj =>
      simp only [List.getElem?_cons_zero, Option.some.injEq, Ex.mk.injEq, Vl.mk.injEq] at hj
      obtain ⟨rfl, rfl, rfl, rfl, ⟨rfl, rfl, rfl⟩, rfl⟩ := hj
      exact ha

theorem args_two {S : Nat → Prop} {w : World} {b : Nat} {k op : Int} {tb nm : List UInt8} {vk vn : Int} {vs : List UInt8} {ys : List Ex} {av : Value} {k2 op2 : Int} {tb2 nm2 : List UInt8} {vk2 vn2 : Int} {vs2 : List UInt8} {ys2 : List Ex} {av2 : Value} {t : TypeId} (hS : S b)
    (hb : w.heap[b]? = some (.cells #[.int .i64 k, .int .i64 op, .string (str8 tb), .string (str8 nm), .int .i64 vk, .int .i64 vn, .string (str8 vs), av, .int .i64 k2, .int .i64 op2, .string (str8 tb2), .string (str8 nm2), .int .i64 vk2, .int .i64 vn2, .string (str8 vs2), av2] t)) (ha : ArgsAt S w ys av) (ha2 : ArgsAt S w ys2 av2) :
    ArgsAt S w [.mk k op tb nm ⟨vk, vn, vs⟩ ys, .mk k2 op2 tb2 nm2 ⟨vk2, vn2, vs2⟩ ys2] (.slice (some ⟨b, 0, none⟩) 2 2) := by
  refine ArgsAt.cons (S := S) (w := w) [.mk k op tb nm ⟨vk, vn, vs⟩ ys, .mk k2 op2 tb2 nm2 ⟨vk2, vn2, vs2⟩ ys2] b 0 2 (fun j => if j = 0 then av else av2) (by simp) hS (by simp) (by unfold maxLen; omega) ?_ ?_
  · intro j k' op' tb' nm' vk' vn' vs' ys' hj
    have cl := fun i => cell_of_row w b i _ _ _ hb
    match j, hj with
    | 0, hj =>
      simp only [List.getElem?_cons_zero, Option.some.injEq, Ex.mk.injEq, Vl.mk.injEq] at hj
      obtain ⟨rfl, rfl, rfl, rfl, ⟨rfl, rfl, rfl⟩, rfl⟩ := hj
      simp [cl]
    | 1, hj =>
      simp only [List.getElem?_cons_succ, List.getElem?_cons_zero, Option.some.injEq, Ex.mk.injEq, Vl.mk.injEq] at hj
      obtain ⟨rfl, rfl, rfl, rfl, ⟨rfl, rfl, rfl⟩, rfl⟩ := hj
      simp [cl]
  · intro j k' op' tb' nm' vk' vn' vs' ys' hj
    match j, hj with
    | 0, hj =>
      simp only [List.getElem?_cons_zero, Option.some.injEq, Ex.mk.injEq, Vl.mk.injEq] at hj
      obtain ⟨rfl, rfl, rfl, rfl, ⟨rfl, rfl, rfl⟩, rfl⟩ := hj
      exact ha
    | 1, hj =>
      simp only [List.getElem?_cons_succ, List.getElem?_cons_zero, Option.some.injEq, Ex.mk.injEq, Vl.mk.injEq] at hj
      obtain ⟨rfl, rfl, rfl, rfl, ⟨rfl, rfl, rfl⟩, rfl⟩ := hj
      exact ha2

def Els {α : Type} (z : Nat) (El : (Nat → Prop) → World → α → List Value → Prop) (S : Nat → Prop) (w : World) (xs : List α) (css : List (List Value)) : Prop :=
  css.length = xs.length ∧ ∀ (j : Nat) (x : α) (cs : List Value), xs[j]? = some x → css[j]? = some cs → cs.length = z ∧ El S w x cs

theorem Els.nil {α : Type} {z : Nat} {El : (Nat → Prop) → World → α → List Value → Prop} {S : Nat → Prop} {w : World} : Els z El S w [] [] := ⟨rfl, fun j x cs h => by simp at h⟩

theorem Els.to {α : Type} {z : Nat} {El : (Nat → Prop) → World → α → List Value → Prop} {S T : Nat → Prop} {w w' : World} {xs : List α} {css : List (List Value)} (h : Els z El S w xs css) (hE : ∀ x cs, El S w x cs → El T w' x cs) : Els z El T w' xs css :=
  ⟨h.1, fun j x cs hx hc => ⟨(h.2 j x cs hx hc).1, hE x cs (h.2 j x cs hx hc).2⟩⟩

def SlAt {α : Type} (z : Nat) (El : (Nat → Prop) → World → α → List Value → Prop) (S : Nat → Prop) (w : World) (xs : List α) (v : Value) : Prop :=
  ∃ (a : Option Addr) (c : Nat) (css : List (List Value)), v = .slice a xs.length c ∧ xs.length ≤ c ∧ c ≤ maxLen ∧ Els z El S w xs css ∧
    (xs ≠ [] → ∃ b off, a = some ⟨b, off, none⟩ ∧ S b ∧ ∀ (j : Nat) (cs : List Value), css[j]? = some cs → ∀ (i : Nat) (u : Value), cs[i]? = some u → w.cell? ⟨b, off + j * z + i, none⟩ = some u)

theorem SlAt.nil {α : Type} {z : Nat} {El : (Nat → Prop) → World → α → List Value → Prop} {S : Nat → Prop} {w : World} : SlAt z El S w ([] : List α) (.slice none 0 0) :=
  ⟨none, 0, [], rfl, Nat.le_refl _, Nat.zero_le _, Els.nil, fun h => absurd rfl h⟩

theorem SlAt.to {α : Type} {z : Nat} {El : (Nat → Prop) → World → α → List Value → Prop} {S R T : Nat → Prop} {w w' : World} {xs : List α} {v : Value} (hz : 0 < z) (h : SlAt z El S w xs v) (hk : Spares R w w') (hS : ∀ b, S b → b < w.heap.size → ¬ R b ∧ T b) (hE : ∀ x cs, El S w x cs → El T w' x cs) : SlAt z El T w' xs v := by
  obtain ⟨a, c, css, h1, h2, h3, h4, h5⟩ := h
  refine ⟨a, c, css, h1, h2, h3, h4.to hE, fun hne => ?_⟩
  obtain ⟨b, off, ha, hb, hc⟩ := h5 hne
  have hlt : b < w.heap.size := by
    cases xs with
    | nil => exact absurd rfl hne
    | cons x l =>
      cases css with
      | nil => have := h4.1; simp at this
      | cons cs css =>
        have := h4.2 0 x cs rfl rfl
        cases cs with
        | nil => have := this.1; simp at this; omega
        | cons u cs => exact World.block_lt_of_cell? w _ (hc 0 (u :: cs) rfl 0 u rfl)
  obtain ⟨h6, h7⟩ := hS b hb hlt
  exact ⟨b, off, ha, h7, fun j cs hj i u hu => hk.cell (hc j cs hj i u hu) h6⟩

theorem SlAt.form {α : Type} {z : Nat} {El : (Nat → Prop) → World → α → List Value → Prop} {S : Nat → Prop} {w : World} {xs : List α} {v : Value} (h : SlAt z El S w xs v) : ∃ a c, v = .slice a xs.length c := by
  obtain ⟨a, c, css, h1, _⟩ := h
  exact ⟨a, c, h1⟩

def VlE (_ : Nat → Prop) (_ : World) (x : Vl) (cs : List Value) : Prop := cs = [.int .i64 x.k, .int .i64 x.n, .string (str8 x.s)]

theorem sl_get {α : Type} {z : Nat} {El : (Nat → Prop) → World → α → List Value → Prop} {S : Nat → Prop} {w : World} {xs : List α} {aa : Option Addr} {nn cc : Nat} (h : SlAt z El S w xs (.slice aa nn cc)) {j : Nat} {x : α} (hx : xs[j]? = some x) :
    nn = xs.length ∧ nn ≤ cc ∧ cc ≤ maxLen ∧ ∃ (b off : Nat) (cs : List Value), aa = some ⟨b, off, none⟩ ∧ S b ∧ El S w x cs ∧ ∀ (i : Nat) (u : Value), cs[i]? = some u → w.cell? ⟨b, off + j * z + i, none⟩ = some u := by
  obtain ⟨a, c, css, hv, h1, h2, h3, h4⟩ := h
  simp only [Value.slice.injEq] at hv
  obtain ⟨rfl, rfl, rfl⟩ := hv
  have hj : j < xs.length := (List.getElem?_eq_some_iff.1 hx).1
  obtain ⟨b, off, rfl, hS, hc⟩ := h4 (fun e => by rw [e] at hj; simp at hj)
  obtain ⟨cs, hcs⟩ : ∃ cs, css[j]? = some cs := ⟨_, List.getElem?_eq_getElem (by rw [h3.1]; exact hj)⟩
  exact ⟨rfl, h1, h2, b, off, cs, rfl, hS, (h3.2 j x cs hx hcs).2, fun i u hu => hc j cs hcs i u hu⟩

def ExE (S : Nat → Prop) (w : World) (x : Ex) (cs : List Value) : Prop :=
  ∃ (k op : Int) (tb nm : List UInt8) (vk vn : Int) (vs : List UInt8) (ys : List Ex) (aa : Option Addr) (nn cc : Nat), x = .mk k op tb nm ⟨vk, vn, vs⟩ ys ∧ cs = [.int .i64 k, .int .i64 op, .string (str8 tb), .string (str8 nm), .int .i64 vk, .int .i64 vn, .string (str8 vs), .slice aa nn cc] ∧ ArgsAt S w ys (.slice aa nn cc)

theorem ExE.to {S R T : Nat → Prop} {w w' : World} {x : Ex} {cs : List Value} (h : ExE S w x cs) (hk : Spares R w w') (hS : ∀ b, S b → b < w.heap.size → ¬ R b ∧ T b) : ExE T w' x cs := by
  obtain ⟨k, op, tb, nm, vk, vn, vs, ys, aa, nn, cc, h1, h2, h3⟩ := h
  exact ⟨k, op, tb, nm, vk, vn, vs, ys, aa, nn, cc, h1, h2, h3.to hk hS⟩

theorem ExE.v {S : Nat → Prop} {w : World} {x : Ex} {cs : List Value} (h : ExE S w x cs) : ExV S w x (.agg cs.toArray) := by
  obtain ⟨k, op, tb, nm, vk, vn, vs, ys, aa, nn, cc, h1, h2, h3⟩ := h
  exact ⟨k, op, tb, nm, vk, vn, vs, ys, aa, nn, cc, h1, by rw [h2], h3⟩

theorem args_sl {S : Nat → Prop} {w : World} {xs : List Ex} {v : Value} (h : ArgsAt S w xs v) : SlAt 8 ExE S w xs v := by
  cases h with
  | nil a c hc => exact ⟨a, c, [], rfl, Nat.zero_le _, hc, Els.nil, fun e => absurd rfl e⟩
  | cons xs b off c avs hne hS hl hc hcell hrec =>
    have hall : ∀ (j : Nat) (x : Ex), xs[j]? = some x → ∃ cs, ExE S w x cs ∧ cs.length = 8 ∧ ∀ (i : Nat) (u : Value), cs[i]? = some u → w.cell? ⟨b, off + j * 8 + i, none⟩ = some u := fun j x hx => by
      obtain ⟨k, op, tb, nm, ⟨vk, vn, vs⟩, ys⟩ := x
      obtain ⟨c0, c1, c2, c3, c4, c5, c6, c7⟩ := hcell j k op tb nm vk vn vs ys hx
      obtain ⟨a1, c1', e, _⟩ := (hrec j k op tb nm vk vn vs ys hx).form
      refine ⟨[.int .i64 k, .int .i64 op, .string (str8 tb), .string (str8 nm), .int .i64 vk, .int .i64 vn, .string (str8 vs), avs j], ⟨k, op, tb, nm, vk, vn, vs, ys, a1, ys.length, c1', rfl, by rw [e], e ▸ hrec j k op tb nm vk vn vs ys hx⟩, rfl, fun i u hu => ?_⟩
      match i, hu with
      | 0, hu => cases hu; exact c0
      | 1, hu => cases hu; exact c1
      | 2, hu => cases hu; exact c2
      | 3, hu => cases hu; exact c3
      | 4, hu => cases hu; exact c4
      | 5, hu => cases hu; exact c5
      | 6, hu => cases hu; exact c6
      | 7, hu => cases hu; exact c7
    have hcs : ∃ css : List (List Value), css.length = xs.length ∧ ∀ (j : Nat) (x : Ex) (cs : List Value), xs[j]? = some x → css[j]? = some cs → (ExE S w x cs ∧ cs.length = 8 ∧ ∀ (i : Nat) (u : Value), cs[i]? = some u → w.cell? ⟨b, off + j * 8 + i, none⟩ = some u) := by
      have := fun (j : Fin xs.length) => hall j.1 xs[j.1] (List.getElem?_eq_getElem j.2)
      refine ⟨List.ofFn fun j => Classical.choose (this j), by simp, fun j x cs hx hc => ?_⟩
      obtain ⟨hj, rfl⟩ := List.getElem?_eq_some_iff.1 hx
      have hc2 : cs = Classical.choose (this ⟨j, hj⟩) := by
        rw [List.getElem?_ofFn] at hc
        simp [hj] at hc
        exact hc.symm
      rw [hc2]
      exact Classical.choose_spec (this ⟨j, hj⟩)
    obtain ⟨css, h1, h2⟩ := hcs
    refine ⟨some ⟨b, off, none⟩, c, css, rfl, hl, hc, ⟨h1, fun j x cs hx hc => ⟨(h2 j x cs hx hc).2.1, (h2 j x cs hx hc).1⟩⟩, fun _ => ⟨b, off, rfl, hS, fun j cs hc i u hu => ?_⟩⟩
    obtain ⟨x, hx⟩ : ∃ x, xs[j]? = some x := ⟨_, List.getElem?_eq_getElem (by rw [← h1]; exact (List.getElem?_eq_some_iff.1 hc).1)⟩
    exact (h2 j x cs hx hc).2.2 i u hu

def RgV (v : Vl) : Prop := -9223372036854775808 ≤ v.n ∧ v.n ≤ 9223372036854775807 ∧ v.s.length ≤ 9223372036854775807

inductive RgE : Ex → Prop
  | mk (k op : Int) (tb nm : List UInt8) (v : Vl) (xs : List Ex) (h1 : -9223372036854775808 ≤ v.n) (h2 : v.n ≤ 9223372036854775807) (h3 : v.s.length ≤ 9223372036854775807) (h4 : tb.length ≤ 9223372036854775807) (h5 : nm.length ≤ 9223372036854775807) (hx : ∀ x ∈ xs, RgE x) : RgE (.mk k op tb nm v xs)
end Go.Proofs.YthjgbcbgkafgjaaDoor
