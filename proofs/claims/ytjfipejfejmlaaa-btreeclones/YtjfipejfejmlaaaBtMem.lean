/- Entries, bytes and rows in memory (out of stage 4's texts; tools/btmem.py). -/
import Derived.Test.YtjfipejfejmlaaaBtPure
import Derived.Test.YtjfipejfejmlaaaKeep
import Derived.Deep.QuietTactic
import Derived.BigQuiet
import Derived.Deep.Quiet
import Derived.Shelf.Abstract
import Derived.Shelf.RegionOpen
import Derived.WalkKit
import Derived.WalkMore
import Derived.Deep.RegionHeld3
import Derived.Deep.RegionWith
import Derived.Deep.Heap
import Derived.RangeFuncRecord
import Derived.OrdersHeld
import Derived.Deep.AppendLies
import Derived.Great.BuildSlice
import Derived.Deep.CutBlock
import Derived.Lib.Bytealg
import Derived.Lib.UnsafeStr
namespace Go.Proofs.Ytjfipejfejmlaaa
open Go.RowKit Go.Shelf
set_option linter.unusedVariables false
set_option linter.unusedSimpArgs false
set_option maxRecDepth 20000

theorem str8_toList (bs : List UInt8) : (str8 bs).toList = bs := by simp [str8, ByteArray.toList_eq]

/-- What of bytes there was is there. -/
structure Bytes (w w' : World) : Prop where
  size : w.heap.size ≤ w'.heap.size
  cell : ∀ ad n, w.cell? ad = some (.int .u8 n) → w'.cell? ad = some (.int .u8 n)

theorem Bytes.refl (w : World) : Bytes w w := ⟨Nat.le_refl _, fun _ _ h => h⟩
theorem Bytes.trans {a b c : World} (h : Bytes a b) (k : Bytes b c) : Bytes a c := ⟨Nat.le_trans h.size k.size, fun ad n hc => k.cell ad n (h.cell ad n hc)⟩
theorem Bytes.of_new {w w' : World} (h : Below w.heap.size w w') : Bytes w w' := ⟨h.size, fun ad n hc => by rw [h.cell (p := ad) (World.block_lt_of_cell? w ad hc)]; exact hc⟩

/-- Bytes that a slice shows, wherever they lie. -/
def Says (w : World) (v : Value) (bs : List UInt8) : Prop := Shows w.heap.size w v bs

theorem Says.bytes {w w' : World} {v : Value} {bs : List UInt8} (h : Says w v bs) (hb : Bytes w w') : Says w' v bs := by
  obtain ⟨a, c, hv, h1, h2, hn, h3⟩ := h
  refine ⟨a, c, hv, h1, h2, hn, fun hne => ?_⟩
  obtain ⟨b, off, ha, hlt, hc⟩ := h3 hne
  exact ⟨b, off, ha, by have := hb.size; omega, fun j hj => hb.cell _ _ (hc j hj)⟩

theorem Says.new {w w' : World} {v : Value} {bs : List UInt8} (h : Says w v bs) (hb : Below w.heap.size w w') : Says w' v bs := h.bytes (Bytes.of_new hb)

theorem block_lt {w : World} {g : Nat} {o : Obj} (h : w.heap[g]? = some o) : g < w.heap.size := (Array.getElem?_eq_some_iff.1 h).1

theorem row_form {w : World} {B e n : Nat} {v : Value} {xs : List Value} (h : w.ownsRow B e 1 v n xs) : ∃ a c, v = .slice a n c := by
  rcases h.2 with ⟨rfl, hn⟩ | ⟨g, cap, cur, rfl, _⟩
  · exact ⟨none, 0, by rw [hn]⟩
  · exact ⟨_, _, rfl⟩

theorem below_drewN (n : Nat) (w : World) (m : Nat) : Below n w (w.drewN m) := ⟨rfl, rfl, rfl, Nat.le_refl _, fun _ _ => rfl⟩

/-- A copy: nil of nil, else in a block of its own. -/
def Copy (B : Nat) (w : World) (v : Value) (bs : List UInt8) : Prop := w.ownsRow B 5 1 v bs.length (bs.map by8)

theorem Copy.says {B : Nat} {w : World} {v : Value} {bs : List UInt8} (h : Copy B w v bs) : Says w v bs := (shows_of_owns h).2

theorem Copy.new {B : Nat} {w w' : World} {v : Value} {bs : List UInt8} (h : Copy B w v bs) (hb : Below w.heap.size w w') : Copy B w' v bs :=
  (Spares.of_new (S := fun _ => False) hb).row h (fun _ _ => id)

theorem Copy.spares {S : Nat → Prop} {B B' : Nat} {w w' : World} {v : Value} {bs : List UInt8} (h : Copy B w v bs) (hk : Spares S w w') (hS : ∀ i, S i → i < B) (hB : B' ≤ B) : Copy B' w' v bs :=
  owns_lower (hk.row h (fun g hg hs => by have h1 := (h.lt g hg).1; have h2 := hS g hs; omega)) (fun g hg => by have h1 := (h.lt g hg).1; omega)

theorem spares_set (w : World) (ad : Addr) (v : Value) : Spares (fun b => b = ad.block) w (w.setCell ad v) :=
  ⟨rfl, rfl, rfl, by simp [World.setCell], fun k _ hk => Below.heap_setCell w ad v k hk⟩

theorem spares_set2 (w : World) (g i j : Nat) (u v : Value) : Spares (fun b => b = g) w ((w.setCell ⟨g, i, none⟩ u).setCell ⟨g, j, none⟩ v) :=
  (spares_set w ⟨g, i, none⟩ u).andThen (spares_set _ ⟨g, j, none⟩ v) (fun i hi => .inl hi)

theorem Copy.form {B : Nat} {w : World} {v : Value} {bs : List UInt8} (h : Copy B w v bs) : ∃ a c, v = .slice a bs.length c := by
  rcases h.2 with ⟨rfl, hn⟩ | ⟨g, cap, cur, rfl, _⟩
  · exact ⟨none, 0, by rw [hn]⟩
  · exact ⟨_, _, rfl⟩

/-- An entry as it lies: its two slices, and what they show. -/
structure EntV where
  kv : Value
  vv : Value
  k : List UInt8
  v : List UInt8

def EntV.ent (x : EntV) : Ent := (x.k, x.v)
def EntV.two (x : EntV) : List Value := [x.kv, x.vv]

/-- No two share a block. -/
def Sep (vs : List Value) : Prop := vs.Pairwise fun u v => ∀ g, u.ownBlock = some g → v.ownBlock ≠ some g

/-- A SLICE OF ENTRIES, all in blocks of their own from B on. -/
structure Rowed (B : Nat) (W : World) (sv : Value) (xs : List EntV) : Prop where
  row : W.ownsRow B 46 2 sv xs.length (xs.flatMap EntV.two)
  cps : ∀ x ∈ xs, Copy B W x.kv x.k ∧ Copy B W x.vv x.v
  sep : Sep (sv :: xs.flatMap EntV.two)

theorem rowed_nil (B : Nat) (W : World) : Rowed B W (.slice none 0 0) [] := ⟨World.ownsRow_nil _ _ _ _, fun x hx => (by cases hx), by simp [Sep]⟩

theorem Rowed.mem {B : Nat} {W : World} {sv : Value} {xs : List EntV} (h : Rowed B W sv xs) (u : Value) (hu : u ∈ xs.flatMap EntV.two) : ∃ bs, Copy B W u bs := by
  obtain ⟨x, hx, hu⟩ := List.mem_flatMap.1 hu
  simp only [EntV.two, List.mem_cons, List.not_mem_nil, or_false] at hu
  rcases hu with rfl | rfl
  · exact ⟨_, (h.cps x hx).1⟩
  · exact ⟨_, (h.cps x hx).2⟩

theorem Rowed.new {B : Nat} {W W' : World} {sv : Value} {xs : List EntV} (h : Rowed B W sv xs) (hb : Below W.heap.size W W') : Rowed B W' sv xs :=
  ⟨(Spares.of_new (S := fun _ => False) hb).row h.row (fun _ _ => id), fun x hx => ⟨(h.cps x hx).1.new hb, (h.cps x hx).2.new hb⟩, h.sep⟩

theorem Rowed.lower {B B' : Nat} {W : World} {sv : Value} {xs : List EntV} (h : Rowed B W sv xs) (hB : B' ≤ B) : Rowed B' W sv xs :=
  ⟨owns_lower h.row (fun g hg => Nat.le_trans hB (h.row.lt g hg).1), fun x hx => ⟨owns_lower (h.cps x hx).1 (fun g hg => Nat.le_trans hB ((h.cps x hx).1.lt g hg).1), owns_lower (h.cps x hx).2 (fun g hg => Nat.le_trans hB ((h.cps x hx).2.lt g hg).1)⟩, h.sep⟩

theorem Try.infoEntryZ : (Try.prog.info? 46).map (fun i => (i.zero, i.size, i.bytes)) = some (some (.agg #[.slice none 0 0, .slice none 0 0]), 2, 48) := by kernel_rfl
theorem Try.infoEntries : (Try.prog.info? 27).map (·.size) = some 1 := by kernel_rfl

/-- v IS A SLICE OF THE ENTRIES xs, below block B. -/
def Ents (B : Nat) (w : World) (v : Value) (xs : List EntV) : Prop :=
  ∃ a c, v = .slice a xs.length c ∧ xs.length ≤ c ∧ c ≤ maxLen ∧ (xs ≠ [] → ∃ b off, a = some ⟨b, off, none⟩ ∧ b < B ∧ ∀ j x, xs[j]? = some x →
    w.cell? ⟨b, off + j * 2, none⟩ = some x.kv ∧ w.cell? ⟨b, off + j * 2 + 1, none⟩ = some x.vv ∧ Shows B w x.kv x.k ∧ Shows B w x.vv x.v)

theorem Ents.below {B : Nat} {w w' : World} {v : Value} {xs : List EntV} (h : Ents B w v xs) (hb : Below B w w') : Ents B w' v xs := by
  obtain ⟨a, c, hv, h1, h2, h3⟩ := h
  refine ⟨a, c, hv, h1, h2, fun hne => ?_⟩
  obtain ⟨b, off, ha, hlt, hc⟩ := h3 hne
  refine ⟨b, off, ha, hlt, fun j x hx => ?_⟩
  obtain ⟨c0, c1, s1, s2⟩ := hc j x hx
  exact ⟨by rw [hb.cell (p := ⟨b, off + j * 2, none⟩) hlt]; exact c0, by rw [hb.cell (p := ⟨b, off + j * 2 + 1, none⟩) hlt]; exact c1, s1.below hb, s2.below hb⟩

theorem Ents.mono {B B' : Nat} {w : World} {v : Value} {xs : List EntV} (h : Ents B w v xs) (hB : B ≤ B') : Ents B' w v xs := by
  obtain ⟨a, c, hv, h1, h2, h3⟩ := h
  refine ⟨a, c, hv, h1, h2, fun hne => ?_⟩
  obtain ⟨b, off, ha, hlt, hc⟩ := h3 hne
  exact ⟨b, off, ha, by omega, fun j x hx => ⟨(hc j x hx).1, (hc j x hx).2.1, (hc j x hx).2.2.1.mono hB, (hc j x hx).2.2.2.mono hB⟩⟩

theorem Ents.new {w w' : World} {v : Value} {xs : List EntV} (h : Ents w.heap.size w v xs) (hb : Below w.heap.size w w') : Ents w'.heap.size w' v xs := (h.below hb).mono hb.size

theorem Ents.len {B : Nat} {w : World} {v : Value} {xs : List EntV} (h : Ents B w v xs) : xs.length ≤ maxLen := by
  obtain ⟨a, c, hv, h1, h2, h3⟩ := h
  omega

/-- One entry. -/
theorem Ents.at {B : Nat} {w : World} {a : Option Addr} {l c : Nat} {xs : List EntV} (h : Ents B w (.slice a l c) xs) (k : Nat) (hk : k < xs.length) :
    ∃ b off ka kc va vc kb vb, a = some ⟨b, off, none⟩ ∧ b < B ∧ xs[k]? = some ⟨.slice ka kb.length kc, .slice va vb.length vc, kb, vb⟩ ∧
    w.cell? ⟨b, off + k * 2, none⟩ = some (.slice ka kb.length kc) ∧ w.cell? ⟨b, off + k * 2 + 1, none⟩ = some (.slice va vb.length vc) ∧
    Shows B w (.slice ka kb.length kc) kb ∧ Shows B w (.slice va vb.length vc) vb := by
  obtain ⟨a', c', hv, h1, h2, h3⟩ := h
  simp only [Value.slice.injEq] at hv
  obtain ⟨rfl, rfl, rfl⟩ := hv
  obtain ⟨b, off, rfl, hlt, hc⟩ := h3 (by intro e; rw [e] at hk; simp at hk)
  obtain ⟨⟨kv, vv, k', v'⟩, hx⟩ : ∃ x, xs[k]? = some x := ⟨_, List.getElem?_eq_getElem hk⟩
  obtain ⟨c0, c1, s1, s2⟩ := hc k _ hx
  simp only at c0 c1 s1 s2
  obtain ⟨ka, kc, ek, _⟩ := id s1
  obtain ⟨va, vc, ev, _⟩ := id s2
  subst ek ev
  exact ⟨b, off, ka, kc, va, vc, k', v', rfl, hlt, hx, c0, c1, s1, s2⟩

/-- The first m entries. -/
theorem Ents.take {B : Nat} {w : World} {b off l c : Nat} {xs : List EntV} (h : Ents B w (.slice (some ⟨b, off, none⟩) l c) xs) (m : Nat) (hm : m ≤ xs.length) :
    Ents B w (.slice (some ⟨b, off, none⟩) m c) (xs.take m) := by
  obtain ⟨a', c', hv, h1, h2, h3⟩ := h
  simp only [Value.slice.injEq] at hv
  obtain ⟨rfl, rfl, rfl⟩ := hv
  have hl : (xs.take m).length = m := by simp; omega
  refine ⟨_, c, by rw [hl], by rw [hl]; omega, h2, fun hne => ?_⟩
  obtain ⟨b', off', ha, hlt, hc⟩ := h3 (by intro e; rw [e] at hne; simp at hne)
  refine ⟨b', off', ha, hlt, fun j x hx => hc j x ?_⟩
  rw [List.getElem?_take] at hx
  split at hx
  · exact hx
  · cases hx

/-- Those from m on. -/
theorem Ents.drop {B : Nat} {w : World} {b off l c : Nat} {xs : List EntV} (h : Ents B w (.slice (some ⟨b, off, none⟩) l c) xs) (m : Nat) (hm : m < xs.length) :
    Ents B w (.slice (some ⟨b, off + m * 2, none⟩) (xs.length - m) (c - m)) (xs.drop m) := by
  obtain ⟨a', c', hv, h1, h2, h3⟩ := h
  simp only [Value.slice.injEq] at hv
  obtain ⟨rfl, rfl, rfl⟩ := hv
  have hl : (xs.drop m).length = xs.length - m := by simp
  refine ⟨_, c - m, by rw [hl], by rw [hl]; omega, by omega, fun hne => ?_⟩
  obtain ⟨b', off', ha, hlt, hc⟩ := h3 (by intro e; rw [e] at hm; simp at hm)
  simp only [Option.some.injEq, Addr.mk.injEq] at ha
  obtain ⟨rfl, rfl, _⟩ := ha
  refine ⟨b, off + m * 2, rfl, hlt, fun j x hx => ?_⟩
  rw [List.getElem?_drop] at hx
  have := hc (m + j) x hx
  rw [show off + (m + j) * 2 = off + m * 2 + j * 2 by omega] at this
  exact this

theorem flat_two : ∀ (xs : List EntV) (j : Nat) (x : EntV), xs[j]? = some x → (xs.flatMap EntV.two)[j * 2]? = some x.kv ∧ (xs.flatMap EntV.two)[j * 2 + 1]? = some x.vv
  | [], j, x, h => by simp at h
  | y :: xs, 0, x, h => by simp at h; subst h; simp [EntV.two]
  | y :: xs, j + 1, x, h => by
    have := flat_two xs j x (by simpa using h)
    rw [show (j + 1) * 2 = j * 2 + 2 by omega]
    simpa [EntV.two] using this

theorem Rowed.ents {B : Nat} {W : World} {sv : Value} {xs : List EntV} (h : Rowed B W sv xs) : Ents W.heap.size W sv xs := by
  rcases h.row.2 with ⟨rfl, h0⟩ | ⟨g, cap, cur, rfl, hB, hg, hr⟩
  · have : xs = [] := List.eq_nil_of_length_eq_zero h0
    subst this
    exact ⟨none, 0, rfl, Nat.le_refl _, by unfold maxLen; omega, fun h => absurd rfl h⟩
  · obtain ⟨h1, h2, h3, h4⟩ := hr
    refine ⟨_, cap, rfl, h1, h2, fun hne => ⟨g, 0, rfl, (Array.getElem?_eq_some_iff.1 hg).1, fun j x hx => ?_⟩⟩
    have hj : j < xs.length := (List.getElem?_eq_some_iff.1 hx).1
    obtain ⟨f0, f1⟩ := flat_two xs j x hx
    rw [← h4, List.getElem?_take, if_pos (by omega), Array.getElem?_toList] at f0 f1
    have hm : x ∈ xs := List.mem_of_getElem? hx
    refine ⟨?_, ?_, (h.cps x hm).1.says, (h.cps x hm).2.says⟩
    · rw [cell_of_row _ _ _ _ _ _ hg, Nat.zero_add]; exact f0
    · rw [cell_of_row _ _ _ _ _ _ hg, Nat.zero_add]; exact f1

theorem str4 {B : Nat} {w : World} {v : Value} {bs : List UInt8} (h : Shows B w v bs) : (convert 30 9 v).run Try.prog w = .ok (.string (str8 bs)) w :=
  run_string_shows (P := Try.prog) 30 5 9 Try.underlying30 Try.underlying5 Try.underlying9 h

theorem same_any (B C : Nat) (v u : Value) (xs ys : List EntV) (w : World) (hE : Ents B w v xs) (hF : Ents C w u ys) (hxy : xs.map EntV.ent = ys.map EntV.ent) :
    Calls Try.prog 15 #[v, u] w fun e w' => e = .returned (.bool true) ∧ ∃ q, w' = w.drewN q := by
  obtain ⟨a, c, rfl, hc1, hc2, _⟩ := id hE
  obtain ⟨a', c', rfl, hd1, hd2, _⟩ := id hF
  unfold maxLen at hc2 hd2
  have hlen : ys.length = xs.length := by have := congrArg List.length hxy; simp at this; omega
  have HE := hid hE
  have HF := hid hF
  have HXY := hid hxy
  rw [hlen] at HF ⊢
  have HL := hid hlen
  clear hE hF hxy hlen hd1
  go_enter Try.func15, Try.ntmps15
  go_wp2_with fail
  go_loopw [5] (fun i wr => ∃ k : Nat, k ≤ xs.length ∧ i = .int .i64 k ∧ Hid (∃ q, wr = w.drewN q)) (fun i _ => xs.length - (intOf i).toNat)
  case atStart => exact ⟨0, Nat.zero_le _, rfl, hid ⟨0, rfl⟩⟩
  case round =>
    obtain ⟨k, hk, rfl, HD⟩ := hrel
    have HBB : Hid (∀ n, Below n w wr) := hid (fun n => by obtain ⟨q, hq⟩ := HD.out; rw [hq]; exact below_drewN _ _ q)
    have HD2 : Hid (∀ m, ∃ q, wr.drewN m = w.drewN q) := hid (fun m => by obtain ⟨q, hq⟩ := HD.out; exact ⟨q + m, by rw [hq, World.drewN_drewN]⟩)
    by_cases hlt : k < xs.length
    · obtain ⟨b, off, ka, kc, va, vc, kb, vb, rfl, hb, hx, c0, c1, s1, s2⟩ := (HE.out.below (HBB.out _)).at k hlt
      obtain ⟨b', off', la, lc, ua, uc, lb, ub, rfl, hb', hy, d0, d1, t1, t2⟩ := (HF.out.below (HBB.out _)).at k (by rw [HL.out]; exact hlt)
      have e1 : (lb, ub) = (kb, vb) := by
        have h1 := congrArg (fun l => l[k]?) HXY.out
        simp only [List.getElem?_map, hx, hy, Option.map_some, EntV.ent, Option.some.injEq] at h1
        exact h1.symm
      simp only [Prod.mk.injEq] at e1
      obtain ⟨rfl, rfl⟩ := e1
      have e1 := fun nq => str4 (s1.below (below_drewN _ wr nq))
      have e2 := fun nq => str4 (s2.below (below_drewN _ wr nq))
      have e3 := fun nq => str4 (t1.below (below_drewN _ wr nq))
      have e4 := fun nq => str4 (t2.below (below_drewN _ wr nq))
      have hki : (k : Int) < (xs.length : Int) := by omega
      have hk0 : (0 : Int) ≤ (k : Int) := by omega
      have HKX := hid hlt
      clear s1 s2 t1 t2 hx hy
      go_wp2_with fail
      go_quiet (fail)
      go_wp2_with fail
      go_roundw
      case rel => exact ⟨k + 1, HKX.out, by go_num, hid (HD2.out _)⟩
      case measure => have := HKX.out; simp [intOf]; omega
    · have hki : (xs.length : Int) ≤ (k : Int) := by omega
      go_wp2
      go_ret
      exact ⟨rfl, HD.out⟩

theorem ent_at {xs : List EntV} {l : List Ent} (h : xs.map EntV.ent = l) {i : Nat} {x : EntV} (hi : xs[i]? = some x) : l[i]? = some (x.k, x.v) := by
  rw [← h, List.getElem?_map, hi]; rfl

/-- A row made and written whole. -/
theorem row_kept {w w' : World} {g : Nat} {cs : Array Value} {t : TypeId} (h : w.heap[g]? = some (.cells cs t (0, 0))) (hb : Below w.heap.size w w') : w'.heap[g]? = some (.cells cs t (0, 0)) :=
  (hb.block g (Array.getElem?_eq_some_iff.1 h).1).trans h

theorem size_alloc1 (w : World) (A : Obj) : (w.alloc A).heap.size = w.heap.size + 1 := by
  show (w.heap.push A).size = _
  simp

/-- A literal's bytes. -/
theorem says_one (w : World) (u : UInt8) (t : TypeId) (fr : Nat × Nat) : Says (w.alloc (.cells #[.int .u8 (u.toNat : Int)] t fr)) (.slice (some ⟨w.heap.size, 0, none⟩) 1 1) [u] := by
  refine ⟨_, 1, rfl, Nat.le_refl _, by unfold maxLen; omega, fun e => (by cases e), fun _ => ⟨w.heap.size, 0, rfl, by simp, fun j hj => ?_⟩⟩
  have : j = 0 := by simp at hj; omega
  subst this
  rw [cell_of_row _ _ _ _ _ _ (heap_alloc_new w _)]
  rfl

theorem new_alloc (w : World) (o : Obj) : Below w.heap.size w (w.alloc o) := (Below.refl _ w).alloc (Nat.le_refl _) _

theorem alloc_ge {B : Nat} {w : World} (h : B ≤ w.heap.size) (o : Obj) : B ≤ (w.alloc o).heap.size := by simp; omega

/-- The blocks of S, and those that are new. -/
def ext (S : Nat → Prop) (w w' : World) (i : Nat) : Prop := S i ∨ (w.heap.size ≤ i ∧ i < w'.heap.size)

/-- A slice's block, if it has one, is of S. -/
def InS (S : Nat → Prop) (v : Value) : Prop := ∀ g, v.ownBlock = some g → S g

theorem InS.mono {S S' : Nat → Prop} {v : Value} (h : InS S v) (hS : ∀ i, S i → S' i) : InS S' v := fun g hg => hS g (h g hg)

theorem Says.keep {S R : Nat → Prop} {w w' : World} {v : Value} {bs : List UInt8} (h : Says w v bs) (hv : InS S v) (hk : Spares R w w') (hd : ∀ i, S i → ¬ R i) : Says w' v bs := by
  obtain ⟨a, c, rfl, h1, h2, hn, h3⟩ := h
  refine ⟨a, c, rfl, h1, h2, hn, fun hne => ?_⟩
  obtain ⟨b, off, rfl, hlt, hc⟩ := h3 hne
  exact ⟨b, off, rfl, Nat.lt_of_lt_of_le hlt hk.size, fun j hj => hk.cell (hc j hj) (hd b (hv b rfl))⟩

/-- Entries, all in blocks of S. -/
structure EntsS (S : Nat → Prop) (w : World) (sv : Value) (xs : List EntV) : Prop where
  ents : Ents w.heap.size w sv xs
  row : InS S sv
  all : ∀ x ∈ xs, InS S x.kv ∧ InS S x.vv
  form : sv = .slice none 0 0 ∨ ∃ g c, sv = .slice (some ⟨g, 0, none⟩) xs.length c

theorem EntsS.keep {S R : Nat → Prop} {w w' : World} {sv : Value} {xs : List EntV} (h : EntsS S w sv xs) (hk : Spares R w w') (hd : ∀ i, S i → ¬ R i) : EntsS S w' sv xs := by
  refine ⟨?_, h.row, h.all, h.form⟩
  obtain ⟨a, c, rfl, h1, h2, h3⟩ := h.ents
  refine ⟨a, c, rfl, h1, h2, fun hne => ?_⟩
  obtain ⟨b, off, rfl, hlt, hc⟩ := h3 hne
  refine ⟨b, off, rfl, Nat.lt_of_lt_of_le hlt hk.size, fun j x hx => ?_⟩
  obtain ⟨c0, c1, s1, s2⟩ := hc j x hx
  have hb := hd b (h.row b rfl)
  have hx' := h.all x (List.mem_of_getElem? hx)
  exact ⟨hk.cell c0 hb, hk.cell c1 hb, Says.keep s1 hx'.1 hk hd, Says.keep s2 hx'.2 hk hd⟩

theorem flat_cells : ∀ (ys : List EntV) (j : Nat) (u : Value), (ys.flatMap EntV.two)[j]? = some u → ∃ q x, ys[q]? = some x ∧ ((j = q * 2 ∧ u = x.kv) ∨ (j = q * 2 + 1 ∧ u = x.vv))
  | [], j, u, h => by simp at h
  | y :: ys, 0, u, h => ⟨0, y, rfl, .inl ⟨rfl, by simp [EntV.two] at h; exact h.symm⟩⟩
  | y :: ys, 1, u, h => ⟨0, y, rfl, .inr ⟨rfl, by simp [EntV.two] at h; exact h.symm⟩⟩
  | y :: ys, j + 2, u, h => by
    obtain ⟨q, x, hq, hc⟩ := flat_cells ys j u (by simpa [EntV.two] using h)
    exact ⟨q + 1, x, by simpa using hq, hc.imp (fun h => ⟨by omega, h.2⟩) (fun h => ⟨by omega, h.2⟩)⟩

theorem Ents.cells {B : Nat} {w : World} {ad : Addr} {l c : Nat} {ys : List EntV} (h : Ents B w (.slice (some ad) l c) ys) : l = ys.length ∧ (∀ j u, (ys.flatMap EntV.two)[j]? = some u → w.cell? (ad.add j) = some u) ∧ ∀ u ∈ ys.flatMap EntV.two, u.oneCell' = true := by
  obtain ⟨a, c', hv, h1, h2, h3⟩ := h
  simp only [Value.slice.injEq] at hv
  obtain ⟨rfl, rfl, rfl⟩ := hv
  refine ⟨rfl, fun j u hu => ?_, fun u hu => ?_⟩
  · obtain ⟨q, x, hq, hc⟩ := flat_cells ys j u hu
    obtain ⟨b, off, hb, hlt, hcs⟩ := h3 (by intro e; rw [e] at hq; simp at hq)
    simp only [Option.some.injEq] at hb
    subst hb
    obtain ⟨c0, c1, _, _⟩ := hcs q x hq
    have e : ∀ j, (⟨b, off, none⟩ : Addr).add j = ⟨b, off + j, none⟩ := fun j => by unfold Addr.add; split <;> simp_all
    rw [e]
    rcases hc with ⟨rfl, rfl⟩ | ⟨rfl, rfl⟩
    · exact c0
    · rw [← Nat.add_assoc]; exact c1
  · obtain ⟨j, hj⟩ := List.getElem?_of_mem hu
    obtain ⟨q, x, hq, hc⟩ := flat_cells ys j u hj
    obtain ⟨b, off, hb, hlt, hcs⟩ := h3 (by intro e; rw [e] at hq; simp at hq)
    obtain ⟨_, _, ⟨a1, c1, e1, _⟩, ⟨a2, c2, e2, _⟩⟩ := hcs q x hq
    rcases hc with ⟨_, rfl⟩ | ⟨_, rfl⟩
    · rw [e1]; rfl
    · rw [e2]; rfl

theorem two_length : ∀ ys : List EntV, (ys.flatMap EntV.two).length = ys.length * 2
  | [] => rfl
  | y :: ys => by
    have := two_length ys
    simp only [List.flatMap_cons, List.length_append, List.length_cons, this]
    simp [EntV.two]
    omega

/-- A row of entries is added at the end of another. -/
theorem wpList_append_ents {ops : Array Oper} {rest : List Oper} {o : Oper} {a : Act} {Q : Exit → Act → World → Prop} (w : World) (hgd : o.guard = none) (s x : Operand)
    (ho : o.op = .call { callee := .builtin .append, args := #[s, x], argTypes := #[27, 27] })
    (base : Nat) (v : Value) (n : Nat) (xs : List Value) (hs : a.eval s = v) (hown : w.ownsRow base 46 2 v n xs)
    (B : Nat) (vx : Value) (ys : List EntV) (hx : a.eval x = vx) (hsrc : Ents B w vx ys) (hnil : ∀ l c, vx = .slice none l c → c = 0)
    (hbytes : (n + ys.length) * 48 ≤ 140737488355328) (hbase : base ≤ w.heap.size)
    (h : ∀ v' w', w'.ownsRow base 46 2 v' (n + ys.length) (xs ++ ys.flatMap EntV.two) → w.grownBy w' v.ownBlock → wpList Try.prog ops Q rest (a.put o.dst v') w') : wpList Try.prog ops Q (o :: rest) a w := by
  obtain ⟨i0, hi, hz0, hz1, hz2⟩ := info_parts Try.infoEntryZ
  obtain ⟨ax, cx, rfl, h1, h2, h3⟩ := id hsrc
  cases ax with
  | none =>
    have hc := hnil _ _ rfl
    have hv : ys = [] := List.eq_nil_of_length_eq_zero (by omega)
    subst hv
    subst hc
    refine wpList_append_own_none hgd s x _ ho base 46 i0 2 Try.underlying27 hi v n xs hs hown hx ?_
    exact h v w (by simpa using hown) (World.grownBy.refl w _)
  | some ad =>
    obtain ⟨_, q1, q2⟩ := hsrc.cells
    have hl := two_length ys
    refine wpList_append_own w hgd s x _ ho base 46 i0 _ 2 48 Try.underlying27 hi hz0 hz1 hz2 rfl (by decide) v n xs hs hown ad ys.length cx (ys.flatMap EntV.two) hx hl q1 q2 (by unfold maxLen; omega) hbytes hbase ?_
    intro v' w' ho' hg' _
    exact h v' w' ho' hg'

theorem row_form2 {w : World} {B e n : Nat} {v : Value} {xs : List Value} (h : w.ownsRow B e 2 v n xs) : (∃ a c, v = .slice a n c) ∧ (v = .slice none 0 0 ∨ ∃ g c, v = .slice (some ⟨g, 0, none⟩) n c) := by
  rcases h.2 with ⟨rfl, hn⟩ | ⟨g, cap, cur, rfl, _⟩
  · exact ⟨⟨none, 0, by rw [hn]⟩, .inl rfl⟩
  · exact ⟨⟨_, _, rfl⟩, .inr ⟨_, _, rfl⟩⟩

/-- A row of entries that a call has made, of entries in blocks of S. -/
theorem entsS_of {S : Nat → Prop} {B : Nat} {w : World} {sv : Value} {ys : List EntV} (hr : w.ownsRow B 46 2 sv ys.length (ys.flatMap EntV.two)) (hs : ∀ y ∈ ys, Says w y.kv y.k ∧ Says w y.vv y.v ∧ InS S y.kv ∧ InS S y.vv) (hB : ∀ i, B ≤ i → i < w.heap.size → S i) : EntsS S w sv ys := by
  refine ⟨?_, fun g hg => hB g (hr.lt g hg).1 (hr.lt g hg).2, fun y hy => (hs y hy).2.2, (row_form2 hr).2⟩
  rcases hr.2 with ⟨rfl, h0⟩ | ⟨g, cap, cur, rfl, hBg, hg, h1, h2, h3, h4⟩
  · have : ys = [] := List.eq_nil_of_length_eq_zero h0
    subst this
    exact ⟨none, 0, rfl, Nat.le_refl _, by unfold maxLen; omega, fun h => absurd rfl h⟩
  · refine ⟨_, cap, rfl, h1, h2, fun hne => ⟨g, 0, rfl, (Array.getElem?_eq_some_iff.1 hg).1, fun j x hx => ?_⟩⟩
    have hj : j < ys.length := (List.getElem?_eq_some_iff.1 hx).1
    obtain ⟨f0, f1⟩ := flat_two ys j x hx
    rw [← h4, List.getElem?_take, if_pos (by omega), Array.getElem?_toList] at f0 f1
    obtain ⟨s1, s2, _⟩ := hs x (List.mem_of_getElem? hx)
    exact ⟨by rw [cell_of_row _ _ _ _ _ _ hg, Nat.zero_add]; exact f0, by rw [cell_of_row _ _ _ _ _ _ hg, Nat.zero_add]; exact f1, s1, s2⟩

theorem Ents.says {B : Nat} {w : World} {v : Value} {xs : List EntV} (h : Ents B w v xs) (hB : B ≤ w.heap.size) : ∀ x ∈ xs, Says w x.kv x.k ∧ Says w x.vv x.v := fun x hx => by
  obtain ⟨a, c, _, _, _, h3⟩ := h
  obtain ⟨b, off, _, _, hc⟩ := h3 (by intro e; rw [e] at hx; cases hx)
  obtain ⟨j, hj⟩ := List.getElem?_of_mem hx
  obtain ⟨_, _, s1, s2⟩ := hc j x hj
  exact ⟨s1.mono hB, s2.mono hB⟩

theorem ents_nil (B : Nat) (w : World) (a : Option Addr) (l c : Nat) (hl : l = 0) (hc : c ≤ maxLen) : Ents B w (.slice a l c) [] := ⟨a, c, by rw [hl]; rfl, Nat.zero_le _, hc, fun h => absurd rfl h⟩

/-- Rows of unlike types lie in unlike blocks. -/
theorem rows_apart {w : World} {B B' e e' s s' n m : Nat} {v u : Value} {xs ys : List Value} (h : w.ownsRow B e s v n xs) (k : w.ownsRow B' e' s' u m ys) (hne : e ≠ e') : ∀ g, v.ownBlock = some g → u.ownBlock ≠ some g := fun g hv hu => by
  rcases h.2 with ⟨rfl, _⟩ | ⟨g1, _, _, rfl, _, h1, _⟩
  · cases hv
  · rcases k.2 with ⟨rfl, _⟩ | ⟨g2, _, _, rfl, _, h2, _⟩
    · cases hu
    · have e1 : g1 = g := by simpa [Value.ownBlock] using hv
      have e2 : g2 = g := by simpa [Value.ownBlock] using hu
      subst e1
      subst e2
      rw [h1] at h2
      simp only [Option.some.injEq, Obj.cells.injEq] at h2
      exact hne h2.2.1

end Go.Proofs.Ytjfipejfejmlaaa
