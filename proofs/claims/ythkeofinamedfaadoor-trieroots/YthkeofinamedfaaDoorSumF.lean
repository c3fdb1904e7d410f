/- Contracts of trie.noneSum, leafSum, forkSum: the digests of none, of an entry, of a fork. -/
import Derived.Test.YthkeofinamedfaaDoorGetF
import Derived.Test.YthkeofinamedfaaDoorOfD
namespace Go.Proofs.YthkeofinamedfaaDoor
open Go.RowKit
set_option linter.unusedVariables false
set_option maxRecDepth 20000

/-- The digest of a named row. -/
def ofS (name : List UInt8) (rows : List (List UInt8)) : List UInt8 := (ofOf name rows).2

theorem ofS_length (name : List UInt8) (rows : List (List UInt8)) : (ofS name rows).length = 32 := by
  unfold ofS ofOf
  split
  · exact sha_length _
  · simp

def noneS : List UInt8 := ofS [110, 111, 110, 101] []
def leafS (e : Ent) : List UInt8 := ofS [108, 101, 97, 102] [e.1, e.2]
def forkS (p : Nat) (a b : List UInt8) : List UInt8 := ofS [102, 111, 114, 107] [be (u64of p) 8, a, b]

/-- The root of a tree. -/
def rootT : Tri → List UInt8
  | .leaf k v => leafS (k, v)
  | .fork p l r => forkS p (rootT l) (rootT r)

theorem rootT_length : ∀ t : Tri, (rootT t).length = 32
  | .leaf k v => ofS_length _ _
  | .fork p l r => ofS_length _ _

def rootO : Option Tri → List UInt8
  | none => noneS
  | some t => rootT t

theorem rootO_length (o : Option Tri) : (rootO o).length = 32 := by
  cases o with
  | none => exact ofS_length _ _
  | some t => exact rootT_length t

/-- A digest's cells. -/
def sumV (s : List UInt8) : Array Value := (s.map by8).toArray

structure IsSum (A : Array Value) : Prop where
  info : (Tryd.prog.info? 37).map (·.size) = some A.size
  one : A.all (·.oneCell') = true
  size : zero32.size = A.size

theorem isSum (s : List UInt8) (h : s.length = 32) : IsSum (sumV s) := by
  have e : (sumV s).size = 32 := by simp [sumV, h]
  exact ⟨by rw [e]; exact Tryd.infoSum, by simp [sumV, by8, Value.oneCell'], by rw [e]; rfl⟩

/-- One digest out of one block into another. -/
theorem set_row_two {w : World} {g : Nat} {old A : Array Value} {t : TypeId} (h : w.heap[g]? = some (.cells old t (0, 0))) : (w.setRow g A).heap[g]? = some (.cells A t (0, 0)) := setRow_heap _ _ _ _ _ _ h

theorem fresh_row (w : World) (A : Array Value) : ((w.alloc (.cells zero32 37)).setRow w.heap.size A).heap[w.heap.size]? = some (.cells A 37 (0, 0)) ∧ Below w.heap.size w ((w.alloc (.cells zero32 37)).setRow w.heap.size A) ∧ ((w.alloc (.cells zero32 37)).setRow w.heap.size A).heap.size = w.heap.size + 1 := by
  have h := World.alloc_heap_new w (.cells zero32 37)
  refine ⟨setRow_heap _ _ _ _ _ _ h, below_setRow ((Below.refl _ _).alloc (Nat.le_refl _) _) (Nat.le_refl _) _, ?_⟩
  simp [World.setRow]

set_option maxHeartbeats 4000000 in
theorem noneSum_any (w : World) (ht : Tables w) :
    Calls Tryd.prog 37 #[] w fun e w' => e = .returned (.agg (sumV noneS)) ∧ Below w.heap.size w w' := by
  have hw1 := ht.lt
  have hnew := World.alloc_heap_new w (.cells zero32 37)
  have hbn : Below w.heap.size w (w.alloc (.cells zero32 37)) := (Below.refl _ _).alloc (Nat.le_refl _) _
  have hsn : (w.alloc (.cells zero32 37)).heap.size = w.heap.size + 1 := World.size_alloc _ _
  have HOF := of_any 0 (⟨#[110, 111, 110, 101]⟩ : ByteArray) (.slice none 0 0) [] (w.alloc (.cells zero32 37)) (by decide) (Nat.zero_le _) ⟨none, 0, [], rfl, Nat.le_refl _, Nat.zero_le _, rfl, fun h => absurd rfl h, fun j u r hu => by simp at hu⟩ (fun l c e => by cases e; rfl) (by simp) (ht.below hbn (by omega))
  have HS := hid (isSum noneS (ofS_length _ _))
  replace HOF : Calls Tryd.prog 27 #[.string ⟨#[110, 111, 110, 101]⟩, .slice none 0 0] (w.alloc (.cells zero32 37)) fun e w' => e = .returned (.tuple #[.agg (sumV noneS), .int .i64 (ofOf [110, 111, 110, 101] []).1]) ∧ Below (w.heap.size + 1) (w.alloc (.cells zero32 37)) w' := HOF.mono fun e w' ⟨he, hb⟩ => ⟨he, by rw [← hsn]; exact hb⟩
  generalize sumV noneS = A at *
  generalize (ofOf [110, 111, 110, 101] []).1 = n at *
  have HN := hid hnew
  have HB := hid hbn
  have HSN := hid hsn
  clear hnew hbn hsn ht
  go_enter Tryd.func37, Tryd.ntmps37
  go_wp2_with fail
  refine HOF.mono ?_
  clear HOF
  rintro e w1 ⟨rfl, hb1⟩
  have H1 : Hid (w1.heap[w.heap.size]? = some (.cells zero32 37 (0, 0))) := hid ((hb1.block _ (by omega)).trans HN.out)
  have HB1 : Hid (Below w.heap.size w w1) := hid (HB.out.trans (hb1.mono (by omega)))
  have hz1 : w.heap.size < w1.heap.size := block_lt H1.out
  clear hb1
  go_wp2_with (first
    | (refine wpList_store_row rfl 37 (.tmp 1) (.tmp 5) rfl w1.heap.size A rfl rfl 37 zero32 (World.alloc_heap_new w1 _) HS.out.info HS.out.size HS.out.one ?_
       generalize hw2 : World.setRow _ w1.heap.size A = w2
       have R1 : Hid (w2.heap[w1.heap.size]? = some (.cells A 37 (0, 0))) := hid (by rw [← hw2]; exact (fresh_row w1 A).1)
       have R2 : Hid (Below w1.heap.size w1 w2) := hid (by rw [← hw2]; exact (fresh_row w1 A).2.1)
       have H2 := hid ((R2.out.block _ hz1).trans H1.out)
       have HB2 := hid (HB1.out.trans (R2.out.mono HB1.out.size))
       clear hw2)
    | (refine wpList_load_row rfl 37 (.tmp 1) rfl w1.heap.size rfl 37 A (0, 0) _ R1.out Tryd.underlying37 rfl HS.out.info ?_)
    | (refine wpList_store_row rfl 37 (.tmp 0) (.tmp 7) rfl (w.heap.size) A rfl rfl 37 zero32 H2.out HS.out.info HS.out.size HS.out.one ?_)
    | (refine bodyPost_ret (v := .agg A) (results_cell_row (p := 0) (ty := 37) rfl _ _ (w.heap.size) 37 A (0, 0) _ rfl (setRow_heap _ _ _ _ _ _ H2.out) Tryd.underlying37 rfl HS.out.info) rfl ⟨rfl, below_setRow HB2.out (by omega) _⟩))

/-- Rows of one slice of slices that a call has made. -/
theorem lists_two (w : World) (g B : Nat) (u v : Value) (a b : List UInt8) (hg : w.heap[g]? = some (.cells #[u, v] 28 (0, 0))) (hB : g < B) (hu : Shows B w u a) (hv : Shows B w v b) : Lists B w (.slice (some ⟨g, 0, none⟩) 2 2) [a, b] := by
  refine ⟨_, 2, [u, v], rfl, by simp, by decide, rfl, fun _ => ⟨g, 0, rfl, hB, fun j x hx => ?_⟩, fun j x r hx hr => ?_⟩
  · rw [Nat.zero_add, cell_of_row _ _ _ _ _ _ hg]
    match j, hx with
    | 0, hx => simpa using hx
    | 1, hx => simpa using hx
  · match j, hx, hr with
    | 0, hx, hr => simp at hx hr; subst hx hr; exact hu
    | 1, hx, hr => simp at hx hr; subst hx hr; exact hv

theorem lists_three (w : World) (g B : Nat) (u v x : Value) (a b c : List UInt8) (hg : w.heap[g]? = some (.cells #[u, v, x] 28 (0, 0))) (hB : g < B) (hu : Shows B w u a) (hv : Shows B w v b) (hx : Shows B w x c) : Lists B w (.slice (some ⟨g, 0, none⟩) 3 3) [a, b, c] := by
  refine ⟨_, 3, [u, v, x], rfl, by simp, by decide, rfl, fun _ => ⟨g, 0, rfl, hB, fun j y hy => ?_⟩, fun j y r hy hr => ?_⟩
  · rw [Nat.zero_add, cell_of_row _ _ _ _ _ _ hg]
    match j, hy with
    | 0, hy => simpa using hy
    | 1, hy => simpa using hy
    | 2, hy => simpa using hy
  · match j, hy, hr with
    | 0, hy, hr => simp at hy hr; subst hy hr; exact hu
    | 1, hy, hr => simp at hy hr; subst hy hr; exact hv
    | 2, hy, hr => simp at hy hr; subst hy hr; exact hx

set_option maxHeartbeats 4000000 in
theorem leafSum_any (kv vv : Value) (k v : List UInt8) (w : World) (hk : Says w kv k) (hv : Says w vv v) (ht : Tables w) :
    Calls Tryd.prog 60 #[.agg #[kv, vv]] w fun e w' => e = .returned (.agg (sumV (leafS (k, v)))) ∧ Below w.heap.size w w' := by
  have hw1 := ht.lt
  obtain ⟨a1, c1, rfl, _⟩ := id hk
  obtain ⟨a2, c2, rfl, _⟩ := id hv
  obtain ⟨n0, hnew, n2, hbn, hsn⟩ := alloc3 w (.cells #[.slice a1 k.length c1, .slice a2 v.length c2] 52) (.cells zero32 37) (.cells #[.slice a1 k.length c1, .slice a2 v.length c2] 28)
  have HOF := of_any (w.heap.size + 3) (⟨#[108, 101, 97, 102]⟩ : ByteArray) (.slice (some ⟨w.heap.size + 2, 0, none⟩) 2 2) [k, v] _ (by decide) (by omega) (lists_two _ (w.heap.size + 2) _ _ _ k v n2 (by omega) ((hk.new hbn).mono (by omega)) ((hv.new hbn).mono (by omega))) (fun l c e => by cases e) (by simp) (ht.below hbn (by omega))
  have HS := hid (isSum (leafS (k, v)) (ofS_length _ _))
  replace HOF : Calls Tryd.prog 27 #[.string ⟨#[108, 101, 97, 102]⟩, .slice (some ⟨w.heap.size + 2, 0, none⟩) 2 2] (((w.alloc (.cells #[.slice a1 k.length c1, .slice a2 v.length c2] 52)).alloc (.cells zero32 37)).alloc (.cells #[.slice a1 k.length c1, .slice a2 v.length c2] 28)) fun e w' => e = .returned (.tuple #[.agg (sumV (leafS (k, v))), .int .i64 (ofOf [108, 101, 97, 102] [k, v]).1]) ∧ Below (w.heap.size + 3) (((w.alloc (.cells #[.slice a1 k.length c1, .slice a2 v.length c2] 52)).alloc (.cells zero32 37)).alloc (.cells #[.slice a1 k.length c1, .slice a2 v.length c2] 28)) w' := HOF.mono fun e w' ⟨he, hb⟩ => ⟨he, by rw [← hsn]; exact hb⟩
  generalize sumV (leafS (k, v)) = A at *
  generalize (ofOf [108, 101, 97, 102] [k, v]).1 = n at *
  have HN := hid hnew
  have HB := hid hbn
  have HSN := hid hsn
  clear hnew hbn hsn ht hk hv n0 n2
  go_enter Tryd.func60, Tryd.ntmps60
  go_wp2_with fail
  refine HOF.mono ?_
  clear HOF
  rintro e w1 ⟨rfl, hb1⟩
  have H1 : Hid (w1.heap[w.heap.size + 1]? = some (.cells zero32 37 (0, 0))) := hid ((hb1.block _ (by omega)).trans HN.out)
  have HB1 : Hid (Below w.heap.size w w1) := hid (HB.out.trans (hb1.mono (by omega)))
  have hz1 : w.heap.size + 1 < w1.heap.size := block_lt H1.out
  clear hb1
  go_wp2_with (first
    | (refine wpList_store_row rfl 37 (.tmp 3) (.tmp 12) rfl w1.heap.size A rfl rfl 37 zero32 (World.alloc_heap_new w1 _) HS.out.info HS.out.size HS.out.one ?_
       generalize hw2 : World.setRow _ w1.heap.size A = w2
       have R1 : Hid (w2.heap[w1.heap.size]? = some (.cells A 37 (0, 0))) := hid (by rw [← hw2]; exact (fresh_row w1 A).1)
       have R2 : Hid (Below w1.heap.size w1 w2) := hid (by rw [← hw2]; exact (fresh_row w1 A).2.1)
       have H2 := hid ((R2.out.block _ hz1).trans H1.out)
       have HB2 := hid (HB1.out.trans (R2.out.mono HB1.out.size))
       clear hw2)
    | (refine wpList_load_row rfl 37 (.tmp 3) rfl w1.heap.size rfl 37 A (0, 0) _ R1.out Tryd.underlying37 rfl HS.out.info ?_)
    | (refine wpList_store_row rfl 37 (.tmp 2) (.tmp 14) rfl (w.heap.size + 1) A rfl rfl 37 zero32 H2.out HS.out.info HS.out.size HS.out.one ?_)
    | (refine bodyPost_ret (v := .agg A) (results_cell_row (p := 2) (ty := 37) rfl _ _ (w.heap.size + 1) 37 A (0, 0) _ rfl (setRow_heap _ _ _ _ _ _ H2.out) Tryd.underlying37 rfl HS.out.info) rfl ⟨rfl, below_setRow HB2.out (by omega) _⟩))
end Go.Proofs.YthkeofinamedfaaDoor
