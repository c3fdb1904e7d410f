/- What a law of forks wants: digests that are alike, those that have no error, the root of two entries. -/
import Derived.Test.YthkeofinamedfaaDoorSmall4
import Derived.Test.YthkeofinamedfaaDoorEqD
namespace Go.Proofs.YthkeofinamedfaaDoor
open Go.RowKit
set_option linter.unusedVariables false
set_option maxRecDepth 20000

theorem same_sum (bs : List UInt8) (hl : bs.length = 32) (w : World) : (Op.equalIn 10000 37 (.agg (sumV bs)) (.agg (sumV bs))).run Tryd.prog w = .ok true w :=
  sum_same_at 9999 bs hl w (fun a => by rw [show (9999 : Nat) = 9998 + 1 from rfl, run_equalIn_int w 9998 5 .u8 .u8 a a Tryd.underlying5]; simp)

theorem of_ok (name : List UInt8) (rows : List (List UInt8)) (h1 : name.length ≤ 16) (h2 : rows.length < 4096) (h3 : ∀ r ∈ rows, r.length ≤ 65536) : (ofOf name rows).1 = 0 := by
  have : textOf name rows = (0, rowBytes (name :: rows)) := by
    unfold textOf rowOf
    rw [if_neg (by omega), if_neg]
    rintro (h | ⟨m, hm, h⟩)
    · simp at h; omega
    · cases m with
      | zero => simp at h; omega
      | succ m =>
        simp only [List.length_cons, Nat.add_lt_add_iff_right] at hm
        simp only [List.getElem?_cons_succ, List.getElem?_eq_getElem hm, Option.getD_some] at h
        have := h3 _ (List.getElem_mem hm)
        omega
  unfold ofOf
  rw [this]
  simp

theorem load_sum {w : World} {g : Nat} {s : List UInt8} (hl : s.length = 32) (h : w.heap[g]? = some (.cells (sumV s) 37 (0, 0))) : (loadVar 37 ⟨g, 0, none⟩).run Tryd.prog w = .ok (.agg (sumV s)) w :=
  run_loadVar_row w g 37 37 (sumV s) (0, 0) _ h Tryd.underlying37 rfl (isSum s hl).info

/-- The root of two entries. -/
theorem root_two (k v k' v' : List UInt8) (h : k ≠ k') : rootO (some (Tri.put (some (.leaf k v)) (k', v'))) = forkS (fu k k') (if bit k (fu k k') then leafS (k', v') else leafS (k, v)) (if bit k (fu k k') then leafS (k, v) else leafS (k', v')) ∧ (Tri.entsO (some (Tri.put (some (.leaf k v)) (k', v')))).length = 2 := by
  have hb := (fu_at k k' h).1
  have e : Tri.put (some (.leaf k v)) (k', v') = Tri.over (.leaf k v) (k', v') (fu k k') := by
    unfold Tri.put
    exact if_neg h
  rw [e]
  generalize fu k k' = p at *
  unfold Tri.over
  by_cases h1 : bit k p = true
  · have h2 : bit k' p = false := by
      cases h2 : bit k' p with
      | false => rfl
      | true => rw [h1, h2] at hb; exact absurd rfl hb
    rw [if_pos h1, if_pos h1, show (k', v').1 = k' from rfl, h2]
    exact ⟨rfl, rfl⟩
  · have h1' : bit k p = false := by simpa using h1
    have h2 : bit k' p = true := by
      cases h2 : bit k' p with
      | true => rfl
      | false => rw [h1', h2] at hb; exact absurd rfl hb
    rw [if_neg h1, if_neg h1, show (k', v').1 = k' from rfl, h2]
    exact ⟨rfl, rfl⟩

/-- A row made and written whole. -/
theorem row_kept {w w' : World} {g : Nat} {cs : Array Value} {t : TypeId} (h : w.heap[g]? = some (.cells cs t (0, 0))) (hb : Below w.heap.size w w') : w'.heap[g]? = some (.cells cs t (0, 0)) :=
  (hb.block g (Array.getElem?_eq_some_iff.1 h).1).trans h

/-- A digest's cells, as a letter. -/
def Cs (s : List UInt8) (cs : List Value) : Prop := s.length = 32 ∧ s.map by8 = cs

theorem Cs.sum {s : List UInt8} {cs : List Value} (h : Cs s cs) : sumV s = cs.toArray := by rw [← h.2]; rfl
theorem Cs.isSum {s : List UInt8} {cs : List Value} (h : Cs s cs) : IsSum cs.toArray := by rw [← h.sum]; exact Go.Proofs.YthkeofinamedfaaDoor.isSum s h.1
theorem Cs.length {s : List UInt8} {cs : List Value} (h : Cs s cs) : cs.length = 32 := by rw [← h.2]; simpa using h.1
theorem Cs.info {s : List UInt8} {cs : List Value} (h : Cs s cs) : (Tryd.prog.info? 37).map (·.size) = some cs.length := by rw [h.length]; exact Tryd.infoSum
theorem Cs.one {s : List UInt8} {cs : List Value} (h : Cs s cs) : ∀ v ∈ cs, v.oneCell' = true := by rw [← h.2]; exact by8_one s
theorem Cs.same {s : List UInt8} {cs : List Value} (h : Cs s cs) (w : World) : (Op.equalIn 10000 37 (.agg cs.toArray) (.agg cs.toArray)).run Tryd.prog w = .ok true w := by rw [← h.sum]; exact same_sum s h.1 w
theorem cs_of (s : List UInt8) (h : s.length = 32) : ∃ cs, Cs s cs := ⟨_, h, rfl⟩

/-- A tree's root. -/
theorem roots_as {B tb : Nat} {T : Option Tri} {w : World} {s : List UInt8} {cs : List Value} (ht : TreeB B w tb T) (hT : Tables w) (hs : rootO T = s) (hA : Cs s cs) :
    Calls Tryd.prog 13 #[.pointer (some ⟨tb, 0, none⟩)] w fun e w' => e = .returned (.agg cs.toArray) ∧ Below w.heap.size w w' := by
  subst hs
  rw [← hA.sum]
  exact root_B B tb T w ht hT

theorem range_of_row {w : World} {g : Nat} {cs : List Value} {t : TypeId} (h : w.heap[g]? = some (.cells cs.toArray t (0, 0))) : w.rangeAt g 0 cs := fun j v hv => by
  rw [Nat.zero_add, cell_of_row _ _ _ _ _ _ h]
  simpa using hv

/-- The digest of an entry, as the law has it made. -/
theorem ofLeaf (w : World) (kv vv : Value) (k v : List UInt8) (cs : List Value) (hk : Says w kv k) (hv : Says w vv v) (hs : Tri.short (k, v)) (ht : Tables w) (hc : Cs (leafS (k, v)) cs) :
    Calls Tryd.prog 27 #[.string ⟨#[108, 101, 97, 102]⟩, .slice (some ⟨w.heap.size, 0, none⟩) 2 2] (w.alloc (.cells #[kv, vv] 28)) fun e w' => e = .returned (.tuple #[.agg cs.toArray, .int .i64 0]) ∧ Below w.heap.size w w' := by
  have hn := World.alloc_heap_new w (.cells #[kv, vv] 28)
  have hb := new_alloc w (.cells #[kv, vv] 28)
  have hz : (w.alloc (.cells #[kv, vv] 28)).heap.size = w.heap.size + 1 := World.size_alloc _ _
  have hlt := ht.lt
  have HOF := of_any (w.heap.size + 1) (⟨#[108, 101, 97, 102]⟩ : ByteArray) (.slice (some ⟨w.heap.size, 0, none⟩) 2 2) [k, v] _ (by decide) (by omega) (lists_two _ w.heap.size _ _ _ k v hn (by omega) ((hk.new hb).mono (by omega)) ((hv.new hb).mono (by omega))) (fun l c e => by cases e) (by simp) (ht.below hb (by omega))
  refine HOF.mono ?_
  rintro e w' ⟨rfl, hb'⟩
  refine ⟨?_, hb.trans (hb'.mono (by omega))⟩
  have h1 := hs.1
  have h2 := hs.2
  rw [show (ofOf (⟨#[108, 101, 97, 102]⟩ : ByteArray).data.toList [k, v]).1 = 0 from of_ok _ _ (by decide) (by simp) (fun r hr => by simp at hr; rcases hr with rfl | rfl; (simp at h1; omega); (simp at h2; omega)), ← hc.sum]
  rfl

/-- Blocks of other types are none of a tree's own. -/
theorem TreeAt.types {w : World} {tb : Nat} {o : Option Nod} (h : TreeAt w tb o) {g : Nat} {cs : Array Value} {t : TypeId} (hg : w.heap[g]? = some (.cells cs t (0, 0))) (h1 : t ≠ 69) (h2 : t ≠ 84) : ¬ own tb o g := by
  rintro (rfl | ⟨x, e, hi⟩)
  · rw [h.head] at hg
    simp only [Option.some.injEq, Obj.cells.injEq] at hg
    exact h1 hg.2.1.symm
  · obtain ⟨cs', hc, _⟩ := (h.lies x e).all g hi
    rw [hc] at hg
    simp only [Option.some.injEq, Obj.cells.injEq] at hg
    exact h2 hg.2.1.symm

theorem put_K (B tb : Nat) (T : Option Tri) (kv vv : Value) (key val : List UInt8) (w : World) (hB : B ≤ w.heap.size) (ht : TreeB B w tb T) (hk : Says w kv key) (hv : Says w vv val) (hs : Tri.short (key, val)) (hfew : (Tri.entsO T).length < 1000000000) :
    Calls Tryd.prog 23 #[.pointer (some ⟨tb, 0, none⟩), kv, vv] w fun e w' => e = .returned (.int .i64 0) ∧ TreeB B w' tb (some (Tri.put T (key, val))) ∧ Below B w w' ∧ ∀ (g : Nat) (cs : Array Value) (t : TypeId), t ≠ 69 → t ≠ 84 → w.heap[g]? = some (Obj.cells cs t (0, 0)) → w'.heap[g]? = some (Obj.cells cs t (0, 0)) := by
  obtain ⟨o, h1, rfl, h3⟩ := ht
  refine (put_any tb o kv vv key val w h1 hk hv hs hfew).mono ?_
  rintro e w' ⟨rfl, y, hy, hyt, hyb, hsp⟩
  refine ⟨rfl, ⟨some y, hy, by simp [triO, hyt], ?_⟩, hsp.below h3 hB, fun g cs t t1 t2 hg => (hsp.block g (Array.getElem?_eq_some_iff.1 hg).1 (h1.types hg t1 t2)).trans hg⟩
  rintro b (rfl | ⟨x, e, hi⟩)
  · exact h3 _ (.inl rfl)
  · cases e
    rcases hyb b hi with h | h
    · exact h3 b h
    · omega

/-- A key's bit, as a letter. -/
def Bv (w : World) (k : Nat) (v : Value) (b : Bool) : Prop := ∃ bs, Says w v bs ∧ bit bs k = b

theorem bv_any {w : World} {k : Nat} {v : Value} {b : Bool} (h : Bv w k v b) (hk : k < 1081) (nq : Nat) : Calls Tryd.prog 20 #[v, .int .i64 k] (w.drewN nq) fun e w' => e = .returned (.bool b) ∧ w' = w.drewN nq := by
  obtain ⟨bs, h1, rfl⟩ := h
  rw [← bitI_nat]
  exact bit_any _ _ bs k _ (h1.new (below_drewN _ _ nq)) (by omega) (by omega)

/-- The digest of a fork, as the law has it made. -/
theorem ofFork (w : World) (g g3 g4 : Nat) (vn : Value) (k : Nat) (sl sr : List UInt8) (cl cr cs : List Value) (hl : Cs sl cl) (hr : Cs sr cr) (hc : Cs (forkS k sl sr) cs) (hg : w.heap[g]? = some (.cells #[vn, .slice (some ⟨g3, 0, none⟩) 32 32, .slice (some ⟨g4, 0, none⟩) 32 32] 28 (0, 0)))
    (h3 : w.heap[g3]? = some (.cells cl.toArray 37 (0, 0))) (h4 : w.heap[g4]? = some (.cells cr.toArray 37 (0, 0))) (hn : Says w vn (be (u64of k) 8)) (ht : Tables w) :
    Calls Tryd.prog 27 #[.string ⟨#[102, 111, 114, 107]⟩, .slice (some ⟨g, 0, none⟩) 3 3] w fun e w' => e = .returned (.tuple #[.agg cs.toArray, .int .i64 0]) ∧ Below w.heap.size w w' := by
  rw [← hl.sum] at h3
  rw [← hr.sum] at h4
  have HOF := of_any w.heap.size (⟨#[102, 111, 114, 107]⟩ : ByteArray) (.slice (some ⟨g, 0, none⟩) 3 3) [be (u64of k) 8, sl, sr] w (by decide) (Nat.le_refl _)
      (lists_three w g _ _ _ _ _ sl sr hg (block_lt hg) hn (shows_sum w g3 _ sl hl.1 h3 (block_lt h3)) (shows_sum w g4 _ sr hr.1 h4 (block_lt h4))) (fun l c e => by cases e) (by simp) ht
  refine HOF.mono ?_
  rintro e w' ⟨rfl, hb'⟩
  refine ⟨?_, hb'⟩
  have h1 := hl.1
  have h2 := hr.1
  rw [show (ofOf (⟨#[102, 111, 114, 107]⟩ : ByteArray).data.toList [be (u64of k) 8, sl, sr]).1 = 0 from of_ok _ _ (by decide) (by simp) (fun r hr => by simp at hr; rcases hr with rfl | rfl | rfl; (rw [be_length]; omega); omega; omega), ← hc.sum]
  rfl

theorem rangeK {w w' : World} {g : Nat} {cs : List Value} (h : w.rangeAt g 0 cs) (hb : Below w.heap.size w w') : w'.rangeAt g 0 cs := fun j v hv => by
  rw [hb.cell (World.block_lt_of_cell? w _ (h j v hv))]
  exact h j v hv
end Go.Proofs.YthkeofinamedfaaDoor
