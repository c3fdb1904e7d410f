/- Contracts of bytes.Compare; the program's array of tests; plan.clone, All, None, end, isTest, isColumn (tools/plprog.py). -/
import Derived.Test.YthjgbcbgkafgjaaDoorPlDocA
namespace Go.Proofs.YthjgbcbgkafgjaaDoor
open Go.RowKit Go.Shelf
set_option linter.unusedVariables false
set_option linter.unusedSimpArgs false
set_option maxRecDepth 20000

theorem run_load8 {P : Program} (w : World) : ∀ (l : List UInt8) (a : Addr) (acc : ByteArray), (∀ j x, l[j]? = some x → w.cell? (a.add j) = some (.int .u8 x.toNat)) →
    (Extern.Bytes.loadBytes a l.length acc).run P w = .ok ⟨acc.data ++ l.toArray⟩ w
  | [], a, acc, _ => by simp [Extern.Bytes.loadBytes]
  | x :: l, a, acc, h => by
    have h0 : w.cell? a = some (.int .u8 x.toNat) := by
      have := h 0 x rfl
      simpa [Addr.add] using this
    have ih := run_load8 (P := P) w l (a.add 1) (acc.push x) (fun j y hy => by
      have := h (j + 1) y (by simpa using hy)
      have e : (a.add 1).add j = a.add (j + 1) := by
        unfold Addr.add
        by_cases hj : j = 0
        · subst hj; simp
        · simp [hj]; omega
      rw [e]; exact this)
    have hx : ((x.toNat : Int).toNat).toUInt8 = x := by simp
    simp only [List.length_cons, Extern.Bytes.loadBytes, Sem.run_bind, run_load, h0, Result.andThen, Extern.Bytes.asByte, Sem.run_pure, hx]
    rw [ih]
    congr 1
    apply ByteArray.ext
    simp [ByteArray.push]

theorem run_bytes_shows {P : Program} {B : Nat} {w : World} {v : Value} {bs : List UInt8} (h : Shows B w v bs) : (Extern.Bytes.bytesOf v).run P w = .ok ⟨bs.toArray⟩ w := by
  obtain ⟨a, c, rfl, h1, h2, hn, h3⟩ := h
  cases a with
  | none =>
    have hb : bs = [] := List.eq_nil_of_length_eq_zero (by have := hn rfl; omega)
    subst hb
    rfl
  | some ad =>
    have := run_load8 (P := P) w bs ad .empty (fun j x hj => by
      have := (by8_cells (B := B) (w := w) (ad := ad) (l := bs.length) (c := c) (bs := bs) ⟨some ad, c, rfl, h1, h2, hn, h3⟩).2 j (by8 x) (by rw [List.getElem?_map, hj]; rfl)
      exact this)
    simp only [Extern.Bytes.bytesOf]
    rw [this]
    simp [ByteArray.empty, ByteArray.emptyWithCapacity]
    rfl

theorem cmp_less : ∀ a b : List UInt8, decide (0 ≤ Lib.compareBytes a b) = !Op.bytesLess a b
  | [], [] => rfl
  | [], _ :: _ => rfl
  | _ :: _, [] => rfl
  | x :: a, y :: b => by
    have ih := cmp_less a b
    simp only [Lib.compareBytes, Op.bytesLess]
    by_cases h1 : x < y
    · simp [h1]
    · by_cases h2 : y < x
      · have : (x == y) = false := by
          rw [beq_eq_false_iff_ne]; intro e; subst e; exact absurd h2 (UInt8.lt_irrefl _)
        simp [h1, h2, this]
      · have : x = y := UInt8.le_antisymm (UInt8.not_lt.1 h2) (UInt8.not_lt.1 h1)
        subst this
        simp [UInt8.lt_irrefl, ih]

theorem cmp_range : ∀ a b : List UInt8, -1 ≤ Lib.compareBytes a b ∧ Lib.compareBytes a b ≤ 1
  | [], [] => by simp [Lib.compareBytes]
  | [], _ :: _ => by simp [Lib.compareBytes]
  | _ :: _, [] => by simp [Lib.compareBytes]
  | x :: a, y :: b => by
    have ih := cmp_range a b
    simp only [Lib.compareBytes]
    repeat' split
    all_goals omega

set_option maxHeartbeats 1000000 in
theorem bcompare_any (B C : Nat) (v u : Value) (bs cs : List UInt8) (w : World) (hsh : Shows B w v bs) (hsu : Shows C w u cs) :
    Calls Tryd.prog 31 #[v, u] w fun e w' => e = .returned (.int .i64 (Lib.compareBytes bs cs)) ∧ w' = w := by
  have hrun : (Extern.BytealgCompare.compare #[v, u]).run Tryd.prog w = .ok (.int .i64 (Lib.compareBytes bs cs)) w := by
    change Sem.run Tryd.prog (do pure (goInt (Extern.BytealgCompare.cmp (← Extern.Bytes.bytesOf v) (← Extern.Bytes.bytesOf u)))) w = _
    rw [Sem.run_bind, run_bytes_shows hsh]
    simp only [Result.andThen]
    rw [Sem.run_bind, run_bytes_shows hsu]
    simp only [Result.andThen, Sem.run_pure, goInt, Lib.cmp_eq]
  obtain ⟨a, c, rfl, g1, g2, gn, g3⟩ := hsh
  obtain ⟨a', c', rfl, f1, f2, fn, f3⟩ := hsu
  go_enter Tryd.func31, Tryd.ntmps31
  go_wp2
  rw [run_callFunc_extern Tryd.func41 (by kernel_rfl) (by kernel_rfl) (by kernel_rfl) (e := Extern.BytealgCompare.compare) (by kernel_rfl), hrun]
  simp only [Result.andThen]
  rw [Oper.upon_value]
  go_wp2
  go_ret
  exact ⟨rfl, rfl⟩

theorem cmp_neg (a b : List UInt8) : decide (Lib.compareBytes a b < 0) = Op.bytesLess a b := by
  have h := cmp_less a b
  by_cases hc : Lib.compareBytes a b < 0
  · rw [decide_eq_true hc]
    rw [decide_eq_false (by omega)] at h
    cases hb : Op.bytesLess a b with
    | true => rfl
    | false => rw [hb] at h; cases h
  · rw [decide_eq_false hc]
    rw [decide_eq_true (by omega)] at h
    cases hb : Op.bytesLess a b with
    | true => rw [hb] at h; cases h
    | false => rfl

theorem cmp_pos : ∀ a b : List UInt8, decide (0 < Lib.compareBytes b a) = Op.bytesLess a b
  | [], [] => rfl
  | [], _ :: _ => rfl
  | _ :: _, [] => rfl
  | x :: a, y :: b => by
    have ih := cmp_pos a b
    simp only [Lib.compareBytes, Op.bytesLess]
    by_cases h1 : x < y
    · have h2 : ¬ y < x := fun h => absurd (UInt8.lt_trans h1 h) (UInt8.lt_irrefl _)
      simp [h1, h2]
    · by_cases h2 : y < x
      · have : (x == y) = false := by
          rw [beq_eq_false_iff_ne]; intro e; subst e; exact absurd h2 (UInt8.lt_irrefl _)
        simp [h1, h2, this]
      · have : x = y := UInt8.le_antisymm (UInt8.not_lt.1 h2) (UInt8.not_lt.1 h1)
        subst this
        simp [UInt8.lt_irrefl, ih]

set_option maxHeartbeats 1000000 in
theorem pclone_any (v : Value) (bs : List UInt8) (w : World) (h : Says w v bs) (hl : bs.length ≤ 140737488351232) :
    Calls Tryd.prog 32 #[v] w fun e w' => ∃ v', e = .returned v' ∧ Copy w.heap.size w' v' bs ∧ Below w.heap.size w w' := by
  have h0 := h
  obtain ⟨a, c, rfl, h1, h2, hn, h3⟩ := h
  obtain ⟨i0, hi, hz0, hz1, hz2⟩ := info_parts Tryd.infoU8
  go_enter Tryd.func32, Tryd.ntmps32
  go_wp2_with (at_builtin; refine wpList_append_shows _ rfl _ _ 29 rfl w.heap.size 5 i0 Tryd.underlying29 hi hz0 hz1 hz2 (.slice none 0 0) 0 [] rfl (World.ownsRow_nil _ _ _ _) _ _ bs rfl h0 ?_ ?_ ?_)
  · omega
  · simp
  · intro v' w2 hown2 hg
    go_wp2
    go_ret
    refine ⟨_, rfl, by simpa [Copy] using hown2, (Below.refl _ _).grown hg (Nat.le_refl _) (fun q hq => by simp [Value.ownBlock] at hq)⟩

set_option maxHeartbeats 1000000 in
theorem pall_any (w : World) : Calls Tryd.prog 18 #[] w fun e w' => e = .returned (.agg #[.slice none 0 0, .slice none 0 0, .bool false]) ∧ Below w.heap.size w w' := by
  have HC := hid (heap_alloc_new w (.cells #[.slice none 0 0, .slice none 0 0, .bool false] 31))
  have HB := hid (new_alloc w (.cells #[.slice none 0 0, .slice none 0 0, .bool false] 31))
  go_enter Tryd.func18, Tryd.ntmps18
  go_wp2_with (refine wpList_store_row rfl 31 (.tmp 0) (.tmp 1) rfl w.heap.size #[.slice none 0 0, .slice none 0 0, .bool false] rfl rfl 31 _ HC.out Tryd.infoSpan rfl rfl ?_)
  exact bodyPost_ret (results_cell_row (p := 0) (ty := 31) rfl _ _ w.heap.size 31 _ (0, 0) _ rfl (heap_alloc_new _ _) Tryd.underlying31 rfl Tryd.infoSpan) rfl ⟨rfl, new_alloc _ _⟩

set_option maxHeartbeats 1000000 in
theorem pnone_any (w : World) : Calls Tryd.prog 19 #[] w fun e w' => e = .returned (.agg #[.slice none 0 0, .slice none 0 0, .bool true]) ∧ Below w.heap.size w w' := by
  have HC := hid (heap_alloc_new w (.cells #[.slice none 0 0, .slice none 0 0, .bool false] 31))
  have HB := hid (new_alloc w (.cells #[.slice none 0 0, .slice none 0 0, .bool false] 31))
  go_enter Tryd.func19, Tryd.ntmps19
  go_wp2_with (refine wpList_store_row rfl 31 (.tmp 0) (.tmp 1) rfl w.heap.size #[.slice none 0 0, .slice none 0 0, .bool true] rfl rfl 31 _ HC.out Tryd.infoSpan rfl rfl ?_)
  exact bodyPost_ret (results_cell_row (p := 0) (ty := 31) rfl _ _ w.heap.size 31 _ (0, 0) _ rfl (heap_alloc_new _ _) Tryd.underlying31 rfl Tryd.infoSpan) rfl ⟨rfl, new_alloc _ _⟩

/-- The bytes of an end. -/
def endP (o : Int) (K : List UInt8) : List UInt8 := if o = 1 then K else if o = 2 then K ++ [0] else []

set_option maxHeartbeats 2000000 in
theorem pend_any (o : Int) (v : Value) (K : List UInt8) (w : World) (h : Says w v K) (hl : K.length ≤ 1000) :
    Calls Tryd.prog 37 #[.int .i64 o, v] w fun e w' => ∃ v', e = .returned v' ∧ Copy w.heap.size w' v' (endP o K) ∧ Below w.heap.size w w' := by
  have HC := pclone_any v K w h (by omega)
  obtain ⟨a, c, rfl, h1, h2, hn, h3⟩ := h
  by_cases e1 : o = 1
  · subst e1
    show Calls _ _ _ _ fun e w' => ∃ v', e = .returned v' ∧ Copy w.heap.size w' v' K ∧ Below w.heap.size w w'
    go_enter Tryd.func37, Tryd.ntmps37
    go_wp2_with (go_at_call 32; refine HC.mono ?_; clear HC; rintro e w2 ⟨kv, rfl, hkv, hb2⟩)
    go_ret
    exact ⟨_, rfl, hkv, hb2⟩
  · by_cases e2 : o = 2
    · subst e2
      show Calls _ _ _ _ fun e w' => ∃ v', e = .returned v' ∧ Copy w.heap.size w' v' (K ++ [0]) ∧ Below w.heap.size w w'
      obtain ⟨i0, hi, hz0, hz1, hz2⟩ := info_parts Tryd.infoU8
      go_enter Tryd.func37, Tryd.ntmps37
      go_wp2_with (first
        | (go_at_call 32; refine HC.mono ?_; clear HC; rintro e w2 ⟨kv, rfl, hkv, hb2⟩
           obtain ⟨ak, ck, rfl⟩ := own_form hkv
           have hz2' := hb2.size
           have hb6 : Below w2.heap.size w2 (w2.alloc (.cells #[.int .u8 0] 5)) := new_alloc _ _
           have ho6 := (Spares.of_new (S := fun _ => False) hb6).row (show w2.ownsRow w.heap.size 5 1 (.slice ak K.length ck) K.length (K.map by8) from hkv) (fun _ _ => id)
           have hz6 : (w2.alloc (.cells #[.int .u8 0] 5)).heap.size = w2.heap.size + 1 := World.size_alloc _ _
           have hone : ∀ (j : Nat) (u : Value), [Value.int .u8 0][j]? = some u → (w2.alloc (.cells #[.int .u8 0] 5)).cell? ((⟨w2.heap.size, 0, none⟩ : Addr).add j) = some u := one_cell w2 _ _)
        | (at_builtin; refine wpList_append_own _ rfl (.tmp 13) (.tmp 14) 29 rfl w.heap.size 5 i0 (.int .u8 0) 1 1 Tryd.underlying29 hi hz0 hz1 hz2 rfl (by decide) _ K.length _ rfl ho6 ⟨w2.heap.size, 0, none⟩ 1 1 [.int .u8 0] rfl rfl hone (by intro u hu; rw [List.mem_singleton.1 hu]; rfl) (by unfold maxLen; omega) (by omega) (by omega) ?_
           intro v7 w7 hown7 hg7 _))
      have hown8 : Copy w.heap.size w7 v7 (K ++ [0]) := by
        show w7.ownsRow _ _ _ _ (K ++ [0]).length ((K ++ [0]).map by8)
        rw [List.length_append, List.map_append]
        exact hown7
      have hb7 : Below w.heap.size w w7 := (hb2.trans (hb6.mono hz2')).grown hg7 (by omega) (fun q hq => (ho6.lt q hq).1)
      clear hown7 hg7 hb6 ho6 hone
      go_wp2
      go_ret
      exact ⟨_, rfl, hown8, hb7⟩
    · have he : endP o K = [] := by unfold endP; rw [if_neg e1, if_neg e2]
      rw [he]
      clear HC
      go_enter Tryd.func37, Tryd.ntmps37
      go_wp2
      go_ret
      exact ⟨_, rfl, World.ownsRow_nil _ _ _ _, Below.refl _ _⟩

set_option maxHeartbeats 2000000 in
theorem pcol_any (k op : Int) (tb nm : List UInt8) (vk vn : Int) (vs : List UInt8) (xs : List Ex) (aa : Option Addr) (nn cc : Nat) (col : Int) (w : World) :
    Calls Tryd.prog 25 #[.agg #[.int .i64 k, .int .i64 op, .string (str8 tb), .string (str8 nm), .int .i64 vk, .int .i64 vn, .string (str8 vs), .slice aa nn cc], .int .i64 col] w fun e w' => e = .returned (.bool (isCol (.mk k op tb nm ⟨vk, vn, vs⟩ xs) col)) ∧ Below w.heap.size w w' := by
  obtain ⟨W, hW, hbW, hzW, hcW⟩ := box8 w (.cells #[.int .i64 k, .int .i64 op, .string (str8 tb), .string (str8 nm), .int .i64 vk, .int .i64 vn, .string (str8 vs), .slice aa nn cc] 26)
  have c0 := (cells8 hcW).1
  have c4 := (cells8 hcW).2.2.2.2.1
  have c5 := (cells8 hcW).2.2.2.2.2.1
  have c6 := (cells8 hcW).2.2.2.2.2.2.1
  have heq : ∀ W, (binOp .eql 23 (.agg #[.int .i64 vk, .int .i64 vn, .string (str8 vs)]) (.agg #[.int .i64 1, .int .i64 col, .string ⟨#[]⟩])).run Tryd.prog W = .ok (.bool (eqv ⟨vk, vn, vs⟩ ⟨1, col, []⟩)) W := fun W => run_eqv ⟨vk, vn, vs⟩ ⟨1, col, []⟩ W
  have hg := Tryd.eqGuardVal
  have HB := hid hbW
  have hX : isCol (.mk k op tb nm ⟨vk, vn, vs⟩ xs) col = (decide (k = 2) && eqv ⟨vk, vn, vs⟩ ⟨1, col, []⟩) := rfl
  rw [hX]
  clear hbW hcW hX
  generalize eqv ⟨vk, vn, vs⟩ ⟨1, col, []⟩ = r at *
  by_cases h2 : k = 2
  · subst h2
    go_enter Tryd.func25, Tryd.ntmps25
    go_wp2
    go_ret
    exact ⟨by simp, HB.out⟩
  · have hd : decide (k = 2) = false := decide_eq_false h2
    rw [hd]
    go_enter Tryd.func25, Tryd.ntmps25
    go_wp2
    go_ret
    exact ⟨rfl, HB.out⟩

/-- The array of tests, a row each: where a span begins, where it ends, the mirror image. -/
def tstF (o : Nat) : Int := if o = 3 then 1 else if o = 7 then 2 else if o = 8 then 1 else 0
def tstT (o : Nat) : Int := if o = 3 then 2 else if o = 5 then 1 else if o = 6 then 2 else 0
def tstM (o : Nat) : Int := if o = 3 then 3 else if o = 5 then 7 else if o = 6 then 8 else if o = 7 then 5 else if o = 8 then 6 else 0

structure TstAt (w : World) : Prop where
  cells : ∀ o : Nat, o ≤ 8 → w.cell? ⟨0, o * 3, none⟩ = some (.int .i64 (tstF o)) ∧ w.cell? ⟨0, o * 3 + 1, none⟩ = some (.int .i64 (tstT o)) ∧ w.cell? ⟨0, o * 3 + 2, none⟩ = some (.int .i64 (tstM o))
  lt : 0 < w.heap.size

theorem TstAt.below {B : Nat} {w w' : World} (h : TstAt w) (hb : Below B w w') (hB : 0 < B) : TstAt w' :=
  ⟨fun o ho => ⟨(hb.cell (p := ⟨0, o * 3, none⟩) hB).trans (h.cells o ho).1, (hb.cell (p := ⟨0, o * 3 + 1, none⟩) hB).trans (h.cells o ho).2.1, (hb.cell (p := ⟨0, o * 3 + 2, none⟩) hB).trans (h.cells o ho).2.2⟩, Nat.lt_of_lt_of_le h.lt hb.size⟩

theorem TstAt.on {w w' : World} (h : TstAt w) (hb : Below w.heap.size w w') : TstAt w' := h.below hb h.lt

def isTst (op : Int) : Bool := decide (op = 3 ∨ op = 5 ∨ op = 6 ∨ op = 7 ∨ op = 8)

set_option maxHeartbeats 4000000 in
theorem ptest_any (op : Int) (w : World) (ht : TstAt w) :
    Calls Tryd.prog 24 #[.int .i64 op] w fun e w' => e = .returned (.bool (isTst op)) ∧ w' = w := by
  by_cases h0 : op < 0
  · have hx : isTst op = false := decide_eq_false (by omega)
    rw [hx]
    have h0' : ¬ (0 ≤ op) := by omega
    clear ht
    go_enter Tryd.func24, Tryd.ntmps24
    go_wp2
    go_ret
    exact ⟨rfl, rfl⟩
  · by_cases h9 : op < 9
    · obtain ⟨n, rfl⟩ : ∃ n : Nat, op = (n : Int) := ⟨op.toNat, by omega⟩
      have hn : n ≤ 8 := by omega
      obtain ⟨c0, c1, c2⟩ := ht.cells n hn
      have hc : n = 0 ∨ n = 1 ∨ n = 2 ∨ n = 3 ∨ n = 4 ∨ n = 5 ∨ n = 6 ∨ n = 7 ∨ n = 8 := by omega
      clear ht h0 h9 hn
      rcases hc with rfl | rfl | rfl | rfl | rfl | rfl | rfl | rfl | rfl <;>
      · simp only [tstF, tstT, tstM, Nat.reduceMul, Nat.reduceAdd, Nat.reduceEqDiff, if_true, if_false] at c0 c1 c2
        go_enter Tryd.func24, Tryd.ntmps24
        go_wp2
        go_ret
        exact ⟨rfl, rfl⟩
    · have hx : isTst op = false := decide_eq_false (by omega)
      rw [hx]
      have h0' : 0 ≤ op := by omega
      clear ht
      go_enter Tryd.func24, Tryd.ntmps24
      go_wp2
      go_ret
      exact ⟨rfl, rfl⟩

end Go.Proofs.YthjgbcbgkafgjaaDoor
