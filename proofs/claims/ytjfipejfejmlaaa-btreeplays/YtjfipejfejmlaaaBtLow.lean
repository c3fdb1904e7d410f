/- Contracts of bytes.Compare, bytes.Clone, btree.clone (an entry); (tools/btlow.py: out of stage 4's texts). -/
import Derived.Test.YtjfipejfejmlaaaBtPg
namespace Go.Proofs.Ytjfipejfejmlaaa
open Go.RowKit Go.Shelf
set_option linter.unusedVariables false
set_option linter.unusedSimpArgs false
set_option maxRecDepth 20000

theorem run_load8 {P : Program} (w : World) : ∀ (l : List UInt8) (a : Addr) (acc : ByteArray), (∀ j x, l[j]? = some x → w.cell? (a.add j) = some (.int .u8 x.toNat)) →
    (Extern.Bytes.loadBytes a l.length acc).run P w = .ok ⟨acc.data ++ l.toArray⟩ w
  | [], a, acc, _ => by simp [Extern.Bytes.loadBytes]
  | x :: l, a, acc, h => by
    have h0 : w.cell? a = some (.int .u8 x.toNat) := by
      have := h 0 x rfl
      simpa [Addr.add] using this
    have ih := run_load8 (P := P) w l (a.add 1) (acc.push x) (fun j y hy => by
      have := h (j + 1) y (by simpa using hy)
      have e : (a.add 1).add j = a.add (j + 1) := by
        unfold Addr.add
        by_cases hj : j = 0
        · subst hj; simp
        · simp [hj]; omega
      rw [e]; exact this)
    have hx : ((x.toNat : Int).toNat).toUInt8 = x := by simp
    simp only [List.length_cons, Extern.Bytes.loadBytes, Sem.run_bind, run_load, h0, Result.andThen, Extern.Bytes.asByte, Sem.run_pure, hx]
    rw [ih]
    congr 1
    apply ByteArray.ext
    simp [ByteArray.push]

theorem run_bytes_shows {P : Program} {B : Nat} {w : World} {v : Value} {bs : List UInt8} (h : Shows B w v bs) : (Extern.Bytes.bytesOf v).run P w = .ok ⟨bs.toArray⟩ w := by
  obtain ⟨a, c, rfl, h1, h2, hn, h3⟩ := h
  cases a with
  | none =>
    have hb : bs = [] := List.eq_nil_of_length_eq_zero (by have := hn rfl; omega)
    subst hb
    rfl
  | some ad =>
    have := run_load8 (P := P) w bs ad .empty (fun j x hj => by
      have := (by8_cells (B := B) (w := w) (ad := ad) (l := bs.length) (c := c) (bs := bs) ⟨some ad, c, rfl, h1, h2, hn, h3⟩).2 j (by8 x) (by rw [List.getElem?_map, hj]; rfl)
      exact this)
    simp only [Extern.Bytes.bytesOf]
    rw [this]
    simp [ByteArray.empty, ByteArray.emptyWithCapacity]
    rfl

theorem cmp_less : ∀ a b : List UInt8, decide (0 ≤ Lib.compareBytes a b) = !Op.bytesLess a b
  | [], [] => rfl
  | [], _ :: _ => rfl
  | _ :: _, [] => rfl
  | x :: a, y :: b => by
    have ih := cmp_less a b
    simp only [Lib.compareBytes, Op.bytesLess]
    by_cases h1 : x < y
    · simp [h1]
    · by_cases h2 : y < x
      · have : (x == y) = false := by
          rw [beq_eq_false_iff_ne]; intro e; subst e; exact absurd h2 (UInt8.lt_irrefl _)
        simp [h1, h2, this]
      · have : x = y := UInt8.le_antisymm (UInt8.not_lt.1 h2) (UInt8.not_lt.1 h1)
        subst this
        simp [UInt8.lt_irrefl, ih]

theorem cmp_range : ∀ a b : List UInt8, -1 ≤ Lib.compareBytes a b ∧ Lib.compareBytes a b ≤ 1
  | [], [] => by simp [Lib.compareBytes]
  | [], _ :: _ => by simp [Lib.compareBytes]
  | _ :: _, [] => by simp [Lib.compareBytes]
  | x :: a, y :: b => by
    have ih := cmp_range a b
    simp only [Lib.compareBytes]
    repeat' split
    all_goals omega

set_option maxHeartbeats 1000000 in
theorem compare_any (B C : Nat) (v u : Value) (bs cs : List UInt8) (w : World) (hsh : Shows B w v bs) (hsu : Shows C w u cs) :
    Calls Try.prog 39 #[v, u] w fun e w' => e = .returned (.int .i64 (Lib.compareBytes bs cs)) ∧ w' = w := by
  have hrun : (Extern.BytealgCompare.compare #[v, u]).run Try.prog w = .ok (.int .i64 (Lib.compareBytes bs cs)) w := by
    change Sem.run Try.prog (do pure (goInt (Extern.BytealgCompare.cmp (← Extern.Bytes.bytesOf v) (← Extern.Bytes.bytesOf u)))) w = _
    rw [Sem.run_bind, run_bytes_shows hsh]
    simp only [Result.andThen]
    rw [Sem.run_bind, run_bytes_shows hsu]
    simp only [Result.andThen, Sem.run_pure, goInt, Lib.cmp_eq]
  obtain ⟨a, c, rfl, g1, g2, gn, g3⟩ := hsh
  obtain ⟨a', c', rfl, f1, f2, fn, f3⟩ := hsu
  go_enter Try.func39, Try.ntmps39
  go_wp2
  rw [run_callFunc_extern Try.func55 (by kernel_rfl) (by kernel_rfl) (by kernel_rfl) (e := Extern.BytealgCompare.compare) (by kernel_rfl), hrun]
  simp only [Result.andThen]
  rw [Oper.upon_value]
  go_wp2
  go_ret
  exact ⟨rfl, rfl⟩

set_option maxHeartbeats 1000000 in
theorem clone8_any (v : Value) (bs : List UInt8) (w : World) (h : Says w v bs) (hl : bs.length ≤ 140737488351232) :
    Calls Try.prog 27 #[v] w fun e w' => ∃ v', e = .returned v' ∧ Copy w.heap.size w' v' bs ∧ Below w.heap.size w w' := by
  have h0 := h
  obtain ⟨a, c, rfl, h1, h2, hn, h3⟩ := h
  cases a with
  | some ad =>
    obtain ⟨i0, hi, hz0, hz1, hz2⟩ := info_parts Try.infoU8
    have hq := fun wx => Lib.run_eql_slice_nil (P := Try.prog) wx 30 5 (some ad) bs.length c 0 0 Try.underlying30
    have hsh := Says.new h0 ((Below.refl _ w).alloc (Nat.le_refl _) (.cells #[] 5))
    go_enter Try.func27, Try.ntmps27
    go_wp2_with (first | (at_builtin; refine wpList_append_shows _ rfl _ _ 30 rfl w.heap.size 5 i0 Try.underlying30 hi hz0 hz1 hz2 _ 0 [] rfl (World.ownsRow_made w #[] 0 (Nat.le_refl _) (by unfold maxLen; omega) rfl) _ _ bs rfl hsh ?_ ?_ ?_) | go_in)
    · omega
    · simp
    · intro v' w2 hown2 hg hnil
      go_wp2
      go_ret
      refine ⟨_, rfl, by simpa [Copy] using hown2, ((Below.refl _ _).alloc (Nat.le_refl _) _).grown hg (by simp) (fun q hq => by simp [Value.ownBlock] at hq; omega)⟩
  | none =>
    have hc := hn rfl
    subst hc
    have hb : bs = [] := List.eq_nil_of_length_eq_zero (by omega)
    subst hb
    have hq := fun wx => Lib.run_eql_slice_nil (P := Try.prog) wx 30 5 none 0 0 0 0 Try.underlying30
    go_enter Try.func27, Try.ntmps27
    go_wp2
    go_ret
    exact ⟨_, rfl, World.ownsRow_nil _ _ _ _, Below.refl _ _⟩

theorem Try.infoEntry : (Try.prog.info? 46).map (·.size) = some 2 := by kernel_rfl

/-- Two new blocks. -/
theorem alloc2 (w : World) (o1 o2 : Obj) : ((w.alloc o1).alloc o2).heap[w.heap.size]? = some o1 ∧ ((w.alloc o1).alloc o2).heap[w.heap.size + 1]? = some o2 ∧ Below w.heap.size w ((w.alloc o1).alloc o2) ∧ ((w.alloc o1).alloc o2).heap.size = w.heap.size + 2 := by
  have s1 : (w.alloc o1).heap.size = w.heap.size + 1 := World.size_alloc _ _
  have b1 := (Below.refl (w.alloc o1).heap.size (w.alloc o1)).alloc (Nat.le_refl _) o2
  have n1 := World.alloc_heap_new w o1
  have n2 := World.alloc_heap_new (w.alloc o1) o2
  rw [s1] at n2
  exact ⟨(b1.block _ (by omega)).trans n1, n2, ((Below.refl _ w).alloc (Nat.le_refl _) _).alloc (by omega) _, by rw [World.size_alloc, s1]⟩

set_option maxHeartbeats 4000000 in
theorem entry_any (kv vv : Value) (k v : List UInt8) (w : World) (hk : Says w kv k) (hv : Says w vv v) (hkl : k.length ≤ 140737488351232) (hvl : v.length ≤ 140737488351232) :
    Calls Try.prog 29 #[.agg #[kv, vv]] w fun e w' => ∃ kv' vv', e = .returned (.agg #[kv', vv']) ∧ Copy w.heap.size w' kv' k ∧ Copy w.heap.size w' vv' v ∧ (∀ g, kv'.ownBlock = some g → vv'.ownBlock ≠ some g) ∧ Below w.heap.size w w' := by
  obtain ⟨a1, c1, rfl, _⟩ := id hk
  obtain ⟨a2, c2, rfl, _⟩ := id hv
  obtain ⟨h20, h21, hb2, hz2⟩ := alloc2 w (.cells #[.slice a1 k.length c1, .slice a2 v.length c2] 46) (.cells #[.slice none 0 0, .slice none 0 0] 46)
  go_enter Try.func29, Try.ntmps29
  go_wp2_with fail
  generalize (w.alloc (.cells #[.slice a1 k.length c1, .slice a2 v.length c2] 46)).alloc (.cells #[.slice none 0 0, .slice none 0 0] 46) = w2 at *
  have hS2 : w2.drew.cell? ⟨w.heap.size, 0, none⟩ = some (.slice a1 k.length c1) ∧ w2.drew.cell? ⟨w.heap.size, 1, none⟩ = some (.slice a2 v.length c2) := ⟨cell_of_row _ _ _ _ _ _ h20, cell_of_row _ _ _ _ _ _ h20⟩
  have hbd : Below w.heap.size w w2.drew := hb2.drew
  have HC1 := clone8_any (.slice a1 k.length c1) k w2.drew (hk.new hbd) hkl
  have HV := hid (hv.new hbd)
  have HD := hid hbd
  have H21 : Hid (w2.drew.heap[w.heap.size + 1]? = _) := hid h21
  have HZ : Hid (w2.drew.heap.size = w.heap.size + 2) := hid hz2
  clear h20 h21 hb2 hz2 hk hv hbd
  go_region_held3 (fun w' => w'.cell? ⟨w.heap.size, 0, none⟩ = some (.slice a1 k.length c1) ∧ w'.cell? ⟨w.heap.size, 1, none⟩ = some (.slice a2 v.length c2))
    (first | assumption | go_keep)
    ((go_at_call 27; first
      | (refine HC1.mono ?_; clear HC1; rintro e w3 ⟨kv', rfl, hk3, hb3⟩; obtain ⟨a3, c3, rfl⟩ := hk3.form
         have hz3 := hb3.size
         have hS3 : w3.cell? ⟨w.heap.size, 0, none⟩ = some (.slice a1 k.length c1) ∧ w3.cell? ⟨w.heap.size, 1, none⟩ = some (.slice a2 v.length c2) := ⟨(hb3.cell (p := ⟨w.heap.size, 0, none⟩) (by have := HZ.out; show w.heap.size < _; omega)).trans hS2.1, (hb3.cell (p := ⟨w.heap.size, 1, none⟩) (by have := HZ.out; show w.heap.size < _; omega)).trans hS2.2⟩
         have HC2 := clone8_any (.slice a2 v.length c2) v w3 (HV.out.new hb3) hvl
         have HK3 := hid hk3
         have HB3 := hid hb3
         clear hk3 hb3)
      | (refine HC2.mono ?_; clear HC2; rintro e w4 ⟨vv', rfl, hv4, hb4⟩; obtain ⟨a4, c4, rfl⟩ := hv4.form
         have hz4 := hb4.size
         have hS4 : w4.cell? ⟨w.heap.size, 0, none⟩ = some (.slice a1 k.length c1) ∧ w4.cell? ⟨w.heap.size, 1, none⟩ = some (.slice a2 v.length c2) := ⟨(hb4.cell (p := ⟨w.heap.size, 0, none⟩) (by have := HZ.out; show w.heap.size < _; omega)).trans hS3.1, (hb4.cell (p := ⟨w.heap.size, 1, none⟩) (by have := HZ.out; show w.heap.size < _; omega)).trans hS3.2⟩
         have H41 : w4.heap[w.heap.size + 1]? = some (.cells #[.slice none 0 0, .slice none 0 0] 46 (0, 0)) := (hb4.block _ (by have := HZ.out; omega)).trans ((HB3.out.block _ (by have := HZ.out; omega)).trans H21.out)
         have h410 : w4.cell? ⟨w.heap.size + 1, 0, none⟩ = some (.slice none 0 0) := by rw [cell_of_row _ _ _ _ _ _ H41]; rfl
         have h411 : w4.cell? ⟨w.heap.size + 1, 1, none⟩ = some (.slice none 0 0) := by rw [cell_of_row _ _ _ _ _ _ H41]; rfl
         have f410 : w4.frozen? ⟨w.heap.size + 1, 0, none⟩ = false := by simp [World.frozen?, H41]
         have f411 : w4.frozen? ⟨w.heap.size + 1, 1, none⟩ = false := by simp [World.frozen?, H41]
         have HK4 := hid (HK3.out.new hb4)
         have HV4 := hid hv4
         have HB4 := hid hb4
         have H4 := hid H41
         clear hv4 hb4 H41)))
  go_wp2_with fail
  refine bodyPost_ret (v := .agg #[.slice a3 k.length c3, .slice a4 v.length c4]) (results_cell_row (p := 2) (ty := 46) rfl _ _ (w.heap.size + 1) 46 #[.slice a3 k.length c3, .slice a4 v.length c4] (0, 0) _ rfl (heap_setCell_same _ _ _ _ _ _ (heap_setCell_same _ _ _ _ _ _ H4.out)) Try.underlying46 rfl Try.infoEntry) rfl ⟨_, _, rfl, ?_, ?_, ?_, ?_⟩
  · exact HK4.out.spares (spares_set2 _ _ _ _ _ _) (fun i hi => by have := HZ.out; omega) (by have := HZ.out; omega)
  · exact HV4.out.spares (spares_set2 _ _ _ _ _ _) (fun i hi => by have := HZ.out; omega) (by have := HZ.out; omega)
  · intro g hg hg'
    have h1 := (HK3.out.lt g hg).2
    have h2 := (HV4.out.lt g hg').1
    omega
  · have e1 := HZ.out
    exact ((HD.out.trans ((HB3.out.mono (by omega)).trans (HB4.out.mono (by omega)))).setCell (p := ⟨w.heap.size + 1, 0, none⟩) (by simp) _).setCell (p := ⟨w.heap.size + 1, 1, none⟩) (by simp) _

end Go.Proofs.Ytjfipejfejmlaaa
