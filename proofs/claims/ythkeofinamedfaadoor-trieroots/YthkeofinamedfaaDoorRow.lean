/- Contract of plain.Row. -/
import Derived.Test.YthkeofinamedfaaDoorFns
namespace Go.Proofs.YthkeofinamedfaaDoor
open Go.RowKit
set_option linter.unusedVariables false
set_option maxRecDepth 20000

/-- WHAT A SLICE OF SLICES OF BYTES SHOWS. -/
def Lists (B : Nat) (w : World) (v : Value) (rows : List (List UInt8)) : Prop :=
  ∃ (a : Option Addr) (c : Nat) (vs : List Value), v = .slice a rows.length c ∧ rows.length ≤ c ∧ c ≤ maxLen ∧ vs.length = rows.length ∧
    (rows ≠ [] → ∃ b off, a = some ⟨b, off, none⟩ ∧ b < B ∧ ∀ (j : Nat) (u : Value), vs[j]? = some u → w.cell? ⟨b, off + j, none⟩ = some u) ∧
    ∀ (j : Nat) (u : Value) (r : List UInt8), vs[j]? = some u → rows[j]? = some r → Shows B w u r

theorem Lists.below {B : Nat} {w w' : World} {v : Value} {rows : List (List UInt8)} (h : Lists B w v rows) (hb : Below B w w') : Lists B w' v rows := by
  obtain ⟨a, c, vs, hv, h1, h2, h3, h4, h5⟩ := h
  refine ⟨a, c, vs, hv, h1, h2, h3, fun hne => ?_, fun j u r hu hr => (h5 j u r hu hr).below hb⟩
  obtain ⟨b, off, ha, hlt, hc⟩ := h4 hne
  exact ⟨b, off, ha, hlt, fun j u hu => by rw [hb.cell (p := ⟨b, off + j, none⟩) hlt]; exact hc j u hu⟩

/-- One element, as a walk reads it. -/
theorem Lists.at {B : Nat} {w : World} {a : Option Addr} {l c : Nat} {rows : List (List UInt8)} (h : Lists B w (.slice a l c) rows) (k : Nat) (hk : k < rows.length) :
    ∃ b off ak ck, a = some ⟨b, off, none⟩ ∧ w.cell? ⟨b, off + k, none⟩ = some (.slice ak (rows[k]?.getD []).length ck) ∧ Shows B w (.slice ak (rows[k]?.getD []).length ck) (rows[k]?.getD []) := by
  obtain ⟨a', c', vs, hv, h1, h2, h3, h4, h5⟩ := h
  simp only [Value.slice.injEq] at hv
  obtain ⟨rfl, _, _⟩ := hv
  obtain ⟨b, off, ha, hlt, hc⟩ := h4 (by intro e; rw [e] at hk; simp at hk)
  have hv := hc k (vs[k]'(by omega)) (List.getElem?_eq_getElem _)
  have hs := h5 k (vs[k]'(by omega)) rows[k] (List.getElem?_eq_getElem _) (List.getElem?_eq_getElem _)
  have hs2 := hs
  obtain ⟨ak, ck, e, _⟩ := hs
  rw [e] at hv hs2
  refine ⟨b, off, ak, ck, ha, ?_, ?_⟩
  · simpa [List.getElem?_eq_getElem hk] using hv
  · simpa [List.getElem?_eq_getElem hk] using hs2

/-- How many bytes the first blobs have. -/
def wide (rows : List (List UInt8)) : Nat := (rows.map fun r => 4 + r.length).sum

theorem wide_snoc (rows : List (List UInt8)) (r : List UInt8) : wide (rows ++ [r]) = wide rows + (4 + r.length) := by simp [wide]

theorem wide_take (rows : List (List UInt8)) (k : Nat) (h : k < rows.length) : wide (rows.take (k + 1)) = wide (rows.take k) + (4 + (rows[k]?.getD []).length) := by
  rw [List.take_succ_eq_append_getElem h, wide_snoc]
  simp [List.getElem?_eq_getElem h]

/-- The blobs, one behind another. -/
def blobs (rows : List (List UInt8)) : List UInt8 := (rows.map blob).flatten

theorem blobs_take (rows : List (List UInt8)) (k : Nat) (h : k < rows.length) : blobs (rows.take (k + 1)) = blobs (rows.take k) ++ blob (rows[k]?.getD []) := by
  rw [List.take_succ_eq_append_getElem h, blobs, List.map_append, List.flatten_append, List.getElem?_eq_getElem h]
  simp only [blobs, List.map_cons, List.map_nil, List.flatten_cons, List.flatten_nil, List.append_nil, Option.getD_some]

theorem blobs_length (rows : List (List UInt8)) : (blobs rows).length = wide rows := by
  induction rows with
  | nil => rfl
  | cons r rows ih => simp [blobs, wide, blob_length] at ih ⊢; omega

/-- Are all blobs short enough? -/
def fits (rows : List (List UInt8)) : Prop := ∀ r ∈ rows, r.length ≤ 65536

theorem wide_le (rows : List (List UInt8)) (h : fits rows) : wide rows ≤ rows.length * 65540 := by
  induction rows with
  | nil => simp [wide]
  | cons r rows ih =>
    have h1 := h r (by simp)
    have h2 := ih fun x hx => h x (by simp [hx])
    simp [wide] at h2 ⊢
    omega

/-- The row's bytes. -/
def rowBytes (rows : List (List UInt8)) : List UInt8 := be rows.length 4 ++ blobs rows

set_option maxHeartbeats 1000000 in
theorem row_long (B : Nat) (a : Option Addr) (l c : Nat) (w : World) (h : 4096 < l) (hl : l ≤ 9223372036854775807) :
    Calls Tryd.prog 72 #[.slice a l c] w fun e w' => e = .returned (.tuple #[.slice none 0 0, .int .i64 2]) ∧ w' = w := by
  go_enter Tryd.func72, Tryd.ntmps72
  go_wp2
  go_ret2
  exact ⟨rfl, rfl⟩

set_option maxHeartbeats 1000000 in
theorem row_wide (B : Nat) (a : Option Addr) (c : Nat) (rows : List (List UInt8)) (w : World) (hL : Lists B w (.slice a rows.length c) rows) (h : rows.length ≤ 4096) (hbig : ∃ m, m < rows.length ∧ 65536 < (rows[m]?.getD []).length) :
    Calls Tryd.prog 72 #[.slice a rows.length c] w fun e w' => e = .returned (.tuple #[.slice none 0 0, .int .i64 2]) ∧ w' = w := by
  have HB := hid hbig
  clear hbig
  go_enter Tryd.func72, Tryd.ntmps72
  go_wp2_with fail
  go_loop [4, 15] (fun s i => ∃ k : Nat, k ≤ rows.length ∧ i = .int .i64 k ∧ s = .int .i64 (4 + wide (rows.take k) : Nat) ∧ wide (rows.take k) ≤ k * 65540 ∧ ∀ m, m < k → (rows[m]?.getD []).length ≤ 65536) (fun _ i => rows.length - (intOf i).toNat)
  case atStart => exact ⟨0, Nat.zero_le _, rfl, rfl, by simp [wide], fun m hm => by omega⟩
  case round =>
    obtain ⟨k, hk, rfl, rfl, hw, hall⟩ := hrel
    by_cases hlt : k < rows.length
    · obtain ⟨b, off, ak, ck, rfl, hcell, hsh⟩ := hL.at k hlt
      have hmax : (rows[k]?.getD []).length ≤ 9223372036854775807 := by obtain ⟨_, _, e, h1, h2, _⟩ := hsh; unfold maxLen at h2; omega
      have HW := hid (wide_take rows k hlt)
      have HA := hid hall
      clear hall
      by_cases hbg : 65536 < (rows[k]?.getD []).length
      · generalize rows[k]?.getD [] = r at *
        go_wp2
        go_ret2
        exact ⟨rfl, rfl⟩
      · generalize hr : rows[k]?.getD [] = r at *
        have HR := hid hr
        clear hr
        go_wp2
        go_round
        case rel =>
          refine ⟨k + 1, by omega, by go_num, ?_, by have := HW.out; omega, fun m hm => ?_⟩
          · have := HW.out
            refine congrArg (Value.int .i64) ?_
            omega
          · rcases Nat.lt_or_ge m k with h' | h'
            · exact HA.out m h'
            · rw [show m = k by omega, HR.out]; omega
        case measure => simp [intOf]; omega
    · exfalso
      obtain ⟨m, h1, h2⟩ := HB.out
      have := hall m (by omega)
      omega

set_option maxHeartbeats 2000000 in
theorem row_ok (B : Nat) (a : Option Addr) (c : Nat) (rows : List (List UInt8)) (w : World) (hB : B ≤ w.heap.size) (hL : Lists B w (.slice a rows.length c) rows) (h : rows.length ≤ 4096) (hfit : fits rows) :
    Calls Tryd.prog 72 #[.slice a rows.length c] w fun e w' => ∃ v', e = .returned (.tuple #[v', .int .i64 0]) ∧ w'.ownsRow w.heap.size 5 1 v' (rowBytes rows).length ((rowBytes rows).map by8) ∧ Below w.heap.size w w' := by
  obtain ⟨i0, hi, hz0, hz1, hz2⟩ := info_parts Tryd.infoU8
  have hall : ∀ m, m < rows.length → (rows[m]?.getD []).length ≤ 65536 := fun m hm => hfit _ (by rw [List.getElem?_eq_getElem hm]; exact List.getElem_mem hm)
  have HA := hid hall
  have HWL : Hid (∀ k, wide (rows.take k) ≤ 268451840) := fun k => by
    have h1 := wide_le (rows.take k) fun r hr => hfit r (List.mem_of_mem_take hr)
    have h2 : (rows.take k).length ≤ 4096 := by simp; omega
    omega
  have HU := hid (wrap_u64_nat rows.length (by omega))
  clear hall
  go_enter Tryd.func72, Tryd.ntmps72
  go_wp2_with fail
  go_loop [4, 15] (fun s i => ∃ k : Nat, k ≤ rows.length ∧ i = .int .i64 k ∧ s = .int .i64 (4 + wide (rows.take k) : Nat) ∧ wide (rows.take k) ≤ k * 65540) (fun _ i => rows.length - (intOf i).toNat)
  case atStart => exact ⟨0, Nat.zero_le _, rfl, rfl, by simp [wide]⟩
  case round =>
    obtain ⟨k, hk, rfl, rfl, hw⟩ := hrel
    by_cases hlt : k < rows.length
    · obtain ⟨b, off, ak, ck, rfl, hcell, hsh⟩ := hL.at k hlt
      have HW := hid (wide_take rows k hlt)
      have hle := HA.out k hlt
      generalize rows[k]?.getD [] = r at *
      go_wp2
      go_round
      case rel =>
        refine ⟨k + 1, by omega, by go_num, ?_, by have := HW.out; omega⟩
        have := HW.out
        refine congrArg (Value.int .i64) ?_
        omega
      case measure => simp [intOf]; omega
    · have hkl : k = rows.length := by omega
      have htk : rows.take k = rows := List.take_of_length_le (by omega)
      rw [htk] at hw ⊢
      clear htk
      subst hkl
      generalize wide rows = W at *
      go_wp2_with (first
        | (at_make; refine wpList_make_own _ rfl _ _ 28 rfl w.heap.size 5 i0 (.int .u8 0) 1 Tryd.underlying28 hi hz0 hz1 _ _ _ (4 + W) rfl rfl (by omega) ?b2 ?b3 (Nat.le_refl _) ?_)
        | fail)
      case b2 => first | omega | (rw [hz2]; omega)
      case b3 => unfold maxLen; omega
      intro w1 hown1 hgr1
      have hb1 : Below w.heap.size w w1 := (Below.refl _ _).grown hgr1 (Nat.le_refl _) (fun x hx => by cases hx)
      have hsz1 := hb1.size
      go_wp2_with fail
      refine (high_at w.heap.size _ 0 [] _ _ rows.length 4 w1 (by first | rfl | exact HU.out) (by rfl) hsz1 hown1 (by omega) (by omega) (by omega)).mono ?_
      rintro e w2 ⟨v2, rfl, hown2, hbel2⟩
      have hb2 := hb1.trans hbel2
      clear hgr1 hown1 hbel2 hb1
      go_wp2_with fail
      go_loopw [7, 36] (fun u i wr => ∃ k : Nat, k ≤ rows.length ∧ i = .int .i64 k ∧ wr.ownsRow w.heap.size 5 1 u (4 + (blobs (rows.take k)).length) ((be rows.length 4 ++ blobs (rows.take k)).map by8) ∧ Below w.heap.size w wr) (fun _ i _ => rows.length - (intOf i).toNat)
      case atStart => exact ⟨0, Nat.zero_le _, rfl, by simpa [blobs] using hown2, hb2⟩
      case round =>
        obtain ⟨k, hk2, rfl, hown, hbel⟩ := hrel
        have hszr := hbel.size
        have hLr := hL.below (hbel.mono hB)
        by_cases hlt2 : k < rows.length
        · obtain ⟨b, off, ak, ck, rfl, hcell, hsh⟩ := hLr.at k hlt2
          have HBT := hid (blobs_take rows k hlt2)
          have HWK := hid (blobs_length (rows.take k))
          have hle := HA.out k hlt2
          have hlw := HWL.out k
          generalize rows[k]?.getD [] = r at *
          go_wp2_with fail
          refine (appendBlob_any w.heap.size _ _ _ _ r wr hszr hown (hsh.mono hB) (by have := HWK.out; omega)).mono ?_
          rintro e w3 ⟨v3, rfl, hown3, hbel3⟩
          have hb3 := hbel.trans hbel3
          clear hown hbel hbel3 hLr hcell hsh
          go_wp2
          go_roundw
          case rel =>
            refine ⟨k + 1, by omega, by go_num, ?_, hb3⟩
            rw [HBT.out, List.length_append]
            rw [← Nat.add_assoc, ← List.append_assoc, List.map_append (l₂ := blob r)]
            exact hown3
          case measure => simp [intOf]; omega
        · have hkl : k = rows.length := by omega
          have htk : rows.take k = rows := List.take_of_length_le (by omega)
          rw [htk] at hown
          clear htk
          go_wp2
          go_ret2
          refine ⟨_, rfl, ?_, hbel⟩
          have e : (rowBytes rows).length = 4 + (blobs rows).length := by simp [rowBytes, be_length]
          rw [e]
          exact hown

/-- Row's answer: the error, the bytes. -/
def rowOf (rows : List (List UInt8)) : Nat × List UInt8 :=
  if 4096 < rows.length ∨ ∃ m, m < rows.length ∧ 65536 < (rows[m]?.getD []).length then (2, []) else (0, rowBytes rows)

theorem rowOf_ok (rows : List (List UInt8)) (h : (rowOf rows).1 = 0) : rows.length ≤ 4096 ∧ fits rows ∧ rowOf rows = (0, rowBytes rows) := by
  unfold rowOf at h ⊢
  split at h
  · simp at h
  · rename_i hn
    rw [if_neg hn]
    refine ⟨by omega, fun r hr => ?_, rfl⟩
    obtain ⟨j, hj, rfl⟩ := List.getElem_of_mem hr
    rcases Nat.lt_or_ge 65536 rows[j].length with h1 | h1
    · exact absurd (.inr ⟨j, hj, by rw [List.getElem?_eq_getElem hj]; exact h1⟩) hn
    · exact h1

theorem row_any (B : Nat) (v : Value) (rows : List (List UInt8)) (w : World) (hB : B ≤ w.heap.size) (hL : Lists B w v rows) :
    Calls Tryd.prog 72 #[v] w fun e w' => ∃ v', e = .returned (.tuple #[v', .int .i64 (rowOf rows).1]) ∧ w'.ownsRow w.heap.size 5 1 v' (rowOf rows).2.length ((rowOf rows).2.map by8) ∧ Below w.heap.size w w' := by
  have hL0 := hL
  obtain ⟨a, c, vs, rfl, h1, h2, h3, h4, h5⟩ := hL
  by_cases hz : (rowOf rows).1 = 0
  · obtain ⟨hr1, hr2, hr3⟩ := rowOf_ok rows hz
    rw [hr3]
    exact row_ok B a c rows w hB hL0 hr1 hr2
  · have hno : 4096 < rows.length ∨ ∃ m, m < rows.length ∧ 65536 < (rows[m]?.getD []).length := by
      unfold rowOf at hz
      split at hz
      · assumption
      · simp at hz
    have hr3 : rowOf rows = (2, []) := by simp only [rowOf, if_pos hno]
    rw [hr3]
    by_cases hl : 4096 < rows.length
    · refine (row_long B a rows.length c w hl (by unfold maxLen at h2; omega)).mono fun e w' ⟨he, hw⟩ => ?_
      subst he hw
      exact ⟨_, rfl, World.ownsRow_nil _ _ _ _, Below.refl _ _⟩
    · refine (row_wide B a c rows w hL0 (by omega) (hno.resolve_left hl)).mono fun e w' ⟨he, hw⟩ => ?_
      subst he hw
      exact ⟨_, rfl, World.ownsRow_nil _ _ _ _, Below.refl _ _⟩
end Go.Proofs.YthkeofinamedfaaDoor
