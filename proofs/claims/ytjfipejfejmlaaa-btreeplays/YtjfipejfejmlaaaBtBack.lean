/- slices.Backward over pages, and over turns: iterators (tools/btback.py). -/
import Derived.Test.YtjfipejfejmlaaaBtUp
import Derived.RangeFuncRecord
import Derived.OrdersHeld
import Derived.RangeFuncNested
import Derived.RangeFuncBound
import Derived.RangeFuncCalls
import Derived.RangeFuncLeaves
import Derived.RangeFuncBox
import Derived.Shelf.Abstract
import Derived.Shelf.RegionOpen
import Derived.WalkKit
import Derived.WalkMore
import Derived.OwnWalkIn
import Derived.TacticsInMore
import Derived.LoopNIn
import Derived.LoopIn
import Derived.Sort.LoopGhostIn
import Derived.Sort.QuietIn
import Derived.Deep.RegionHeld3
import Derived.Deep.RegionWith
import Derived.Deep.Heap
import Derived.Deep.QuietTactic
import Derived.BigQuiet
namespace Go.Proofs.Ytjfipejfejmlaaa
open Go.RowKit Go.Shelf
set_option linter.unusedVariables false
set_option linter.unusedSimpArgs false
set_option maxRecDepth 20000
attribute [local go_sem] Oper.semAt_some

/-- What the iterator wants kept: its box, the row that it goes over. -/
def KpA (bk : Nat) (a : Option Addr) (W W' : World) : Prop := W'.heap[bk]? = W.heap[bk]? ∧ ∀ ad, a = some ad → W'.heap[ad.block]? = W.heap[ad.block]?

theorem kpA_t {bk : Nat} {a : Option Addr} {X Y Z : World} (h : KpA bk a X Y) (k : KpA bk a Y Z) : KpA bk a X Z := ⟨k.1.trans h.1, fun ad e => (k.2 ad e).trans (h.2 ad e)⟩

theorem kpA_refl {bk : Nat} {a : Option Addr} (W : World) : KpA bk a W W := ⟨rfl, fun _ _ => rfl⟩

theorem kpA_b {w : World} {bk : Nat} {a : Option Addr} (hb : bk < w.heap.size) (ha : ∀ ad, a = some ad → ad.block < w.heap.size) (W : World) (l : Nat) (o o' : Obj) (hl : w.heap.size ≤ l) (h : W.heap[l]? = some o) (_ : o.isCells = false) (_ : o.isWalk = false) : KpA bk a W (W.putObj l o') :=
  ⟨World.putObj_heap_other (by omega), fun ad e => World.putObj_heap_other (by have := ha ad e; omega)⟩

theorem kpA_of {bk : Nat} {a : Option Addr} {W W' : World} {S : Nat → Prop} (h : Spares S W W') (hb : bk < W.heap.size) (hbS : ¬ S bk) (ha : ∀ ad, a = some ad → ad.block < W.heap.size ∧ ¬ S ad.block) : KpA bk a W W' :=
  ⟨h.block _ hb hbS, fun ad e => h.block _ (ha ad e).1 (ha ad e).2⟩

/-- Elements with their places, from the last to the first. -/
def enumB {β : Type} (L : List β) : List (Nat × β) := (L.mapIdx fun i x => (i, x)).reverse

theorem enumB_at {β : Type} (L : List β) (k : Nat) (hk : k < L.length) : (enumB L)[k]? = some (L.length - 1 - k, L[L.length - 1 - k]) := by
  unfold enumB
  rw [List.getElem?_reverse (by simpa using hk), List.length_mapIdx, List.getElem?_mapIdx, List.getElem?_eq_getElem (by omega)]
  rfl

theorem enumB_length {β : Type} (L : List β) : (enumB L).length = L.length := by simp [enumB]

/-- An element of L with its place. -/
abbrev En {β : Type} (L : List β) : Type := { x : Nat × β // L[x.1]? = some x.2 }

set_option maxHeartbeats 2000000 in
theorem backP_any (a : Option Addr) (len cap : Nat) (w : World) :
    Calls Try.prog 44 #[.slice a len cap] w fun e w' => e = .returned (.func (.func 56) #[] #[.pointer (some ⟨w.heap.size, 0, none⟩)]) ∧ w' = w.alloc (.cells #[.slice a len cap] 64) := by
  go_enter Try.func44, Try.ntmps44
  go_wp2
  go_ret
  exact ⟨rfl, rfl⟩

set_option maxHeartbeats 4000000 in
theorem backP1_in (n l bk : Nat) (a : Option Addr) (cap : Nat) (L : List Nat) (J Jx : List (En L) → World → Prop)
    (hY : ∀ (pre : List (En L)) (x : En L) (W : World), J pre W → pre.length < L.length → YieldAt Fence.wide (n - 1) Try.prog l #[.int .i64 (x.1.1 : Int), .pointer (some ⟨x.1.2, 0, none⟩)] W fun e W' =>
      (e = .returned (.bool true) ∧ J (pre ++ [x]) W' ∧ KpA bk a W W') ∨ (e = .returned (.bool false) ∧ Jx (pre ++ [x]) W'))
    (W : World) (hbk : W.heap[bk]? = some (.cells #[.slice a L.length cap] 64 (0, 0))) (hsh : Rw W 1 (.slice a L.length cap) L.length (L.map ptr))
    (h0 : J [] W) :
    CallsIn Fence.wide n Try.prog 56 #[.func (.yield l) #[] #[], .pointer (some ⟨bk, 0, none⟩)] W fun e W' => (∃ v, e = .returned v) ∧
      ((∃ ys : List (En L), ys.map (·.1) = enumB L ∧ J ys W') ∨ (∃ pre : List (En L), pre.map (·.1) <+: enumB L ∧ Jx pre W')) := by
  have hbc : W.cell? ⟨bk, 0, none⟩ = some (.slice a L.length cap) := by rw [cell_of_row _ _ _ _ _ _ hbk]; rfl
  obtain ⟨_, _, e, hc1, hc2, _⟩ := id hsh
  simp only [Value.slice.injEq] at e
  obtain ⟨rfl, _, rfl⟩ := e
  unfold maxLen at hc2
  have HY := hid hY
  have HJ := hid h0
  have HS := hid hsh
  clear hY h0 hsh
  refine callsIn_of_wp Try.func56 rfl trivial ?_ rfl
  simp only [Try.ntmps56, List.size_toArray, List.length_cons, List.length_nil, Nat.reduceAdd, Nat.reduceSub, Array.replicate_succ, Array.replicate_zero, List.push_toArray, List.append_toArray, List.nil_append, List.cons_append]
  gi_wp2
  gi_loopg [3] L.length (fun kx s3 wr => ∃ (pre : List (En L)), s3 = .int .i64 ((kx : Int) - 1) ∧ pre.length + kx = L.length ∧ Hid (pre.map (·.1) = (enumB L).take pre.length) ∧ Hid (J pre wr) ∧ Hid (KpA bk a W wr))
  case atStart => exact ⟨[], rfl, by simp, hid rfl, HJ, hid (kpA_refl _)⟩
  case round =>
    obtain ⟨pre, rfl, hlen, HP, HJ', HK⟩ := hrel
    by_cases hk : gk = 0
    · subst hk
      have HP2 : Hid (pre.map (·.1) = enumB L) := hid (by rw [HP.out, List.take_of_length_le (by rw [enumB_length]; omega)])
      gi_wp2
      go_end0
      exact ⟨⟨_, rfl⟩, .inl ⟨pre, HP2.out, HJ'.out⟩⟩
    · obtain ⟨m, rfl⟩ : ∃ m, gk = m + 1 := ⟨gk - 1, by omega⟩
      have hm : m < L.length := by omega
      have hs := List.getElem?_eq_getElem hm
      obtain ⟨s, hsx⟩ : ∃ s, L[m] = s := ⟨_, rfl⟩
      have hen := enumB_at L pre.length (by omega)
      have hmm : L.length - 1 - pre.length = m := by omega
      simp only [hmm, hsx] at hen
      rw [hsx] at hs
      clear hsx
      obtain ⟨fn, tmps, assign, body, hy, hR⟩ := HY.out pre ⟨(m, s), hs⟩ wr HJ'.out (by omega)
      obtain ⟨b, off, rfl, cm0⟩ := HS.out.one m (ptr s) (by rw [List.getElem?_map, hs]; rfl)
      have cm : wr.cell? ⟨b, off + m, none⟩ = some (ptr s) := (World.cell?_of_block (w := W) (w' := wr) (by first | exact HK.out.2 _ rfl | exact (HK.out.2 ⟨b, off, none⟩ rfl))).trans cm0
      simp only [ptr] at cm
      have hbw : wr.cell? ⟨bk, 0, none⟩ = some (.slice (some ⟨b, off, none⟩) L.length cap) := by rw [cell_of_row _ _ _ _ _ _ (HK.out.1.trans hbk)]; rfl
      have HPR : Hid ((pre ++ [(⟨(m, s), hs⟩ : En L)]).map (·.1) = (enumB L).take (pre.length + 1)) := hid (by
        rw [List.map_append, HP.out, List.take_add_one, hen]
        rfl)
      have e1 : ((m + 1 : Nat) : Int) - 1 = (m : Int) := by omega
      simp only [e1]
      have hm0 : (0 : Int) ≤ (m : Int) := by omega
      have hm1 : (m : Int) < (L.length : Int) := by omega
      clear HP hen hmm
      gi_wp2_with (refine ⟨fun h => (by cases h), hR.mono ?_⟩; clear hR hy; rintro e W3 (⟨rfl, hJ3, hk3⟩ | ⟨rfl, hJx3⟩))
      · gi_roundg m
        case rel => exact ⟨_, rfl, by simp; omega, by rw [List.length_append]; exact HPR, hid hJ3, hid (kpA_t HK.out hk3)⟩
        case measure => omega
      · refine bodyPost_ret (v := .tuple #[]) (results_none rfl _ _ _) rfl ?_
        exact ⟨⟨_, rfl⟩, .inr ⟨_, by rw [HPR.out]; exact List.take_prefix _ _, hJx3⟩⟩

/-- 'Backward''s function value, called by a range. -/
theorem backP_stops (n bk : Nat) (a : Option Addr) (cap : Nat) (L : List Nat) (w : World) (hbk : w.heap[bk]? = some (.cells #[.slice a L.length cap] 64 (0, 0)))
    (hsh : Rw w 1 (.slice a L.length cap) L.length (L.map ptr)) :
    SeqStopsK Fence.wide n Try.prog 56 #[.pointer (some ⟨bk, 0, none⟩)] (fun x : En L => #[.int .i64 (x.1.1 : Int), .pointer (some ⟨x.1.2, 0, none⟩)]) (KpA bk a) (fun ys => ys.map (·.1) = enumB L) (fun pre => pre.map (·.1) <+: enumB L) L.length w :=
  fun l J Jx W hW _ _ hY h0 =>
    backP1_in n l bk a cap L J Jx hY W ((hW.block bk (block_lt hbk)).trans hbk) (hsh.new hW) h0

/-- The cells of turns. -/
def turnC (L : List (Nat × Nat)) : List Value := L.flatMap fun x => [.pointer (some ⟨x.1, 0, none⟩), .int .i64 (x.2 : Int)]

theorem turns_at : ∀ (L : List (Nat × Nat)) (m : Nat) (s : Nat × Nat), L[m]? = some s → (turnC L)[m * 2]? = some (.pointer (some ⟨s.1, 0, none⟩)) ∧ (turnC L)[m * 2 + 1]? = some (.int .i64 (s.2 : Int))
  | [], m, s, h => by simp at h
  | y :: L, 0, s, h => by
    simp at h; subst h; simp [turnC]
  | y :: L, m + 1, s, h => by
    have := turns_at L m s (by simpa using h)
    rw [show (m + 1) * 2 = m * 2 + 2 by omega]
    simpa [turnC] using this

set_option maxHeartbeats 2000000 in
theorem backT_any (a : Option Addr) (len cap : Nat) (w : World) :
    Calls Try.prog 47 #[.slice a len cap] w fun e w' => e = .returned (.func (.func 57) #[] #[.pointer (some ⟨w.heap.size, 0, none⟩)]) ∧ w' = w.alloc (.cells #[.slice a len cap] 58) := by
  go_enter Try.func47, Try.ntmps47
  go_wp2
  go_ret
  exact ⟨rfl, rfl⟩

set_option maxHeartbeats 4000000 in
theorem backT1_in (n l bk : Nat) (a : Option Addr) (cap : Nat) (L : List (Nat × Nat)) (J Jx : List (En L) → World → Prop)
    (hY : ∀ (pre : List (En L)) (x : En L) (W : World), J pre W → pre.length < L.length → YieldAt Fence.wide (n - 1) Try.prog l #[.int .i64 (x.1.1 : Int), .agg #[.pointer (some ⟨x.1.2.1, 0, none⟩), .int .i64 (x.1.2.2 : Int)]] W fun e W' =>
      (e = .returned (.bool true) ∧ J (pre ++ [x]) W' ∧ KpA bk a W W') ∨ (e = .returned (.bool false) ∧ Jx (pre ++ [x]) W'))
    (W : World) (hbk : W.heap[bk]? = some (.cells #[.slice a L.length cap] 58 (0, 0))) (hsh : Rw W 2 (.slice a L.length cap) L.length (turnC L))
    (h0 : J [] W) :
    CallsIn Fence.wide n Try.prog 57 #[.func (.yield l) #[] #[], .pointer (some ⟨bk, 0, none⟩)] W fun e W' => (∃ v, e = .returned v) ∧
      ((∃ ys : List (En L), ys.map (·.1) = enumB L ∧ J ys W') ∨ (∃ pre : List (En L), pre.map (·.1) <+: enumB L ∧ Jx pre W')) := by
  have hbc : W.cell? ⟨bk, 0, none⟩ = some (.slice a L.length cap) := by rw [cell_of_row _ _ _ _ _ _ hbk]; rfl
  obtain ⟨_, _, e, hc1, hc2, _⟩ := id hsh
  simp only [Value.slice.injEq] at e
  obtain ⟨rfl, _, rfl⟩ := e
  unfold maxLen at hc2
  have HY := hid hY
  have HJ := hid h0
  have HS := hid hsh
  clear hY h0 hsh
  refine callsIn_of_wp Try.func57 rfl trivial ?_ rfl
  simp only [Try.ntmps57, List.size_toArray, List.length_cons, List.length_nil, Nat.reduceAdd, Nat.reduceSub, Array.replicate_succ, Array.replicate_zero, List.push_toArray, List.append_toArray, List.nil_append, List.cons_append]
  gi_wp2
  gi_loopg [3] L.length (fun kx s3 wr => ∃ (pre : List (En L)), s3 = .int .i64 ((kx : Int) - 1) ∧ pre.length + kx = L.length ∧ Hid (pre.map (·.1) = (enumB L).take pre.length) ∧ Hid (J pre wr) ∧ Hid (KpA bk a W wr))
  case atStart => exact ⟨[], rfl, by simp, hid rfl, HJ, hid (kpA_refl _)⟩
  case round =>
    obtain ⟨pre, rfl, hlen, HP, HJ', HK⟩ := hrel
    by_cases hk : gk = 0
    · subst hk
      have HP2 : Hid (pre.map (·.1) = enumB L) := hid (by rw [HP.out, List.take_of_length_le (by rw [enumB_length]; omega)])
      gi_wp2
      go_end0
      exact ⟨⟨_, rfl⟩, .inl ⟨pre, HP2.out, HJ'.out⟩⟩
    · obtain ⟨m, rfl⟩ : ∃ m, gk = m + 1 := ⟨gk - 1, by omega⟩
      have hm : m < L.length := by omega
      have hs := List.getElem?_eq_getElem hm
      obtain ⟨s, hsx⟩ : ∃ s, L[m] = s := ⟨_, rfl⟩
      have hen := enumB_at L pre.length (by omega)
      have hmm : L.length - 1 - pre.length = m := by omega
      simp only [hmm, hsx] at hen
      rw [hsx] at hs
      clear hsx
      obtain ⟨fn, tmps, assign, body, hy, hR⟩ := HY.out pre ⟨(m, s), hs⟩ wr HJ'.out (by omega)
      obtain ⟨b, off, rfl, hbl, cmm⟩ := HS.out.at m hm (by decide)
      have hcs := turns_at L m s hs
      obtain ⟨u0, cu0, cm0⟩ := cmm 0 (by decide)
      obtain ⟨u1, cu1, cm1⟩ := cmm 1 (by decide)
      rw [Nat.add_zero, hcs.1] at cu0
      rw [hcs.2] at cu1
      cases cu0
      cases cu1
      have cn0 : wr.cell? ⟨b, off + m * 2, none⟩ = some (ptr s.1) := (World.cell?_of_block (w := W) (w' := wr) (by first | exact HK.out.2 _ rfl | exact (HK.out.2 ⟨b, off, none⟩ rfl))).trans cm0
      have cn1 : wr.cell? ⟨b, off + m * 2 + 1, none⟩ = some (.int .i64 (s.2 : Int)) := (World.cell?_of_block (w := W) (w' := wr) (by first | exact HK.out.2 _ rfl | exact (HK.out.2 ⟨b, off, none⟩ rfl))).trans cm1
      simp only [ptr] at cn0
      clear cmm hcs cm0 cm1
      have hbw : wr.cell? ⟨bk, 0, none⟩ = some (.slice (some ⟨b, off, none⟩) L.length cap) := by rw [cell_of_row _ _ _ _ _ _ (HK.out.1.trans hbk)]; rfl
      have HPR : Hid ((pre ++ [(⟨(m, s), hs⟩ : En L)]).map (·.1) = (enumB L).take (pre.length + 1)) := hid (by
        rw [List.map_append, HP.out, List.take_add_one, hen]
        rfl)
      have e1 : ((m + 1 : Nat) : Int) - 1 = (m : Int) := by omega
      simp only [e1]
      have hm0 : (0 : Int) ≤ (m : Int) := by omega
      have hm1 : (m : Int) < (L.length : Int) := by omega
      clear HP hen hmm
      gi_wp2_with (refine ⟨fun h => (by cases h), hR.mono ?_⟩; clear hR hy; rintro e W3 (⟨rfl, hJ3, hk3⟩ | ⟨rfl, hJx3⟩))
      · gi_roundg m
        case rel => exact ⟨_, rfl, by simp; omega, by rw [List.length_append]; exact HPR, hid hJ3, hid (kpA_t HK.out hk3)⟩
        case measure => omega
      · refine bodyPost_ret (v := .tuple #[]) (results_none rfl _ _ _) rfl ?_
        exact ⟨⟨_, rfl⟩, .inr ⟨_, by rw [HPR.out]; exact List.take_prefix _ _, hJx3⟩⟩

/-- 'Backward''s function value, called by a range. -/
theorem backT_stops (n bk : Nat) (a : Option Addr) (cap : Nat) (L : List (Nat × Nat)) (w : World) (hbk : w.heap[bk]? = some (.cells #[.slice a L.length cap] 58 (0, 0)))
    (hsh : Rw w 2 (.slice a L.length cap) L.length (turnC L)) :
    SeqStopsK Fence.wide n Try.prog 57 #[.pointer (some ⟨bk, 0, none⟩)] (fun x : En L => #[.int .i64 (x.1.1 : Int), .agg #[.pointer (some ⟨x.1.2.1, 0, none⟩), .int .i64 (x.1.2.2 : Int)]]) (KpA bk a) (fun ys => ys.map (·.1) = enumB L) (fun pre => pre.map (·.1) <+: enumB L) L.length w :=
  fun l J Jx W hW _ _ hY h0 =>
    backT1_in n l bk a cap L J Jx hY W ((hW.block bk (block_lt hbk)).trans hbk) (hsh.new hW) h0
end Go.Proofs.Ytjfipejfejmlaaa
