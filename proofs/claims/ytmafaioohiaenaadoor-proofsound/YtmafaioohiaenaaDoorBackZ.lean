/- slices.Backward over steps: an iterator. -/
import Derived.Test.YtmafaioohiaenaaDoorTxF
namespace Go.Proofs.YtmafaioohiaenaaDoor
open Go.RowKit Go.Shelf
set_option linter.unusedVariables false
set_option linter.unusedSimpArgs false
set_option maxRecDepth 20000
attribute [local go_sem] Oper.semAt_some

theorem oper_wide {n : Nat} {P : Program} {o : Oper} {a : Act} {w : World} {K : Act → World → Prop} {Q : Exit → Act → World → Prop} (hd : ∀ c, o.op ≠ .defer c) (h : o.wp P a w K Q) : o.wpIn Fence.wide n P a w K Q := by
  unfold Oper.wp at h
  unfold Oper.wpIn
  refine ⟨fun _ _ => trivial, ?_⟩
  rw [show Fence.wide.round = none from rfl]
  rw [show o.semAt none a.eval = execOp a.eval o from rfl]
  generalize (execOp a.eval o).run P w = r at *
  cases r with
  | ok x w' =>
    cases x <;> simp only [Oper.upon, Oper.uponIn] at h ⊢
    case value v => exact h
    case skip => exact h
    case defer d => exact h
    case enter f args => exact ⟨fun h => (by cases h), callsIn_wide.2 h⟩
    case row row args => exact ⟨fun h => (by cases h), rowsIn_wide h⟩
  | halt x w' =>
    cases x <;> simp only [Oper.upon, Oper.uponIn] at h ⊢
    case panic v => exact h

theorem listIn_op {n : Nat} {P : Program} {ops : Array Oper} {rest : List Oper} {o : Oper} {a : Act} {w : World} {Q : Exit → Act → World → Prop} (hw : Region.wanted o (yielded ops a.tmps) = true) (hd : ∀ c, o.op ≠ .defer c)
    (h : o.wp P a w (wpListIn Fence.wide n P ops Q rest) Q) : wpListIn Fence.wide n P ops Q (o :: rest) a w := by
  unfold wpListIn
  rw [if_pos hw]
  exact oper_wide hd h

theorem listRound_op {l n : Nat} {P : Program} {ops : Array Oper} {rest : List Oper} {o : Oper} {a : Act} {w : World} {Q : Exit → Act → World → Prop} (hw : Region.wanted o (yielded ops a.tmps) = true) (hd : ∀ c, o.op ≠ .defer c)
    (h : o.wp P a w (wpListIn (Fence.wide.inRound l) n P ops Q rest) Q) : wpListIn (Fence.wide.inRound l) n P ops Q (o :: rest) a w := by
  unfold wpListIn
  rw [if_pos hw]
  exact oper_in_round hd h

theorem wp_load_z {P : Program} {o : Oper} {a : Act} {w : World} {K : Act → World → Prop} {Q : Exit → Act → World → Prop} (ty : TypeId) (x : Operand) (ho : o.op = .load ty x)
    (q : Addr) (hx : a.eval x = .pointer (some q)) (A : Array Value) (hr : (loadVar ty q).run P w = .ok (.agg A) w) (h : K (a.put o.dst (.agg A)) w) : o.wp P a w K Q := by
  unfold Oper.wp execOp
  simp only [ho, hx, Instr.loadAt, Instr.sureAddr, Sem.run_bind, Sem.run_pure, Result.andThen_ok, hr]
  exact h

/-- A step, and where it stands. -/
abbrev Zi (L : List Zst) : Type := { x : Nat × Zst // L[x.1]? = some x.2 }

set_option maxHeartbeats 2000000 in
theorem back_any (a : Option Addr) (len cap : Nat) (w : World) :
    Calls Tryd.prog 46 #[.slice a len cap] w fun e w' => e = .returned (.func (.func 79) #[] #[.pointer (some ⟨w.heap.size, 0, none⟩)]) ∧ w' = w.alloc (.cells #[.slice a len cap] 27) := by
  go_enter Tryd.func46, Tryd.ntmps46
  go_wp2
  go_ret
  exact ⟨rfl, rfl⟩

/-- The steps that have been told. -/
def toldZ {L : List Zst} (pre : List (Zi L)) : List Zst := pre.map fun x => x.1.2

theorem toldZ_snoc {L : List Zst} (pre : List (Zi L)) (x : Zi L) : toldZ (pre ++ [x]) = toldZ pre ++ [x.1.2] := by simp [toldZ]

set_option maxHeartbeats 4000000 in
theorem back1_in (n l bk n₀ : Nat) (a : Option Addr) (cap : Nat) (L : List Zst) (J Jx : List (Zi L) → World → Prop)
    (hY : ∀ (pre : List (Zi L)) (x : Zi L) (W : World), J pre W → pre.length < L.length → YieldAt Fence.wide (n - 1) Tryd.prog l #[.int .i64 (x.1.1 : Int), .agg (zc x.1.2).toArray] W fun e W' =>
      (e = .returned (.bool true) ∧ J (pre ++ [x]) W' ∧ KpB n₀ bk W W') ∨ (e = .returned (.bool false) ∧ Jx (pre ++ [x]) W'))
    (W : World) (hbk : W.heap[bk]? = some (.cells #[.slice a L.length cap] 27 (0, 0))) (hsh : Stps n₀ W (.slice a L.length cap) L)
    (hA : AbidesFrom W.heap.size J) (h0 : J [] W) :
    CallsIn Fence.wide n Tryd.prog 79 #[.func (.yield l) #[] #[], .pointer (some ⟨bk, 0, none⟩)] W fun e W' => (∃ v, e = .returned v) ∧
      ((∃ ys : List (Zi L), toldZ ys = L.reverse ∧ J ys W') ∨ (∃ pre : List (Zi L), toldZ pre <+: L.reverse ∧ Jx pre W')) := by
  have hbc : W.cell? ⟨bk, 0, none⟩ = some (.slice a L.length cap) := by rw [cell_of_row _ _ _ _ _ _ hbk]; rfl
  obtain ⟨_, _, e, hc1, hc2⟩ := hsh.form
  simp only [Value.slice.injEq] at e
  obtain ⟨rfl, _, rfl⟩ := e
  unfold maxLen at hc2
  have HY := hid hY
  have HJ := hid h0
  have HS := hid hsh
  clear hY h0 hA hsh
  refine callsIn_of_wp Tryd.func79 rfl trivial ?_ rfl
  simp only [Tryd.ntmps79, List.size_toArray, List.length_cons, List.length_nil, Nat.reduceAdd, Nat.reduceSub, Array.replicate_succ, Array.replicate_zero, List.push_toArray, List.append_toArray, List.nil_append, List.cons_append]
  gi_wp2
  gi_loopg [3] L.length (fun kx s3 wr => ∃ (pre : List (Zi L)), s3 = .int .i64 ((kx : Int) - 1) ∧ pre.length + kx = L.length ∧ Hid (toldZ pre = L.reverse.take pre.length) ∧ Hid (J pre wr) ∧ Hid (KpB n₀ bk W wr))
  case atStart => exact ⟨[], rfl, by simp, hid rfl, HJ, hid ⟨Below.refl _ _, rfl⟩⟩
  case round =>
    obtain ⟨pre, rfl, hlen, HP, HJ', HK⟩ := hrel
    by_cases hk : gk = 0
    · subst hk
      have HP2 : Hid (toldZ pre = L.reverse) := hid (by rw [HP.out, List.take_of_length_le (by simp; omega)])
      gi_wp2
      go_end0
      exact ⟨⟨_, rfl⟩, .inl ⟨pre, HP2.out, HJ'.out⟩⟩
    · obtain ⟨m, rfl⟩ : ∃ m, gk = m + 1 := ⟨gk - 1, by omega⟩
      have hm : m < L.length := by omega
      have hs := List.getElem?_eq_getElem hm
      obtain ⟨s, hsx⟩ : ∃ s, L[m] = s := ⟨_, rfl⟩
      rw [hsx] at hs
      clear hsx
      obtain ⟨fn, tmps, assign, body, hy, hR⟩ := HY.out pre ⟨(m, s), hs⟩ wr HJ'.out (by omega)
      obtain ⟨b, off, rfl, hbB, hok, hld⟩ := HS.out.at m s hs
      have hl := hld wr HK.out.1
      have hbw : wr.cell? ⟨bk, 0, none⟩ = some (.slice (some ⟨b, off, none⟩) L.length cap) := by rw [cell_of_row _ _ _ _ _ _ (HK.out.2.trans hbk)]; rfl
      have HPR : Hid (toldZ (pre ++ [(⟨(m, s), hs⟩ : Zi L)]) = L.reverse.take (pre.length + 1)) := hid (by
        rw [toldZ_snoc, HP.out]
        have : L.reverse[pre.length]? = some s := by
          rw [List.getElem?_reverse (by omega), show L.length - 1 - pre.length = m by omega]
          exact hs
        rw [List.take_add_one, this]
        rfl)
      have e1 : ((m + 1 : Nat) : Int) - 1 = (m : Int) := by omega
      simp only [e1]
      have hm0 : (0 : Int) ≤ (m : Int) := by omega
      have hm1 : (m : Int) < (L.length : Int) := by omega
      generalize (zc s).toArray = A at *
      clear hld HS HP
      gi_wp2_with (first
        | (refine listIn_op rfl (fun c h => by cases h) (wp_load_z 66 (.tmp 15) rfl ⟨b, off + m * 34, none⟩ rfl A hl ?_))
        | (refine ⟨fun h => (by cases h), hR.mono ?_⟩; clear hR hy; rintro e W3 (⟨rfl, hJ3, hk3⟩ | ⟨rfl, hJx3⟩)))
      · gi_roundg m
        case rel => exact ⟨_, rfl, by simp; omega, by rw [List.length_append]; exact HPR, hid hJ3, hid (kpB_t HK.out hk3)⟩
        case measure => omega
      · refine bodyPost_ret (v := .tuple #[]) (results_none rfl _ _ _) rfl ?_
        exact ⟨⟨_, rfl⟩, .inr ⟨_, by rw [HPR.out]; exact List.take_prefix _ _, hJx3⟩⟩

/-- 'Backward''s function value, called by a range. -/
theorem back_stops (n bk n₀ : Nat) (a : Option Addr) (cap : Nat) (L : List Zst) (w : World) (hbk : w.heap[bk]? = some (.cells #[.slice a L.length cap] 27 (0, 0)))
    (hsh : Stps n₀ w (.slice a L.length cap) L) (hn : n₀ ≤ w.heap.size) :
    SeqStopsK Fence.wide n Tryd.prog 79 #[.pointer (some ⟨bk, 0, none⟩)] (fun x : Zi L => #[.int .i64 (x.1.1 : Int), .agg (zc x.1.2).toArray]) (KpB n₀ bk) (fun ys => toldZ ys = L.reverse) (fun pre => toldZ pre <+: L.reverse) L.length w :=
  fun l J Jx W hW hA _ hY h0 =>
    back1_in n l bk n₀ a cap L J Jx hY W ((hW.block bk (Array.getElem?_eq_some_iff.1 hbk).1).trans hbk) (hsh.below (hW.mono hn)) hA h0
end Go.Proofs.YtmafaioohiaenaaDoor
