/- Contract of page.tell: a page's leaves come, from the first to the last. -/
import Derived.Test.YtjfipejfejmlaaaBtTellsE
import Derived.Test.YtjfipejfejmlaaaBtOps
namespace Go.Proofs.Ytjfipejfejmlaaa
open Go.RowKit Go.Shelf
set_option linter.unusedVariables false
set_option linter.unusedSimpArgs false
set_option maxRecDepth 20000
attribute [local go_sem] Oper.semAt_some

theorem lvs_lies {K : Nat → Prop} {w : World} : ∀ {h : Nat} {p : Pg h}, Lies (h + 1) K w p → ∀ q ∈ lvs h p, Lies 1 K w q
  | 0, p, hl, q, hq => by rw [List.mem_singleton.1 hq]; exact hl
  | h + 1, p, hl, q, hq => by
    obtain ⟨x, hx, hq⟩ := List.mem_flatMap.1 hq
    exact lvs_lies ((lies_pg.1 hl).2.2 x hx) q hq

theorem Ctx.earlier_flat : ∀ {h : Nat} (c : Ctx h), c.earlier.flatMap (fun q => (q.es : List EntV)) = c.before
  | _, .top => rfl
  | h, .down pb sv fv pre post up => by
    simp only [Ctx.earlier, Ctx.before, List.flatMap_append, Ctx.earlier_flat up, List.flatMap_assoc, flatL]
    congr 1
    exact congrArg (fun f => List.flatMap f pre) (funext fun q => lvs_flat h q)

theorem prefix_at {α : Type} {E a b c : List α} {j : Nat} (h : (a ++ b ++ c) <+: E.drop j) : b <+: E.drop (j + a.length) := by
  obtain ⟨t, ht⟩ := h
  refine ⟨c ++ t, ?_⟩
  rw [← List.drop_drop, ← ht]
  simp

/-- What listens, for one that tells. -/
def Listens (l B : Nat) (E : List (Pg 0)) (Kp : World → World → Prop) (J Jx : Nat → World → Prop) : Prop :=
  ∀ (m k : Nat) (x : Pg 0) (W : World), J k W → E[k]? = some x → YieldAt Fence.wide m Try.prog l #[.pointer (some ⟨x.pb, 0, none⟩)] W fun e W' =>
    ((e = .returned (.bool true) ∧ J (k + 1) W' ∧ Kp W W') ∨ (e = .returned (.bool false) ∧ Jx (k + 1) W')) ∧ KeepsFrom B W W'

set_option maxHeartbeats 4000000 in
theorem tell_in (l B : Nat) {K : Nat → Prop} (w₀ : World) {E : List (Pg 0)} {Kp : World → World → Prop} {J Jx : Nat → World → Prop} (hKr : ∀ W, Kp W W) (hKt : ∀ {X Y Z : World}, Kp X Y → Kp Y Z → Kp X Z)
    (hKb : ∀ {W W' : World}, Kp W W' → Below w₀.heap.size w₀ W → Below w₀.heap.size w₀ W') (hY : Listens l B E Kp J Jx) :
    ∀ (h : Nat) (p : Pg h), OkE (h + 1) p → Lies (h + 1) K w₀ p → ∀ (n j : Nat) (W : World), Below w₀.heap.size w₀ W → J j W → lvs h p <+: E.drop j →
      CallsIn Fence.wide n Try.prog 54 #[.pointer (some ⟨p.pb, 0, none⟩), .func (.yield l) #[] #[]] W fun e W' =>
        ((e = .returned (.bool true) ∧ J (j + (lvs h p).length) W' ∧ Kp W W') ∨ (e = .returned (.bool false) ∧ ∃ k, k ≤ E.length ∧ Jx k W')) ∧ KeepsFrom B W W' := by
  intro h
  induction h with
  | zero =>
    intro p hok hl n j W hb hJ hpre
    have hat := (lies_pg.1 (hl.new hb)).1
    have c1 : W.cell? ⟨p.pb, 1, none⟩ = some (.slice none 0 0) := by rw [cell_of_row _ _ _ _ _ _ hat.blk]; rfl
    have hx : E[j]? = some p := by
      obtain ⟨t, ht⟩ := hpre
      have := congrArg (fun z => z[0]?) ht
      simp [lvs, List.getElem?_drop] at this
      exact this.symm
    have hjl := (List.getElem?_eq_some_iff.1 hx).1
    obtain ⟨fn, tmps, assign, body, hy, hR⟩ := hY (n - 1) j p W hJ hx
    have hlv : (lvs 0 p).length = 1 := rfl
    rw [hlv]
    generalize p.pb = pb at *
    clear hY hat hx hpre
    refine callsIn_of_wp Try.func54 rfl trivial ?_ rfl
    simp only [Try.ntmps54, List.size_toArray, List.length_cons, List.length_nil, Nat.reduceAdd, Nat.reduceSub, Array.replicate_succ, Array.replicate_zero, List.push_toArray, List.append_toArray, List.nil_append, List.cons_append]
    gi_wp2_with (refine ⟨fun h => (by cases h), hR.mono ?_⟩; clear hR hy; rintro e W3 ⟨(⟨rfl, hJ3, hk3⟩ | ⟨rfl, hJx3⟩), hkf⟩)
    · go_ret
      exact ⟨.inl ⟨rfl, hJ3, hk3⟩, hkf⟩
    · go_ret
      exact ⟨.inr ⟨rfl, j + 1, by omega, hJx3⟩, hkf⟩
  | succ h ih =>
    intro p hok hl n j W hb hJ hpre
    obtain ⟨hk2, hk4, hks⟩ := okE_pg.1 hok
    obtain ⟨hat0, _, hls⟩ := lies_pg.1 hl
    have hat := (lies_pg.1 (hl.new hb)).1
    obtain ⟨ab, cb, hsv⟩ := row_slice hat.row
    have c1 : W.cell? ⟨p.pb, 1, none⟩ = some (.slice ab p.es.length cb) := by rw [cell_of_row _ _ _ _ _ _ hat.blk, hsv]; rfl
    have hrw := rw_of_owns hat0.row (by rw [rowC_pg]; intro u hu; obtain ⟨q, _, rfl⟩ := List.mem_map.1 hu; rfl)
    rw [hsv] at hrw
    have HRW := hid hrw
    have HPRE := hid hpre
    have HIH := hid ih
    have HKS := hid hks
    have HLS := hid hls
    have HB := hid hb
    have HJ := hid hJ
    have HOUT : Hid (∀ k : Nat, k = p.es.length → (((p.es : List (Pg h)).take k).flatMap (lvs h)).length = (lvs (h + 1) p).length) := hid (fun k e => by rw [e, List.take_length]; rfl)
    have hne : ¬ ((p.es.length : Int) = 0) := by omega
    have hned : decide ((p.es.length : Int) = 0) = false := by simpa using hne
    have hneb : ((p.es.length : Int) == 0) = false := by simpa using hne
    generalize hpb : p.pb = pb at *
    clear ih hks hls hat hat0 hsv hok hl hrw hpre hb hJ hY
    refine callsIn_of_wp Try.func54 rfl trivial ?_ rfl
    simp only [Try.ntmps54, List.size_toArray, List.length_cons, List.length_nil, Nat.reduceAdd, Nat.reduceSub, Array.replicate_succ, Array.replicate_zero, List.push_toArray, List.append_toArray, List.nil_append, List.cons_append]
    gi_wp2
    gi_loopg [21] p.es.length (fun kx s21 wr => ∃ k : Nat, k + kx = p.es.length ∧ s21 = .int .i64 (k : Int) ∧ Hid (J (j + (((p.es : List (Pg h)).take k).flatMap (lvs h)).length) wr) ∧ Hid (Kp W wr) ∧ Hid (KeepsFrom B W wr))
    case atStart => exact ⟨0, by omega, rfl, hid (by rw [List.take_zero]; exact HJ.out), hid (hKr _), hid (KeepsFrom.refl _ _)⟩
    case round =>
      obtain ⟨k, hkk, rfl, HJ', HK, HF⟩ := hrel
      by_cases hk : gk = 0
      · subst hk
        have hke : k = p.es.length := by omega
        have HJ2 : Hid (J (j + (lvs (h + 1) p).length) wr) := hid (by rw [← HOUT.out k hke]; exact HJ'.out)
        have hki : ¬ ((k : Int) < (p.es.length : Int)) := by omega
        subst hke
        gi_wp2
        go_ret
        exact ⟨.inl ⟨rfl, HJ2.out, HK.out⟩, HF.out⟩
      · obtain ⟨m, rfl⟩ : ∃ m, gk = m + 1 := ⟨gk - 1, by omega⟩
        have hkl : k < p.es.length := by omega
        have hki : ((k : Int) < (p.es.length : Int)) := by omega
        have hk0 : (0 : Int) ≤ (k : Int) := by omega
        have hq : (p.es : List (Pg h))[k]? = some (p.es : List (Pg h))[k] := List.getElem?_eq_getElem hkl
        obtain ⟨q, hqq⟩ : ∃ q, (p.es : List (Pg h))[k] = q := ⟨_, rfl⟩
        rw [hqq] at hq
        have hqm := List.mem_of_getElem? hq
        have HBW := hid (hKb HK.out HB.out)
        obtain ⟨b, off, rfl, cm0⟩ := (HRW.out.new HBW.out).one k (ptr q.pb) (by rw [rowC_pg, List.getElem?_map, hq]; rfl)
        simp only [ptr] at cm0
        have hadd : (((p.es : List (Pg h)).take (k + 1)).flatMap (lvs h)).length = (((p.es : List (Pg h)).take k).flatMap (lvs h)).length + (lvs h q).length := by
          rw [List.take_add_one, hq, List.flatMap_append, List.length_append]
          simp
        have hpx : lvs h q <+: E.drop (j + (((p.es : List (Pg h)).take k).flatMap (lvs h)).length) := by
          refine prefix_at (c := ((p.es : List (Pg h)).drop (k + 1)).flatMap (lvs h)) ?_
          have e : (p.es : List (Pg h)) = (p.es : List (Pg h)).take k ++ q :: (p.es : List (Pg h)).drop (k + 1) := by
            rw [← hqq, ← List.drop_eq_getElem_cons hkl, List.take_append_drop]
          have e2 : lvs (h + 1) p = ((p.es : List (Pg h)).take k).flatMap (lvs h) ++ lvs h q ++ ((p.es : List (Pg h)).drop (k + 1)).flatMap (lvs h) := by
            show (p.es : List (Pg h)).flatMap (lvs h) = _
            conv => lhs; rw [e]
            simp
          rw [← e2]
          exact HPRE.out
        have HT := HIH.out q (HKS.out q hqm) (HLS.out q hqm) (n - 1) (j + (((p.es : List (Pg h)).take k).flatMap (lvs h)).length) wr HBW.out HJ'.out hpx
        have HADD := hid hadd
        generalize q.pb = qb at *
        clear hadd hpx hq hqm hqq
        gi_wp2_with (refine ⟨trivial, fun h => (by cases h), ?_⟩; gi_at_call 54; refine HT.mono ?_; clear HT; rintro e W3 ⟨(⟨rfl, hJ3, hk3⟩ | ⟨rfl, hJx3⟩), hkf⟩)
        · gi_roundg m
          case rel => exact ⟨k + 1, by omega, by first | rfl | go_num, hid (by rw [HADD.out, ← Nat.add_assoc]; exact hJ3), hid (hKt HK.out hk3), hid (HF.out.trans hkf)⟩
          case measure => omega
        · go_ret
          exact ⟨.inr ⟨rfl, hJx3⟩, HF.out.trans hkf⟩
end Go.Proofs.Ytjfipejfejmlaaa
