/- Contracts of value.Row and value.TakeRow. -/
import Derived.Test.YtlcoeoilakobjaaDoorVTake
namespace Go.Proofs.YtlcoeoilakobjaaDoor
open Go.RowKit
set_option linter.unusedVariables false
set_option linter.unusedSimpArgs false
set_option maxRecDepth 20000

/-- WHAT A SLICE OF VALUES SHOWS: where there are some they lie in a block below B. -/
def Vals (B : Nat) (w : World) (v : Value) (xs : List Vl) : Prop :=
  ∃ a c, v = .slice a xs.length c ∧ xs.length ≤ c ∧ c ≤ maxLen ∧ (a = none → c = 0) ∧
    (xs ≠ [] → ∃ b off, a = some ⟨b, off, none⟩ ∧ b < B ∧ ∀ j x, xs[j]? = some x → w.cell? ⟨b, off + j * 3, none⟩ = some (.int .i64 x.k) ∧ w.cell? ⟨b, off + j * 3 + 1, none⟩ = some (.int .i64 x.n) ∧ w.cell? ⟨b, off + j * 3 + 2, none⟩ = some (.string (str8 x.s)))

theorem Vals.below {B : Nat} {w w' : World} {v : Value} {xs : List Vl} (h : Vals B w v xs) (hb : Below B w w') : Vals B w' v xs := by
  obtain ⟨a, c, hv, h1, h2, hn, h3⟩ := h
  refine ⟨a, c, hv, h1, h2, hn, fun hne => ?_⟩
  obtain ⟨b, off, ha, hlt, hc⟩ := h3 hne
  refine ⟨b, off, ha, hlt, fun j x hx => ?_⟩
  obtain ⟨c0, c1, c2⟩ := hc j x hx
  exact ⟨(hb.cell (p := ⟨b, off + j * 3, none⟩) hlt).trans c0, (hb.cell (p := ⟨b, off + j * 3 + 1, none⟩) hlt).trans c1, (hb.cell (p := ⟨b, off + j * 3 + 2, none⟩) hlt).trans c2⟩

theorem Vals.mono {B B' : Nat} {w : World} {v : Value} {xs : List Vl} (h : Vals B w v xs) (hB : B ≤ B') : Vals B' w v xs := by
  obtain ⟨a, c, hv, h1, h2, hn, h3⟩ := h
  refine ⟨a, c, hv, h1, h2, hn, fun hne => ?_⟩
  obtain ⟨b, off, ha, hlt, hc⟩ := h3 hne
  exact ⟨b, off, ha, by omega, hc⟩

theorem owns_on {w w' : World} {B e z n : Nat} {v : Value} {xs : List Value} (h : w.ownsRow B e z v n xs) (hb : Below w.heap.size w w') : w'.ownsRow B e z v n xs :=
  h.kept (grown_of_below hb) (by cases v.ownBlock <;> simp)

/-- The cells of values, one behind another. -/
def vcs (xs : List Vl) : List Value := xs.flatMap vc

theorem vcs_length (xs : List Vl) : (vcs xs).length = xs.length * 3 := by
  induction xs with
  | nil => rfl
  | cons x xs ih => rw [show vcs (x :: xs) = vc x ++ vcs xs from rfl, List.length_append, ih]; simp [vc]; omega

theorem vcs_at : ∀ (xs : List Vl) (j : Nat) (x : Vl), xs[j]? = some x → (vcs xs)[j * 3]? = some (.int .i64 x.k) ∧ (vcs xs)[j * 3 + 1]? = some (.int .i64 x.n) ∧ (vcs xs)[j * 3 + 2]? = some (.string (str8 x.s))
  | y :: xs, 0, x, h => by
    simp only [List.getElem?_cons_zero, Option.some.injEq] at h
    subst h
    exact ⟨rfl, rfl, rfl⟩
  | y :: xs, j + 1, x, h => by
    have ih := vcs_at xs j x (by simpa using h)
    rw [show vcs (y :: xs) = vc y ++ vcs xs from rfl]
    have e : ∀ i, (vc y ++ vcs xs)[(j + 1) * 3 + i]? = (vcs xs)[j * 3 + i]? := fun i => by
      rw [List.getElem?_append_right (by simp [vc]; omega)]
      congr 1
      simp [vc]
      omega
    exact ⟨(e 0).trans ih.1, (e 1).trans ih.2.1, (e 2).trans ih.2.2⟩

theorem vals_of_owns {w : World} {B n : Nat} {v : Value} {xs : List Vl} (h : w.ownsRow B 23 3 v n (vcs xs)) : n = xs.length ∧ Vals w.heap.size w v xs := by
  have hl : n = xs.length := by have := h.1; rw [vcs_length] at this; omega
  subst hl
  refine ⟨rfl, ?_⟩
  have hc := h
  rcases h.2 with ⟨rfl, hn⟩ | ⟨g, cap, cur, rfl, hb, hg, hnc, hcm, hcs, ht⟩
  · exact ⟨none, 0, by rw [hn], by omega, by unfold maxLen; omega, fun _ => rfl, fun hne => absurd (List.eq_nil_of_length_eq_zero hn) hne⟩
  · refine ⟨_, cap, rfl, hnc, hcm, (fun e => by cases e), fun _ => ⟨g, 0, rfl, (Array.getElem?_eq_some_iff.1 hg).1, fun j x hx => ?_⟩⟩
    have k := hc.cells (g := g) rfl
    have at' : ∀ i u, (vcs xs)[i]? = some u → w.cell? ⟨g, i, none⟩ = some u := fun i u hi => by
      have := k i u hi
      rwa [Addr.add_lit, Nat.zero_add] at this
    obtain ⟨c0, c1, c2⟩ := vcs_at xs j x hx
    rw [Nat.zero_add]
    exact ⟨at' _ _ c0, at' _ _ c1, at' _ _ c2⟩

/-- The first error of values. -/
def rowE : List Vl → Nat
  | [] => 0
  | x :: r => if rightV x ≠ 0 then rightV x else rowE r

def rowK (xs : List Vl) : List UInt8 := xs.flatMap keyV

/-- Row's answer: the error, the bytes. -/
def rowV (xs : List Vl) : Nat × List UInt8 := if 8 < xs.length then (2, []) else if rowE xs ≠ 0 then (rowE xs, []) else (0, rowK xs)

theorem keyV_le {x : Vl} (h : rightV x = 0) : (keyV x).length ≤ 100 := by
  have hs := (rightV_cases h).1
  unfold keyV
  split
  · simp [be_length]
  · split
    · have := tkey_le x.s; simp; omega
    · simp

theorem drop_cons {α : Type} (xs : List α) (k : Nat) (x : α) (h : xs[k]? = some x) : xs.drop k = x :: xs.drop (k + 1) := by
  obtain ⟨hk, e⟩ := List.getElem?_eq_some_iff.1 h
  rw [List.drop_eq_getElem_cons hk, e]

theorem take_snoc {α : Type} (xs : List α) (k : Nat) (x : α) (h : xs[k]? = some x) : xs.take (k + 1) = xs.take k ++ [x] := by
  obtain ⟨hk, e⟩ := List.getElem?_eq_some_iff.1 h
  rw [List.take_succ_eq_append_getElem hk, e]

set_option maxHeartbeats 1000000 in
theorem vrow_any (B : Nat) (v : Value) (xs : List Vl) (w : World) (hB : B ≤ w.heap.size) (hV : Vals B w v xs) (hS : ∀ x ∈ xs, x.s.length ≤ 9223372036854775807) :
    Calls Tryd.prog 23 #[v] w fun e w' => ∃ v', e = .returned (.tuple #[v', .int .i64 (rowV xs).1]) ∧ w'.ownsRow w.heap.size 5 1 v' (rowV xs).2.length ((rowV xs).2.map by8) ∧ Below w.heap.size w w' := by
  obtain ⟨a, c, rfl, h1, h2, hn, h3⟩ := id hV
  unfold maxLen at h2
  by_cases h8 : 8 < xs.length
  · have hr : rowV xs = (2, []) := if_pos h8
    rw [hr]
    have h8' : (8 : Int) < (xs.length : Int) := by omega
    go_enter Tryd.func23, Tryd.ntmps23
    go_wp2
    go_ret2
    exact ⟨_, rfl, World.ownsRow_nil _ _ _ _, Below.refl _ _⟩
  · have h8' : ¬ ((8 : Int) < (xs.length : Int)) := by omega
    have hr : rowV xs = if rowE xs ≠ 0 then (rowE xs, []) else (0, rowK xs) := if_neg h8
    have HR := hid hr
    have HV := hid hV
    have HS := hid hS
    clear hr hV h3 hn hS
    go_enter Tryd.func23, Tryd.ntmps23
    go_wp2_with fail
    go_loopw [4, 13] (fun l i wr => ∃ (k : Nat), k ≤ xs.length ∧ i = .int .i64 k ∧ (rowK (xs.take k)).length ≤ 100 * k ∧ wr.ownsRow w.heap.size 5 1 l (rowK (xs.take k)).length ((rowK (xs.take k)).map by8) ∧ Below w.heap.size w wr ∧ Hid (rowE xs = rowE (xs.drop k))) (fun _ i _ => xs.length - (intOf i).toNat)
    case atStart => exact ⟨0, Nat.zero_le _, rfl, by simp [rowK], by simpa [rowK] using World.ownsRow_nil _ _ _ _, Below.refl _ _, hid rfl⟩
    case round =>
      obtain ⟨k, hk, rfl, hkl, hown, hbel, hE⟩ := hrel
      have hszr := hbel.size
      by_cases hlt : k < xs.length
      · obtain ⟨x, hx⟩ : ∃ x, xs[k]? = some x := ⟨_, List.getElem?_eq_getElem hlt⟩
        have hvr := HV.out.below (hbel.mono hB)
        obtain ⟨a', c', hv', _, _, _, h3⟩ := hvr
        simp only [Value.slice.injEq] at hv'
        obtain ⟨rfl, _, rfl⟩ := hv'
        obtain ⟨b, off, rfl, hbB, hcell⟩ := h3 (by intro e; rw [e] at hlt; simp at hlt)
        obtain ⟨c0, c1, c2⟩ := hcell k x hx
        have hxs := HS.out x (List.mem_of_getElem? hx)
        have hd := drop_cons xs k x hx
        have ht := take_snoc xs k x hx
        rw [hd] at hE
        have ht2 : rowK (xs.take (k + 1)) = rowK (xs.take k) ++ keyV x := by rw [ht]; simp [rowK]
        have HT := hid ht2
        clear h3 hcell hd ht ht2 hx
        obtain ⟨xk, xn, xt⟩ := x
        dsimp only at c0 c1 c2 hxs
        go_wp2_with fail
        obtain ⟨W, hW, hbW, hzW, hcW⟩ := box3 wr (.int .i64 xk) (.int .i64 xn) (.string (str8 xt)) 23
        have hownW := hown.alloc (.cells #[.int .i64 xk, .int .i64 xn, .string (str8 xt)] 23)
        rw [hW] at hownW ⊢
        have hbelW : Below w.heap.size w W := hbel.trans (hbW.mono hszr)
        have hszW : w.heap.size ≤ W.heap.size := hbelW.size
        have HC := hid hcW
        clear hW hown hcW hbW c0 c1 c2
        refine (right_any xk xn xt W hxs).mono ?_
        rintro e w2 ⟨rfl, hb2⟩
        have hsz2 := hb2.size
        have hown2 := owns_on hownW hb2
        have c2 := HC.out _ hb2
        have hbel2 := hbelW.trans (hb2.mono hszW)
        clear hb2 hownW hbelW HC
        by_cases hr : rightV ⟨xk, xn, xt⟩ = 0
        · rw [hr]
          have hkl2 := keyV_le hr
          have HA := hid (appendKey_any w.heap.size _ _ _ xk xn xt w2 (by omega) hown2 hr (by omega))
          have hE2 : rowE xs = rowE (xs.drop (k + 1)) := by rw [hE.out, rowE, if_neg (by simpa using hr)]
          have HE2 := hid hE2
          clear hE hE2 hr
          go_wp2_with fail
          refine HA.out.mono ?_
          rintro e w3 ⟨v3, rfl, hown3, hb3⟩
          go_wp2
          go_roundw
          case rel =>
            refine ⟨k + 1, by omega, by go_num, by rw [HT.out, List.length_append]; omega, ?_, hbel2.trans hb3, HE2⟩
            rw [HT.out, List.length_append, List.map_append]
            exact hown3
          case measure => simp [intOf]; omega
        · have hr' : (((rightV ⟨xk, xn, xt⟩ : Nat) : Int) == 0) = false := by rw [beq_eq_false_iff_ne]; omega
          have hE2 : rowE xs = rightV ⟨xk, xn, xt⟩ := by rw [hE.out, rowE, if_pos hr]
          have HF : Hid (rowV xs = (rightV ⟨xk, xn, xt⟩, [])) := hid (by rw [HR.out, hE2, if_pos hr])
          clear hE hE2 hr
          generalize rightV ⟨xk, xn, xt⟩ = R at *
          go_wp2
          go_ret2
          refine ⟨_, by rw [HF.out]; rfl, by rw [HF.out]; exact World.ownsRow_nil _ _ _ _, hbel2⟩
      · have hkn : k = xs.length := by omega
        have HE : Hid (rowV xs = (0, rowK xs)) := hid (by rw [HR.out, hE.out, hkn, List.drop_length]; rfl)
        have HT : Hid (xs.take k = xs) := hid (by rw [hkn, List.take_length])
        clear hE hkn
        go_wp2
        go_ret2
        refine ⟨_, by rw [HE.out]; rfl, ?_, hbel⟩
        rw [HE.out]
        rw [HT.out] at hown
        exact hown

/-- TakeRow's answer with n values left: the error, the values. -/
def trV : Nat → List UInt8 → Nat × List Vl
  | 0, bs => if bs = [] then (0, []) else (2, [])
  | n + 1, bs => if bs = [] then (0, []) else if (tkV bs).1 ≠ 0 then ((tkV bs).1, []) else if (trV n (bs.drop (tkV bs).2.2)).1 ≠ 0 then ((trV n (bs.drop (tkV bs).2.2)).1, []) else (0, (tkV bs).2.1 :: (trV n (bs.drop (tkV bs).2.2)).2)

/-- What has been gathered, and then the rest. -/
def thenV (acc : List Vl) (r : Nat × List Vl) : Nat × List Vl := if r.1 ≠ 0 then (r.1, []) else (0, acc ++ r.2)

theorem trV_nil (n : Nat) : trV n [] = (0, []) := by cases n <;> simp [trV]
theorem trV_full {bs : List UInt8} (h : bs ≠ []) : trV 0 bs = (2, []) := if_neg h
theorem thenV_err (acc : List Vl) (n : Nat) (bs : List UInt8) (h : bs ≠ []) (he : (tkV bs).1 ≠ 0) : thenV acc (trV (n + 1) bs) = ((tkV bs).1, []) := by
  rw [trV, if_neg h, if_pos he, thenV, if_pos he]
theorem thenV_next (acc : List Vl) (n : Nat) (bs : List UInt8) (h : bs ≠ []) (he : (tkV bs).1 = 0) : thenV acc (trV (n + 1) bs) = thenV (acc ++ [(tkV bs).2.1]) (trV n (bs.drop (tkV bs).2.2)) := by
  rw [trV, if_neg h, if_neg (by simpa using he)]
  by_cases h2 : (trV n (bs.drop (tkV bs).2.2)).1 = 0 <;> simp [thenV, h2]
theorem trV_errs : ∀ (n : Nat) (bs : List UInt8), (trV n bs).1 ≠ 0 → (trV n bs).2 = []
  | 0, bs => by unfold trV; split <;> simp
  | n + 1, bs => by
    unfold trV
    split
    · simp
    · split
      · simp
      · split <;> simp
theorem thenV_nil (r : Nat × List Vl) (h : r.1 ≠ 0 → r.2 = []) : thenV [] r = r := by
  obtain ⟨e, l⟩ := r
  unfold thenV
  by_cases h0 : e = 0
  · subst h0; simp
  · have := h h0
    dsimp only at this
    rw [if_pos h0, this]

theorem ttext_some (r : List UInt8) : (ttext r).1 ≤ 4 := by
  suffices ∀ n (r : List UInt8), r.length ≤ n → (ttext r).1 ≤ 4 from this r.length r (Nat.le_refl _)
  intro n
  induction n with
  | zero =>
    intro r h
    obtain rfl : r = [] := List.eq_nil_of_length_eq_zero (by omega)
    simp [ttext]
  | succ n ih =>
    intro r h
    match r, h with
    | [], _ => simp [ttext]
    | [c], _ =>
      by_cases hc : c = 0
      · subst hc; rw [ttext_end]; simp
      · rw [ttext_byte c [] hc]; simp [addText, ttext]
    | c :: d :: r, h =>
      simp only [List.length_cons] at h
      by_cases hc : c = 0
      · subst hc
        by_cases hd : d = 0
        · subst hd; rw [ttext_zero]; simp
        · by_cases h2 : d = 255
          · subst h2
            have := ih r (by omega)
            rw [ttext_esc]
            unfold addText
            split <;> simp <;> omega
          · rw [ttext_form d r hd h2]; simp
      · have := ih (d :: r) (by simp; omega)
        rw [ttext_byte c _ hc]
        unfold addText
        split <;> simp <;> omega

theorem tkV_used (bs : List UInt8) : (tkV bs).1 ≤ 4 ∧ (tkV bs).2.1.s.length ≤ 40 ∧ ((tkV bs).1 = 0 → 1 ≤ (tkV bs).2.2 ∧ (tkV bs).2.2 ≤ bs.length) := by
  match bs with
  | [] => simp [tkV, zV]
  | c :: r =>
    have hu := ttext_used r
    have he := ttext_some r
    by_cases h0 : c = 0
    · rw [show tkV (c :: r) = (0, zV, 1) from by rw [tkV, if_pos h0]]
      simp [zV]
    · by_cases h1 : c = 1
      · by_cases h8 : r.length < 8
        · rw [show tkV (c :: r) = (3, zV, 0) from by rw [tkV, if_neg h0, if_pos h1, if_pos h8]]
          simp [zV]
        · rw [show tkV (c :: r) = (0, ⟨1, i64of (num (r.take 8) + 9223372036854775808), []⟩, 9) from by rw [tkV, if_neg h0, if_pos h1, if_neg h8]]
          refine ⟨Nat.zero_le _, Nat.zero_le _, fun _ => ⟨by show 1 ≤ 9; decide, ?_⟩⟩
          show 9 ≤ r.length + 1
          omega
      · by_cases h2 : c = 2
        · by_cases he0 : (ttext r).1 = 0
          · by_cases hs : 40 < (ttext r).2.1.length
            · rw [show tkV (c :: r) = (2, zV, 0) from by rw [tkV, if_neg h0, if_neg h1, if_pos h2, if_neg (by simpa using he0), if_pos hs]]
              simp [zV]
            · rw [show tkV (c :: r) = (0, ⟨2, 0, (ttext r).2.1⟩, 1 + (ttext r).2.2) from by rw [tkV, if_neg h0, if_neg h1, if_pos h2, if_neg (by simpa using he0), if_neg hs]]
              refine ⟨Nat.zero_le _, ?_, fun _ => ⟨?_, ?_⟩⟩
              · show (ttext r).2.1.length ≤ 40
                omega
              · show 1 ≤ 1 + (ttext r).2.2
                omega
              · show 1 + (ttext r).2.2 ≤ r.length + 1
                omega
          · rw [show tkV (c :: r) = ((ttext r).1, zV, 0) from by rw [tkV, if_neg h0, if_neg h1, if_pos h2, if_pos he0]]
            exact ⟨he, Nat.zero_le _, fun e => absurd e he0⟩
        · rw [show tkV (c :: r) = (4, zV, 0) from by rw [tkV, if_neg h0, if_neg h1, if_neg h2]]
          simp [zV]

theorem Tryd.infoVal : (Tryd.prog.info? 23).map (fun i => (i.zero, i.size, i.bytes)) = some (some (.agg #[.int .i64 0, .int .i64 0, .string ⟨#[]⟩]), 3, 32) := by kernel_rfl

theorem three_cells (w : World) (a b c : Value) (e : TypeId) : ∀ (j : Nat) (u : Value), [a, b, c][j]? = some u → (w.alloc (.cells #[a, b, c] e)).cell? ((⟨w.heap.size, 0, none⟩ : Addr).add j) = some u := by
  intro j u hj
  match j, hj with
  | 0, hj => simp at hj; subst hj; simp [Addr.add]
  | 1, hj => simp at hj; subst hj; simp [Addr.add]
  | 2, hj => simp at hj; subst hj; simp [Addr.add]

theorem three_at (w : World) (g : Nat) (hg : w.heap.size = g) (a b c : Value) (e : TypeId) : ∀ (j : Nat) (u : Value), [a, b, c][j]? = some u → (w.alloc (.cells #[a, b, c] e)).cell? ((⟨g, 0, none⟩ : Addr).add j) = some u := by
  subst hg
  exact three_cells w a b c e

set_option maxHeartbeats 1000000 in
theorem vtakeRow_any (B0 : Nat) (v : Value) (bs : List UInt8) (w : World) (hB : B0 ≤ w.heap.size) (hsh : Shows B0 w v bs) (hl : bs.length ≤ 140737488351232) :
    Calls Tryd.prog 24 #[v] w fun e w' => ∃ v', e = .returned (.tuple #[v', .int .i64 (trV 8 bs).1]) ∧ w'.ownsRow w.heap.size 23 3 v' (trV 8 bs).2.length (vcs (trV 8 bs).2) ∧ Below w.heap.size w w' := by
  obtain ⟨i0, hi, hz0, hz1, hz2⟩ := info_parts Tryd.infoVal
  obtain ⟨a, c, rfl, h1, h2, hn, h3⟩ := id hsh
  unfold maxLen at h2
  have HSH := hid hsh
  clear h3 hn hsh
  go_enter Tryd.func24, Tryd.ntmps24
  go_wp2_with fail
  go_loopw [4, 5] (fun l i wr => ∃ (p : Nat) (acc : List Vl), p ≤ bs.length ∧ i = .int .i64 p ∧ acc.length ≤ 8 ∧ wr.ownsRow w.heap.size 23 3 l acc.length (vcs acc) ∧ Below w.heap.size w wr ∧ Hid (thenV acc (trV (8 - acc.length) (bs.drop p)) = trV 8 bs)) (fun _ i _ => bs.length - (intOf i).toNat)
  case atStart => exact ⟨0, [], Nat.zero_le _, rfl, by simp, World.ownsRow_nil _ _ _ _, Below.refl _ _, hid (thenV_nil _ (trV_errs _ _))⟩
  case round =>
    obtain ⟨p, acc, hp, rfl, hacc, hown, hbel, hF⟩ := hrel
    have hszr := hbel.size
    by_cases hlt : p < bs.length
    · have hne : bs.drop p ≠ [] := fun e => by have := congrArg List.length e; simp at this; omega
      obtain ⟨va, vcap, hvf⟩ : ∃ va vcap, u4 = .slice va acc.length vcap := by
        rcases hown.2 with ⟨rfl, hn⟩ | ⟨g, cap, cur, rfl, _⟩
        · exact ⟨_, _, by rw [hn]⟩
        · exact ⟨_, _, rfl⟩
      subst hvf
      by_cases h8 : acc.length = 8
      · have HF : Hid (trV 8 bs = (2, [])) := hid (by rw [← hF.out, h8, trV_full hne]; rfl)
        have h8' : ((acc.length : Int) == 8) = true := by rw [beq_iff_eq]; omega
        clear hF h8
        go_wp2
        go_ret2
        exact ⟨_, by rw [HF.out]; rfl, by rw [HF.out]; exact World.ownsRow_nil _ _ _ _, hbel⟩
      · have h8' : ((acc.length : Int) == 8) = false := by rw [beq_eq_false_iff_ne]; omega
        have hsub : 8 - acc.length = (8 - acc.length - 1) + 1 := by omega
        have hbne : bs ≠ [] := fun e => by rw [e] at hlt; simp at hlt
        obtain ⟨V, hV, hVs⟩ := from_any (p := p) (HSH.out.below (hbel.mono hB)) hbne hp
        have HTK := hid (takeKey_any B0 V (bs.drop p) wr (by omega) (hVs wr (HSH.out.below (hbel.mono hB))) (by simp; omega))
        have hu := tkV_used (bs.drop p)
        rw [List.length_drop] at hu
        have HF := hid (show thenV acc (trV (8 - acc.length - 1 + 1) (bs.drop p)) = trV 8 bs by rw [← hsub]; exact hF.out)
        clear hVs hsub hF hbne
        by_cases he : (tkV (bs.drop p)).1 = 0
        · have HN : Hid (thenV (acc ++ [(tkV (bs.drop p)).2.1]) (trV (8 - acc.length - 1) (bs.drop (p + (tkV (bs.drop p)).2.2))) = trV 8 bs) := hid (by
            rw [← HF.out, thenV_next _ _ _ hne he, List.drop_drop])
          clear HF hne
          have hu3 := hu.2.2 he
          generalize tkV (bs.drop p) = R at *
          obtain ⟨er, ⟨xk, xn, xt⟩, used⟩ := R
          dsimp only at he hu hu3 HN HTK
          subst he
          go_wp2_with fail
          refine HTK.out.mono ?_
          rintro e w2 ⟨rfl, hb2⟩
          have hsz2 := hb2.size
          have hown2 := owns_on hown hb2
          have hbel2 := hbel.trans (hb2.mono hszr)
          clear HTK hb2 hown hu
          have hnew := three_at (w2.alloc (.cells #[.int .i64 xk, .int .i64 xn, .string (str8 xt)] 23)) (w2.heap.size + 1) (by simp) (.int .i64 xk) (.int .i64 xn) (.string (str8 xt)) 23
          have hone : ∀ u ∈ [Value.int .i64 xk, .int .i64 xn, .string (str8 xt)], u.oneCell' = true := by intro u hu; simp at hu; rcases hu with rfl | rfl | rfl <;> rfl
          have hown22 := (hown2.alloc (.cells #[.int .i64 xk, .int .i64 xn, .string (str8 xt)] 23)).alloc (.cells #[.int .i64 xk, .int .i64 xn, .string (str8 xt)] 23)
          have hbel22 := (hbel2.alloc hbel2.size (.cells #[.int .i64 xk, .int .i64 xn, .string (str8 xt)] 23)).alloc (Nat.le_trans hbel2.size (by simp)) (.cells #[.int .i64 xk, .int .i64 xn, .string (str8 xt)] 23)
          have HL := hid (fun q hq => (hown22.lt q hq).1 : ∀ q, (Value.slice va acc.length vcap).ownBlock = some q → w.heap.size ≤ q)
          have HB22 := hid hbel22
          have hszA : w.heap.size ≤ ((w2.alloc (.cells #[.int .i64 xk, .int .i64 xn, .string (str8 xt)] 23)).alloc (.cells #[.int .i64 xk, .int .i64 xn, .string (str8 xt)] 23)).heap.size := hbel22.size
          have HSA := hid hszA
          clear hszA hbel22
          go_wp2_with (first
            | (at_builtin; refine wpList_append_own _ rfl (.tmp 27) (.tmp 29) 40 rfl w.heap.size 23 i0 (.agg #[.int .i64 0, .int .i64 0, .string ⟨#[]⟩]) 3 32 Tryd.underlying40 hi hz0 hz1 hz2 rfl (by decide) _ _ _ rfl hown22 ⟨w2.heap.size + 1, 0, none⟩ 1 1 [.int .i64 xk, .int .i64 xn, .string (str8 xt)] rfl rfl hnew hone (by unfold maxLen; omega) (by omega) HSA.out ?_; intro v3 w3 hown3 hg3 _)
            | fail)
          go_roundw
          case rel =>
            refine ⟨p + used, acc ++ [⟨xk, xn, xt⟩], by omega, by go_num, by simp; omega, ?_, HB22.out.grown hg3 HSA.out HL.out, ?_⟩
            · rw [List.length_append, show vcs (acc ++ [⟨xk, xn, xt⟩]) = vcs acc ++ [.int .i64 xk, .int .i64 xn, .string (str8 xt)] from by simp [vcs, vc]]
              exact hown3
            · rw [List.length_append, show 8 - (acc.length + [(⟨xk, xn, xt⟩ : Vl)].length) = 8 - acc.length - 1 from by simp; omega]
              exact HN
          case measure => simp [intOf]; omega
        · have her : (((tkV (bs.drop p)).1 : Int) == 0) = false := by rw [beq_eq_false_iff_ne]; omega
          have HN : Hid (trV 8 bs = ((tkV (bs.drop p)).1, [])) := hid (by rw [← HF.out, thenV_err _ _ _ hne he])
          clear HF hne he hu
          generalize tkV (bs.drop p) = R at *
          obtain ⟨er, ⟨xk, xn, xt⟩, used⟩ := R
          dsimp only at her HN HTK
          go_wp2_with fail
          refine HTK.out.mono ?_
          rintro e w2 ⟨rfl, hb2⟩
          have hbel2 := hbel.trans (hb2.mono hszr)
          have hb3 := hbel2.alloc hbel2.size (.cells #[.int .i64 xk, .int .i64 xn, .string (str8 xt)] 23)
          have HB3 := hid hb3
          clear HTK hb2 hown hb3 hbel2
          go_wp2
          go_ret2
          exact ⟨_, by rw [HN.out]; rfl, by rw [HN.out]; exact World.ownsRow_nil _ _ _ _, HB3.out⟩
    · have hd : bs.drop p = [] := List.drop_eq_nil_of_le (by omega)
      have HN : Hid (trV 8 bs = (0, acc)) := hid (by rw [← hF.out, hd, trV_nil]; simp [thenV])
      clear hF hd
      go_wp2
      go_ret2
      exact ⟨_, by rw [HN.out]; rfl, by rw [HN.out]; exact hown, hbel⟩
end Go.Proofs.YtlcoeoilakobjaaDoor
