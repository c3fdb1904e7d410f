/- Contracts of the document's own Bit, Fork, Side. -/
import Derived.Test.YtmafaioohiaenaaDoorRootsF
namespace Go.Proofs.YtmafaioohiaenaaDoor
open Go.RowKit Go.Shelf
set_option linter.unusedVariables false
set_option linter.unusedSimpArgs false
set_option maxRecDepth 20000

set_option maxHeartbeats 2000000 in
theorem xbit_any (B : Nat) (v : Value) (bs : List UInt8) (i : Int) (w : World) (hsh : Shows B w v bs) (hlb : bs.length ≤ 140737488355328) (h1 : -9223372036854775808 ≤ i) (h2 : i ≤ 9223372036854775807) :
    Calls Tryd.prog 53 #[v, .int .i64 i] w fun e w' => e = .returned (.bool (bitI bs i)) ∧ w' = w := by
  obtain ⟨a, c, rfl, g1, g2, gn, g3⟩ := hsh
  unfold maxLen at g2
  by_cases hi : i < 0
  · have HB := hid (show bitI bs i = false by simp [bitI, hi])
    go_enter Tryd.func53, Tryd.ntmps53
    go_wp2
    go_ret
    exact ⟨by rw [HB.out]; rfl, rfl⟩
  · obtain ⟨n, rfl⟩ : ∃ n : Nat, i = n := ⟨i.toNat, by omega⟩
    have hn : n < 9223372036854775808 := by omega
    have HB := hid (bitI_nat bs n)
    by_cases hl : 9 * bs.length ≤ n
    · have HF := hid (bit_far bs n hl)
      have hl' : 9 * (bs.length : Int) ≤ (n : Int) := by omega
      go_enter Tryd.func53, Tryd.ntmps53
      go_wp2
      go_ret
      exact ⟨by rw [HB.out, HF.out]; rfl, rfl⟩
    · have hl' : (n : Int) < 9 * (bs.length : Int) := by omega
      have hq : (n : Int) / 9 = ((n / 9 : Nat) : Int) := by omega
      have hr : (n : Int) % 9 = ((n % 9 : Nat) : Int) := by omega
      have hr9 : n % 9 < 9 := by omega
      have hql : n / 9 < bs.length := by omega
      have HBB : Hid (bit bs n = match bs[n / 9]? with | none => false | some c => n % 9 == 0 || c.toNat / 2 ^ (8 - n % 9) % 2 == 1) := hid rfl
      generalize n / 9 = q at *
      generalize n % 9 = r at *
      have hql' : (q : Int) < (bs.length : Int) := by omega
      obtain ⟨b, off, rfl, hb, hc⟩ := g3 (by intro e; simp [e] at hql)
      have hcq := hc q hql
      rw [List.getElem?_eq_getElem hql] at HBB hcq
      simp only [Option.getD_some] at hcq
      generalize bs[q]'hql = u at *
      clear hc g3
      by_cases hr0 : r = 0
      · subst hr0
        go_enter Tryd.func53, Tryd.ntmps53
        go_wp2
        go_ret
        exact ⟨by rw [HB.out, HBB.out]; rfl, rfl⟩
      · have hr1 : ¬ ((r : Int) == 0) = true := by simpa using hr0
        have hr2 : ((r : Int) == 0) = false := by simpa using hr0
        go_enter Tryd.func53, Tryd.ntmps53
        go_wp2
        go_ret
        refine ⟨?_, rfl⟩
        rw [HB.out, HBB.out]
        refine congrArg (fun b => Ending.returned (.bool b)) ?_
        have e1 : (u.toNat : Int) / 2 ^ (8 - r) = ((u.toNat / 2 ^ (8 - r) : Nat) : Int) := by simp
        rw [e1, show ((u.toNat / 2 ^ (8 - r) : Nat) : Int).tmod 2 = ((u.toNat / 2 ^ (8 - r) % 2 : Nat) : Int) from (Int.ofNat_tmod _ 2).symm]
        have h0 : (r == 0) = false := by simpa using hr0
        rw [h0, Bool.false_or, Bool.eq_iff_iff]
        simp only [beq_iff_eq]
        omega

set_option maxHeartbeats 4000000 in
/-- The first place at which not all keys' bits are the same. -/
theorem fork_any (p : Nat) (l r : Tri) (hwf : (Tri.fork p l r).WF) (v : Value) (xs : List EntV) (w : World) (B : Nat) (hE : Ents B w v xs) (hx : xs.map EntV.ent = (Tri.fork p l r).ents) :
    Calls Tryd.prog 72 #[v] w fun e w' => e = .returned (.int .i64 p) ∧ w' = w := by
  obtain ⟨a, c, rfl, hc1, hc2, _⟩ := id hE
  unfold maxLen at hc2
  obtain ⟨_, _, hxl⟩ := fork_parts hx
  have hp := Tri.place_bound p _ _ hwf
  have pl := Tri.ents_pos l
  have pr := Tri.ents_pos r
  obtain ⟨b, off, ka, kc, va, vc, k0, v0, rfl, hb, hx0, c0, _, s1, _⟩ := hE.at 0 (by omega)
  have HE := hid hE
  have m0 := ent_at hx hx0
  have hs0 := (Tri.short_of _ hwf _ (List.mem_of_getElem? m0)).1
  simp only at hs0
  -- every key's bit ahead of the place is that of the first one
  have HAL : Hid (∀ (k : Nat) (x : EntV) (i : Nat), xs[k]? = some x → i < p → bit x.k i = bit k0 i) := hid (fun k x i hk hi => Tri.alike p l r hwf _ _ (List.mem_of_getElem? (ent_at hx hk)) (List.mem_of_getElem? m0) i hi)
  have HSB : Hid (∀ (k : Nat) (x : EntV), xs[k]? = some x → bit x.k p = decide (l.ents.length ≤ k)) := hid (fun k x hk => side_bits hwf hx hk)
  have HSL : Hid (∀ (k : Nat) (x : EntV), xs[k]? = some x → x.k.length ≤ 140737488355328) := hid (fun k x hk => by have := (Tri.short_of _ hwf _ (List.mem_of_getElem? (ent_at hx hk))).1; simp at this; omega)
  have hbit0 := fun (i : Nat) (hi : i ≤ p) => xbit_any _ (.slice ka k0.length kc) k0 i w s1 (by omega) (by omega) (by omega)
  simp only [bitI_nat] at hbit0
  have q0 : w.cell? ⟨b, off, none⟩ = some (.slice ka k0.length kc) := by simpa using c0
  have hb0 : bit k0 p = false := by rw [HSB.out 0 _ hx0, decide_eq_false (by omega)]
  obtain ⟨m, hm⟩ : ∃ m, l.ents.length = m := ⟨_, rfl⟩
  rw [hm] at HSB pl
  have hmn : m < xs.length := by omega
  have hn0 : 0 < xs.length := by omega
  have hn0i : (0 : Int) < (xs.length : Int) := by omega
  have HB0 := hid hbit0
  have HBF := hid hb0
  clear hE hx hwf hm hxl pr m0 hx0 c0 s1 hbit0 hb0
  go_enter Tryd.func72, Tryd.ntmps72
  go_wp2_with fail
  go_loopw [3] (fun i wr => ∃ k : Nat, k ≤ p ∧ i = .int .i64 (k : Int) ∧ wr = w) (fun i _ => p - (intOf i).toNat)
  case atStart => exact ⟨0, by omega, rfl, rfl⟩
  case round =>
    obtain ⟨i, hi, rfl, rfl⟩ := hrel
    have hi0 : (i : Int) ≤ 1080 := by omega
    have hbi := HB0.out i hi
    by_cases hlt : i < p
    · have HAL2 : Hid (∀ (k : Nat) (x : EntV), xs[k]? = some x → bit x.k i = bit k0 i) := hid (fun k x hk => HAL.out k x i hk hlt)
      generalize bit k0 i = bv at *
      go_wp2_with (go_at_call 53; refine hbi.mono ?_; clear hbi; rintro e w' ⟨rfl, rfl⟩)
      go_loopw [5] (fun k wq => ∃ j : Nat, 1 ≤ j ∧ j ≤ xs.length ∧ k = .int .i64 (j : Int) ∧ wq = w') (fun k _ => xs.length - (intOf k).toNat)
      case atStart => exact ⟨1, by omega, by omega, rfl, rfl⟩
      case round =>
        obtain ⟨j, hj1, hj2, rfl, rfl⟩ := hrel
        by_cases hjl : j < xs.length
        · obtain ⟨b', off', la, lc, ua, uc, lb, ub, hbb, hb', hy, d0, d1, t1, t2⟩ := HE.out.at j hjl
          simp only [Option.some.injEq, Addr.mk.injEq, and_true] at hbb
          obtain ⟨rfl, rfl⟩ := hbb
          have hbj := xbit_any _ (.slice la lb.length lc) lb i _ t1 (HSL.out j _ hy) (by omega) (by omega)
          rw [bitI_nat, show bit lb i = bv from HAL2.out j _ hy] at hbj
          have hji : (j : Int) < (xs.length : Int) := by omega
          have hj0 : (0 : Int) ≤ (j : Int) := by omega
          clear t1 t2 hy
          go_wp2_with (go_at_call 53; refine hbj.mono ?_; clear hbj; rintro e w'' ⟨rfl, rfl⟩)
          go_roundw
          case rel => exact ⟨j + 1, by omega, by omega, by go_num, by trivial⟩
          case measure => simp [intOf]; omega
        · have hji : (xs.length : Int) ≤ (j : Int) := by omega
          go_wp2
          go_roundw
          case rel => exact ⟨i + 1, by omega, by go_num, by trivial⟩
          case measure => simp [intOf]; omega
    · have hip : i = p := by omega
      subst hip
      rw [HBF.out] at hbi
      go_wp2_with (go_at_call 53; refine hbi.mono ?_; clear hbi; rintro e w' ⟨rfl, rfl⟩)
      go_loopw [5] (fun k wq => ∃ j : Nat, 1 ≤ j ∧ j ≤ m ∧ k = .int .i64 (j : Int) ∧ wq = w') (fun k _ => m - (intOf k).toNat)
      case atStart => exact ⟨1, by omega, by omega, rfl, rfl⟩
      case round =>
        obtain ⟨j, hj1, hj2, rfl, rfl⟩ := hrel
        obtain ⟨b', off', la, lc, ua, uc, lb, ub, hbb, hb', hy, d0, d1, t1, t2⟩ := HE.out.at j (by omega)
        simp only [Option.some.injEq, Addr.mk.injEq, and_true] at hbb
        obtain ⟨rfl, rfl⟩ := hbb
        have hbj := xbit_any _ (.slice la lb.length lc) lb i _ t1 (HSL.out j _ hy) (by omega) (by omega)
        have hbv : bit lb i = decide (m ≤ j) := HSB.out j _ hy
        have hji : (j : Int) < (xs.length : Int) := by omega
        have hj0 : (0 : Int) ≤ (j : Int) := by omega
        by_cases hjm : j < m
        · rw [bitI_nat, hbv, decide_eq_false (by omega)] at hbj
          clear t1 t2 hy hbv
          go_wp2_with (go_at_call 53; refine hbj.mono ?_; clear hbj; rintro e w'' ⟨rfl, rfl⟩)
          go_roundw
          case rel => exact ⟨j + 1, by omega, by omega, by go_num, by trivial⟩
          case measure => simp [intOf]; omega
        · rw [bitI_nat, hbv, decide_eq_true (by omega)] at hbj
          clear t1 t2 hy hbv
          go_wp2_with (go_at_call 53; refine hbj.mono ?_; clear hbj; rintro e w'' ⟨rfl, rfl⟩)
          go_ret
          exact ⟨rfl, rfl⟩

/-- Those whose bit there is that. -/
def sideOf (i : Nat) (right : Bool) (xs : List EntV) : List EntV := xs.filter fun x => bit x.k i == right

theorem sideOf_snoc (i : Nat) (right : Bool) (xs : List EntV) (k : Nat) (x : EntV) (h : xs[k]? = some x) : sideOf i right (xs.take (k + 1)) = if bit x.k i == right then sideOf i right (xs.take k) ++ [x] else sideOf i right (xs.take k) := by
  have hk := (List.getElem?_eq_some_iff.1 h).1
  rw [List.take_succ_eq_append_getElem hk, (List.getElem?_eq_some_iff.1 h).2]
  simp only [sideOf, List.filter_append, List.filter_cons, List.filter_nil]
  split <;> simp

theorem sideOf_length (i : Nat) (right : Bool) (xs : List EntV) : (sideOf i right xs).length ≤ xs.length := List.length_filter_le _ _

/-- A row of entries made anew, of slices that are there already. -/
theorem ents_of_row {B : Nat} {w w' : World} {v sv : Value} {xs ys : List EntV} (hE : Ents w.heap.size w v xs) (hb : Below w.heap.size w w') (hr : w'.ownsRow B 26 2 sv ys.length (ys.flatMap EntV.two)) (hs : ∀ y ∈ ys, y ∈ xs) : Ents w'.heap.size w' sv ys := by
  rcases hr.2 with ⟨rfl, h0⟩ | ⟨g, cap, cur, rfl, hB, hg, h1, h2, h3, h4⟩
  · have : ys = [] := List.eq_nil_of_length_eq_zero h0
    subst this
    exact ⟨none, 0, rfl, Nat.le_refl _, by unfold maxLen; omega, fun h => absurd rfl h⟩
  · refine ⟨_, cap, rfl, h1, h2, fun hne => ⟨g, 0, rfl, (Array.getElem?_eq_some_iff.1 hg).1, fun j x hx => ?_⟩⟩
    have hj : j < ys.length := (List.getElem?_eq_some_iff.1 hx).1
    obtain ⟨f0, f1⟩ := flat_two ys j x hx
    rw [← h4, List.getElem?_take, if_pos (by omega), Array.getElem?_toList] at f0 f1
    have hm : x ∈ xs := hs x (List.mem_of_getElem? hx)
    obtain ⟨i, hi⟩ := List.getElem?_of_mem hm
    obtain ⟨a, c, _, _, _, hE2⟩ := hE
    obtain ⟨b, off, _, _, hE3⟩ := hE2 (by intro e; rw [e] at hm; cases hm)
    obtain ⟨_, _, s1, s2⟩ := hE3 i x hi
    refine ⟨?_, ?_, Says.new s1 hb, Says.new s2 hb⟩
    · rw [cell_of_row _ _ _ _ _ _ hg, Nat.zero_add]; exact f0
    · rw [cell_of_row _ _ _ _ _ _ hg, Nat.zero_add]; exact f1

set_option maxHeartbeats 4000000 in
theorem side_any (p : Nat) (right : Bool) (v : Value) (xs : List EntV) (w : World) (hE : Ents w.heap.size w v xs) (hp : p < 1080) (hn : xs.length < 1000000000) (hsl : ∀ x ∈ xs, x.k.length ≤ 140737488355328) :
    Calls Tryd.prog 73 #[v, .int .i64 p, .bool right] w fun e w' => ∃ sv, e = .returned sv ∧ w'.ownsRow w.heap.size 26 2 sv (sideOf p right xs).length ((sideOf p right xs).flatMap EntV.two) ∧ Below w.heap.size w w' := by
  obtain ⟨a, c, rfl, hc1, hc2, _⟩ := id hE
  unfold maxLen at hc2
  have HE := hid hE
  have HSL := hid hsl
  clear hE hsl
  obtain ⟨i0, hi, hz0, hz1, hz2⟩ := info_parts Tryd.infoEntryZ
  go_enter Tryd.func73, Tryd.ntmps73
  go_wp2_with fail
  go_loopw [7, 8] (fun s7 s8 wr => ∃ k : Nat, k ≤ xs.length ∧ s8 = .int .i64 (k : Int) ∧ (∃ sa sn sc, s7 = .slice sa sn sc) ∧ Hid (wr.ownsRow w.heap.size 26 2 s7 (sideOf p right (xs.take k)).length ((sideOf p right (xs.take k)).flatMap EntV.two)) ∧ Hid (Below w.heap.size w wr)) (fun _ s8 _ => xs.length - (intOf s8).toNat)
  case atStart => exact ⟨0, by omega, rfl, ⟨_, _, _, rfl⟩, hid (World.ownsRow_nil _ _ _ _), hid (Below.refl _ _)⟩
  case round =>
    obtain ⟨k, hk, rfl, ⟨sa, sn, sc, rfl⟩, HO, HB⟩ := hrel
    by_cases hlt : k < xs.length
    · obtain ⟨b, off, ka, kc, va, vc, kb, vb, rfl, hb, hx, c0, c1, s1, s2⟩ := (HE.out.below HB.out).at k hlt
      have hki : (k : Int) < (xs.length : Int) := by omega
      have hk0 : (0 : Int) ≤ (k : Int) := by omega
      have hbit := xbit_any _ (.slice ka kb.length kc) kb p wr s1 (HSL.out _ (List.mem_of_getElem? hx)) (by omega) (by omega)
      rw [bitI_nat] at hbit
      have hsn := sideOf_snoc p right xs k _ hx
      simp only at hsn
      by_cases hbr : bit kb p = right
      · rw [hbr] at hbit hsn
        rw [if_pos (by simp)] at hsn
        have hbl : (sideOf p right (xs.take k)).length < 1000000000 := by have h1 := sideOf_length p right (xs.take k); simp at h1; omega
        have HKX := hid hlt
        have HSN := hid hsn
        clear s1 s2 hx hsn hbr
        go_wp2_with (first
          | (go_at_call 53; refine hbit.mono ?_; clear hbit; rintro e w' ⟨rfl, rfl⟩)
          | (at_builtin; refine wpList_append_own _ rfl (.tmp 24) (.tmp 29) 51 rfl w.heap.size 26 i0 _ 2 48 Tryd.underlying51 hi hz0 hz1 hz2 rfl (by decide) _ _ _ rfl ((Spares.of_new (S := fun _ => False) ((Below.refl _ _).alloc (Nat.le_refl _) _)).row HO.out (fun _ _ => id)) ⟨w'.heap.size, 0, none⟩ 1 1 [.slice ka kb.length kc, .slice va vb.length vc] rfl rfl ?d1 ?d2 ?d3 ?d4 ?d5 ?_))
        case d1 => have := World.news_of_block (World.alloc_heap_new w' (.cells #[.slice ka kb.length kc, .slice va vb.length vc] 26)); simpa using this
        case d2 => intro u hu; simp at hu; rcases hu with rfl | rfl <;> rfl
        case d3 => unfold maxLen; omega
        case d4 => omega
        case d5 => have := HB.out.size; simp; omega
        intro vA wA hownA hgA _
        have HBA : Hid (Below w.heap.size w wA) := hid ((HB.out.alloc HB.out.size _).grown hgA (by have := HB.out.size; simp; omega) (fun q hq => (HO.out.lt q hq).1))
        obtain ⟨sa', sn', sc', rfl⟩ : ∃ a n c, vA = .slice a n c := by
          rcases hownA.2 with ⟨rfl, _⟩ | ⟨g, cap, cur, rfl, _⟩
          · exact ⟨none, 0, 0, rfl⟩
          · exact ⟨_, _, _, rfl⟩
        have HOA : Hid (wA.ownsRow w.heap.size 26 2 (.slice sa' sn' sc') (sideOf p right (xs.take (k + 1))).length ((sideOf p right (xs.take (k + 1))).flatMap EntV.two)) := hid (by
          rw [HSN.out]
          simpa [EntV.two] using hownA)
        clear hownA hgA HO HB
        go_wp2
        go_roundw
        case rel => exact ⟨k + 1, HKX.out, by go_num, ⟨_, _, _, rfl⟩, HOA, HBA⟩
        case measure => have := HKX.out; simp [intOf]; omega
      · have hbr' : (bit kb p == right) = false := by simpa using hbr
        have hbr2 : bit kb p = !right := by cases right <;> simp_all
        rw [hbr2] at hbit
        rw [if_neg (by simpa using hbr)] at hsn
        have HKX := hid hlt
        rw [← hsn] at HO
        clear s1 s2 hx hsn hbr hbr' hbr2
        cases right with
        | true =>
          go_wp2_with (first
            | (go_at_call 53; refine hbit.mono ?_; clear hbit; rintro e w' ⟨rfl, rfl⟩))
          go_roundw
          case rel => exact ⟨k + 1, HKX.out, by go_num, ⟨_, _, _, rfl⟩, HO, HB⟩
          case measure => have := HKX.out; simp [intOf]; omega
        | false =>
          go_wp2_with (first
            | (go_at_call 53; refine hbit.mono ?_; clear hbit; rintro e w' ⟨rfl, rfl⟩))
          go_roundw
          case rel => exact ⟨k + 1, HKX.out, by go_num, ⟨_, _, _, rfl⟩, HO, HB⟩
          case measure => have := HKX.out; simp [intOf]; omega
    · have hki : (xs.length : Int) ≤ (k : Int) := by omega
      have hkk : k = xs.length := by omega
      subst hkk
      rw [List.take_length] at HO
      go_wp2
      go_ret
      exact ⟨_, rfl, HO.out, HB.out⟩
end Go.Proofs.YtmafaioohiaenaaDoor
