/- The document's own tree (stage 14): a row of entries behind a pointer; contracts of copied, at, has. -/
import Derived.Test.YtjfipejfejmlaaaBtMem
namespace Go.Proofs.Ytjfipejfejmlaaa
open Go.RowKit Go.Shelf
set_option linter.unusedVariables false
set_option linter.unusedSimpArgs false
set_option maxRecDepth 20000

/-- THE DOCUMENT's TREE: its block and all that hangs on it are of S. -/
structure XS (S : Nat → Prop) (w : World) (xb : Nat) (xs : List EntV) : Prop where
  ex : ∃ sv, w.heap[xb]? = some (.cells #[sv] 29 (0, 0)) ∧ EntsS S w sv xs
  own : S xb
  lt : ∀ i, S i → i < w.heap.size

theorem XS.keep {S R : Nat → Prop} {w w' : World} {xb : Nat} {xs : List EntV} (h : XS S w xb xs) (hk : Spares R w w') (hd : ∀ i, S i → ¬ R i) : XS S w' xb xs := by
  obtain ⟨⟨sv, h1, h2⟩, h3, h4⟩ := h
  exact ⟨⟨sv, (hk.block xb (h4 xb h3) (hd xb h3)).trans h1, h2.keep hk hd⟩, h3, fun i hi => Nat.lt_of_lt_of_le (h4 i hi) hk.size⟩

theorem XS.new {S : Nat → Prop} {w w' : World} {xb : Nat} {xs : List EntV} (h : XS S w xb xs) (hb : Below w.heap.size w w') : XS S w' xb xs := h.keep (R := fun _ => False) (Spares.of_new hb) (fun _ _ => id)

set_option maxHeartbeats 2000000 in
theorem copied_any (v : Value) (bs : List UInt8) (w : World) (h : Says w v bs) (hl : bs.length ≤ 140737488351232) :
    Calls Try.prog 52 #[v] w fun e w' => ∃ v', e = .returned v' ∧ Copy w.heap.size w' v' bs ∧ Below w.heap.size w w' := by
  obtain ⟨i0, hi, hz0, hz1, hz2⟩ := info_parts Try.infoU8
  obtain ⟨a, c, rfl, _⟩ := id h
  have hsh := h.new ((Below.refl _ w).alloc (Nat.le_refl _) (.cells #[] 5))
  have HS := hid hsh
  clear h hsh
  go_enter Try.func52, Try.ntmps52
  go_wp2_with (first
    | (at_builtin; refine wpList_append_shows _ rfl (.tmp 3) (.tmp 4) 30 rfl w.heap.size 5 i0 Try.underlying30 hi hz0 hz1 hz2 _ 0 [] rfl (World.ownsRow_made w #[] 0 (Nat.le_refl _) (by unfold maxLen; omega) rfl) _ _ bs rfl HS.out ?d1 ?d2 ?_))
  case d1 => simp; omega
  case d2 => simp
  intro vA wA oA gA _
  obtain ⟨aA, cA, rfl⟩ := row_form oA
  have HO := hid oA
  have HB : Hid (Below w.heap.size w wA) := hid (((Below.refl _ _).alloc (Nat.le_refl _) _).grown gA (by simp) (fun q hq => by have hq' : some w.heap.size = some q := hq; cases hq'; exact Nat.le_refl _))
  clear oA gA
  go_wp2
  go_ret
  exact ⟨_, rfl, HO.out, HB.out⟩

set_option maxHeartbeats 4000000 in
theorem xat_any (xb : Nat) (sv kv : Value) (xs : List EntV) (key : List UInt8) (w : World) (hx : w.heap[xb]? = some (.cells #[sv] 29 (0, 0))) (hE : Ents w.heap.size w sv xs) (hk : Says w kv key) :
    Calls Try.prog 50 #[.pointer (some ⟨xb, 0, none⟩), kv] w fun e w' => e = .returned (.int .i64 (atK (xs.map EntV.ent) key)) ∧ ∃ q, w' = w.drewN q := by
  obtain ⟨a, c, rfl, hc1, hc2, _⟩ := id hE
  obtain ⟨ak, ck, rfl, _⟩ := id hk
  unfold maxLen at hc2
  have q0 : w.cell? ⟨xb, 0, none⟩ = some (.slice a xs.length c) := by rw [cell_of_row _ _ _ _ _ _ hx]; rfl
  have HE := hid hE
  have HK := hid hk
  have hle := atK_le (xs.map EntV.ent) key
  rw [List.length_map] at hle
  have HLT := hid (atK_lt (xs.map EntV.ent) key)
  have HAT := hid (atK_at (xs.map EntV.ent) key)
  generalize atK (xs.map EntV.ent) key = m at *
  clear hE hk hx
  go_enter Try.func50, Try.ntmps50
  go_wp2_with fail
  go_loopw [5] (fun i wr => ∃ k : Nat, k ≤ m ∧ i = .int .i64 (k : Int) ∧ Hid (∃ q, wr = w.drewN q)) (fun i _ => m - (intOf i).toNat)
  case atStart => exact ⟨0, by omega, rfl, hid ⟨0, rfl⟩⟩
  case round =>
    obtain ⟨k, hk, rfl, HQ⟩ := hrel
    have HBB : Hid (∀ n, Below n w wr) := hid (fun n => by obtain ⟨q, hq⟩ := HQ.out; rw [hq]; exact below_drewN _ _ q)
    have HQ2 : Hid (∀ j, ∃ q, wr.drewN j = w.drewN q) := hid (fun j => by obtain ⟨q, hq⟩ := HQ.out; exact ⟨q + j, by rw [hq, World.drewN_drewN]⟩)
    have q1 : wr.cell? ⟨xb, 0, none⟩ = some (.slice a xs.length c) := by obtain ⟨q, hq⟩ := HQ.out; rw [hq]; exact q0
    by_cases hlt : k < xs.length
    · have hki : (k : Int) < (xs.length : Int) := by omega
      have hk0 : (0 : Int) ≤ (k : Int) := by omega
      obtain ⟨b, off, ka, kc, va, vc, kb, vb, rfl, hb, hx, c0, c1, s1, s2⟩ := (HE.out.below (HBB.out _)).at k hlt
      have e1 := fun nq => str4 (s1.below (below_drewN _ wr nq))
      have e2 := fun nq => str4 ((HK.out.new (HBB.out _)).new (below_drewN _ wr nq))
      have hxe := ent_at (rfl : xs.map EntV.ent = _) hx
      have hls : Op.bytesLess (str8 kb).toList (str8 key).toList = Op.bytesLess kb key := by rw [str8_toList, str8_toList]
      generalize str8 kb = S1 at *
      generalize str8 key = S2 at *
      by_cases hkm : k < m
      · have hless : Op.bytesLess S1.toList S2.toList = true := by rw [hls]; exact HLT.out k _ hxe hkm
        have HKM := hid hkm
        clear hls hxe hx s1 s2 c1 hkm
        go_wp2_with fail
        go_quiet (fail)
        go_wp2_with fail
        go_roundw
        case rel => exact ⟨k + 1, HKM.out, by go_num, hid (HQ2.out _)⟩
        case measure => have := HKM.out; simp [intOf]; omega
      · have hkm' : k = m := by omega
        subst hkm'
        have hless : Op.bytesLess S1.toList S2.toList = false := by rw [hls]; exact HAT.out _ hxe
        clear hls hxe hx s1 s2 c1 hkm
        go_wp2_with fail
        go_quiet (fail)
        go_wp2
        go_ret
        exact ⟨rfl, HQ2.out _⟩
    · have hki : (xs.length : Int) ≤ (k : Int) := by omega
      have hki2 : ¬ (k : Int) < (xs.length : Int) := by omega
      have hki3 : decide ((k : Int) < (xs.length : Int)) = false := by simpa using hki
      have hkm' : k = m := by omega
      subst hkm'
      go_wp2_with fail
      go_quiet (fail)
      go_wp2
      go_ret
      exact ⟨rfl, HQ2.out _⟩

theorem hitK_at {xs : List EntV} {key : List UInt8} {m : Nat} (hm : atK (xs.map EntV.ent) key = m) {x : EntV} (hx : xs[m]? = some x) : hitK (xs.map EntV.ent) key = (x.k == key) := by
  unfold hitK
  rw [hm, ent_at rfl hx]
  simp

theorem hitK_end {xs : List EntV} {key : List UInt8} {m : Nat} (hm : atK (xs.map EntV.ent) key = m) (hx : xs.length ≤ m) : hitK (xs.map EntV.ent) key = false := by
  unfold hitK
  rw [hm, List.getElem?_eq_none (by simpa using hx)]
  simp

set_option maxHeartbeats 4000000 in
theorem xhas_any (xb m : Nat) (sv kv : Value) (xs : List EntV) (key : List UInt8) (w : World) (hx : w.heap[xb]? = some (.cells #[sv] 29 (0, 0))) (hE : Ents w.heap.size w sv xs) (hk : Says w kv key) (hm : atK (xs.map EntV.ent) key = m) :
    Calls Try.prog 51 #[.pointer (some ⟨xb, 0, none⟩), .int .i64 m, kv] w fun e w' => e = .returned (.bool (hitK (xs.map EntV.ent) key)) ∧ ∃ q, w' = w.drewN q := by
  obtain ⟨a, c, rfl, hc1, hc2, _⟩ := id hE
  obtain ⟨ak, ck, rfl, _⟩ := id hk
  unfold maxLen at hc2
  have hle := atK_le (xs.map EntV.ent) key
  rw [List.length_map, hm] at hle
  have q0 : w.cell? ⟨xb, 0, none⟩ = some (.slice a xs.length c) := by rw [cell_of_row _ _ _ _ _ _ hx]; rfl
  by_cases hlt : m < xs.length
  · obtain ⟨b, off, ka, kc, va, vc, kb, vb, rfl, hb, hxm, c0, c1, s1, s2⟩ := hE.at m hlt
    rw [hitK_at hm hxm]
    have hki : (m : Int) < (xs.length : Int) := by omega
    have hk0 : (0 : Int) ≤ (m : Int) := by omega
    have e1 := fun nq => str4 (s1.below (below_drewN _ w nq))
    have e2 := fun nq => str4 (hk.new (below_drewN _ w nq))
    have hls : ((str8 kb).toList == (str8 key).toList) = (kb == key) := by rw [str8_toList, str8_toList]
    have hls2 : decide ((str8 kb).toList = (str8 key).toList) = (kb == key) := by rw [str8_toList, str8_toList]; by_cases h : kb = key <;> simp [h]
    generalize str8 kb = S1 at *
    generalize str8 key = S2 at *
    generalize (kb == key) = r at *
    clear hxm s1 s2 c1 hx hE hk hm
    go_enter Try.func51, Try.ntmps51
    go_wp2_with fail
    go_quiet (fail)
    go_wp2
    go_ret
    exact ⟨rfl, _, rfl⟩
  · have hmm : m = xs.length := by omega
    rw [hitK_end hm (by omega)]
    have hki : ¬ (m : Int) < (xs.length : Int) := by omega
    have hki3 : decide ((m : Int) < (xs.length : Int)) = false := by simpa using hki
    clear hx hE hk hm
    go_enter Try.func51, Try.ntmps51
    go_wp2_with fail
    go_quiet (fail)
    go_wp2
    go_ret
    exact ⟨rfl, _, rfl⟩
end Go.Proofs.Ytjfipejfejmlaaa
