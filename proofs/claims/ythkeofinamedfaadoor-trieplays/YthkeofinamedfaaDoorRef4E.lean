/- The document's own tree: a row of entries behind a pointer; contracts of copied, at. -/
import Derived.Test.YthkeofinamedfaaDoorRef4D
import Derived.Test.YthkeofinamedfaaDoorWhole
namespace Go.Proofs.YthkeofinamedfaaDoor
open Go.RowKit Go.Shelf
set_option linter.unusedVariables false
set_option linter.unusedSimpArgs false
set_option maxRecDepth 20000

/-- The blocks of S, and those that are new. -/
def ext (S : Nat → Prop) (w w' : World) (i : Nat) : Prop := S i ∨ (w.heap.size ≤ i ∧ i < w'.heap.size)

/-- A slice's block, if it has one, is of S. -/
def InS (S : Nat → Prop) (v : Value) : Prop := ∀ g, v.ownBlock = some g → S g

theorem InS.mono {S S' : Nat → Prop} {v : Value} (h : InS S v) (hS : ∀ i, S i → S' i) : InS S' v := fun g hg => hS g (h g hg)

theorem Says.keep {S R : Nat → Prop} {w w' : World} {v : Value} {bs : List UInt8} (h : Says w v bs) (hv : InS S v) (hk : Spares R w w') (hd : ∀ i, S i → ¬ R i) : Says w' v bs := by
  obtain ⟨a, c, rfl, h1, h2, hn, h3⟩ := h
  refine ⟨a, c, rfl, h1, h2, hn, fun hne => ?_⟩
  obtain ⟨b, off, rfl, hlt, hc⟩ := h3 hne
  exact ⟨b, off, rfl, Nat.lt_of_lt_of_le hlt hk.size, fun j hj => hk.cell (hc j hj) (hd b (hv b rfl))⟩

/-- Entries, all in blocks of S. -/
structure EntsS (S : Nat → Prop) (w : World) (sv : Value) (xs : List EntV) : Prop where
  ents : Ents w.heap.size w sv xs
  row : InS S sv
  all : ∀ x ∈ xs, InS S x.kv ∧ InS S x.vv
  form : sv = .slice none 0 0 ∨ ∃ g c, sv = .slice (some ⟨g, 0, none⟩) xs.length c

theorem EntsS.keep {S R : Nat → Prop} {w w' : World} {sv : Value} {xs : List EntV} (h : EntsS S w sv xs) (hk : Spares R w w') (hd : ∀ i, S i → ¬ R i) : EntsS S w' sv xs := by
  refine ⟨?_, h.row, h.all, h.form⟩
  obtain ⟨a, c, rfl, h1, h2, h3⟩ := h.ents
  refine ⟨a, c, rfl, h1, h2, fun hne => ?_⟩
  obtain ⟨b, off, rfl, hlt, hc⟩ := h3 hne
  refine ⟨b, off, rfl, Nat.lt_of_lt_of_le hlt hk.size, fun j x hx => ?_⟩
  obtain ⟨c0, c1, s1, s2⟩ := hc j x hx
  have hb := hd b (h.row b rfl)
  have hx' := h.all x (List.mem_of_getElem? hx)
  exact ⟨hk.cell c0 hb, hk.cell c1 hb, Says.keep s1 hx'.1 hk hd, Says.keep s2 hx'.2 hk hd⟩

/-- THE DOCUMENT's TREE: its block and all that hangs on it are of S. -/
structure XS (S : Nat → Prop) (w : World) (xb : Nat) (xs : List EntV) : Prop where
  ex : ∃ sv, w.heap[xb]? = some (.cells #[sv] 35 (0, 0)) ∧ EntsS S w sv xs
  own : S xb
  lt : ∀ i, S i → i < w.heap.size

theorem XS.keep {S R : Nat → Prop} {w w' : World} {xb : Nat} {xs : List EntV} (h : XS S w xb xs) (hk : Spares R w w') (hd : ∀ i, S i → ¬ R i) : XS S w' xb xs := by
  obtain ⟨⟨sv, h1, h2⟩, h3, h4⟩ := h
  exact ⟨⟨sv, (hk.block xb (h4 xb h3) (hd xb h3)).trans h1, h2.keep hk hd⟩, h3, fun i hi => Nat.lt_of_lt_of_le (h4 i hi) hk.size⟩

theorem XS.new {S : Nat → Prop} {w w' : World} {xb : Nat} {xs : List EntV} (h : XS S w xb xs) (hb : Below w.heap.size w w') : XS S w' xb xs := h.keep (R := fun _ => False) (Spares.of_new hb) (fun _ _ => id)

set_option maxHeartbeats 1000000 in
theorem xnew_any (w : World) : Calls Tryd.prog 10 #[] w fun e w' => e = .returned (.pointer (some ⟨w.heap.size, 0, none⟩)) ∧ XS (fun i => i = w.heap.size) w' w.heap.size [] ∧ Below w.heap.size w w' := by
  go_enter Tryd.func10, Tryd.ntmps10
  go_wp2
  go_ret
  refine ⟨rfl, ⟨⟨_, World.alloc_heap_new _ _, ⟨none, 0, rfl, Nat.le_refl _, by unfold maxLen; omega, fun h => absurd rfl h⟩, fun g h => (by cases h), fun x hx => (by cases hx), .inl rfl⟩, rfl, fun i hi => ?_⟩, (Below.refl _ _).alloc (Nat.le_refl _) _⟩
  rw [World.size_alloc]
  omega

set_option maxHeartbeats 2000000 in
theorem copied_any (v : Value) (bs : List UInt8) (w : World) (h : Says w v bs) (hl : bs.length ≤ 70368744177664) :
    Calls Tryd.prog 57 #[v] w fun e w' => ∃ v', e = .returned v' ∧ Copy w.heap.size w' v' bs ∧ Below w.heap.size w w' := by
  obtain ⟨i0, hi, hz0, hz1, hz2⟩ := info_parts Tryd.infoU8
  obtain ⟨a, c, rfl, _⟩ := id h
  have hsh := h.new ((Below.refl _ w).alloc (Nat.le_refl _) (.cells #[] 5))
  have HS := hid hsh
  clear h hsh
  go_enter Tryd.func57, Tryd.ntmps57
  go_wp2_with (first
    | (at_builtin; refine wpList_append_shows _ rfl (.tmp 3) (.tmp 4) 28 rfl w.heap.size 5 i0 Tryd.underlying28 hi hz0 hz1 hz2 _ 0 [] rfl (World.ownsRow_made w #[] 0 (Nat.le_refl _) (by unfold maxLen; omega) rfl) _ _ bs rfl HS.out ?d1 ?d2 ?_))
  case d1 => simp; omega
  case d2 => simp
  intro vA wA oA gA _
  obtain ⟨aA, cA, rfl⟩ := row_form oA
  have HO := hid oA
  have HB : Hid (Below w.heap.size w wA) := hid (((Below.refl _ _).alloc (Nat.le_refl _) _).grown gA (by simp) (fun q hq => by have hq' : some w.heap.size = some q := hq; cases hq'; exact Nat.le_refl _))
  clear oA gA
  go_wp2
  go_ret
  exact ⟨_, rfl, HO.out, HB.out⟩

/-- Where a key stands: the first place whose key is not below it. -/
def atK (L : List Ent) (key : List UInt8) : Nat := (L.takeWhile fun e => Op.bytesLess e.1 key).length

theorem atK_le (L : List Ent) (key : List UInt8) : atK L key ≤ L.length := by
  unfold atK
  exact (List.takeWhile_prefix _).length_le

theorem atK_lt : ∀ (L : List Ent) (key : List UInt8) (j : Nat) (e : Ent), L[j]? = some e → j < atK L key → Op.bytesLess e.1 key = true
  | [], key, j, e, h, _ => by simp at h
  | f :: L, key, j, e, h, hj => by
    unfold atK at hj
    rw [List.takeWhile_cons] at hj
    split at hj
    · rename_i hf
      cases j with
      | zero => simp at h; subst h; exact hf
      | succ j => exact atK_lt L key j e (by simpa using h) (by unfold atK; simp at hj; omega)
    · simp at hj

theorem atK_at : ∀ (L : List Ent) (key : List UInt8) (e : Ent), L[atK L key]? = some e → Op.bytesLess e.1 key = false
  | [], key, e, h => by simp at h
  | f :: L, key, e, h => by
    unfold atK at h
    rw [List.takeWhile_cons] at h
    split at h
    · exact atK_at L key e (by unfold atK; simpa using h)
    · rename_i hf
      simp at h
      subst h
      simpa using hf

set_option maxHeartbeats 4000000 in
theorem xat_any (xb : Nat) (sv kv : Value) (xs : List EntV) (key : List UInt8) (w : World) (hx : w.heap[xb]? = some (.cells #[sv] 35 (0, 0))) (hE : Ents w.heap.size w sv xs) (hk : Says w kv key) :
    Calls Tryd.prog 56 #[.pointer (some ⟨xb, 0, none⟩), kv] w fun e w' => e = .returned (.int .i64 (atK (xs.map EntV.ent) key)) ∧ ∃ q, w' = w.drewN q := by
  obtain ⟨a, c, rfl, hc1, hc2, _⟩ := id hE
  obtain ⟨ak, ck, rfl, _⟩ := id hk
  unfold maxLen at hc2
  have q0 : w.cell? ⟨xb, 0, none⟩ = some (.slice a xs.length c) := by rw [cell_of_row _ _ _ _ _ _ hx]; rfl
  have HE := hid hE
  have HK := hid hk
  have hle := atK_le (xs.map EntV.ent) key
  rw [List.length_map] at hle
  have HLT := hid (atK_lt (xs.map EntV.ent) key)
  have HAT := hid (atK_at (xs.map EntV.ent) key)
  generalize atK (xs.map EntV.ent) key = m at *
  clear hE hk hx
  go_enter Tryd.func56, Tryd.ntmps56
  go_wp2_with fail
  go_loopw [5] (fun i wr => ∃ k : Nat, k ≤ m ∧ i = .int .i64 (k : Int) ∧ Hid (∃ q, wr = w.drewN q)) (fun i _ => m - (intOf i).toNat)
  case atStart => exact ⟨0, by omega, rfl, hid ⟨0, rfl⟩⟩
  case round =>
    obtain ⟨k, hk, rfl, HQ⟩ := hrel
    have HBB : Hid (∀ n, Below n w wr) := hid (fun n => by obtain ⟨q, hq⟩ := HQ.out; rw [hq]; exact below_drewN _ _ q)
    have HQ2 : Hid (∀ j, ∃ q, wr.drewN j = w.drewN q) := hid (fun j => by obtain ⟨q, hq⟩ := HQ.out; exact ⟨q + j, by rw [hq, World.drewN_drewN]⟩)
    have q1 : wr.cell? ⟨xb, 0, none⟩ = some (.slice a xs.length c) := by obtain ⟨q, hq⟩ := HQ.out; rw [hq]; exact q0
    by_cases hlt : k < xs.length
    · have hki : (k : Int) < (xs.length : Int) := by omega
      have hk0 : (0 : Int) ≤ (k : Int) := by omega
      obtain ⟨b, off, ka, kc, va, vc, kb, vb, rfl, hb, hx, c0, c1, s1, s2⟩ := (HE.out.below (HBB.out _)).at k hlt
      have e1 := fun nq => str4 (s1.below (below_drewN _ wr nq))
      have e2 := fun nq => str4 ((HK.out.new (HBB.out _)).new (below_drewN _ wr nq))
      have hxe := ent_at (rfl : xs.map EntV.ent = _) hx
      have hls : Op.bytesLess (str8 kb).toList (str8 key).toList = Op.bytesLess kb key := by rw [str8_toList, str8_toList]
      generalize str8 kb = S1 at *
      generalize str8 key = S2 at *
      by_cases hkm : k < m
      · have hless : Op.bytesLess S1.toList S2.toList = true := by rw [hls]; exact HLT.out k _ hxe hkm
        have HKM := hid hkm
        clear hls hxe hx s1 s2 c1 hkm
        go_wp2_with fail
        go_quiet (fail)
        go_wp2_with fail
        go_roundw
        case rel => exact ⟨k + 1, HKM.out, by go_num, hid (HQ2.out _)⟩
        case measure => have := HKM.out; simp [intOf]; omega
      · have hkm' : k = m := by omega
        subst hkm'
        have hless : Op.bytesLess S1.toList S2.toList = false := by rw [hls]; exact HAT.out _ hxe
        clear hls hxe hx s1 s2 c1 hkm
        go_wp2_with fail
        go_quiet (fail)
        go_wp2
        go_ret
        exact ⟨rfl, HQ2.out _⟩
    · have hki : (xs.length : Int) ≤ (k : Int) := by omega
      have hki2 : ¬ (k : Int) < (xs.length : Int) := by omega
      have hki3 : decide ((k : Int) < (xs.length : Int)) = false := by simpa using hki
      have hkm' : k = m := by omega
      subst hkm'
      go_wp2_with fail
      go_quiet (fail)
      go_wp2
      go_ret
      exact ⟨rfl, HQ2.out _⟩
end Go.Proofs.YthkeofinamedfaaDoor
