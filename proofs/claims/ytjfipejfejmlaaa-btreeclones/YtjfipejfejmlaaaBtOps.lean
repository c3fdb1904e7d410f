/- Contracts of New, Count, Depth, Get. -/
import Derived.Test.YtjfipejfejmlaaaBtMid
namespace Go.Proofs.Ytjfipejfejmlaaa
open Go.RowKit Go.Shelf
set_option linter.unusedVariables false
set_option linter.unusedSimpArgs false
set_option maxRecDepth 20000

theorem leaf_ents {K : Nat → Prop} {w : World} {p : Pg 0} (hl : Lies 1 K w p) : Ents w.heap.size w p.sv p.es := by
  obtain ⟨h1, _, h3⟩ := lies_pg.1 hl
  rcases h1.row.2 with ⟨e, h0⟩ | ⟨g, cap, cur, e, hB, hg, q1, q2, q3, q4⟩
  · have : (p.es : List EntV) = [] := List.eq_nil_of_length_eq_zero h0
    rw [e, this]
    exact ents_nil _ _ _ _ _ rfl (by unfold maxLen; omega)
  · rw [e]
    refine ⟨_, cap, rfl, q1, q2, fun hne => ⟨g, 0, rfl, block_lt hg, fun j x hx => ?_⟩⟩
    have hj : j < (p.es : List EntV).length := (List.getElem?_eq_some_iff.1 hx).1
    obtain ⟨f0, f1⟩ := flat_two p.es j x hx
    have q4' : cur.toList.take ((p.es : List EntV).length * 2) = (p.es : List EntV).flatMap EntV.two := q4
    rw [← q4', List.getElem?_take, if_pos (by omega), Array.getElem?_toList] at f0 f1
    have hs := h3 x (List.mem_of_getElem? hx)
    exact ⟨by rw [cell_of_row _ _ _ _ _ _ hg, Nat.zero_add]; exact f0, by rw [cell_of_row _ _ _ _ _ _ hg, Nat.zero_add]; exact f1, hs.1, hs.2.1⟩

theorem leaf_hit {xs : List EntV} {key : List UInt8} (h : hitK (xs.map EntV.ent) key = true) : ∃ x, xs[atK (xs.map EntV.ent) key]? = some x ∧ x.k = key ∧ lookL (xs.map EntV.ent) key = some x.v := by
  have h0 := h
  unfold hitK at h
  rw [List.getElem?_map] at h
  rcases hx : xs[atK (xs.map EntV.ent) key]? with _ | x
  · rw [hx] at h; simp at h
  · rw [hx] at h
    refine ⟨x, rfl, by simpa [EntV.ent] using h, ?_⟩
    unfold lookL
    rw [if_pos h0, List.getElem?_map, hx]
    rfl

theorem leaf_miss {xs : List EntV} {key : List UInt8} (h : hitK (xs.map EntV.ent) key = false) : lookL (xs.map EntV.ent) key = none := by
  unfold lookL
  rw [h]
  rfl

theorem says_nil (w : World) : Says w (.slice none 0 0) [] := ⟨none, 0, rfl, Nat.le_refl _, by unfold maxLen; omega, fun _ => rfl, fun h => absurd rfl h⟩

/-- What a walk to a leaf tells of it. -/
structure AtLeaf (K : Nat → Prop) (w : World) {H : Nat} (T : Pg H) (key : List UInt8) (c : Ctx 0) (p : Pg 0) : Prop where
  plug : c.plug p = ⟨H, T⟩
  bef : ∀ x ∈ c.before, Op.bytesLess x.k key = true
  aft : ∀ x ∈ c.after, Op.bytesLess key x.k = true
  lies : Lies 1 K w p
  ctx : c.Lies K w p.pb
  firsts : c.Firsts p.fv
  ok : c.Ok
  okp : c.OkP p
  few : p.es.length ≤ 4
  rises : RisesV p.es
  flat : flat (H + 1) T = c.before ++ (p.es : List EntV) ++ c.after
  tot : ∀ i, occ (H + 1) T i = totO c p.pb p.sv p.es i

theorem atLeaf_of {K : Nat → Prop} {w : World} {H : Nat} {T : Pg H} {key : List UInt8} {c : Ctx 0} {p : Pg 0} (hl : Lies (H + 1) K w T) (hok : OkR H T) (hr : RisesV (flat (H + 1) T)) (hp : c.plug p = ⟨H, T⟩) (hb : ∀ x ∈ c.before, Op.bytesLess x.k key = true) (ha : ∀ x ∈ c.after, Op.bytesLess key x.k = true) : AtLeaf K w T key c p := by
  have h1 : Lies ((c.plug p).1 + 1) K w (c.plug p).2 := by rw [hp]; exact hl
  have h2 : OkR (c.plug p).1 (c.plug p).2 := by rw [hp]; exact hok
  have h3 := c.plug_flat p
  have h4 := fun i => c.plug_occ p i
  rw [hp] at h3 h4
  obtain ⟨l1, l2, l3⟩ := (c.plug_lies p).1 h1
  obtain ⟨k1, k2⟩ := (c.plug_ok p).1 h2
  have hes : (p.es : List EntV) = _root_.Go.Proofs.Ytjfipejfejmlaaa.flat 1 p := by rw [flat_pg, flatL_zero]
  have hfl : _root_.Go.Proofs.Ytjfipejfejmlaaa.flat (H + 1) T = c.before ++ (p.es : List EntV) ++ c.after := by rw [hes]; exact h3
  refine ⟨hp, hb, ha, l1, l2, l3, k2, k1, ?_, ?_, hfl, fun i => ?_⟩
  · cases c with
    | top => exact k1
    | down => exact (okE_pg.1 k1).2.1
  · rw [hfl] at hr
    exact List.Pairwise.sublist ((List.sublist_append_right _ _).trans (List.sublist_append_left _ _)) hr
  · rw [h4 i, occ_pg]
    rfl

theorem AtLeaf.ents {K : Nat → Prop} {w : World} {H : Nat} {T : Pg H} {key : List UInt8} {c : Ctx 0} {p : Pg 0} (h : AtLeaf K w T key c p) : entsV (Go.Proofs.Ytjfipejfejmlaaa.flat (H + 1) T) = entsV c.before ++ entsV p.es ++ entsV c.after := by
  rw [h.flat]
  simp [entsV]

theorem AtLeaf.befE {K : Nat → Prop} {w : World} {H : Nat} {T : Pg H} {key : List UInt8} {c : Ctx 0} {p : Pg 0} (h : AtLeaf K w T key c p) : (∀ e ∈ entsV c.before, Op.bytesLess e.1 key = true) ∧ ∀ e ∈ entsV c.after, Op.bytesLess key e.1 = true :=
  ⟨fun e he => by obtain ⟨x, hx, rfl⟩ := List.mem_map.1 he; exact h.bef x hx, fun e he => by obtain ⟨x, hx, rfl⟩ := List.mem_map.1 he; exact h.aft x hx⟩

set_option maxHeartbeats 2000000 in
theorem btx_new (w : World) : Calls Try.prog 9 #[] w fun e w' => ∃ tb S P d, e = .returned (.pointer (some ⟨tb, 0, none⟩)) ∧ BTx S w' tb P d ∧ P.flatten = [] ∧ (∀ i, S i → w.heap.size ≤ i) ∧ Below w.heap.size w w' := by
  have HNP := newPage_first nilS nilS 0 0 [] [] w (rw_nil _ _) (rw_nil _ _) (by omega) (by omega) ⟨fun u hu => (by cases hu), fun u hu => (by cases hu)⟩
  go_enter Try.func9, Try.ntmps9
  go_wp2_with (go_at_call 23; refine HNP.mono ?_; clear HNP; rintro e w1 ⟨pb, se, sp, fv, rfl, hpag, hfi, hne, hnp, hb⟩)
  go_ret
  have hbn := new_alloc w1 (.cells #[.pointer (some ⟨pb, 0, none⟩), .int .i64 0] 56)
  have hz := hb.size
  obtain ⟨sv, hl, hr, hsv⟩ := page_lies (h := 0) (K := fun _ => False) (L := []) hpag (fvL_of (h := 0) (K := fun _ => False) (w := w) (L := []) (fun e he => (by cases he)) hfi) (fun e he => (by cases he)) (fun h => by omega) (fun _ => by first | exact hnp rfl | exact hnp trivial | simpa using hnp)
  have hlt : ∀ i, 0 < occ 1 (⟨pb, sv, fv, []⟩ : Pg 0) i → w.heap.size ≤ i ∧ i < w1.heap.size := fun i hi => by
    refine ⟨?_, hl.lt i hi⟩
    rw [occ_pg] at hi
    by_cases c1 : pb = i
    · rw [← c1]; exact hpag.low
    · by_cases c2 : sv.ownBlock = some i
      · exact (hr.lt i c2).1
      · rw [if_neg c1, if_neg c2] at hi
        cases hi
  refine ⟨w1.heap.size, fun i => 0 < occ 1 (⟨pb, sv, fv, []⟩ : Pg 0) i ∨ i = w1.heap.size, [[]], 1, rfl, ⟨fun _ => False, 0, ⟨pb, sv, fv, []⟩, ⟨World.alloc_heap_new _ _, hl.new hbn, fun i => ?_, fun i hi => hi.elim⟩, Nat.zero_le 4, List.Pairwise.nil, fun x hx => (by cases hx), rfl, rfl, fun i => ?_⟩, rfl, ?_, hb.trans (hbn.mono hz)⟩
  · have h1 := (occ_new (w := w) (B := w.heap.size) (h := 0) (K := fun _ => False) (L := []) (Nat.le_refl _) (fun e he => (by cases he)) hl hr hpag.low)
    by_cases hi : w1.heap.size = i
    · rw [if_pos hi]
      rcases Nat.eq_zero_or_pos (occ (0 + 1) (⟨pb, sv, fv, []⟩ : Pg 0) i) with h | h
      · omega
      · have := (hlt i h).2; omega
    · rw [if_neg hi]
      by_cases hi2 : i < w.heap.size
      · rw [show occ (0 + 1) (⟨pb, sv, fv, []⟩ : Pg 0) i = 0 from h1.1 i hi2]
        omega
      · have h8 : occ (0 + 1) (⟨pb, sv, fv, []⟩ : Pg 0) i ≤ 1 := h1.2.2 i (by omega)
        omega
  · simp
  · intro i hi
    rcases hi with h | h
    · exact (hlt i h).1
    · omega

set_option maxHeartbeats 1000000 in
theorem btx_count {S : Nat → Prop} {w : World} {tb d : Nat} {P : List (List Ent)} (h : BTx S w tb P d) :
    Calls Try.prog 13 #[.pointer (some ⟨tb, 0, none⟩)] w fun e w' => e = .returned (.int .i64 (P.flatten.length : Nat)) ∧ Below w.heap.size w w' := by
  obtain ⟨K, H, T, h1, h2, h3, h4, rfl, rfl, h7⟩ := h
  have hn : (pagesV T).flatten.length = (flat (H + 1) T).length := by rw [pagesV_flat, entsV, List.length_map]
  rw [hn]
  have c1 : w.cell? ⟨tb, 1, none⟩ = some (.int .i64 ((flat (H + 1) T).length : Nat)) := by rw [cell_of_row _ _ _ _ _ _ h1.tree]; rfl
  generalize (flat (H + 1) T).length = n at *
  go_enter Try.func13, Try.ntmps13
  go_wp2
  go_ret
  exact ⟨rfl, Below.refl _ _⟩

set_option maxHeartbeats 1000000 in
theorem btx_depth {S : Nat → Prop} {w : World} {tb d : Nat} {P : List (List Ent)} (h : BTx S w tb P d) (hn : P.flatten.length < 100000) :
    Calls Try.prog 19 #[.pointer (some ⟨tb, 0, none⟩)] w fun e w' => e = .returned (.int .i64 (d : Nat)) ∧ Below w.heap.size w w' := by
  have hd := btx_height h hn
  obtain ⟨K, H, T, h1, h2, h3, h4, rfl, rfl, h7⟩ := h
  have HW := walk_any H T K tb _ (.slice none 0 0) [] w h1.tree h1.lies h2 h3 (says_nil w) (by omega)
  go_enter Try.func19, Try.ntmps19
  go_wp2_with (go_at_call 25; refine HW.mono ?_; clear HW; rintro e w1 ⟨wv, c, p, rfl, hp, hrow, _, _, hb⟩
               have hh := c.plug_height p
               rw [hp] at hh
               obtain ⟨a, cc, rfl⟩ := row_slice hrow
               have HH := hid hh
               have HB := hid hb
               generalize c.turns.length = tl at *
               generalize p.pb = pb at *
               have htl : tl < 1000 := by have hh2 : H = 0 + tl := hh; omega
               clear hh hp hrow hb)
  go_ret
  refine ⟨?_, HB.out⟩
  have hh2 : H = 0 + tl := HH.out
  rw [show ((H + 1 : Nat) : Int) = (tl : Int) + 1 by omega]
  rfl

set_option maxHeartbeats 4000000 in
theorem btx_get {S : Nat → Prop} {w : World} {tb d : Nat} {P : List (List Ent)} (kv : Value) (key : List UInt8) (h : BTx S w tb P d) (hk : Says w kv key) (hn : P.flatten.length < 100000) :
    Calls Try.prog 22 #[.pointer (some ⟨tb, 0, none⟩), kv] w fun e w' => ∃ v', e = .returned (.tuple #[v', .bool (hitK P.flatten key)]) ∧ Copy w.heap.size w' v' ((lookL P.flatten key).getD []) ∧ Below w.heap.size w w' := by
  have hd := btx_height h hn
  obtain ⟨K, H, T, h1, h2, h3, h4, rfl, rfl, h7⟩ := h
  rw [pagesV_flat]
  have HW := walk_any H T K tb _ kv key w h1.tree h1.lies h2 h3 hk (by omega)
  obtain ⟨ak, ck, rfl, _⟩ := id hk
  have HK := hid hk
  have H1 := hid h1
  have H2 := hid h2
  have H3 := hid h3
  have H4 := hid h4
  clear h1 h2 h3 h4 hk h7 hn
  go_enter Try.func22, Try.ntmps22
  go_wp2_with (first
    | (go_at_call 25; refine HW.mono ?_; clear HW; rintro e w1 ⟨wv, c, p, rfl, hp, hrow, hbf, haf, hb⟩
       obtain ⟨aw, cw, rfl⟩ := row_slice hrow
       have hT1 := H1.out.new hb
       have hA := atLeaf_of hT1.lies H2.out H3.out hp hbf haf
       have HA := hid hA
       have HB := hid hb
       have hz1 := hb.size
       have HF := find_any p.pb p.sv p.fv _ p.es key w1 (lies_pg.1 hA.lies).1.blk (leaf_ents hA.lies) (HK.out.new hb) ((risesV_iff _).2 hA.rises) (by have := hA.few; omega)
       clear hA hT1 hp hbf haf hrow hb)
    | (go_at_call 26; refine HF.mono ?_; clear HF; rintro e w2 ⟨rfl, hb2⟩
       have HB2 := htr HB hb2
       have hz2 := hb2.size
       have HAL : Hid (AtLeaf K w2 T key c p) := hid (atLeaf_of ((H1.out.new HB2.out).lies) H2.out H3.out HA.out.plug HA.out.bef HA.out.aft)
       have HHIT : Hid (hitK (entsV (flat (H + 1) T)) key = hitK ((p.es : List EntV).map EntV.ent) key) := hid (by rw [HA.out.ents]; exact hitK_mid HA.out.befE.1 HA.out.befE.2)
       have HLK : Hid (lookL (entsV (flat (H + 1) T)) key = lookL ((p.es : List EntV).map EntV.ent) key) := hid (by rw [HA.out.ents]; exact lookL_mid HA.out.befE.1 HA.out.befE.2)
       have HLE := hid (leaf_ents HAL.out.lies)
       have HFW : Hid (∀ x ∈ (p.es : List EntV), x.v.length ≤ 140737488351232) := hid (fun x hx => (H4.out x (by rw [HA.out.flat]; simp [hx])).2)
       obtain ⟨asv, csv, hsv⟩ := row_slice (lies_pg.1 HAL.out.lies).1.row
       have cp0 : w2.cell? ⟨p.pb, 0, none⟩ = some (.slice asv p.es.length csv) := by rw [cell_of_row _ _ _ _ _ _ (lies_pg.1 HAL.out.lies).1.blk, hsv]; rfl
       rw [hsv] at HLE
       have hhit := hid (@leaf_hit p.es key)
       have hmis := hid (@leaf_miss p.es key)
       clear hb2 HA hsv
       generalize hitK ((p.es : List EntV).map EntV.ent) key = hit at *
       generalize atK ((p.es : List EntV).map EntV.ent) key = m at *
       generalize lookL ((p.es : List EntV).map EntV.ent) key = lk at *
       cases hit
       rotate_left
       obtain ⟨x, hx, hxk, hlk⟩ := hhit.out rfl
       have hml : m < (p.es : List EntV).length := (List.getElem?_eq_some_iff.1 hx).1
       obtain ⟨b, off, ka, kc, va, vc, kb, vb, rfl, hbl, hx2, d0, d1, s1, s2⟩ := HLE.out.at m hml
       rw [hx] at hx2
       cases hx2
       have HC := clone8_any _ vb w2 s2 (HFW.out _ (List.mem_of_getElem? hx))
       have hm0 : (0 : Int) ≤ (m : Int) := by omega
       have hm1 : (m : Int) < (p.es.length : Int) := by show (m : Int) < ((p.es : List EntV).length : Int); omega
       have HLK2 := hid hlk
       clear hx hlk s1 s2 d0)
    | (go_at_call 27; refine HC.mono ?_; clear HC; rintro e w3 ⟨v', rfl, hcp, hb3⟩
       obtain ⟨a3, c3, rfl⟩ := hcp.form
       have HCP := hid hcp
       have HB3 := htr HB2 hb3
       have hz3 := hb3.size
       clear hcp hb3))
  · go_ret2
    refine ⟨_, by rw [HHIT.out]; rfl, ?_, HB3.out⟩
    rw [HLK.out, HLK2.out]
    exact owns_lower HCP.out (fun g hg => by have := (HCP.out.lt g hg).1; omega)
  · go_ret2
    have hm0 : lk = none := by first | exact hmis.out rfl | exact hmis.out trivial | simpa using hmis.out
    exact ⟨_, by rw [HHIT.out]; rfl, by rw [HLK.out, hm0]; exact World.ownsRow_nil _ _ _ _, HB2.out⟩
end Go.Proofs.Ytjfipejfejmlaaa
