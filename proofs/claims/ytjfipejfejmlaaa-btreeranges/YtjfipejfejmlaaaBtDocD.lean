/- Contracts of the document's own In and Range (stage 14). -/
import Derived.Test.YtjfipejfejmlaaaBtDocC
namespace Go.Proofs.Ytjfipejfejmlaaa
open Go.RowKit Go.Shelf
set_option linter.unusedVariables false
set_option linter.unusedSimpArgs false
set_option maxRecDepth 20000

set_option maxHeartbeats 4000000 in
theorem xin_any (fv tv kv : Value) (en : Bool) (a b key : List UInt8) (w : World) (hf : Says w fv a) (ht : Says w tv b) (hk : Says w kv key) :
    Calls Try.prog 21 #[.agg #[fv, tv, .bool en], kv] w fun e w' => e = .returned (.bool (inSp a b en key)) ∧ Below w.heap.size w w' := by
  have hb : Below w.heap.size w (w.alloc (.cells #[fv, tv, .bool en] 32)) := Below.alloc (Below.refl _ _) (Nat.le_refl _) _
  have e1 := str4 (hf.new hb)
  have e2 := str4 (ht.new hb)
  have e3 := str4 (hk.new hb)
  obtain ⟨a1, c1, rfl, _⟩ := id hf
  obtain ⟨a2, c2, rfl, _⟩ := id ht
  obtain ⟨a3, c3, rfl, _⟩ := id hk
  have hin : inSp a b en key = (!Op.bytesLess (str8 key).toList (str8 a).toList && (!en || Op.bytesLess (str8 key).toList (str8 b).toList)) := by rw [str8_toList, str8_toList, str8_toList]; rfl
  rw [hin]
  have HB := hid hb
  clear hf ht hk hb hin
  generalize str8 key = S3 at *
  generalize str8 a = S1 at *
  generalize str8 b = S2 at *
  obtain ⟨r1, h1⟩ : ∃ r, Op.bytesLess S3.toList S1.toList = r := ⟨_, rfl⟩
  obtain ⟨r2, h2⟩ : ∃ r, Op.bytesLess S3.toList S2.toList = r := ⟨_, rfl⟩
  rw [h1, h2]
  cases r1 <;> cases en <;> cases r2 <;>
  · go_enter Try.func21, Try.ntmps21
    go_wp2
    go_ret
    exact ⟨rfl, HB.out⟩

/-- Those in a span. -/
def spanE (a b : List UInt8) (en : Bool) (xs : List EntV) : List EntV := xs.filter fun x => inSp a b en x.k

theorem spanE_snoc (a b : List UInt8) (en : Bool) (xs : List EntV) (k : Nat) (x : EntV) (h : xs[k]? = some x) : spanE a b en (xs.take (k + 1)) = if inSp a b en x.k then spanE a b en (xs.take k) ++ [x] else spanE a b en (xs.take k) := by
  have hk := (List.getElem?_eq_some_iff.1 h).1
  rw [List.take_succ_eq_append_getElem hk, (List.getElem?_eq_some_iff.1 h).2]
  simp only [spanE, List.filter_append, List.filter_cons, List.filter_nil]
  split <;> simp

theorem spanE_length (a b : List UInt8) (en : Bool) (xs : List EntV) : (spanE a b en xs).length ≤ xs.length := List.length_filter_le _ _

theorem spanE_map (a b : List UInt8) (en : Bool) (xs : List EntV) : (spanE a b en xs).map EntV.ent = rangeL (xs.map EntV.ent) a b en := by
  unfold spanE rangeL
  rw [List.filter_map]
  rfl

/-- A row of entries made anew, of slices that are there already. -/
theorem ents_of_row {B : Nat} {w w' : World} {v sv : Value} {xs ys : List EntV} (hE : Ents w.heap.size w v xs) (hb : Below w.heap.size w w') (hr : w'.ownsRow B 46 2 sv ys.length (ys.flatMap EntV.two)) (hs : ∀ y ∈ ys, y ∈ xs) : Ents w'.heap.size w' sv ys := by
  rcases hr.2 with ⟨rfl, h0⟩ | ⟨g, cap, cur, rfl, hB, hg, h1, h2, h3, h4⟩
  · have : ys = [] := List.eq_nil_of_length_eq_zero h0
    subst this
    exact ⟨none, 0, rfl, Nat.le_refl _, by unfold maxLen; omega, fun h => absurd rfl h⟩
  · refine ⟨_, cap, rfl, h1, h2, fun hne => ⟨g, 0, rfl, (Array.getElem?_eq_some_iff.1 hg).1, fun j x hx => ?_⟩⟩
    have hj : j < ys.length := (List.getElem?_eq_some_iff.1 hx).1
    obtain ⟨f0, f1⟩ := flat_two ys j x hx
    rw [← h4, List.getElem?_take, if_pos (by omega), Array.getElem?_toList] at f0 f1
    have hm : x ∈ xs := hs x (List.mem_of_getElem? hx)
    obtain ⟨i, hi⟩ := List.getElem?_of_mem hm
    obtain ⟨a, c, _, _, _, hE2⟩ := hE
    obtain ⟨b, off, _, _, hE3⟩ := hE2 (by intro e; rw [e] at hm; cases hm)
    obtain ⟨_, _, s1, s2⟩ := hE3 i x hi
    refine ⟨?_, ?_, Says.new s1 hb, Says.new s2 hb⟩
    · rw [cell_of_row _ _ _ _ _ _ hg, Nat.zero_add]; exact f0
    · rw [cell_of_row _ _ _ _ _ _ hg, Nat.zero_add]; exact f1

set_option maxHeartbeats 8000000 in
theorem xrange_any (S : Nat → Prop) (xb : Nat) (xs : List EntV) (fv tv : Value) (en : Bool) (la lb : List UInt8) (w : World) (h : XS S w xb xs) (hf : Says w fv la) (ht : Says w tv lb) (hn : xs.length < 1000000) :
    Calls Try.prog 36 #[.pointer (some ⟨xb, 0, none⟩), .agg #[fv, tv, .bool en]] w fun e w' => ∃ sv, e = .returned sv ∧ Ents w'.heap.size w' sv (spanE la lb en xs) ∧ Below w.heap.size w w' := by
  obtain ⟨⟨sv, hx, hE⟩, hxb, hlt⟩ := h
  obtain ⟨a, c, rfl, hc1, hc2, _⟩ := id hE.ents
  unfold maxLen at hc2
  obtain ⟨a1, c1, rfl, _⟩ := id hf
  obtain ⟨a2, c2, rfl, _⟩ := id ht
  have hxbz : xb < w.heap.size := block_lt hx
  have hb0 : Below w.heap.size w (w.alloc (.cells #[.slice a1 la.length c1, .slice a2 lb.length c2, .bool en] 32)) := Below.alloc (Below.refl _ _) (Nat.le_refl _) _
  have hz0 : (w.alloc (.cells #[.slice a1 la.length c1, .slice a2 lb.length c2, .bool en] 32)).heap.size = w.heap.size + 1 := size_alloc1 _ _
  have HF : Hid (∀ W, Below (w.heap.size + 1) (w.alloc (.cells #[.slice a1 la.length c1, .slice a2 lb.length c2, .bool en] 32)) W → W.cell? ⟨xb, 0, none⟩ = some (.slice a xs.length c) ∧ W.cell? ⟨w.heap.size, 0, none⟩ = some (.slice a1 la.length c1) ∧ W.cell? ⟨w.heap.size, 1, none⟩ = some (.slice a2 lb.length c2) ∧ W.cell? ⟨w.heap.size, 2, none⟩ = some (.bool en)) := hid (fun W hW => by
    have q1 : W.heap[xb]? = _ := (hW.block _ (by omega)).trans ((hb0.block _ hxbz).trans hx)
    have q2 : W.heap[w.heap.size]? = _ := (hW.block _ (by omega)).trans (heap_alloc_new w _)
    exact ⟨by simp [World.cell?, q1], by simp [World.cell?, q2], by simp [World.cell?, q2], by simp [World.cell?, q2]⟩)
  have HG : Hid (∀ W, Below (w.heap.size + 1) (w.alloc (.cells #[.slice a1 la.length c1, .slice a2 lb.length c2, .bool en] 32)) W → Below w.heap.size w W ∧ Ents W.heap.size W (.slice a xs.length c) xs ∧ Says W (.slice a1 la.length c1) la ∧ Says W (.slice a2 lb.length c2) lb) := hid (fun W hW => by
    have hb := hb0.trans (hW.mono (Nat.le_succ _))
    exact ⟨hb, hE.ents.new hb, hf.new hb, ht.new hb⟩)
  have HE := hid hE.ents
  clear hE hx hf ht hlt hxb hb0
  obtain ⟨i0, hi, hz1, hz2, hz3⟩ := info_parts Try.infoEntryZ
  go_enter Try.func36, Try.ntmps36
  go_wp2_with fail
  generalize hw1 : w.alloc (.cells #[.slice a1 la.length c1, .slice a2 lb.length c2, .bool en] 32) = w1 at *
  go_loopw [5, 6] (fun s5 s6 wr => ∃ k : Nat, k ≤ xs.length ∧ s6 = .int .i64 (k : Int) ∧ (∃ sa sn sc, s5 = .slice sa sn sc) ∧ Hid (wr.ownsRow (w.heap.size + 1) 46 2 s5 (spanE la lb en (xs.take k)).length ((spanE la lb en (xs.take k)).flatMap EntV.two)) ∧ Hid (Below (w.heap.size + 1) w1 wr)) (fun _ s6 _ => xs.length - (intOf s6).toNat)
  case atStart => exact ⟨0, by omega, rfl, ⟨_, _, _, rfl⟩, hid (World.ownsRow_nil _ _ _ _), hid (Below.refl _ _)⟩
  case round =>
    obtain ⟨k, hk, rfl, ⟨sa, sn, sc, rfl⟩, HO, HB⟩ := hrel
    obtain ⟨r1, r2, r3, r4⟩ := HF.out wr HB.out
    have hzr : w.heap.size + 1 ≤ wr.heap.size := by have := HB.out.size; omega
    by_cases hlt : k < xs.length
    · obtain ⟨g1, g2, g3, g4⟩ := HG.out wr HB.out
      obtain ⟨b, off, ka, kc, va, vc, kb, vb, rfl, hb, hx, c0, c1', s1, s2⟩ := g2.at k hlt
      have hki : (k : Int) < (xs.length : Int) := by omega
      have hk0 : (0 : Int) ≤ (k : Int) := by omega
      have HIN := hid (fun (W : World) (hW : Below wr.heap.size wr W) => xin_any (.slice a1 la.length c1) (.slice a2 lb.length c2) (.slice ka kb.length kc) en la lb kb W (g3.new hW) (g4.new hW) (Says.new s1 hW))
      have HK : Hid (∀ W, Below wr.heap.size wr W → W.cell? ⟨b, off + k * 2, none⟩ = some (.slice ka kb.length kc) ∧ W.cell? ⟨b, off + k * 2 + 1, none⟩ = some (.slice va vb.length vc)) := hid (fun W hW => ⟨by rw [hW.cell (p := ⟨b, off + k * 2, none⟩) hb]; exact c0, by rw [hW.cell (p := ⟨b, off + k * 2 + 1, none⟩) hb]; exact c1'⟩)
      have hsn := spanE_snoc la lb en xs k _ hx
      simp only at hsn
      obtain ⟨r, hr⟩ : ∃ r, inSp la lb en kb = r := ⟨_, rfl⟩
      rw [hr] at hsn
      simp only [hr] at HIN
      have HSN := hid hsn
      have HKX := hid hlt
      have hB0 : Below wr.heap.size wr wr.drew := below_drewN _ wr 1
      have HI0 := HIN.out wr.drew hB0
      clear g1 g2 g3 g4 hx s1 s2 hsn hr
      go_wp2_with fail
      go_region_held3 (fun w' => w'.cell? ⟨xb, 0, none⟩ = some (.slice (some ⟨b, off, none⟩) xs.length c) ∧ w'.cell? ⟨w.heap.size, 0, none⟩ = some (.slice a1 la.length c1) ∧ w'.cell? ⟨w.heap.size, 1, none⟩ = some (.slice a2 lb.length c2) ∧ w'.cell? ⟨w.heap.size, 2, none⟩ = some (.bool en) ∧ w'.cell? ⟨b, off + k * 2, none⟩ = some (.slice ka kb.length kc))
        (first | exact ⟨r1, r2, r3, r4, c0⟩ | assumption)
        ((go_at_call 21; refine HI0.mono ?_; clear HI0; rintro e w2 ⟨rfl, hw2⟩
          have hb2 : Below wr.heap.size wr w2 := hB0.trans hw2
          have hc2' : w2.cell? ⟨xb, 0, none⟩ = some (.slice (some ⟨b, off, none⟩) xs.length c) ∧ w2.cell? ⟨w.heap.size, 0, none⟩ = some (.slice a1 la.length c1) ∧ w2.cell? ⟨w.heap.size, 1, none⟩ = some (.slice a2 lb.length c2) ∧ w2.cell? ⟨w.heap.size, 2, none⟩ = some (.bool en) ∧ w2.cell? ⟨b, off + k * 2, none⟩ = some (.slice ka kb.length kc) := by
            obtain ⟨u1, u2, u3, u4⟩ := HF.out w2 (HB.out.trans (hb2.mono hzr))
            exact ⟨u1, u2, u3, u4, (HK.out w2 hb2).1⟩))
      have HB2 := hid (HB.out.trans (hb2.mono hzr))
      have HO2 := hid ((Spares.of_new (S := fun _ => False) hb2).row HO.out (fun _ _ => id))
      have k1 := (HF.out w2 HB2.out).1
      have k2 := (HK.out w2 hb2).1
      have k3 := (HK.out w2 hb2).2
      have hz2' := HB2.out.size
      clear hb2 hc2' hw2 hB0 HIN HK r1 r2 r3 r4 c0 c1' HO HB
      cases r with
      | false =>
        have hsn2 : spanE la lb en (xs.take (k + 1)) = spanE la lb en (xs.take k) := by rw [HSN.out]; rfl
        go_wp2_with fail
        go_roundw
        case rel => exact ⟨k + 1, HKX.out, by go_num, ⟨_, _, _, rfl⟩, by rw [hsn2]; exact HO2, HB2⟩
        case measure => have := HKX.out; simp [intOf]; omega
      | true =>
        have hbl : (spanE la lb en (xs.take k)).length < 1000000000 := by have h1 := spanE_length la lb en (xs.take k); simp at h1; omega
        go_wp2_with (first
          | (at_builtin; refine wpList_append_own _ rfl (.tmp 28) (.tmp 36) 27 rfl (w.heap.size + 1) 46 i0 _ 2 48 Try.underlying27 hi hz1 hz2 hz3 rfl (by decide) _ _ _ rfl ((Spares.of_new (S := fun _ => False) ((Below.refl _ _).alloc (Nat.le_refl _) _)).row HO2.out (fun _ _ => id)) ⟨w2.heap.size, 0, none⟩ 1 1 [.slice ka kb.length kc, .slice va vb.length vc] rfl rfl ?d1 ?d2 ?d3 ?d4 ?d5 ?_))
        case d2 => exact ⟨rfl, rfl⟩
        case d3 => unfold maxLen; omega
        case d4 => omega
        case d5 => first | omega | (simp; omega)
        intro vA wA hownA hgA _
        have HBA : Hid (Below (w.heap.size + 1) w1 wA) := hid ((HB2.out.alloc (by omega) _).grown hgA (by simp; omega) (fun q hq => (HO2.out.lt q hq).1))
        obtain ⟨sa', sn', sc', rfl⟩ : ∃ a n c, vA = .slice a n c := by
          rcases hownA.2 with ⟨rfl, _⟩ | ⟨g, cap, cur, rfl, _⟩
          · exact ⟨none, 0, 0, rfl⟩
          · exact ⟨_, _, _, rfl⟩
        have HOA : Hid (wA.ownsRow (w.heap.size + 1) 46 2 (.slice sa' sn' sc') (spanE la lb en (xs.take (k + 1))).length ((spanE la lb en (xs.take (k + 1))).flatMap EntV.two)) := hid (by
          rw [HSN.out]
          simpa [EntV.two] using hownA)
        clear hownA hgA HO2 HB2
        go_wp2
        go_roundw
        case rel => exact ⟨k + 1, HKX.out, by go_num, ⟨_, _, _, rfl⟩, HOA, HBA⟩
        case measure => have := HKX.out; simp [intOf]; omega
    · have hki : ¬ (k : Int) < (xs.length : Int) := by omega
      have hkk : k = xs.length := by omega
      have HFIN : Hid (Ents wr.heap.size wr (.slice sa sn sc) (spanE la lb en xs) ∧ Below w.heap.size w wr) := hid (by
        have ho := HO.out
        rw [hkk, List.take_length] at ho
        exact ⟨ents_of_row HE.out (HG.out wr HB.out).1 ho (fun y hy => (List.mem_filter.1 hy).1), (HG.out wr HB.out).1⟩)
      go_wp2
      go_ret
      exact ⟨_, rfl, HFIN.out⟩
end Go.Proofs.Ytjfipejfejmlaaa
