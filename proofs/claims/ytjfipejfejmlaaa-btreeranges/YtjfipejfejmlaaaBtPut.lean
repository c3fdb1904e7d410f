/- Contract of Put. -/
import Derived.Test.YtjfipejfejmlaaaBtPutP
namespace Go.Proofs.Ytjfipejfejmlaaa
open Go.RowKit Go.Shelf
set_option linter.unusedVariables false
set_option linter.unusedSimpArgs false
set_option maxRecDepth 20000

theorem put_set {xs : List EntV} {key val : List UInt8} {x : EntV} {v' : Value} (hh : hitK (xs.map EntV.ent) key = true) (hx : xs[atK (xs.map EntV.ent) key]? = some x) (hk : x.k = key) :
    putL (xs.map EntV.ent) (key, val) = (xs.set (atK (xs.map EntV.ent) key) ⟨x.kv, v', x.k, val⟩).map EntV.ent := by
  unfold putL
  rw [hh, if_pos rfl, List.map_set]
  have hl : atK (xs.map EntV.ent) key < (xs.map EntV.ent).length := by rw [List.length_map]; exact (List.getElem?_eq_some_iff.1 hx).1
  rw [List.set_eq_take_append_cons_drop, if_pos hl]
  show _ = _ ++ (x.k, val) :: _
  rw [hk]

theorem put_ins {xs : List EntV} {key val : List UInt8} {kv vv : Value} (hh : hitK (xs.map EntV.ent) key = false) :
    putL (xs.map EntV.ent) (key, val) = (xs.take (atK (xs.map EntV.ent) key) ++ [(⟨kv, vv, key, val⟩ : EntV)] ++ xs.drop (atK (xs.map EntV.ent) key)).map EntV.ent := by
  unfold putL
  rw [hh, if_neg (by simp)]
  simp [EntV.ent]

theorem two_ins (xs : List EntV) (m : Nat) (x : EntV) : (xs.take m ++ [x] ++ xs.drop m).flatMap EntV.two = (xs.flatMap EntV.two).take (m * 2) ++ [x.kv, x.vv] ++ (xs.flatMap EntV.two).drop (m * 2) := by
  rw [two_take, two_drop]
  simp [EntV.two]

theorem rises_of {L L' : List EntV} (h : RisesV L) (he : Tri.Rises (L'.map EntV.ent)) : RisesV L' := (risesV_iff L').1 he

set_option maxHeartbeats 8000000 in
theorem btx_put {S : Nat → Prop} {w : World} {tb d : Nat} {P : List (List Ent)} (kv vv : Value) (key val : List UInt8) (h : BTx S w tb P d) (hk : Says w kv key) (hv : Says w vv val) (hfi : Fine (key, val)) (hn : P.flatten.length < 100000) :
    Calls Try.prog 11 #[.pointer (some ⟨tb, 0, none⟩), kv, vv] w fun e w' => e = .returned (.bool (hitK P.flatten key)) ∧ ∃ S' P' d', BTx S' w' tb P' d' ∧ P'.flatten = putL P.flatten (key, val) ∧ (∀ i, S' i → S i ∨ w.heap.size ≤ i) ∧ Spares S w w' := by
  have hd := btx_height h hn
  obtain ⟨K, H, T, h1, h2, h3, h4, rfl, rfl, h7⟩ := h
  have hfe := pagesV_flat T
  rw [hfe] at hn ⊢
  have HW := walk_any H T K tb _ kv key w h1.tree h1.lies h2 h3 hk (by omega)
  obtain ⟨ak, ck, rfl, _⟩ := id hk
  obtain ⟨av, cv, rfl, _⟩ := id hv
  have HK := hid hk
  have HV := hid hv
  have H1 := hid h1
  have H2 := hid h2
  have H3 := hid h3
  have H4 := hid h4
  have H7 := hid h7
  have HFI := hid hfi
  have HN : Hid ((flat (H + 1) T).length < 100000) := hid (by rw [entsV, List.length_map] at hn; exact hn)
  have htl := block_lt h1.tree
  clear h1 h2 h3 h4 hk hv h7 hn hfi hfe
  go_enter Try.func11, Try.ntmps11
  go_wp2_with (first
    | (go_at_call 25; refine HW.mono ?_; clear HW; rintro e w1 ⟨wv, c, p, rfl, hp, hrow, hbf, haf, hb⟩
       obtain ⟨aw, cw, rfl⟩ := row_slice hrow
       have hT1 := H1.out.new hb
       have hA := atLeaf_of hT1.lies H2.out H3.out hp hbf haf
       have HA := hid hA
       have HB := hid hb
       have HWR := hid hrow
       have hz1 := hb.size
       have HF := find_any p.pb p.sv p.fv _ p.es key w1 (lies_pg.1 hA.lies).1.blk (leaf_ents hA.lies) (HK.out.new hb) ((risesV_iff _).2 hA.rises) (by have := hA.few; omega)
       clear hA hT1 hp hbf haf hrow hb)
    | (go_at_call 26; refine HF.mono ?_; clear HF; rintro e w2 ⟨rfl, hb2⟩
       have HB2 := htr HB hb2
       have hz2 := hb2.size
       have HAw : Hid (AtLeaf K w T key c p) := hid (atLeaf_of H1.out.lies H2.out H3.out HA.out.plug HA.out.bef HA.out.aft)
       have HHIT : Hid (hitK (entsV (flat (H + 1) T)) key = hitK ((p.es : List EntV).map EntV.ent) key) := hid (by rw [HA.out.ents]; exact hitK_mid HA.out.befE.1 HA.out.befE.2)
       have HPUT : Hid (putL (entsV (flat (H + 1) T)) (key, val) = entsV c.before ++ putL ((p.es : List EntV).map EntV.ent) (key, val) ++ entsV c.after) := hid (by rw [HA.out.ents]; exact putL_mid val HA.out.befE.1 HA.out.befE.2)
       have HWR2 := hid ((Spares.of_new (S := fun _ => False) hb2).row HWR.out (fun _ _ => id))
       have hleM : atK ((p.es : List EntV).map EntV.ent) key ≤ p.es.length := by have := atK_le ((p.es : List EntV).map EntV.ent) key; rwa [List.length_map] at this
       have hfew := HA.out.few
       have hpbl := block_lt (lies_pg.1 HAw.out.lies).1.blk
       obtain ⟨asv, csv, hsv⟩ := row_slice (lies_pg.1 HAw.out.lies).1.row
       have HSV := hid hsv
       have cp0 : w2.cell? ⟨p.pb, 0, none⟩ = some (.slice asv p.es.length csv) := by rw [cell_of_row _ _ _ _ _ _ ((HB2.out.block _ hpbl).trans (lies_pg.1 HAw.out.lies).1.blk), hsv]; rfl
       clear hsv
       have hhit := hid (@leaf_hit p.es key)
       have hps := hid (fun (x : EntV) (v' : Value) => @put_set p.es key val x v')
       have hpi := hid (fun (kv vv : Value) => @put_ins p.es key val kv vv)
       clear hb2 HA HWR
       generalize hitK ((p.es : List EntV).map EntV.ent) key = hit at *
       generalize atK ((p.es : List EntV).map EntV.ent) key = m at *
       cases hit
       rotate_left))
  · -- it is there
    have hhit' := hhit.out (by first | rfl | trivial)
    obtain ⟨x, hx, hxk, _⟩ := hhit'
    have hml : m < (p.es : List EntV).length := (List.getElem?_eq_some_iff.1 hx).1
    have hat := (lies_pg.1 HAw.out.lies).1
    obtain ⟨b, cap, hsv, cur, hbh, hcs, hct⟩ : ∃ b cap, p.sv = .slice (some ⟨b, 0, none⟩) p.es.length cap ∧ ∃ cur : Array Value, w.heap[b]? = some (.cells cur 46 (0, 0)) ∧ cur.size = cap * 2 ∧ cur.toList.take ((p.es : List EntV).length * 2) = (p.es : List EntV).flatMap EntV.two := by
      rcases hat.row.2 with ⟨e, h0⟩ | ⟨g, cap, cur, e, _, hg, _, _, q3, q4⟩
      · have h0' : (p.es : List EntV).length = 0 := h0
        omega
      · exact ⟨g, cap, e, cur, hg, q3, q4⟩
    have hbl := block_lt hbh
    have hbpb : p.pb ≠ b := fun e => by rw [← e, hat.blk] at hbh; cases hbh
    have hasv : asv = some ⟨b, 0, none⟩ ∧ csv = cap := by
      have := HSV.out
      rw [hsv] at this
      simp only [Value.slice.injEq] at this
      exact ⟨this.1.symm, this.2.2.symm⟩
    obtain ⟨rfl, rfl⟩ := hasv
    have c1 : w.cell? ⟨b, m * 2 + 1, none⟩ = some x.vv := by
      obtain ⟨_, f1⟩ := flat_two p.es m x hx
      rw [← hct, List.getElem?_take, if_pos (by omega), Array.getElem?_toList] at f1
      rw [cell_of_row _ _ _ _ _ _ hbh]
      exact f1
    have hS2 : w2.drew.cell? ⟨p.pb, 0, none⟩ = some (.slice (some ⟨b, 0, none⟩) p.es.length csv) := by
      show w2.cell? _ = _
      rw [cell_of_row _ _ _ _ _ _ ((HB2.out.block _ hpbl).trans hat.blk), hsv]
      rfl
    have HBd : Hid (Below w.heap.size w w2.drew) := hid HB2.out.drew
    have HC := clone8_any (.slice av val.length cv) val w2.drew (HV.out.new HBd.out) HFI.out.2
    have hm0 : (0 : Int) ≤ (m : Int) := by omega
    have hm1 : (m : Int) < (p.es.length : Int) := by show (m : Int) < ((p.es : List EntV).length : Int); omega
    have HX := hid hx
    have HBH := hid hbh
    have HC1 := hid c1
    have hzd : w.heap.size ≤ w2.drew.heap.size := HBd.out.size
    clear hat hct hcs hbh hsv hx c1 hml
    go_wp2_with fail
    go_region_held3 (fun w' => w'.cell? ⟨p.pb, 0, none⟩ = some (.slice (some ⟨b, 0, none⟩) p.es.length csv))
      (first | assumption | go_keep)
      ((go_at_call 27; refine HC.mono ?_; clear HC; rintro e w3 ⟨v', rfl, hcp, hb3⟩
        obtain ⟨a3, c3, rfl⟩ := hcp.form
        have hS3 : w3.cell? ⟨p.pb, 0, none⟩ = some (.slice (some ⟨b, 0, none⟩) p.es.length csv) := (hb3.cell (p := ⟨p.pb, 0, none⟩) (by show p.pb < _; omega)).trans hS2
        have HB3 := htr HBd hb3
        have c3' : w3.cell? ⟨b, m * 2 + 1, none⟩ = some x.vv := (HB3.out.cell (p := ⟨b, m * 2 + 1, none⟩) hbl).trans HC1.out
        have hS4 : (w3.setCell ⟨b, m * 2 + 1, none⟩ (.slice a3 val.length c3)).cell? ⟨p.pb, 0, none⟩ = some (.slice (some ⟨b, 0, none⟩) p.es.length csv) := (spares_set w3 ⟨b, m * 2 + 1, none⟩ _).cell hS3 hbpb
        have f3' : w3.frozen? ⟨b, m * 2 + 1, none⟩ = false := by simp [World.frozen?, (HB3.out.block b hbl).trans HBH.out]
        have HCP := hid (owns_lower hcp (B' := w.heap.size) (fun g hg => by have := (hcp.lt g hg).1; omega))
        clear hcp hb3))
    go_wp2_with fail
    go_ret
    obtain ⟨S', P', d', r1, r2, r3, r4⟩ := leaf_set H1.out H2.out H3.out H4.out H7.out HAw.out HX.out HSV.out HB3.out HCP.out HFI.out.2
    refine ⟨by rw [HHIT.out]; rfl, S', P', d', r1, ?_, r3, r4⟩
    rw [r2, HPUT.out, hps.out x (.slice a3 val.length c3) (by first | rfl | trivial) HX.out hxk]
    simp [entsV]
  · -- it is not
    have hins := hpi.out
    have hat := (lies_pg.1 HAw.out.lies).1
    have hsv := HSV.out
    have hle := (lies_pg.1 HAw.out.lies).2.2
    have hcs1 : ∀ u ∈ (p.es : List EntV).flatMap EntV.two, u.oneCell' = true := fun u hu => by
      obtain ⟨y, hy, hu⟩ := List.mem_flatMap.1 hu
      have := hle y hy
      simp only [EntV.two, List.mem_cons, List.not_mem_nil, or_false] at hu
      rcases hu with rfl | rfl
      · obtain ⟨a9, l9, c9, e9⟩ := says_slice this.1; rw [e9]; rfl
      · obtain ⟨a9, l9, c9, e9⟩ := says_slice this.2.1; rw [e9]; rfl
    have hrw : Rw w 2 p.sv p.es.length ((p.es : List EntV).flatMap EntV.two) := rw_of_owns hat.row hcs1
    rw [hsv] at hrw
    have HC1 := cutE_any _ p.es.length _ m w2 (hrw.new HB2.out) hleM (by omega)
    have hpblk := hat.blk
    have HBLK := hid hpblk
    have HFEW := hid hfew
    have hlen5 : p.es.length ≤ 4 := hfew
    clear hat hle hcs1 hrw hsv hpblk hfew
    have hn1 : (0 : Int) ≤ ((flat (H + 1) T).length : Int) := by omega
    have hn2 : ((flat (H + 1) T).length : Int) < 100000 := by have := HN.out; omega
    go_wp2_with (first
      | (go_at_call 28; refine HC1.mono ?_; clear HC1; rintro e w3 ⟨⟨la, ra, rc, rfl, hl3, hr3, _⟩, hb3⟩
         have HB3 := htr HB2 hb3
         have HCL := entry_any _ _ key val w3 (HK.out.new HB3.out) (HV.out.new HB3.out) HFI.out.1 HFI.out.2
         have HL3 := hid hl3
         have HR3 := hid hr3
         have HWR3 := hid ((Spares.of_new (S := fun _ => False) hb3).row HWR2.out (fun _ _ => id))
         have hz3 := hb3.size
         clear hl3 hr3 hb3 cp0)
      | (go_at_call 29; refine HCL.mono ?_; clear HCL; rintro e w4 ⟨kv', vv', rfl, hck, hcv, hap, hb4⟩
         obtain ⟨a8, c8, rfl⟩ := hck.form
         obtain ⟨a9, c9, rfl⟩ := hcv.form
         have HB4 := htr HB3 hb4
         have HWR4 := hid ((Spares.of_new (S := fun _ => False) hb4).row HWR3.out (fun _ _ => id))
         have hz4 := hb4.size
         have hbA := new_alloc w4 (.cells #[.slice a8 key.length c8, .slice a9 val.length c9] 46)
         have hzA : (w4.alloc (.cells #[.slice a8 key.length c8, .slice a9 val.length c9] 46)).heap.size = w4.heap.size + 1 := World.size_alloc _ _
         have HLA := hid ((HL3.out.new hb4).new hbA)
         have HRA := hid ((HR3.out.new hb4).new hbA)
         have HBA := htr HB4 hbA
         have HSRC : Hid (Rw (w4.alloc (.cells #[.slice a8 key.length c8, .slice a9 val.length c9] 46)) 2 (.slice (some ⟨w4.heap.size, 0, none⟩) 1 1) 1 [.slice a8 key.length c8, .slice a9 val.length c9]) := hid ⟨_, 1, rfl, Nat.le_refl _, by unfold maxLen; omega, rfl, fun e => (by cases e), fun ad e => ⟨w4.heap.size, 0, (by cases e; rfl), by omega, fun j u hu => (by have := two_cells w4 (.slice a8 key.length c8) (.slice a9 val.length c9) 46 j u hu; rw [addr_add] at this; exact this)⟩, fun u hu => (by simp at hu; rcases hu with rfl | rfl <;> rfl)⟩
         have HCK := hid hck
         have HCV := hid hcv
         clear hck hcv hap hb4 hbA HL3 HR3)
      | (at_builtin; refine wpList_append_full _ rfl (.tmp 45) (.tmp 50) 27 46 (.agg #[.slice none 0 0, .slice none 0 0]) 2 48 rfl Try.underlying27 Try.infoEntryZ rfl (by decide) la m m _ rfl HLA.out rfl _ 1 _ rfl HSRC.out (by decide) ?d1 ?d2 ?_))
    case d1 => unfold maxLen; omega
    case d2 => omega
    intro v5 w5 ho5 hg5
    obtain ⟨a5, c5, rfl⟩ := row_slice ho5
    have hb5 : Below (w4.alloc (.cells #[.slice a8 key.length c8, .slice a9 val.length c9] 46)).heap.size (w4.alloc (.cells #[.slice a8 key.length c8, .slice a9 val.length c9] 46)) w5 := (Below.refl _ _).grown hg5 (Nat.le_refl _) (fun q hq => by cases hq)
    have HO5 := hid ho5
    have HR5 := hid (HRA.out.new hb5)
    have HB5 := htr HBA hb5
    have hz5 := hb5.size
    clear ho5 hg5 HLA HRA HSRC
    go_wp2_with (first
      | (at_builtin; refine wpList_append_rw _ rfl (.tmp 51) (.tmp 52) 27 46 (.agg #[.slice none 0 0, .slice none 0 0]) 2 48 rfl Try.underlying27 Try.infoEntryZ rfl (by decide) (w4.heap.size + 1) _ _ _ rfl HO5.out _ (p.es.length - m) _ rfl HR5.out ?d3 ?d4 ?d5 ?_))
    case d3 => unfold maxLen; omega
    case d4 => omega
    case d5 => omega
    intro v6 w6 ho6 hg6 _
    obtain ⟨a6, c6, rfl⟩ := row_slice ho6
    have hb46 : Below (w4.alloc (.cells #[.slice a8 key.length c8, .slice a9 val.length c9] 46)).heap.size (w4.alloc (.cells #[.slice a8 key.length c8, .slice a9 val.length c9] 46)) w6 := hb5.grown hg6 hb5.size (fun q hq => by have := (HO5.out.lt q hq).1; omega)
    have HB6 := htr HBA hb46
    have HO6 := hid ho6
    have hz6 := hb46.size
    have hp6 := (HB6.out.block _ hpbl).trans HBLK.out
    have q6 : w6.cell? ⟨p.pb, 0, none⟩ = some (.slice asv p.es.length csv) := by rw [cell_of_row _ _ _ _ _ _ hp6, HSV.out]; rfl
    have f6 : w6.frozen? ⟨p.pb, 0, none⟩ = false := by simp [World.frozen?, hp6]
    obtain ⟨sv6, hsv6⟩ : ∃ sv6, Value.slice a6 (m + 1 + (p.es.length - m)) c6 = sv6 := ⟨_, rfl⟩
    obtain ⟨es', hes'⟩ : ∃ es' : List EntV, (p.es : List EntV).take m ++ [(⟨.slice a8 key.length c8, .slice a9 val.length c9, key, val⟩ : EntV)] ++ (p.es : List EntV).drop m = es' := ⟨_, rfl⟩
    have hel : es'.length = m + 1 + (p.es.length - m) := by
      rw [← hes', List.length_append, List.length_append, List.length_take, List.length_drop]
      have : m ≤ (p.es : List EntV).length := hleM
      show min m (p.es : List EntV).length + 1 + ((p.es : List EntV).length - m) = m + 1 + ((p.es : List EntV).length - m)
      omega
    have hrow6 : w6.ownsRow (w4.heap.size + 1) 46 2 sv6 es'.length (es'.flatMap EntV.two) := by
      rw [hel, ← hes', two_ins, ← hsv6]
      simpa using HO6.out
    have hKn : ∀ i, ((Value.slice a8 key.length c8).ownBlock = some i ∨ (Value.slice a9 val.length c9).ownBlock = some i) → w3.heap.size ≤ i ∧ i < w4.heap.size := fun i hi => hi.elim (fun h => HCK.out.lt i h) (fun h => HCV.out.lt i h)
    have hz36 : w4.heap.size + 1 ≤ w6.heap.size := by omega
    have hlies6 : ∀ x ∈ es', Lies 0 (fun i => K i ∨ (Value.slice a8 key.length c8).ownBlock = some i ∨ (Value.slice a9 val.length c9).ownBlock = some i) w6 x := fun x hx => by
      have hold : ∀ y ∈ (p.es : List EntV), Lies 0 (fun i => K i ∨ (Value.slice a8 key.length c8).ownBlock = some i ∨ (Value.slice a9 val.length c9).ownBlock = some i) w6 y := fun y hy =>
        (((lies_pg.1 HAw.out.lies).2.2 y hy).new HB6.out).mono fun i hi => .inl hi
      rw [← hes'] at hx
      rcases List.mem_append.1 hx with hx | hx
      · rcases List.mem_append.1 hx with hx | hx
        · exact hold x (List.mem_of_mem_take hx)
        · rw [List.mem_singleton.1 hx]
          have hb46' : Below w4.heap.size w4 w6 := (new_alloc w4 _).trans (hb46.mono (by omega))
          exact ⟨(HCK.out.new hb46').says, (HCV.out.new hb46').says, fun g hg => .inr (.inl hg), fun g hg => .inr (.inr hg)⟩
      · exact hold x (List.mem_of_mem_drop hx)
    have HLN := hid (leaf_new (cnt' := ((flat (H + 1) T).length : Int) + 1) H1.out HAw.out (Spares.of_new HB6.out) (owns_lower hrow6 (fun _ _ => Nat.zero_le _)) (fun g hg => .inr (by have := (hrow6.lt g hg).1; omega)) hlies6 (fun i hi => .inl hi)
      (fun i hi => hi.imp id fun h => ⟨by have := (hKn i h).1; omega, by have := (hKn i h).2; omega, fun e => by have := (hrow6.lt i e).1; have := (hKn i h).2; omega⟩) (by rw [hel]; omega) (fun _ => by rw [hel]; omega))
    have ht7 := HLN.out.2.2.2.1
    have q7 : (w6.setCell ⟨p.pb, 0, none⟩ sv6).cell? ⟨tb, 1, none⟩ = some (.int .i64 ((flat (H + 1) T).length : Nat)) := by rw [cell_of_row _ _ _ _ _ _ ht7]; rfl
    have f7 : (w6.setCell ⟨p.pb, 0, none⟩ sv6).frozen? ⟨tb, 1, none⟩ = false := by simp [World.frozen?, ht7]
    have hwr8 : ((w6.setCell ⟨p.pb, 0, none⟩ sv6).setCell ⟨tb, 1, none⟩ (.int .i64 (((flat (H + 1) T).length : Int) + 1))).ownsRow 0 84 2 (.slice aw c.turns.length cw) c.turns.length (turnC c.turns) := by
      have h1 := owns_lower HWR4.out (B' := 0) (fun _ _ => Nat.zero_le _)
      have hb46' : Below w4.heap.size w4 w6 := (new_alloc w4 _).trans (hb46.mono (by omega))
      have hgl : ∀ g, (Value.slice aw c.turns.length cw).ownBlock = some g → w.heap.size ≤ g := fun g hg => (HWR4.out.lt g hg).1
      have h2 := (Spares.of_new (S := fun _ => False) hb46').row h1 (fun _ _ => id)
      exact (spares_set _ ⟨tb, 1, none⟩ _).row ((spares_set w6 ⟨p.pb, 0, none⟩ _).row h2 (fun g hg e => by have h3 := hgl g hg; have e2 : g = p.pb := e; omega)) (fun g hg e => by have h3 := hgl g hg; have e2 : g = tb := e; omega)
    have htn : c.turns.length < 1000 := by
      have h8 := c.plug_height p
      rw [HAw.out.plug] at h8
      have h9 : H = 0 + c.turns.length := h8
      omega
    have HM := tmend_any _ _ tb _ c p.pb sv6 p.fv _ (.slice aw c.turns.length cw) HLN.out.1 hwr8 htn
    have HES := hid hes'
    have HINS := hid (hins (.slice a8 key.length c8) (.slice a9 val.length c9) (by first | rfl | trivial))
    have HKN := hid hKn
    have HEL := hid hel
    clear ht7 hwr8 hlies6 hrow6 hKn hel hes' hins HO5 HO6 hp6 hg6 ho6
    subst hsv6
    go_wp2_with (go_at_call 30; refine HM.mono ?_; clear HM; rintro e w9 ⟨⟨v9, rfl⟩, H', T', t1, t2, t3, t4, t5⟩)
    go_ret
    rw [flatL_zero] at t3
    have hEnt : entsV (c.before ++ es' ++ c.after) = putL (entsV (flat (H + 1) T)) (key, val) := by
      rw [HPUT.out, HINS.out, HES.out]
      simp [entsV]
    have hLlen : ((flat (H + 1) T).length : Int) + 1 = ((c.before ++ es' ++ c.after).length : Nat) := by
      have h8 := congrArg List.length hEnt
      rw [putL_length, HHIT.out] at h8
      simp only [entsV, List.length_map] at h8
      rw [h8]
      simp
    have hRis : RisesV (c.before ++ es' ++ c.after) := (risesV_iff _).1 (by
      show Tri.Rises (entsV _)
      rw [hEnt]
      exact putL_rises _ ((risesV_iff _).2 H3.out) _)
    have hFin : ∀ x ∈ c.before ++ es' ++ c.after, Fine x.ent := fun x hx => by
      have h8 : x.ent ∈ entsV (c.before ++ es' ++ c.after) := List.mem_map.2 ⟨x, hx, rfl⟩
      rw [hEnt] at h8
      exact fine_put ((risesV_iff _).2 H3.out) (fun e he => by obtain ⟨y, hy, rfl⟩ := List.mem_map.1 he; exact H4.out y hy) HFI.out _ h8
    obtain ⟨S', d', r1, r2, r3, r4⟩ := btx_of_mend H1.out H7.out HAw.out HLN.out.2.2.1 (fun i hi => hi.imp id fun h => by have := (HKN.out i h).1; omega) HLN.out.2.1 t1 t2 t3 hLlen hRis hFin t4 t5
    exact ⟨by rw [HHIT.out]; rfl, S', _, d', r1, by rw [r2, hEnt], r3, r4⟩
end Go.Proofs.Ytjfipejfejmlaaa
