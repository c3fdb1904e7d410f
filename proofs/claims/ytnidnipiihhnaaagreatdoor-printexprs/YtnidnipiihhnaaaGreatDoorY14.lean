/- Packed for the hand-in: WExprB -/
import Derived.Test.YtnidnipiihhnaaaGreatDoorY12
namespace Go.Proofs.YtnidnipiihhnaaaGreatDoor
open Go.RowKit Go.Shelf
set_option linter.unusedSimpArgs false
set_option linter.unusedVariables false
set_option maxRecDepth 20000
set_option maxHeartbeats 8000000
theorem boxes3W (w : World) (A B C : Obj) : ∃ W, ((w.alloc A).alloc B).alloc C = W ∧ Below w.heap.size w W ∧ w.heap.size + 1 + 1 < W.heap.size ∧ W.heap[w.heap.size]? = some A ∧ W.heap[w.heap.size + 1]? = some B ∧ W.heap[w.heap.size + 1 + 1]? = some C := by
  obtain ⟨W, h1, h2, h3, h4⟩ := three w A B C
  refine ⟨W, h1, h2, World.lt_of_block h4, ?_, h3, h4⟩
  rw [← h1, Below.heap_alloc _ _ _ (by simp; omega), Below.heap_alloc _ _ _ (by simp)]
  exact heap_alloc_new w A
theorem operation_w (o : Int) (h1 : 1 ≤ o) (h2 : o ≤ 13) (a b : Tm) (hoka : a.ok) (hokb : b.ok) (hA : WrX a) (hB : WrX b) (va vb : Value)
    (g : Nat) (tb : Option Nat) (L : List Tk) (d m : Int) (w : World) (h : WrAt w g tb L d m) (hxa : ExV (fun b => b < g) w a.ex va) (hxb : ExV (fun b => b < g) w b.ex vb) (hL : L.length + ((atK (opL o) a.lv a.tk).length + ((atK (opLv o + 1) b.lv b.tk).length + 1)) ≤ 1000000000) (h0 : 0 ≤ d) (hdm : d ≤ m) (hda : d + (atD (opL o) a.lv a.dp : Nat) ≤ 1000000000) (hdb : d + (atD (opLv o + 1) b.lv b.dp : Nat) ≤ 1000000000) (hm : m ≤ 1000000000) :
    Calls Tryz.prog 50 #[.pointer (some ⟨g, 0, none⟩), .agg #[.string (str8 (opTx o)), .int .i64 (opLv o)], va, vb] w fun e w' => e = .returned (.tuple #[]) ∧ Wrote g tb w w' (L ++ (Tm.op o a b).tk) d (max m (d + ((Tm.op o a b).dp : Nat))) := by
  have hla := atK_len (opL o) a.lv a.tk
  have hlb := atK_len (opLv o + 1) b.lv b.tk
  have hda2 := atD_le (opL o) a.lv a.dp
  have hdb2 := atD_le (opLv o + 1) b.lv b.dp
  have HXA := hid hxa
  have HXB := hid hxb
  obtain ⟨k, op, tn, nm, vk, vn, vs, ys, aa, nn, cc, he, rfl, ha⟩ := hxa
  obtain ⟨k', op', tn', nm', vk', vn', vs', ys', aa', nn', cc', he', rfl, ha'⟩ := hxb
  obtain ⟨W, hW, hbW, hzW, hc0, hc1, hc2⟩ := boxes3W w (.cells #[.string (str8 (opTx o)), .int .i64 (opLv o)] 91) (.cells #[.int .i64 k, .int .i64 op, .string (str8 tn), .string (str8 nm), .int .i64 vk, .int .i64 vn, .string (str8 vs), .slice aa nn cc] 26) (.cells #[.int .i64 k', .int .i64 op', .string (str8 tn'), .string (str8 nm'), .int .i64 vk', .int .i64 vn', .string (str8 vs'), .slice aa' nn' cc'] 26)
  have hsz0 : w.heap.size < W.heap.size := by omega
  have k0 := cells2 hc0
  have k1 := cells8 hc1
  have HB := hid hbW
  have hw := h.below hbW
  have HW := hid hw
  have HBX0 := hid (BoxW.mk' h hc0 (Nat.le_refl _))
  have HBX2 := hid (BoxW.mk' h hc2 (by omega))
  have hne : opTx o ≠ [] := by rcases op_tab o h1 h2 with rfl | rfl | rfl | rfl | rfl | rfl | rfl | rfl | rfl | rfl | rfl | rfl | rfl <;> decide
  have hFA := from_any (opL o) a hoka hA g tb L d m W _ hw (HXA.out.new hbW) (by omega) h0 hdm (by omega) hm
  have HFB : Hid (∀ (tb' : Option Nat) (L' : List Tk) (m' : Int) (V : World), WrAt V g tb' L' d m' → ExV (fun b => b < g) V b.ex (.agg #[.int .i64 k', .int .i64 op', .string (str8 tn'), .string (str8 nm'), .int .i64 vk', .int .i64 vn', .string (str8 vs'), .slice aa' nn' cc']) → L'.length + (atK (opLv o + 1) b.lv b.tk).length ≤ 1000000000 → d ≤ m' → m' ≤ 1000000000 →
      Calls Tryz.prog 113 #[.pointer (some ⟨g, 0, none⟩), .int .i64 ((opLv o : Int) + 1), .agg #[.int .i64 k', .int .i64 op', .string (str8 tn'), .string (str8 nm'), .int .i64 vk', .int .i64 vn', .string (str8 vs'), .slice aa' nn' cc']] V fun e w' => e = .returned (.tuple #[]) ∧ Wrote g tb' V w' (L' ++ atK (opLv o + 1) b.lv b.tk) d (max m' (d + (atD (opLv o + 1) b.lv b.dp : Nat)))) := hid (fun tb' L' m' V hV hx hl hd hm' => by
    have := from_any (opLv o + 1) b hokb hB g tb' L' d m' V _ hV hx (by omega) h0 hd (by omega) hm'
    rwa [show ((opLv o + 1 : Nat) : Int) = (opLv o : Int) + 1 by omega] at this)
  show Calls Tryz.prog 50 _ _ fun e w' => _ ∧ Wrote g tb w w' (L ++ (atK (opL o) a.lv a.tk ++ fxT (opTx o) :: atK (opLv o + 1) b.lv b.tk)) d (max m (d + (max (atD (opL o) a.lv a.dp) (atD (opLv o + 1) b.lv b.dp) : Nat)))
  have hlv5 : opLv o ≤ 5 := by have := op_lv o h1 h2; omega
  have hop : opL o = if opLv o = 3 then 4 else opLv o := rfl
  have HXB2 := hid (HXB.out.new hbW)
  clear hbW hc0 hc1 hc2 h ha ha' he he' hw HXA HXB
  generalize atK (opL o) a.lv a.tk = TA at hFA hla hL ⊢
  generalize atD (opL o) a.lv a.dp = DA at hFA hda2 hda ⊢
  generalize atK (opLv o + 1) b.lv b.tk = TB at HFB hlb hL ⊢
  generalize atD (opLv o + 1) b.lv b.dp = DB at HFB hdb2 hdb ⊢
  generalize opTx o = tx at hne HBX0 k0 hW ⊢
  have hw1 : IntKind.i64.wrap ((opLv o : Int) + 1) = (opLv o : Int) + 1 := by rw [IntKind.wrap_i64]; omega
  have hlast : ∀ (w1 : World) (tb1 : Option Nat), WrAt w1 g tb1 (L ++ TA) d (max m (d + (DA : Int))) → (∀ k, tb1 = some k → tb = some k ∨ W.heap.size ≤ k) → FrW g tb W w1 → True := fun _ _ _ _ _ => trivial
  clear hlast
  by_cases h3 : opLv o = 3
  · rw [hop, if_pos h3] at hFA
    have h3' : ((opLv o : Int) == 3) = true := by rw [h3]; rfl
    have h4 : ((4 : Nat) : Int) = (opLv o : Int) + 1 := by omega
    rw [h4] at hFA
    have HFA := hid hFA
    clear hFA h4 h3 hop
    generalize (opLv o : Int) = li at h3' hw1 HFA HFB HBX0 k0 hW ⊢
    go_enter Tryz.func50, Tryz.ntmps50
    go_wp2_with fail
    refine HFA.out.mono ?_
    rintro e w1 ⟨rfl, tb1, hw1', ht1, hf1⟩
    have hbx0 := HBX0.out.on ht1 hf1
    have hbx2 := HBX2.out.on ht1 hf1
    have k01 := cells2 hbx0.at'
    have HT : Hid (Calls Tryz.prog 68 #[.pointer (some ⟨g, 0, none⟩), .slice (some ⟨w1.heap.size, 0, none⟩) 1 1] (w1.drew.alloc (.cells #[.string (str8 tx)] 9)) fun e w' => e = .returned (.tuple #[]) ∧ Wrote g tb1 w1.drew w' (L ++ TA ++ wordsK [tx]) d (max m (d + (DA : Int)))) := hid (fixed_new g tb1 _ d _ [tx] w1.drew (hw1'.below (Below.refl _ w1).drew) (by simp) (by simpa using hne) (by simp; omega))
    have HX1 := hid ((HXB2.out.onW HW.out hf1).new (Below.refl _ w1).drew)
    have HW1 := hid (hw1'.below (Below.refl _ w1).drew)
    have HBX21 := hid (hbx2.below (Below.refl _ w1).drew)
    have HT1 := hid ht1
    have HF1 := hid hf1
    clear hw1' ht1 hf1 HFA hbx0 hbx2
    go_wp2_with fail
    go_region_with (first
      | (go_at_call 68; refine HT.out.mono ?_
         rintro e w2 ⟨rfl, tb2, hw2, ht2, hf2⟩)
      | fail)
    all_goals
      have hbx2 := HBX21.out.on ht2 hf2
      have k2 := cells8 hbx2.at'
      have HFB2 := hid (HFB.out tb2 _ _ w2 hw2 (HX1.out.onW HW1.out hf2) (by simp [wordsK]; omega) (by omega) (by omega))
      have HT2 := hid ht2
      have HF2 := hid hf2
      clear hw2 ht2 hf2 hbx2 HT
      go_wp2_with fail
      refine HFB2.out.mono ?_
      rintro e w3 ⟨rfl, h3⟩
      have HQ : Hid (Wrote g tb w w3 (L ++ (TA ++ fxT tx :: TB)) d (max m (d + ((max DA DB : Nat) : Int)))) := hid (by
        have := Wrote.new HB.out (Wrote.then HT1.out HF1.out (Wrote.new (Below.refl _ w1).drew (Wrote.then HT2.out HF2.out h3)))
        rw [show max (max m (d + (DA : Int))) (d + (DB : Int)) = max m (d + ((max DA DB : Nat) : Int)) by omega] at this
        simpa [wordsK] using this)
      clear h3 HFB2
      go_wp2
      exact bodyPost_end (v := .tuple #[]) (by simp [results, Tryz.results50, go_sem]) rfl ⟨rfl, HQ.out⟩
  · rw [hop, if_neg h3] at hFA
    have h3' : ((opLv o : Int) == 3) = false := by
      cases hh : ((opLv o : Int) == 3) with
      | false => rfl
      | true => have : (opLv o : Int) = 3 := by simpa using hh
                omega
    have HFA := hid hFA
    clear hFA h3 hop
    generalize (opLv o : Int) = li at h3' hw1 HFA HFB HBX0 k0 hW ⊢
    go_enter Tryz.func50, Tryz.ntmps50
    go_wp2_with fail
    refine HFA.out.mono ?_
    rintro e w1 ⟨rfl, tb1, hw1', ht1, hf1⟩
    have hbx0 := HBX0.out.on ht1 hf1
    have hbx2 := HBX2.out.on ht1 hf1
    have k01 := cells2 hbx0.at'
    have HT : Hid (Calls Tryz.prog 68 #[.pointer (some ⟨g, 0, none⟩), .slice (some ⟨w1.heap.size, 0, none⟩) 1 1] (w1.drew.alloc (.cells #[.string (str8 tx)] 9)) fun e w' => e = .returned (.tuple #[]) ∧ Wrote g tb1 w1.drew w' (L ++ TA ++ wordsK [tx]) d (max m (d + (DA : Int)))) := hid (fixed_new g tb1 _ d _ [tx] w1.drew (hw1'.below (Below.refl _ w1).drew) (by simp) (by simpa using hne) (by simp; omega))
    have HX1 := hid ((HXB2.out.onW HW.out hf1).new (Below.refl _ w1).drew)
    have HW1 := hid (hw1'.below (Below.refl _ w1).drew)
    have HBX21 := hid (hbx2.below (Below.refl _ w1).drew)
    have HT1 := hid ht1
    have HF1 := hid hf1
    clear hw1' ht1 hf1 HFA hbx0 hbx2
    go_wp2_with fail
    go_region_with (first
      | (go_at_call 68; refine HT.out.mono ?_
         rintro e w2 ⟨rfl, tb2, hw2, ht2, hf2⟩)
      | fail)
    all_goals
      have hbx2 := HBX21.out.on ht2 hf2
      have k2 := cells8 hbx2.at'
      have HFB2 := hid (HFB.out tb2 _ _ w2 hw2 (HX1.out.onW HW1.out hf2) (by simp [wordsK]; omega) (by omega) (by omega))
      have HT2 := hid ht2
      have HF2 := hid hf2
      clear hw2 ht2 hf2 hbx2 HT
      go_wp2_with fail
      refine HFB2.out.mono ?_
      rintro e w3 ⟨rfl, h3⟩
      have HQ : Hid (Wrote g tb w w3 (L ++ (TA ++ fxT tx :: TB)) d (max m (d + ((max DA DB : Nat) : Int)))) := hid (by
        have := Wrote.new HB.out (Wrote.then HT1.out HF1.out (Wrote.new (Below.refl _ w1).drew (Wrote.then HT2.out HF2.out h3)))
        rw [show max (max m (d + (DA : Int))) (d + (DB : Int)) = max m (d + ((max DA DB : Nat) : Int)) by omega] at this
        simpa [wordsK] using this)
      clear h3 HFB2
      go_wp2
      exact bodyPost_end (v := .tuple #[]) (by simp [results, Tryz.results50, go_sem]) rfl ⟨rfl, HQ.out⟩
theorem not_w (a : Tm) (hok : a.ok) (hn : a.isNul = false) (hX : WrX a) (op vk vn : Int) (tn nm vs : List UInt8) (aa : Option Addr) (nn cc : Nat)
    (g : Nat) (tb : Option Nat) (L : List Tk) (d m : Int) (w : World) (h : WrAt w g tb L d m) (ha : ArgsAt (fun b => b < g) w [a.ex] (.slice aa nn cc)) (hL : L.length + ((atK 2 a.lv a.tk).length + 1) ≤ 1000000000) (h0 : 0 ≤ d) (hdm : d ≤ m) (hd : d + (atD 2 a.lv a.dp + 1 : Nat) ≤ 1000000000) (hm : m ≤ 1000000000) :
    Calls Tryz.prog 51 #[.pointer (some ⟨g, 0, none⟩), .agg #[.int .i64 4, .int .i64 op, .string (str8 tn), .string (str8 nm), .int .i64 vk, .int .i64 vn, .string (str8 vs), .slice aa nn cc]] w fun e w' => e = .returned (.tuple #[]) ∧ Wrote g tb w w' (L ++ (Tm.not a).tk) d (max m (d + ((Tm.not a).dp : Nat))) := by
  obtain ⟨W, hW, hbW, hzW, hcW⟩ := box8 w (.cells #[.int .i64 4, .int .i64 op, .string (str8 tn), .string (str8 nm), .int .i64 vk, .int .i64 vn, .string (str8 vs), .slice aa nn cc] 26)
  have k0 := cells8 hcW
  have HB := hid hbW
  have hla := atK_len 2 a.lv a.tk
  have hda := atD_le 2 a.lv a.dp
  have HN := hid (isNotNull_any (fun b => b < g) a.ex tn nm vk vn vs op aa nn cc W (ha.new hbW))
  have h6 : (exKind a.ex == 6) = false := by have := kind_isNul a hn; simpa using this
  rw [h6] at HN
  have HBX := hid (BoxW.mk' h hcW (Nat.le_refl _))
  have HA := hid ha
  have HH := hid h
  show Calls Tryz.prog 51 _ _ fun e w' => _ ∧ Wrote g tb w w' (L ++ (notK :: atK 2 a.lv a.tk)) d (max m (d + ((atD 2 a.lv a.dp + 1 : Nat) : Int)))
  have hDE := deeperW_any 2 a hok hX
  generalize atK 2 a.lv a.tk = T at hDE hla hL ⊢
  generalize atD 2 a.lv a.dp = D at hDE hda hd ⊢
  clear hbW hcW h ha h6 hn hok
  go_enter Tryz.func51, Tryz.ntmps51
  go_wp2_with fail
  refine HN.out.mono ?_
  rintro e w1 ⟨rfl, hb1⟩
  have hB1 := HB.out.trans (hb1.mono HB.out.size)
  have hw1 := HH.out.below hB1
  have HT : Hid (Calls Tryz.prog 68 #[.pointer (some ⟨g, 0, none⟩), .slice (some ⟨w1.heap.size, 0, none⟩) 1 1] (w1.alloc (.cells #[.string ⟨#[78, 79, 84]⟩] 9)) fun e w' => e = .returned (.tuple #[]) ∧ Wrote g tb w1 w' (L ++ wordsK [[78, 79, 84]]) d m) := hid (fixed_new g tb L d m [[78, 79, 84]] w1 hw1 (by decide) (by decide) (by simp; omega))
  have HA1 := hid (HA.out.new hB1)
  have HW1 := hid hw1
  have HBX1 := hid (HBX.out.below hb1)
  have HB1 := hid hB1
  clear hb1 hB1 HN hw1
  go_wp2_with fail
  refine HT.out.mono ?_
  rintro e w2 ⟨rfl, tb2, hw2, ht2, hf2⟩
  have k2 := cells8 (HBX1.out.on ht2 hf2).at'
  obtain ⟨h1, h2, h3, b, off, k1, op1, tb1, nm1, vk1, vn1, vs1, ys1, a1, n1, c1, hxe, rfl, _, h7, h8⟩ := args_get0 (HA1.out.onW HW1.out hf2)
  rw [List.length_nil, Nat.zero_add] at h1
  subst h1
  unfold maxLen at h3
  have HD2 := hid (hDE g tb2 (L ++ wordsK [[78, 79, 84]]) d m w2 _ hw2 (ExV.mk' hxe h8) (by simp [wordsK]; omega) h0 hdm (by omega) hm)
  unfold Cells8 at h7
  have HT2 := hid ht2
  have HF2 := hid hf2
  clear hw2 ht2 hf2 HT hxe h8 HA HA1
  go_wp2_with fail
  refine HD2.out.mono ?_
  rintro e w3 ⟨rfl, h3⟩
  have HQ : Hid (Wrote g tb w w3 (L ++ notK :: T) d (max m (d + ((D + 1 : Nat) : Int)))) := hid (by
    have := Wrote.new HB1.out (Wrote.then HT2.out HF2.out h3)
    rw [show L ++ wordsK [[78, 79, 84]] ++ T = L ++ notK :: T by simp [wordsK, notK]] at this
    exact this)
  clear h3 HD2
  go_wp2
  exact bodyPost_end (v := .tuple #[]) (by simp [results, Tryz.results51, go_sem]) rfl ⟨rfl, HQ.out⟩
theorem nnot_w (a : Tm) (hok : a.ok) (hX : WrX a) (op vk vn : Int) (tn nm vs : List UInt8) (aa : Option Addr) (nn cc : Nat)
    (g : Nat) (tb : Option Nat) (L : List Tk) (d m : Int) (w : World) (h : WrAt w g tb L d m) (ha : ArgsAt (fun b => b < g) w [exOf 6 a.ex] (.slice aa nn cc)) (hL : L.length + ((atK 4 a.lv a.tk).length + 3) ≤ 1000000000) (h0 : 0 ≤ d) (hdm : d ≤ m) (hd : d + (atD 4 a.lv a.dp : Nat) ≤ 1000000000) (hm : m ≤ 1000000000) :
    Calls Tryz.prog 51 #[.pointer (some ⟨g, 0, none⟩), .agg #[.int .i64 4, .int .i64 op, .string (str8 tn), .string (str8 nm), .int .i64 vk, .int .i64 vn, .string (str8 vs), .slice aa nn cc]] w fun e w' => e = .returned (.tuple #[]) ∧ Wrote g tb w w' (L ++ (Tm.nnul a).tk) d (max m (d + ((Tm.nnul a).dp : Nat))) := by
  obtain ⟨W, hW, hbW, hzW, hcW⟩ := box8 w (.cells #[.int .i64 4, .int .i64 op, .string (str8 tn), .string (str8 nm), .int .i64 vk, .int .i64 vn, .string (str8 vs), .slice aa nn cc] 26)
  have k0 := cells8 hcW
  have HB := hid hbW
  have HN : Hid (Calls Tryz.prog 114 #[.agg #[.int .i64 4, .int .i64 op, .string (str8 tn), .string (str8 nm), .int .i64 vk, .int .i64 vn, .string (str8 vs), .slice aa nn cc]] W fun e w' => e = .returned (.bool true) ∧ Below W.heap.size W w') := hid (isNotNull_any (fun b => b < g) (exOf 6 a.ex) tn nm vk vn vs op aa nn cc W (ha.new hbW))
  have HBX := hid (BoxW.mk' h hcW (Nat.le_refl _))
  have HA := hid ha
  have HH := hid h
  show Calls Tryz.prog 51 _ _ fun e w' => _ ∧ Wrote g tb w w' (L ++ (atK 4 a.lv a.tk ++ wordsK [[73, 83], [78, 79, 84], [78, 85, 76, 76]])) d (max m (d + (atD 4 a.lv a.dp : Nat)))
  clear hbW hcW h ha
  go_enter Tryz.func51, Tryz.ntmps51
  go_wp2_with fail
  refine HN.out.mono ?_
  rintro e w1 ⟨rfl, hb1⟩
  have hB1 := HB.out.trans (hb1.mono HB.out.size)
  have hw1 := HH.out.below hB1
  have k2 := cells8 (HBX.out.below hb1).at'
  obtain ⟨h1, h2, h3, b, off, k1, op1, tb1, nm1, vk1, vn1, vs1, ys1, a1, n1, c1, hxe, rfl, _, h7, h8⟩ := args_get0 (HA.out.new hB1)
  rw [List.length_nil, Nat.zero_add] at h1
  subst h1
  unfold maxLen at h3
  unfold Cells8 at h7
  obtain ⟨V, hV, hbV, hzV, hcV⟩ := box8 w1 (.cells #[.string ⟨#[73, 83]⟩, .string ⟨#[78, 79, 84]⟩, .string ⟨#[78, 85, 76, 76]⟩] 9)
  simp only [exOf, Ex.mk.injEq] at hxe
  obtain ⟨rfl, rfl, rfl, rfl, hve, rfl⟩ := hxe
  have hlt1 : g < w1.heap.size := hw1.lt
  have HNU := hid (null_w a hok hX 6 0 vk1 vn1 [] [] vs1 a1 n1 c1 [[73, 83], [78, 79, 84], [78, 85, 76, 76]] (by decide) (by decide) (.slice (some ⟨w1.heap.size, 0, none⟩) 3 3) g tb L d m V (hw1.below hbV) (h8.new hbV) ⟨_, _, rfl, by decide, fun _ => ⟨_, rfl, by omega, fun e => by have := (hw1.tbs _ e).2; omega, hzV, fun j t ht => by
    rw [cell_row _ _ _ _ _ _ hcV]
    match j, ht with
    | 0, ht => cases ht; rfl
    | 1, ht => cases ht; rfl
    | 2, ht => cases ht; rfl⟩⟩ hL h0 hdm hd hm)
  have HB1 := hid (hB1.trans (hbV.mono hB1.size))
  clear hb1 hB1 HN hw1 h8 hbV hcV HA HBX hve
  go_wp2_with fail
  try rw [hV]
  refine HNU.out.mono ?_
  rintro e w3 ⟨rfl, h3⟩
  have HQ := hid (Wrote.new HB1.out h3)
  clear h3 HNU
  go_wp2
  exact bodyPost_ret (v := .tuple #[]) (by simp [results, Tryz.results51, go_sem]) rfl ⟨rfl, HQ.out⟩
end Go.Proofs.YtnidnipiihhnaaaGreatDoor
