/- Packed for the hand-in: WLev -/
import Derived.Test.YtnidnipiihhnaaaGreatDoorY10
namespace Go.Proofs.YtnidnipiihhnaaaGreatDoor
open Go.RowKit Go.Shelf
set_option linter.unusedSimpArgs false
set_option linter.unusedVariables false
set_option maxRecDepth 20000
set_option maxHeartbeats 8000000
def Cells8 (w : World) (b off : Nat) (k op : Int) (tb nm : List UInt8) (vk vn : Int) (vs : List UInt8) (a : Value) : Prop :=
  w.cell? ⟨b, off, none⟩ = some (.int .i64 k) ∧ w.cell? ⟨b, off + 1, none⟩ = some (.int .i64 op) ∧ w.cell? ⟨b, off + 2, none⟩ = some (.string (str8 tb)) ∧ w.cell? ⟨b, off + 3, none⟩ = some (.string (str8 nm)) ∧
    w.cell? ⟨b, off + 4, none⟩ = some (.int .i64 vk) ∧ w.cell? ⟨b, off + 5, none⟩ = some (.int .i64 vn) ∧ w.cell? ⟨b, off + 6, none⟩ = some (.string (str8 vs)) ∧ w.cell? ⟨b, off + 7, none⟩ = some a
theorem Cells8.on {w w' : World} {b off : Nat} {k op : Int} {tb nm : List UInt8} {vk vn : Int} {vs : List UInt8} {a : Value} (h : Cells8 w b off k op tb nm vk vn vs a) {R : Nat → Prop} (hk : Spares R w w') (hb : ¬ R b) : Cells8 w' b off k op tb nm vk vn vs a := by
  obtain ⟨c0, c1, c2, c3, c4, c5, c6, c7⟩ := h
  exact ⟨hk.cell c0 hb, hk.cell c1 hb, hk.cell c2 hb, hk.cell c3 hb, hk.cell c4 hb, hk.cell c5 hb, hk.cell c6 hb, hk.cell c7 hb⟩
theorem Cells8.lt {w : World} {b off : Nat} {k op : Int} {tb nm : List UInt8} {vk vn : Int} {vs : List UInt8} {a : Value} (h : Cells8 w b off k op tb nm vk vn vs a) : b < w.heap.size := World.block_lt_of_cell? w _ h.1
theorem Cells8.new {w w' : World} {b off : Nat} {k op : Int} {tb nm : List UInt8} {vk vn : Int} {vs : List UInt8} {a : Value} (h : Cells8 w b off k op tb nm vk vn vs a) (hb : Below w.heap.size w w') : Cells8 w' b off k op tb nm vk vn vs a := h.on (Spares.of_new (S := fun _ => False) hb) id
theorem args_get {S : Nat → Prop} {w : World} {xs : List Ex} {aa : Option Addr} {nn cc : Nat} (h : ArgsAt S w xs (.slice aa nn cc)) {j : Nat} {x : Ex} (hx : xs[j]? = some x) :
    nn = xs.length ∧ nn ≤ cc ∧ cc ≤ maxLen ∧ ∃ (b off : Nat) (k op : Int) (tb nm : List UInt8) (vk vn : Int) (vs : List UInt8) (ys : List Ex) (a1 : Option Addr) (n1 c1 : Nat), x = .mk k op tb nm ⟨vk, vn, vs⟩ ys ∧ aa = some ⟨b, off, none⟩ ∧ S b ∧ Cells8 w b (off + j * 8) k op tb nm vk vn vs (.slice a1 n1 c1) ∧ ArgsAt S w ys (.slice a1 n1 c1) := by
  cases h with
  | nil a c hc => simp at hx
  | cons xs b off c avs hne hS hl hc hcell hrec =>
    obtain ⟨k, op, tb, nm, ⟨vk, vn, vs⟩, ys⟩ := x
    obtain ⟨a1, c1, e, _⟩ := (hrec j k op tb nm vk vn vs ys hx).form
    refine ⟨rfl, hl, hc, b, off, k, op, tb, nm, vk, vn, vs, ys, a1, ys.length, c1, rfl, rfl, hS, ?_, e ▸ hrec j k op tb nm vk vn vs ys hx⟩
    have := hcell j k op tb nm vk vn vs ys hx
    rw [e] at this
    exact this
theorem args_get0 {S : Nat → Prop} {w : World} {x : Ex} {l : List Ex} {aa : Option Addr} {nn cc : Nat} (h : ArgsAt S w (x :: l) (.slice aa nn cc)) :
    nn = l.length + 1 ∧ nn ≤ cc ∧ cc ≤ maxLen ∧ ∃ (b off : Nat) (k op : Int) (tb nm : List UInt8) (vk vn : Int) (vs : List UInt8) (ys : List Ex) (a1 : Option Addr) (n1 c1 : Nat), x = .mk k op tb nm ⟨vk, vn, vs⟩ ys ∧ aa = some ⟨b, off, none⟩ ∧ S b ∧ Cells8 w b off k op tb nm vk vn vs (.slice a1 n1 c1) ∧ ArgsAt S w ys (.slice a1 n1 c1) := by
  obtain ⟨h1, h2, h3, b, off, k, op, tb, nm, vk, vn, vs, ys, a1, n1, c1, h4, h5, h6, h7, h8⟩ := args_get h (j := 0) (x := x) rfl
  rw [Nat.zero_mul, Nat.add_zero] at h7
  exact ⟨h1, h2, h3, b, off, k, op, tb, nm, vk, vn, vs, ys, a1, n1, c1, h4, h5, h6, h7, h8⟩
theorem kind_isNul (a : Tm) (h : a.isNul = false) : exKind a.ex ≠ 6 := by
  cases a <;> first | (cases h; done) | (simp [exKind, Tm.ex, exVal, exCol, exOp, exOf])
theorem isNotNull_any (S : Nat → Prop) (x : Ex) (tb nm : List UInt8) (vk vn : Int) (vs : List UInt8) (op : Int) (aa : Option Addr) (nn cc : Nat) (w : World) (ha : ArgsAt S w [x] (.slice aa nn cc)) :
    Calls Tryz.prog 114 #[.agg #[.int .i64 4, .int .i64 op, .string (str8 tb), .string (str8 nm), .int .i64 vk, .int .i64 vn, .string (str8 vs), .slice aa nn cc]] w fun e w' => e = .returned (.bool (exKind x == 6)) ∧ Below w.heap.size w w' := by
  obtain ⟨W, hW, hbW, hzW, hcW⟩ := box8 w (.cells #[.int .i64 4, .int .i64 op, .string (str8 tb), .string (str8 nm), .int .i64 vk, .int .i64 vn, .string (str8 vs), .slice aa nn cc] 26)
  have k0 := cells8 hcW
  obtain ⟨h1, h2, h3, b, off, k1, op1, tb1, nm1, vk1, vn1, vs1, ys1, a1, n1, c1, rfl, rfl, _, h7, _⟩ := args_get0 (ha.new hbW)
  unfold Cells8 at h7
  rw [List.length_nil, Nat.zero_add] at h1
  subst h1
  unfold maxLen at h3
  show Calls Tryz.prog 114 _ _ fun e w' => e = .returned (.bool (k1 == 6)) ∧ _
  have HB := hid hbW
  clear hbW hcW ha
  go_enter Tryz.func114, Tryz.ntmps114
  go_wp2
  go_ret
  exact ⟨rfl, HB.out⟩
theorem op_cell {w : World} (h : OpsAt w) {o : Int} (h1 : 1 ≤ o) (h2 : o ≤ 13) : ∃ n : Nat, o = (n : Int) ∧ n ≤ 13 ∧ w.cell? ⟨0, n * 2, none⟩ = some (.string (str8 (opTx o))) ∧ w.cell? ⟨0, n * 2 + 1, none⟩ = some (.int .i64 (opLv o)) :=
  ⟨o.toNat, by omega, by omega, by have := h o.toNat (by omega); rw [show ((o.toNat : Nat) : Int) = o by omega] at this; exact this⟩
theorem level_any (S : Nat → Prop) (t : Tm) (hok : t.ok) (v : Value) (w : World) (hO : TabW w) (hx : ExV S w t.ex v) :
    Calls Tryz.prog 161 #[v] w fun e w' => e = .returned (.int .i64 (t.lv : Int)) ∧ Below w.heap.size w w' := by
  obtain ⟨k, op, tb, nm, vk, vn, vs, ys, aa, nn, cc, he, rfl, ha⟩ := hx
  obtain ⟨W, hW, hbW, hzW, hcW⟩ := box8 w (.cells #[.int .i64 k, .int .i64 op, .string (str8 tb), .string (str8 nm), .int .i64 vk, .int .i64 vn, .string (str8 vs), .slice aa nn cc] 26)
  have k0 := cells8 hcW
  have HB := hid hbW
  have hOW := (hO.on hbW).ops
  cases t with
  | val x =>
    simp only [Tm.ex, exVal, Ex.mk.injEq] at he
    obtain ⟨rfl, -⟩ := he
    clear hcW hbW ha hO hOW
    go_enter Tryz.func161, Tryz.ntmps161
    go_wp2
    go_ret
    exact ⟨rfl, HB.out.alloc HB.out.size _⟩
  | col x y =>
    simp only [Tm.ex, exCol, Ex.mk.injEq] at he
    obtain ⟨rfl, -⟩ := he
    clear hcW hbW ha hO hOW
    go_enter Tryz.func161, Tryz.ntmps161
    go_wp2
    go_ret
    exact ⟨rfl, HB.out.alloc HB.out.size _⟩
  | op o a b =>
    simp only [Tm.ex, exOp, Ex.mk.injEq] at he
    obtain ⟨rfl, rfl, -⟩ := he
    obtain ⟨n, hn, hn13, _, hc⟩ := op_cell hOW hok.1 hok.2.1
    show Calls Tryz.prog 161 _ _ fun e w' => e = .returned (.int .i64 (opLv o : Int)) ∧ _
    generalize opLv o = lv at hc ⊢
    have h1 := hok.1
    subst hn
    have hn14 : ((n : Int) < 14) := by omega
    clear hcW hbW ha hO hOW hok
    go_enter Tryz.func161, Tryz.ntmps161
    go_wp2
    go_ret
    exact ⟨rfl, HB.out⟩
  | not a =>
    simp only [Tm.ex, exOf, Ex.mk.injEq] at he
    obtain ⟨rfl, rfl, rfl, rfl, hv, rfl⟩ := he
    have HN := hid (isNotNull_any S a.ex [] [] vk vn vs 0 aa nn cc W (ha.new hbW))
    have h6 : (exKind a.ex == 6) = false := by have := kind_isNul a hok.1; simpa using this
    rw [h6] at HN
    clear hcW hbW ha hO hOW hok hv h6
    go_enter Tryz.func161, Tryz.ntmps161
    go_wp2_with fail
    refine HN.out.mono ?_
    rintro e w1 ⟨rfl, hb1⟩
    have k1 := cells8 ((hb1.block w.heap.size hzW).trans (by rw [← hW]; exact heap_alloc_new _ _))
    have HB1 := hid (HB.out.trans (hb1.mono (Nat.le_of_lt hzW)))
    clear hb1 HN
    go_wp2
    go_ret
    exact ⟨rfl, HB1.out⟩
  | neg a =>
    simp only [Tm.ex, exOf, Ex.mk.injEq] at he
    obtain ⟨rfl, -⟩ := he
    clear hcW hbW ha hO hOW
    go_enter Tryz.func161, Tryz.ntmps161
    go_wp2
    go_ret
    exact ⟨rfl, HB.out.alloc HB.out.size _⟩
  | nul a =>
    simp only [Tm.ex, exOf, Ex.mk.injEq] at he
    obtain ⟨rfl, -⟩ := he
    clear hcW hbW ha hO hOW
    go_enter Tryz.func161, Tryz.ntmps161
    go_wp2
    go_ret
    exact ⟨rfl, HB.out⟩
  | nnul a =>
    simp only [Tm.ex, exOf, Ex.mk.injEq] at he
    obtain ⟨rfl, rfl, rfl, rfl, hv, rfl⟩ := he
    have HN : Hid (Calls Tryz.prog 114 #[.agg #[.int .i64 4, .int .i64 0, .string (str8 []), .string (str8 []), .int .i64 vk, .int .i64 vn, .string (str8 vs), .slice aa nn cc]] W fun e w' => e = .returned (.bool true) ∧ Below W.heap.size W w') := hid (isNotNull_any S _ [] [] vk vn vs 0 aa nn cc W (ha.new hbW))
    clear hcW hbW ha hO hOW hok hv
    go_enter Tryz.func161, Tryz.ntmps161
    go_wp2_with fail
    refine HN.out.mono ?_
    rintro e w1 ⟨rfl, hb1⟩
    have HB1 := hid (HB.out.trans (hb1.mono (Nat.le_of_lt hzW)))
    clear hb1 HN
    go_wp2
    go_ret
    exact ⟨rfl, HB1.out⟩
theorem literal_w (g : Nat) (tb : Option Nat) (L : List Tk) (d m : Int) (w : World) (h : WrAt w g tb L d m) (v : Vl) (hv : valOk v = true) (hL : L.length + (litK v).length ≤ 1000000000) :
    Calls Tryz.prog 48 #[.pointer (some ⟨g, 0, none⟩), .agg #[.int .i64 v.k, .int .i64 v.n, .string (str8 v.s)]] w fun e w' => e = .returned (.tuple #[]) ∧ Wrote g tb w w' (L ++ litK v) d m := by
  obtain ⟨vk, vn, vs⟩ := v
  dsimp only
  have hl2 := litK_len ⟨vk, vn, vs⟩
  obtain ⟨W, hW, hbW, hzW, hcW⟩ := box8 w (.cells #[.int .i64 vk, .int .i64 vn, .string (str8 vs)] 23)
  have k0 := cells3W hcW
  have HW := hid (h.below hbW)
  have HWD := hid (h.below hbW.drew)
  have HB := hid hbW
  have HBD := hid hbW.drew
  have HC := hid hcW
  rcases val_kind hv with ⟨h1, h2, h3⟩ | ⟨h1, h2, h3⟩ | ⟨h1, h2, h3⟩
  · dsimp only at h1; subst h1
    have HT := hid (text_w g tb L d m W.drew HWD.out vs (by omega))
    clear hbW hcW h hv h2 h3 HC
    go_enter Tryz.func48, Tryz.ntmps48
    go_wp2_with fail
    go_region_with (first
      | (go_at_call 111; refine HT.out.mono ?_
         rintro e w1 ⟨rfl, h1⟩)
      | fail)
    all_goals go_wp2
    all_goals exact bodyPost_end (v := .tuple #[]) (by simp [results, Tryz.results48, go_sem]) rfl ⟨rfl, h1.new HBD.out⟩
  · dsimp only at h1; subst h1
    have HT : Hid (Calls Tryz.prog 68 #[.pointer (some ⟨g, 0, none⟩), .slice (some ⟨W.heap.size, 0, none⟩) 1 1] (W.alloc (.cells #[.string ⟨#[78, 85, 76, 76]⟩] 9)) fun e w' => e = .returned (.tuple #[]) ∧ Wrote g tb W w' (L ++ wordsK [[78, 85, 76, 76]]) d m) := hid (fixed_new g tb L d m [[78, 85, 76, 76]] W HW.out (by decide) (by decide) (by simp; omega))
    clear hbW hcW h hv h2 h3 HC
    go_enter Tryz.func48, Tryz.ntmps48
    go_wp2_with fail
    refine HT.out.mono ?_
    rintro e w1 ⟨rfl, h1⟩
    go_wp2
    exact bodyPost_end (v := .tuple #[]) (by simp [results, Tryz.results48, go_sem]) rfl ⟨rfl, h1.new HB.out⟩
  · dsimp only at h1 h3; subst h1
    have e : litK ⟨1, vn, vs⟩ = if vn < 0 then [fxT [45], nuT (-vn)] else [nuT vn] := rfl
    rw [e] at hL hl2 ⊢
    by_cases hn : vn < 0
    · rw [if_pos hn] at hL hl2 ⊢
      have hL : L.length + 2 ≤ 1000000000 := hL
      have HT : Hid (Calls Tryz.prog 68 #[.pointer (some ⟨g, 0, none⟩), .slice (some ⟨W.heap.size, 0, none⟩) 1 1] (W.alloc (.cells #[.string ⟨#[45]⟩] 9)) fun e w' => e = .returned (.tuple #[]) ∧ Wrote g tb W w' (L ++ wordsK [[45]]) d m) := hid (fixed_new g tb L d m [[45]] W HW.out (by decide) (by decide) (by simp; omega))
      have HBX := hid (BoxW.mk' h hcW (Nat.le_refl _))
      have hneg : IntKind.i64.wrap (-vn) = -vn := by rw [IntKind.wrap_i64]; omega
      clear hbW hcW h hv h2 HC h3
      go_enter Tryz.func48, Tryz.ntmps48
      go_wp2_with fail
      refine HT.out.mono ?_
      rintro e w1 ⟨rfl, h1⟩
      obtain ⟨tb1, hw1, ht1, hf1⟩ := h1
      have hbx := (HBX.out.on ht1 hf1).at'
      have k1 := cells3W hbx
      have HN := hid (number_w g tb1 _ d m w1.drew (hw1.below (Below.refl _ w1).drew) (-vn) (by simp [wordsK]; omega))
      have HT1 := hid ht1
      have HF1 := hid hf1
      clear hw1 ht1 hf1 HT hbx
      go_wp2_with fail
      go_region_with (first
        | (go_at_call 112; refine HN.out.mono ?_
           rintro e w2 ⟨rfl, h2⟩)
        | fail)
      all_goals go_wp2
      all_goals exact bodyPost_end (v := .tuple #[]) (by simp [results, Tryz.results48, go_sem]) rfl ⟨rfl, by
        have := Wrote.new HB.out (Wrote.then HT1.out HF1.out (h2.new (Below.refl _ w1).drew))
        simpa [wordsK] using this⟩
    · rw [if_neg hn] at hL hl2 ⊢
      have HN := hid (number_w g tb L d m W.drew HWD.out vn (by omega))
      clear hbW hcW h hv h2 HC
      go_enter Tryz.func48, Tryz.ntmps48
      go_wp2_with fail
      go_region_with (first
        | (go_at_call 112; refine HN.out.mono ?_
           rintro e w1 ⟨rfl, h1⟩)
        | fail)
      all_goals go_wp2
      all_goals exact bodyPost_end (v := .tuple #[]) (by simp [results, Tryz.results48, go_sem]) rfl ⟨rfl, h1.new HBD.out⟩
end Go.Proofs.YtnidnipiihhnaaaGreatDoor
