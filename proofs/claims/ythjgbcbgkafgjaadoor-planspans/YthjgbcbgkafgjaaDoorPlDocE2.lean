/- The document's own Span: walks (tools/pldoce.py). -/
import Derived.Test.YthjgbcbgkafgjaaDoorPlDocE0
namespace Go.Proofs.YthjgbcbgkafgjaaDoor
open Go.RowKit Go.Shelf
set_option linter.unusedVariables false
set_option linter.unusedSimpArgs false
set_option maxRecDepth 20000

set_option maxHeartbeats 4000000 in
theorem yspan_all00 (op : Int) (tb nm : List UInt8) (vk vn : Int) (vs : List UInt8) (b off cc : Nat) (col : Int) (w : World)
    (k1 op1 : Int) (tb1 nm1 : List UInt8) (vk1 vn1 : Int) (vs1 : List UInt8) (aa1 : Option Addr) (nn1 cc1 : Nat) (k2 op2 : Int) (tb2 nm2 : List UInt8) (vk2 vn2 : Int) (vs2 : List UInt8) (aa2 : Option Addr) (nn2 cc2 : Nat)
    (h8a : At8 w b off k1 op1 tb1 nm1 vk1 vn1 vs1 (.slice aa1 nn1 cc1)) (h8b : At8 w b (off + 8) k2 op2 tb2 nm2 vk2 vn2 vs2 (.slice aa2 nn2 cc2)) (hcc : 2 ≤ cc) (hcm : cc ≤ maxLen) (ho : ¬ op = 2) (hop : op = 3 ∨ op = 5 ∨ op = 6 ∨ op = 7 ∨ op = 8) (ys1 ys2 : List Ex) (hl1 : vs1.length ≤ 9223372036854775807) (hl2 : vs2.length ≤ 9223372036854775807) (r s : Bool) (hp : isCol (.mk k1 op1 tb1 nm1 ⟨vk1, vn1, vs1⟩ ys1) col = false) (hq : isCol (.mk k2 op2 tb2 nm2 ⟨vk2, vn2, vs2⟩ ys2) col = false) (hr : isVal (.mk k1 op1 tb1 nm1 ⟨vk1, vn1, vs1⟩ ys1) = r) (hs : isVal (.mk k2 op2 tb2 nm2 ⟨vk2, vn2, vs2⟩ ys2) = s) :
    Calls Tryd.prog 11 #[.agg #[.int .i64 3, .int .i64 op, .string (str8 tb), .string (str8 nm), .int .i64 vk, .int .i64 vn, .string (str8 vs), .slice (some ⟨b, off, none⟩) 2 cc], .int .i64 col] w (YP w allP) := by
  obtain ⟨z0, z1, hbW, hzW⟩ := alloc2 w (.cells #[.int .i64 3, .int .i64 op, .string (str8 tb), .string (str8 nm), .int .i64 vk, .int .i64 vn, .string (str8 vs), .slice (some ⟨b, off, none⟩) 2 cc] 26) (.cells #[.slice none 0 0, .slice none 0 0, .bool false] 31)
  obtain ⟨W, hW⟩ : ∃ W, (w.alloc (.cells #[.int .i64 3, .int .i64 op, .string (str8 tb), .string (str8 nm), .int .i64 vk, .int .i64 vn, .string (str8 vs), .slice (some ⟨b, off, none⟩) 2 cc] 26)).alloc (.cells #[.slice none 0 0, .slice none 0 0, .bool false] 31) = W := ⟨_, rfl⟩
  rw [hW] at z0 z1 hbW hzW
  have y0 := (cells8 z0).1
  have y1 := (cells8 z0).2.1
  have y7 := (cells8 z0).2.2.2.2.2.2.2
  have HZ := hid z1
  have HB := hid hbW
  have HL := hid (show w.heap.size + 1 < W.heap.size from by omega)
  have H8A := hid (h8a.on hbW)
  have H8B := hid (h8b.on hbW)
  have hcm' : cc ≤ 9223372036854775807 := hcm
  have Y1 := hid y1
  have Y7 := hid y7
  have HSN := hid (fun (V : World) (hb : Below W.heap.size W V) => (show (fun V : World => V.cell? ⟨w.heap.size, 1, none⟩ = some (.int .i64 op) ∧ V.cell? ⟨w.heap.size, 7, none⟩ = some (.slice (some ⟨b, off, none⟩) 2 cc) ∧ (V.cell? ⟨b, off, none⟩ = some (.int .i64 k1) ∧ V.cell? ⟨b, off + 1, none⟩ = some (.int .i64 op1) ∧ V.cell? ⟨b, off + 2, none⟩ = some (.string (str8 tb1)) ∧ V.cell? ⟨b, off + 3, none⟩ = some (.string (str8 nm1)) ∧ V.cell? ⟨b, off + 4, none⟩ = some (.int .i64 vk1) ∧ V.cell? ⟨b, off + 5, none⟩ = some (.int .i64 vn1) ∧ V.cell? ⟨b, off + 6, none⟩ = some (.string (str8 vs1)) ∧ V.cell? ⟨b, off + 7, none⟩ = some (.slice aa1 nn1 cc1)) ∧ (V.cell? ⟨b, off + 8, none⟩ = some (.int .i64 k2) ∧ V.cell? ⟨b, off + 8 + 1, none⟩ = some (.int .i64 op2) ∧ V.cell? ⟨b, off + 8 + 2, none⟩ = some (.string (str8 tb2)) ∧ V.cell? ⟨b, off + 8 + 3, none⟩ = some (.string (str8 nm2)) ∧ V.cell? ⟨b, off + 8 + 4, none⟩ = some (.int .i64 vk2) ∧ V.cell? ⟨b, off + 8 + 5, none⟩ = some (.int .i64 vn2) ∧ V.cell? ⟨b, off + 8 + 6, none⟩ = some (.string (str8 vs2)) ∧ V.cell? ⟨b, off + 8 + 7, none⟩ = some (.slice aa2 nn2 cc2))) V from ⟨(hb.cell (p := ⟨w.heap.size, 1, none⟩) (by have := HL.out; show w.heap.size < _; omega)).trans Y1.out, (hb.cell (p := ⟨w.heap.size, 7, none⟩) (by have := HL.out; show w.heap.size < _; omega)).trans Y7.out, H8A.out.on hb, H8B.out.on hb⟩))
  have hS0 := HSN.out W (Below.refl _ W)
  clear z0 z1 hbW hzW h8a h8b y1 y7
  have HC1 := yis_any k1 op1 tb1 nm1 vk1 vn1 vs1 ys1 aa1 nn1 cc1 col W
  have HHC2 := hid (fun V => yis_any k2 op2 tb2 nm2 vk2 vn2 vs2 ys2 aa2 nn2 cc2 col V)
  have HHV1 := hid (fun V => yliteral_any k1 op1 tb1 nm1 vk1 vn1 vs1 ys1 aa1 nn1 cc1 V hl1)
  have HHV2 := hid (fun V => yliteral_any k2 op2 tb2 nm2 vk2 vn2 vs2 ys2 aa2 nn2 cc2 V hl2)
  rw [hp] at HC1
  rw [hq] at HHC2
  rw [hr] at HHV1
  rw [hs] at HHV2
  have d1 : decide (op < 3) = false := decide_eq_false (by omega)
  have d2 : decide (8 < op) = false := decide_eq_false (by omega)
  have d3 : decide (op = 4) = false := decide_eq_false (by omega)
  go_enter Tryd.func11, Tryd.ntmps11
  go_wp2_with (first
      | (go_at_call 27; refine HC1.mono ?_; clear HC1; rintro e w1 ⟨rfl, hb1⟩
         have HB1 := hid hb1
         have hS1 := HSN.out w1 HB1.out
         have HC2 := HHC2.out w1
         clear hb1 hS0)
      | (go_at_call 27; refine HC2.mono ?_; clear HC2; rintro e w2 ⟨rfl, hb2⟩
         have HB2 := htr HB1 hb2
         have hS2 := HSN.out w2 HB2.out
         have HV1 := HHV1.out w2
         clear hb2 hS1)
      | (go_at_call 28; refine HV1.mono ?_; clear HV1; rintro e w3 ⟨rfl, hb3⟩
         have HB3 := htr HB2 hb3
         have hS3 := HSN.out w3 HB3.out
         have HV2 := HHV2.out w3
         clear hb3 hS2)
      | (go_at_call 28; refine HV2.mono ?_; clear HV2; rintro e w4 ⟨rfl, hb4⟩
         have HB4 := htr HB3 hb4
         have hS4 := HSN.out w4 HB4.out
         have HZ5 := hid ((HB4.out.block (w.heap.size + 1) HL.out).trans HZ.out)
         obtain ⟨m0, m1, m2, m3, m4, m5⟩ := row3 HZ5.out
         have HBW := hid (HB.out.trans (HB4.out.mono HB.out.size))
         clear hb4 hS3))
  exact bodyPost_ret (v := .agg #[.slice none 0 0, .slice none 0 0, .bool false]) (results_cell_row (p := 4) (ty := 31) rfl _ _ (w.heap.size + 1) 31 _ (0, 0) _ rfl (set3 HZ5.out _ _ _) Tryd.underlying31 rfl Tryd.infoSpan) rfl ⟨_, _, rfl, says_nil _, says_nil _, below3 HBW.out (by omega) _ _ _⟩


set_option maxHeartbeats 4000000 in
theorem yspan_all01 (op : Int) (tb nm : List UInt8) (vk vn : Int) (vs : List UInt8) (b off cc : Nat) (col : Int) (w : World)
    (k1 op1 : Int) (tb1 nm1 : List UInt8) (vk1 vn1 : Int) (vs1 : List UInt8) (aa1 : Option Addr) (nn1 cc1 : Nat) (k2 op2 : Int) (tb2 nm2 : List UInt8) (vk2 vn2 : Int) (vs2 : List UInt8) (aa2 : Option Addr) (nn2 cc2 : Nat)
    (h8a : At8 w b off k1 op1 tb1 nm1 vk1 vn1 vs1 (.slice aa1 nn1 cc1)) (h8b : At8 w b (off + 8) k2 op2 tb2 nm2 vk2 vn2 vs2 (.slice aa2 nn2 cc2)) (hcc : 2 ≤ cc) (hcm : cc ≤ maxLen) (ho : ¬ op = 2) (hop : op = 3 ∨ op = 5 ∨ op = 6 ∨ op = 7 ∨ op = 8) (ys1 ys2 : List Ex) (hl1 : vs1.length ≤ 9223372036854775807) (hl2 : vs2.length ≤ 9223372036854775807) (s : Bool) (hp : isCol (.mk k1 op1 tb1 nm1 ⟨vk1, vn1, vs1⟩ ys1) col = false) (hq : isCol (.mk k2 op2 tb2 nm2 ⟨vk2, vn2, vs2⟩ ys2) col = true) (hr : isVal (.mk k1 op1 tb1 nm1 ⟨vk1, vn1, vs1⟩ ys1) = false) (hs : isVal (.mk k2 op2 tb2 nm2 ⟨vk2, vn2, vs2⟩ ys2) = s) :
    Calls Tryd.prog 11 #[.agg #[.int .i64 3, .int .i64 op, .string (str8 tb), .string (str8 nm), .int .i64 vk, .int .i64 vn, .string (str8 vs), .slice (some ⟨b, off, none⟩) 2 cc], .int .i64 col] w (YP w allP) := by
  obtain ⟨z0, z1, hbW, hzW⟩ := alloc2 w (.cells #[.int .i64 3, .int .i64 op, .string (str8 tb), .string (str8 nm), .int .i64 vk, .int .i64 vn, .string (str8 vs), .slice (some ⟨b, off, none⟩) 2 cc] 26) (.cells #[.slice none 0 0, .slice none 0 0, .bool false] 31)
  obtain ⟨W, hW⟩ : ∃ W, (w.alloc (.cells #[.int .i64 3, .int .i64 op, .string (str8 tb), .string (str8 nm), .int .i64 vk, .int .i64 vn, .string (str8 vs), .slice (some ⟨b, off, none⟩) 2 cc] 26)).alloc (.cells #[.slice none 0 0, .slice none 0 0, .bool false] 31) = W := ⟨_, rfl⟩
  rw [hW] at z0 z1 hbW hzW
  have y0 := (cells8 z0).1
  have y1 := (cells8 z0).2.1
  have y7 := (cells8 z0).2.2.2.2.2.2.2
  have HZ := hid z1
  have HB := hid hbW
  have HL := hid (show w.heap.size + 1 < W.heap.size from by omega)
  have H8A := hid (h8a.on hbW)
  have H8B := hid (h8b.on hbW)
  have hcm' : cc ≤ 9223372036854775807 := hcm
  have Y1 := hid y1
  have Y7 := hid y7
  have HSN := hid (fun (V : World) (hb : Below W.heap.size W V) => (show (fun V : World => V.cell? ⟨w.heap.size, 1, none⟩ = some (.int .i64 op) ∧ V.cell? ⟨w.heap.size, 7, none⟩ = some (.slice (some ⟨b, off, none⟩) 2 cc) ∧ (V.cell? ⟨b, off, none⟩ = some (.int .i64 k1) ∧ V.cell? ⟨b, off + 1, none⟩ = some (.int .i64 op1) ∧ V.cell? ⟨b, off + 2, none⟩ = some (.string (str8 tb1)) ∧ V.cell? ⟨b, off + 3, none⟩ = some (.string (str8 nm1)) ∧ V.cell? ⟨b, off + 4, none⟩ = some (.int .i64 vk1) ∧ V.cell? ⟨b, off + 5, none⟩ = some (.int .i64 vn1) ∧ V.cell? ⟨b, off + 6, none⟩ = some (.string (str8 vs1)) ∧ V.cell? ⟨b, off + 7, none⟩ = some (.slice aa1 nn1 cc1)) ∧ (V.cell? ⟨b, off + 8, none⟩ = some (.int .i64 k2) ∧ V.cell? ⟨b, off + 8 + 1, none⟩ = some (.int .i64 op2) ∧ V.cell? ⟨b, off + 8 + 2, none⟩ = some (.string (str8 tb2)) ∧ V.cell? ⟨b, off + 8 + 3, none⟩ = some (.string (str8 nm2)) ∧ V.cell? ⟨b, off + 8 + 4, none⟩ = some (.int .i64 vk2) ∧ V.cell? ⟨b, off + 8 + 5, none⟩ = some (.int .i64 vn2) ∧ V.cell? ⟨b, off + 8 + 6, none⟩ = some (.string (str8 vs2)) ∧ V.cell? ⟨b, off + 8 + 7, none⟩ = some (.slice aa2 nn2 cc2))) V from ⟨(hb.cell (p := ⟨w.heap.size, 1, none⟩) (by have := HL.out; show w.heap.size < _; omega)).trans Y1.out, (hb.cell (p := ⟨w.heap.size, 7, none⟩) (by have := HL.out; show w.heap.size < _; omega)).trans Y7.out, H8A.out.on hb, H8B.out.on hb⟩))
  have hS0 := HSN.out W (Below.refl _ W)
  clear z0 z1 hbW hzW h8a h8b y1 y7
  have HC1 := yis_any k1 op1 tb1 nm1 vk1 vn1 vs1 ys1 aa1 nn1 cc1 col W
  have HHC2 := hid (fun V => yis_any k2 op2 tb2 nm2 vk2 vn2 vs2 ys2 aa2 nn2 cc2 col V)
  have HHV1 := hid (fun V => yliteral_any k1 op1 tb1 nm1 vk1 vn1 vs1 ys1 aa1 nn1 cc1 V hl1)
  have HHV2 := hid (fun V => yliteral_any k2 op2 tb2 nm2 vk2 vn2 vs2 ys2 aa2 nn2 cc2 V hl2)
  rw [hp] at HC1
  rw [hq] at HHC2
  rw [hr] at HHV1
  rw [hs] at HHV2
  have d1 : decide (op < 3) = false := decide_eq_false (by omega)
  have d2 : decide (8 < op) = false := decide_eq_false (by omega)
  have d3 : decide (op = 4) = false := decide_eq_false (by omega)
  go_enter Tryd.func11, Tryd.ntmps11
  go_wp2_with (first
      | (go_at_call 27; refine HC1.mono ?_; clear HC1; rintro e w1 ⟨rfl, hb1⟩
         have HB1 := hid hb1
         have hS1 := HSN.out w1 HB1.out
         have HC2 := HHC2.out w1
         clear hb1 hS0)
      | (go_at_call 27; refine HC2.mono ?_; clear HC2; rintro e w2 ⟨rfl, hb2⟩
         have HB2 := htr HB1 hb2
         have hS2 := HSN.out w2 HB2.out
         have HV1 := HHV1.out w2
         clear hb2 hS1)
      | (go_at_call 28; refine HV1.mono ?_; clear HV1; rintro e w3 ⟨rfl, hb3⟩
         have HB3 := htr HB2 hb3
         have hS3 := HSN.out w3 HB3.out
         have HV2 := HHV2.out w3
         clear hb3 hS2)
      | (go_at_call 28; refine HV2.mono ?_; clear HV2; rintro e w4 ⟨rfl, hb4⟩
         have HB4 := htr HB3 hb4
         have hS4 := HSN.out w4 HB4.out
         have HZ5 := hid ((HB4.out.block (w.heap.size + 1) HL.out).trans HZ.out)
         obtain ⟨m0, m1, m2, m3, m4, m5⟩ := row3 HZ5.out
         have HBW := hid (HB.out.trans (HB4.out.mono HB.out.size))
         clear hb4 hS3))
  exact bodyPost_ret (v := .agg #[.slice none 0 0, .slice none 0 0, .bool false]) (results_cell_row (p := 4) (ty := 31) rfl _ _ (w.heap.size + 1) 31 _ (0, 0) _ rfl (set3 HZ5.out _ _ _) Tryd.underlying31 rfl Tryd.infoSpan) rfl ⟨_, _, rfl, says_nil _, says_nil _, below3 HBW.out (by omega) _ _ _⟩


set_option maxHeartbeats 4000000 in
theorem yspan_all10 (op : Int) (tb nm : List UInt8) (vk vn : Int) (vs : List UInt8) (b off cc : Nat) (col : Int) (w : World)
    (k1 op1 : Int) (tb1 nm1 : List UInt8) (vk1 vn1 : Int) (vs1 : List UInt8) (aa1 : Option Addr) (nn1 cc1 : Nat) (k2 op2 : Int) (tb2 nm2 : List UInt8) (vk2 vn2 : Int) (vs2 : List UInt8) (aa2 : Option Addr) (nn2 cc2 : Nat)
    (h8a : At8 w b off k1 op1 tb1 nm1 vk1 vn1 vs1 (.slice aa1 nn1 cc1)) (h8b : At8 w b (off + 8) k2 op2 tb2 nm2 vk2 vn2 vs2 (.slice aa2 nn2 cc2)) (hcc : 2 ≤ cc) (hcm : cc ≤ maxLen) (ho : ¬ op = 2) (hop : op = 3 ∨ op = 5 ∨ op = 6 ∨ op = 7 ∨ op = 8) (ys1 ys2 : List Ex) (hl1 : vs1.length ≤ 9223372036854775807) (hl2 : vs2.length ≤ 9223372036854775807) (r : Bool) (hp : isCol (.mk k1 op1 tb1 nm1 ⟨vk1, vn1, vs1⟩ ys1) col = true) (hq : isCol (.mk k2 op2 tb2 nm2 ⟨vk2, vn2, vs2⟩ ys2) col = false) (hr : isVal (.mk k1 op1 tb1 nm1 ⟨vk1, vn1, vs1⟩ ys1) = r) (hs : isVal (.mk k2 op2 tb2 nm2 ⟨vk2, vn2, vs2⟩ ys2) = false) :
    Calls Tryd.prog 11 #[.agg #[.int .i64 3, .int .i64 op, .string (str8 tb), .string (str8 nm), .int .i64 vk, .int .i64 vn, .string (str8 vs), .slice (some ⟨b, off, none⟩) 2 cc], .int .i64 col] w (YP w allP) := by
  obtain ⟨z0, z1, hbW, hzW⟩ := alloc2 w (.cells #[.int .i64 3, .int .i64 op, .string (str8 tb), .string (str8 nm), .int .i64 vk, .int .i64 vn, .string (str8 vs), .slice (some ⟨b, off, none⟩) 2 cc] 26) (.cells #[.slice none 0 0, .slice none 0 0, .bool false] 31)
  obtain ⟨W, hW⟩ : ∃ W, (w.alloc (.cells #[.int .i64 3, .int .i64 op, .string (str8 tb), .string (str8 nm), .int .i64 vk, .int .i64 vn, .string (str8 vs), .slice (some ⟨b, off, none⟩) 2 cc] 26)).alloc (.cells #[.slice none 0 0, .slice none 0 0, .bool false] 31) = W := ⟨_, rfl⟩
  rw [hW] at z0 z1 hbW hzW
  have y0 := (cells8 z0).1
  have y1 := (cells8 z0).2.1
  have y7 := (cells8 z0).2.2.2.2.2.2.2
  have HZ := hid z1
  have HB := hid hbW
  have HL := hid (show w.heap.size + 1 < W.heap.size from by omega)
  have H8A := hid (h8a.on hbW)
  have H8B := hid (h8b.on hbW)
  have hcm' : cc ≤ 9223372036854775807 := hcm
  have Y1 := hid y1
  have Y7 := hid y7
  have HSN := hid (fun (V : World) (hb : Below W.heap.size W V) => (show (fun V : World => V.cell? ⟨w.heap.size, 1, none⟩ = some (.int .i64 op) ∧ V.cell? ⟨w.heap.size, 7, none⟩ = some (.slice (some ⟨b, off, none⟩) 2 cc) ∧ (V.cell? ⟨b, off, none⟩ = some (.int .i64 k1) ∧ V.cell? ⟨b, off + 1, none⟩ = some (.int .i64 op1) ∧ V.cell? ⟨b, off + 2, none⟩ = some (.string (str8 tb1)) ∧ V.cell? ⟨b, off + 3, none⟩ = some (.string (str8 nm1)) ∧ V.cell? ⟨b, off + 4, none⟩ = some (.int .i64 vk1) ∧ V.cell? ⟨b, off + 5, none⟩ = some (.int .i64 vn1) ∧ V.cell? ⟨b, off + 6, none⟩ = some (.string (str8 vs1)) ∧ V.cell? ⟨b, off + 7, none⟩ = some (.slice aa1 nn1 cc1)) ∧ (V.cell? ⟨b, off + 8, none⟩ = some (.int .i64 k2) ∧ V.cell? ⟨b, off + 8 + 1, none⟩ = some (.int .i64 op2) ∧ V.cell? ⟨b, off + 8 + 2, none⟩ = some (.string (str8 tb2)) ∧ V.cell? ⟨b, off + 8 + 3, none⟩ = some (.string (str8 nm2)) ∧ V.cell? ⟨b, off + 8 + 4, none⟩ = some (.int .i64 vk2) ∧ V.cell? ⟨b, off + 8 + 5, none⟩ = some (.int .i64 vn2) ∧ V.cell? ⟨b, off + 8 + 6, none⟩ = some (.string (str8 vs2)) ∧ V.cell? ⟨b, off + 8 + 7, none⟩ = some (.slice aa2 nn2 cc2))) V from ⟨(hb.cell (p := ⟨w.heap.size, 1, none⟩) (by have := HL.out; show w.heap.size < _; omega)).trans Y1.out, (hb.cell (p := ⟨w.heap.size, 7, none⟩) (by have := HL.out; show w.heap.size < _; omega)).trans Y7.out, H8A.out.on hb, H8B.out.on hb⟩))
  have hS0 := HSN.out W (Below.refl _ W)
  clear z0 z1 hbW hzW h8a h8b y1 y7
  have HC1 := yis_any k1 op1 tb1 nm1 vk1 vn1 vs1 ys1 aa1 nn1 cc1 col W
  have HHC2 := hid (fun V => yis_any k2 op2 tb2 nm2 vk2 vn2 vs2 ys2 aa2 nn2 cc2 col V)
  have HHV1 := hid (fun V => yliteral_any k1 op1 tb1 nm1 vk1 vn1 vs1 ys1 aa1 nn1 cc1 V hl1)
  have HHV2 := hid (fun V => yliteral_any k2 op2 tb2 nm2 vk2 vn2 vs2 ys2 aa2 nn2 cc2 V hl2)
  rw [hp] at HC1
  rw [hq] at HHC2
  rw [hr] at HHV1
  rw [hs] at HHV2
  have d1 : decide (op < 3) = false := decide_eq_false (by omega)
  have d2 : decide (8 < op) = false := decide_eq_false (by omega)
  have d3 : decide (op = 4) = false := decide_eq_false (by omega)
  go_enter Tryd.func11, Tryd.ntmps11
  go_wp2_with (first
      | (go_at_call 27; refine HC1.mono ?_; clear HC1; rintro e w1 ⟨rfl, hb1⟩
         have HB1 := hid hb1
         have hS1 := HSN.out w1 HB1.out
         have HC2 := HHC2.out w1
         clear hb1 hS0)
      | (go_at_call 27; refine HC2.mono ?_; clear HC2; rintro e w2 ⟨rfl, hb2⟩
         have HB2 := htr HB1 hb2
         have hS2 := HSN.out w2 HB2.out
         have HV1 := HHV1.out w2
         clear hb2 hS1)
      | (go_at_call 28; refine HV1.mono ?_; clear HV1; rintro e w3 ⟨rfl, hb3⟩
         have HB3 := htr HB2 hb3
         have hS3 := HSN.out w3 HB3.out
         have HV2 := HHV2.out w3
         clear hb3 hS2)
      | (go_at_call 28; refine HV2.mono ?_; clear HV2; rintro e w4 ⟨rfl, hb4⟩
         have HB4 := htr HB3 hb4
         have hS4 := HSN.out w4 HB4.out
         have HZ5 := hid ((HB4.out.block (w.heap.size + 1) HL.out).trans HZ.out)
         obtain ⟨m0, m1, m2, m3, m4, m5⟩ := row3 HZ5.out
         have HBW := hid (HB.out.trans (HB4.out.mono HB.out.size))
         clear hb4 hS3))
  exact bodyPost_ret (v := .agg #[.slice none 0 0, .slice none 0 0, .bool false]) (results_cell_row (p := 4) (ty := 31) rfl _ _ (w.heap.size + 1) 31 _ (0, 0) _ rfl (set3 HZ5.out _ _ _) Tryd.underlying31 rfl Tryd.infoSpan) rfl ⟨_, _, rfl, says_nil _, says_nil _, below3 HBW.out (by omega) _ _ _⟩


set_option maxHeartbeats 4000000 in
theorem yspan_all11 (op : Int) (tb nm : List UInt8) (vk vn : Int) (vs : List UInt8) (b off cc : Nat) (col : Int) (w : World)
    (k1 op1 : Int) (tb1 nm1 : List UInt8) (vk1 vn1 : Int) (vs1 : List UInt8) (aa1 : Option Addr) (nn1 cc1 : Nat) (k2 op2 : Int) (tb2 nm2 : List UInt8) (vk2 vn2 : Int) (vs2 : List UInt8) (aa2 : Option Addr) (nn2 cc2 : Nat)
    (h8a : At8 w b off k1 op1 tb1 nm1 vk1 vn1 vs1 (.slice aa1 nn1 cc1)) (h8b : At8 w b (off + 8) k2 op2 tb2 nm2 vk2 vn2 vs2 (.slice aa2 nn2 cc2)) (hcc : 2 ≤ cc) (hcm : cc ≤ maxLen) (ho : ¬ op = 2) (hop : op = 3 ∨ op = 5 ∨ op = 6 ∨ op = 7 ∨ op = 8) (ys1 ys2 : List Ex) (hl1 : vs1.length ≤ 9223372036854775807) (hl2 : vs2.length ≤ 9223372036854775807) (hp : isCol (.mk k1 op1 tb1 nm1 ⟨vk1, vn1, vs1⟩ ys1) col = true) (hq : isCol (.mk k2 op2 tb2 nm2 ⟨vk2, vn2, vs2⟩ ys2) col = true) (hr : isVal (.mk k1 op1 tb1 nm1 ⟨vk1, vn1, vs1⟩ ys1) = false) (hs : isVal (.mk k2 op2 tb2 nm2 ⟨vk2, vn2, vs2⟩ ys2) = false) :
    Calls Tryd.prog 11 #[.agg #[.int .i64 3, .int .i64 op, .string (str8 tb), .string (str8 nm), .int .i64 vk, .int .i64 vn, .string (str8 vs), .slice (some ⟨b, off, none⟩) 2 cc], .int .i64 col] w (YP w allP) := by
  obtain ⟨z0, z1, hbW, hzW⟩ := alloc2 w (.cells #[.int .i64 3, .int .i64 op, .string (str8 tb), .string (str8 nm), .int .i64 vk, .int .i64 vn, .string (str8 vs), .slice (some ⟨b, off, none⟩) 2 cc] 26) (.cells #[.slice none 0 0, .slice none 0 0, .bool false] 31)
  obtain ⟨W, hW⟩ : ∃ W, (w.alloc (.cells #[.int .i64 3, .int .i64 op, .string (str8 tb), .string (str8 nm), .int .i64 vk, .int .i64 vn, .string (str8 vs), .slice (some ⟨b, off, none⟩) 2 cc] 26)).alloc (.cells #[.slice none 0 0, .slice none 0 0, .bool false] 31) = W := ⟨_, rfl⟩
  rw [hW] at z0 z1 hbW hzW
  have y0 := (cells8 z0).1
  have y1 := (cells8 z0).2.1
  have y7 := (cells8 z0).2.2.2.2.2.2.2
  have HZ := hid z1
  have HB := hid hbW
  have HL := hid (show w.heap.size + 1 < W.heap.size from by omega)
  have H8A := hid (h8a.on hbW)
  have H8B := hid (h8b.on hbW)
  have hcm' : cc ≤ 9223372036854775807 := hcm
  have Y1 := hid y1
  have Y7 := hid y7
  have HSN := hid (fun (V : World) (hb : Below W.heap.size W V) => (show (fun V : World => V.cell? ⟨w.heap.size, 1, none⟩ = some (.int .i64 op) ∧ V.cell? ⟨w.heap.size, 7, none⟩ = some (.slice (some ⟨b, off, none⟩) 2 cc) ∧ (V.cell? ⟨b, off, none⟩ = some (.int .i64 k1) ∧ V.cell? ⟨b, off + 1, none⟩ = some (.int .i64 op1) ∧ V.cell? ⟨b, off + 2, none⟩ = some (.string (str8 tb1)) ∧ V.cell? ⟨b, off + 3, none⟩ = some (.string (str8 nm1)) ∧ V.cell? ⟨b, off + 4, none⟩ = some (.int .i64 vk1) ∧ V.cell? ⟨b, off + 5, none⟩ = some (.int .i64 vn1) ∧ V.cell? ⟨b, off + 6, none⟩ = some (.string (str8 vs1)) ∧ V.cell? ⟨b, off + 7, none⟩ = some (.slice aa1 nn1 cc1)) ∧ (V.cell? ⟨b, off + 8, none⟩ = some (.int .i64 k2) ∧ V.cell? ⟨b, off + 8 + 1, none⟩ = some (.int .i64 op2) ∧ V.cell? ⟨b, off + 8 + 2, none⟩ = some (.string (str8 tb2)) ∧ V.cell? ⟨b, off + 8 + 3, none⟩ = some (.string (str8 nm2)) ∧ V.cell? ⟨b, off + 8 + 4, none⟩ = some (.int .i64 vk2) ∧ V.cell? ⟨b, off + 8 + 5, none⟩ = some (.int .i64 vn2) ∧ V.cell? ⟨b, off + 8 + 6, none⟩ = some (.string (str8 vs2)) ∧ V.cell? ⟨b, off + 8 + 7, none⟩ = some (.slice aa2 nn2 cc2))) V from ⟨(hb.cell (p := ⟨w.heap.size, 1, none⟩) (by have := HL.out; show w.heap.size < _; omega)).trans Y1.out, (hb.cell (p := ⟨w.heap.size, 7, none⟩) (by have := HL.out; show w.heap.size < _; omega)).trans Y7.out, H8A.out.on hb, H8B.out.on hb⟩))
  have hS0 := HSN.out W (Below.refl _ W)
  clear z0 z1 hbW hzW h8a h8b y1 y7
  have HC1 := yis_any k1 op1 tb1 nm1 vk1 vn1 vs1 ys1 aa1 nn1 cc1 col W
  have HHC2 := hid (fun V => yis_any k2 op2 tb2 nm2 vk2 vn2 vs2 ys2 aa2 nn2 cc2 col V)
  have HHV1 := hid (fun V => yliteral_any k1 op1 tb1 nm1 vk1 vn1 vs1 ys1 aa1 nn1 cc1 V hl1)
  have HHV2 := hid (fun V => yliteral_any k2 op2 tb2 nm2 vk2 vn2 vs2 ys2 aa2 nn2 cc2 V hl2)
  rw [hp] at HC1
  rw [hq] at HHC2
  rw [hr] at HHV1
  rw [hs] at HHV2
  have d1 : decide (op < 3) = false := decide_eq_false (by omega)
  have d2 : decide (8 < op) = false := decide_eq_false (by omega)
  have d3 : decide (op = 4) = false := decide_eq_false (by omega)
  go_enter Tryd.func11, Tryd.ntmps11
  go_wp2_with (first
      | (go_at_call 27; refine HC1.mono ?_; clear HC1; rintro e w1 ⟨rfl, hb1⟩
         have HB1 := hid hb1
         have hS1 := HSN.out w1 HB1.out
         have HC2 := HHC2.out w1
         clear hb1 hS0)
      | (go_at_call 27; refine HC2.mono ?_; clear HC2; rintro e w2 ⟨rfl, hb2⟩
         have HB2 := htr HB1 hb2
         have hS2 := HSN.out w2 HB2.out
         have HV1 := HHV1.out w2
         clear hb2 hS1)
      | (go_at_call 28; refine HV1.mono ?_; clear HV1; rintro e w3 ⟨rfl, hb3⟩
         have HB3 := htr HB2 hb3
         have hS3 := HSN.out w3 HB3.out
         have HV2 := HHV2.out w3
         clear hb3 hS2)
      | (go_at_call 28; refine HV2.mono ?_; clear HV2; rintro e w4 ⟨rfl, hb4⟩
         have HB4 := htr HB3 hb4
         have hS4 := HSN.out w4 HB4.out
         have HZ5 := hid ((HB4.out.block (w.heap.size + 1) HL.out).trans HZ.out)
         obtain ⟨m0, m1, m2, m3, m4, m5⟩ := row3 HZ5.out
         have HBW := hid (HB.out.trans (HB4.out.mono HB.out.size))
         clear hb4 hS3))
  exact bodyPost_ret (v := .agg #[.slice none 0 0, .slice none 0 0, .bool false]) (results_cell_row (p := 4) (ty := 31) rfl _ _ (w.heap.size + 1) 31 _ (0, 0) _ rfl (set3 HZ5.out _ _ _) Tryd.underlying31 rfl Tryd.infoSpan) rfl ⟨_, _, rfl, says_nil _, says_nil _, below3 HBW.out (by omega) _ _ _⟩


set_option maxHeartbeats 2000000 in
theorem yspan_kind (k op : Int) (tb nm : List UInt8) (vk vn : Int) (vs : List UInt8) (aa : Option Addr) (nn cc : Nat) (col : Int) (w : World) (hk : ¬ k = 3) :
    Calls Tryd.prog 11 #[.agg #[.int .i64 k, .int .i64 op, .string (str8 tb), .string (str8 nm), .int .i64 vk, .int .i64 vn, .string (str8 vs), .slice aa nn cc], .int .i64 col] w (YP w allP) := by
  obtain ⟨z0, z1, hbW, hzW⟩ := alloc2 w (.cells #[.int .i64 k, .int .i64 op, .string (str8 tb), .string (str8 nm), .int .i64 vk, .int .i64 vn, .string (str8 vs), .slice aa nn cc] 26) (.cells #[.slice none 0 0, .slice none 0 0, .bool false] 31)
  obtain ⟨W, hW⟩ : ∃ W, (w.alloc (.cells #[.int .i64 k, .int .i64 op, .string (str8 tb), .string (str8 nm), .int .i64 vk, .int .i64 vn, .string (str8 vs), .slice aa nn cc] 26)).alloc (.cells #[.slice none 0 0, .slice none 0 0, .bool false] 31) = W := ⟨_, rfl⟩
  rw [hW] at z0 z1 hbW hzW
  have y0 := (cells8 z0).1
  have y1 := (cells8 z0).2.1
  have y7 := (cells8 z0).2.2.2.2.2.2.2
  have HZ := hid z1
  have HB := hid hbW
  have HL := hid (show w.heap.size + 1 < W.heap.size from by omega)
  clear z0 z1 hbW hzW
  obtain ⟨m0, m1, m2, m3, m4, m5⟩ := row3 HZ.out
  go_enter Tryd.func11, Tryd.ntmps11
  go_wp2_with fail
  exact bodyPost_ret (v := .agg #[.slice none 0 0, .slice none 0 0, .bool false]) (results_cell_row (p := 4) (ty := 31) rfl _ _ (w.heap.size + 1) 31 _ (0, 0) _ rfl (set3 HZ.out _ _ _) Tryd.underlying31 rfl Tryd.infoSpan) rfl ⟨_, _, rfl, says_nil _, says_nil _, below3 HB.out (by omega) _ _ _⟩

set_option maxHeartbeats 2000000 in
theorem yspan_count (op : Int) (tb nm : List UInt8) (vk vn : Int) (vs : List UInt8) (aa : Option Addr) (nn cc : Nat) (col : Int) (w : World) (hn : ¬ ((nn : Int) = 2)) (hm : nn ≤ 9223372036854775807) :
    Calls Tryd.prog 11 #[.agg #[.int .i64 3, .int .i64 op, .string (str8 tb), .string (str8 nm), .int .i64 vk, .int .i64 vn, .string (str8 vs), .slice aa nn cc], .int .i64 col] w (YP w allP) := by
  obtain ⟨z0, z1, hbW, hzW⟩ := alloc2 w (.cells #[.int .i64 3, .int .i64 op, .string (str8 tb), .string (str8 nm), .int .i64 vk, .int .i64 vn, .string (str8 vs), .slice aa nn cc] 26) (.cells #[.slice none 0 0, .slice none 0 0, .bool false] 31)
  obtain ⟨W, hW⟩ : ∃ W, (w.alloc (.cells #[.int .i64 3, .int .i64 op, .string (str8 tb), .string (str8 nm), .int .i64 vk, .int .i64 vn, .string (str8 vs), .slice aa nn cc] 26)).alloc (.cells #[.slice none 0 0, .slice none 0 0, .bool false] 31) = W := ⟨_, rfl⟩
  rw [hW] at z0 z1 hbW hzW
  have y0 := (cells8 z0).1
  have y1 := (cells8 z0).2.1
  have y7 := (cells8 z0).2.2.2.2.2.2.2
  have HZ := hid z1
  have HB := hid hbW
  have HL := hid (show w.heap.size + 1 < W.heap.size from by omega)
  clear z0 z1 hbW hzW
  obtain ⟨m0, m1, m2, m3, m4, m5⟩ := row3 HZ.out
  go_enter Tryd.func11, Tryd.ntmps11
  go_wp2_with fail
  exact bodyPost_ret (v := .agg #[.slice none 0 0, .slice none 0 0, .bool false]) (results_cell_row (p := 4) (ty := 31) rfl _ _ (w.heap.size + 1) 31 _ (0, 0) _ rfl (set3 HZ.out _ _ _) Tryd.underlying31 rfl Tryd.infoSpan) rfl ⟨_, _, rfl, says_nil _, says_nil _, below3 HB.out (by omega) _ _ _⟩

end Go.Proofs.YthjgbcbgkafgjaaDoor
