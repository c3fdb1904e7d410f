/- Packed for the hand-in: RefJF WExprsL OpenT -/
import Derived.Test.YtnidnipiihhnaaaGreatDoorY48
import Derived.Test.YtnidnipiihhnaaaGreatDoorY36
import Derived.Test.YtnidnipiihhnaaaGreatDoorY38
import Derived.Test.YtnidnipiihhnaaaGreatDoorY39
import Derived.Test.YtnidnipiihhnaaaGreatDoorY26
import Derived.Test.YtnidnipiihhnaaaGreatDoorRows
import Derived.Test.YtnidnipiihhnaaaGreatDoorY10
import Derived.Handed
import Derived.LaidLaws
import Derived.Lay
import Derived.Lib.LaidTab
import Derived.Shelf.Vars
import Derived.SizedLaws
import Derived.MakeChecks
import Derived.Stop.LaidErr
import Derived.OpenShut
import Derived.ChangeArms
namespace Go.Proofs.YtnidnipiihhnaaaGreatDoor
open Go.RowKit Go.Shelf
set_option linter.unusedSimpArgs false
set_option linter.unusedVariables false
set_option maxRecDepth 20000
set_option maxHeartbeats 8000000
theorem new_jw (w : World) : ∃ W, w.alloc (.cells #[.slice none 0 0, .int .i64 0] 64) = W ∧ Below w.heap.size w W ∧ w.heap.size < W.heap.size ∧ JwAt W w.heap.size none [] 0 := by
  obtain ⟨W, hW, hbW, hzW, hcW⟩ := box8 w (.cells #[.slice none 0 0, .int .i64 0] 64)
  exact ⟨W, hW, hbW, hzW, ⟨_, hcW, World.ownsRow_nil _ _ _ _, rfl⟩⟩
theorem jexpr_any (S : Nat → Prop) (x : Ex) (v : Value) (w : World) (hR : RgE x) (hx : ExV S w x v) (hz : rightE x = true → exZ x ≤ 100000) :
    Calls Tryz.prog 12 #[v] w fun e w' => e = .returned (.tuple #[.string (str8 (exprA x).1), .int .i64 (exprA x).2]) ∧ Below w.heap.size w w' := by
  have HX := hid hx
  obtain ⟨k, op, tb, nm, vk, vn, vs, ys, aa, nn, cc, he, rfl, ha⟩ := hx
  obtain ⟨W, hW, hbW, hzW, hcW⟩ := box8 w (.cells #[.int .i64 k, .int .i64 op, .string (str8 tb), .string (str8 nm), .int .i64 vk, .int .i64 vn, .string (str8 vs), .slice aa nn cc] 26)
  have k0 := cells8 hcW
  have HRE := hid (jrightE_any S x _ W hR (HX.out.new hbW))
  have HB := hid hbW
  have HC := hid hcW
  unfold exprA
  clear hbW hcW hR
  cases hr : rightE x with
  | false =>
    rw [hr] at HRE
    rw [if_neg Bool.false_ne_true]
    clear hr hz ha he
    go_enter Tryz.func12, Tryz.ntmps12
    go_wp2_with fail
    refine HRE.out.mono ?_
    rintro e w1 ⟨rfl, hb1⟩
    have HB1 := hid (HB.out.trans (hb1.mono HB.out.size))
    clear hb1 HRE
    go_wp2
    exact bodyPost_ret (v := .tuple #[.string ⟨#[]⟩, .int .i64 4]) (by simp [results, Tryz.results12, go_sem]) rfl ⟨rfl, HB1.out⟩
  | true =>
    rw [hr] at HRE
    rw [if_pos rfl]
    have hz2 := hz hr
    have hl := exK_le x
    have hd := exD_le x
    have HOK : Hid (∀ t ∈ exK x, OkT t) := hid (fun t ht => (ex_good hr t ht).ok)
    have HEX := hid (fun (g : Nat) (V : World) (u : Value) (hV : JwAt V g none [] 0) (hu : ArgsAt (fun b => b ≠ g) V [x] u) => jexprs_of (fun b => b ≠ g) x hr (.slice none 0 0) [] g none [] 0 V u hV (fun b hb e => e.elim hb (fun e => by cases e)) hu (by simp; omega) (by omega) (by decide) (by decide) (hid ((jwords_none g V).mono fun e w' ⟨h1, h2⟩ => ⟨h1, by rw [h2]; exact hV.here⟩)))
    have HMD : Hid (max (0 : Int) (exD x : Int) = (exD x : Int)) := hid (by omega)
    obtain ⟨R, hRR⟩ : ∃ R, srcA (exK x) ((exD x : Nat) : Int) = R := ⟨_, rfl⟩
    rw [hRR]
    have HRR := hid hRR
    have HN : Hid ((exK x).length ≤ 10000000) := hid (by omega)
    clear hRR hr hz hz2 hl hd
    go_enter Tryz.func12, Tryz.ntmps12
    go_wp2_with fail
    refine HRE.out.mono ?_
    rintro e w1 ⟨rfl, hb1⟩
    have hB1 : Below w.heap.size w w1 := HB.out.trans (hb1.mono HB.out.size)
    have k1 := cells8 ((hb1.block w.heap.size hzW).trans HC.out)
    obtain ⟨V, hV, hbV, hzV, hjV⟩ := new_jw w1
    obtain ⟨U, hU, hbU, hzU, hcU⟩ := box8 V (.cells #[.int .i64 k, .int .i64 op, .string (str8 tb), .string (str8 nm), .int .i64 vk, .int .i64 vn, .string (str8 vs), .slice aa nn cc] 26)
    have hwz : w.heap.size < w1.heap.size := Nat.lt_of_lt_of_le hzW hb1.size
    have kV := cells8 ((hbV.block w.heap.size hwz).trans ((hb1.block w.heap.size hzW).trans HC.out))
    have HB1 := hid hB1
    have HBU : Hid (Below w.heap.size w U) := hid (hB1.trans ((hbV.trans (hbU.mono hbV.size)).mono hB1.size))
    have HJU := hid (hjV.below hbU)
    have hargs : ArgsAt (fun b => b ≠ w1.heap.size) U [x] (.slice (some ⟨V.heap.size, 0, none⟩) 1 1) := by
      have hwU := HBU.out
      have ha2 := ha.to (R := fun _ => False) (T := fun b => b ≠ w1.heap.size) (Spares.of_new hwU) (fun b _ hb => ⟨id, by omega⟩)
      rw [he]
      exact args_one (S := fun b => b ≠ w1.heap.size) (show V.heap.size ≠ w1.heap.size by omega) hcU ha2
    have HAR := hid (HEX.out w1.heap.size U _ HJU.out hargs)
    clear hb1 hB1 HRE hbV hjV hbU hcU hargs HJU HEX ha
    go_wp2_with fail
    try rw [hV]
    try rw [hU]
    refine HAR.out.mono ?_
    rintro e w2 ⟨rfl, tb2, hw2, ht2, hf2⟩
    rw [List.nil_append, List.nil_append, HMD.out] at hw2
    have HS := hid (jend_any _ _ _ _ w2 hw2 HOK.out HN.out)
    have HB2 : Hid (Below w.heap.size w w2) := hid (HBU.out.trans (hf2.below (fun i hi => by
      rcases hi with rfl | e
      · omega
      · cases e) (by have := HBU.out.size; omega)))
    clear hw2 ht2 hf2 HAR
    rw [HRR.out] at HS
    go_wp2_with fail
    refine HS.out.mono ?_
    rintro e w3 ⟨rfl, hb3⟩
    have HB3 := hid (HB2.out.trans (hb3.mono HB2.out.size))
    clear hb3 HS
    go_wp2
    exact bodyPost_ret (v := .tuple #[.string (str8 R.1), .int .i64 R.2]) (by simp [results, Tryz.results12, go_sem]) rfl ⟨rfl, HB3.out⟩
theorem sameXE_any {S T : Nat → Prop} {W : World} {x : Ex} {u u' : Value} (h : ExV S W x u) (h' : ExV T W x u') : ∀ V, Below W.heap.size W V → Calls Tryz.prog 13 #[u, u'] V fun e w' => e = .returned (.bool true) ∧ Below V.heap.size V w' := by
  obtain ⟨k, op, tb, nm, vk, vn, vs, ys, aa, nn, cc, rfl, rfl, ha⟩ := h
  obtain ⟨k', op', tb', nm', vk', vn', vs', ys', aa', nn', cc', hx, rfl, ha'⟩ := h'
  simp only [Ex.mk.injEq, Vl.mk.injEq] at hx
  obtain ⟨rfl, rfl, rfl, rfl, ⟨rfl, rfl, rfl⟩, rfl⟩ := hx
  intro V hV
  exact sameExpr_of k op vk vn tb nm vs aa aa' nn nn' cc cc' V (fun Z hZ => sameExprs_any S T W ys _ ha Z _ (hV.trans (hZ.mono hV.size)) (ha'.to (R := fun _ => False) (Spares.of_new (hV.trans (hZ.mono hV.size))) (fun b hb _ => ⟨id, hb⟩)))
theorem printExprs_law (x : Ex) (v : Value) (w : World) (hx : ExV (fun b => b < w.heap.size) w x v) (hR : RgE x) (hTW : TabW w) :
    Calls Tryz.prog 3 #[v] w fun e w' => e = .returned (.bool true) ∧ Below w.heap.size w w' := by
  have HXV := hid hx
  obtain ⟨k, op, tb, nm, vk, vn, vs, ys, aa, nn, cc, _, rfl, _⟩ := hx
  obtain ⟨W, hW, hbW, hzW, hcW⟩ := box8 w (.cells #[.int .i64 k, .int .i64 op, .string (str8 tb), .string (str8 nm), .int .i64 vk, .int .i64 vn, .string (str8 vs), .slice aa nn cc] 26)
  have HBW := hid hbW
  have HC0 := hid hcW
  have HXW := hid (HXV.out.new hbW)
  have HTW := hid hTW
  have HSM := hid (small10_any W (hTW.on hbW))
  have HFE := hid (fun V (hV : Below W.heap.size W V) => few_any _ 12 x _ V (by decide) hR (HXW.out.new hV))
  have HCP := hid (fun V (hV : Below W.heap.size W V) (hf : fewB 12 x = true) => copied_any _ 12 x _ V hf (HXW.out.new hV))
  have HPE := hid (fun V S u (h : TabW V) (hu : ExV S V x u) (hf : fewB 12 x = true) => printExpr_any S x u V h hR hu (fun hr => Nat.le_trans (few_size hr hf) (by decide)))
  have HJE := hid (fun V (hV : Below W.heap.size W V) (hf : fewB 12 x = true) => jexpr_any _ x _ V hR (HXW.out.new hV) (fun hr => Nat.le_trans (few_size hr hf) (by decide)))
  clear hTW hbW hcW HXV hR
  obtain ⟨be, hbe⟩ : ∃ b, fewB 12 x = b := ⟨_, rfl⟩
  obtain ⟨⟨A, c⟩, hA⟩ : ∃ a, exprA x = a := ⟨_, rfl⟩
  rw [hbe] at HFE HPE HCP HJE
  rw [hA] at HPE HJE
  dsimp only at HPE HJE
  clear hbe hA
  have HB0 : Hid (∀ V, Below W.heap.size W V → Below w.heap.size w V) := hid (fun V hV => HBW.out.trans (hV.mono HBW.out.size))
  go_enter Tryz.func3, Tryz.ntmps3
  go_wp2_with fail
  try rw [hW]
  refine HSM.out.mono ?_
  rintro e w1 ⟨rfl, hb1⟩
  have k1 := cells8 ((hb1.block w.heap.size hzW).trans HC0.out)
  have HF1 := hid (HFE.out w1 hb1)
  have HB1 := hid hb1
  clear hb1 HSM HFE hW
  go_wp2_with fail
  refine HF1.out.mono ?_
  rintro e w2 ⟨rfl, hb2⟩
  have HB2 : Hid (Below W.heap.size W w2) := hid (HB1.out.trans (hb2.mono HB1.out.size))
  have k2 := cells8 ((HB2.out.block w.heap.size hzW).trans HC0.out)
  clear hb2 HF1 HB1 k1
  cases be with
  | false =>
    clear HPE HCP HJE
    go_wp2
    go_ret
    exact ⟨rfl, HB0.out _ HB2.out⟩
  | true =>
    have HC2 := hid (HCP.out w2 HB2.out (by first | rfl | trivial))
    clear HCP
    go_wp2_with fail
    refine HC2.out.mono ?_
    rintro e w3 ⟨u, rfl, hu, hb3⟩
    have HU := hid hu
    obtain ⟨k3, op3, tb3, nm3, vk3, vn3, vs3, ys3, aa3, nn3, cc3, _, rfl, _⟩ := hu
    obtain ⟨V3, hV3, hbV3, hzV3, hcV3⟩ := box8 w3 (.cells #[.int .i64 k3, .int .i64 op3, .string (str8 tb3), .string (str8 nm3), .int .i64 vk3, .int .i64 vn3, .string (str8 vs3), .slice aa3 nn3 cc3] 26)
    have hB3 : Below W.heap.size W w3 := HB2.out.trans (hb3.mono HB2.out.size)
    have HB3 : Hid (Below W.heap.size W V3) := hid (hB3.trans (hbV3.mono hB3.size))
    have HU3 := hid (HU.out.new hbV3)
    have HC3 := hid hcV3
    have k3' := cells8 hcV3
    have HP3 := hid (HPE.out V3 _ _ (HTW.out.on (HB0.out _ HB3.out)) HU3.out (by first | rfl | trivial))
    have HV3 := hid hV3
    clear hb3 hbV3 hcV3 hB3 HC2 HPE HU k2 hV3
    go_wp2_with fail
    (try rw [HV3.out])
    refine HP3.out.mono ?_
    rintro e w4 ⟨rfl, hb4⟩
    have HB4 : Hid (Below W.heap.size W w4) := hid (HB3.out.trans (hb4.mono HB3.out.size))
    have HU4 := hid (HU3.out.new hb4)
    have HC4 := hid ((hb4.block w3.heap.size hzV3).trans HC3.out)
    have hz4 : w3.heap.size < w4.heap.size := Nat.lt_of_lt_of_le hzV3 hb4.size
    have k4 := cells8 ((HB4.out.block w.heap.size hzW).trans HC0.out)
    have HJ4 := hid (HJE.out w4 HB4.out (by first | rfl | trivial))
    clear hb4 HP3 HU3 HC3 HJE k3' HV3
    go_wp2_with fail
    refine HJ4.out.mono ?_
    rintro e w5 ⟨rfl, hb5⟩
    have HB5 : Hid (Below W.heap.size W w5) := hid (HB4.out.trans (hb5.mono HB4.out.size))
    have k5 := cells8 ((hb5.block w3.heap.size hz4).trans HC4.out)
    have k5' := cells8 ((HB5.out.block w.heap.size hzW).trans HC0.out)
    have HS5 := hid (sameXE_any (HU4.out.new hb5) (HXW.out.new HB5.out) w5 (Below.refl _ _))
    clear hb5 HJ4 HU4 HC4 k4
    go_wp2_with fail
    refine HS5.out.mono ?_
    rintro e w6 ⟨rfl, hb6⟩
    have HB6 : Hid (Below W.heap.size W w6) := hid (HB5.out.trans (hb6.mono HB5.out.size))
    clear hb6 HS5
    go_wp2
    go_ret
    exact ⟨by simp, HB0.out _ HB6.out⟩
end Go.Proofs.YtnidnipiihhnaaaGreatDoor
namespace Go.Proofs.YtnidnipiihhnaaaGreatDoor
open Go.ChangeShapes Go.WideShapes Go.RowKit
set_option linter.unusedVariables false
set_option maxRecDepth 20000
set_option maxHeartbeats 8000000
abbrev laid6 : List (String × DataW Unit) := [("math/bits.deBruijn32tab", Rows.laid_math_bits_deBruijn32tab), ("math/bits.deBruijn64tab", Rows.laid_math_bits_deBruijn64tab), ("internal/strconv.uint64pow10", Rows.laid_internal_strconv_uint64pow10), ("unicode/utf8.acceptRanges", Rows.laid_unicode_utf8_acceptRanges), ("vestry/printer.operators", Rows.laid_vestry_printer_operators), ("unicode/utf8.first", Rows.laid_unicode_utf8_first)]
theorem laid6_plain {W : World} (h : laidMetH Tryz.prog laid6 W) : laidMet Tryz.prog laid6 W := by
  rwa [MakeChecks.laidMetH_plain _ _ _ (by kernel_rfl)] at h
theorem head_lt {W : World} {n : String} {d : DataW Unit} {r : List (String × DataW Unit)} {g : Nat} (h : laidMet Tryz.prog ((n, d) :: r) W) (hg : Tryz.prog.globalNamed n = some g) : g < W.heap.size := by
  obtain ⟨ps, ⟨g1, t1, cs1, f1, p1, q1, hg1, ht1, hv1, hd1, _⟩, _⟩ := h
  obtain rfl := Option.some.inj (hg.symm.trans hg1)
  unfold World.var? at hv1
  rw [hg1] at hv1
  simp only [Option.bind_some] at hv1
  rcases Nat.lt_or_ge g W.heap.size with h | h
  · exact h
  · rw [Array.getElem?_eq_none h] at hv1
    cases hv1
theorem pow_head {W : World} {r : List (String × DataW Unit)} (h : laidMet Tryz.prog (("internal/strconv.uint64pow10", Rows.laid_internal_strconv_uint64pow10) :: r) W) : Lib.TabIs Tryz.prog W "internal/strconv.uint64pow10" .u64 Lib.pow10Tab := by
  obtain ⟨ps, ⟨g2, t2, cs2, f2, p2, q2, hg2, ht2, hv2, hd2, _⟩, _⟩ := h
  obtain rfl := Option.some.inj ((show Tryz.prog.globalNamed "internal/strconv.uint64pow10" = some 4 by kernel_rfl).symm.trans hg2)
  obtain rfl := Option.some.inj ((show (Tryz.prog.globals[4]?).map (·.type) = some 236 by kernel_rfl).symm.trans ht2)
  have e := Lib.cells_of_tab (k := .u64) (zs := Lib.pow10Tab) Tryz.underlying236 Tryz.underlying214 (by kernel_rfl) (by kernel_rfl) hd2
  unfold Lib.TabIs
  rw [hv2]
  exact congrArg some (Array.ext' (by rw [e]))
theorem max_shaped {W : World} (hs : W.ShapedOpen Tryz.prog) : ∃ m, W.cell? ⟨2, 0, none⟩ = some (.int .i64 m) :=
  cell_of_shapedOpen_int (P := Tryz.prog) (zero := #[.int .i64 0]) (t := 3) hs (by decide +kernel) (by kernel_rfl) rfl (by kernel_rfl) (by kernel_rfl) Tryz.underlying3
theorem Tryz.cOper : Tryz.prog.cellsOf 91 = 2 := by kernel_rfl
theorem Tryz.cIntT : Tryz.prog.cellsOf 3 = 1 := by kernel_rfl
theorem Tryz.cStrT : Tryz.prog.cellsOf 9 = 1 := by kernel_rfl
theorem oper_of_trod {H : Type} {enc : TypeId × Value → H} {W : World} {base : Nat} {spare : Nat → Bool} {held : Bool} {fuel : Nat} {cs : List Value} {ps : List MemPlace} {s : List UInt8} {n : Int} (h : DataW.trod enc Tryz.prog W base spare held fuel 91 cs = some (.agg [.lit (.string s), .lit (.int .i64 n)], ps)) :
    cs = [.string (str8 s), .int .i64 n] := by
  obtain ⟨ys, m, _, hx, hl, hlen, hf⟩ := DataW.trod_struct Tryz.underlying91 h
  rw [Tryz.cOper] at hl
  match cs, hl with
  | [c0, c1], _ =>
    match ys, hlen with
    | [y0, y1], _ =>
      have f0 : DataW.trod enc Tryz.prog W base spare held m 9 [c0] = some y0 := by
        have g := hf 0 _ rfl
        change DataW.trod enc Tryz.prog W base spare held m 9 (([c0, c1].drop 0).take (Tryz.prog.cellsOf 9)) = some y0 at g
        rw [Tryz.cStrT] at g
        exact g
      have f1 : DataW.trod enc Tryz.prog W base spare held m 3 [c1] = some y1 := by
        have g := hf 1 _ rfl
        change DataW.trod enc Tryz.prog W base spare held m 3 (([c0, c1].drop 1).take (Tryz.prog.cellsOf 3)) = some y1 at g
        rw [Tryz.cIntT] at g
        exact g
      obtain ⟨s0, e0, d0, _⟩ := DataW.trod_string Tryz.underlying9 f0
      obtain ⟨n0, e1, d1, _⟩ := DataW.trod_int Tryz.underlying3 f1
      subst d0 d1
      simp only [List.map_cons, List.map_nil, Prod.mk.injEq, DataW.agg.injEq, List.cons.injEq, DataW.lit.injEq, Lit.string.injEq, Lit.int.injEq, and_true, true_and] at hx
      obtain ⟨⟨rfl, rfl⟩, _⟩ := hx
      simp only [List.cons.injEq, and_true] at e0 e1
      rw [e0, e1, str8_of]
def opD (t : List UInt8 × Nat) : DataW Unit := .agg [.lit (.string t.1), .lit (.int .i64 t.2)]
theorem drop_two {cs : List Value} {k : Nat} {a b : Value} (h : (cs.drop k).take 2 = [a, b]) : cs[k]? = some a ∧ cs[k + 1]? = some b := by
  have h0 : ((cs.drop k).take 2)[0]? = some a := by rw [h]; rfl
  have h1 : ((cs.drop k).take 2)[1]? = some b := by rw [h]; rfl
  rw [List.getElem?_take, if_pos (by decide), List.getElem?_drop] at h0 h1
  exact ⟨by simpa using h0, h1⟩
theorem ops_head {W : World} {r : List (String × DataW Unit)} (h : laidMet Tryz.prog (("vestry/printer.operators", Rows.laid_vestry_printer_operators) :: r) W) : OpsAt W := by
  obtain ⟨ps, ⟨g2, t2, cs2, f2, p2, q2, hg2, ht2, hv2, hd2, _⟩, _⟩ := h
  have hg : Tryz.prog.globalNamed "vestry/printer.operators" = some 0 := by kernel_rfl
  obtain rfl := Option.some.inj (hg.symm.trans hg2)
  obtain rfl := Option.some.inj ((show (Tryz.prog.globals[0]?).map (·.type) = some 92 by kernel_rfl).symm.trans ht2)
  obtain ⟨xs, m, _, hx, hl, hlen, hf⟩ := DataW.trod_array Tryz.underlying92 hd2
  have hdd : (Rows.laid_vestry_printer_operators : DataW Unit) = .agg (opTab.map opD) := by kernel_rfl
  rw [hdd] at hx
  simp only [Prod.mk.injEq, DataW.agg.injEq] at hx
  intro o ho
  have hf' := hf o (by omega)
  rw [Tryz.cOper] at hf'
  have hxo : (xs.map (·.1))[o]? = (opTab.map opD)[o]? := by rw [← hx.1]
  obtain ⟨x, hxe⟩ : ∃ x, xs[o]? = some x := ⟨_, List.getElem?_eq_getElem (by omega)⟩
  rw [hxe] at hf'
  rw [List.getElem?_map, hxe, List.getElem?_map] at hxo
  have hto : opTab[o]? = some (opTx (o : Int), opLv (o : Int)) := by
    have : ∀ o : Fin 14, opTab[o.1]? = some (opTx (o.1 : Int), opLv (o.1 : Int)) := by decide
    exact this ⟨o, by omega⟩
  rw [hto] at hxo
  simp only [Option.map_some, Option.some.injEq] at hxo
  obtain ⟨d, pl⟩ := x
  dsimp only at hxo
  subst hxo
  obtain ⟨k0, k1⟩ := drop_two (oper_of_trod hf')
  have c0 := World.var?_cell hg hv2 (o * 2)
  have c1 := World.var?_cell hg hv2 (o * 2 + 1)
  rw [Array.getElem?_toList] at k0 k1
  exact ⟨c0.trans k0, c1.trans k1⟩
theorem tabW6 {W : World} (h : laidMetH Tryz.prog laid6 W) (hs : W.ShapedOpen Tryz.prog) : TabW W := by
  have h' := laid6_plain h
  have hlt : 10 < W.heap.size := head_lt (g := 10) h'.tail (by kernel_rfl)
  exact ⟨⟨by omega, max_shaped hs, pow_head h'.tail.tail⟩, ops_head h'.tail.tail.tail.tail, hlt⟩
end Go.Proofs.YtnidnipiihhnaaaGreatDoor
