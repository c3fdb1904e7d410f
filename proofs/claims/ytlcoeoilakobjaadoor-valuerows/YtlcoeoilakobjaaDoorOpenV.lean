/- What the readings give the walks: values, rows of values, the library's package variables. -/
import Derived.Test.YtlcoeoilakobjaaDoorRows
import Derived.Test.YtlcoeoilakobjaaDoorOpen
import Derived.Test.YtlcoeoilakobjaaDoorVLit
import Derived.Test.YtlcoeoilakobjaaDoorVRow
import Derived.Handed
import Derived.LaidLaws
import Derived.Lay
import Derived.Lib.LaidTab
import Derived.Shelf.Vars
import Derived.SizedLaws
import Derived.MakeChecks
namespace Go.Proofs.YtlcoeoilakobjaaDoor
open Go.ChangeShapes Go.WideShapes Go.RowKit
set_option linter.unusedVariables false
set_option maxRecDepth 20000

abbrev laid5 : List (String × DataW Unit) := [("math/bits.deBruijn32tab", Rows.laid_math_bits_deBruijn32tab), ("math/bits.deBruijn64tab", Rows.laid_math_bits_deBruijn64tab), ("internal/strconv.uint64pow10", Rows.laid_internal_strconv_uint64pow10), ("unicode/utf8.acceptRanges", Rows.laid_unicode_utf8_acceptRanges), ("unicode/utf8.first", Rows.laid_unicode_utf8_first)]

theorem laid_plain {W : World} (h : laidMetH Tryd.prog laid5 W) : laidMet Tryd.prog laid5 W := by
  rwa [MakeChecks.laidMetH_plain _ _ _ (by kernel_rfl)] at h

theorem tab_of_laid {W : World} (h : laidMetH Tryd.prog laid5 W) (hs : W.ShapedOpen Tryd.prog) : TabV W := by
  have h' := laid_plain h
  obtain ⟨ps, ⟨g0, t0, cs0, f0, p0, q0, hg0, ht0, hv0, hd0, ⟨g1, t1, cs1, f1, p1, q1, hg1, ht1, hv1, hd1, ⟨g2, t2, cs2, f2, p2, q2, hg2, ht2, hv2, hd2, _, _⟩, _⟩, _⟩, _⟩ := h'
  refine ⟨?_, ?_, ?_⟩
  · obtain rfl := Option.some.inj ((show Tryd.prog.globalNamed "math/bits.deBruijn64tab" = some 5 by kernel_rfl).symm.trans hg1)
    unfold World.var? at hv1
    rw [hg1] at hv1
    simp only [Option.bind_some] at hv1
    rcases Nat.lt_or_ge 5 W.heap.size with h | h
    · exact h
    · rw [Array.getElem?_eq_none h] at hv1
      cases hv1
  · exact cell_of_shapedOpen_int (P := Tryd.prog) (zero := #[.int .i64 0]) (t := 3) hs (by decide +kernel) (by kernel_rfl) rfl (by kernel_rfl) (by kernel_rfl) Tryd.underlying3
  · obtain rfl := Option.some.inj ((show Tryd.prog.globalNamed "internal/strconv.uint64pow10" = some 0 by kernel_rfl).symm.trans hg2)
    obtain rfl := Option.some.inj ((show (Tryd.prog.globals[0]?).map (·.type) = some 92 by kernel_rfl).symm.trans ht2)
    have e := Lib.cells_of_tab (k := .u64) (zs := Lib.pow10Tab) Tryd.underlying92 Tryd.underlying66 (by kernel_rfl) (by kernel_rfl) hd2
    unfold Lib.TabIs
    rw [hv2]
    exact congrArg some (Array.ext' (by rw [e]))

theorem wf_of {n : Int} (h : (Lit.int .i64 n).wf = true) : -9223372036854775808 ≤ n ∧ n ≤ 9223372036854775807 := by
  simpa [Lit.wf, IntKind.min, IntKind.max, IntKind.signed, IntKind.bits] using h

theorem weights_all7 {H : Type} {P : Program} {e : TypeId} {d : DataW H} {n : Nat} (hn : n ∈ d.weights P e) : ∀ l : List (DataW H), d ∈ l → n ∈ DataW.weightsAll P e l
  | [], h => by simp at h
  | x :: r, h => by
    rw [DataW.weightsAll, List.mem_append]
    rcases List.mem_cons.1 h with rfl | h
    · exact .inl hn
    · exact .inr (weights_all7 hn r h)

/-- A value whose numbers fit and whose text is no longer than what may come in. -/
def OkV (x : Vl) : Prop := (-9223372036854775808 ≤ x.k ∧ x.k ≤ 9223372036854775807) ∧ (-9223372036854775808 ≤ x.n ∧ x.n ≤ 9223372036854775807) ∧ x.s.length ≤ 140737488351232

theorem Tryd.cellsVal : Tryd.prog.cellsOf 23 = 3 := by kernel_rfl
theorem Tryd.cellsInt7 : Tryd.prog.cellsOf 3 = 1 := by kernel_rfl
theorem Tryd.cellsStr7 : Tryd.prog.cellsOf 9 = 1 := by kernel_rfl

section
variable {H : Type} {enc : TypeId × Value → H} {w : World} {base : Nat} {held : Bool}

theorem val_of_trod {fuel : Nat} {cs : List Value} {x : DataW H × List MemPlace} (h : DataW.trod enc Tryd.prog w base (fun _ => true) held fuel 23 cs = some x) (hsz : ∀ n ∈ x.1.weights Tryd.prog 23, n ≤ reachBytes) :
    ∃ a : Vl, cs = [.int .i64 a.k, .int .i64 a.n, .string (str8 a.s)] ∧ OkV a ∧ x.1 = .agg [.lit (.int .i64 a.k), .lit (.int .i64 a.n), .lit (.string a.s)] := by
  obtain ⟨ys, n, _, rfl, hl, hlen, hf⟩ := DataW.trod_struct Tryd.underlying23 h
  rw [Tryd.cellsVal] at hl
  match cs, hl with
  | [c0, c1, c2], _ =>
    match ys, hlen with
    | [y0, y1, y2], _ =>
      have f0 : DataW.trod enc Tryd.prog w base (fun _ => true) held n 3 [c0] = some y0 := by
        have g := hf 0 _ rfl
        change DataW.trod enc Tryd.prog w base (fun _ => true) held n 3 (([c0, c1, c2].drop 0).take (Tryd.prog.cellsOf 3)) = some y0 at g
        rw [Tryd.cellsInt7] at g
        exact g
      have f1 : DataW.trod enc Tryd.prog w base (fun _ => true) held n 3 [c1] = some y1 := by
        have g := hf 1 _ rfl
        change DataW.trod enc Tryd.prog w base (fun _ => true) held n 3 (([c0, c1, c2].drop 1).take (Tryd.prog.cellsOf 3)) = some y1 at g
        rw [Tryd.cellsInt7] at g
        exact g
      have f2 : DataW.trod enc Tryd.prog w base (fun _ => true) held n 9 [c2] = some y2 := by
        have g := hf 2 _ rfl
        change DataW.trod enc Tryd.prog w base (fun _ => true) held n 9 (([c0, c1, c2].drop 2).take (Tryd.prog.cellsOf 9)) = some y2 at g
        rw [Tryd.cellsStr7] at g
        exact g
      obtain ⟨k, e0, d0, w0⟩ := DataW.trod_int Tryd.underlying3 f0
      obtain ⟨m, e1, d1, w1⟩ := DataW.trod_int Tryd.underlying3 f1
      obtain ⟨s, e2, d2, w2⟩ := DataW.trod_string Tryd.underlying9 f2
      simp only [List.cons.injEq, and_true] at e0 e1 e2
      subst e0 e1 e2 d0 d1 d2
      refine ⟨⟨k, m, s.data.toList⟩, by rw [str8_of], ⟨wf_of w0, wf_of w1, ?_⟩, rfl⟩
      have := hsz s.data.toList.length (by
        simp only [DataW.weights, Tryd.underlying23, List.map_cons, List.map_nil]
        exact DataW.weights_mem_each (j := 2) (t := 9) (d := .lit (.string s.data.toList)) rfl rfl _ (by simp [DataW.weights]))
      simp only [reachBytes] at this
      exact this

/-- A value that came in. -/
theorem open_val {b0 : Nat} {v : Value} {d : DataW H} {ps : List MemPlace} (ho : Value.okWide Tryd.prog w .any b0 23 v) (hd : DataW.Trod enc Tryd.prog w base (fun _ => true) held 23 v d ps) (hsz : ∀ n ∈ d.weights Tryd.prog 23, n ≤ reachBytes) :
    ∃ a : Vl, v = .agg #[.int .i64 a.k, .int .i64 a.n, .string (str8 a.s)] ∧ OkV a ∧ d = .agg [.lit (.int .i64 a.k), .lit (.int .i64 a.n), .lit (.string a.s)] := by
  obtain ⟨cs, rfl, hn⟩ := okWide_struct Tryd.underlying23 ho
  obtain ⟨fuel, hf⟩ := hd
  obtain ⟨a, he, hok, hda⟩ := val_of_trod hf hsz
  have : cs.toList = [.int .i64 a.k, .int .i64 a.n, .string (str8 a.s)] := he
  exact ⟨a, by rw [← Array.toArray_toList (xs := cs), this], hok, hda⟩

theorem vals_of_trod {fuel : Nat} {a : Option Addr} {len cap : Nat} {x : DataW H × List MemPlace} (h : DataW.trod enc Tryd.prog w base (fun _ => true) held fuel 40 [.slice a len cap] = some x) (hsz : ∀ n ∈ x.1.weights Tryd.prog 40, n ≤ reachBytes) :
    ∃ xs, Vals w.heap.size w (.slice a len cap) xs ∧ (∀ y ∈ xs, OkV y) ∧ xs.length * 32 ≤ 140737488351232 := by
  rcases Deep.open_slice Tryd.underlying40 h with ⟨hcs, _⟩ | ⟨y, l, c, m, n, D, Pl, hcs, _, hl, hm, hmm, hx, hr⟩
  · simp only [List.cons.injEq, Value.slice.injEq, and_true] at hcs
    obtain ⟨rfl, rfl, rfl⟩ := hcs
    exact ⟨[], ⟨none, 0, rfl, Nat.le_refl _, Nat.zero_le _, fun _ => rfl, fun h => absurd rfl h⟩, by simp, by simp⟩
  · simp only [List.cons.injEq, Value.slice.injEq, and_true] at hcs
    obtain ⟨rfl, rfl, rfl⟩ := hcs
    simp only [if_true] at hmm
    subst hmm
    have one : ∀ i, i < len → ∃ av : Vl, w.cells? base (y.add (i * 3)) 3 = some [.int .i64 av.k, .int .i64 av.n, .string (str8 av.s)] ∧ OkV av := fun i hi => by
      obtain ⟨cs, h1, h2⟩ := hr i (by omega)
      rw [Tryd.cellsVal] at h1
      obtain ⟨av, rfl, r, _⟩ := val_of_trod h2 (fun k hk => hsz k (by
        rw [hx]
        simp only [DataW.weights, Tryd.underlying40]
        exact List.mem_cons_of_mem _ (List.mem_append.2 (.inl (weights_all7 hk _ (List.mem_map.2 ⟨i, by simpa using hi, rfl⟩))))))
      exact ⟨av, h1, r⟩
    haveI : Inhabited Vl := ⟨⟨0, 0, []⟩⟩
    obtain ⟨f, hfr⟩ := Deep.choose_lt (α := Vl) (p := fun i av => w.cells? base (y.add (i * 3)) 3 = some [.int .i64 av.k, .int .i64 av.n, .string (str8 av.s)] ∧ OkV av) one
    have hlen : ((List.range len).map f).length = len := by simp
    refine ⟨(List.range len).map f, ⟨some y, m, by rw [hlen], by rw [hlen]; exact hl, hm, (fun e => by cases e), fun hne => ?_⟩, fun z hz => ?_, ?_⟩
    · have hpos : 0 < len := by
        rcases Nat.eq_zero_or_pos len with e | e
        · exact absurd (by rw [e]; rfl) hne
        · exact e
      obtain ⟨b, off, spot⟩ := y
      have h0 := (World.cells?_some (hfr 0 hpos).1).2.2 0 (by omega)
      have hspot : spot = none := by simpa [Addr.add] using World.cell?_spot h0
      subst hspot
      refine ⟨b, off, rfl, World.block_lt_of_cell? w _ h0, fun j v hv => ?_⟩
      have hj : j < len := by have := (List.getElem?_eq_some_iff.1 hv).1; simpa using this
      have ev : f j = v := by simpa [hj] using hv
      obtain ⟨hc, r⟩ := hfr j hj
      rw [ev] at hc r
      have hcell := (World.cells?_some hc).2.2
      have k0 := hcell 0 (by omega)
      have k1 := hcell 1 (by omega)
      have k2 := hcell 2 (by omega)
      simp only [Addr.add_lit, List.getElem?_cons_zero, List.getElem?_cons_succ, Nat.add_zero] at k0 k1 k2
      exact ⟨k0, k1, k2⟩
    · obtain ⟨i, hi, rfl⟩ := List.mem_map.1 hz
      exact (hfr i (by simpa using hi)).2
    · have := hsz (m * 32) (by
        rw [hx]
        simp only [DataW.weights, Tryd.underlying40, show Tryd.prog.bytesOf 23 = 32 by kernel_rfl]
        refine List.mem_cons.2 (.inl ?_)
        simp
        omega)
      simp only [reachBytes] at this
      rw [hlen]
      omega
end
end Go.Proofs.YtlcoeoilakobjaaDoor
