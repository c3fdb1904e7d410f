/- Expressions, values, spans that come in (tools/plmem.py). -/
import Derived.Test.YthjgbcbgkafgjaaDoorPlMem
import Derived.Test.YthjgbcbgkafgjaaDoorPlRef
import Derived.Test.YthjgbcbgkafgjaaDoorOpen
import Derived.Handed
import Derived.OpenShut
import Derived.ChangeArms
import Derived.Deep.Slices
import Derived.SizedLaws
import Derived.ProofKit
namespace Go.Proofs.YthjgbcbgkafgjaaDoor
open Go.ChangeShapes Go.WideShapes Go.RowKit
set_option linter.unusedVariables false
set_option linter.unusedSimpArgs false
set_option maxRecDepth 20000

theorem wf_ofX {n : Int} (h : (Lit.int .i64 n).wf = true) : -9223372036854775808 ≤ n ∧ n ≤ 9223372036854775807 := by
  simpa [Lit.wf, IntKind.min, IntKind.max, IntKind.signed, IntKind.bits] using h

theorem Tryd.cInt : Tryd.prog.cellsOf 3 = 1 := by kernel_rfl
theorem Tryd.cStr : Tryd.prog.cellsOf 9 = 1 := by kernel_rfl
theorem Tryd.cBool : Tryd.prog.cellsOf 4 = 1 := by kernel_rfl
theorem Tryd.cVal : Tryd.prog.cellsOf 23 = 3 := by kernel_rfl
theorem Tryd.cExpr : Tryd.prog.cellsOf 26 = 8 := by kernel_rfl
theorem Tryd.cExprs : Tryd.prog.cellsOf 24 = 1 := by kernel_rfl

theorem wf_of {n : Int} (h : (Lit.int .i64 n).wf = true) : -9223372036854775808 ≤ n ∧ n ≤ 9223372036854775807 := by
  simpa [Lit.wf, IntKind.min, IntKind.max, IntKind.signed, IntKind.bits] using h

theorem Tryd.cellsVal : Tryd.prog.cellsOf 23 = 3 := by kernel_rfl
theorem Tryd.cellsInt7 : Tryd.prog.cellsOf 3 = 1 := by kernel_rfl
theorem Tryd.cellsStr7 : Tryd.prog.cellsOf 9 = 1 := by kernel_rfl

theorem Tryd.cellsSpan : Tryd.prog.cellsOf 31 = 3 := by kernel_rfl
theorem Tryd.cellsBool : Tryd.prog.cellsOf 4 = 1 := by kernel_rfl
theorem Tryd.cellsBytes : Tryd.prog.cellsOf 29 = 1 := by kernel_rfl
theorem Tryd.cellsU8 : Tryd.prog.cellsOf 5 = 1 := by kernel_rfl
theorem Tryd.bytesU8 : Tryd.prog.bytesOf 5 = 1 := by kernel_rfl

def Lent8 (B : Nat) (w : World) (v : Value) (bs : List UInt8) : Prop := Shows B w v bs ∧ bs.length ≤ 140737488351232

section
variable {H : Type} {enc : TypeId × Value → H} {w : World} {base : Nat} {held : Bool}

instance : Inhabited Ex := ⟨zEx⟩

def Opn (enc : TypeId × Value → H) (w : World) (base : Nat) (held : Bool) {α : Type} (N : Nat) (t : TypeId) (z : Nat) (El : (Nat → Prop) → World → α → List Value → Prop) (Q : α → Prop) : Prop :=
  ∀ (fuel : Nat) (cs : List Value) (x : DataW H × List MemPlace), DataW.trod enc Tryd.prog w base (fun _ => true) held fuel t cs = some x → SizeOf.sizeOf x.1 < N → ∃ a : α, cs.length = z ∧ El (fun b => b < w.heap.size) w a cs ∧ Q a

theorem opn_sl {α : Type} [Inhabited α] {N : Nat} {t e : TypeId} {z : Nat} {El : (Nat → Prop) → World → α → List Value → Prop} {Q : α → Prop} (ht : Tryd.prog.underlying t = some (.slice e)) (hz : Tryd.prog.cellsOf e = z) (hz0 : 0 < z) (hone : Opn enc w base held N e z El Q) (fuel : Nat) (v : Value) (x : DataW H × List MemPlace)
    (h : DataW.trod enc Tryd.prog w base (fun _ => true) held fuel t [v] = some x) (hN : SizeOf.sizeOf x.1 ≤ N) : ∃ (aa : Option Addr) (nn cc : Nat) (xs : List α), v = .slice aa nn cc ∧ SlAt z El (fun b => b < w.heap.size) w xs (.slice aa nn cc) ∧ ∀ y ∈ xs, Q y := by
  rcases Deep.open_slice ht h with ⟨hcs, _⟩ | ⟨y, len, cap, m, n, D, Pl, hcs, _, hl, hm, hmm, hx, hr⟩
  · simp only [List.cons.injEq, and_true] at hcs
    subst hcs
    exact ⟨none, 0, 0, [], rfl, SlAt.nil, by simp⟩
  · simp only [List.cons.injEq, and_true] at hcs
    subst hcs
    simp only [if_true] at hmm
    subst hmm
    have one : ∀ i, i < len → ∃ q : α × List Value, w.cells? base (y.add (i * z)) z = some q.2 ∧ q.2.length = z ∧ El (fun b => b < w.heap.size) w q.1 q.2 ∧ Q q.1 := fun i hi => by
      obtain ⟨cs, h1, h2⟩ := hr i (by omega)
      rw [hz] at h1
      have hsz : SizeOf.sizeOf (D i) < N := by
        have hmem : D i ∈ (List.range len).map D := List.mem_map.2 ⟨i, by simpa using hi, rfl⟩
        have h3 := List.sizeOf_lt_of_mem hmem
        rw [hx] at hN
        have h4 : SizeOf.sizeOf (DataW.slice ((List.range len).map D) ((List.range (m - len)).map fun j => D (len + j)) : DataW H) = 1 + SizeOf.sizeOf ((List.range len).map D) + SizeOf.sizeOf ((List.range (m - len)).map fun j => D (len + j)) := DataW.slice.sizeOf_spec _ _
        dsimp only at hN
        omega
      obtain ⟨a, k1, k2, k3⟩ := hone n cs _ h2 hsz
      exact ⟨(a, cs), h1, k1, k2, k3⟩
    haveI : Inhabited (α × List Value) := ⟨(default, [])⟩
    obtain ⟨f, hfr⟩ := Deep.choose_lt (α := α × List Value) (p := fun i q => w.cells? base (y.add (i * z)) z = some q.2 ∧ q.2.length = z ∧ El (fun b => b < w.heap.size) w q.1 q.2 ∧ Q q.1) one
    have hlen : ((List.range len).map fun i => (f i).1).length = len := by simp
    refine ⟨some y, len, m, (List.range len).map fun i => (f i).1, rfl, ⟨some y, m, (List.range len).map fun i => (f i).2, by rw [hlen], by rw [hlen]; exact hl, hm, ⟨by simp, fun j a cs ha hc => ?_⟩, fun hne => ?_⟩, fun z hz => ?_⟩
    · have hj : j < len := by have := (List.getElem?_eq_some_iff.1 ha).1; simpa using this
      have e1 : (f j).1 = a := by simpa [hj] using ha
      have e2 : (f j).2 = cs := by simpa [hj] using hc
      rw [← e1, ← e2]
      exact ⟨(hfr j hj).2.1, (hfr j hj).2.2.1⟩
    · have hpos : 0 < len := by
        rcases Nat.eq_zero_or_pos len with e | e
        · exact absurd (by rw [e]; rfl) hne
        · exact e
      obtain ⟨b, off, spot⟩ := y
      have hcl := fun i (hi : i < len) => (World.cells?_some (hfr i hi).1).2.2
      have h0 : w.cell? ((Addr.add ⟨b, off, spot⟩ (0 * z)).add 0) = (f 0).2[0]? := hcl 0 hpos 0 hz0
      have hlen0 := (hfr 0 hpos).2.1
      rw [List.getElem?_eq_getElem (by omega)] at h0
      have hspot : spot = none := by simpa [Addr.add] using World.cell?_spot h0
      subst hspot
      simp only [Addr.add_lit] at h0
      refine ⟨b, off, rfl, World.block_lt_of_cell? w _ h0, fun j cs hc i u hu => ?_⟩
      have hj : j < len := by have := (List.getElem?_eq_some_iff.1 hc).1; simpa using this
      have e2 : (f j).2 = cs := by simpa [hj] using hc
      have hi : i < z := by
        have := (List.getElem?_eq_some_iff.1 hu).1
        rw [← e2, (hfr j hj).2.1] at this
        exact this
      have hk := hcl j hj i hi
      rw [e2, hu] at hk
      simp only [Addr.add_lit] at hk
      exact hk
    · obtain ⟨i, hi, rfl⟩ := List.mem_map.1 hz
      exact (hfr i (by simpa using hi)).2.2.2

theorem opn_val (N : Nat) : Opn enc w base held N 23 3 VlE RgV := fun fuel cs x h _ => by
  obtain ⟨ys, n, _, rfl, hl, hlen, hf⟩ := DataW.trod_struct Tryd.underlying23 h
  rw [Tryd.cVal] at hl
  match cs, hl with
  | [c0, c1, c2], _ =>
    match ys, hlen with
    | [y0, y1, y2], _ =>
      have f0 : DataW.trod enc Tryd.prog w base (fun _ => true) held n 3 [c0] = some y0 := by
        have g := hf 0 _ rfl
        change DataW.trod enc Tryd.prog w base (fun _ => true) held n 3 (([c0, c1, c2].drop 0).take (Tryd.prog.cellsOf 3)) = some y0 at g
        rw [Tryd.cInt] at g
        exact g
      have f1 : DataW.trod enc Tryd.prog w base (fun _ => true) held n 3 [c1] = some y1 := by
        have g := hf 1 _ rfl
        change DataW.trod enc Tryd.prog w base (fun _ => true) held n 3 (([c0, c1, c2].drop 1).take (Tryd.prog.cellsOf 3)) = some y1 at g
        rw [Tryd.cInt] at g
        exact g
      have f2 : DataW.trod enc Tryd.prog w base (fun _ => true) held n 9 [c2] = some y2 := by
        have g := hf 2 _ rfl
        change DataW.trod enc Tryd.prog w base (fun _ => true) held n 9 (([c0, c1, c2].drop 2).take (Tryd.prog.cellsOf 9)) = some y2 at g
        rw [Tryd.cStr] at g
        exact g
      obtain ⟨k, e0, d0, w0⟩ := DataW.trod_int Tryd.underlying3 f0
      obtain ⟨m, e1, d1, w1⟩ := DataW.trod_int Tryd.underlying3 f1
      obtain ⟨s, e2, d2, w2⟩ := DataW.trod_string Tryd.underlying9 f2
      simp only [List.cons.injEq, and_true] at e0 e1 e2
      subst e0 e1 e2
      refine ⟨⟨k, m, s.data.toList⟩, rfl, ?_, (wf_ofX w1).1, (wf_ofX w1).2, ?_⟩
      · show _ = _
        dsimp only
        rw [str8_of]
      · have e : s.data.toList.length = s.size := by rw [Array.length_toList]; rfl
        show s.data.toList.length ≤ _
        rw [e]
        unfold maxLen at w2
        omega

theorem sl_args {S : Nat → Prop} {xs : List Ex} {v : Value} (h : SlAt 8 ExE S w xs v) : ArgsAt S w xs v := by
  obtain ⟨a, c, css, rfl, h1, h2, h3, h4⟩ := h
  by_cases hne : xs = []
  · subst hne
    exact .nil a c h2
  · obtain ⟨b, off, rfl, hS, hc⟩ := h4 hne
    have hget : ∀ (j : Nat) (x : Ex), xs[j]? = some x → ∃ cs, css[j]? = some cs ∧ ExE S w x cs := fun j x hx => by
      obtain ⟨cs, hcs⟩ : ∃ cs, css[j]? = some cs := ⟨_, List.getElem?_eq_getElem (by rw [h3.1]; exact (List.getElem?_eq_some_iff.1 hx).1)⟩
      exact ⟨cs, hcs, (h3.2 j x cs hx hcs).2⟩
    refine .cons xs b off c (fun j => ((css[j]?.getD [])[7]?).getD .nilIface) hne hS h1 h2 (fun j k op tb nm vk vn vs ys hx => ?_) (fun j k op tb nm vk vn vs ys hx => ?_)
    · obtain ⟨cs, hcs, k', op', tb', nm', vk', vn', vs', ys', aa, nn, cc, he, hcv, ha⟩ := hget j _ hx
      simp only [Ex.mk.injEq, Vl.mk.injEq] at he
      obtain ⟨rfl, rfl, rfl, rfl, ⟨rfl, rfl, rfl⟩, rfl⟩ := he
      have g := fun i u hu => hc j cs hcs i u hu
      rw [hcs, hcv] at *
      exact ⟨g 0 _ rfl, g 1 _ rfl, g 2 _ rfl, g 3 _ rfl, g 4 _ rfl, g 5 _ rfl, g 6 _ rfl, g 7 _ rfl⟩
    · obtain ⟨cs, hcs, k', op', tb', nm', vk', vn', vs', ys', aa, nn, cc, he, hcv, ha⟩ := hget j _ hx
      simp only [Ex.mk.injEq, Vl.mk.injEq] at he
      obtain ⟨rfl, rfl, rfl, rfl, ⟨rfl, rfl, rfl⟩, rfl⟩ := he
      rw [hcs, hcv]
      exact ha

theorem str_len (s : ByteArray) (h : s.size ≤ maxLen) : s.data.toList.length ≤ 9223372036854775807 := by
  have e : s.data.toList.length = s.size := by rw [Array.length_toList]; rfl
  rw [e]
  unfold maxLen at h
  omega

theorem size_part {y : DataW H × List MemPlace} {ys : List (DataW H × List MemPlace)} (h : y ∈ ys) : SizeOf.sizeOf y.1 < SizeOf.sizeOf (DataW.agg (ys.map (·.1)) : DataW H) := by
  have h1 := List.sizeOf_lt_of_mem (List.mem_map.2 ⟨y, h, rfl⟩ : y.1 ∈ ys.map (·.1))
  have h2 : SizeOf.sizeOf (DataW.agg (ys.map (·.1)) : DataW H) = 1 + SizeOf.sizeOf (ys.map (·.1)) := DataW.agg.sizeOf_spec _
  omega

theorem opn_expr : ∀ N, Opn enc w base held N 26 8 ExE RgE
  | 0 => fun fuel cs x h hN => absurd hN (Nat.not_lt_zero _)
  | N + 1 => fun fuel cs x h hN => by
    obtain ⟨ys, n, _, rfl, hl, hlen, hf⟩ := DataW.trod_struct Tryd.underlying26 h
    rw [Tryd.cExpr] at hl
    match cs, hl with
    | [c0, c1, c2, c3, c4, c5, c6, c7], _ =>
      match ys, hlen with
      | [y0, y1, y2, y3, y4, y5], _ =>
        have f0 : DataW.trod enc Tryd.prog w base (fun _ => true) held n 3 [c0] = some y0 := by
          have g := hf 0 _ rfl
          change DataW.trod enc Tryd.prog w base (fun _ => true) held n 3 (([c0, c1, c2, c3, c4, c5, c6, c7].drop 0).take (Tryd.prog.cellsOf 3)) = some y0 at g
          rw [Tryd.cInt] at g
          exact g
        have f1 : DataW.trod enc Tryd.prog w base (fun _ => true) held n 3 [c1] = some y1 := by
          have g := hf 1 _ rfl
          change DataW.trod enc Tryd.prog w base (fun _ => true) held n 3 (([c0, c1, c2, c3, c4, c5, c6, c7].drop 1).take (Tryd.prog.cellsOf 3)) = some y1 at g
          rw [Tryd.cInt] at g
          exact g
        have f2 : DataW.trod enc Tryd.prog w base (fun _ => true) held n 9 [c2] = some y2 := by
          have g := hf 2 _ rfl
          change DataW.trod enc Tryd.prog w base (fun _ => true) held n 9 (([c0, c1, c2, c3, c4, c5, c6, c7].drop 2).take (Tryd.prog.cellsOf 9)) = some y2 at g
          rw [Tryd.cStr] at g
          exact g
        have f3 : DataW.trod enc Tryd.prog w base (fun _ => true) held n 9 [c3] = some y3 := by
          have g := hf 3 _ rfl
          change DataW.trod enc Tryd.prog w base (fun _ => true) held n 9 (([c0, c1, c2, c3, c4, c5, c6, c7].drop 3).take (Tryd.prog.cellsOf 9)) = some y3 at g
          rw [Tryd.cStr] at g
          exact g
        have f4 : DataW.trod enc Tryd.prog w base (fun _ => true) held n 23 [c4, c5, c6] = some y4 := by
          have g := hf 4 _ rfl
          change DataW.trod enc Tryd.prog w base (fun _ => true) held n 23 (([c0, c1, c2, c3, c4, c5, c6, c7].drop 4).take (Tryd.prog.cellsOf 23)) = some y4 at g
          rw [Tryd.cVal] at g
          exact g
        have f5 : DataW.trod enc Tryd.prog w base (fun _ => true) held n 24 [c7] = some y5 := by
          have g := hf 5 _ rfl
          change DataW.trod enc Tryd.prog w base (fun _ => true) held n 24 (([c0, c1, c2, c3, c4, c5, c6, c7].drop 7).take (Tryd.prog.cellsOf 24)) = some y5 at g
          rw [Tryd.cExprs] at g
          exact g
        obtain ⟨k, e0, d0, w0⟩ := DataW.trod_int Tryd.underlying3 f0
        obtain ⟨op, e1, d1, w1⟩ := DataW.trod_int Tryd.underlying3 f1
        obtain ⟨s2, e2, d2, w2⟩ := DataW.trod_string Tryd.underlying9 f2
        obtain ⟨s3, e3, d3, w3⟩ := DataW.trod_string Tryd.underlying9 f3
        obtain ⟨v, _, e4, q1, q2, q3⟩ := opn_val (SizeOf.sizeOf y4.1 + 1) n _ _ f4 (Nat.lt_succ_self _)
        have hy5 : SizeOf.sizeOf y5.1 ≤ N := by
          have := size_part (y := y5) (ys := [y0, y1, y2, y3, y4, y5]) (by simp)
          dsimp only at hN
          omega
        obtain ⟨aa, nn, cc, xs, e7, hsl, hR⟩ := opn_sl (α := Ex) (N := N) Tryd.underlying24 Tryd.cExpr (by decide) (opn_expr N) n c7 y5 f5 hy5
        simp only [VlE, List.cons.injEq, and_true] at e0 e1 e2 e3 e4
        obtain ⟨e4, e5, e6⟩ := e4
        subst e0 e1 e2 e3 e4 e5 e6 e7
        refine ⟨.mk k op s2.data.toList s3.data.toList v xs, rfl, ⟨k, op, s2.data.toList, s3.data.toList, v.k, v.n, v.s, xs, aa, nn, cc, rfl, ?_, sl_args hsl⟩, .mk k op _ _ v xs q1 q2 q3 (str_len s2 w2) (str_len s3 w3) hR⟩
        rw [str8_of, str8_of]

theorem open_expr {b0 : Nat} {v : Value} {d : DataW H} {ps : List MemPlace} (ho : Value.okWide Tryd.prog w .any b0 26 v) (hd : DataW.Trod enc Tryd.prog w base (fun _ => true) held 26 v d ps) :
    ∃ x : Ex, ExV (fun b => b < w.heap.size) w x v ∧ RgE x := by
  obtain ⟨cs, rfl, hn⟩ := okWide_struct Tryd.underlying26 ho
  obtain ⟨fuel, hf⟩ := hd
  obtain ⟨x, _, hx, hR⟩ := opn_expr _ fuel _ _ hf (Nat.lt_succ_self _)
  refine ⟨x, ?_, hR⟩
  have := hx.v
  exact this

theorem val_of_trod {fuel : Nat} {cs : List Value} {x : DataW H × List MemPlace} (h : DataW.trod enc Tryd.prog w base (fun _ => true) held fuel 23 cs = some x) (hsz : ∀ n ∈ x.1.weights Tryd.prog 23, n ≤ reachBytes) :
    ∃ a : Vl, cs = [.int .i64 a.k, .int .i64 a.n, .string (str8 a.s)] ∧ OkV a ∧ x.1 = .agg [.lit (.int .i64 a.k), .lit (.int .i64 a.n), .lit (.string a.s)] := by
  obtain ⟨ys, n, _, rfl, hl, hlen, hf⟩ := DataW.trod_struct Tryd.underlying23 h
  rw [Tryd.cellsVal] at hl
  match cs, hl with
  | [c0, c1, c2], _ =>
    match ys, hlen with
    | [y0, y1, y2], _ =>
      have f0 : DataW.trod enc Tryd.prog w base (fun _ => true) held n 3 [c0] = some y0 := by
        have g := hf 0 _ rfl
        change DataW.trod enc Tryd.prog w base (fun _ => true) held n 3 (([c0, c1, c2].drop 0).take (Tryd.prog.cellsOf 3)) = some y0 at g
        rw [Tryd.cellsInt7] at g
        exact g
      have f1 : DataW.trod enc Tryd.prog w base (fun _ => true) held n 3 [c1] = some y1 := by
        have g := hf 1 _ rfl
        change DataW.trod enc Tryd.prog w base (fun _ => true) held n 3 (([c0, c1, c2].drop 1).take (Tryd.prog.cellsOf 3)) = some y1 at g
        rw [Tryd.cellsInt7] at g
        exact g
      have f2 : DataW.trod enc Tryd.prog w base (fun _ => true) held n 9 [c2] = some y2 := by
        have g := hf 2 _ rfl
        change DataW.trod enc Tryd.prog w base (fun _ => true) held n 9 (([c0, c1, c2].drop 2).take (Tryd.prog.cellsOf 9)) = some y2 at g
        rw [Tryd.cellsStr7] at g
        exact g
      obtain ⟨k, e0, d0, w0⟩ := DataW.trod_int Tryd.underlying3 f0
      obtain ⟨m, e1, d1, w1⟩ := DataW.trod_int Tryd.underlying3 f1
      obtain ⟨s, e2, d2, w2⟩ := DataW.trod_string Tryd.underlying9 f2
      simp only [List.cons.injEq, and_true] at e0 e1 e2
      subst e0 e1 e2 d0 d1 d2
      refine ⟨⟨k, m, s.data.toList⟩, by rw [str8_of], ⟨wf_of w0, wf_of w1, ?_⟩, rfl⟩
      have := hsz s.data.toList.length (by
        simp only [DataW.weights, Tryd.underlying23, List.map_cons, List.map_nil]
        exact DataW.weights_mem_each (j := 2) (t := 9) (d := .lit (.string s.data.toList)) rfl rfl _ (by simp [DataW.weights]))
      simp only [reachBytes] at this
      exact this

theorem open_val {b0 : Nat} {v : Value} {d : DataW H} {ps : List MemPlace} (ho : Value.okWide Tryd.prog w .any b0 23 v) (hd : DataW.Trod enc Tryd.prog w base (fun _ => true) held 23 v d ps) (hsz : ∀ n ∈ d.weights Tryd.prog 23, n ≤ reachBytes) :
    ∃ a : Vl, v = .agg #[.int .i64 a.k, .int .i64 a.n, .string (str8 a.s)] ∧ OkV a ∧ d = .agg [.lit (.int .i64 a.k), .lit (.int .i64 a.n), .lit (.string a.s)] := by
  obtain ⟨cs, rfl, hn⟩ := okWide_struct Tryd.underlying23 ho
  obtain ⟨fuel, hf⟩ := hd
  obtain ⟨a, he, hok, hda⟩ := val_of_trod hf hsz
  have : cs.toList = [.int .i64 a.k, .int .i64 a.n, .string (str8 a.s)] := he
  exact ⟨a, by rw [← Array.toArray_toList (xs := cs), this], hok, hda⟩

theorem lent_of_trod {fuel : Nat} {c : Value} {y : DataW H × List MemPlace} (h : DataW.trod enc Tryd.prog w base (fun _ => true) held fuel 29 [c] = some y) (hsz : ∀ n ∈ y.1.weights Tryd.prog 29, n ≤ reachBytes) : ∃ bs, Lent8 w.heap.size w c bs := by
  obtain ⟨va, vl, vc, rfl⟩ : ∃ va vl vc, c = .slice va vl vc := by
    rcases open_ints Tryd.underlying29 Tryd.underlying5 Tryd.cellsU8 h with ⟨hcs, _⟩ | ⟨y, l, c, zs, hcs, _⟩
    · simp only [List.cons.injEq, and_true] at hcs
      exact ⟨_, _, _, hcs⟩
    · simp only [List.cons.injEq, and_true] at hcs
      exact ⟨_, _, _, hcs⟩
  obtain ⟨bs, sh, dd⟩ := shows_of_trod Tryd.underlying29 Tryd.underlying5 Tryd.cellsU8 h
  refine ⟨bs, sh, ?_⟩
  rcases dd with h0 | ⟨el, sp, h0, hle⟩
  · omega
  · have := hsz ((el.length + sp.length) * 1) (by rw [h0]; simp [DataW.weights, Tryd.underlying29, Tryd.bytesU8])
    simp only [reachBytes] at this
    omega

/-- A span. -/
theorem open_span {b0 : Nat} {v : Value} {d : DataW H} {ps : List MemPlace} (ho : Value.okWide Tryd.prog w .any b0 31 v) (hd : DataW.Trod enc Tryd.prog w base (fun _ => true) held 31 v d ps) (hsz : ∀ n ∈ d.weights Tryd.prog 31, n ≤ reachBytes) :
    ∃ (fv tv : Value) (en : Bool) (a b : List UInt8), v = .agg #[fv, tv, .bool en] ∧ Lent8 w.heap.size w fv a ∧ Lent8 w.heap.size w tv b := by
  obtain ⟨cs0, rfl, hn⟩ := okWide_struct Tryd.underlying31 ho
  obtain ⟨fuel, hf0⟩ := hd
  obtain ⟨cs, hcs⟩ : ∃ cs, cs0.toList = cs := ⟨_, rfl⟩
  have h : DataW.trod enc Tryd.prog w base (fun _ => true) held fuel 31 cs = some (d, ps) := by rw [← hcs]; exact hf0
  obtain ⟨ys, n, _, hy, hl, hlen, hf⟩ := DataW.trod_struct Tryd.underlying31 h
  rw [Tryd.cellsSpan] at hl
  match cs, hl, hcs with
  | [c0, c1, c2], _, hcs =>
    match ys, hlen with
    | [y0, y1, y2], _ =>
      have f0 : DataW.trod enc Tryd.prog w base (fun _ => true) held n 29 [c0] = some y0 := by
        have g := hf 0 _ rfl
        change DataW.trod enc Tryd.prog w base (fun _ => true) held n 29 (([c0, c1, c2].drop 0).take (Tryd.prog.cellsOf 29)) = some y0 at g
        rw [Tryd.cellsBytes] at g
        exact g
      have f1 : DataW.trod enc Tryd.prog w base (fun _ => true) held n 29 [c1] = some y1 := by
        have g := hf 1 _ rfl
        change DataW.trod enc Tryd.prog w base (fun _ => true) held n 29 (([c0, c1, c2].drop 1).take (Tryd.prog.cellsOf 29)) = some y1 at g
        rw [Tryd.cellsBytes] at g
        exact g
      have f2 : DataW.trod enc Tryd.prog w base (fun _ => true) held n 4 [c2] = some y2 := by
        have g := hf 2 _ rfl
        change DataW.trod enc Tryd.prog w base (fun _ => true) held n 4 (([c0, c1, c2].drop 2).take (Tryd.prog.cellsOf 4)) = some y2 at g
        rw [Tryd.cellsBool] at g
        exact g
      have hy' : d = .agg [y0.1, y1.1, y2.1] := congrArg Prod.fst hy
      subst hy'
      obtain ⟨en, e2, d2⟩ := DataW.trod_bool Tryd.underlying4 f2
      simp only [List.cons.injEq, and_true] at e2
      subst e2
      obtain ⟨a, ha⟩ := lent_of_trod f0 (fun m hm => hsz m (by
        simp only [DataW.weights, Tryd.underlying31, List.map_cons, List.map_nil]
        exact DataW.weights_mem_each (j := 0) (t := 29) rfl rfl _ hm))
      obtain ⟨b, hb⟩ := lent_of_trod f1 (fun m hm => hsz m (by
        simp only [DataW.weights, Tryd.underlying31, List.map_cons, List.map_nil]
        exact DataW.weights_mem_each (j := 1) (t := 29) rfl rfl _ hm))
      exact ⟨c0, c1, en, a, b, by rw [← Array.toArray_toList (xs := cs0), hcs], ha, hb⟩
end
end Go.Proofs.YthjgbcbgkafgjaaDoor
