/- How an argument that is a proof is read. -/
import Derived.Test.YtmafaioohiaenaaDoorOpenE
import Derived.Test.YtmafaioohiaenaaDoorZst
namespace Go.Proofs.YtmafaioohiaenaaDoor
open Go.RowKit Go.ChangeShapes Go.WideShapes
set_option linter.unusedVariables false
set_option maxRecDepth 20000

theorem Tryd.cellsStepP : Tryd.prog.cellsOf 66 = 34 := by kernel_rfl
theorem Tryd.cellsIntP : Tryd.prog.cellsOf 3 = 1 := by kernel_rfl
theorem Tryd.cellsBoolP : Tryd.prog.cellsOf 4 = 1 := by kernel_rfl
theorem Tryd.cellsSumP : Tryd.prog.cellsOf 23 = 32 := by kernel_rfl
theorem Tryd.cellsStepsP : Tryd.prog.cellsOf 27 = 1 := by kernel_rfl
theorem Tryd.cellsProofP : Tryd.prog.cellsOf 29 = 4 := by kernel_rfl

section
variable {H : Type} {enc : TypeId × Value → H} {w : World} {base : Nat} {held : Bool}

theorem sum_of_trod {fuel : Nat} {cs : List Value} {x : DataW H × List MemPlace} (hf : DataW.trod enc Tryd.prog w base (fun _ => true) held fuel 23 cs = some x) :
    ∃ bs : List UInt8, bs.length = 32 ∧ cs = bs.map by8 := by
  cases fuel with
  | zero => simp [DataW.trod] at hf
  | succ m =>
    rw [DataW.trod_step] at hf
    unfold DataW.trodStep at hf
    simp only [Tryd.underlying23] at hf
    split at hf
    · rename_i hn
      rw [Tryd.cellsSumP] at hn
      simp only [Option.map_eq_some_iff] at hf
      obtain ⟨ys, hy, e1⟩ := hf
      rw [Tryd.sumKey.one] at hy
      have hall := mapM_ints Tryd.underlying5 _ ys hy
      refine ⟨(List.range 32).map fun i => byteIn (cs[i]?), by simp, ?_⟩
      refine List.ext_getElem? fun i => ?_
      by_cases hi : i < 32
      · obtain ⟨z, h1, h2⟩ := hall i (by simpa using hi)
        have hz : 0 ≤ z ∧ z ≤ 255 := by simpa [Lit.wf, IntKind.min, IntKind.max, IntKind.signed, IntKind.bits] using h2
        rw [h1]
        simp only [List.getElem?_map, List.getElem?_range hi, Option.map_some, h1, by8, byteIn]
        refine congrArg (fun x : Int => some (Value.int .u8 x)) ?_
        rw [UInt8.toNat_ofNat']
        omega
      · rw [List.getElem?_eq_none (by omega), List.getElem?_eq_none (by simp; omega)]
    · cases hf

theorem step_of_trod {fuel : Nat} {cs : List Value} {x : DataW H × List MemPlace} (h : DataW.trod enc Tryd.prog w base (fun _ => true) held fuel 66 cs = some x) : ∃ s : Zst, cs = zc s ∧ ZOk s := by
  obtain ⟨ys, n, _, rfl, hl, hlen, hf⟩ := DataW.trod_struct Tryd.underlying66 h
  rw [Tryd.cellsStepP] at hl
  match ys, hlen with
  | [y0, y1, y2], _ =>
    have f0 : DataW.trod enc Tryd.prog w base (fun _ => true) held n 3 ((cs.drop 0).take 1) = some y0 := by
      have g := hf 0 _ rfl
      change DataW.trod enc Tryd.prog w base (fun _ => true) held n 3 ((cs.drop 0).take (Tryd.prog.cellsOf 3)) = some y0 at g
      rw [Tryd.cellsIntP] at g
      exact g
    have f1 : DataW.trod enc Tryd.prog w base (fun _ => true) held n 4 ((cs.drop 1).take 1) = some y1 := by
      have g := hf 1 _ rfl
      change DataW.trod enc Tryd.prog w base (fun _ => true) held n 4 ((cs.drop 1).take (Tryd.prog.cellsOf 4)) = some y1 at g
      rw [Tryd.cellsBoolP] at g
      exact g
    have f2 : DataW.trod enc Tryd.prog w base (fun _ => true) held n 23 ((cs.drop 2).take 32) = some y2 := by
      have g := hf 2 _ rfl
      change DataW.trod enc Tryd.prog w base (fun _ => true) held n 23 ((cs.drop 2).take (Tryd.prog.cellsOf 23)) = some y2 at g
      rw [Tryd.cellsSumP] at g
      exact g
    obtain ⟨d, e0, _, w0⟩ := DataW.trod_int Tryd.underlying3 f0
    obtain ⟨b, e1, _⟩ := DataW.trod_bool Tryd.underlying4 f1
    obtain ⟨bs, hb, e2⟩ := sum_of_trod f2
    have hw : -9223372036854775808 ≤ d ∧ d ≤ 9223372036854775807 := by simpa [Lit.wf, IntKind.min, IntKind.max, IntKind.signed, IntKind.bits] using w0
    refine ⟨(d, b, bs), ?_, hb, hw.1, hw.2⟩
    match cs, hl with
    | c0 :: c1 :: r, hl =>
      simp only [List.drop_zero, List.take_succ_cons, List.take_zero, List.cons.injEq, and_true, List.drop_succ_cons] at e0 e1 e2
      rw [List.take_of_length_le (by simp at hl; omega)] at e2
      rw [e0, e1, e2]
      rfl

theorem stps_of_trod {fuel : Nat} {a : Option Addr} {len cap : Nat} {x : DataW H × List MemPlace} (h : DataW.trod enc Tryd.prog w base (fun _ => true) held fuel 27 [.slice a len cap] = some x) :
    ∃ L, Stps w.heap.size w (.slice a len cap) L := by
  rcases Deep.open_slice Tryd.underlying27 h with ⟨hcs, _⟩ | ⟨y, l, c, m, n, D, Pl, hcs, _, hl, hm, hmm, hx, hr⟩
  · simp only [List.cons.injEq, Value.slice.injEq, and_true] at hcs
    obtain ⟨rfl, rfl, rfl⟩ := hcs
    exact ⟨[], stps_nil _ _⟩
  · simp only [List.cons.injEq, Value.slice.injEq, and_true] at hcs
    obtain ⟨rfl, rfl, rfl⟩ := hcs
    simp only [if_true] at hmm
    subst hmm
    have one : ∀ i, i < len → ∃ s : Zst, w.cells? base (y.add (i * 34)) 34 = some (zc s) ∧ ZOk s := fun i hi => by
      obtain ⟨cs, h1, h2⟩ := hr i (by omega)
      rw [Tryd.cellsStepP] at h1
      obtain ⟨s, rfl, hs⟩ := step_of_trod h2
      exact ⟨s, h1, hs⟩
    haveI : Inhabited Zst := ⟨(0, false, [])⟩
    obtain ⟨f, hfr⟩ := Deep.choose_lt (α := Zst) (p := fun i s => w.cells? base (y.add (i * 34)) 34 = some (zc s) ∧ ZOk s) one
    have hlen : ((List.range len).map f).length = len := by simp
    refine ⟨(List.range len).map f, some y, m, by rw [hlen], by rw [hlen]; exact hl, hm, fun s hs => ?_, fun hne => ?_⟩
    · obtain ⟨i, hi, rfl⟩ := List.mem_map.1 hs
      exact (hfr i (by simpa using hi)).2
    have hpos : 0 < len := by
      rcases Nat.eq_zero_or_pos len with e | e
      · exact absurd (by rw [e]; rfl) hne
      · exact e
    obtain ⟨b, off, spot⟩ := y
    have h0 := (World.cells?_some (hfr 0 hpos).1).2.2 0 (by omega)
    have h0' : w.cell? ((⟨b, off, spot⟩ : Addr).add (0 * 34) |>.add 0) = some (.int .i64 (f 0).1) := h0
    have hspot : spot = none := by simpa [Addr.add] using World.cell?_spot h0'
    subst hspot
    refine ⟨b, off, rfl, World.block_lt_of_cell? w _ h0', fun j v hv i u hu => ?_⟩
    have hj : j < len := by have := (List.getElem?_eq_some_iff.1 hv).1; simpa using this
    have ev : f j = v := by simpa [hj] using hv
    obtain ⟨hc, r⟩ := hfr j hj
    rw [ev] at hc r
    have hi : i < 34 := by have := (List.getElem?_eq_some_iff.1 hu).1; rw [zc_length r] at this; exact this
    have hcell := (World.cells?_some hc).2.2 i hi
    simp only [Addr.add_lit] at hcell
    rw [hcell]
    exact hu

/-- A proof that came in. -/
theorem open_proof {b0 : Nat} {v : Value} {d : DataW H} {ps : List MemPlace} (ho : Value.okWide Tryd.prog w .any b0 29 v) (hd : DataW.Trod enc Tryd.prog w base (fun _ => true) held 29 v d ps) :
    ∃ (p : Prf) (kv vv sv : Value), v = .agg #[.bool p.no, kv, vv, sv] ∧ PAt w.heap.size w p kv vv sv := by
  obtain ⟨cs, rfl, hn⟩ := okWide_struct Tryd.underlying29 ho
  obtain ⟨fuel, h⟩ := hd
  obtain ⟨ys, n, _, _, hl, hlen, hf⟩ := DataW.trod_struct Tryd.underlying29 h
  rw [Tryd.cellsProofP] at hl
  have hl4 : cs.toList.length = 4 := hl
  obtain ⟨l, hcl⟩ : ∃ l, cs.toList = l := ⟨_, rfl⟩
  have hcs : cs = l.toArray := by rw [← hcl]
  subst hcs
  simp only at hl4
  match l, hl4 with
  | [c0, c1, c2, c3], _ =>
    match ys, hlen with
    | [y0, y1, y2], _ =>
      have f0 : DataW.trod enc Tryd.prog w base (fun _ => true) held n 4 [c0] = some y0 := by
        have g := hf 0 _ rfl
        change DataW.trod enc Tryd.prog w base (fun _ => true) held n 4 (([c0, c1, c2, c3].drop 0).take (Tryd.prog.cellsOf 4)) = some y0 at g
        rw [Tryd.cellsBoolP] at g
        exact g
      have f1 : DataW.trod enc Tryd.prog w base (fun _ => true) held n 26 [c1, c2] = some y1 := by
        have g := hf 1 _ rfl
        change DataW.trod enc Tryd.prog w base (fun _ => true) held n 26 (([c0, c1, c2, c3].drop 1).take (Tryd.prog.cellsOf 26)) = some y1 at g
        rw [Tryd.cellsEntry] at g
        exact g
      have f2 : DataW.trod enc Tryd.prog w base (fun _ => true) held n 27 [c3] = some y2 := by
        have g := hf 2 _ rfl
        change DataW.trod enc Tryd.prog w base (fun _ => true) held n 27 (([c0, c1, c2, c3].drop 3).take (Tryd.prog.cellsOf 27)) = some y2 at g
        rw [Tryd.cellsStepsP] at g
        exact g
      obtain ⟨b, e0, _⟩ := DataW.trod_bool Tryd.underlying4 f0
      obtain ⟨ka, va, k, x, e1, hk, hv⟩ := entry_of_trod f1
      obtain ⟨sa, sl, sc, rfl⟩ : ∃ sa sl sc, c3 = .slice sa sl sc := by
        rcases Deep.open_slice Tryd.underlying27 f2 with ⟨hcs, _⟩ | ⟨y, l, c, m, n, D, Pl, hcs, _⟩
        · simp only [List.cons.injEq, and_true] at hcs
          exact ⟨_, _, _, hcs⟩
        · simp only [List.cons.injEq, and_true] at hcs
          exact ⟨_, _, _, hcs⟩
      obtain ⟨L, hL⟩ := stps_of_trod f2
      simp only [List.cons.injEq, and_true] at e0 e1
      obtain ⟨rfl, rfl⟩ := e1
      subst e0
      exact ⟨⟨b, k, x, L⟩, c1, c2, .slice sa sl sc, rfl, hk, hv, hL⟩
end
end Go.Proofs.YtmafaioohiaenaaDoor

/- Of a proof that came in: steps that are nil have no room. -/

namespace Go.Proofs.YtmafaioohiaenaaDoor
open Go.RowKit Go.ChangeShapes Go.WideShapes
set_option linter.unusedVariables false
set_option maxRecDepth 20000

section
variable {H : Type} {enc : TypeId × Value → H} {w : World} {base : Nat} {held : Bool}

theorem proof_nil {b kv vv sv : Value} {d : DataW H} {ps : List MemPlace} (hd : DataW.Trod enc Tryd.prog w base (fun _ => true) held 29 (.agg #[b, kv, vv, sv]) d ps) : ∀ l c, sv = .slice none l c → c = 0 := by
  obtain ⟨fuel, h⟩ := hd
  obtain ⟨ys, n, _, _, hl, hlen, hf⟩ := DataW.trod_struct Tryd.underlying29 h
  match ys, hlen with
  | [y0, y1, y2], _ =>
    have f2 : DataW.trod enc Tryd.prog w base (fun _ => true) held n 27 [sv] = some y2 := by
      have g := hf 2 _ rfl
      change DataW.trod enc Tryd.prog w base (fun _ => true) held n 27 (([b, kv, vv, sv].drop 3).take (Tryd.prog.cellsOf 27)) = some y2 at g
      rw [Tryd.cellsStepsP] at g
      exact g
    intro l c e
    rcases Deep.open_slice Tryd.underlying27 f2 with ⟨hcs, _⟩ | ⟨y, l', c', m, n, D, Pl, hcs, _⟩
    · simp only [List.cons.injEq, and_true] at hcs
      rw [e] at hcs
      simp only [Value.slice.injEq] at hcs
      exact hcs.2.2
    · simp only [List.cons.injEq, and_true] at hcs
      rw [e] at hcs
      simp at hcs
end
end Go.Proofs.YtmafaioohiaenaaDoor
