/- How an argument that is a slice of acts is read. -/
import Derived.Test.YtnhgjjpjmfjmjaaActs
import Derived.Test.YtnhgjjpjmfjmjaaOpen
import Derived.SizedLaws
namespace Go.Proofs.Ytnhgjjpjmfjmjaa
open Go.RowKit Go.ChangeShapes Go.WideShapes
set_option linter.unusedVariables false

theorem weights_all {H : Type} {P : Program} {e : TypeId} {d : DataW H} {n : Nat} (hn : n ∈ d.weights P e) : ∀ l : List (DataW H), d ∈ l → n ∈ DataW.weightsAll P e l
  | [], h => by simp at h
  | x :: r, h => by
    rw [DataW.weightsAll, List.mem_append]
    rcases List.mem_cons.1 h with rfl | h
    · exact .inl hn
    · exact .inr (weights_all hn r h)

theorem Try.cellsAct : Try.prog.cellsOf 30 = 4 := by kernel_rfl
theorem Try.cellsInt : Try.prog.cellsOf 3 = 1 := by kernel_rfl
theorem Try.cellsBytes : Try.prog.cellsOf 28 = 1 := by kernel_rfl
theorem Try.cellsU8 : Try.prog.cellsOf 5 = 1 := by kernel_rfl
theorem Try.bytesU8 : Try.prog.bytesOf 5 = 1 := by kernel_rfl

section
variable {H : Type} {enc : TypeId × Value → H} {w : World} {base : Nat} {held : Bool}

theorem act_of_trod {fuel : Nat} {cs : List Value} {x : DataW H × List MemPlace} (h : DataW.trod enc Try.prog w base (fun _ => true) held fuel 30 cs = some x) (hsz : ∀ n ∈ x.1.weights Try.prog 30, n ≤ reachBytes) :
    ∃ a : ActV, cs = [.int .i64 a.d, .int .i64 a.who, a.vb, .int .i64 a.n] ∧ I64 a.d ∧ I64 a.who ∧ I64 a.n ∧ Shows w.heap.size w a.vb a.bs ∧ a.bs.length ≤ 140737488351232 := by
  obtain ⟨ys, n, _, rfl, hl, hlen, hf⟩ := DataW.trod_struct Try.underlying30 h
  rw [Try.cellsAct] at hl
  match cs, hl with
  | [c0, c1, c2, c3], _ =>
    match ys, hlen with
    | [y0, y1, y2, y3], _ =>
      have f0 : DataW.trod enc Try.prog w base (fun _ => true) held n 3 [c0] = some y0 := by
        have g := hf 0 _ rfl
        change DataW.trod enc Try.prog w base (fun _ => true) held n 3 (([c0, c1, c2, c3].drop 0).take (Try.prog.cellsOf 3)) = some y0 at g
        rw [Try.cellsInt] at g
        exact g
      have f1 : DataW.trod enc Try.prog w base (fun _ => true) held n 3 [c1] = some y1 := by
        have g := hf 1 _ rfl
        change DataW.trod enc Try.prog w base (fun _ => true) held n 3 (([c0, c1, c2, c3].drop 1).take (Try.prog.cellsOf 3)) = some y1 at g
        rw [Try.cellsInt] at g
        exact g
      have f2 : DataW.trod enc Try.prog w base (fun _ => true) held n 28 [c2] = some y2 := by
        have g := hf 2 _ rfl
        change DataW.trod enc Try.prog w base (fun _ => true) held n 28 (([c0, c1, c2, c3].drop 2).take (Try.prog.cellsOf 28)) = some y2 at g
        rw [Try.cellsBytes] at g
        exact g
      have f3 : DataW.trod enc Try.prog w base (fun _ => true) held n 3 [c3] = some y3 := by
        have g := hf 3 _ rfl
        change DataW.trod enc Try.prog w base (fun _ => true) held n 3 (([c0, c1, c2, c3].drop 3).take (Try.prog.cellsOf 3)) = some y3 at g
        rw [Try.cellsInt] at g
        exact g
      obtain ⟨d, e0, _, w0⟩ := DataW.trod_int Try.underlying3 f0
      obtain ⟨who, e1, _, w1⟩ := DataW.trod_int Try.underlying3 f1
      obtain ⟨m, e3, _, w3⟩ := DataW.trod_int Try.underlying3 f3
      obtain ⟨va, vl, vc, rfl⟩ : ∃ va vl vc, c2 = .slice va vl vc := by
        rcases open_ints Try.underlying28 Try.underlying5 Try.cellsU8 f2 with ⟨hcs, _⟩ | ⟨y, l, c, zs, hcs, _⟩
        · simp only [List.cons.injEq, and_true] at hcs
          exact ⟨_, _, _, hcs⟩
        · simp only [List.cons.injEq, and_true] at hcs
          exact ⟨_, _, _, hcs⟩
      obtain ⟨bs, sh, dd⟩ := shows_of_trod Try.underlying28 Try.underlying5 Try.cellsU8 f2
      simp only [List.cons.injEq, and_true] at e0 e1 e3
      subst e0 e1 e3
      refine ⟨⟨d, who, _, bs, m⟩, rfl, I64.of_wf w0, I64.of_wf w1, I64.of_wf w3, sh, ?_⟩
      rcases dd with h0 | ⟨el, sp, h0, hle⟩
      · show bs.length ≤ _
        omega
      · have := hsz ((el.length + sp.length) * 1) (by
          simp only [DataW.weights, Try.underlying30, List.map_cons, List.map_nil]
          refine DataW.weights_mem_each (j := 2) (t := 28) (d := y2.1) rfl rfl _ ?_
          rw [h0]
          simp [DataW.weights, Try.underlying28, Try.bytesU8])
        simp only [reachBytes] at this
        show bs.length ≤ _
        omega

theorem acts_of_trod {fuel : Nat} {a : Option Addr} {len cap : Nat} {x : DataW H × List MemPlace} (h : DataW.trod enc Try.prog w base (fun _ => true) held fuel 22 [.slice a len cap] = some x) (hsz : ∀ n ∈ x.1.weights Try.prog 22, n ≤ reachBytes) :
    ∃ xs, Acts w.heap.size w (.slice a len cap) xs := by
  rcases Deep.open_slice Try.underlying22 h with ⟨hcs, _⟩ | ⟨y, l, c, m, n, D, Pl, hcs, _, hl, hm, hmm, hx, hr⟩
  · simp only [List.cons.injEq, Value.slice.injEq, and_true] at hcs
    obtain ⟨rfl, rfl, rfl⟩ := hcs
    exact ⟨[], none, 0, rfl, Nat.le_refl _, Nat.zero_le _, fun h => absurd rfl h⟩
  · simp only [List.cons.injEq, Value.slice.injEq, and_true] at hcs
    obtain ⟨rfl, rfl, rfl⟩ := hcs
    simp only [if_true] at hmm
    subst hmm
    have one : ∀ i, i < len → ∃ av : ActV, w.cells? base (y.add (i * 4)) 4 = some [.int .i64 av.d, .int .i64 av.who, av.vb, .int .i64 av.n] ∧ I64 av.d ∧ I64 av.who ∧ I64 av.n ∧ Shows w.heap.size w av.vb av.bs ∧ av.bs.length ≤ 140737488351232 := fun i hi => by
      obtain ⟨cs, h1, h2⟩ := hr i (by omega)
      rw [Try.cellsAct] at h1
      obtain ⟨av, rfl, r⟩ := act_of_trod h2 (fun k hk => hsz k (by
        rw [hx]
        simp only [DataW.weights, Try.underlying22]
        exact List.mem_cons_of_mem _ (List.mem_append.2 (.inl (weights_all hk _ (List.mem_map.2 ⟨i, by simpa using hi, rfl⟩))))))
      exact ⟨av, h1, r⟩
    haveI : Inhabited ActV := ⟨⟨0, 0, .slice none 0 0, [], 0⟩⟩
    obtain ⟨f, hfr⟩ := Deep.choose_lt (α := ActV) (p := fun i av => w.cells? base (y.add (i * 4)) 4 = some [.int .i64 av.d, .int .i64 av.who, av.vb, .int .i64 av.n] ∧ I64 av.d ∧ I64 av.who ∧ I64 av.n ∧ Shows w.heap.size w av.vb av.bs ∧ av.bs.length ≤ 140737488351232) one
    have hlen : ((List.range len).map f).length = len := by simp
    refine ⟨(List.range len).map f, some y, m, by rw [hlen], by rw [hlen]; exact hl, hm, fun hne => ?_⟩
    have hpos : 0 < len := by
      rcases Nat.eq_zero_or_pos len with e | e
      · exact absurd (by rw [e]; rfl) hne
      · exact e
    obtain ⟨b, off, spot⟩ := y
    have h0 := (World.cells?_some (hfr 0 hpos).1).2.2 0 (by omega)
    have hspot : spot = none := by simpa [Addr.add] using World.cell?_spot h0
    subst hspot
    refine ⟨b, off, rfl, World.block_lt_of_cell? w _ h0, fun j v hv => ?_⟩
    have hj : j < len := by have := (List.getElem?_eq_some_iff.1 hv).1; simpa using this
    have ev : f j = v := by simpa [hj] using hv
    obtain ⟨hc, r⟩ := hfr j hj
    rw [ev] at hc r
    have hcell := (World.cells?_some hc).2.2
    have k0 := hcell 0 (by omega)
    have k1 := hcell 1 (by omega)
    have k2 := hcell 2 (by omega)
    have k3 := hcell 3 (by omega)
    simp only [Addr.add_lit, List.getElem?_cons_zero, List.getElem?_cons_succ, Nat.add_zero] at k0 k1 k2 k3
    exact ⟨k0, k1, k2, k3, r⟩
end
end Go.Proofs.Ytnhgjjpjmfjmjaa
