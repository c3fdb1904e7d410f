/- How an argument that is a slice of stage 14's acts is read. -/
import Derived.Test.YtjfipejfejmlaaaBtActs
import Derived.Test.YtjfipejfejmlaaaOpen
import Derived.SizedLaws
namespace Go.Proofs.Ytjfipejfejmlaaa
open Go.RowKit Go.ChangeShapes Go.WideShapes
set_option linter.unusedVariables false
set_option maxRecDepth 20000

/-- Within int's reach. -/
def I64 (n : Int) : Prop := -9223372036854775808 ≤ n ∧ n ≤ 9223372036854775807

theorem weights_all {H : Type} {P : Program} {e : TypeId} {d : DataW H} {n : Nat} (hn : n ∈ d.weights P e) : ∀ l : List (DataW H), d ∈ l → n ∈ DataW.weightsAll P e l
  | [], h => by simp at h
  | x :: r, h => by
    rw [DataW.weightsAll, List.mem_append]
    rcases List.mem_cons.1 h with rfl | h
    · exact .inl hn
    · exact .inr (weights_all hn r h)

theorem Try.cellsAct : Try.prog.cellsOf 34 = 6 := by kernel_rfl
theorem Try.cellsSpan : Try.prog.cellsOf 32 = 3 := by kernel_rfl
theorem Try.cellsInt : Try.prog.cellsOf 3 = 1 := by kernel_rfl
theorem Try.cellsBool : Try.prog.cellsOf 4 = 1 := by kernel_rfl
theorem Try.cellsBytes : Try.prog.cellsOf 30 = 1 := by kernel_rfl
theorem Try.cellsU8 : Try.prog.cellsOf 5 = 1 := by kernel_rfl
theorem Try.bytesU8 : Try.prog.bytesOf 5 = 1 := by kernel_rfl

section
variable {H : Type} {enc : TypeId × Value → H} {w : World} {base : Nat} {held : Bool}

/-- A slice of bytes that was handed in. -/
theorem lent_of_trod {fuel : Nat} {c : Value} {y : DataW H × List MemPlace} (h : DataW.trod enc Try.prog w base (fun _ => true) held fuel 30 [c] = some y) (hsz : ∀ n ∈ y.1.weights Try.prog 30, n ≤ reachBytes) : ∃ bs, Lent8 w.heap.size w c bs := by
  obtain ⟨va, vl, vc, rfl⟩ : ∃ va vl vc, c = .slice va vl vc := by
    rcases open_ints Try.underlying30 Try.underlying5 Try.cellsU8 h with ⟨hcs, _⟩ | ⟨y, l, c, zs, hcs, _⟩
    · simp only [List.cons.injEq, and_true] at hcs
      exact ⟨_, _, _, hcs⟩
    · simp only [List.cons.injEq, and_true] at hcs
      exact ⟨_, _, _, hcs⟩
  obtain ⟨bs, sh, dd⟩ := shows_of_trod Try.underlying30 Try.underlying5 Try.cellsU8 h
  refine ⟨bs, sh, ?_⟩
  rcases dd with h0 | ⟨el, sp, h0, hle⟩
  · omega
  · have := hsz ((el.length + sp.length) * 1) (by rw [h0]; simp [DataW.weights, Try.underlying30, Try.bytesU8])
    simp only [reachBytes] at this
    omega

theorem act_of_trod {fuel : Nat} {cs : List Value} {x : DataW H × List MemPlace} (h : DataW.trod enc Try.prog w base (fun _ => true) held fuel 34 cs = some x) (hsz : ∀ n ∈ x.1.weights Try.prog 34, n ≤ reachBytes) :
    ∃ a : ActB, cs = [.int .i64 a.d, a.kv, a.vv, a.fv, a.tv, .bool a.en] ∧ I64 a.d ∧ Lent8 w.heap.size w a.kv a.k ∧ Lent8 w.heap.size w a.vv a.v ∧ Lent8 w.heap.size w a.fv a.f ∧ Lent8 w.heap.size w a.tv a.t := by
  obtain ⟨ys, n, _, rfl, hl, hlen, hf⟩ := DataW.trod_struct Try.underlying34 h
  rw [Try.cellsAct] at hl
  match cs, hl with
  | [c0, c1, c2, c3, c4, c5], _ =>
    match ys, hlen with
    | [y0, y1, y2, y3], _ =>
      have f0 : DataW.trod enc Try.prog w base (fun _ => true) held n 3 [c0] = some y0 := by
        have g := hf 0 _ rfl
        change DataW.trod enc Try.prog w base (fun _ => true) held n 3 (([c0, c1, c2, c3, c4, c5].drop 0).take (Try.prog.cellsOf 3)) = some y0 at g
        rw [Try.cellsInt] at g
        exact g
      have f1 : DataW.trod enc Try.prog w base (fun _ => true) held n 30 [c1] = some y1 := by
        have g := hf 1 _ rfl
        change DataW.trod enc Try.prog w base (fun _ => true) held n 30 (([c0, c1, c2, c3, c4, c5].drop 1).take (Try.prog.cellsOf 30)) = some y1 at g
        rw [Try.cellsBytes] at g
        exact g
      have f2 : DataW.trod enc Try.prog w base (fun _ => true) held n 30 [c2] = some y2 := by
        have g := hf 2 _ rfl
        change DataW.trod enc Try.prog w base (fun _ => true) held n 30 (([c0, c1, c2, c3, c4, c5].drop 2).take (Try.prog.cellsOf 30)) = some y2 at g
        rw [Try.cellsBytes] at g
        exact g
      have f3 : DataW.trod enc Try.prog w base (fun _ => true) held n 32 [c3, c4, c5] = some y3 := by
        have g := hf 3 _ rfl
        change DataW.trod enc Try.prog w base (fun _ => true) held n 32 (([c0, c1, c2, c3, c4, c5].drop 3).take (Try.prog.cellsOf 32)) = some y3 at g
        rw [Try.cellsSpan] at g
        exact g
      obtain ⟨zs, m, _, hy3, hl3, hlen3, hf3⟩ := DataW.trod_struct Try.underlying32 f3
      match zs, hlen3 with
      | [z0, z1, z2], _ =>
        have g0 : DataW.trod enc Try.prog w base (fun _ => true) held m 30 [c3] = some z0 := by
          have g := hf3 0 _ rfl
          change DataW.trod enc Try.prog w base (fun _ => true) held m 30 (([c3, c4, c5].drop 0).take (Try.prog.cellsOf 30)) = some z0 at g
          rw [Try.cellsBytes] at g
          exact g
        have g1 : DataW.trod enc Try.prog w base (fun _ => true) held m 30 [c4] = some z1 := by
          have g := hf3 1 _ rfl
          change DataW.trod enc Try.prog w base (fun _ => true) held m 30 (([c3, c4, c5].drop 1).take (Try.prog.cellsOf 30)) = some z1 at g
          rw [Try.cellsBytes] at g
          exact g
        have g2 : DataW.trod enc Try.prog w base (fun _ => true) held m 4 [c5] = some z2 := by
          have g := hf3 2 _ rfl
          change DataW.trod enc Try.prog w base (fun _ => true) held m 4 (([c3, c4, c5].drop 2).take (Try.prog.cellsOf 4)) = some z2 at g
          rw [Try.cellsBool] at g
          exact g
        obtain ⟨d, e0, _, w0⟩ := DataW.trod_int Try.underlying3 f0
        obtain ⟨en, e5, _⟩ := DataW.trod_bool Try.underlying4 g2
        simp only [List.cons.injEq, and_true] at e0 e5
        subst e0 e5
        obtain ⟨k, hk⟩ := lent_of_trod f1 (fun n hn => hsz n (by
          simp only [DataW.weights, Try.underlying34, List.map_cons, List.map_nil]
          exact DataW.weights_mem_each (j := 1) (t := 30) (d := y1.1) rfl rfl _ hn))
        obtain ⟨v, hv⟩ := lent_of_trod f2 (fun n hn => hsz n (by
          simp only [DataW.weights, Try.underlying34, List.map_cons, List.map_nil]
          exact DataW.weights_mem_each (j := 2) (t := 30) (d := y2.1) rfl rfl _ hn))
        have hs3 : ∀ n ∈ y3.1.weights Try.prog 32, n ≤ reachBytes := fun n hn => hsz n (by
          simp only [DataW.weights, Try.underlying34, List.map_cons, List.map_nil]
          exact DataW.weights_mem_each (j := 3) (t := 32) (d := y3.1) rfl rfl _ hn)
        obtain ⟨f, hf'⟩ := lent_of_trod g0 (fun n hn => hs3 n (by
          rw [hy3]
          simp only [DataW.weights, Try.underlying32, List.map_cons, List.map_nil]
          exact DataW.weights_mem_each (j := 0) (t := 30) (d := z0.1) rfl rfl _ hn))
        obtain ⟨t, ht'⟩ := lent_of_trod g1 (fun n hn => hs3 n (by
          rw [hy3]
          simp only [DataW.weights, Try.underlying32, List.map_cons, List.map_nil]
          exact DataW.weights_mem_each (j := 1) (t := 30) (d := z1.1) rfl rfl _ hn))
        exact ⟨⟨d, c1, c2, c3, c4, en, k, v, f, t⟩, rfl, by simpa [I64, Lit.wf, IntKind.min, IntKind.max, IntKind.signed, IntKind.bits] using w0, hk, hv, hf', ht'⟩

theorem actsB_of_trod {fuel : Nat} {a : Option Addr} {len cap : Nat} {x : DataW H × List MemPlace} (h : DataW.trod enc Try.prog w base (fun _ => true) held fuel 22 [.slice a len cap] = some x) (hsz : ∀ n ∈ x.1.weights Try.prog 22, n ≤ reachBytes) :
    ∃ xs, ActsB w.heap.size w (.slice a len cap) xs := by
  rcases Deep.open_slice Try.underlying22 h with ⟨hcs, _⟩ | ⟨y, l, c, m, n, D, Pl, hcs, _, hl, hm, hmm, hx, hr⟩
  · simp only [List.cons.injEq, Value.slice.injEq, and_true] at hcs
    obtain ⟨rfl, rfl, rfl⟩ := hcs
    exact ⟨[], none, 0, rfl, Nat.le_refl _, Nat.zero_le _, fun h => absurd rfl h⟩
  · simp only [List.cons.injEq, Value.slice.injEq, and_true] at hcs
    obtain ⟨rfl, rfl, rfl⟩ := hcs
    simp only [if_true] at hmm
    subst hmm
    have one : ∀ i, i < len → ∃ av : ActB, w.cells? base (y.add (i * 6)) 6 = some [.int .i64 av.d, av.kv, av.vv, av.fv, av.tv, .bool av.en] ∧ I64 av.d ∧ Lent8 w.heap.size w av.kv av.k ∧ Lent8 w.heap.size w av.vv av.v ∧ Lent8 w.heap.size w av.fv av.f ∧ Lent8 w.heap.size w av.tv av.t := fun i hi => by
      obtain ⟨cs, h1, h2⟩ := hr i (by omega)
      rw [Try.cellsAct] at h1
      obtain ⟨av, rfl, r⟩ := act_of_trod h2 (fun k hk => hsz k (by
        rw [hx]
        simp only [DataW.weights, Try.underlying22]
        exact List.mem_cons_of_mem _ (List.mem_append.2 (.inl (weights_all hk _ (List.mem_map.2 ⟨i, by simpa using hi, rfl⟩))))))
      exact ⟨av, h1, r⟩
    haveI : Inhabited ActB := ⟨⟨0, .slice none 0 0, .slice none 0 0, .slice none 0 0, .slice none 0 0, false, [], [], [], []⟩⟩
    obtain ⟨f, hfr⟩ := Deep.choose_lt (α := ActB) (p := fun i av => w.cells? base (y.add (i * 6)) 6 = some [.int .i64 av.d, av.kv, av.vv, av.fv, av.tv, .bool av.en] ∧ I64 av.d ∧ Lent8 w.heap.size w av.kv av.k ∧ Lent8 w.heap.size w av.vv av.v ∧ Lent8 w.heap.size w av.fv av.f ∧ Lent8 w.heap.size w av.tv av.t) one
    have hlen : ((List.range len).map f).length = len := by simp
    refine ⟨(List.range len).map f, some y, m, by rw [hlen], by rw [hlen]; exact hl, hm, fun hne => ?_⟩
    have hpos : 0 < len := by
      rcases Nat.eq_zero_or_pos len with e | e
      · exact absurd (by rw [e]; rfl) hne
      · exact e
    obtain ⟨b, off, spot⟩ := y
    have h0 := (World.cells?_some (hfr 0 hpos).1).2.2 0 (by omega)
    have hspot : spot = none := by simpa [Addr.add] using World.cell?_spot h0
    subst hspot
    refine ⟨b, off, rfl, World.block_lt_of_cell? w _ h0, fun j v hv => ?_⟩
    have hj : j < len := by have := (List.getElem?_eq_some_iff.1 hv).1; simpa using this
    have ev : f j = v := by simpa [hj] using hv
    obtain ⟨hc, r⟩ := hfr j hj
    rw [ev] at hc r
    have hcell := (World.cells?_some hc).2.2
    have k0 := hcell 0 (by omega)
    have k1 := hcell 1 (by omega)
    have k2 := hcell 2 (by omega)
    have k3 := hcell 3 (by omega)
    have k4 := hcell 4 (by omega)
    have k5 := hcell 5 (by omega)
    simp only [Addr.add_lit, List.getElem?_cons_zero, List.getElem?_cons_succ, Nat.add_zero] at k0 k1 k2 k3 k4 k5
    exact ⟨k0, k1, k2, k3, k4, k5, r⟩
end
end Go.Proofs.Ytjfipejfejmlaaa
