/- LexJoins: two sources joined have the tokens of both. -/
import Derived.Test.YtokfphfgcjbpkaaGreatDoorLBackL
namespace Go.Proofs.YtokfphfgcjbpkaaGreatDoor
open Go.RowKit Go.Shelf
set_option linter.unusedVariables false
set_option linter.unusedSimpArgs false
set_option maxRecDepth 20000

theorem toks_place : ∀ (f : Nat) (s : List UInt8) (at' : Nat), (toks f s at').1 ≠ 0 → (at' : Int) ≤ (toks f s at').2.1 ∧ (toks f s at').2.1 ≤ (at' : Int) + s.length
  | 0, s, at', h => by simp [toks] at h
  | f + 1, s, at', h => by
    have hle := skip_le s false
    by_cases hs : s.length ≤ skip false s
    · rw [toks_end hs] at h; simp at h
    · obtain ⟨⟨e, t, n⟩, hc⟩ : ∃ x, cutT (s.drop (skip false s)) = x := ⟨_, rfl⟩
      by_cases he : e = 0
      · subst he
        have hcl := cut_local hc
        rw [toks_one (by omega) hc] at h ⊢
        obtain ⟨h1, h2⟩ := conT_err h
        rw [h1]
        have ih := toks_place f _ _ h2
        rw [List.length_drop, List.length_drop] at ih
        rw [List.length_drop] at hcl
        omega
      · rw [toks_err (by omega) hc he]
        show ((at' : Nat) : Int) ≤ ((at' + skip false s : Nat) : Int) ∧ ((at' + skip false s : Nat) : Int) ≤ (at' : Int) + s.length
        omega

/-- LexJoins' plain part. -/
theorem joins_plain (s t : List UInt8) (h : s.length + 1 + t.length ≤ 2000) :
    ((tokens s).1 ≠ 0 → (tokens s).1 = 3 ∨ ((tokens (s ++ 10 :: t)).1 = (tokens s).1 ∧ (tokens (s ++ 10 :: t)).2.1 = (tokens s).2.1)) ∧
    ((tokens s).1 = 0 → (tokens t).1 ≠ 0 → (tokens (s ++ 10 :: t)).1 = (tokens t).1 ∧ (tokens (s ++ 10 :: t)).2.1 = (tokens t).2.1 + s.length + 1 ∧ 0 ≤ (tokens t).2.1 ∧ (tokens t).2.1 ≤ 2000) ∧
    ((tokens s).1 = 0 → (tokens t).1 = 0 → (tokens (s ++ 10 :: t)).1 = 0 ∧ ∃ L E, (tokens s).2.2 = L ++ [E] ∧ L.length ≤ 2000 ∧ (tokens t).2.2 ≠ [] ∧ (tokens t).2.2.length ≤ 2001 ∧ (tokens (s ++ 10 :: t)).2.2.map Tk.z = (L ++ (tokens t).2.2).map Tk.z) := by
  have hl : (s ++ 10 :: t).length = s.length + 1 + t.length := by simp; omega
  have es : tokens s = toks (s.length + 1) s 0 := by rw [tokens, if_neg (by omega)]
  have et : tokens t = toks (t.length + 1) t 0 := by rw [tokens, if_neg (by omega)]
  have ej : tokens (s ++ 10 :: t) = toks ((s ++ 10 :: t).length + 1) (s ++ 10 :: t) 0 := by rw [tokens, if_neg (by omega)]
  have hj := joins (s.length + 1) ((s ++ 10 :: t).length + 1) s t 0 (by omega) (by omega)
  rw [← es, ← ej] at hj
  have hsh := toks_shift (t.length + 1) t 0 (0 + s.length + 1)
  rw [← et, show 0 + (0 + s.length + 1) = 0 + s.length + 1 by omega] at hsh
  refine ⟨fun h0 => ?_, fun h0 h1 => ?_, fun h0 h1 => ?_⟩
  · rcases hj.2 h0 with h | h
    · exact .inl h
    · exact .inr (by rw [h]; exact ⟨rfl, rfl⟩)
  · obtain ⟨l, e, hle, hz⟩ := hj.1 h0
    have herr : (toks (t.length + 1) t (0 + s.length + 1)).1 ≠ 0 := by rw [hsh.1]; exact h1
    rw [foldr_conT_err herr] at hz
    have hp := toks_place (t.length + 1) t 0 (by rw [← et]; exact h1)
    rw [← et] at hp
    rw [hz]
    refine ⟨hsh.1, ?_, by omega, by omega⟩
    rw [hsh.2.1 h1]
    omega
  · obtain ⟨l, e, hle, hz⟩ := hj.1 h0
    have hok : (toks (t.length + 1) t (0 + s.length + 1)).1 = 0 := by rw [hsh.1]; exact h1
    rw [foldr_conT_ok hok ((toks_form _ _ _).2 hok)] at hz
    obtain ⟨_, _, L2, hL2, hL2l, _⟩ := tokens_good h1
    obtain ⟨_, _, L1, hL1, hL1l, _⟩ := tokens_good h0
    refine ⟨by rw [hz], l, e, hle, ?_, by rw [hL2]; simp, by rw [hL2]; simp; omega, ?_⟩
    · have := congrArg List.length (hle.symm.trans hL1)
      simp at this
      omega
    · rw [hz, List.map_append, List.map_append, hsh.2.2]

theorem tcs_one (xs : List Tk) : ∀ u ∈ tcs xs, u.oneCell' = true := by
  intro u hu
  obtain ⟨x, _, hx⟩ := List.mem_flatMap.1 hu
  simp only [tc, List.mem_cons, List.not_mem_nil, or_false] at hx
  rcases hx with rfl | rfl | rfl | rfl <;> rfl

/-- The cells of tokens that are shown. -/
theorem toks_cells {w : World} {b off : Nat} {ys : List Tk} (hc : ∀ j x, ys[j]? = some x → w.cell? ⟨b, off + j * 4, none⟩ = some (.int .i64 x.k) ∧ w.cell? ⟨b, off + j * 4 + 1, none⟩ = some (.string (str8 x.s)) ∧ w.cell? ⟨b, off + j * 4 + 2, none⟩ = some (.int .i64 x.n) ∧ w.cell? ⟨b, off + j * 4 + 3, none⟩ = some (.int .i64 x.p)) :
    ∀ j u, (tcs ys)[j]? = some u → w.cell? ((⟨b, off, none⟩ : Addr).add j) = some u := by
  intro j u hu
  have hj : j < ys.length * 4 := by
    have := (List.getElem?_eq_some_iff.1 hu).1
    rwa [tcs_length] at this
  have hq : j / 4 < ys.length := by omega
  obtain ⟨c0, c1, c2, c3⟩ := hc (j / 4) ys[j / 4] (List.getElem?_eq_getElem hq)
  obtain ⟨e0, e1, e2, e3⟩ := tcs_at ys (j / 4) ys[j / 4] (List.getElem?_eq_getElem hq)
  rw [Addr.add_lit]
  have hm : j % 4 = 0 ∨ j % 4 = 1 ∨ j % 4 = 2 ∨ j % 4 = 3 := by omega
  rcases hm with hm | hm | hm | hm
  · have ej : j = j / 4 * 4 := by omega
    rw [ej] at hu
    rw [show off + j = off + j / 4 * 4 by omega, c0, ← hu, e0]
  · have ej : j = j / 4 * 4 + 1 := by omega
    rw [ej] at hu
    rw [show off + j = off + j / 4 * 4 + 1 by omega, c1, ← hu, e1]
  · have ej : j = j / 4 * 4 + 2 := by omega
    rw [ej] at hu
    rw [show off + j = off + j / 4 * 4 + 2 by omega, c2, ← hu, e2]
  · have ej : j = j / 4 * 4 + 3 := by omega
    rw [ej] at hu
    rw [show off + j = off + j / 4 * 4 + 3 by omega, c3, ← hu, e3]

/-- append(dst, src...), wanted: dst the call's own, src tokens that are shown. -/
theorem wpList_append_toks {P : Program} (w : World) {ops : Array Oper} {rest : List Oper} {o : Oper} {a : Act} {Q : Exit → Act → World → Prop} (hw : Region.wanted o (yielded ops a.tmps) = true) (s x : Operand) (t : TypeId)
    (ho : o.op = .call { callee := .builtin .append, args := #[s, x], argTypes := #[t, t] })
    (base : Nat) (e : TypeId) (i : TypeInfo) (z : Value) (ht : P.underlying t = some (.slice e)) (hi : P.info? e = some i) (hz : i.zero = some z) (hzc : z.cells.size = 4)
    (hsize : i.size = 4) (hby : i.bytes = 40)
    (v : Value) (n : Nat) (xs : List Value) (hs : a.eval s = v) (hown : w.ownsRow base e 4 v n xs)
    (b off m c : Nat) (ys : List Tk) (hm : m = ys.length) (hx : a.eval x = .slice (some ⟨b, off, none⟩) m c) (hcells : ∀ j u, (tcs ys)[j]? = some u → w.cell? ((⟨b, off, none⟩ : Addr).add j) = some u)
    (hbytes : (n + m) * 40 ≤ 140737488355328) (hbase : base ≤ w.heap.size)
    (h : ∀ v' w', w'.ownsRow base e 4 v' (n + m) (xs ++ tcs ys) → w.grownBy w' v.ownBlock → wpList P ops Q rest (a.put o.dst v') w') : wpList P ops Q (o :: rest) a w := by
  unfold wpList
  rw [if_pos hw]
  refine Or.inl (wp_append_own w s x t ho base e i z 4 40 ht hi hz hsize hby hzc (by decide) v n xs hs hown ⟨b, off, none⟩ m c (tcs ys) hx (by rw [tcs_length, hm]) hcells (tcs_one ys) (by unfold maxLen; omega) (by omega) hbase ?_)
  intro v' w' ho' hg hnil
  exact h v' w' ho' hg

theorem run_toksto (b off M c : Nat) (hM : M + 1 ≤ c) (w : World) : (Instr.slice 32 (.slice (some ⟨b, off, none⟩) (M + 1) c) none (some (.int .i64 (M : Int))) none).run Tryz.prog w = .ok (.slice (some ⟨b, off, none⟩) M c) w := by
  go_simp
  intro h
  omega

end Go.Proofs.YtokfphfgcjbpkaaGreatDoor
