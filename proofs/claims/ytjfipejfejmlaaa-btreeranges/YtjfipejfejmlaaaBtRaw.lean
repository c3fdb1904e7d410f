/- Rows that a slice shows; contracts of cut, slices.Clone, newPage (tools/btraw.py). -/
import Derived.Test.YtjfipejfejmlaaaBtFind
import Derived.ArgAppend
import Derived.Laws.AppendOwnNone
namespace Go.Proofs.Ytjfipejfejmlaaa
open Go.RowKit Go.Shelf
set_option linter.unusedVariables false
set_option linter.unusedSimpArgs false
set_option maxRecDepth 20000

/-- v is a slice of n elements of s cells each: these. -/
def Rw (w : World) (s : Nat) (v : Value) (n : Nat) (cs : List Value) : Prop :=
  ∃ a c, v = .slice a n c ∧ n ≤ c ∧ c ≤ maxLen ∧ cs.length = n * s ∧ (a = none → c = 0) ∧
    (∀ ad, a = some ad → ∃ b off, ad = ⟨b, off, none⟩ ∧ b < w.heap.size ∧ ∀ j u, cs[j]? = some u → w.cell? ⟨b, off + j, none⟩ = some u) ∧ ∀ u ∈ cs, u.oneCell' = true

theorem Rw.new {w w' : World} {s n : Nat} {v : Value} {cs : List Value} (h : Rw w s v n cs) (hb : Below w.heap.size w w') : Rw w' s v n cs := by
  obtain ⟨a, c, h1, h2, h3, h4, h5, h6, h7⟩ := h
  refine ⟨a, c, h1, h2, h3, h4, h5, fun ad had => ?_, h7⟩
  obtain ⟨b, off, e, hlt, hc⟩ := h6 ad had
  exact ⟨b, off, e, Nat.lt_of_lt_of_le hlt hb.size, fun j u hu => by rw [hb.cell (p := ⟨b, off + j, none⟩) hlt]; exact hc j u hu⟩

theorem rw_nil (w : World) (s : Nat) : Rw w s nilS 0 [] := ⟨none, 0, rfl, Nat.le_refl _, by unfold maxLen; omega, by simp, fun _ => rfl, fun ad h => (by cases h), fun u hu => by cases hu⟩

theorem rw_of_owns {w : World} {B e s n : Nat} {v : Value} {cs : List Value} (h : w.ownsRow B e s v n cs) (h1 : ∀ u ∈ cs, u.oneCell' = true) : Rw w s v n cs := by
  rcases h.2 with ⟨rfl, rfl⟩ | ⟨g, cap, cur, rfl, hB, hg, q1, q2, q3, q4⟩
  · exact ⟨none, 0, rfl, Nat.le_refl _, by unfold maxLen; omega, h.1, fun _ => rfl, fun ad h => (by cases h), h1⟩
  · refine ⟨_, cap, rfl, q1, q2, h.1, fun h => (by cases h), fun ad had => ⟨g, 0, by cases had; rfl, block_lt hg, fun j u hu => ?_⟩, h1⟩
    rw [cell_of_row _ _ _ _ _ _ hg, Nat.zero_add]
    have hj := (List.getElem?_eq_some_iff.1 hu).1
    have h2 := h.1
    rw [← q4, List.getElem?_take] at hu
    split at hu
    · rw [Array.getElem?_toList] at hu; exact hu
    · cases hu

theorem Rw.at {w : World} {s n : Nat} {a : Option Addr} {l c : Nat} {cs : List Value} (h : Rw w s (.slice a l c) n cs) (k : Nat) (hk : k < n) (hs : 0 < s) :
    ∃ b off, a = some ⟨b, off, none⟩ ∧ b < w.heap.size ∧ ∀ j, j < s → ∃ u, cs[k * s + j]? = some u ∧ w.cell? ⟨b, off + k * s + j, none⟩ = some u := by
  obtain ⟨a', c', h1, h2, h3, h4, h5, h6, h7⟩ := h
  simp only [Value.slice.injEq] at h1
  obtain ⟨rfl, rfl, rfl⟩ := h1
  cases a with
  | none => have := h5 rfl; omega
  | some ad =>
    obtain ⟨b, off, rfl, hlt, hc⟩ := h6 ad rfl
    refine ⟨b, off, rfl, hlt, fun j hj => ?_⟩
    have hlen : k * s + j < cs.length := by
      rw [h4]
      have : (k + 1) * s ≤ l * s := Nat.mul_le_mul_right _ (by omega)
      rw [Nat.add_mul] at this
      omega
    exact ⟨_, List.getElem?_eq_getElem hlen, by rw [Nat.add_assoc]; exact hc _ _ (List.getElem?_eq_getElem hlen)⟩

theorem Rw.one {w : World} {n : Nat} {a : Option Addr} {l c : Nat} {cs : List Value} (h : Rw w 1 (.slice a l c) n cs) (k : Nat) (u : Value) (hu : cs[k]? = some u) :
    ∃ b off, a = some ⟨b, off, none⟩ ∧ w.cell? ⟨b, off + k, none⟩ = some u := by
  obtain ⟨a', c', h1, h2, h3, h4, h5, h6, h7⟩ := h
  simp only [Value.slice.injEq] at h1
  obtain ⟨rfl, rfl, rfl⟩ := h1
  have hk := (List.getElem?_eq_some_iff.1 hu).1
  cases a with
  | none => have := h5 rfl; omega
  | some ad =>
    obtain ⟨b, off, rfl, hlt, hc⟩ := h6 ad rfl
    exact ⟨b, off, rfl, hc k u hu⟩

theorem Rw.take {w : World} {s n b off c : Nat} {cs : List Value} (h : Rw w s (.slice (some ⟨b, off, none⟩) n c) n cs) (m c' : Nat) (hm : m ≤ n) (h1 : m ≤ c') (h2 : c' ≤ c) :
    Rw w s (.slice (some ⟨b, off, none⟩) m c') m (cs.take (m * s)) := by
  obtain ⟨a', k, e, q2, q3, q4, q5, q6, q7⟩ := h
  simp only [Value.slice.injEq] at e
  obtain ⟨rfl, _, rfl⟩ := e
  have hms : m * s ≤ n * s := Nat.mul_le_mul_right _ hm
  refine ⟨_, c', rfl, h1, by omega, by rw [List.length_take, q4]; omega, fun h => (by cases h), fun ad had => ?_, fun u hu => q7 u (List.mem_of_mem_take hu)⟩
  obtain ⟨b', off', e, hlt, hc⟩ := q6 ad had
  refine ⟨b', off', e, hlt, fun j u hu => hc j u ?_⟩
  rw [List.getElem?_take] at hu
  split at hu
  · exact hu
  · cases hu

theorem Rw.drop {w : World} {s n b off c : Nat} {cs : List Value} (h : Rw w s (.slice (some ⟨b, off, none⟩) n c) n cs) (m : Nat) (hm : m ≤ n) :
    Rw w s (.slice (some ⟨b, off + m * s, none⟩) (n - m) (c - m)) (n - m) (cs.drop (m * s)) := by
  obtain ⟨a', k, e, q2, q3, q4, q5, q6, q7⟩ := h
  simp only [Value.slice.injEq] at e
  obtain ⟨rfl, _, rfl⟩ := e
  refine ⟨_, c - m, rfl, by omega, by omega, by rw [List.length_drop, q4, Nat.sub_mul], fun h => (by cases h), fun ad had => ?_, fun u hu => q7 u (List.mem_of_mem_drop hu)⟩
  obtain ⟨b', off', e, hlt, hc⟩ := q6 _ rfl
  cases e
  cases had
  refine ⟨b, off + m * s, rfl, hlt, fun j u hu => ?_⟩
  rw [List.getElem?_drop] at hu
  have := hc _ u hu
  rw [← Nat.add_assoc] at this
  exact this

theorem addr_add (b off j : Nat) : (⟨b, off, none⟩ : Addr).add j = ⟨b, off + j, none⟩ := by unfold Addr.add; split <;> simp_all

theorem Try.infoPgpZ : (Try.prog.info? 53).map (fun i => (i.zero, i.size, i.bytes)) = some (some (.pointer none), 1, 8) := by kernel_rfl

/-- A row is added at the end of an own one. -/
theorem wpList_append_rw {ops : Array Oper} {rest : List Oper} {o : Oper} {a : Act} {Q : Exit → Act → World → Prop} (w : World) (hgd : o.guard = none) (s x : Operand) (t e : TypeId) (z : Value) (size bytes : Nat)
    (ho : o.op = .call { callee := .builtin .append, args := #[s, x], argTypes := #[t, t] }) (ht : Try.prog.underlying t = some (.slice e)) (hinf : (Try.prog.info? e).map (fun i => (i.zero, i.size, i.bytes)) = some (some z, size, bytes)) (hzc : z.cells.size = size) (hsz : 0 < size)
    (base : Nat) (v : Value) (n : Nat) (xs : List Value) (hs : a.eval s = v) (hown : w.ownsRow base e size v n xs)
    (vx : Value) (m : Nat) (ys : List Value) (hx : a.eval x = vx) (hsrc : Rw w size vx m ys)
    (h63 : n + m ≤ maxLen) (hbytes : (n + m) * bytes ≤ 140737488355328) (hbase : base ≤ w.heap.size)
    (h : ∀ v' w', w'.ownsRow base e size v' (n + m) (xs ++ ys) → w.grownBy w' v.ownBlock → (vx = nilS → v' = v) → wpList Try.prog ops Q rest (a.put o.dst v') w') : wpList Try.prog ops Q (o :: rest) a w := by
  obtain ⟨i0, hi, hz0, hz1, hz2⟩ := info_parts hinf
  obtain ⟨ax, cx, rfl, h1, h2, h4, h5, h6, h7⟩ := hsrc
  cases ax with
  | none =>
    have hc := h5 rfl
    have hm : m = 0 := by omega
    subst hm
    subst hc
    have hy : ys = [] := List.eq_nil_of_length_eq_zero (by omega)
    subst hy
    refine wpList_append_own_none hgd s x t ho base e i0 size ht hi v n xs hs hown hx ?_
    exact h v w (by simpa using hown) (World.grownBy.refl w _) (fun _ => rfl)
  | some ad =>
    obtain ⟨b, off, rfl, hlt, hc⟩ := h6 ad rfl
    refine wpList_append_own w hgd s x t ho base e i0 z size bytes ht hi hz0 hz1 hz2 hzc hsz v n xs hs hown ⟨b, off, none⟩ m cx ys hx h4 (fun j u hu => by rw [addr_add]; exact hc j u hu) h7 h63 hbytes hbase ?_
    intro v' w' ho' hg' _
    exact h v' w' ho' hg' (fun e => (by cases e))

/-- .. at the end of one that has no room: all in a new row. -/
theorem wpList_append_full {ops : Array Oper} {rest : List Oper} {o : Oper} {a : Act} {Q : Exit → Act → World → Prop} (w : World) (hgd : o.guard = none) (s x : Operand) (t e : TypeId) (z : Value) (size bytes : Nat)
    (ho : o.op = .call { callee := .builtin .append, args := #[s, x], argTypes := #[t, t] }) (ht : Try.prog.underlying t = some (.slice e)) (hinf : (Try.prog.info? e).map (fun i => (i.zero, i.size, i.bytes)) = some (some z, size, bytes)) (hzc : z.cells.size = size) (hsz : 0 < size)
    (ao : Option Addr) (n c : Nat) (xs : List Value) (hs : a.eval s = .slice ao n c) (hrow : Rw w size (.slice ao n c) n xs) (hfull : c = n)
    (vx : Value) (m : Nat) (ys : List Value) (hx : a.eval x = vx) (hsrc : Rw w size vx m ys) (hm : 0 < m)
    (h63 : n + m ≤ maxLen) (hbytes : (n + m) * bytes ≤ 140737488355328)
    (h : ∀ v' w', w'.ownsRow w.heap.size e size v' (n + m) (xs ++ ys) → w.grownBy w' none → wpList Try.prog ops Q rest (a.put o.dst v') w') : wpList Try.prog ops Q (o :: rest) a w := by
  obtain ⟨i0, hi, hz0, hz1, hz2⟩ := info_parts hinf
  obtain ⟨ax, cx, rfl, h1, h2, h4, h5, h6, h7⟩ := hsrc
  obtain ⟨ao', co, e, k1, k2, k4, k5, k6, k7⟩ := hrow
  simp only [Value.slice.injEq] at e
  obtain ⟨rfl, _, rfl⟩ := e
  subst hfull
  cases ax with
  | none => have := h5 rfl; omega
  | some ad =>
    obtain ⟨b, off, rfl, hlt, hc⟩ := h6 ad rfl
    refine wpList_append_grows w hgd s x t ho e i0 z size bytes ht hi hz0 hz1 hz2 hzc hsz ao c c xs hs (fun e => ⟨k5 e, k5 e⟩) k4 (fun b' hb' j u hu => ?_) ⟨b, off, none⟩ m cx ys hx h4 (fun j u hu => by rw [addr_add]; exact hc j u hu) h7 (by omega) h63 hbytes h
    obtain ⟨b2, off2, rfl, _, hc2⟩ := k6 b' hb'
    rw [addr_add]
    exact hc2 j u hu

set_option maxHeartbeats 2000000 in
theorem cutE_any (v : Value) (n : Nat) (cs : List Value) (k : Nat) (w : World) (h : Rw w 2 v n cs) (hk : k ≤ n) (hn : n < 1000000000) :
    Calls Try.prog 28 #[v, .int .i64 k] w fun e w' => (∃ la ra rc, e = .returned (.tuple #[.slice la k k, .slice ra (n - k) rc]) ∧ Rw w' 2 (.slice la k k) k (cs.take (k * 2)) ∧ Rw w' 2 (.slice ra (n - k) rc) (n - k) (cs.drop (k * 2)) ∧ (v = nilS → la = none ∧ ra = none ∧ rc = 0)) ∧ Below w.heap.size w w' := by
  obtain ⟨a, c, rfl, h1, h2, h4, h5, h6, h7⟩ := id h
  have hk' : (k : Int) ≤ (n : Int) := by omega
  have hk0 : (0 : Int) ≤ (k : Int) := by omega
  have h1' : (n : Int) ≤ (c : Int) := by omega
  have h2' : (k : Int) ≤ (c : Int) := by omega
  unfold maxLen at h2
  cases a with
  | none =>
    have hc := h5 rfl
    subst hc
    have hn0 : n = 0 := by omega
    subst hn0
    have hk00 : k = 0 := by omega
    subst hk00
    have hcs : cs = [] := List.eq_nil_of_length_eq_zero (by omega)
    subst hcs
    clear h5 h6 h7 h h4 h1 hk' hk0 h1' h2' hk
    go_enter Try.func28, Try.ntmps28
    go_wp2_with fail
    go_quiet (fail)
    go_wp2_with fail
    go_ret2
    exact ⟨⟨_, _, _, rfl, rw_nil _ _, rw_nil _ _, fun _ => ⟨rfl, rfl, rfl⟩⟩, below_drewN _ _ _⟩
  | some ad =>
    obtain ⟨b, off, rfl, hlt, hc⟩ := h6 ad rfl
    have HT := hid (fun w' (hb : Below w.heap.size w w') => (h.take k k hk (Nat.le_refl _) (by omega)).new hb)
    have HD := hid (fun w' (hb : Below w.heap.size w w') => (h.drop k hk).new hb)
    have HD0 := hid (fun (w' : World) (hb : Below w.heap.size w w') (hck : c = k) => show Rw w' 2 (.slice (some ⟨b, off, none⟩) (n - k) 0) (n - k) (cs.drop (k * 2)) by
      have hnk : n - k = 0 := by omega
      rw [hnk, List.drop_of_length_le (by rw [h4]; exact Nat.mul_le_mul_right _ (by omega))]
      exact ⟨_, 0, rfl, Nat.le_refl _, by unfold maxLen; omega, by simp, fun e => (by cases e), fun ad had => ⟨b, off, (by cases had; rfl), Nat.lt_of_lt_of_le hlt hb.size, fun j u hu => (by simp at hu)⟩, fun u hu => (by cases hu)⟩)
    clear h5 h6 h7 h h4 hc
    go_enter Try.func28, Try.ntmps28
    go_wp2_with fail
    go_quiet (fail)
    go_wp2_with fail
    all_goals (try go_wp2_with fail)
    all_goals go_ret2
    · refine ⟨⟨_, _, _, rfl, ?_, ?_, fun e => (by cases e)⟩, below_drewN _ _ _⟩
      · simpa using HT.out _ (below_drewN _ _ _)
      · simpa using HD0.out _ (below_drewN _ _ _) (by omega)
    · refine ⟨⟨_, _, _, rfl, ?_, ?_, fun e => (by cases e)⟩, below_drewN _ _ _⟩
      · simpa using HT.out _ (below_drewN _ _ _)
      · simpa using HD.out _ (below_drewN _ _ _)

set_option maxHeartbeats 2000000 in
theorem cutP_any (v : Value) (n : Nat) (cs : List Value) (k : Nat) (w : World) (h : Rw w 1 v n cs) (hk : k ≤ n) (hn : n < 1000000000) :
    Calls Try.prog 59 #[v, .int .i64 k] w fun e w' => (∃ la ra rc, e = .returned (.tuple #[.slice la k k, .slice ra (n - k) rc]) ∧ Rw w' 1 (.slice la k k) k (cs.take (k * 1)) ∧ Rw w' 1 (.slice ra (n - k) rc) (n - k) (cs.drop (k * 1)) ∧ (v = nilS → la = none ∧ ra = none ∧ rc = 0)) ∧ Below w.heap.size w w' := by
  obtain ⟨a, c, rfl, h1, h2, h4, h5, h6, h7⟩ := id h
  have hk' : (k : Int) ≤ (n : Int) := by omega
  have hk0 : (0 : Int) ≤ (k : Int) := by omega
  have h1' : (n : Int) ≤ (c : Int) := by omega
  have h2' : (k : Int) ≤ (c : Int) := by omega
  unfold maxLen at h2
  cases a with
  | none =>
    have hc := h5 rfl
    subst hc
    have hn0 : n = 0 := by omega
    subst hn0
    have hk00 : k = 0 := by omega
    subst hk00
    have hcs : cs = [] := List.eq_nil_of_length_eq_zero (by omega)
    subst hcs
    clear h5 h6 h7 h h4 h1 hk' hk0 h1' h2' hk
    go_enter Try.func59, Try.ntmps59
    go_wp2_with fail
    go_quiet (fail)
    go_wp2_with fail
    go_ret2
    exact ⟨⟨_, _, _, rfl, rw_nil _ _, rw_nil _ _, fun _ => ⟨rfl, rfl, rfl⟩⟩, below_drewN _ _ _⟩
  | some ad =>
    obtain ⟨b, off, rfl, hlt, hc⟩ := h6 ad rfl
    have HT := hid (fun w' (hb : Below w.heap.size w w') => (h.take k k hk (Nat.le_refl _) (by omega)).new hb)
    have HD := hid (fun w' (hb : Below w.heap.size w w') => (h.drop k hk).new hb)
    have HD0 := hid (fun (w' : World) (hb : Below w.heap.size w w') (hck : c = k) => show Rw w' 1 (.slice (some ⟨b, off, none⟩) (n - k) 0) (n - k) (cs.drop (k * 1)) by
      have hnk : n - k = 0 := by omega
      rw [hnk, List.drop_of_length_le (by rw [h4]; exact Nat.mul_le_mul_right _ (by omega))]
      exact ⟨_, 0, rfl, Nat.le_refl _, by unfold maxLen; omega, by simp, fun e => (by cases e), fun ad had => ⟨b, off, (by cases had; rfl), Nat.lt_of_lt_of_le hlt hb.size, fun j u hu => (by simp at hu)⟩, fun u hu => (by cases hu)⟩)
    clear h5 h6 h7 h h4 hc
    go_enter Try.func59, Try.ntmps59
    go_wp2_with fail
    go_quiet (fail)
    go_wp2_with fail
    all_goals (try go_wp2_with fail)
    all_goals go_ret2
    · refine ⟨⟨_, _, _, rfl, ?_, ?_, fun e => (by cases e)⟩, below_drewN _ _ _⟩
      · simpa using HT.out _ (below_drewN _ _ _)
      · simpa using HD0.out _ (below_drewN _ _ _) (by omega)
    · refine ⟨⟨_, _, _, rfl, ?_, ?_, fun e => (by cases e)⟩, below_drewN _ _ _⟩
      · simpa using HT.out _ (below_drewN _ _ _)
      · simpa using HD.out _ (below_drewN _ _ _)

set_option maxHeartbeats 2000000 in
theorem scloneE_any (v : Value) (n : Nat) (cs : List Value) (w : World) (h : Rw w 2 v n cs) (hn : n < 1000000000) :
    Calls Try.prog 42 #[v] w fun e w' => ∃ v', e = .returned v' ∧ w'.ownsRow w.heap.size 46 2 v' n cs ∧ (v = nilS → v' = nilS) ∧ Below w.heap.size w w' := by
  obtain ⟨a, c, rfl, h1, h2, h4, h5, h6, h7⟩ := id h
  cases a with
  | none =>
    have hc := h5 rfl
    subst hc
    have hn0 : n = 0 := by omega
    subst hn0
    have hcs : cs = [] := List.eq_nil_of_length_eq_zero (by omega)
    subst hcs
    have hq := fun wx => Lib.run_eql_slice_nil (P := Try.prog) wx 27 46 none 0 0 0 0 Try.underlying27
    go_enter Try.func42, Try.ntmps42
    go_wp2
    go_ret
    exact ⟨_, rfl, World.ownsRow_nil _ _ _ _, fun _ => rfl, Below.refl _ _⟩
  | some ad =>
    have hq := fun wx => Lib.run_eql_slice_nil (P := Try.prog) wx 27 46 (some ad) n c 0 0 Try.underlying27
    have HS := hid (h.new ((Below.refl _ w).alloc (Nat.le_refl _) (.cells #[] 46)))
    clear h h6
    go_enter Try.func42, Try.ntmps42
    go_wp2_with (first | (at_builtin; refine wpList_append_rw _ rfl (.tmp 5) (.tmp 6) 27 46 (.agg #[.slice none 0 0, .slice none 0 0]) 2 48 rfl Try.underlying27 Try.infoEntryZ rfl (by decide) w.heap.size _ 0 [] rfl (World.ownsRow_made w #[] 0 (Nat.le_refl _) (by unfold maxLen; omega) rfl) _ n cs rfl HS.out ?d1 ?d2 ?d3 ?_) | go_in)
    case d1 => unfold maxLen; omega
    case d2 => omega
    case d3 => simp
    intro v' w2 hown2 hg hnil
    obtain ⟨a', c', rfl⟩ : ∃ a' c', v' = .slice a' n c' := by
      rcases hown2.2 with ⟨rfl, e⟩ | ⟨g, cap, cur, rfl, _⟩
      · exact ⟨none, 0, by rw [show n = 0 by omega]⟩
      · exact ⟨_, _, rfl⟩
    have HO := hid hown2
    have HG := hid hg
    clear hown2 hg hnil
    go_wp2
    go_ret
    exact ⟨_, rfl, by simpa using HO.out, fun e => (by cases e), ((Below.refl _ _).alloc (Nat.le_refl _) _).grown HG.out (by simp) (fun q hq => by simp [Value.ownBlock] at hq; omega)⟩

set_option maxHeartbeats 2000000 in
theorem scloneP_any (v : Value) (n : Nat) (cs : List Value) (w : World) (h : Rw w 1 v n cs) (hn : n < 1000000000) :
    Calls Try.prog 43 #[v] w fun e w' => ∃ v', e = .returned v' ∧ w'.ownsRow w.heap.size 53 1 v' n cs ∧ (v = nilS → v' = nilS) ∧ Below w.heap.size w w' := by
  obtain ⟨a, c, rfl, h1, h2, h4, h5, h6, h7⟩ := id h
  cases a with
  | none =>
    have hc := h5 rfl
    subst hc
    have hn0 : n = 0 := by omega
    subst hn0
    have hcs : cs = [] := List.eq_nil_of_length_eq_zero (by omega)
    subst hcs
    have hq := fun wx => Lib.run_eql_slice_nil (P := Try.prog) wx 64 53 none 0 0 0 0 Try.underlying64
    go_enter Try.func43, Try.ntmps43
    go_wp2
    go_ret
    exact ⟨_, rfl, World.ownsRow_nil _ _ _ _, fun _ => rfl, Below.refl _ _⟩
  | some ad =>
    have hq := fun wx => Lib.run_eql_slice_nil (P := Try.prog) wx 64 53 (some ad) n c 0 0 Try.underlying64
    have HS := hid (h.new ((Below.refl _ w).alloc (Nat.le_refl _) (.cells #[] 53)))
    clear h h6
    go_enter Try.func43, Try.ntmps43
    go_wp2_with (first | (at_builtin; refine wpList_append_rw _ rfl (.tmp 5) (.tmp 6) 64 53 (.pointer none) 1 8 rfl Try.underlying64 Try.infoPgpZ rfl (by decide) w.heap.size _ 0 [] rfl (World.ownsRow_made w #[] 0 (Nat.le_refl _) (by unfold maxLen; omega) rfl) _ n cs rfl HS.out ?d1 ?d2 ?d3 ?_) | go_in)
    case d1 => unfold maxLen; omega
    case d2 => omega
    case d3 => simp
    intro v' w2 hown2 hg hnil
    obtain ⟨a', c', rfl⟩ : ∃ a' c', v' = .slice a' n c' := by
      rcases hown2.2 with ⟨rfl, e⟩ | ⟨g, cap, cur, rfl, _⟩
      · exact ⟨none, 0, by rw [show n = 0 by omega]⟩
      · exact ⟨_, _, rfl⟩
    have HO := hid hown2
    have HG := hid hg
    clear hown2 hg hnil
    go_wp2
    go_ret
    exact ⟨_, rfl, by simpa using HO.out, fun e => (by cases e), ((Below.refl _ _).alloc (Nat.le_refl _) _).grown HG.out (by simp) (fun q hq => by simp [Value.ownBlock] at hq; omega)⟩
end Go.Proofs.Ytjfipejfejmlaaa
