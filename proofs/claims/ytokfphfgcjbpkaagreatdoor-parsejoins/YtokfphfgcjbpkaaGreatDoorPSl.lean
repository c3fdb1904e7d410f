/- Slices of elements with several cells, which are appended to; columns, values, items, sets, statements in memory. -/
import Derived.Test.YtokfphfgcjbpkaaGreatDoorPFact
namespace Go.Proofs.YtokfphfgcjbpkaaGreatDoor
open Go.RowKit Go.Shelf
set_option linter.unusedVariables false
set_option linter.unusedSimpArgs false
set_option maxRecDepth 20000

theorem run_append_where {P : Program} (w : World) (base : Nat) (t ty e : TypeId) (i : TypeInfo) (z : Value) (size bytes : Nat) (ht : P.underlying t = some (.slice e)) (hi : P.info? e = some i) (hz : i.zero = some z)
    (hsize : i.size = size) (hby : i.bytes = bytes) (hzs : z.cells.size = size) (hsz : 0 < size)
    (v : Value) (n : Nat) (xs : List Value) (hown : w.ownsRow base e size v n xs)
    (a : Addr) (c : Nat) (news : List Value) (hl : news.length = size) (hnews : ∀ j u, news[j]? = some u → w.cell? (a.add j) = some u) (h1 : ∀ u ∈ news, u.oneCell' = true)
    (h63 : n + 1 ≤ maxLen) (hbytes : (n + 1) * bytes ≤ 140737488355328) (hbase : base ≤ w.heap.size) :
    ∃ v' w', (Builtin.append_ #[t, t] ty #[v, .slice (some a) 1 c]).run P w = .ok v' w' ∧ w'.ownsRow base e size v' (n + 1) (xs ++ news) ∧ w.grownBy w' v.ownBlock ∧
      (v'.ownBlock = v.ownBlock ∨ v'.ownBlock = some w.heap.size) := by
  obtain ⟨v', w', hr, h2, h3, _⟩ := run_append_own (P := P) w base t ty e i z size bytes ht hi hz hsize hby hzs hsz v n xs hown a 1 c news (by omega) hnews h1 h63 hbytes hbase
  refine ⟨v', w', hr, h2, h3, ?_⟩
  subst hsize
  subst hby
  have hsmall : n + 1 ≤ 9223372036854775807 := by simp only [maxLen] at h63; omega
  rcases hown.2 with ⟨rfl, rfl⟩ | ⟨g, cap, cur, rfl, hbg, hg, hnc, hcm, hcs, htake⟩
  · have hr2 := run_append_nil (P := P) w t ty e i z ht hi hz a 1 c news (by omega) hnews (by omega) (by omega) (by have hb := hbytes; simp only [Nat.zero_add] at hb; omega)
    rw [hr2] at hr
    injection hr with e1 e2
    rw [← e1]
    exact .inr rfl
  · by_cases hroom : n + 1 ≤ cap
    · have hfit : n * i.size + news.length ≤ cur.size := by rw [hl, hcs, ← Nat.succ_mul]; exact Nat.mul_le_mul_right _ hroom
      have hr2 := run_append_room (P := P) w t ty e i ht hi g n cap cur hg a 1 c news (by omega) hnews h1 hroom hfit
      rw [hr2] at hr
      injection hr with e1 e2
      rw [← e1]
      exact .inl rfl
    · have holds : ∀ j u, xs[j]? = some u → w.cell? ((⟨g, 0, none⟩ : Addr).add j) = some u := hown.cells (g := g) rfl
      have hr2 := run_append_grow (P := P) w t ty e i z ht hi hz ⟨g, 0, none⟩ n cap xs hown.1 holds a 1 c news (by omega) hnews (by omega) (by omega) (growslice_fits (by omega) hbytes)
      rw [hr2] at hr
      injection hr with e1 e2
      rw [← e1]
      exact .inr rfl

theorem wpList_append_where {P : Program} {ops : Array Oper} {rest : List Oper} {o : Oper} {a : Act} {Q : Exit → Act → World → Prop} (w : World) (hgd : o.guard = none) (s x : Operand) (t : TypeId)
    (ho : o.op = .call { callee := .builtin .append, args := #[s, x], argTypes := #[t, t] })
    (base : Nat) (e : TypeId) (i : TypeInfo) (z : Value) (size bytes : Nat) (ht : P.underlying t = some (.slice e)) (hi : P.info? e = some i) (hz : i.zero = some z)
    (hsize : i.size = size) (hby : i.bytes = bytes) (hzs : z.cells.size = size) (hsz : 0 < size)
    (v : Value) (n : Nat) (xs : List Value) (hs : a.eval s = v) (hown : w.ownsRow base e size v n xs)
    (ad : Addr) (c : Nat) (news : List Value) (hx : a.eval x = .slice (some ad) 1 c) (hl : news.length = size) (hnews : ∀ j u, news[j]? = some u → w.cell? (ad.add j) = some u) (h1 : ∀ u ∈ news, u.oneCell' = true)
    (h63 : n + 1 ≤ maxLen) (hbytes : (n + 1) * bytes ≤ 140737488355328) (hbase : base ≤ w.heap.size)
    (h : ∀ v' w', w'.ownsRow base e size v' (n + 1) (xs ++ news) → w.grownBy w' v.ownBlock → (v'.ownBlock = v.ownBlock ∨ v'.ownBlock = some w.heap.size) → wpList P ops Q rest (a.put o.dst v') w') : wpList P ops Q (o :: rest) a w := by
  obtain ⟨v', w', hr, h2, h3, h4⟩ := run_append_where (P := P) w base t o.type e i z size bytes ht hi hz hsize hby hzs hsz v n xs hown ad c news hl hnews h1 h63 hbytes hbase
  refine wpList_plain hgd fun _ hK => ?_
  unfold Oper.wp execOp
  simp only [ho, resolve, invoke, builtin, Sem.run_bind, Sem.run_pure, Result.andThen_ok, List.map_toArray, List.map_cons, List.map_nil, hs, hx, hr]
  exact hK _ _ (h v' w' h2 h3 h4)

/-- The elements' cells. -/
def Els {α : Type} (z : Nat) (El : (Nat → Prop) → World → α → List Value → Prop) (S : Nat → Prop) (w : World) (xs : List α) (css : List (List Value)) : Prop :=
  css.length = xs.length ∧ ∀ (j : Nat) (x : α) (cs : List Value), xs[j]? = some x → css[j]? = some cs → cs.length = z ∧ El S w x cs

theorem Els.nil {α : Type} {z : Nat} {El : (Nat → Prop) → World → α → List Value → Prop} {S : Nat → Prop} {w : World} : Els z El S w [] [] := ⟨rfl, fun j x cs h => by simp at h⟩

theorem Els.snoc {α : Type} {z : Nat} {El : (Nat → Prop) → World → α → List Value → Prop} {S : Nat → Prop} {w : World} {xs : List α} {css : List (List Value)} (h : Els z El S w xs css) {x : α} {cs : List Value} (hl : cs.length = z) (he : El S w x cs) : Els z El S w (xs ++ [x]) (css ++ [cs]) := by
  obtain ⟨h1, h2⟩ := h
  refine ⟨by simp [h1], fun j y ds hy hd => ?_⟩
  rcases Nat.lt_or_ge j xs.length with hj | hj
  · rw [List.getElem?_append_left hj] at hy
    rw [List.getElem?_append_left (by omega)] at hd
    exact h2 j y ds hy hd
  · rw [List.getElem?_append_right hj] at hy
    rw [List.getElem?_append_right (by omega), h1] at hd
    cases hk : j - xs.length with
    | zero =>
      rw [hk] at hy hd
      simp only [List.getElem?_cons_zero, Option.some.injEq] at hy hd
      subst hy hd
      exact ⟨hl, he⟩
    | succ k => rw [hk] at hy; simp at hy

theorem Els.to {α : Type} {z : Nat} {El : (Nat → Prop) → World → α → List Value → Prop} {S T : Nat → Prop} {w w' : World} {xs : List α} {css : List (List Value)} (h : Els z El S w xs css) (hE : ∀ x cs, El S w x cs → El T w' x cs) : Els z El T w' xs css :=
  ⟨h.1, fun j x cs hx hc => ⟨(h.2 j x cs hx hc).1, hE x cs (h.2 j x cs hx hc).2⟩⟩

theorem flatten_at (z : Nat) : ∀ (css : List (List Value)), (∀ cs ∈ css, cs.length = z) → ∀ (j i : Nat) (cs : List Value) (u : Value), css[j]? = some cs → cs[i]? = some u → css.flatten[j * z + i]? = some u
  | c :: css, h, 0, i, cs, u, hj, hu => by
    simp only [List.getElem?_cons_zero, Option.some.injEq] at hj
    subst hj
    rw [List.flatten_cons, Nat.zero_mul, Nat.zero_add, List.getElem?_append_left (List.getElem?_eq_some_iff.1 hu).1]
    exact hu
  | c :: css, h, j + 1, i, cs, u, hj, hu => by
    have hl := h c (by simp)
    rw [List.flatten_cons, List.getElem?_append_right (by rw [hl, Nat.succ_mul]; omega), hl, show (j + 1) * z + i - z = j * z + i by rw [Nat.succ_mul]; omega]
    exact flatten_at z css (fun x hx => h x (by simp [hx])) j i cs u (by simpa using hj) hu

/-- WHAT A SLICE SHOWS: its elements lie in a block of S. -/
def SlAt {α : Type} (z : Nat) (El : (Nat → Prop) → World → α → List Value → Prop) (S : Nat → Prop) (w : World) (xs : List α) (v : Value) : Prop :=
  ∃ (a : Option Addr) (c : Nat) (css : List (List Value)), v = .slice a xs.length c ∧ xs.length ≤ c ∧ c ≤ maxLen ∧ Els z El S w xs css ∧
    (xs ≠ [] → ∃ b off, a = some ⟨b, off, none⟩ ∧ S b ∧ ∀ (j : Nat) (cs : List Value), css[j]? = some cs → ∀ (i : Nat) (u : Value), cs[i]? = some u → w.cell? ⟨b, off + j * z + i, none⟩ = some u)

theorem SlAt.nil {α : Type} {z : Nat} {El : (Nat → Prop) → World → α → List Value → Prop} {S : Nat → Prop} {w : World} : SlAt z El S w ([] : List α) (.slice none 0 0) :=
  ⟨none, 0, [], rfl, Nat.le_refl _, Nat.zero_le _, Els.nil, fun h => absurd rfl h⟩

theorem SlAt.of_owns {α : Type} {z : Nat} {El : (Nat → Prop) → World → α → List Value → Prop} {S : Nat → Prop} {w : World} {base : Nat} {e : TypeId} {v : Value} {xs : List α} {css : List (List Value)} (hz : 0 < z)
    (h : w.ownsRow base e z v xs.length css.flatten) (hE : Els z El S w xs css) (hS : ∀ b, v.ownBlock = some b → S b) : SlAt z El S w xs v := by
  have hl : ∀ cs ∈ css, cs.length = z := fun cs hc => by
    obtain ⟨j, hj, e⟩ := List.getElem_of_mem hc
    have hx : xs[j]? = some (xs[j]'(by rw [← hE.1]; exact hj)) := List.getElem?_eq_getElem _
    exact (hE.2 j _ cs hx (by rw [List.getElem?_eq_getElem hj, e])).1
  have hc := h
  rcases h.2 with ⟨rfl, hn⟩ | ⟨g, cap, cur, rfl, hb, hg, hnc, hcm, hcs, ht⟩
  · exact ⟨none, 0, css, by rw [hn], by omega, by unfold maxLen; omega, hE, fun hne => absurd (List.eq_nil_of_length_eq_zero hn) hne⟩
  · refine ⟨_, cap, css, rfl, hnc, hcm, hE, fun _ => ⟨g, 0, rfl, hS g rfl, fun j cs hj i u hu => ?_⟩⟩
    have k := hc.cells (g := g) rfl (j * z + i) u (flatten_at z css hl j i cs u hj hu)
    rw [Addr.add_lit, Nat.zero_add] at k
    rw [Nat.zero_add]
    exact k

theorem SlAt.to {α : Type} {z : Nat} {El : (Nat → Prop) → World → α → List Value → Prop} {S R T : Nat → Prop} {w w' : World} {xs : List α} {v : Value} (hz : 0 < z) (h : SlAt z El S w xs v) (hk : Spares R w w') (hS : ∀ b, S b → b < w.heap.size → ¬ R b ∧ T b) (hE : ∀ x cs, El S w x cs → El T w' x cs) : SlAt z El T w' xs v := by
  obtain ⟨a, c, css, h1, h2, h3, h4, h5⟩ := h
  refine ⟨a, c, css, h1, h2, h3, h4.to hE, fun hne => ?_⟩
  obtain ⟨b, off, ha, hb, hc⟩ := h5 hne
  have hlt : b < w.heap.size := by
    cases xs with
    | nil => exact absurd rfl hne
    | cons x l =>
      cases css with
      | nil => have := h4.1; simp at this
      | cons cs css =>
        have := h4.2 0 x cs rfl rfl
        cases cs with
        | nil => have := this.1; simp at this; omega
        | cons u cs => exact World.block_lt_of_cell? w _ (hc 0 (u :: cs) rfl 0 u rfl)
  obtain ⟨h6, h7⟩ := hS b hb hlt
  exact ⟨b, off, ha, h7, fun j cs hj i u hu => hk.cell (hc j cs hj i u hu) h6⟩

theorem SlAt.form {α : Type} {z : Nat} {El : (Nat → Prop) → World → α → List Value → Prop} {S : Nat → Prop} {w : World} {xs : List α} {v : Value} (h : SlAt z El S w xs v) : ∃ a c, v = .slice a xs.length c := by
  obtain ⟨a, c, css, h1, _⟩ := h
  exact ⟨a, c, h1⟩

/-! The elements. -/

def ColE (_ : Nat → Prop) (_ : World) (x : Co) (cs : List Value) : Prop := cs = [.string (str8 x.nm), .int .i64 x.k, .bool x.nn, .bool x.uq]

def VlE (_ : Nat → Prop) (_ : World) (x : Vl) (cs : List Value) : Prop := cs = [.int .i64 x.k, .int .i64 x.n, .string (str8 x.s)]

def VsE (S : Nat → Prop) (w : World) (x : List Vl) (cs : List Value) : Prop := ∃ (aa : Option Addr) (nn cc : Nat), cs = [.slice aa nn cc] ∧ SlAt 3 VlE S w x (.slice aa nn cc)

def ItE (S : Nat → Prop) (w : World) (x : It) (cs : List Value) : Prop := ∃ (aa : Option Addr) (nn cc : Nat), cs = [.int .i64 x.k, .slice aa nn cc] ∧ ArgsAt S w x.xs (.slice aa nn cc)

def SeE (S : Nat → Prop) (w : World) (x : Se) (cs : List Value) : Prop :=
  ∃ (k op : Int) (tb nm : List UInt8) (vk vn : Int) (vs : List UInt8) (ys : List Ex) (aa : Option Addr) (nn cc : Nat), x.e = .mk k op tb nm ⟨vk, vn, vs⟩ ys ∧ cs = [.string (str8 x.nm), .int .i64 k, .int .i64 op, .string (str8 tb), .string (str8 nm), .int .i64 vk, .int .i64 vn, .string (str8 vs), .slice aa nn cc] ∧ ArgsAt S w ys (.slice aa nn cc)

def StE (S : Nat → Prop) (w : World) (x : St) (cs : List Value) : Prop :=
  ∃ (a1 a2 a3 a4 a5 a6 a7 a8 : Option Addr) (n1 n2 n3 n4 n5 n6 n7 n8 c1 c2 c3 c4 c5 c6 c7 c8 : Nat),
    cs = [.int .i64 x.k, .string (str8 x.tb), .slice a1 n1 c1, .string (str8 x.prim), .slice a2 n2 c2, .slice a3 n3 c3, .slice a4 n4 c4, .string (str8 x.jn), .slice a5 n5 c5, .slice a6 n6 c6, .slice a7 n7 c7, .slice a8 n8 c8, .bool x.desc, .int .i64 x.lim] ∧
    SlAt 4 ColE S w x.cols (.slice a1 n1 c1) ∧ SlAt 1 VsE S w x.rows (.slice a2 n2 c2) ∧ SlAt 9 SeE S w x.sets (.slice a3 n3 c3) ∧ SlAt 2 ItE S w x.items (.slice a4 n4 c4) ∧
    ArgsAt S w x.on (.slice a5 n5 c5) ∧ ArgsAt S w x.wh (.slice a6 n6 c6) ∧ ArgsAt S w x.gr (.slice a7 n7 c7) ∧ ArgsAt S w x.od (.slice a8 n8 c8)

theorem VsE.to {S R T : Nat → Prop} {w w' : World} {x : List Vl} {cs : List Value} (h : VsE S w x cs) (hk : Spares R w w') (hS : ∀ b, S b → b < w.heap.size → ¬ R b ∧ T b) : VsE T w' x cs := by
  obtain ⟨aa, nn, cc, h1, h2⟩ := h
  exact ⟨aa, nn, cc, h1, h2.to (by decide) hk hS (fun _ _ e => e)⟩

theorem ItE.to {S R T : Nat → Prop} {w w' : World} {x : It} {cs : List Value} (h : ItE S w x cs) (hk : Spares R w w') (hS : ∀ b, S b → b < w.heap.size → ¬ R b ∧ T b) : ItE T w' x cs := by
  obtain ⟨aa, nn, cc, h1, h2⟩ := h
  exact ⟨aa, nn, cc, h1, h2.to hk hS⟩

theorem SeE.to {S R T : Nat → Prop} {w w' : World} {x : Se} {cs : List Value} (h : SeE S w x cs) (hk : Spares R w w') (hS : ∀ b, S b → b < w.heap.size → ¬ R b ∧ T b) : SeE T w' x cs := by
  obtain ⟨k, op, tb, nm, vk, vn, vs, ys, aa, nn, cc, h1, h2, h3⟩ := h
  exact ⟨k, op, tb, nm, vk, vn, vs, ys, aa, nn, cc, h1, h2, h3.to hk hS⟩

theorem ColE.to {S R T : Nat → Prop} {w w' : World} {x : Co} {cs : List Value} (h : ColE S w x cs) (hk : Spares R w w') (hS : ∀ b, S b → b < w.heap.size → ¬ R b ∧ T b) : ColE T w' x cs := h
theorem VlE.to {S R T : Nat → Prop} {w w' : World} {x : Vl} {cs : List Value} (h : VlE S w x cs) (hk : Spares R w w') (hS : ∀ b, S b → b < w.heap.size → ¬ R b ∧ T b) : VlE T w' x cs := h

theorem StE.to {S R T : Nat → Prop} {w w' : World} {x : St} {cs : List Value} (h : StE S w x cs) (hk : Spares R w w') (hS : ∀ b, S b → b < w.heap.size → ¬ R b ∧ T b) : StE T w' x cs := by
  obtain ⟨a1, a2, a3, a4, a5, a6, a7, a8, n1, n2, n3, n4, n5, n6, n7, n8, c1, c2, c3, c4, c5, c6, c7, c8, h0, h1, h2, h3, h4, h5, h6, h7, h8⟩ := h
  exact ⟨a1, a2, a3, a4, a5, a6, a7, a8, n1, n2, n3, n4, n5, n6, n7, n8, c1, c2, c3, c4, c5, c6, c7, c8, h0, h1.to (by decide) hk hS (fun _ _ e => e), h2.to (by decide) hk hS (fun _ _ e => e.to hk hS), h3.to (by decide) hk hS (fun _ _ e => e.to hk hS), h4.to (by decide) hk hS (fun _ _ e => e.to hk hS), h5.to hk hS, h6.to hk hS, h7.to hk hS, h8.to hk hS⟩

/-- At depth 0, while nothing is wrong. -/
def D0 (r : Rd) : Prop := r.bad = 0 → r.d = 0

theorem D0.after {F : Nat} {α : Type} {p : Pa α} {r : Rd} (hp : Nice false F p) (hG : Good F r) (h : D0 r) : D0 (p r).2 := fun hb => by
  rw [(hp.fine r trivial hG).2.1]
  refine h ?_
  by_cases e : r.bad = 0
  · exact e
  · rw [(hp.mono r e).1] at hb; exact hb

/-- What a method that tells a bool does. -/
def RdsB (F f : Nat) (p : Pa Bool) : Prop :=
  ∀ (g : Nat) (r : Rd) (w : World), RdAt F w g r → Calls Tryz.prog f #[.pointer (some ⟨g, 0, none⟩)] w fun e w' => e = .returned (.bool (p r).1) ∧ RdAt F w' g (p r).2 ∧ Fr g w w'

/-- What a method that reads something with cells does. -/
def RdsX {α : Type} (F : Nat) (El : (Nat → Prop) → World → α → List Value → Prop) (f : Nat) (p : Pa α) : Prop :=
  ∀ (g : Nat) (r : Rd) (w : World), RdAt F w g r → D0 r → Calls Tryz.prog f #[.pointer (some ⟨g, 0, none⟩)] w fun e w' => ∃ cs : List Value, e = .returned (.agg cs.toArray) ∧ El (fun b => w.heap.size ≤ b) w' (p r).1 cs ∧ RdAt F w' g (p r).2 ∧ Fr g w w'

/-- A slice's length. -/
def lenV : Value → Nat
  | .slice _ n _ => n
  | _ => 0

def boolV : Value → Nat
  | .bool true => 1
  | _ => 0

theorem new_at (w : World) (cs : List Value) (e : TypeId) : ∀ (j : Nat) (u : Value), cs[j]? = some u → (w.alloc (.cells cs.toArray e)).cell? ((⟨w.heap.size, 0, none⟩ : Addr).add j) = some u := by
  intro j u hj
  rw [Addr.add_lit, Nat.zero_add, cell_of_row _ _ _ _ _ _ (heap_alloc_new w _)]
  simpa using hj

end Go.Proofs.YtokfphfgcjbpkaaGreatDoor
