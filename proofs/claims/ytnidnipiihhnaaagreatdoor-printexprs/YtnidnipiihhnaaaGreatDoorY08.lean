/- Packed for the hand-in: PSl WPure -/
import Derived.Test.YtnidnipiihhnaaaGreatDoorY07
import Derived.Test.YtnidnipiihhnaaaGreatDoorY06
namespace Go.Proofs.YtnidnipiihhnaaaGreatDoor
open Go.RowKit Go.Shelf
set_option linter.unusedSimpArgs false
set_option linter.unusedVariables false
set_option maxRecDepth 20000
set_option maxHeartbeats 8000000
theorem run_append_where {P : Program} (w : World) (base : Nat) (t ty e : TypeId) (i : TypeInfo) (z : Value) (size bytes : Nat) (ht : P.underlying t = some (.slice e)) (hi : P.info? e = some i) (hz : i.zero = some z)
    (hsize : i.size = size) (hby : i.bytes = bytes) (hzs : z.cells.size = size) (hsz : 0 < size)
    (v : Value) (n : Nat) (xs : List Value) (hown : w.ownsRow base e size v n xs)
    (a : Addr) (c : Nat) (news : List Value) (hl : news.length = size) (hnews : ∀ j u, news[j]? = some u → w.cell? (a.add j) = some u) (h1 : ∀ u ∈ news, u.oneCell' = true)
    (h63 : n + 1 ≤ maxLen) (hbytes : (n + 1) * bytes ≤ 140737488355328) (hbase : base ≤ w.heap.size) :
    ∃ v' w', (Builtin.append_ #[t, t] ty #[v, .slice (some a) 1 c]).run P w = .ok v' w' ∧ w'.ownsRow base e size v' (n + 1) (xs ++ news) ∧ w.grownBy w' v.ownBlock ∧
      (v'.ownBlock = v.ownBlock ∨ v'.ownBlock = some w.heap.size) := by
  obtain ⟨v', w', hr, h2, h3, _⟩ := run_append_own (P := P) w base t ty e i z size bytes ht hi hz hsize hby hzs hsz v n xs hown a 1 c news (by omega) hnews h1 h63 hbytes hbase
  refine ⟨v', w', hr, h2, h3, ?_⟩
  subst hsize
  subst hby
  have hsmall : n + 1 ≤ 9223372036854775807 := by simp only [maxLen] at h63; omega
  rcases hown.2 with ⟨rfl, rfl⟩ | ⟨g, cap, cur, rfl, hbg, hg, hnc, hcm, hcs, htake⟩
  · have hr2 := run_append_nil (P := P) w t ty e i z ht hi hz a 1 c news (by omega) hnews (by omega) (by omega) (by have hb := hbytes; simp only [Nat.zero_add] at hb; omega)
    rw [hr2] at hr
    injection hr with e1 e2
    rw [← e1]
    exact .inr rfl
  · by_cases hroom : n + 1 ≤ cap
    · have hfit : n * i.size + news.length ≤ cur.size := by rw [hl, hcs, ← Nat.succ_mul]; exact Nat.mul_le_mul_right _ hroom
      have hr2 := run_append_room (P := P) w t ty e i ht hi g n cap cur hg a 1 c news (by omega) hnews h1 hroom hfit
      rw [hr2] at hr
      injection hr with e1 e2
      rw [← e1]
      exact .inl rfl
    · have holds : ∀ j u, xs[j]? = some u → w.cell? ((⟨g, 0, none⟩ : Addr).add j) = some u := hown.cells (g := g) rfl
      have hr2 := run_append_grow (P := P) w t ty e i z ht hi hz ⟨g, 0, none⟩ n cap xs hown.1 holds a 1 c news (by omega) hnews (by omega) (by omega) (growslice_fits (by omega) hbytes)
      rw [hr2] at hr
      injection hr with e1 e2
      rw [← e1]
      exact .inr rfl
theorem wpList_append_where {P : Program} {ops : Array Oper} {rest : List Oper} {o : Oper} {a : Act} {Q : Exit → Act → World → Prop} (w : World) (hgd : o.guard = none) (s x : Operand) (t : TypeId)
    (ho : o.op = .call { callee := .builtin .append, args := #[s, x], argTypes := #[t, t] })
    (base : Nat) (e : TypeId) (i : TypeInfo) (z : Value) (size bytes : Nat) (ht : P.underlying t = some (.slice e)) (hi : P.info? e = some i) (hz : i.zero = some z)
    (hsize : i.size = size) (hby : i.bytes = bytes) (hzs : z.cells.size = size) (hsz : 0 < size)
    (v : Value) (n : Nat) (xs : List Value) (hs : a.eval s = v) (hown : w.ownsRow base e size v n xs)
    (ad : Addr) (c : Nat) (news : List Value) (hx : a.eval x = .slice (some ad) 1 c) (hl : news.length = size) (hnews : ∀ j u, news[j]? = some u → w.cell? (ad.add j) = some u) (h1 : ∀ u ∈ news, u.oneCell' = true)
    (h63 : n + 1 ≤ maxLen) (hbytes : (n + 1) * bytes ≤ 140737488355328) (hbase : base ≤ w.heap.size)
    (h : ∀ v' w', w'.ownsRow base e size v' (n + 1) (xs ++ news) → w.grownBy w' v.ownBlock → (v'.ownBlock = v.ownBlock ∨ v'.ownBlock = some w.heap.size) → wpList P ops Q rest (a.put o.dst v') w') : wpList P ops Q (o :: rest) a w := by
  obtain ⟨v', w', hr, h2, h3, h4⟩ := run_append_where (P := P) w base t o.type e i z size bytes ht hi hz hsize hby hzs hsz v n xs hown ad c news hl hnews h1 h63 hbytes hbase
  refine wpList_plain hgd fun _ hK => ?_
  unfold Oper.wp execOp
  simp only [ho, resolve, invoke, builtin, Sem.run_bind, Sem.run_pure, Result.andThen_ok, List.map_toArray, List.map_cons, List.map_nil, hs, hx, hr]
  exact hK _ _ (h v' w' h2 h3 h4)
def Els {α : Type} (z : Nat) (El : (Nat → Prop) → World → α → List Value → Prop) (S : Nat → Prop) (w : World) (xs : List α) (css : List (List Value)) : Prop :=
  css.length = xs.length ∧ ∀ (j : Nat) (x : α) (cs : List Value), xs[j]? = some x → css[j]? = some cs → cs.length = z ∧ El S w x cs
theorem Els.nil {α : Type} {z : Nat} {El : (Nat → Prop) → World → α → List Value → Prop} {S : Nat → Prop} {w : World} : Els z El S w [] [] := ⟨rfl, fun j x cs h => by simp at h⟩
theorem Els.snoc {α : Type} {z : Nat} {El : (Nat → Prop) → World → α → List Value → Prop} {S : Nat → Prop} {w : World} {xs : List α} {css : List (List Value)} (h : Els z El S w xs css) {x : α} {cs : List Value} (hl : cs.length = z) (he : El S w x cs) : Els z El S w (xs ++ [x]) (css ++ [cs]) := by
  obtain ⟨h1, h2⟩ := h
  refine ⟨by simp [h1], fun j y ds hy hd => ?_⟩
  rcases Nat.lt_or_ge j xs.length with hj | hj
  · rw [List.getElem?_append_left hj] at hy
    rw [List.getElem?_append_left (by omega)] at hd
    exact h2 j y ds hy hd
  · rw [List.getElem?_append_right hj] at hy
    rw [List.getElem?_append_right (by omega), h1] at hd
    cases hk : j - xs.length with
    | zero =>
      rw [hk] at hy hd
      simp only [List.getElem?_cons_zero, Option.some.injEq] at hy hd
      subst hy hd
      exact ⟨hl, he⟩
    | succ k => rw [hk] at hy; simp at hy
theorem Els.to {α : Type} {z : Nat} {El : (Nat → Prop) → World → α → List Value → Prop} {S T : Nat → Prop} {w w' : World} {xs : List α} {css : List (List Value)} (h : Els z El S w xs css) (hE : ∀ x cs, El S w x cs → El T w' x cs) : Els z El T w' xs css :=
  ⟨h.1, fun j x cs hx hc => ⟨(h.2 j x cs hx hc).1, hE x cs (h.2 j x cs hx hc).2⟩⟩
theorem flatten_at (z : Nat) : ∀ (css : List (List Value)), (∀ cs ∈ css, cs.length = z) → ∀ (j i : Nat) (cs : List Value) (u : Value), css[j]? = some cs → cs[i]? = some u → css.flatten[j * z + i]? = some u
  | c :: css, h, 0, i, cs, u, hj, hu => by
    simp only [List.getElem?_cons_zero, Option.some.injEq] at hj
    subst hj
    rw [List.flatten_cons, Nat.zero_mul, Nat.zero_add, List.getElem?_append_left (List.getElem?_eq_some_iff.1 hu).1]
    exact hu
  | c :: css, h, j + 1, i, cs, u, hj, hu => by
    have hl := h c (by simp)
    rw [List.flatten_cons, List.getElem?_append_right (by rw [hl, Nat.succ_mul]; omega), hl, show (j + 1) * z + i - z = j * z + i by rw [Nat.succ_mul]; omega]
    exact flatten_at z css (fun x hx => h x (by simp [hx])) j i cs u (by simpa using hj) hu
def SlAt {α : Type} (z : Nat) (El : (Nat → Prop) → World → α → List Value → Prop) (S : Nat → Prop) (w : World) (xs : List α) (v : Value) : Prop :=
  ∃ (a : Option Addr) (c : Nat) (css : List (List Value)), v = .slice a xs.length c ∧ xs.length ≤ c ∧ c ≤ maxLen ∧ Els z El S w xs css ∧
    (xs ≠ [] → ∃ b off, a = some ⟨b, off, none⟩ ∧ S b ∧ ∀ (j : Nat) (cs : List Value), css[j]? = some cs → ∀ (i : Nat) (u : Value), cs[i]? = some u → w.cell? ⟨b, off + j * z + i, none⟩ = some u)
theorem SlAt.nil {α : Type} {z : Nat} {El : (Nat → Prop) → World → α → List Value → Prop} {S : Nat → Prop} {w : World} : SlAt z El S w ([] : List α) (.slice none 0 0) :=
  ⟨none, 0, [], rfl, Nat.le_refl _, Nat.zero_le _, Els.nil, fun h => absurd rfl h⟩
theorem SlAt.of_owns {α : Type} {z : Nat} {El : (Nat → Prop) → World → α → List Value → Prop} {S : Nat → Prop} {w : World} {base : Nat} {e : TypeId} {v : Value} {xs : List α} {css : List (List Value)} (hz : 0 < z)
    (h : w.ownsRow base e z v xs.length css.flatten) (hE : Els z El S w xs css) (hS : ∀ b, v.ownBlock = some b → S b) : SlAt z El S w xs v := by
  have hl : ∀ cs ∈ css, cs.length = z := fun cs hc => by
    obtain ⟨j, hj, e⟩ := List.getElem_of_mem hc
    have hx : xs[j]? = some (xs[j]'(by rw [← hE.1]; exact hj)) := List.getElem?_eq_getElem _
    exact (hE.2 j _ cs hx (by rw [List.getElem?_eq_getElem hj, e])).1
  have hc := h
  rcases h.2 with ⟨rfl, hn⟩ | ⟨g, cap, cur, rfl, hb, hg, hnc, hcm, hcs, ht⟩
  · exact ⟨none, 0, css, by rw [hn], by omega, by unfold maxLen; omega, hE, fun hne => absurd (List.eq_nil_of_length_eq_zero hn) hne⟩
  · refine ⟨_, cap, css, rfl, hnc, hcm, hE, fun _ => ⟨g, 0, rfl, hS g rfl, fun j cs hj i u hu => ?_⟩⟩
    have k := hc.cells (g := g) rfl (j * z + i) u (flatten_at z css hl j i cs u hj hu)
    rw [Addr.add_lit, Nat.zero_add] at k
    rw [Nat.zero_add]
    exact k
theorem SlAt.to {α : Type} {z : Nat} {El : (Nat → Prop) → World → α → List Value → Prop} {S R T : Nat → Prop} {w w' : World} {xs : List α} {v : Value} (hz : 0 < z) (h : SlAt z El S w xs v) (hk : Spares R w w') (hS : ∀ b, S b → b < w.heap.size → ¬ R b ∧ T b) (hE : ∀ x cs, El S w x cs → El T w' x cs) : SlAt z El T w' xs v := by
  obtain ⟨a, c, css, h1, h2, h3, h4, h5⟩ := h
  refine ⟨a, c, css, h1, h2, h3, h4.to hE, fun hne => ?_⟩
  obtain ⟨b, off, ha, hb, hc⟩ := h5 hne
  have hlt : b < w.heap.size := by
    cases xs with
    | nil => exact absurd rfl hne
    | cons x l =>
      cases css with
      | nil => have := h4.1; simp at this
      | cons cs css =>
        have := h4.2 0 x cs rfl rfl
        cases cs with
        | nil => have := this.1; simp at this; omega
        | cons u cs => exact World.block_lt_of_cell? w _ (hc 0 (u :: cs) rfl 0 u rfl)
  obtain ⟨h6, h7⟩ := hS b hb hlt
  exact ⟨b, off, ha, h7, fun j cs hj i u hu => hk.cell (hc j cs hj i u hu) h6⟩
theorem SlAt.form {α : Type} {z : Nat} {El : (Nat → Prop) → World → α → List Value → Prop} {S : Nat → Prop} {w : World} {xs : List α} {v : Value} (h : SlAt z El S w xs v) : ∃ a c, v = .slice a xs.length c := by
  obtain ⟨a, c, css, h1, _⟩ := h
  exact ⟨a, c, h1⟩
def ColE (_ : Nat → Prop) (_ : World) (x : Co) (cs : List Value) : Prop := cs = [.string (str8 x.nm), .int .i64 x.k, .bool x.nn, .bool x.uq]
def VlE (_ : Nat → Prop) (_ : World) (x : Vl) (cs : List Value) : Prop := cs = [.int .i64 x.k, .int .i64 x.n, .string (str8 x.s)]
def VsE (S : Nat → Prop) (w : World) (x : List Vl) (cs : List Value) : Prop := ∃ (aa : Option Addr) (nn cc : Nat), cs = [.slice aa nn cc] ∧ SlAt 3 VlE S w x (.slice aa nn cc)
def ItE (S : Nat → Prop) (w : World) (x : It) (cs : List Value) : Prop := ∃ (aa : Option Addr) (nn cc : Nat), cs = [.int .i64 x.k, .slice aa nn cc] ∧ ArgsAt S w x.xs (.slice aa nn cc)
def SeE (S : Nat → Prop) (w : World) (x : Se) (cs : List Value) : Prop :=
  ∃ (k op : Int) (tb nm : List UInt8) (vk vn : Int) (vs : List UInt8) (ys : List Ex) (aa : Option Addr) (nn cc : Nat), x.e = .mk k op tb nm ⟨vk, vn, vs⟩ ys ∧ cs = [.string (str8 x.nm), .int .i64 k, .int .i64 op, .string (str8 tb), .string (str8 nm), .int .i64 vk, .int .i64 vn, .string (str8 vs), .slice aa nn cc] ∧ ArgsAt S w ys (.slice aa nn cc)
def StE (S : Nat → Prop) (w : World) (x : St) (cs : List Value) : Prop :=
  ∃ (a1 a2 a3 a4 a5 a6 a7 a8 : Option Addr) (n1 n2 n3 n4 n5 n6 n7 n8 c1 c2 c3 c4 c5 c6 c7 c8 : Nat),
    cs = [.int .i64 x.k, .string (str8 x.tb), .slice a1 n1 c1, .string (str8 x.prim), .slice a2 n2 c2, .slice a3 n3 c3, .slice a4 n4 c4, .string (str8 x.jn), .slice a5 n5 c5, .slice a6 n6 c6, .slice a7 n7 c7, .slice a8 n8 c8, .bool x.desc, .int .i64 x.lim] ∧
    SlAt 4 ColE S w x.cols (.slice a1 n1 c1) ∧ SlAt 1 VsE S w x.rows (.slice a2 n2 c2) ∧ SlAt 9 SeE S w x.sets (.slice a3 n3 c3) ∧ SlAt 2 ItE S w x.items (.slice a4 n4 c4) ∧
    ArgsAt S w x.on (.slice a5 n5 c5) ∧ ArgsAt S w x.wh (.slice a6 n6 c6) ∧ ArgsAt S w x.gr (.slice a7 n7 c7) ∧ ArgsAt S w x.od (.slice a8 n8 c8)
theorem VsE.to {S R T : Nat → Prop} {w w' : World} {x : List Vl} {cs : List Value} (h : VsE S w x cs) (hk : Spares R w w') (hS : ∀ b, S b → b < w.heap.size → ¬ R b ∧ T b) : VsE T w' x cs := by
  obtain ⟨aa, nn, cc, h1, h2⟩ := h
  exact ⟨aa, nn, cc, h1, h2.to (by decide) hk hS (fun _ _ e => e)⟩
theorem ItE.to {S R T : Nat → Prop} {w w' : World} {x : It} {cs : List Value} (h : ItE S w x cs) (hk : Spares R w w') (hS : ∀ b, S b → b < w.heap.size → ¬ R b ∧ T b) : ItE T w' x cs := by
  obtain ⟨aa, nn, cc, h1, h2⟩ := h
  exact ⟨aa, nn, cc, h1, h2.to hk hS⟩
theorem SeE.to {S R T : Nat → Prop} {w w' : World} {x : Se} {cs : List Value} (h : SeE S w x cs) (hk : Spares R w w') (hS : ∀ b, S b → b < w.heap.size → ¬ R b ∧ T b) : SeE T w' x cs := by
  obtain ⟨k, op, tb, nm, vk, vn, vs, ys, aa, nn, cc, h1, h2, h3⟩ := h
  exact ⟨k, op, tb, nm, vk, vn, vs, ys, aa, nn, cc, h1, h2, h3.to hk hS⟩
theorem ColE.to {S R T : Nat → Prop} {w w' : World} {x : Co} {cs : List Value} (h : ColE S w x cs) (hk : Spares R w w') (hS : ∀ b, S b → b < w.heap.size → ¬ R b ∧ T b) : ColE T w' x cs := h
theorem VlE.to {S R T : Nat → Prop} {w w' : World} {x : Vl} {cs : List Value} (h : VlE S w x cs) (hk : Spares R w w') (hS : ∀ b, S b → b < w.heap.size → ¬ R b ∧ T b) : VlE T w' x cs := h
theorem StE.to {S R T : Nat → Prop} {w w' : World} {x : St} {cs : List Value} (h : StE S w x cs) (hk : Spares R w w') (hS : ∀ b, S b → b < w.heap.size → ¬ R b ∧ T b) : StE T w' x cs := by
  obtain ⟨a1, a2, a3, a4, a5, a6, a7, a8, n1, n2, n3, n4, n5, n6, n7, n8, c1, c2, c3, c4, c5, c6, c7, c8, h0, h1, h2, h3, h4, h5, h6, h7, h8⟩ := h
  exact ⟨a1, a2, a3, a4, a5, a6, a7, a8, n1, n2, n3, n4, n5, n6, n7, n8, c1, c2, c3, c4, c5, c6, c7, c8, h0, h1.to (by decide) hk hS (fun _ _ e => e), h2.to (by decide) hk hS (fun _ _ e => e.to hk hS), h3.to (by decide) hk hS (fun _ _ e => e.to hk hS), h4.to (by decide) hk hS (fun _ _ e => e.to hk hS), h5.to hk hS, h6.to hk hS, h7.to hk hS, h8.to hk hS⟩
def D0 (r : Rd) : Prop := r.bad = 0 → r.d = 0
theorem D0.after {F : Nat} {α : Type} {p : Pa α} {r : Rd} (hp : Nice false F p) (hG : Good F r) (h : D0 r) : D0 (p r).2 := fun hb => by
  rw [(hp.fine r trivial hG).2.1]
  refine h ?_
  by_cases e : r.bad = 0
  · exact e
  · rw [(hp.mono r e).1] at hb; exact hb
end Go.Proofs.YtnidnipiihhnaaaGreatDoor
namespace Go.Proofs.YtnidnipiihhnaaaGreatDoor
set_option linter.unusedSimpArgs false
set_option linter.unusedVariables false
set_option maxHeartbeats 8000000
def nameOk (s : List UInt8) : Bool := decide (0 < s.length) && (decide (s.length ≤ 16) && (inS lowsB (s.headD 0) && decide (row (inS nameB) s = s.length)))
def valOk (v : Vl) : Bool := decide (rightV v = 0) && decide (-9223372036854775807 ≤ v.n ∧ v.n ≤ 9223372036854775807)
def fxT (s : List UInt8) : Tk := if 65 ≤ s.headD 0 ∧ s.headD 0 ≤ 90 then ⟨2, s, 0, 0⟩ else ⟨5, s, 0, 0⟩
def nmT (s : List UInt8) : Tk := ⟨1, s, 0, 0⟩
def nuT (n : Int) : Tk := ⟨3, [], n, 0⟩
def txT (s : List UInt8) : Tk := ⟨4, s, 0, 0⟩
inductive Tm where
  | val (v : Vl)
  | col (t n : List UInt8)
  | op (o : Int) (a b : Tm)
  | not (a : Tm)
  | neg (a : Tm)
  | nul (a : Tm)
  | nnul (a : Tm)
def Tm.ex : Tm → Ex
  | .val v => exVal v
  | .col t n => exCol t n
  | .op o a b => exOp o a.ex b.ex
  | .not a => exOf 4 a.ex
  | .neg a => exOf 5 a.ex
  | .nul a => exOf 6 a.ex
  | .nnul a => exOf 4 (exOf 6 a.ex)
def opTab : List (List UInt8 × Nat) := [([], 0), ([79, 82], 0), ([65, 78, 68], 1), ([61], 3), ([60, 62], 3), ([60], 3), ([60, 61], 3), ([62], 3), ([62, 61], 3), ([43], 4), ([45], 4), ([42], 5), ([47], 5), ([37], 5)]
def opTx (o : Int) : List UInt8 := (opTab.getD o.toNat ([], 0)).1
def opLv (o : Int) : Nat := (opTab.getD o.toNat ([], 0)).2
def opL (o : Int) : Nat := if opLv o = 3 then 4 else opLv o
def Tm.isNul : Tm → Bool
  | .nul _ => true
  | _ => false
def Tm.isNum : Tm → Bool
  | .val v => decide (v.k = 1) && decide (0 ≤ v.n)
  | _ => false
def Tm.lv : Tm → Nat
  | .op o _ _ => opLv o
  | .nul _ => 3
  | .nnul _ => 3
  | .not _ => 2
  | _ => 6
def litK (v : Vl) : List Tk := if v.k = 2 then [txT v.s] else if v.k = 0 then [fxT [78, 85, 76, 76]] else if v.n < 0 then [fxT [45], nuT (-v.n)] else [nuT v.n]
def atK (l lv : Nat) (ts : List Tk) : List Tk := if l ≤ lv then ts else fxT [40] :: (ts ++ [fxT [41]])
def atD (l lv d : Nat) : Nat := if l ≤ lv then d else d + 1
def negL (a : Tm) : Nat := if a.isNum = true then 7 else 6
def isK : Tk := fxT [73, 83]
def notK : Tk := fxT [78, 79, 84]
def nulK : Tk := fxT [78, 85, 76, 76]
def Tm.tk : Tm → List Tk
  | .val v => litK v
  | .col t n => if t = [] then [nmT n] else [nmT t, fxT [46], nmT n]
  | .op o a b => atK (opL o) a.lv a.tk ++ fxT (opTx o) :: atK (opLv o + 1) b.lv b.tk
  | .not a => notK :: atK 2 a.lv a.tk
  | .neg a => fxT [45] :: atK (negL a) a.lv a.tk
  | .nul a => atK 4 a.lv a.tk ++ [isK, nulK]
  | .nnul a => atK 4 a.lv a.tk ++ [isK, notK, nulK]
def Tm.dp : Tm → Nat
  | .val _ => 0
  | .col _ _ => 0
  | .op o a b => max (atD (opL o) a.lv a.dp) (atD (opLv o + 1) b.lv b.dp)
  | .not a => atD 2 a.lv a.dp + 1
  | .neg a => atD (negL a) a.lv a.dp + 1
  | .nul a => atD 4 a.lv a.dp
  | .nnul a => atD 4 a.lv a.dp
def Tm.ok : Tm → Prop
  | .val v => valOk v = true
  | .col t n => nameOk n = true ∧ (t = [] ∨ nameOk t = true)
  | .op o a b => 1 ≤ o ∧ o ≤ 13 ∧ a.ok ∧ b.ok
  | .not a => a.isNul = false ∧ a.ok
  | .neg a => a.ok
  | .nul a => a.ok
  | .nnul a => a.ok
def Tm.sz : Tm → Nat
  | .val _ => 1
  | .col _ _ => 1
  | .op _ a b => a.sz + b.sz + 1
  | .not a => a.sz + 1
  | .neg a => a.sz + 1
  | .nul a => a.sz + 1
  | .nnul a => a.sz + 2
theorem atK_len (l lv : Nat) (ts : List Tk) : ts.length ≤ (atK l lv ts).length ∧ (atK l lv ts).length ≤ ts.length + 2 := by
  unfold atK
  split
  · omega
  · simp only [List.length_cons, List.length_append, List.length_nil]; omega
theorem litK_len (v : Vl) : 1 ≤ (litK v).length ∧ (litK v).length ≤ 2 := by
  unfold litK
  split
  · simp
  · split
    · simp
    · split <;> simp
theorem sz_pos (t : Tm) : 1 ≤ t.sz := by cases t <;> simp [Tm.sz]
theorem tk_len (t : Tm) : 1 ≤ t.tk.length ∧ t.tk.length + 2 ≤ 8 * t.sz := by
  induction t with
  | val v => have := litK_len v; simp only [Tm.tk, Tm.sz]; omega
  | col t n => simp only [Tm.tk, Tm.sz]; split <;> simp
  | op o a b ha hb =>
    have h1 := atK_len (opL o) a.lv a.tk
    have h2 := atK_len (opLv o + 1) b.lv b.tk
    simp only [Tm.tk, Tm.sz, List.length_append, List.length_cons]
    omega
  | not a ha => have h1 := atK_len 2 a.lv a.tk; simp only [Tm.tk, Tm.sz, List.length_cons]; omega
  | neg a ha => have h1 := atK_len (negL a) a.lv a.tk; simp only [Tm.tk, Tm.sz, List.length_cons]; omega
  | nul a ha => have h1 := atK_len 4 a.lv a.tk; simp only [Tm.tk, Tm.sz, List.length_append, List.length_cons, List.length_nil]; omega
  | nnul a ha => have h1 := atK_len 4 a.lv a.tk; simp only [Tm.tk, Tm.sz, List.length_append, List.length_cons, List.length_nil]; omega
theorem atD_le (l lv d : Nat) : d ≤ atD l lv d ∧ atD l lv d ≤ d + 1 := by unfold atD; split <;> omega
theorem dp_le (t : Tm) : t.dp + 2 ≤ 2 * t.sz := by
  induction t with
  | val v => simp [Tm.dp, Tm.sz]
  | col t n => simp [Tm.dp, Tm.sz]
  | op o a b ha hb =>
    have h1 := atD_le (opL o) a.lv a.dp
    have h2 := atD_le (opLv o + 1) b.lv b.dp
    have h3 := sz_pos a
    have h4 := sz_pos b
    simp only [Tm.dp, Tm.sz]
    omega
  | not a ha => have h1 := atD_le 2 a.lv a.dp; simp only [Tm.dp, Tm.sz]; omega
  | neg a ha => have h1 := atD_le (negL a) a.lv a.dp; simp only [Tm.dp, Tm.sz]; omega
  | nul a ha => have h1 := atD_le 4 a.lv a.dp; simp only [Tm.dp, Tm.sz]; omega
  | nnul a ha => have h1 := atD_le 4 a.lv a.dp; simp only [Tm.dp, Tm.sz]; omega
def Pl (F n : Nat) : Nat → Pa Ex
  | 0 => exprQ F (lev F n)
  | 1 => andP F (lev F n)
  | 2 => notQ F (lev F n)
  | 3 => testP (sumP F (lev F n))
  | 4 => sumP F (lev F n)
  | 5 => termP F (lev F n)
  | _ => factorP (lev F n).fc (lev F n).ex
theorem val_kind {v : Vl} (hv : valOk v = true) : (v.k = 2 ∧ v.n = 0 ∧ v.s.length ≤ 40) ∨ (v.k = 0 ∧ v.n = 0 ∧ v.s = []) ∨ (v.k = 1 ∧ v.s = [] ∧ -9223372036854775807 ≤ v.n ∧ v.n ≤ 9223372036854775807) := by
  unfold valOk at hv
  simp only [Bool.and_eq_true, decide_eq_true_eq] at hv
  obtain ⟨hr, hm⟩ := hv
  unfold rightV at hr
  by_cases he : eqv v (namedV v) = false
  · rw [if_pos he] at hr; cases hr
  · rw [if_neg he] at hr
    have he := eqv_iff.1 (by simpa using he)
    have hlen : v.s.length ≤ 40 := by
      by_cases h : 40 < v.s.length
      · rw [if_pos h] at hr; cases hr
      · omega
    unfold namedV at he
    by_cases h1 : v.k = 1
    · rw [if_pos h1] at he; exact .inr (.inr ⟨h1, congrArg Vl.s he, hm⟩)
    · rw [if_neg h1] at he
      by_cases h2 : v.k = 2
      · rw [if_pos h2] at he; exact .inl ⟨h2, congrArg Vl.n he, hlen⟩
      · rw [if_neg h2] at he; exact .inr (.inl ⟨congrArg Vl.k he, congrArg Vl.n he, congrArg Vl.s he⟩)
theorem op_tab (o : Int) (h1 : 1 ≤ o) (h2 : o ≤ 13) : o = 1 ∨ o = 2 ∨ o = 3 ∨ o = 4 ∨ o = 5 ∨ o = 6 ∨ o = 7 ∨ o = 8 ∨ o = 9 ∨ o = 10 ∨ o = 11 ∨ o = 12 ∨ o = 13 := by omega
theorem op_lv (o : Int) (h1 : 1 ≤ o) (h2 : o ≤ 13) : opLv o = 0 ∨ opLv o = 1 ∨ opLv o = 3 ∨ opLv o = 4 ∨ opLv o = 5 := by
  rcases op_tab o h1 h2 with rfl | rfl | rfl | rfl | rfl | rfl | rfl | rfl | rfl | rfl | rfl | rfl | rfl <;> decide
theorem lv_le (t : Tm) (hok : t.ok) : t.lv ≤ 6 := by
  cases t with
  | op o a b => have := op_lv o hok.1 hok.2.1; show opLv o ≤ 6; omega
  | _ => simp [Tm.lv]
end Go.Proofs.YtnidnipiihhnaaaGreatDoor
