/- Packed for the hand-in: LTok Keep PPure PGram -/
import Derived.Test.YtnidnipiihhnaaaGreatDoorY04
import Derived.Test.YtnidnipiihhnaaaGreatDoorY05
import Derived.Laws.OwnMore
import Derived.Test.YtnidnipiihhnaaaGreatDoorY01
namespace Go.Proofs.YtnidnipiihhnaaaGreatDoor
open Go.RowKit Go.Shelf
set_option linter.unusedSimpArgs false
set_option linter.unusedVariables false
set_option maxRecDepth 20000
set_option maxHeartbeats 8000000
def tc (x : Tk) : List Value := [.int .i64 x.k, .string (str8 x.s), .int .i64 x.n, .int .i64 x.p]
def Toks (B : Nat) (w : World) (v : Value) (xs : List Tk) : Prop :=
  ∃ a c, v = .slice a xs.length c ∧ xs.length ≤ c ∧ c ≤ maxLen ∧
    (xs ≠ [] → ∃ b off, a = some ⟨b, off, none⟩ ∧ b < B ∧ ∀ j x, xs[j]? = some x → w.cell? ⟨b, off + j * 4, none⟩ = some (.int .i64 x.k) ∧ w.cell? ⟨b, off + j * 4 + 1, none⟩ = some (.string (str8 x.s)) ∧ w.cell? ⟨b, off + j * 4 + 2, none⟩ = some (.int .i64 x.n) ∧ w.cell? ⟨b, off + j * 4 + 3, none⟩ = some (.int .i64 x.p))
theorem Toks.below {B : Nat} {w w' : World} {v : Value} {xs : List Tk} (h : Toks B w v xs) (hb : Below B w w') : Toks B w' v xs := by
  obtain ⟨a, c, hv, h1, h2, h3⟩ := h
  refine ⟨a, c, hv, h1, h2, fun hne => ?_⟩
  obtain ⟨b, off, ha, hlt, hc⟩ := h3 hne
  refine ⟨b, off, ha, hlt, fun j x hx => ?_⟩
  obtain ⟨c0, c1, c2, c3⟩ := hc j x hx
  exact ⟨(hb.cell (p := ⟨b, off + j * 4, none⟩) hlt).trans c0, (hb.cell (p := ⟨b, off + j * 4 + 1, none⟩) hlt).trans c1, (hb.cell (p := ⟨b, off + j * 4 + 2, none⟩) hlt).trans c2, (hb.cell (p := ⟨b, off + j * 4 + 3, none⟩) hlt).trans c3⟩
theorem Toks.mono {B B' : Nat} {w : World} {v : Value} {xs : List Tk} (h : Toks B w v xs) (hB : B ≤ B') : Toks B' w v xs := by
  obtain ⟨a, c, hv, h1, h2, h3⟩ := h
  refine ⟨a, c, hv, h1, h2, fun hne => ?_⟩
  obtain ⟨b, off, ha, hlt, hc⟩ := h3 hne
  exact ⟨b, off, ha, by omega, hc⟩
theorem Toks.on {w w' : World} {v : Value} {xs : List Tk} (h : Toks w.heap.size w v xs) (hb : Below w.heap.size w w') : Toks w'.heap.size w' v xs := (h.below hb).mono hb.size
theorem grown_of_belowL {w w' : World} (h : Below w.heap.size w w') : w.grownBy w' none := ⟨h.os, h.tape, h.output, h.size, fun k hk _ => h.block k hk⟩
theorem owns_onL {w w' : World} {B e z n : Nat} {v : Value} {xs : List Value} (h : w.ownsRow B e z v n xs) (hb : Below w.heap.size w w') : w'.ownsRow B e z v n xs :=
  h.kept (grown_of_belowL hb) (by cases v.ownBlock <;> simp)
def tcs (xs : List Tk) : List Value := xs.flatMap tc
theorem tcs_length (xs : List Tk) : (tcs xs).length = xs.length * 4 := by
  induction xs with
  | nil => rfl
  | cons x xs ih => rw [show tcs (x :: xs) = tc x ++ tcs xs from rfl, List.length_append, ih]; simp [tc]; omega
theorem tcs_at : ∀ (xs : List Tk) (j : Nat) (x : Tk), xs[j]? = some x → (tcs xs)[j * 4]? = some (.int .i64 x.k) ∧ (tcs xs)[j * 4 + 1]? = some (.string (str8 x.s)) ∧ (tcs xs)[j * 4 + 2]? = some (.int .i64 x.n) ∧ (tcs xs)[j * 4 + 3]? = some (.int .i64 x.p)
  | y :: xs, 0, x, h => by
    simp only [List.getElem?_cons_zero, Option.some.injEq] at h
    subst h
    exact ⟨rfl, rfl, rfl, rfl⟩
  | y :: xs, j + 1, x, h => by
    have ih := tcs_at xs j x (by simpa using h)
    rw [show tcs (y :: xs) = tc y ++ tcs xs from rfl]
    have e : ∀ i, (tc y ++ tcs xs)[(j + 1) * 4 + i]? = (tcs xs)[j * 4 + i]? := fun i => by
      rw [List.getElem?_append_right (by simp [tc]; omega)]
      congr 1
      simp [tc]
      omega
    exact ⟨(e 0).trans ih.1, (e 1).trans ih.2.1, (e 2).trans ih.2.2.1, (e 3).trans ih.2.2.2⟩
theorem toks_of_owns {w : World} {B n : Nat} {v : Value} {xs : List Tk} (h : w.ownsRow B 119 4 v n (tcs xs)) : n = xs.length ∧ Toks w.heap.size w v xs := by
  have hl : n = xs.length := by have := h.1; rw [tcs_length] at this; omega
  subst hl
  refine ⟨rfl, ?_⟩
  have hc := h
  rcases h.2 with ⟨rfl, hn⟩ | ⟨g, cap, cur, rfl, hb, hg, hnc, hcm, hcs, ht⟩
  · exact ⟨none, 0, by rw [hn], by omega, by unfold maxLen; omega, fun hne => absurd (List.eq_nil_of_length_eq_zero hn) hne⟩
  · refine ⟨_, cap, rfl, hnc, hcm, fun _ => ⟨g, 0, rfl, (Array.getElem?_eq_some_iff.1 hg).1, fun j x hx => ?_⟩⟩
    have k := hc.cells (g := g) rfl
    have at' : ∀ i u, (tcs xs)[i]? = some u → w.cell? ⟨g, i, none⟩ = some u := fun i u hi => by
      have := k i u hi
      rwa [Addr.add_lit, Nat.zero_add] at this
    obtain ⟨c0, c1, c2, c3⟩ := tcs_at xs j x hx
    rw [Nat.zero_add]
    exact ⟨at' _ _ c0, at' _ _ c1, at' _ _ c2, at' _ _ c3⟩
theorem Tryz.infoTok : (Tryz.prog.info? 119).map (fun i => (i.zero, i.size, i.bytes)) = some (some (.agg #[.int .i64 0, .string ⟨#[]⟩, .int .i64 0, .int .i64 0]), 4, 40) := by kernel_rfl
theorem cells2 {w : World} {g : Nat} {a b : Value} {t : TypeId} (h : w.heap[g]? = some (.cells #[a, b] t)) :
    w.cell? ⟨g, 0, none⟩ = some a ∧ w.cell? ⟨g, 1, none⟩ = some b ∧ ∀ i, w.frozen? ⟨g, i, none⟩ = false :=
  ⟨by rw [cell_row _ _ _ _ _ _ h]; rfl, by rw [cell_row _ _ _ _ _ _ h]; rfl, fun i => by simp [World.frozen?, h]⟩
end Go.Proofs.YtnidnipiihhnaaaGreatDoor
namespace Go.Proofs.YtnidnipiihhnaaaGreatDoor
open Go.RowKit
set_option linter.unusedVariables false
set_option maxRecDepth 20000
set_option maxHeartbeats 8000000
structure Spares (S : Nat → Prop) (w w' : World) : Prop where
  os : w'.os = w.os
  tape : w'.tape = w.tape
  output : w'.output = w.output
  size : w.heap.size ≤ w'.heap.size
  block : ∀ k, k < w.heap.size → ¬ S k → w'.heap[k]? = w.heap[k]?
theorem Spares.refl (S : Nat → Prop) (w : World) : Spares S w w := ⟨rfl, rfl, rfl, Nat.le_refl _, fun _ _ _ => rfl⟩
theorem Spares.andThen {S T : Nat → Prop} {a b c : World} (h : Spares S a b) (k : Spares T b c) (hT : ∀ i, T i → S i ∨ a.heap.size ≤ i) : Spares S a c :=
  ⟨k.os.trans h.os, k.tape.trans h.tape, k.output.trans h.output, Nat.le_trans h.size k.size, fun i hi hS =>
    (k.block i (Nat.lt_of_lt_of_le hi h.size) (fun ht => by rcases hT i ht with h1 | h1; exact hS h1; omega)).trans (h.block i hi hS)⟩
theorem Spares.mono {S T : Nat → Prop} {a b : World} (h : Spares S a b) (hT : ∀ i, S i → T i) : Spares T a b :=
  ⟨h.os, h.tape, h.output, h.size, fun i hi hS => h.block i hi fun hs => hS (hT i hs)⟩
theorem Spares.of_grown {S : Nat → Prop} {w w' : World} {row : Option Nat} (hg : w.grownBy w' row) (hr : ∀ k, row = some k → S k) : Spares S w w' :=
  ⟨hg.os, hg.tape, hg.output, hg.size, fun k hk hS => hg.block k hk fun e => hS (hr k e.symm)⟩
theorem Spares.of_below {S : Nat → Prop} {w w' : World} {B : Nat} (h : Below B w w') (hB : ∀ k, B ≤ k → k < w.heap.size → S k) : Spares S w w' :=
  ⟨h.os, h.tape, h.output, h.size, fun k hk hS => h.block k (Nat.lt_of_not_le fun hb => hS (hB k hb hk))⟩
theorem Spares.of_new {S : Nat → Prop} {w w' : World} (h : Below w.heap.size w w') : Spares S w w' := Spares.of_below h (fun k h1 h2 => by omega)
theorem Spares.below {S : Nat → Prop} {w w' : World} {B : Nat} (h : Spares S w w') (hS : ∀ i, S i → B ≤ i) (hB : B ≤ w.heap.size) : Below B w w' :=
  ⟨h.os, h.tape, h.output, h.size, fun k hk => h.block k (by omega) fun hs => by have := hS k hs; omega⟩
theorem Spares.cell {S : Nat → Prop} {w w' : World} (h : Spares S w w') {p : Addr} {v : Value} (hc : w.cell? p = some v) (hS : ¬ S p.block) : w'.cell? p = some v := by
  rw [World.cell?_of_block (w := w) (h.block p.block (World.block_lt_of_cell? w p hc) hS)]
  exact hc
theorem Spares.row {S : Nat → Prop} {w w' : World} (h : Spares S w w') {B e s n : Nat} {v : Value} {xs : List Value} (ho : w.ownsRow B e s v n xs) (hS : ∀ g, v.ownBlock = some g → ¬ S g) : w'.ownsRow B e s v n xs := by
  refine ⟨ho.1, ?_⟩
  rcases ho.2 with h0 | ⟨g, cap, cur, rfl, hB, hg, r⟩
  · exact .inl h0
  · exact .inr ⟨g, cap, cur, rfl, hB, by rw [h.block g (Array.getElem?_eq_some_iff.1 hg).1 (hS g rfl)]; exact hg, r⟩
theorem Shows.keeps {S : Nat → Prop} {B : Nat} {w w' : World} {v : Value} {bs : List UInt8} (h : Shows B w v bs) (hk : Spares S w w') (hS : ∀ i, i < B → ¬ S i) : Shows B w' v bs := by
  obtain ⟨a, c, hv, h1, h2, hn, h3⟩ := h
  refine ⟨a, c, hv, h1, h2, hn, fun hne => ?_⟩
  obtain ⟨b, off, ha, hlt, hc⟩ := h3 hne
  exact ⟨b, off, ha, hlt, fun j hj => hk.cell (hc j hj) (hS b hlt)⟩
theorem Shows.len {B : Nat} {w : World} {v : Value} {bs : List UInt8} (h : Shows B w v bs) : bs.length ≤ maxLen := by
  obtain ⟨a, c, hv, h1, h2, _⟩ := h
  omega
end Go.Proofs.YtnidnipiihhnaaaGreatDoor
namespace Go.Proofs.YtnidnipiihhnaaaGreatDoor
set_option linter.unusedSimpArgs false
set_option linter.unusedVariables false
set_option maxHeartbeats 8000000
structure Rd where
  ts : List Tk
  d : Int
  bad : Int
  bp : Int
abbrev Pa (α : Type) := Rd → α × Rd
def retP {α : Type} (a : α) : Pa α := fun r => (a, r)
def bindP {α β : Type} (p : Pa α) (q : α → Pa β) : Pa β := fun r => q (p r).1 (p r).2
def nowR (r : Rd) : Tk := if r.bad = 0 then r.ts.headD zTk else zTk
def isR (t : List UInt8) (r : Rd) : Bool := ((nowR r).k == 2 || (nowR r).k == 5) && (nowR r).s == t
def nextR (r : Rd) : Rd := { r with ts := r.ts.tail }
def failR (e : Int) (r : Rd) : Rd := if r.bad = 0 then { r with bad := e, bp := (nowR r).p } else r
def behindR (r : Rd) : Tk := r.ts.tail.headD zTk
def ifP {α : Type} (t : List UInt8) (yes no : Pa α) : Pa α := fun r => if isR t r = true then yes (nextR r) else no r
def skipP (t : List UInt8) : Pa Bool := ifP t (retP true) (retP false)
def failP (e : Int) : Pa Unit := fun r => ((), failR e r)
def mustP (t : List UInt8) : Pa Unit := ifP t (retP ()) (failP 4)
def isNameP : Pa Bool := fun r => ((nowR r).k == 1, r)
def nameP : Pa (List UInt8) := fun r => if (nowR r).k = 1 then ((nowR r).s, nextR r) else ([], failR 4 r)
def numP : Pa Int := fun r => if (nowR r).k = 3 then ((nowR r).n, nextR r) else (0, failR 4 r)
def textP : Pa (Option (List UInt8)) := fun r => if (nowR r).k = 4 then (some (nowR r).s, nextR r) else (none, r)
def minusP {α : Type} (yes no : Pa α) : Pa α := fun r => if isR [45] r = true ∧ (behindR r).k ≠ 3 then yes (nextR r) else no r
def chooseP : List (List UInt8 × Int) → Pa Int
  | [] => retP 0
  | c :: l => ifP c.1 (retP c.2) (chooseP l)
def downR (r : Rd) : Rd := if 10 < r.d + 1 then failR 10 { r with d := r.d + 1 } else { r with d := r.d + 1 }
def upR (r : Rd) : Rd := { r with d := r.d - 1 }
def deepP {α : Type} (p : Pa α) : Pa α := fun r => ((p (downR r)).1, upR (p (downR r)).2)
structure Good (F : Nat) (r : Rd) : Prop where
  last : r.bad = 0 → ∃ L e, r.ts = L ++ [e] ∧ e.k = 6 ∧ ∀ x ∈ L, x.k ≠ 6
  d0 : 0 ≤ r.d
  d1 : r.d ≤ 11
  d2 : r.bad = 0 → r.d ≤ 10
  nums : ∀ x ∈ r.ts, 0 ≤ x.n ∧ x.n ≤ 9223372036854775807
  many : r.ts.length ≤ F
def SimA (r r' : Rd) : Prop := r.ts.map Tk.z = r'.ts.map Tk.z ∧ r.d = r'.d ∧ r.bad = r'.bad
def SimB (dl : Nat) (T : List Tk) (r r' : Rd) : Prop :=
  ∃ L e L' , r.ts = L ++ [e] ∧ e.k = 6 ∧ (∀ x ∈ L, x.k ≠ 6) ∧ r'.ts = L' ++ T ∧ L.map Tk.z = L'.map Tk.z ∧ r'.d = r.d + dl ∧ r.bad = 0 ∧ r'.bad = 0
def Tail (T : List Tk) : Prop := ∃ h l, T = h :: l ∧ h.k = 5 ∧ (h.s = [59] ∨ h.s = [41])
structure NiceAt (b : Bool) (F : Nat) (G : Rd → Prop) {α : Type} (p : Pa α) : Prop where
  mono : ∀ r, r.bad ≠ 0 → (p r).2.bad = r.bad ∧ (p r).2.bp = r.bp
  fine : ∀ r, G r → Good F r → Good F (p r).2 ∧ (p r).2.d = r.d ∧ (p r).2.ts.length ≤ r.ts.length
  simA : ∀ r r', SimA r r' → (p r).1 = (p r').1 ∧ SimA (p r).2 (p r').2
  simB : b = true → ∀ dl T r r', Tail T → SimB dl T r r' → (p r).2.bad = 0 → ((p r').2.bad = 10 ∧ 0 < dl) ∨ ((p r).1 = (p r').1 ∧ SimB dl T (p r).2 (p r').2)
abbrev Nice (b : Bool) (F : Nat) {α : Type} (p : Pa α) : Prop := NiceAt b F (fun _ => True) p
abbrev NiceOk (b : Bool) (F : Nat) {α : Type} (p : Pa α) : Prop := NiceAt b F (fun r => r.bad = 0) p
theorem NiceAt.ok {b : Bool} {F : Nat} {α : Type} {p : Pa α} (h : Nice b F p) : NiceOk b F p := ⟨h.mono, fun r _ => h.fine r trivial, h.simA, h.simB⟩
inductive Ex where
  | mk (k op : Int) (tb nm : List UInt8) (v : Vl) (xs : List Ex)
def zV : Vl := ⟨0, 0, []⟩
def zEx : Ex := .mk 0 0 [] [] zV []
def exOp (op : Int) (a b : Ex) : Ex := .mk 3 op [] [] zV [a, b]
def exOf (k : Int) (a : Ex) : Ex := .mk k 0 [] [] zV [a]
def exCol (t n : List UInt8) : Ex := .mk 2 0 t n zV []
def exVal (v : Vl) : Ex := .mk 1 0 [] [] v []
def rowL (below : Pa Ex) (ops : List (List UInt8 × Int)) : Nat → Ex → Pa Ex
  | 0, e => retP e
  | f + 1, e => bindP (chooseP ops) fun op => if op = 0 then retP e else bindP below fun x => rowL below ops f (exOp op e x)
def rowP (F : Nat) (below : Pa Ex) (ops : List (List UInt8 × Int)) : Pa Ex := bindP below fun e => rowL below ops F e
def orsB : List (List UInt8 × Int) := [([79, 82], 1)]
def andsB : List (List UInt8 × Int) := [([65, 78, 68], 2)]
def cmpsB : List (List UInt8 × Int) := [([61], 3), ([60, 62], 4), ([60], 5), ([60, 61], 6), ([62], 7), ([62, 61], 8)]
def addsB : List (List UInt8 × Int) := [([43], 9), ([45], 10)]
def mulsB : List (List UInt8 × Int) := [([42], 11), ([47], 12), ([37], 13)]
def litP : Pa Vl := ifP [78, 85, 76, 76] (retP zV) (bindP textP fun o => match o with
  | some s => retP ⟨2, 0, s⟩
  | none => ifP [45] (bindP numP fun n => retP ⟨1, -n, []⟩) (bindP numP fun n => retP ⟨1, n, []⟩))
def colP : Pa Ex := bindP nameP fun n => ifP [46] (bindP nameP fun m => retP (exCol n m)) (retP (exCol [] n))
def factorP (fc ex : Pa Ex) : Pa Ex := bindP isNameP fun b => if b = true then colP else
  minusP (bindP (deepP fc) fun e => retP (exOf 5 e)) (ifP [40] (bindP (deepP ex) fun e => bindP (mustP [41]) fun _ => retP e) (bindP litP fun v => retP (exVal v)))
def nullP (e : Ex) : Pa Ex := bindP (skipP [78, 79, 84]) fun t => bindP (mustP [78, 85, 76, 76]) fun _ => retP (if t = true then exOf 4 (exOf 6 e) else exOf 6 e)
def testP (sum : Pa Ex) : Pa Ex := bindP sum fun e => ifP [73, 83] (nullP e) (bindP (chooseP cmpsB) fun op => if op = 0 then retP e else bindP sum fun x => retP (exOp op e x))
def notP (nt test : Pa Ex) : Pa Ex := ifP [78, 79, 84] (bindP (deepP nt) fun e => retP (exOf 4 e)) test
structure Lv where
  nt : Pa Ex
  fc : Pa Ex
  ex : Pa Ex
def termP (F : Nat) (L : Lv) : Pa Ex := rowP F (factorP L.fc L.ex) mulsB
def sumP (F : Nat) (L : Lv) : Pa Ex := rowP F (termP F L) addsB
def notQ (F : Nat) (L : Lv) : Pa Ex := notP L.nt (testP (sumP F L))
def andP (F : Nat) (L : Lv) : Pa Ex := rowP F (notQ F L) andsB
def exprQ (F : Nat) (L : Lv) : Pa Ex := rowP F (andP F L) orsB
def lev (F : Nat) : Nat → Lv
  | 0 => ⟨retP zEx, retP zEx, retP zEx⟩
  | n + 1 => ⟨notQ F (lev F n), factorP (lev F n).fc (lev F n).ex, exprQ F (lev F n)⟩
structure Co where
  nm : List UInt8
  k : Int
  nn : Bool
  uq : Bool
structure It where
  k : Int
  xs : List Ex
structure Se where
  nm : List UInt8
  e : Ex
structure St where
  k : Int
  tb : List UInt8
  cols : List Co
  prim : List UInt8
  rows : List (List Vl)
  sets : List Se
  items : List It
  jn : List UInt8
  on : List Ex
  wh : List Ex
  gr : List Ex
  od : List Ex
  desc : Bool
  lim : Int
def zSt (k : Int) : St := ⟨k, [], [], [], [], [], [], [], [], [], [], [], false, -1⟩
def Enough (n : Nat) (r : Rd) : Prop := (r.bad = 0 → 12 ≤ r.d + n) ∧ 1 ≤ n
def AgrAt (F n : Nat) (G : Rd → Prop) {α : Type} (p q : Pa α) : Prop := ∀ r, G r → Good F r → Enough n r → p r = q r
abbrev Agr (F n : Nat) {α : Type} (p q : Pa α) : Prop := AgrAt F n (fun _ => True) p q
abbrev AgrOk (F n : Nat) {α : Type} (p q : Pa α) : Prop := AgrAt F n (fun r => r.bad = 0) p q
theorem AgrAt.ok {F n : Nat} {α : Type} {p q : Pa α} (h : Agr F n p q) : AgrOk F n p q := fun r _ => h r trivial
theorem Enough.after {F n : Nat} {G : Rd → Prop} {α : Type} {p : Pa α} {r : Rd} (hp : NiceAt false F G p) (g : G r) (hG : Good F r) (h : Enough n r) : Enough n (p r).2 := by
  refine ⟨fun hb => ?_, h.2⟩
  rw [(hp.fine r g hG).2.1]
  refine h.1 ?_
  by_cases e : r.bad = 0
  · exact e
  · rw [(hp.mono r e).1] at hb; exact hb
end Go.Proofs.YtnidnipiihhnaaaGreatDoor
