/- A walk from the root to a page: what lies beside it. -/
import Derived.Test.YtjfipejfejmlaaaBtUp
namespace Go.Proofs.Ytjfipejfejmlaaa
open Go.RowKit Go.Shelf
set_option linter.unusedVariables false
set_option linter.unusedSimpArgs false
set_option maxRecDepth 20000

/-- What lies around a page of height h. -/
inductive Ctx : Nat → Type
  | top {h : Nat} : Ctx h
  | down {h : Nat} (pb : Nat) (sv fv : Value) (pre post : List (Pg h)) (up : Ctx (h + 1)) : Ctx h

namespace Ctx
/-- The whole tree. -/
def plug : {h : Nat} → Ctx h → Pg h → (H : Nat) × Pg H
  | h, .top, p => ⟨h, p⟩
  | _, .down pb sv fv pre post up, p => up.plug ⟨pb, sv, fv, pre ++ p :: post⟩

def turns : {h : Nat} → Ctx h → List (Nat × Nat)
  | _, .top => []
  | _, .down pb _ _ pre _ up => up.turns ++ [(pb, pre.length)]

def before : {h : Nat} → Ctx h → List EntV
  | _, .top => []
  | h, .down _ _ _ pre _ up => up.before ++ flatL (h + 1) pre

def after : {h : Nat} → Ctx h → List EntV
  | _, .top => []
  | h, .down _ _ _ _ post up => flatL (h + 1) post ++ up.after

/-- The leaves behind, the nearest first. -/
def later : {h : Nat} → Ctx h → List (Pg 0)
  | _, .top => []
  | h, .down _ _ _ _ post up => post.flatMap (lvs h) ++ up.later

def earlier : {h : Nat} → Ctx h → List (Pg 0)
  | _, .top => []
  | h, .down _ _ _ pre _ up => up.earlier ++ pre.flatMap (lvs h)

def occ : {h : Nat} → Ctx h → Nat → Nat
  | _, .top, _ => 0
  | h, .down pb sv _ pre post up, i => (if pb = i then 1 else 0) + (if sv.ownBlock = some i then 1 else 0) + occL (h + 1) pre i + occL (h + 1) post i + up.occ i

def firstOf {h : Nat} (pre : List (Pg h)) (hf : Value) : Value := match pre with | [] => hf | q :: _ => q.fv

/-- Where it lies, around a page in block hb whose first key is hf. -/
def Lies (K : Nat → Prop) (w : World) : {h : Nat} → Ctx h → Nat → Prop
  | _, .top, _ => True
  | h, .down pb sv fv pre post up, hb => w.heap[pb]? = some (.cells #[nilS, sv, fv] 66 (0, 0)) ∧ w.ownsRow 0 53 1 sv (pre.length + (post.length + 1)) (pre.map (fun q => ptr q.pb) ++ ptr hb :: post.map fun q => ptr q.pb) ∧
    (∀ q ∈ pre, Go.Proofs.Ytjfipejfejmlaaa.Lies (h + 1) K w q) ∧ (∀ q ∈ post, Go.Proofs.Ytjfipejfejmlaaa.Lies (h + 1) K w q) ∧ up.Lies K w pb

/-- Its first keys are right. -/
def Firsts : {h : Nat} → Ctx h → Value → Prop
  | _, .top, _ => True
  | _, .down _ _ fv pre _ up, hf => fv = firstOf pre hf ∧ up.Firsts fv

def Ok : {h : Nat} → Ctx h → Prop
  | _, .top => True
  | h, .down _ _ _ pre post up => 2 ≤ pre.length + (post.length + 1) ∧ pre.length + (post.length + 1) ≤ 4 ∧ (∀ q ∈ pre, OkE (h + 1) q) ∧ (∀ q ∈ post, OkE (h + 1) q) ∧ up.Ok

def isTop : {h : Nat} → Ctx h → Bool
  | _, .top => true
  | _, .down .. => false

theorem plug_height : ∀ {h : Nat} (c : Ctx h) (p : Pg h), (c.plug p).1 = h + c.turns.length
  | _, .top, p => rfl
  | h, .down pb sv fv pre post up, p => by
    simp only [plug, turns, plug_height up, List.length_append, List.length_cons, List.length_nil]
    omega

theorem plug_flat : ∀ {h : Nat} (c : Ctx h) (p : Pg h), flat ((c.plug p).1 + 1) (c.plug p).2 = c.before ++ flat (h + 1) p ++ c.after
  | _, .top, p => by simp [plug, before, after]
  | h, .down pb sv fv pre post up, p => by
    simp only [plug, before, after, plug_flat up]
    rw [flat_pg, flatL_append, flatL_cons]
    simp

theorem plug_lvs : ∀ {h : Nat} (c : Ctx h) (p : Pg h), lvs (c.plug p).1 (c.plug p).2 = c.earlier ++ lvs h p ++ c.later
  | _, .top, p => by simp [plug, earlier, later]
  | h, .down pb sv fv pre post up, p => by
    simp only [plug, earlier, later, plug_lvs up]
    simp [lvs]

theorem plug_occ : ∀ {h : Nat} (c : Ctx h) (p : Pg h) (i : Nat), Go.Proofs.Ytjfipejfejmlaaa.occ ((c.plug p).1 + 1) (c.plug p).2 i = c.occ i + Go.Proofs.Ytjfipejfejmlaaa.occ (h + 1) p i
  | _, .top, p, i => by simp [plug, occ]
  | h, .down pb sv fv pre post up, p, i => by
    simp only [plug, occ, plug_occ up]
    rw [occ_pg (h + 1), occL_append, occL_cons]
    dsimp only
    omega

theorem plug_lies {K : Nat → Prop} {w : World} : ∀ {h : Nat} (c : Ctx h) (p : Pg h), Go.Proofs.Ytjfipejfejmlaaa.Lies ((c.plug p).1 + 1) K w (c.plug p).2 ↔ Go.Proofs.Ytjfipejfejmlaaa.Lies (h + 1) K w p ∧ c.Lies K w p.pb ∧ c.Firsts p.fv
  | _, .top, p => by simp [plug, Lies, Firsts]
  | h, .down pb sv fv pre post up, p => by
    simp only [plug, Lies, Firsts, plug_lies up]
    have e1 : rowC (h + 1) (pre ++ p :: post) = pre.map (fun q => ptr q.pb) ++ ptr p.pb :: post.map fun q => ptr q.pb := by rw [rowC_pg]; simp [ptr]
    have e2 : (pre ++ p :: post).length = pre.length + (post.length + 1) := by simp
    have e3 : fvL (h + 1) (pre ++ p :: post) = firstOf pre p.fv := by cases pre <;> rfl
    constructor
    · rintro ⟨h1, h2, h3⟩
      obtain ⟨⟨b1, b2⟩, h4, h5⟩ := lies_pg.1 h1
      simp only [e1, e2] at b2
      exact ⟨h5 p (by simp), ⟨b1, b2, fun q hq => h5 q (by simp [hq]), fun q hq => h5 q (by simp [hq]), h2⟩, by rw [← e3]; exact h4, h3⟩
    · rintro ⟨h1, ⟨b1, b2, h4, h5, h6⟩, h7, h8⟩
      refine ⟨lies_pg.2 ⟨⟨b1, by simp only [e1, e2]; exact b2⟩, by rw [e3]; exact h7, fun q hq => ?_⟩, h6, h8⟩
      rcases List.mem_append.1 hq with hq | hq
      · exact h4 q hq
      · rcases List.mem_cons.1 hq with rfl | hq
        · exact h1
        · exact h5 q hq

/-- What is asked of the page itself. -/
def OkP : {h : Nat} → Ctx h → Pg h → Prop
  | h, .top, p => OkR h p
  | h, .down .., p => OkE (h + 1) p

theorem okR_succ {h : Nat} {p : Pg (h + 1)} : OkR (h + 1) p ↔ OkE (h + 2) p := Iff.rfl

theorem plug_ok : ∀ {h : Nat} (c : Ctx h) (p : Pg h), OkR (c.plug p).1 (c.plug p).2 ↔ c.OkP p ∧ c.Ok
  | _, .top, p => by simp [plug, OkP, Ok]
  | h, .down pb sv fv pre post up, p => by
    simp only [plug, Ok, plug_ok up]
    have key2 : (Ctx.down pb sv fv pre post up).OkP p ↔ OkE (h + 1) p := Iff.rfl
    have e2 : (pre ++ p :: post).length = pre.length + (post.length + 1) := by simp
    have key : up.OkP ⟨pb, sv, fv, pre ++ p :: post⟩ ↔ OkE (h + 2) (⟨pb, sv, fv, pre ++ p :: post⟩ : Pg (h + 1)) := by
      cases up with
      | top => exact okR_succ
      | down => exact Iff.rfl
    rw [key, key2, okE_pg]
    simp only [e2]
    constructor
    · rintro ⟨⟨h1, h2, h3⟩, h4⟩
      exact ⟨h3 p (by simp), h1, h2, fun q hq => h3 q (by simp [hq]), fun q hq => h3 q (by simp [hq]), h4⟩
    · rintro ⟨h1, h2, h3, h4, h5, h6⟩
      refine ⟨⟨h2, h3, fun q hq => ?_⟩, h6⟩
      rcases List.mem_append.1 hq with hq | hq
      · exact h4 q hq
      · rcases List.mem_cons.1 hq with rfl | hq
        · exact h1
        · exact h5 q hq

theorem Lies.keep {K R : Nat → Prop} {w w' : World} (hk : Spares R w w') (hK : ∀ i, K i → ¬ R i) : ∀ {h : Nat} {c : Ctx h} {hb : Nat}, c.Lies K w hb → (∀ i, 0 < c.occ i → ¬ R i) → c.Lies K w' hb
  | _, .top, hb, _, _ => trivial
  | h, .down pb sv fv pre post up, hb, ⟨h1, h2, h3, h4, h5⟩, ho => by
    refine ⟨(hk.block _ (block_lt h1) (ho pb (by simp only [occ, if_true]; omega))).trans h1, hk.row h2 (fun g hg => ho g (by simp only [occ, if_pos hg]; omega)), fun q hq => (h3 q hq).keep hk (fun i hi => ho i ?_) hK, fun q hq => (h4 q hq).keep hk (fun i hi => ho i ?_) hK, Lies.keep hk hK h5 (fun i hi => ho i ?_)⟩
    · have := occ_mem (h := h + 1) hq i; simp only [occ]; omega
    · have := occ_mem (h := h + 1) hq i; simp only [occ]; omega
    · simp only [occ]; omega

theorem Lies.new {K : Nat → Prop} {w w' : World} {h : Nat} {c : Ctx h} {hb : Nat} (hl : c.Lies K w hb) (hb' : Below w.heap.size w w') : c.Lies K w' hb :=
  Lies.keep (R := fun _ => False) (Spares.of_new hb') (fun _ _ => id) hl (fun _ _ => id)

theorem Lies.mono {K K' : Nat → Prop} {w : World} (hK : ∀ i, K i → K' i) : ∀ {h : Nat} {c : Ctx h} {hb : Nat}, c.Lies K w hb → c.Lies K' w hb
  | _, .top, hb, _ => trivial
  | h, .down pb sv fv pre post up, hb, ⟨h1, h2, h3, h4, h5⟩ => ⟨h1, h2, fun q hq => (h3 q hq).mono hK, fun q hq => (h4 q hq).mono hK, Lies.mono hK h5⟩

theorem Lies.lt {K : Nat → Prop} {w : World} : ∀ {h : Nat} {c : Ctx h} {hb : Nat}, c.Lies K w hb → ∀ i, 0 < c.occ i → i < w.heap.size
  | _, .top, hb, _, i, hi => by simp [occ] at hi
  | h, .down pb sv fv pre post up, hb, ⟨h1, h2, h3, h4, h5⟩, i, hi => by
    by_cases c1 : pb = i
    · rw [← c1]; exact block_lt h1
    · by_cases c2 : sv.ownBlock = some i
      · exact (h2.lt i c2).2
      · simp only [occ, if_neg c1, if_neg c2] at hi
        by_cases c3 : 0 < occL (h + 1) pre i
        · exact liesL_lt h3 i c3
        · by_cases c4 : 0 < occL (h + 1) post i
          · exact liesL_lt h4 i c4
          · exact Lies.lt h5 i (by omega)
end Ctx
end Go.Proofs.Ytjfipejfejmlaaa
