/- A range over a function: what it tells is one of the rows that Es lets; (tools/bttellse.py: out of BtTells). -/
import Derived.Test.YtjfipejfejmlaaaBtTells
namespace Go.Proofs.Ytjfipejfejmlaaa
open Go.RowKit Go.Shelf
set_option linter.unusedVariables false
set_option linter.unusedSimpArgs false
set_option maxRecDepth 20000
attribute [local go_sem] Oper.semAt_some

/-- AN ITERATOR TELLS SOME E OF Es. -/
def TellsE {α : Type} (n : Nat) (P : Program) (g : Nat) (lb : Array Value) (encs : α → Array Value) (Es : List α → Prop) (Kp : World → World → Prop) (w : World) : Prop :=
  ∀ (l : Nat) (J Jx : List α → Nat → World → Prop) (W : World), Below w.heap.size w W → l < W.heap.size → (∀ E, OwnFrom W.heap.size (J E)) → (∀ E, OwnFrom W.heap.size (Jx E)) →
    (∀ (E : List α), Es E → ∀ (m k : Nat) (x : α) (W1 : World), J E k W1 → E[k]? = some x → YieldAt Fence.wide m P l (encs x) W1 fun e W' =>
      ((e = .returned (.bool true) ∧ J E (k + 1) W' ∧ Kp W1 W') ∨ (e = .returned (.bool false) ∧ Jx E (k + 1) W')) ∧ KeepsFrom W.heap.size W1 W') →
    (∀ E, Es E → J E 0 W) →
    CallsIn Fence.wide n P g (#[.func (.yield l) #[] #[]] ++ lb) W fun e W' => (∃ v, e = .returned v) ∧ ∃ E, Es E ∧ (J E E.length W' ∨ ∃ k, k ≤ E.length ∧ Jx E k W')

/-- THE LAW. -/
theorem range_tellsE {α : Type} {g : Operand} {ps : Array Tmp} {assign body : Code} {n : Nat} {P : Program} {Q : Exit → Act → World → Prop} {a : Act} {w : World} (h1 : 1 ≤ n) {gf : Nat} {lb : Array Value} (hg : a.eval g = .func (.func gf) #[] lb)
    (eg : ∀ args w, (callFunc gf args).run P w = .ok (.enter gf args) w) {encs : α → Array Value} {Es : List α → Prop} {Kp : World → World → Prop} (hseq : TellsE (n - 1) P gf lb encs Es Kp w)
    (hKt : ∀ {A B C : World}, Kp A B → Kp B C → Kp A C) (hKb : ∀ (W : World) (l : Nat) (o o' : Obj), w.heap.size ≤ l → W.heap[l]? = some o → o.isCells = false → Kp W (W.putObj l o')) (hps : ∀ x, (encs x).size = ps.size)
    (I : List α → Nat → World → Prop) (Ix : Code → List α → Nat → World → Prop) (hI : ∀ E, OwnFrom w.heap.size (I E)) (hIx : ∀ c E, OwnFrom w.heap.size (Ix c E)) (h0 : ∀ E, Es E → I E 0 w) (Ax : α → Act → World → Prop) (hAx : ∀ x a', OwnFrom w.heap.size (fun (_ : Unit) W => Ax x a' W))
    (hassign : ∀ (E : List α) (l m k : Nat) (x : α) (W : World) (K : Act → World → Prop), Es E → E[k]? = some x → I E k W → (∀ a' W', KeepsFrom w.heap.size W W' → Kp W W' → I E k W' → Ax x a' W' → K a' W') →
      assign.wpIn (Fence.wide.inRound l) m P (Exit.then K (fun _ _ _ => False)) { tmps := (ps.zip (encs x)).foldl (fun t (p, v) => t.setIfInBounds p v) a.tmps, defers := [] } W)
    (hbody : ∀ (E : List α) (l m k : Nat) (x : α) (a' : Act) (W : World), w.heap.size ≤ l → Es E → E[k]? = some x → I E k W → Ax x a' W → body.wpIn (Fence.wide.inRound l) m P (roundPost w.heap.size Kp (I E) (fun c => Ix c E) (k + 1) W) a' W)
    (hdone : ∀ (E : List α) (D : Nat) (W : World), w.heap.size ≤ D → Es E → I E E.length W → W.heap[D]? = some (.deferred (some [])) → Q .normal { a with defers := { target := .collected D, args := #[] } :: a.defers } W)
    (hstop : ∀ (E : List α) (D : Nat) (c : Code) (k : Nat) (W : World), w.heap.size ≤ D → Es E → k ≤ E.length → Ix c E k W → W.heap[D]? = some (.deferred (some [])) → c.wpIn Fence.wide n P Q { a with defers := { target := .collected D, args := #[] } :: a.defers } W) :
    (Code.rangeFunc g ps assign body).wpIn Fence.wide n P Q a w := by
  refine wpIn_rangeFunc fun fn hfn => ?_
  obtain ⟨rec, hrec⟩ : ∃ rec : LoopState → Option Code → Loop, rec = fun st pe => { state := st, pending := pe, fn, tmps := a.tmps, params := ps, assign, body, defers := w.heap.size } := ⟨_, rfl⟩
  obtain ⟨w1, hw1⟩ : ∃ w1, (w.alloc (.deferred (some []))).alloc (.loop (rec .ready none)) = w1 := ⟨_, rfl⟩
  have hz : w1.heap.size = w.heap.size + 2 := by rw [← hw1]; simp
  have hbw : Below w.heap.size w w1 := by rw [← hw1]; exact ((Below.refl _ w).alloc (Nat.le_refl _) _).alloc (by simp) _
  have hL : w1.heap[w.heap.size + 1]? = some (.loop (rec .ready none)) := by
    rw [← hw1]
    have := World.alloc_heap_new (w.alloc (.deferred (some []))) (.loop (rec .ready none))
    rw [World.size_alloc] at this
    exact this
  have hD : w1.heap[w.heap.size]? = some (.deferred (some [])) := by
    rw [← hw1]
    exact (Below.heap_alloc _ _ _ (by simp)).trans (World.alloc_heap_new w _)
  have hI1 : ∀ E, Es E → I E 0 w1 := fun E hE => by rw [← hw1]; exact (hI E).alloc _ ((hI E).alloc _ (h0 E hE))
  refine ⟨w.heap.size + 1, [{ target := .collected w.heap.size, args := #[] }], w1, { target := .fn (.func gf) lb, args := #[.func (.yield (w.heap.size + 1)) #[] #[]] }, w1, gf, #[.func (.yield (w.heap.size + 1)) #[] #[]] ++ lb, w1, ?_, ?_, fun _ _ => trivial, ?_, fun _ => h1, ?_⟩
  · rw [← hw1, hrec]; exact run_enterLoop_outer _ _ _ _ _
  · simp only [resolve, hg]
    simp [go_sem]
  · simp [invoke, go_sem, eg]
  refine (hseq (w.heap.size + 1) (fun E k W => I E k W ∧ W.heap[w.heap.size + 1]? = some (.loop (rec .ready none)) ∧ W.heap[w.heap.size]? = some (.deferred (some [])))
    (fun E k W => ∃ c, Ix c E k W ∧ W.heap[w.heap.size + 1]? = some (.loop (rec .done (some c))) ∧ W.heap[w.heap.size]? = some (.deferred (some []))) w1 hbw (by omega) ?_ ?_ ?_ (fun E hE => ⟨hI1 E hE, hL, hD⟩)).mono ?_
  · intro E s A B row hs hgr hr
    have hne : ∀ i, i < w1.heap.size → some i ≠ row := fun i hi e => by have := (hr i e.symm).1; omega
    refine ⟨hI E s A B row hs.1 hgr (fun r e => ⟨by have := (hr r e).1; omega, (hr r e).2⟩), ?_, ?_⟩
    · exact (hgr.block _ (block_lt hs.2.1) (hne _ (by omega))).trans hs.2.1
    · exact (hgr.block _ (block_lt hs.2.2) (hne _ (by omega))).trans hs.2.2
  · intro E s A B row hs hgr hr
    obtain ⟨c, h2, h3, h4⟩ := hs
    have hne : ∀ i, i < w1.heap.size → some i ≠ row := fun i hi e => by have := (hr i e.symm).1; omega
    refine ⟨c, hIx c E s A B row h2 hgr (fun r e => ⟨by have := (hr r e).1; omega, (hr r e).2⟩), ?_, ?_⟩
    · exact (hgr.block _ (block_lt h3) (hne _ (by omega))).trans h3
    · exact (hgr.block _ (block_lt h4) (hne _ (by omega))).trans h4
  · rintro E hE m k x W ⟨hi, hl, hk⟩ hx
    have hy := run_yield (P := P) (args := encs x) hl (by rw [hrec]; exact hps x)
    rw [hrec] at hy
    refine ⟨fn, _, assign, body, hy, roundIn_of_wpIn hfn (hassign E _ m k x W _ hE hx hi fun a' Wa hka hkpa hia hax => ?_)⟩
    clear hy
    have hla := hka.same _ _ (by omega) hl rfl
    have hda := hka.same _ _ (Nat.le_refl _) hk rfl
    have hlt := block_lt hla
    refine ⟨_, run_beginRound hla (by rw [hrec]), ?_⟩
    have hl2 : (Wa.putObj (w.heap.size + 1) (.loop { rec .ready none with state := .busy })).heap[w.heap.size + 1]? = some (.loop { rec .ready none with state := .busy }) := World.putObj_heap_same hlt
    have hd2 : (Wa.putObj (w.heap.size + 1) (.loop { rec .ready none with state := .busy })).heap[w.heap.size]? = some (.deferred (some [])) := (World.putObj_heap_other (by omega)).trans hda
    have hkp2 : Kp Wa (Wa.putObj (w.heap.size + 1) (.loop { rec .ready none with state := .busy })) := hKb _ _ _ _ (by omega) hla rfl
    have hkf2 : KeepsFrom w1.heap.size Wa (Wa.putObj (w.heap.size + 1) (.loop { rec .ready none with state := .busy })) := keepsFrom_put (o := .loop (rec .ready none)) (by omega)
    refine wpIn_mono (hbody E _ m k x a' _ (by omega) hE hx ((hI E).putObj _ hia (by omega) hla rfl) ((hAx x a').putObj (s := ()) _ hax (by omega) hla rfl)) ?_
    have fin : ∀ (jump : Option Code) (W3 : World), KeepsFrom w.heap.size (Wa.putObj (w.heap.size + 1) (.loop { rec .ready none with state := .busy })) W3 →
        (Instr.endRound (w.heap.size + 1) jump).run P W3 = .ok (.bool jump.isNone) (W3.putObj (w.heap.size + 1) (.loop (rec (if jump.isNone then .ready else .done) jump))) ∧
        W3.heap[w.heap.size + 1]? = some (.loop { rec .ready none with state := .busy }) ∧
        (W3.putObj (w.heap.size + 1) (.loop (rec (if jump.isNone then .ready else .done) jump))).heap[w.heap.size + 1]? = some (.loop (rec (if jump.isNone then .ready else .done) jump)) ∧
        (W3.putObj (w.heap.size + 1) (.loop (rec (if jump.isNone then .ready else .done) jump))).heap[w.heap.size]? = some (.deferred (some [])) ∧
        KeepsFrom w1.heap.size W (W3.putObj (w.heap.size + 1) (.loop (rec (if jump.isNone then .ready else .done) jump))) := fun jump W3 hk3 => by
      have hl3 := hk3.same _ _ (by omega) hl2 rfl
      have he := run_endRound (P := P) jump hl3
      refine ⟨?_, hl3, World.putObj_heap_same (block_lt hl3), (World.putObj_heap_other (by omega)).trans (hk3.same _ _ (Nat.le_refl _) hd2 rfl), ?_⟩
      · rw [hrec] at he ⊢
        exact he
      · exact (((keepsFrom_up hka (by omega)).trans hkf2).trans (keepsFrom_up hk3 (by omega))).trans (keepsFrom_put (o := .loop (rec .ready none)) (by omega))
    rintro e a3 W3 hp
    cases e with
    | normal =>
      obtain ⟨hk3, hkp3, hi3⟩ := hp
      obtain ⟨q1, q2, q3, q4, q5⟩ := fin none W3 hk3
      exact ⟨_, _, q1, .inl ⟨rfl, ⟨(hI E).putObj _ hi3 (by omega) q2 rfl, q3, q4⟩, hKt hkpa (hKt hkp2 (hKt hkp3 (hKb _ _ _ _ (by omega) q2 rfl)))⟩, q5⟩
    | ret =>
      obtain ⟨hk3, hi3⟩ := hp
      obtain ⟨q1, q2, q3, q4, q5⟩ := fin (some .ret) W3 hk3
      exact ⟨_, _, q1, .inr ⟨rfl, .ret, (hIx _ E).putObj _ hi3 (by omega) q2 rfl, q3, q4⟩, q5⟩
    | exit id =>
      obtain ⟨hk3, hi3⟩ := hp
      obtain ⟨q1, q2, q3, q4, q5⟩ := fin (some (.exit id)) W3 hk3
      exact ⟨_, _, q1, .inr ⟨rfl, .exit id, (hIx _ E).putObj _ hi3 (by omega) q2 rfl, q3, q4⟩, q5⟩
    | goto t => exact hp.elim
    | panic ch => exact hp.elim
    | outgrown => exact hp.elim
  · rintro e W2 ⟨⟨v, rfl⟩, E, hE, (⟨hi, hl, hk⟩ | ⟨k, hkE, c, hi, hl, hk⟩)⟩
    · have hr : (Instr.endLoop (w.heap.size + 1)).run P W2 = .ok none (W2.putObj (w.heap.size + 1) (.loop { rec .ready none with state := .exhausted })) := by
        have := run_endLoop (P := P) hl (by rw [hrec]; simp)
        rw [hrec] at this ⊢
        exact this
      exact ⟨none, _, hr, hdone E _ _ (Nat.le_refl _) hE ((hI E).putObj (o := .loop (rec .ready none)) _ hi (by omega) hl rfl) ((World.putObj_heap_other (by omega)).trans hk)⟩
    · have hr : (Instr.endLoop (w.heap.size + 1)).run P W2 = .ok (some c) (W2.putObj (w.heap.size + 1) (.loop { rec .done (some c) with state := .exhausted })) := by
        have := run_endLoop (P := P) hl (by rw [hrec]; simp)
        rw [hrec] at this ⊢
        exact this
      exact ⟨some c, _, hr, hstop E _ c k _ (Nat.le_refl _) hE hkE ((hIx c E).putObj (o := .loop (rec .done (some c))) _ hi (by omega) hl rfl) ((World.putObj_heap_other (by omega)).trans hk)⟩

end Go.Proofs.Ytjfipejfejmlaaa
