/- A range over a function whose elements are known, one after the other; the iterator may hold loops over functions itself. -/
import Derived.Test.YtjfipejfejmlaaaBtWalk
namespace Go.Proofs.Ytjfipejfejmlaaa
open Go.RowKit Go.Shelf
set_option linter.unusedVariables false
set_option linter.unusedSimpArgs false
set_option maxRecDepth 20000
attribute [local go_sem] Oper.semAt_some

/-- AN ITERATOR TELLS E, ONE AFTER THE OTHER: its caller's J k holds where k have come; a round that goes on keeps Kp; each round keeps what is no cells and was laid since the call began. -/
def Tells {α : Type} (n : Nat) (P : Program) (g : Nat) (lb : Array Value) (encs : α → Array Value) (E : List α) (Kp : World → World → Prop) (w : World) : Prop :=
  ∀ (l : Nat) (J Jx : Nat → World → Prop) (W : World), Below w.heap.size w W → l < W.heap.size → OwnFrom W.heap.size J → OwnFrom W.heap.size Jx →
    (∀ (m k : Nat) (x : α) (W1 : World), J k W1 → E[k]? = some x → YieldAt Fence.wide m P l (encs x) W1 fun e W' =>
      ((e = .returned (.bool true) ∧ J (k + 1) W' ∧ Kp W1 W') ∨ (e = .returned (.bool false) ∧ Jx (k + 1) W')) ∧ KeepsFrom W.heap.size W1 W') →
    J 0 W →
    CallsIn Fence.wide n P g (#[.func (.yield l) #[] #[]] ++ lb) W fun e W' => (∃ v, e = .returned v) ∧ (J E.length W' ∨ ∃ k, k ≤ E.length ∧ Jx k W')

/-- How a round may be left. -/
def roundPost (B : Nat) (Kp : World → World → Prop) (I : Nat → World → Prop) (Ix : Code → Nat → World → Prop) (k : Nat) (W : World) : Exit → Act → World → Prop
  | .normal, _, W' => KeepsFrom B W W' ∧ Kp W W' ∧ I k W'
  | .ret, _, W' => KeepsFrom B W W' ∧ Ix .ret k W'
  | .exit id, _, W' => KeepsFrom B W W' ∧ Ix (.exit id) k W'
  | _, _, _ => False

theorem keepsFrom_put {B l : Nat} {W : World} {o o' : Obj} (hl : l < B) : KeepsFrom B W (W.putObj l o') :=
  ⟨by simp, fun k o hk h _ => (World.putObj_heap_other (by omega)).trans h⟩

theorem keepsFrom_up {B B' : Nat} {W W' : World} (h : KeepsFrom B W W') (hB : B ≤ B') : KeepsFrom B' W W' := ⟨h.size, fun k o hk hw ho => h.same k o (by omega) hw ho⟩

/-- THE LAW. -/
theorem range_tells {α : Type} {g : Operand} {ps : Array Tmp} {assign body : Code} {n : Nat} {P : Program} {Q : Exit → Act → World → Prop} {a : Act} {w : World} (h1 : 1 ≤ n) {gf : Nat} {lb : Array Value} (hg : a.eval g = .func (.func gf) #[] lb)
    (eg : ∀ args w, (callFunc gf args).run P w = .ok (.enter gf args) w) {encs : α → Array Value} {E : List α} {Kp : World → World → Prop} (hseq : Tells (n - 1) P gf lb encs E Kp w)
    (hKt : ∀ {A B C : World}, Kp A B → Kp B C → Kp A C) (hKb : ∀ (W : World) (l : Nat) (o o' : Obj), w.heap.size ≤ l → W.heap[l]? = some o → o.isCells = false → Kp W (W.putObj l o')) (hps : ∀ x, (encs x).size = ps.size)
    (I : Nat → World → Prop) (Ix : Code → Nat → World → Prop) (hI : OwnFrom w.heap.size I) (hIx : ∀ c, OwnFrom w.heap.size (Ix c)) (h0 : I 0 w) (Ax : α → Act → World → Prop) (hAx : ∀ x a', OwnFrom w.heap.size (fun (_ : Unit) W => Ax x a' W))
    (hassign : ∀ (l m k : Nat) (x : α) (W : World) (K : Act → World → Prop), E[k]? = some x → I k W → (∀ a' W', KeepsFrom w.heap.size W W' → Kp W W' → I k W' → Ax x a' W' → K a' W') →
      assign.wpIn (Fence.wide.inRound l) m P (Exit.then K (fun _ _ _ => False)) { tmps := (ps.zip (encs x)).foldl (fun t (p, v) => t.setIfInBounds p v) a.tmps, defers := [] } W)
    (hbody : ∀ (l m k : Nat) (x : α) (a' : Act) (W : World), w.heap.size ≤ l → E[k]? = some x → I k W → Ax x a' W → body.wpIn (Fence.wide.inRound l) m P (roundPost w.heap.size Kp I Ix (k + 1) W) a' W)
    (hdone : ∀ (D : Nat) (W : World), w.heap.size ≤ D → I E.length W → W.heap[D]? = some (.deferred (some [])) → Q .normal { a with defers := { target := .collected D, args := #[] } :: a.defers } W)
    (hstop : ∀ (D : Nat) (c : Code) (k : Nat) (W : World), w.heap.size ≤ D → k ≤ E.length → Ix c k W → W.heap[D]? = some (.deferred (some [])) → c.wpIn Fence.wide n P Q { a with defers := { target := .collected D, args := #[] } :: a.defers } W) :
    (Code.rangeFunc g ps assign body).wpIn Fence.wide n P Q a w := by
  refine wpIn_rangeFunc fun fn hfn => ?_
  obtain ⟨rec, hrec⟩ : ∃ rec : LoopState → Option Code → Loop, rec = fun st pe => { state := st, pending := pe, fn, tmps := a.tmps, params := ps, assign, body, defers := w.heap.size } := ⟨_, rfl⟩
  obtain ⟨w1, hw1⟩ : ∃ w1, (w.alloc (.deferred (some []))).alloc (.loop (rec .ready none)) = w1 := ⟨_, rfl⟩
  have hz : w1.heap.size = w.heap.size + 2 := by rw [← hw1]; simp
  have hbw : Below w.heap.size w w1 := by rw [← hw1]; exact ((Below.refl _ w).alloc (Nat.le_refl _) _).alloc (by simp) _
  have hL : w1.heap[w.heap.size + 1]? = some (.loop (rec .ready none)) := by
    rw [← hw1]
    have := World.alloc_heap_new (w.alloc (.deferred (some []))) (.loop (rec .ready none))
    rw [World.size_alloc] at this
    exact this
  have hD : w1.heap[w.heap.size]? = some (.deferred (some [])) := by
    rw [← hw1]
    exact (Below.heap_alloc _ _ _ (by simp)).trans (World.alloc_heap_new w _)
  have hI1 : I 0 w1 := by rw [← hw1]; exact hI.alloc _ (hI.alloc _ h0)
  refine ⟨w.heap.size + 1, [{ target := .collected w.heap.size, args := #[] }], w1, { target := .fn (.func gf) lb, args := #[.func (.yield (w.heap.size + 1)) #[] #[]] }, w1, gf, #[.func (.yield (w.heap.size + 1)) #[] #[]] ++ lb, w1, ?_, ?_, fun _ _ => trivial, ?_, fun _ => h1, ?_⟩
  · rw [← hw1, hrec]; exact run_enterLoop_outer _ _ _ _ _
  · simp only [resolve, hg]
    simp [go_sem]
  · simp [invoke, go_sem, eg]
  refine (hseq (w.heap.size + 1) (fun k W => I k W ∧ W.heap[w.heap.size + 1]? = some (.loop (rec .ready none)) ∧ W.heap[w.heap.size]? = some (.deferred (some [])))
    (fun k W => ∃ c, Ix c k W ∧ W.heap[w.heap.size + 1]? = some (.loop (rec .done (some c))) ∧ W.heap[w.heap.size]? = some (.deferred (some []))) w1 hbw (by omega) ?_ ?_ ?_ ⟨hI1, hL, hD⟩).mono ?_
  · intro s A B row hs hgr hr
    have hne : ∀ i, i < w1.heap.size → some i ≠ row := fun i hi e => by have := (hr i e.symm).1; omega
    refine ⟨hI s A B row hs.1 hgr (fun r e => ⟨by have := (hr r e).1; omega, (hr r e).2⟩), ?_, ?_⟩
    · exact (hgr.block _ (block_lt hs.2.1) (hne _ (by omega))).trans hs.2.1
    · exact (hgr.block _ (block_lt hs.2.2) (hne _ (by omega))).trans hs.2.2
  · intro s A B row hs hgr hr
    obtain ⟨c, h2, h3, h4⟩ := hs
    have hne : ∀ i, i < w1.heap.size → some i ≠ row := fun i hi e => by have := (hr i e.symm).1; omega
    refine ⟨c, hIx c s A B row h2 hgr (fun r e => ⟨by have := (hr r e).1; omega, (hr r e).2⟩), ?_, ?_⟩
    · exact (hgr.block _ (block_lt h3) (hne _ (by omega))).trans h3
    · exact (hgr.block _ (block_lt h4) (hne _ (by omega))).trans h4
  · rintro m k x W ⟨hi, hl, hk⟩ hx
    have hy := run_yield (P := P) (args := encs x) hl (by rw [hrec]; exact hps x)
    rw [hrec] at hy
    refine ⟨fn, _, assign, body, hy, roundIn_of_wpIn hfn (hassign _ m k x W _ hx hi fun a' Wa hka hkpa hia hax => ?_)⟩
    clear hy
    have hla := hka.same _ _ (by omega) hl rfl
    have hda := hka.same _ _ (Nat.le_refl _) hk rfl
    have hlt := block_lt hla
    refine ⟨_, run_beginRound hla (by rw [hrec]), ?_⟩
    have hl2 : (Wa.putObj (w.heap.size + 1) (.loop { rec .ready none with state := .busy })).heap[w.heap.size + 1]? = some (.loop { rec .ready none with state := .busy }) := World.putObj_heap_same hlt
    have hd2 : (Wa.putObj (w.heap.size + 1) (.loop { rec .ready none with state := .busy })).heap[w.heap.size]? = some (.deferred (some [])) := (World.putObj_heap_other (by omega)).trans hda
    have hkp2 : Kp Wa (Wa.putObj (w.heap.size + 1) (.loop { rec .ready none with state := .busy })) := hKb _ _ _ _ (by omega) hla rfl
    have hkf2 : KeepsFrom w1.heap.size Wa (Wa.putObj (w.heap.size + 1) (.loop { rec .ready none with state := .busy })) := keepsFrom_put (o := .loop (rec .ready none)) (by omega)
    refine wpIn_mono (hbody _ m k x a' _ (by omega) hx (hI.putObj _ hia (by omega) hla rfl) ((hAx x a').putObj (s := ()) _ hax (by omega) hla rfl)) ?_
    have fin : ∀ (jump : Option Code) (W3 : World), KeepsFrom w.heap.size (Wa.putObj (w.heap.size + 1) (.loop { rec .ready none with state := .busy })) W3 →
        (Instr.endRound (w.heap.size + 1) jump).run P W3 = .ok (.bool jump.isNone) (W3.putObj (w.heap.size + 1) (.loop (rec (if jump.isNone then .ready else .done) jump))) ∧
        W3.heap[w.heap.size + 1]? = some (.loop { rec .ready none with state := .busy }) ∧
        (W3.putObj (w.heap.size + 1) (.loop (rec (if jump.isNone then .ready else .done) jump))).heap[w.heap.size + 1]? = some (.loop (rec (if jump.isNone then .ready else .done) jump)) ∧
        (W3.putObj (w.heap.size + 1) (.loop (rec (if jump.isNone then .ready else .done) jump))).heap[w.heap.size]? = some (.deferred (some [])) ∧
        KeepsFrom w1.heap.size W (W3.putObj (w.heap.size + 1) (.loop (rec (if jump.isNone then .ready else .done) jump))) := fun jump W3 hk3 => by
      have hl3 := hk3.same _ _ (by omega) hl2 rfl
      have he := run_endRound (P := P) jump hl3
      refine ⟨?_, hl3, World.putObj_heap_same (block_lt hl3), (World.putObj_heap_other (by omega)).trans (hk3.same _ _ (Nat.le_refl _) hd2 rfl), ?_⟩
      · rw [hrec] at he ⊢
        exact he
      · exact (((keepsFrom_up hka (by omega)).trans hkf2).trans (keepsFrom_up hk3 (by omega))).trans (keepsFrom_put (o := .loop (rec .ready none)) (by omega))
    rintro e a3 W3 hp
    cases e with
    | normal =>
      obtain ⟨hk3, hkp3, hi3⟩ := hp
      obtain ⟨q1, q2, q3, q4, q5⟩ := fin none W3 hk3
      exact ⟨_, _, q1, .inl ⟨rfl, ⟨hI.putObj _ hi3 (by omega) q2 rfl, q3, q4⟩, hKt hkpa (hKt hkp2 (hKt hkp3 (hKb _ _ _ _ (by omega) q2 rfl)))⟩, q5⟩
    | ret =>
      obtain ⟨hk3, hi3⟩ := hp
      obtain ⟨q1, q2, q3, q4, q5⟩ := fin (some .ret) W3 hk3
      exact ⟨_, _, q1, .inr ⟨rfl, .ret, (hIx _).putObj _ hi3 (by omega) q2 rfl, q3, q4⟩, q5⟩
    | exit id =>
      obtain ⟨hk3, hi3⟩ := hp
      obtain ⟨q1, q2, q3, q4, q5⟩ := fin (some (.exit id)) W3 hk3
      exact ⟨_, _, q1, .inr ⟨rfl, .exit id, (hIx _).putObj _ hi3 (by omega) q2 rfl, q3, q4⟩, q5⟩
    | goto t => exact hp.elim
    | panic ch => exact hp.elim
    | outgrown => exact hp.elim
  · rintro e W2 ⟨⟨v, rfl⟩, (⟨hi, hl, hk⟩ | ⟨k, hkE, c, hi, hl, hk⟩)⟩
    · have hr : (Instr.endLoop (w.heap.size + 1)).run P W2 = .ok none (W2.putObj (w.heap.size + 1) (.loop { rec .ready none with state := .exhausted })) := by
        have := run_endLoop (P := P) hl (by rw [hrec]; simp)
        rw [hrec] at this ⊢
        exact this
      exact ⟨none, _, hr, hdone _ _ (Nat.le_refl _) (hI.putObj (o := .loop (rec .ready none)) _ hi (by omega) hl rfl) ((World.putObj_heap_other (by omega)).trans hk)⟩
    · have hr : (Instr.endLoop (w.heap.size + 1)).run P W2 = .ok (some c) (W2.putObj (w.heap.size + 1) (.loop { rec .done (some c) with state := .exhausted })) := by
        have := run_endLoop (P := P) hl (by rw [hrec]; simp)
        rw [hrec] at this ⊢
        exact this
      exact ⟨some c, _, hr, hstop _ c k _ (Nat.le_refl _) hkE ((hIx c).putObj (o := .loop (rec .done (some c))) _ hi (by omega) hl rfl) ((World.putObj_heap_other (by omega)).trans hk)⟩

set_option maxHeartbeats 4000000 in
/-- 'slices.Backward' over turns. -/
theorem backT_tells (n bk : Nat) (a : Option Addr) (cap : Nat) (L : List (Nat × Nat)) (w : World) (hbk : w.heap[bk]? = some (.cells #[.slice a L.length cap] 58 (0, 0))) (hsh : Rw w 2 (.slice a L.length cap) L.length (turnC L)) :
    Tells n Try.prog 57 #[.pointer (some ⟨bk, 0, none⟩)] (fun x : Nat × (Nat × Nat) => #[.int .i64 (x.1 : Int), .agg #[.pointer (some ⟨x.2.1, 0, none⟩), .int .i64 (x.2.2 : Int)]]) (enumB L) (KpA bk a) w := by
  intro l J Jx W hW hl hJ hJx hY h0
  have hbkW := (hW.block bk (block_lt hbk)).trans hbk
  have hbc : W.cell? ⟨bk, 0, none⟩ = some (.slice a L.length cap) := by rw [cell_of_row _ _ _ _ _ _ hbkW]; rfl
  have hshW := hsh.new hW
  obtain ⟨_, _, e, hc1, hc2, _⟩ := id hshW
  simp only [Value.slice.injEq] at e
  obtain ⟨rfl, _, rfl⟩ := e
  unfold maxLen at hc2
  have HY := hid hY
  have HJ := hid h0
  have HS := hid hshW
  clear hY h0 hshW hsh hbk hJ hJx
  refine callsIn_of_wp Try.func57 rfl trivial ?_ rfl
  simp only [Try.ntmps57, List.size_toArray, List.length_cons, List.length_nil, Nat.reduceAdd, Nat.reduceSub, Array.replicate_succ, Array.replicate_zero, List.push_toArray, List.append_toArray, List.nil_append, List.cons_append]
  gi_wp2
  gi_loopg [3] L.length (fun kx s3 wr => s3 = .int .i64 ((kx : Int) - 1) ∧ kx ≤ L.length ∧ Hid (J (L.length - kx) wr) ∧ Hid (KpA bk a W wr))
  case atStart => exact ⟨rfl, Nat.le_refl _, by rw [Nat.sub_self]; exact HJ, hid (kpA_refl _)⟩
  case round =>
    obtain ⟨rfl, hkl, HJ', HK⟩ := hrel
    by_cases hk : gk = 0
    · subst hk
      gi_wp2
      go_end0
      exact ⟨⟨_, rfl⟩, .inl (by rw [enumB_length]; exact HJ'.out)⟩
    · obtain ⟨m, rfl⟩ : ∃ m, gk = m + 1 := ⟨gk - 1, by omega⟩
      have hm : m < L.length := by omega
      have hs := List.getElem?_eq_getElem hm
      obtain ⟨s, hsx⟩ : ∃ s, L[m] = s := ⟨_, rfl⟩
      have hen := enumB_at L (L.length - (m + 1)) (by omega)
      have hmm : L.length - 1 - (L.length - (m + 1)) = m := by omega
      simp only [hmm, hsx] at hen
      rw [hsx] at hs
      clear hsx
      obtain ⟨fn, tmps, assign, body, hy, hR⟩ := HY.out (n - 1) (L.length - (m + 1)) (m, s) wr HJ'.out hen
      obtain ⟨b, off, rfl, hbl, cmm⟩ := HS.out.at m hm (by decide)
      have hcs := turns_at L m s hs
      obtain ⟨u0, cu0, cm0⟩ := cmm 0 (by decide)
      obtain ⟨u1, cu1, cm1⟩ := cmm 1 (by decide)
      rw [Nat.add_zero, hcs.1] at cu0
      rw [hcs.2] at cu1
      cases cu0
      cases cu1
      have cn0 : wr.cell? ⟨b, off + m * 2, none⟩ = some (ptr s.1) := (World.cell?_of_block (w := W) (w' := wr) (by exact HK.out.2 ⟨b, off, none⟩ rfl)).trans cm0
      have cn1 : wr.cell? ⟨b, off + m * 2 + 1, none⟩ = some (.int .i64 (s.2 : Int)) := (World.cell?_of_block (w := W) (w' := wr) (by exact HK.out.2 ⟨b, off, none⟩ rfl)).trans cm1
      simp only [ptr] at cn0
      clear cmm hcs cm0 cm1
      have hbw : wr.cell? ⟨bk, 0, none⟩ = some (.slice (some ⟨b, off, none⟩) L.length cap) := by rw [cell_of_row _ _ _ _ _ _ (HK.out.1.trans hbkW)]; rfl
      have e1 : ((m + 1 : Nat) : Int) - 1 = (m : Int) := by omega
      simp only [e1]
      have hm0 : (0 : Int) ≤ (m : Int) := by omega
      have hm1 : (m : Int) < (L.length : Int) := by omega
      have hstep : L.length - (m + 1) + 1 = L.length - m := by omega
      rw [hstep] at hR
      have HEN := hid hen
      clear hen hmm
      gi_wp2_with (refine ⟨fun h => (by cases h), hR.mono ?_⟩; clear hR hy; rintro e W3 ⟨(⟨rfl, hJ3, hk3⟩ | ⟨rfl, hJx3⟩), _⟩)
      · gi_roundg m
        case rel => exact ⟨rfl, by omega, hid hJ3, hid (kpA_t HK.out hk3)⟩
        case measure => omega
      · refine bodyPost_ret (v := .tuple #[]) (results_none rfl _ _ _) rfl ?_
        exact ⟨⟨_, rfl⟩, .inr ⟨_, by rw [enumB_length]; omega, hJx3⟩⟩
end Go.Proofs.Ytjfipejfejmlaaa
