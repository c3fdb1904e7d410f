/- The program's Span: what the walks share (tools/plspan.py). -/
import Derived.Test.YthjgbcbgkafgjaaDoorPlPM
import Derived.Deep.CutRange
namespace Go.Proofs.YthjgbcbgkafgjaaDoor
open Go.RowKit Go.Shelf
set_option linter.unusedVariables false
set_option linter.unusedSimpArgs false
set_option maxRecDepth 20000

section
variable {P : Program} {md : Region.Mode} {ops : Array Oper} {Q : Exit → Act → World → Prop} {S : World → Prop} {fuel : Nat} {listed : Array Bool} {a : Act} {w : World} {i j k0 : Nat} {oi oj : Oper}

theorem takeE_twoC (hr : Region.ready md ops listed = [i, j]) (hi : ops[i]? = some oi) (hj : ops[j]? = some oj) (gi : oi.guard = none) (gj : oj.guard = none)
    (h1 : oi.wp P a w (fun a' w' => (S w' ∨ i = k0) ∧ wpAnyE P md ops Q S k0 fuel (listed.setIfInBounds i true) a' w') Q)
    (h2 : oj.wp P a w (fun a' w' => (S w' ∨ j = k0) ∧ wpAnyE P md ops Q S k0 fuel (listed.setIfInBounds j true) a' w') Q) : wpAnyE P md ops Q S k0 (fuel + 1) listed a w := by
  refine wpAnyE_all hr (by simp) fun k hk => ?_
  simp only [List.mem_cons, List.not_mem_nil, or_false] at hk
  rcases hk with rfl | rfl
  · unfold wpOp
    simp only [hi, show Region.wanted oi (yielded ops a.tmps) = true by simp [Region.wanted, gi], if_true]
    exact .inl h1
  · unfold wpOp
    simp only [hj, show Region.wanted oj (yielded ops a.tmps) = true by simp [Region.wanted, gj], if_true]
    exact .inl h2

theorem wp_valueC {K : Act → World → Prop} {v : Value} {w' : World} (hrun : (execOp a.eval oi).run P w = .ok (.value v) w') (h : K (a.put oi.dst v) w') : oi.wp P a w K Q := by
  unfold Oper.wp
  rw [hrun]
  exact h

end

/-- The cells of no expression. -/
abbrev noEC : Array Value := #[.int .i64 0, .int .i64 0, .string ⟨#[]⟩, .string ⟨#[]⟩, .int .i64 0, .int .i64 0, .string ⟨#[]⟩, .slice none 0 0]

theorem exec_alX (a : Act) (oi : Oper) (ki : oi.op = .alloc 26) (V : World) : (execOp a.eval oi).run Tryd.prog V = .ok (.value (.pointer (some ⟨V.heap.size, 0, none⟩))) (V.alloc (.cells noEC 26)) := by
  unfold execOp
  simp only [ki]
  go_simp

theorem Tryd.infoExpr8 : (Tryd.prog.info? 26).map (·.size) = some 8 := by kernel_rfl

theorem one8 (k op vk vn : Int) (tb nm vs : List UInt8) (aa : Option Addr) (nn cc : Nat) : (#[.int .i64 k, .int .i64 op, .string (str8 tb), .string (str8 nm), .int .i64 vk, .int .i64 vn, .string (str8 vs), .slice aa nn cc] : Array Value).all (·.oneCell') = true := by
  simp [Value.oneCell']

/-- The eight cells of an expression. -/
def At8 (w : World) (b o : Nat) (k op : Int) (tb nm : List UInt8) (vk vn : Int) (vs : List UInt8) (av : Value) : Prop :=
  w.cell? ⟨b, o, none⟩ = some (.int .i64 k) ∧ w.cell? ⟨b, o + 1, none⟩ = some (.int .i64 op) ∧ w.cell? ⟨b, o + 2, none⟩ = some (.string (str8 tb)) ∧ w.cell? ⟨b, o + 3, none⟩ = some (.string (str8 nm)) ∧
  w.cell? ⟨b, o + 4, none⟩ = some (.int .i64 vk) ∧ w.cell? ⟨b, o + 5, none⟩ = some (.int .i64 vn) ∧ w.cell? ⟨b, o + 6, none⟩ = some (.string (str8 vs)) ∧ w.cell? ⟨b, o + 7, none⟩ = some av

theorem At8.on {w w' : World} {b o : Nat} {k op : Int} {tb nm : List UInt8} {vk vn : Int} {vs : List UInt8} {av : Value} (h : At8 w b o k op tb nm vk vn vs av) (hb : Below w.heap.size w w') : At8 w' b o k op tb nm vk vn vs av := by
  have hl : b < w.heap.size := World.block_lt_of_cell? w ⟨b, o, none⟩ h.1
  obtain ⟨h0, h1, h2, h3, h4, h5, h6, h7⟩ := h
  exact ⟨(hb.cell (p := ⟨b, _, none⟩) hl).trans h0, (hb.cell (p := ⟨b, _, none⟩) hl).trans h1, (hb.cell (p := ⟨b, _, none⟩) hl).trans h2, (hb.cell (p := ⟨b, _, none⟩) hl).trans h3, (hb.cell (p := ⟨b, _, none⟩) hl).trans h4, (hb.cell (p := ⟨b, _, none⟩) hl).trans h5, (hb.cell (p := ⟨b, _, none⟩) hl).trans h6, (hb.cell (p := ⟨b, _, none⟩) hl).trans h7⟩

/-- What a call that makes a span answers: in new memory. -/
def SpP (w : World) (s : Spn) (e : Ending) (w' : World) : Prop :=
  ∃ fv tv, e = .returned (.agg #[fv, tv, .bool s.en]) ∧ Copy w.heap.size w' fv s.a ∧ Copy w.heap.size w' tv s.b ∧ (∀ g, fv.ownBlock = some g → tv.ownBlock ≠ some g) ∧ Below w.heap.size w w'

theorem SpP.lift {w V : World} {s : Spn} {e : Ending} {w' : World} (hb : Below w.heap.size w V) (h : SpP V s e w') : SpP w s e w' := by
  obtain ⟨fv, tv, h1, h2, h3, h4, h5⟩ := h
  exact ⟨fv, tv, h1, owns_lower h2 (fun g hg => Nat.le_trans hb.size (h2.lt g hg).1), owns_lower h3 (fun g hg => Nat.le_trans hb.size (h3.lt g hg).1), h4, hb.trans (h5.mono hb.size)⟩

/-- Both sides in variables of their own. -/
def Mid (W : World) (p q : Nat) (L R : Array Value) (wx : World) : Prop :=
  Below W.heap.size W wx ∧ wx.heap[p]? = some (.cells L 26 (0, 0)) ∧ wx.heap[q]? = some (.cells R 26 (0, 0))

theorem mid_one {W W1 W2 : World} {L R : Array Value} (h1 : Below W.heap.size W W1) (z1 : W1.heap.size = W.heap.size + 1) (c1 : W1.heap[W.heap.size]? = some (.cells noEC 26 (0, 0))) (h2 : Below W1.heap.size W1 W2) (c2 : W2.heap[W1.heap.size]? = some (.cells noEC 26 (0, 0))) :
    W2.heap[W.heap.size]? = some (.cells noEC 26 (0, 0)) ∧ Below W.heap.size W W2 ∧ (W2.setRow W.heap.size L).heap[W1.heap.size]? = some (.cells noEC 26 (0, 0)) ∧ Below W.heap.size W (W2.setRow W.heap.size L) ∧
      Mid W W.heap.size W1.heap.size L R ((W2.setRow W.heap.size L).setRow W1.heap.size R) := by
  have c3 : W2.heap[W.heap.size]? = some (.cells noEC 26 (0, 0)) := (h2.block _ (by omega)).trans c1
  have b2 : Below W.heap.size W W2 := h1.trans (h2.mono (by omega))
  have c4 : (W2.setRow W.heap.size L).heap[W1.heap.size]? = some (.cells noEC 26 (0, 0)) := (setRow_other _ _ _ _ (by omega)).trans c2
  have s3 := Spares.setRow (S := fun k => k = W.heap.size) (Spares.refl _ W2) (p := W.heap.size) (.inl rfl) L
  have b3 : Below W.heap.size W (W2.setRow W.heap.size L) := b2.trans (s3.below (fun i hi => by have h : i = W.heap.size := hi; omega) b2.size)
  have s4 := Spares.setRow (S := fun k => k = W1.heap.size) (Spares.refl _ (W2.setRow W.heap.size L)) (p := W1.heap.size) (.inl rfl) R
  refine ⟨c3, b2, c4, b3, b3.trans (s4.below (fun i hi => by have h : i = W1.heap.size := hi; omega) b3.size), ?_, ?_⟩
  · exact (setRow_other _ _ _ _ (by omega)).trans (setRow_heap W2 W.heap.size _ L _ _ c3)
  · exact setRow_heap _ W1.heap.size _ R _ _ c4

theorem mid_two {W W1 W2 : World} {L R : Array Value} (h1 : Below W.heap.size W W1) (z1 : W1.heap.size = W.heap.size + 1) (c1 : W1.heap[W.heap.size]? = some (.cells noEC 26 (0, 0))) (h2 : Below W1.heap.size W1 W2) (c2 : W2.heap[W1.heap.size]? = some (.cells noEC 26 (0, 0))) :
    (W2.setRow W1.heap.size L).heap[W.heap.size]? = some (.cells noEC 26 (0, 0)) ∧ Below W.heap.size W (W2.setRow W1.heap.size L) ∧ Mid W W1.heap.size W.heap.size L R ((W2.setRow W1.heap.size L).setRow W.heap.size R) := by
  have c3 : W2.heap[W.heap.size]? = some (.cells noEC 26 (0, 0)) := (h2.block _ (by omega)).trans c1
  have b2 : Below W.heap.size W W2 := h1.trans (h2.mono (by omega))
  have c4 : (W2.setRow W1.heap.size L).heap[W.heap.size]? = some (.cells noEC 26 (0, 0)) := (setRow_other _ _ _ _ (by omega)).trans c3
  have s3 := Spares.setRow (S := fun k => k = W1.heap.size) (Spares.refl _ W2) (p := W1.heap.size) (.inl rfl) L
  have b3 : Below W.heap.size W (W2.setRow W1.heap.size L) := b2.trans (s3.below (fun i hi => by have h : i = W1.heap.size := hi; omega) b2.size)
  have s4 := Spares.setRow (S := fun k => k = W.heap.size) (Spares.refl _ (W2.setRow W1.heap.size L)) (p := W.heap.size) (.inl rfl) R
  refine ⟨c4, b3, b3.trans (s4.below (fun i hi => by have h : i = W.heap.size := hi; omega) b3.size), ?_, ?_⟩
  · exact (setRow_other _ _ _ _ (by omega)).trans (setRow_heap W2 W1.heap.size _ L _ _ c2)
  · exact setRow_heap _ W.heap.size _ R _ _ c4

theorem Mid.at {W : World} {p q p' q' : Nat} {L R : Array Value} {wx : World} (h : Mid W p q L R wx) (hp : p = p') (hq : q = q') : Mid W p' q' L R wx := by
  subst hp hq
  exact h

end Go.Proofs.YthjgbcbgkafgjaaDoor
