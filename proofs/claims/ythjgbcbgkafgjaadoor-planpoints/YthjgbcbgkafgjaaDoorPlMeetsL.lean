/- PlanMeets is walked (tools/plmeets.py). -/
import Derived.Test.YthjgbcbgkafgjaaDoorPlOwn
import Derived.Test.YthjgbcbgkafgjaaDoorPlSmall
import Derived.Test.YthjgbcbgkafgjaaDoorPlDocE0
import Derived.Test.YthjgbcbgkafgjaaDoorPlOpen
import Derived.Test.YthjgbcbgkafgjaaDoorCodec
namespace Go.Proofs.YthjgbcbgkafgjaaDoor
open Go.RowKit Go.Shelf
set_option linter.unusedVariables false
set_option linter.unusedSimpArgs false
set_option maxRecDepth 20000

theorem exec_alS (a : Act) (oi : Oper) (ki : oi.op = .alloc 31) (V : World) : (execOp a.eval oi).run Tryd.prog V = .ok (.value (.pointer (some ⟨V.heap.size, 0, none⟩))) (V.alloc (.cells #[.slice none 0 0, .slice none 0 0, .bool false] 31)) := by
  unfold execOp
  simp only [ki]
  go_simp

section
variable {P : Program} {Q : Exit → Act → World → Prop} {a : Act} {w : World} {oi : Oper}
theorem wp_callC {K : Act → World → Prop} {f : FuncId} {xs : Array Operand} {ts : Array TypeId} (args : Array Value) (R : Value → World → Prop)
    (ki : oi.op = .call { callee := .value (.func f), args := xs, argTypes := ts }) (ea : xs.map a.eval = args) (ef : ∀ args w, (callFunc f args).run P w = .ok (.enter f args) w)
    (hc : Calls P f args w fun e w' => ∃ v, e = .returned v ∧ R v w') (h : ∀ v w', R v w' → K (a.put oi.dst v) w') : oi.wp P a w K Q := by
  unfold Oper.wp execOp
  simp only [ki, resolve, ea, Act.eval, Deferred.ofValue, invoke, Sem.run_bind, Sem.run_pure, Result.andThen_ok, Array.append_empty, Array.empty_append, ef]
  exact hc.mono fun e w' ⟨v, he, hR⟩ => by subst he; exact h v w' hR
end

/-- A span of one's own with lent bytes. -/
def Bx (W : World) (p : Nat) (e : Bool) (u1 u2 : Value) (a b : List UInt8) (V : World) : Prop :=
  Below W.heap.size W V ∧ W.heap.size ≤ p ∧ V.heap[p]? = some (.cells #[u1, u2, .bool e] 31 (0, 0)) ∧ Lends W.heap.size V u1 a ∧ Lends W.heap.size V u2 b

theorem Lends.lower {B B' : Nat} {w : World} {v : Value} {bs : List UInt8} (h : Lends B w v bs) (hB : B' ≤ B) : Lends B' w v bs := by
  obtain ⟨g, rfl, ho⟩ := h
  exact ⟨g, rfl, owns_lower ho (fun g' hg => Nat.le_trans hB (ho.lt g' hg).1)⟩

theorem lends_setRow {B : Nat} {W : World} {v : Value} {bs : List UInt8} {p : Nat} {zs : Array Value} (h : Lends B W v bs) (hp : W.heap[p]? = some (.cells zs 31 (0, 0))) (cs : Array Value) : Lends B (W.setRow p cs) v bs := by
  obtain ⟨g, rfl, ho⟩ := h
  refine ⟨g, rfl, (Spares.setRow (S := fun k => k = p) (Spares.refl _ W) (.inl rfl) cs).row ho (fun g' hg' e => ?_)⟩
  have e' : g' = p := e
  subst e'
  rcases ho.2 with ⟨h0, _⟩ | ⟨g2, cap, cur, hv, hB, hg, r⟩
  · cases h0
  · simp only [Value.slice.injEq, Option.some.injEq, Addr.mk.injEq] at hv
    obtain ⟨⟨rfl, _⟩, _⟩ := hv
    obtain rfl : g = g' := by simpa [Value.ownBlock] using hg'
    rw [hg] at hp
    simp at hp

theorem bx_done {W V : World} {p : Nat} {e : Bool} {u1 u2 : Value} {a b : List UInt8} {zs : Array Value} (hz : zs.size = 3) (hb : Below W.heap.size W V) (hp : W.heap.size ≤ p) (hc : V.heap[p]? = some (.cells zs 31 (0, 0))) (h1 : Lends W.heap.size V u1 a) (h2 : Lends W.heap.size V u2 b) :
    Bx W p e u1 u2 a b (V.setRow p #[u1, u2, .bool e]) :=
  ⟨below_setRow hb hp _, hp, setRow_heap V p _ #[u1, u2, .bool e] _ _ hc, lends_setRow h1 hc _, lends_setRow h2 hc _⟩


set_option maxHeartbeats 4000000 in
theorem planMeets_law (f1 t1 f2 t2 : Value) (e1 e2 : Bool) (a1 b1 a2 b2 : List UInt8) (w : World) (ht : TstAt w) (h1 : Says w f1 a1) (h2 : Says w t1 b1) (h3 : Says w f2 a2) (h4 : Says w t2 b2)
    (l1 : a1.length ≤ 140737488351232) (l2 : b1.length ≤ 140737488351232) (l3 : a2.length ≤ 140737488351232) (l4 : b2.length ≤ 140737488351232) :
    Calls Tryd.prog 4 #[.agg #[f1, t1, .bool e1], .agg #[f2, t2, .bool e2]] w fun e w' => e = .returned (.bool true) ∧ Below w.heap.size w w' := by
  obtain ⟨z0, z1, hbW, hzW⟩ := alloc2 w (.cells #[f1, t1, .bool e1] 31) (.cells #[f2, t2, .bool e2] 31)
  obtain ⟨W, hW⟩ : ∃ W, (w.alloc (.cells #[f1, t1, .bool e1] 31)).alloc (.cells #[f2, t2, .bool e2] 31) = W := ⟨_, rfl⟩
  rw [hW] at z0 z1 hbW hzW
  obtain ⟨s, hs⟩ : ∃ s, meetP ⟨a1, b1, e1⟩ ⟨a2, b2, e2⟩ = s := ⟨_, rfl⟩
  have HT := hid (ht.on hbW)
  have HB := hid hbW
  obtain ⟨x1, c1, rfl, _⟩ := id h1
  obtain ⟨x2, c2, rfl, _⟩ := id h2
  obtain ⟨x3, c3, rfl, _⟩ := id h3
  obtain ⟨x4, c4, rfl, _⟩ := id h4
  have HR := hid (fun (V : World) (hb : Below W.heap.size W V) => And.intro (row3 ((hb.block w.heap.size (by omega)).trans z0)) (row3 ((hb.block (w.heap.size + 1) (by omega)).trans z1)))
  have HS1 := hid (fun (V : World) (hb : Below W.heap.size W V) => (h1.new hbW).new hb)
  have HS2 := hid (fun (V : World) (hb : Below W.heap.size W V) => (h2.new hbW).new hb)
  have HS3 := hid (fun (V : World) (hb : Below W.heap.size W V) => (h3.new hbW).new hb)
  have HS4 := hid (fun (V : World) (hb : Below W.heap.size W V) => (h4.new hbW).new hb)
  have HMM := hid (fun (V : World) (y1 y2 y3 y4 : Value) (k1 : Says V y1 a1) (k2 : Says V y2 b1) (k3 : Says V y3 a2) (k4 : Says V y4 b2) => (show Calls Tryd.prog 14 #[.agg #[y1, y2, .bool e1], .agg #[y3, y4, .bool e2]] V fun e w' => ∃ fv tv, e = .returned (.agg #[fv, tv, .bool s.en]) ∧ Copy V.heap.size w' fv s.a ∧ Copy V.heap.size w' tv s.b ∧ (∀ g, fv.ownBlock = some g → tv.ownBlock ≠ some g) ∧ Below V.heap.size V w' from by have := pmeet_any y1 y2 y3 y4 e1 e2 a1 b1 a2 b2 V k1 k2 k3 k4 l1 l2 l3 l4; rwa [hs] at this))
  clear z0 z1 hbW hzW h1 h2 h3 h4 ht
  go_enter Tryd.func4, Tryd.ntmps4
  go_wp2_with fail
  refine (small15_any W HT.out).mono ?_
  rintro e w1 ⟨rfl, hb1⟩
  have HB1 := hid hb1
  clear hb1
  have HR1 := hid (fun (V : World) (hb : Below w1.heap.size w1 V) => HR.out V (HB1.out.trans (hb.mono HB1.out.size)))
  have HF1 := hid (fun (V : World) (hb : Below w1.heap.size w1 V) => HS1.out V (HB1.out.trans (hb.mono HB1.out.size)))
  have HT1 := hid (fun (V : World) (hb : Below w1.heap.size w1 V) => HS2.out V (HB1.out.trans (hb.mono HB1.out.size)))
  go_wp2_with fail
  go_cut [6] from 13 to 21 (fun ux wx => ∃ p g h : Nat, ux = .pointer (some ⟨p, 0, none⟩) ∧ Hid (Bx w1 p e1 (.slice (some ⟨g, 0, none⟩) a1.length (a1.length + 1)) (.slice (some ⟨h, 0, none⟩) b1.length (b1.length + 1)) a1 b1 wx))
  case first =>
    have HSN := hid (fun (V : World) (hb : Below w1.heap.size w1 V) => (show (fun V : World => V.cell? ⟨w.heap.size, 0, none⟩ = some (.slice x1 a1.length c1) ∧ V.cell? ⟨w.heap.size, 1, none⟩ = some (.slice x2 b1.length c2) ∧ V.cell? ⟨w.heap.size, 2, none⟩ = some (.bool e1)) V from ⟨(HR1.out V hb).1.1, (HR1.out V hb).1.2.1, (HR1.out V hb).1.2.2.1⟩))
    have hd : Below w1.heap.size w1 w1.drew := (Below.refl _ w1).drew
    have hS0 := HSN.out _ hd
    have HL1 := hid (fun (V : World) (hb : Below w1.heap.size w1 V) => (show Calls Tryd.prog 13 #[.slice x1 a1.length c1] V fun e w' => ∃ v, e = .returned v ∧ (∃ g, v = .slice (some ⟨g, 0, none⟩) a1.length (a1.length + 1) ∧ Lends w1.heap.size w' (.slice (some ⟨g, 0, none⟩) a1.length (a1.length + 1)) a1 ∧ Below V.heap.size V w') from (lent_any V.heap.size (.slice x1 a1.length c1) a1 V (Nat.le_refl _) (HF1.out V hb) l1).mono fun e w' ⟨v, h1, h2, h3⟩ => ⟨v, h1, by obtain ⟨g, rfl, ho⟩ := h2; exact ⟨g, rfl, Lends.lower ⟨g, rfl, ho⟩ hb.size, h3⟩⟩))
    have HL2 := hid (fun (V : World) (hb : Below w1.heap.size w1 V) => (show Calls Tryd.prog 13 #[.slice x2 b1.length c2] V fun e w' => ∃ v, e = .returned v ∧ (∃ g, v = .slice (some ⟨g, 0, none⟩) b1.length (b1.length + 1) ∧ Lends w1.heap.size w' (.slice (some ⟨g, 0, none⟩) b1.length (b1.length + 1)) b1 ∧ Below V.heap.size V w') from (lent_any V.heap.size (.slice x2 b1.length c2) b1 V (Nat.le_refl _) (HT1.out V hb) l2).mono fun e w' ⟨v, h1, h2, h3⟩ => ⟨v, h1, by obtain ⟨g, rfl, ho⟩ := h2; exact ⟨g, rfl, Lends.lower ⟨g, rfl, ho⟩ hb.size, h3⟩⟩))
    refine last_region (fun V : World => V.cell? ⟨w.heap.size, 0, none⟩ = some (.slice x1 a1.length c1) ∧ V.cell? ⟨w.heap.size, 1, none⟩ = some (.slice x2 b1.length c2) ∧ V.cell? ⟨w.heap.size, 2, none⟩ = some (.bool e1)) 10 (by kernel_rfl) ?_
    refine tkE (i := 0) rfl (by assumption) ?_
    refine tkE (i := 1) rfl (by assumption) ?_
    refine tkE (i := 3) rfl (by assumption) ?_
    refine tkE (i := 4) rfl (by assumption) ?_
    refine tkE (i := 6) rfl (by assumption) ?_
    refine tkE (i := 7) rfl (by assumption) ?_
    refine takeE_twoC (i := 2) (j := 9) (by kernel_rfl) rfl rfl rfl rfl ?_ ?_
    · refine wp_callC #[.slice x1 a1.length c1] (fun u w' => ∃ g0, u = .slice (some ⟨g0, 0, none⟩) a1.length (a1.length + 1) ∧ Lends w1.heap.size w' (.slice (some ⟨g0, 0, none⟩) a1.length (a1.length + 1)) a1 ∧ Below w1.drew.heap.size w1.drew w') rfl (by kernel_rfl) (enters_of Tryd.func13 (by kernel_rfl) rfl) (HL1.out w1.drew hd) ?_
      rintro u2 w21 ⟨g, rfl, hl2, hb2⟩
      have HB2 := hid (hd.trans (hb2.mono hd.size))
      have hS2 := HSN.out _ HB2.out
      refine ⟨.inl hS2, ?_⟩
      simp only [Act.put, List.getElem_toArray, List.getElem_cons_zero, List.getElem_cons_succ, List.setIfInBounds_toArray, List.set_cons_zero, List.set_cons_succ]
      refine takeE_twoC (i := 5) (j := 9) (by kernel_rfl) rfl rfl rfl rfl ?_ ?_
      · refine wp_callC #[.slice x2 b1.length c2] (fun u w' => ∃ g0, u = .slice (some ⟨g0, 0, none⟩) b1.length (b1.length + 1) ∧ Lends w1.heap.size w' (.slice (some ⟨g0, 0, none⟩) b1.length (b1.length + 1)) b1 ∧ Below w21.heap.size w21 w') rfl (by kernel_rfl) (enters_of Tryd.func13 (by kernel_rfl) rfl) (HL2.out w21 HB2.out) ?_
        rintro u5 w52 ⟨h, rfl, hl5, hb5⟩
        have HB5 := htr HB2 hb5
        have hS5 := HSN.out _ HB5.out
        have hl2 := hl2.below hb5
        refine ⟨.inl hS5, ?_⟩
        simp only [Act.put, List.getElem_toArray, List.getElem_cons_zero, List.getElem_cons_succ, List.setIfInBounds_toArray, List.set_cons_zero, List.set_cons_succ]
        refine tkE (i := 8) rfl (by assumption) ?_
        refine takeE_one (i := 9) (by kernel_rfl) rfl rfl (wp_valueC (exec_alS _ _ rfl _) ?_)
        obtain ⟨X, hX, hbX, hzX, hcX⟩ := box8 w52 (.cells #[.slice none 0 0, .slice none 0 0, .bool false] 31)
        rw [hX]
        clear hX
        have HBX := htr HB5 hbX
        have hSX := HSN.out _ HBX.out
        have hl5 := hl5.below hbX
        have hl2 := hl2.below hbX
        refine ⟨.inl hSX, ?_⟩
        simp only [Act.put, List.getElem_toArray, List.getElem_cons_zero, List.getElem_cons_succ, List.setIfInBounds_toArray, List.set_cons_zero, List.set_cons_succ]
        have hbx := hid (bx_done (e := e1) (by rfl) HBX.out (show w1.heap.size ≤ w52.heap.size from HB5.out.size) hcX hl2 hl5)
        refine takeE_storerowC (i := 10) (by kernel_rfl) rfl rfl 31 (.tmp 6) (.tmp 21) rfl w52.heap.size #[.slice (some ⟨g, 0, none⟩) a1.length (a1.length + 1), .slice (some ⟨h, 0, none⟩) b1.length (b1.length + 1), .bool e1] (by rfl) (by rfl) 31 _ hcX Tryd.infoSpan rfl (by simp [Value.oneCell']) (.inr rfl) ?_
        refine wpAnyE_done (by kernel_rfl) ?_ _
        show Only _ .normal _ _
        unfold Only
        go_wp2_with fail
        go_meet
        exact ⟨_, _, _, rfl, hbx⟩
      · refine wp_valueC (exec_alS _ _ rfl _) ?_
        obtain ⟨X, hX, hbX, hzX, hcX⟩ := box8 w21 (.cells #[.slice none 0 0, .slice none 0 0, .bool false] 31)
        rw [hX]
        clear hX
        have HBX := htr HB2 hbX
        have hSX := HSN.out _ HBX.out
        refine ⟨.inl hSX, ?_⟩
        simp only [Act.put, List.getElem_toArray, List.getElem_cons_zero, List.getElem_cons_succ, List.setIfInBounds_toArray, List.set_cons_zero, List.set_cons_succ]
        refine takeE_callw (i := 5) #[.slice x2 b1.length c2] (fun u w' => ∃ g0, u = .slice (some ⟨g0, 0, none⟩) b1.length (b1.length + 1) ∧ Lends w1.heap.size w' (.slice (some ⟨g0, 0, none⟩) b1.length (b1.length + 1)) b1 ∧ Below X.heap.size X w') (by kernel_rfl) rfl (by rfl) rfl (by kernel_rfl) (enters_of Tryd.func13 (by kernel_rfl) rfl) (HL2.out X HBX.out) ?_
        rintro u5 w56 ⟨h, rfl, hl5, hb5⟩
        have HB5 := htr HBX hb5
        have hS5 := HSN.out _ HB5.out
        have hl2 := (hl2.below hbX).below hb5
        have hcX := (hb5.block _ hzX).trans hcX
        refine ⟨hS5, ?_⟩
        simp only [Act.put, List.getElem_toArray, List.getElem_cons_zero, List.getElem_cons_succ, List.setIfInBounds_toArray, List.set_cons_zero, List.set_cons_succ]
        refine tkE (i := 8) rfl (by assumption) ?_
        have hbx := hid (bx_done (e := e1) (by rfl) HB5.out (show w1.heap.size ≤ w21.heap.size from HB2.out.size) hcX hl2 hl5)
        refine takeE_storerowC (i := 10) (by kernel_rfl) rfl rfl 31 (.tmp 6) (.tmp 21) rfl w21.heap.size #[.slice (some ⟨g, 0, none⟩) a1.length (a1.length + 1), .slice (some ⟨h, 0, none⟩) b1.length (b1.length + 1), .bool e1] (by rfl) (by rfl) 31 _ hcX Tryd.infoSpan rfl (by simp [Value.oneCell']) (.inr rfl) ?_
        refine wpAnyE_done (by kernel_rfl) ?_ _
        show Only _ .normal _ _
        unfold Only
        go_wp2_with fail
        go_meet
        exact ⟨_, _, _, rfl, hbx⟩
    · refine wp_valueC (exec_alS _ _ rfl _) ?_
      obtain ⟨X, hX, hbX, hzX, hcX⟩ := box8 w1.drew (.cells #[.slice none 0 0, .slice none 0 0, .bool false] 31)
      rw [hX]
      clear hX
      have HBX := hid (hd.trans (hbX.mono hd.size))
      have hSX := HSN.out _ HBX.out
      refine ⟨.inl hSX, ?_⟩
      simp only [Act.put, List.getElem_toArray, List.getElem_cons_zero, List.getElem_cons_succ, List.setIfInBounds_toArray, List.set_cons_zero, List.set_cons_succ]
      refine takeE_callw (i := 2) #[.slice x1 a1.length c1] (fun u w' => ∃ g0, u = .slice (some ⟨g0, 0, none⟩) a1.length (a1.length + 1) ∧ Lends w1.heap.size w' (.slice (some ⟨g0, 0, none⟩) a1.length (a1.length + 1)) a1 ∧ Below X.heap.size X w') (by kernel_rfl) rfl (by rfl) rfl (by kernel_rfl) (enters_of Tryd.func13 (by kernel_rfl) rfl) (HL1.out X HBX.out) ?_
      rintro u2 w29 ⟨g, rfl, hl2, hb2⟩
      have HB2 := htr HBX hb2
      have hS2 := HSN.out _ HB2.out
      have hcX := (hb2.block _ hzX).trans hcX
      refine ⟨hS2, ?_⟩
      simp only [Act.put, List.getElem_toArray, List.getElem_cons_zero, List.getElem_cons_succ, List.setIfInBounds_toArray, List.set_cons_zero, List.set_cons_succ]
      refine takeE_callw (i := 5) #[.slice x2 b1.length c2] (fun u w' => ∃ g0, u = .slice (some ⟨g0, 0, none⟩) b1.length (b1.length + 1) ∧ Lends w1.heap.size w' (.slice (some ⟨g0, 0, none⟩) b1.length (b1.length + 1)) b1 ∧ Below w29.heap.size w29 w') (by kernel_rfl) rfl (by rfl) rfl (by kernel_rfl) (enters_of Tryd.func13 (by kernel_rfl) rfl) (HL2.out w29 HB2.out) ?_
      rintro u5 w510 ⟨h, rfl, hl5, hb5⟩
      have HB5 := htr HB2 hb5
      have hS5 := HSN.out _ HB5.out
      have hl2 := hl2.below hb5
      have hcX := (hb5.block _ (Nat.lt_of_lt_of_le hzX hb2.size)).trans hcX
      refine ⟨hS5, ?_⟩
      simp only [Act.put, List.getElem_toArray, List.getElem_cons_zero, List.getElem_cons_succ, List.setIfInBounds_toArray, List.set_cons_zero, List.set_cons_succ]
      refine tkE (i := 8) rfl (by assumption) ?_
      have hbx := hid (bx_done (e := e1) (by rfl) HB5.out (show w1.heap.size ≤ w1.drew.heap.size from hd.size) hcX hl2 hl5)
      refine takeE_storerowC (i := 10) (by kernel_rfl) rfl rfl 31 (.tmp 6) (.tmp 21) rfl w1.drew.heap.size #[.slice (some ⟨g, 0, none⟩) a1.length (a1.length + 1), .slice (some ⟨h, 0, none⟩) b1.length (b1.length + 1), .bool e1] (by rfl) (by rfl) 31 _ hcX Tryd.infoSpan rfl (by simp [Value.oneCell']) (.inr rfl) ?_
      refine wpAnyE_done (by kernel_rfl) ?_ _
      show Only _ .normal _ _
      unfold Only
      go_wp2_with fail
      go_meet
      exact ⟨_, _, _, rfl, hbx⟩
  obtain ⟨p, g1, g2, rfl, HX⟩ := hcut
  rename World => w2
  have HB2 := hid (HB1.out.trans (HX.out.1.mono HB1.out.size))
  have HR2 := hid (fun (V : World) (hb : Below w2.heap.size w2 V) => HR.out V (HB2.out.trans (hb.mono HB2.out.size)))
  have HF2 := hid (fun (V : World) (hb : Below w2.heap.size w2 V) => HS3.out V (HB2.out.trans (hb.mono HB2.out.size)))
  have HT2 := hid (fun (V : World) (hb : Below w2.heap.size w2 V) => HS4.out V (HB2.out.trans (hb.mono HB2.out.size)))
  clear HR1 HF1 HT1 HB1
  go_wp2_with fail
  go_cut [7] from 22 to 30 (fun ux wx => ∃ p g h : Nat, ux = .pointer (some ⟨p, 0, none⟩) ∧ Hid (Bx w2 p e2 (.slice (some ⟨g, 0, none⟩) a2.length (a2.length + 1)) (.slice (some ⟨h, 0, none⟩) b2.length (b2.length + 1)) a2 b2 wx))
  case first =>
    have HSN := hid (fun (V : World) (hb : Below w2.heap.size w2 V) => (show (fun V : World => V.cell? ⟨w.heap.size + 1, 0, none⟩ = some (.slice x3 a2.length c3) ∧ V.cell? ⟨w.heap.size + 1, 1, none⟩ = some (.slice x4 b2.length c4) ∧ V.cell? ⟨w.heap.size + 1, 2, none⟩ = some (.bool e2)) V from ⟨(HR2.out V hb).2.1, (HR2.out V hb).2.2.1, (HR2.out V hb).2.2.2.1⟩))
    have hd : Below w2.heap.size w2 w2.drew := (Below.refl _ w2).drew
    have hS0 := HSN.out _ hd
    have HL1 := hid (fun (V : World) (hb : Below w2.heap.size w2 V) => (show Calls Tryd.prog 13 #[.slice x3 a2.length c3] V fun e w' => ∃ v, e = .returned v ∧ (∃ g, v = .slice (some ⟨g, 0, none⟩) a2.length (a2.length + 1) ∧ Lends w2.heap.size w' (.slice (some ⟨g, 0, none⟩) a2.length (a2.length + 1)) a2 ∧ Below V.heap.size V w') from (lent_any V.heap.size (.slice x3 a2.length c3) a2 V (Nat.le_refl _) (HF2.out V hb) l3).mono fun e w' ⟨v, h1, h2, h3⟩ => ⟨v, h1, by obtain ⟨g, rfl, ho⟩ := h2; exact ⟨g, rfl, Lends.lower ⟨g, rfl, ho⟩ hb.size, h3⟩⟩))
    have HL2 := hid (fun (V : World) (hb : Below w2.heap.size w2 V) => (show Calls Tryd.prog 13 #[.slice x4 b2.length c4] V fun e w' => ∃ v, e = .returned v ∧ (∃ g, v = .slice (some ⟨g, 0, none⟩) b2.length (b2.length + 1) ∧ Lends w2.heap.size w' (.slice (some ⟨g, 0, none⟩) b2.length (b2.length + 1)) b2 ∧ Below V.heap.size V w') from (lent_any V.heap.size (.slice x4 b2.length c4) b2 V (Nat.le_refl _) (HT2.out V hb) l4).mono fun e w' ⟨v, h1, h2, h3⟩ => ⟨v, h1, by obtain ⟨g, rfl, ho⟩ := h2; exact ⟨g, rfl, Lends.lower ⟨g, rfl, ho⟩ hb.size, h3⟩⟩))
    refine last_region (fun V : World => V.cell? ⟨w.heap.size + 1, 0, none⟩ = some (.slice x3 a2.length c3) ∧ V.cell? ⟨w.heap.size + 1, 1, none⟩ = some (.slice x4 b2.length c4) ∧ V.cell? ⟨w.heap.size + 1, 2, none⟩ = some (.bool e2)) 10 (by kernel_rfl) ?_
    refine tkE (i := 0) rfl (by assumption) ?_
    refine tkE (i := 1) rfl (by assumption) ?_
    refine tkE (i := 3) rfl (by assumption) ?_
    refine tkE (i := 4) rfl (by assumption) ?_
    refine tkE (i := 6) rfl (by assumption) ?_
    refine tkE (i := 7) rfl (by assumption) ?_
    refine takeE_twoC (i := 2) (j := 9) (by kernel_rfl) rfl rfl rfl rfl ?_ ?_
    · refine wp_callC #[.slice x3 a2.length c3] (fun u w' => ∃ g0, u = .slice (some ⟨g0, 0, none⟩) a2.length (a2.length + 1) ∧ Lends w2.heap.size w' (.slice (some ⟨g0, 0, none⟩) a2.length (a2.length + 1)) a2 ∧ Below w2.drew.heap.size w2.drew w') rfl (by kernel_rfl) (enters_of Tryd.func13 (by kernel_rfl) rfl) (HL1.out w2.drew hd) ?_
      rintro u2 w21 ⟨g, rfl, hl2, hb2⟩
      have HB2 := hid (hd.trans (hb2.mono hd.size))
      have hS2 := HSN.out _ HB2.out
      refine ⟨.inl hS2, ?_⟩
      simp only [Act.put, List.getElem_toArray, List.getElem_cons_zero, List.getElem_cons_succ, List.setIfInBounds_toArray, List.set_cons_zero, List.set_cons_succ]
      refine takeE_twoC (i := 5) (j := 9) (by kernel_rfl) rfl rfl rfl rfl ?_ ?_
      · refine wp_callC #[.slice x4 b2.length c4] (fun u w' => ∃ g0, u = .slice (some ⟨g0, 0, none⟩) b2.length (b2.length + 1) ∧ Lends w2.heap.size w' (.slice (some ⟨g0, 0, none⟩) b2.length (b2.length + 1)) b2 ∧ Below w21.heap.size w21 w') rfl (by kernel_rfl) (enters_of Tryd.func13 (by kernel_rfl) rfl) (HL2.out w21 HB2.out) ?_
        rintro u5 w52 ⟨h, rfl, hl5, hb5⟩
        have HB5 := htr HB2 hb5
        have hS5 := HSN.out _ HB5.out
        have hl2 := hl2.below hb5
        refine ⟨.inl hS5, ?_⟩
        simp only [Act.put, List.getElem_toArray, List.getElem_cons_zero, List.getElem_cons_succ, List.setIfInBounds_toArray, List.set_cons_zero, List.set_cons_succ]
        refine tkE (i := 8) rfl (by assumption) ?_
        refine takeE_one (i := 9) (by kernel_rfl) rfl rfl (wp_valueC (exec_alS _ _ rfl _) ?_)
        obtain ⟨X, hX, hbX, hzX, hcX⟩ := box8 w52 (.cells #[.slice none 0 0, .slice none 0 0, .bool false] 31)
        rw [hX]
        clear hX
        have HBX := htr HB5 hbX
        have hSX := HSN.out _ HBX.out
        have hl5 := hl5.below hbX
        have hl2 := hl2.below hbX
        refine ⟨.inl hSX, ?_⟩
        simp only [Act.put, List.getElem_toArray, List.getElem_cons_zero, List.getElem_cons_succ, List.setIfInBounds_toArray, List.set_cons_zero, List.set_cons_succ]
        have hbx := hid (bx_done (e := e2) (by rfl) HBX.out (show w2.heap.size ≤ w52.heap.size from HB5.out.size) hcX hl2 hl5)
        refine takeE_storerowC (i := 10) (by kernel_rfl) rfl rfl 31 (.tmp 7) (.tmp 30) rfl w52.heap.size #[.slice (some ⟨g, 0, none⟩) a2.length (a2.length + 1), .slice (some ⟨h, 0, none⟩) b2.length (b2.length + 1), .bool e2] (by rfl) (by rfl) 31 _ hcX Tryd.infoSpan rfl (by simp [Value.oneCell']) (.inr rfl) ?_
        refine wpAnyE_done (by kernel_rfl) ?_ _
        show Only _ .normal _ _
        unfold Only
        go_wp2_with fail
        go_meet
        exact ⟨_, _, _, rfl, hbx⟩
      · refine wp_valueC (exec_alS _ _ rfl _) ?_
        obtain ⟨X, hX, hbX, hzX, hcX⟩ := box8 w21 (.cells #[.slice none 0 0, .slice none 0 0, .bool false] 31)
        rw [hX]
        clear hX
        have HBX := htr HB2 hbX
        have hSX := HSN.out _ HBX.out
        refine ⟨.inl hSX, ?_⟩
        simp only [Act.put, List.getElem_toArray, List.getElem_cons_zero, List.getElem_cons_succ, List.setIfInBounds_toArray, List.set_cons_zero, List.set_cons_succ]
        refine takeE_callw (i := 5) #[.slice x4 b2.length c4] (fun u w' => ∃ g0, u = .slice (some ⟨g0, 0, none⟩) b2.length (b2.length + 1) ∧ Lends w2.heap.size w' (.slice (some ⟨g0, 0, none⟩) b2.length (b2.length + 1)) b2 ∧ Below X.heap.size X w') (by kernel_rfl) rfl (by rfl) rfl (by kernel_rfl) (enters_of Tryd.func13 (by kernel_rfl) rfl) (HL2.out X HBX.out) ?_
        rintro u5 w56 ⟨h, rfl, hl5, hb5⟩
        have HB5 := htr HBX hb5
        have hS5 := HSN.out _ HB5.out
        have hl2 := (hl2.below hbX).below hb5
        have hcX := (hb5.block _ hzX).trans hcX
        refine ⟨hS5, ?_⟩
        simp only [Act.put, List.getElem_toArray, List.getElem_cons_zero, List.getElem_cons_succ, List.setIfInBounds_toArray, List.set_cons_zero, List.set_cons_succ]
        refine tkE (i := 8) rfl (by assumption) ?_
        have hbx := hid (bx_done (e := e2) (by rfl) HB5.out (show w2.heap.size ≤ w21.heap.size from HB2.out.size) hcX hl2 hl5)
        refine takeE_storerowC (i := 10) (by kernel_rfl) rfl rfl 31 (.tmp 7) (.tmp 30) rfl w21.heap.size #[.slice (some ⟨g, 0, none⟩) a2.length (a2.length + 1), .slice (some ⟨h, 0, none⟩) b2.length (b2.length + 1), .bool e2] (by rfl) (by rfl) 31 _ hcX Tryd.infoSpan rfl (by simp [Value.oneCell']) (.inr rfl) ?_
        refine wpAnyE_done (by kernel_rfl) ?_ _
        show Only _ .normal _ _
        unfold Only
        go_wp2_with fail
        go_meet
        exact ⟨_, _, _, rfl, hbx⟩
    · refine wp_valueC (exec_alS _ _ rfl _) ?_
      obtain ⟨X, hX, hbX, hzX, hcX⟩ := box8 w2.drew (.cells #[.slice none 0 0, .slice none 0 0, .bool false] 31)
      rw [hX]
      clear hX
      have HBX := hid (hd.trans (hbX.mono hd.size))
      have hSX := HSN.out _ HBX.out
      refine ⟨.inl hSX, ?_⟩
      simp only [Act.put, List.getElem_toArray, List.getElem_cons_zero, List.getElem_cons_succ, List.setIfInBounds_toArray, List.set_cons_zero, List.set_cons_succ]
      refine takeE_callw (i := 2) #[.slice x3 a2.length c3] (fun u w' => ∃ g0, u = .slice (some ⟨g0, 0, none⟩) a2.length (a2.length + 1) ∧ Lends w2.heap.size w' (.slice (some ⟨g0, 0, none⟩) a2.length (a2.length + 1)) a2 ∧ Below X.heap.size X w') (by kernel_rfl) rfl (by rfl) rfl (by kernel_rfl) (enters_of Tryd.func13 (by kernel_rfl) rfl) (HL1.out X HBX.out) ?_
      rintro u2 w29 ⟨g, rfl, hl2, hb2⟩
      have HB2 := htr HBX hb2
      have hS2 := HSN.out _ HB2.out
      have hcX := (hb2.block _ hzX).trans hcX
      refine ⟨hS2, ?_⟩
      simp only [Act.put, List.getElem_toArray, List.getElem_cons_zero, List.getElem_cons_succ, List.setIfInBounds_toArray, List.set_cons_zero, List.set_cons_succ]
      refine takeE_callw (i := 5) #[.slice x4 b2.length c4] (fun u w' => ∃ g0, u = .slice (some ⟨g0, 0, none⟩) b2.length (b2.length + 1) ∧ Lends w2.heap.size w' (.slice (some ⟨g0, 0, none⟩) b2.length (b2.length + 1)) b2 ∧ Below w29.heap.size w29 w') (by kernel_rfl) rfl (by rfl) rfl (by kernel_rfl) (enters_of Tryd.func13 (by kernel_rfl) rfl) (HL2.out w29 HB2.out) ?_
      rintro u5 w510 ⟨h, rfl, hl5, hb5⟩
      have HB5 := htr HB2 hb5
      have hS5 := HSN.out _ HB5.out
      have hl2 := hl2.below hb5
      have hcX := (hb5.block _ (Nat.lt_of_lt_of_le hzX hb2.size)).trans hcX
      refine ⟨hS5, ?_⟩
      simp only [Act.put, List.getElem_toArray, List.getElem_cons_zero, List.getElem_cons_succ, List.setIfInBounds_toArray, List.set_cons_zero, List.set_cons_succ]
      refine tkE (i := 8) rfl (by assumption) ?_
      have hbx := hid (bx_done (e := e2) (by rfl) HB5.out (show w2.heap.size ≤ w2.drew.heap.size from hd.size) hcX hl2 hl5)
      refine takeE_storerowC (i := 10) (by kernel_rfl) rfl rfl 31 (.tmp 7) (.tmp 30) rfl w2.drew.heap.size #[.slice (some ⟨g, 0, none⟩) a2.length (a2.length + 1), .slice (some ⟨h, 0, none⟩) b2.length (b2.length + 1), .bool e2] (by rfl) (by rfl) 31 _ hcX Tryd.infoSpan rfl (by simp [Value.oneCell']) (.inr rfl) ?_
      refine wpAnyE_done (by kernel_rfl) ?_ _
      show Only _ .normal _ _
      unfold Only
      go_wp2_with fail
      go_meet
      exact ⟨_, _, _, rfl, hbx⟩
  obtain ⟨q, g3, g4, rfl, HY⟩ := hcut
  rename World => w3
  have HB3 := hid (HB2.out.trans (HY.out.1.mono HB2.out.size))
  have HPQ := hid (fun (V : World) (hb : Below w3.heap.size w3 V) => And.intro
    (row3 (((HY.out.1.trans (hb.mono HY.out.1.size)).block p (block_lt HX.out.2.2.1)).trans HX.out.2.2.1)) (row3 ((hb.block q (block_lt HY.out.2.2.1)).trans HY.out.2.2.1)))
  have HLX := hid (fun (V : World) (hb : Below w3.heap.size w3 V) => And.intro (HX.out.2.2.2.1.below (HY.out.1.trans (hb.mono HY.out.1.size))) (HX.out.2.2.2.2.below (HY.out.1.trans (hb.mono HY.out.1.size))))
  have HLY := hid (fun (V : World) (hb : Below w3.heap.size w3 V) => And.intro (HY.out.2.2.2.1.below hb) (HY.out.2.2.2.2.below hb))
  have HXY := hid (fun (V : World) (hb : Below w3.heap.size w3 V) => HR.out V (HB3.out.trans (hb.mono HB3.out.size)))
  have HSS := hid (fun (V : World) (hb : Below w3.heap.size w3 V) => And.intro (And.intro (HS1.out V (HB3.out.trans (hb.mono HB3.out.size))) (HS2.out V (HB3.out.trans (hb.mono HB3.out.size)))) (And.intro (HS3.out V (HB3.out.trans (hb.mono HB3.out.size))) (HS4.out V (HB3.out.trans (hb.mono HB3.out.size)))))
  have HYM := hid (fun (V : World) (hb : Below w3.heap.size w3 V) => (show Calls Tryd.prog 15 #[.agg #[.slice x1 a1.length c1, .slice x2 b1.length c2, .bool e1], .agg #[.slice x3 a2.length c3, .slice x4 b2.length c4, .bool e2]] V fun e w' => ∃ fv tv, e = .returned (.agg #[fv, tv, .bool s.en]) ∧ Says w' fv s.a ∧ Says w' tv s.b ∧ Below V.heap.size V w' from by
    have := ymeet_any (.slice x1 a1.length c1) (.slice x2 b1.length c2) (.slice x3 a2.length c3) (.slice x4 b2.length c4) e1 e2 a1 b1 a2 b2 V (HSS.out V hb).1.1 (HSS.out V hb).1.2 (HSS.out V hb).2.1 (HSS.out V hb).2.2
    rwa [hs] at this))
  have HE := hid (HB.out.trans (HB3.out.mono HB.out.size))
  have r1 := HPQ.out w3 (Below.refl _ _)
  have HLL := hid (show (a1.length ≤ 140737488351232 ∧ b1.length ≤ 140737488351232) ∧ (a2.length ≤ 140737488351232 ∧ b2.length ≤ 140737488351232) from ⟨⟨l1, l2⟩, ⟨l3, l4⟩⟩)
  have HM3 := hid (HMM.out w3 _ _ _ _ ((HLX.out w3 (Below.refl _ _)).1.shows (by unfold maxLen; omega)) ((HLX.out w3 (Below.refl _ _)).2.shows (by unfold maxLen; omega)) ((HLY.out w3 (Below.refl _ _)).1.shows (by unfold maxLen; omega)) ((HLY.out w3 (Below.refl _ _)).2.shows (by unfold maxLen; omega)))
  clear HR HR2 HF2 HT2 HS1 HS2 HS3 HS4 HMM HX HY HB2 HB3 HB HT hs l1 l2 l3 l4
  go_wp2_with fail
  refine HM3.out.mono ?_
  rintro e w4 ⟨f4, t4, rfl, hf4, ht4, hap4, hb4⟩
  obtain ⟨y1, d1, rfl⟩ := hf4.form
  obtain ⟨y2, d2, rfl⟩ := ht4.form
  clear HM3 r1
  go_wp2_with fail
  obtain ⟨X4, hX4, hbX, hzX, hcX⟩ := box8 w4 (.cells #[.slice y1 s.a.length d1, .slice y2 s.b.length d2, .bool s.en] 31)
  rw [hX4]
  clear hX4
  have HB4 := hid (hb4.trans (hbX.mono hb4.size))
  have HF4 := hid (hf4.new hbX)
  have HT4 := hid (ht4.new hbX)
  have HAP := hid hap4
  have HSN := hid (fun (V : World) (hb : Below X4.heap.size X4 V) => (show (fun V : World => (V.cell? ⟨w4.heap.size, 0, none⟩ = some (.slice y1 s.a.length d1) ∧ V.cell? ⟨w4.heap.size, 1, none⟩ = some (.slice y2 s.b.length d2) ∧ V.cell? ⟨w4.heap.size, 2, none⟩ = some (.bool s.en)) ∧ (V.cell? ⟨w.heap.size, 0, none⟩ = some (.slice x1 a1.length c1) ∧ V.cell? ⟨w.heap.size, 1, none⟩ = some (.slice x2 b1.length c2) ∧ V.cell? ⟨w.heap.size, 2, none⟩ = some (.bool e1)) ∧ (V.cell? ⟨w.heap.size + 1, 0, none⟩ = some (.slice x3 a2.length c3) ∧ V.cell? ⟨w.heap.size + 1, 1, none⟩ = some (.slice x4 b2.length c4) ∧ V.cell? ⟨w.heap.size + 1, 2, none⟩ = some (.bool e2))) V from by
    have rs := row3 ((hb.block w4.heap.size hzX).trans hcX)
    have xs := HXY.out V (HB4.out.trans (hb.mono HB4.out.size))
    exact ⟨⟨rs.1, rs.2.1, rs.2.2.1⟩, ⟨xs.1.1, xs.1.2.1, xs.1.2.2.1⟩, ⟨xs.2.1, xs.2.2.1, xs.2.2.2.1⟩⟩))
  clear hf4 ht4 hap4 hb4 hbX hzX hcX
  have hd : Below X4.heap.size X4 X4.drew := (Below.refl _ X4).drew
  have hS3 := HSN.out _ hd
  refine last_region (fun V : World => (V.cell? ⟨w4.heap.size, 0, none⟩ = some (.slice y1 s.a.length d1) ∧ V.cell? ⟨w4.heap.size, 1, none⟩ = some (.slice y2 s.b.length d2) ∧ V.cell? ⟨w4.heap.size, 2, none⟩ = some (.bool s.en)) ∧ (V.cell? ⟨w.heap.size, 0, none⟩ = some (.slice x1 a1.length c1) ∧ V.cell? ⟨w.heap.size, 1, none⟩ = some (.slice x2 b1.length c2) ∧ V.cell? ⟨w.heap.size, 2, none⟩ = some (.bool e1)) ∧ (V.cell? ⟨w.heap.size + 1, 0, none⟩ = some (.slice x3 a2.length c3) ∧ V.cell? ⟨w.heap.size + 1, 1, none⟩ = some (.slice x4 b2.length c4) ∧ V.cell? ⟨w.heap.size + 1, 2, none⟩ = some (.bool e2))) 5 (by kernel_rfl) ?_
  refine tkE (i := 0) rfl (by assumption) ?_
  refine tkE (i := 1) rfl (by assumption) ?_
  refine tkE (i := 2) rfl (by assumption) ?_
  refine takeE_callw (i := 3) #[.agg #[.slice x1 a1.length c1, .slice x2 b1.length c2, .bool e1], .agg #[.slice x3 a2.length c3, .slice x4 b2.length c4, .bool e2]] (fun u w' => ∃ f1 t1, u = .agg #[f1, t1, .bool s.en] ∧ Says w' f1 s.a ∧ Says w' t1 s.b ∧ Below X4.heap.size X4 w') (by kernel_rfl) rfl (by rfl) rfl (by kernel_rfl) (enters_of Tryd.func15 (by kernel_rfl) rfl) ((HYM.out X4.drew (HB4.out.drew)).mono fun e w' ⟨f1, t1, h1, h2, h3, h4⟩ => ⟨_, h1, f1, t1, rfl, h2, h3, hd.trans (h4.mono hd.size)⟩) ?_
  rintro u4 w5 ⟨f1, t1, rfl, hf5, ht5, hb5⟩
  have hS4 := HSN.out _ hb5
  have HB5 := hid hb5
  have HSM := hid (ysame_any (.slice y1 s.a.length d1) (.slice y2 s.b.length d2) f1 t1 s.en s.en s.a s.b s.a s.b w5 ((HF4.out.new hb5).says) ((HT4.out.new hb5).says) hf5 ht5)
  refine ⟨hS4, ?_⟩
  simp only [Act.put, List.getElem_toArray, List.getElem_cons_zero, List.getElem_cons_succ, List.setIfInBounds_toArray, List.set_cons_zero, List.set_cons_succ]
  clear hf5 ht5 hb5 hS3
  refine takeE_callw (i := 4) #[.agg #[.slice y1 s.a.length d1, .slice y2 s.b.length d2, .bool s.en], .agg #[f1, t1, .bool s.en]] (fun u w' => u = .bool true ∧ Below w5.heap.size w5 w') (by kernel_rfl) rfl (by rfl) rfl (by kernel_rfl) (enters_of Tryd.func10 (by kernel_rfl) rfl) (HSM.out.mono fun e w' ⟨h1, h2⟩ => ⟨_, h1, by simp, h2⟩) ?_
  rintro u5 w6 ⟨rfl, hb6⟩
  have HB6 := htr HB5 hb6
  have hS5 := HSN.out _ HB6.out
  refine ⟨hS5, ?_⟩
  simp only [Act.put, List.getElem_toArray, List.getElem_cons_zero, List.getElem_cons_succ, List.setIfInBounds_toArray, List.set_cons_zero, List.set_cons_succ]
  clear hS4 hb6 HSM
  refine takeE_value (i := 5) (by kernel_rfl) rfl rfl (v := .bool true) (by go_simp <;> with_reducible rfl) hS5 ?_
  simp only [Act.put, List.getElem_toArray, List.getElem_cons_zero, List.getElem_cons_succ, List.setIfInBounds_toArray, List.set_cons_zero, List.set_cons_succ]
  refine wpAnyE_done (by kernel_rfl) ?_ _
  show Only _ .normal _ _
  unfold Only
  have HOW := hid (own_span w3.heap.size w6 _ _ _ _ (Nat.le_trans HB4.out.size HB6.out.size) (HF4.out.new HB6.out) (HT4.out.new HB6.out) HAP.out)
  clear HSN HF4 HT4 HAP
  go_wp2_with fail
  refine HOW.out.mono ?_
  clear HOW
  rintro e w7 ⟨rfl, hb7⟩
  have HB7 := hid (show Below w3.heap.size w3 w7 from (HB4.out.trans (HB6.out.mono HB4.out.size)).trans hb7)
  clear hb7 hS5 HB6 HB5 HB4 hd
  have r1 := HPQ.out w7 HB7.out
  have r2 := HXY.out w7 HB7.out
  have HL7 := HLX.out w7 HB7.out
  have HM7 := HLY.out w7 HB7.out
  have HS7 := HSS.out w7 HB7.out
  have HL7 := hid HL7
  have HM7 := hid HM7
  have HS7 := hid HS7
  have HK1 := hid (kept_any _ _ _ (.slice x1 a1.length c1) a1 w7 HL7.out.1 HS7.out.1.1 HLL.out.1.1)
  have HK2 := hid (kept_any _ _ _ (.slice x2 b1.length c2) b1 w7 HL7.out.2 HS7.out.1.2 HLL.out.1.2)
  have HK3 := hid (kept_any _ _ _ (.slice x3 a2.length c3) a2 w7 HM7.out.1 HS7.out.2.1 HLL.out.2.1)
  have HK4 := hid (kept_any _ _ _ (.slice x4 b2.length c4) b2 w7 HM7.out.2 HS7.out.2.2 HLL.out.2.2)
  clear HLX HLY HSS HXY HPQ HYM HL7 HM7 HS7
  go_wp2_with fail
  refine HK1.out.mono ?_
  rintro e w8 ⟨rfl, hw8⟩
  rw [hw8]
  clear hw8 w8
  go_wp2_with fail
  refine HK2.out.mono ?_
  rintro e w8 ⟨rfl, hw8⟩
  rw [hw8]
  clear hw8 w8
  go_wp2_with fail
  refine HK3.out.mono ?_
  rintro e w8 ⟨rfl, hw8⟩
  rw [hw8]
  clear hw8 w8
  go_wp2_with fail
  refine HK4.out.mono ?_
  rintro e w8 ⟨rfl, hw8⟩
  rw [hw8]
  clear hw8 w8
  go_wp2_with fail
  go_ret
  exact ⟨rfl, HE.out.trans (HB7.out.mono HE.out.size)⟩

theorem planMeets_w (f1 t1 : Value) (e1 : Bool) (a1 b1 : List UInt8) (f2 t2 : Value) (e2 : Bool) (a2 b2 : List UInt8) (w : World) (h1 : Lent8 w.heap.size w f1 a1) (h2 : Lent8 w.heap.size w t1 b1) (h3 : Lent8 w.heap.size w f2 a2) (h4 : Lent8 w.heap.size w t2 b2) (ht : TstAt w) :
    Calls Tryd.prog 4 #[.agg #[f1, t1, .bool e1], .agg #[f2, t2, .bool e2]] w fun e w' => e = .returned (.bool true) ∧ Below w.heap.size w w' :=
  planMeets_law f1 t1 f2 t2 e1 e2 a1 b1 a2 b2 w ht h1.1 h2.1 h3.1 h4.1 h1.2 h2.2 h3.2 h4.2
end Go.Proofs.YthjgbcbgkafgjaaDoor
