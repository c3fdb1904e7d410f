/- How a round of RegistryPlays begins; small facts for its walk. -/
import Derived.Test.YtnhgjjpjmfjmjaaPlaysF
namespace Go.Proofs.Ytnhgjjpjmfjmjaa
open Go.RowKit Go.Maps
set_option linter.unusedVariables false

theorem Lends.mono {B B' : Nat} {w : World} {v : Value} {bs : List UInt8} (h : Lends B w v bs) (hB : B' ≤ B) : Lends B' w v bs := by
  obtain ⟨g, rfl, ho⟩ := h
  exact ⟨g, rfl, owns_lower ho (fun g' hg => Nat.le_trans hB (ho.lt g' hg).1)⟩

theorem Bd.make {B : Nat} {w wr w4 : World} {vr vx : Value} {L : List Pr} {d who : Int} {vb : Value} {n : Int} {vin : Value} {bs : List UInt8} (hX : RX B wr vr vx L) (hb : Below B w wr) (hB : B ≤ w.heap.size) (shb : Shows B wr vb bs) (iw : I64 who) (id : I64 d) (inn : I64 n) (hl : bs.length ≤ 140737488351232)
    (hLn : Lends (wr.alloc (.cells #[.int .i64 d, .int .i64 who, vb, .int .i64 n] 30)).heap.size w4 vin bs) (hb4 : Below (wr.alloc (.cells #[.int .i64 d, .int .i64 who, vb, .int .i64 n] 30)).heap.size (wr.alloc (.cells #[.int .i64 d, .int .i64 who, vb, .int .i64 n] 30)) w4) :
    Bd B w w4 vr vx L L wr.heap.size d who vb n vin bs := by
  obtain ⟨S, T, h1, h2, h3, h4, h5⟩ := hX
  have hsz := hb.size
  have e1 : (wr.alloc (.cells #[.int .i64 d, .int .i64 who, vb, .int .i64 n] 30)).heap.size = wr.heap.size + 1 := by simp
  have hbn : Below wr.heap.size wr w4 := (new_allocR wr _).trans (hb4.mono (by rw [e1]; omega))
  have off : ∀ i, i < wr.heap.size → B ≤ i → Off B wr.heap.size vin i := fun i hi hBi => ⟨hBi, by omega, fun e => by have := (hLn.ltR i e).1; omega⟩
  refine ⟨⟨S, T, h1.new hbn, h2.new hbn, fun i hi => off i (h1.lt i hi) (h3 i hi), fun i hi => off i (h2.lt i hi) (h4 i hi), h5⟩, ?_, hLn.mono (by omega), ?_, by omega, fun e => by have := (hLn.ltR _ e).1; omega, hb.trans (hbn.mono (by omega)), hB, iw, id, inn, hl⟩
  · rw [hb4.block wr.heap.size (by omega)]
    exact heap_alloc_new wr _
  · exact shb.below (hbn.mono (by omega))

theorem Bd.cell1 {B : Nat} {w W : World} {vr vx : Value} {L M : List Pr} {pa : Nat} {d who : Int} {vb : Value} {n : Int} {vin : Value} {bs : List UInt8} (h : Bd B w W vr vx L M pa d who vb n vin bs) : W.cell? ⟨pa, 1, none⟩ = some (.int .i64 who) := h.cell.2.1

theorem Bd.cell2 {B : Nat} {w W : World} {vr vx : Value} {L M : List Pr} {pa : Nat} {d who : Int} {vb : Value} {n : Int} {vin : Value} {bs : List UInt8} (h : Bd B w W vr vx L M pa d who vb n vin bs) : W.cell? ⟨pa, 1, none⟩ = some (.int .i64 who) ∧ W.cell? ⟨pa, 2, none⟩ = some vb := ⟨h.cell.2.1, h.cell.2.2.1⟩

theorem RowsFAt.new {w w' : World} {B : Nat} {v : Value} {rows : List (List UInt8)} (h : RowsFAt w B v rows) (hb : Below w.heap.size w w') : RowsFAt w' B v rows := by
  obtain ⟨vs, ho, hF⟩ := h
  exact ⟨vs, (Spares.of_new (S := fun _ => False) hb).row ho (fun _ _ => id), hF.new hb⟩

theorem RowsFAt.form {w : World} {B : Nat} {v : Value} {rows : List (List UInt8)} (h : RowsFAt w B v rows) : ∃ a c, v = .slice a rows.length c ∧ c ≤ maxLen := by
  obtain ⟨vs, ho, hF⟩ := h
  obtain ⟨a, c, e, _, h2⟩ := own_formR ho
  exact ⟨a, c, e, h2⟩

theorem RX.count {B : Nat} {W : World} {vr vx : Value} {L : List Pr} (h : RX B W vr vx L) (nq : Nat) : Calls Try.prog 24 #[vr] (W.drewN nq) fun e w' => e = .returned (.int .i64 (L.length : Int)) ∧ w' = W.drewN nq := by
  obtain ⟨S, T, h1, h2, h3, h4, h5⟩ := h
  exact count_any vr L S _ (h1.new (below_drewN (Below.refl _ _) nq))

theorem RX.xl {B : Nat} {W : World} {vr : Value} {xb : Nat} {L : List Pr} (h : RX B W vr (.pointer (some ⟨xb, 0, none⟩)) L) : ∃ a c, W.cell? ⟨xb, 0, none⟩ = some (.slice a L.length c) ∧ c ≤ maxLen := by
  obtain ⟨S, T, h1, ⟨xb', vl, e, h2⟩, h3, h4, h5⟩ := h
  simp only [Value.pointer.injEq, Option.some.injEq, Addr.mk.injEq, and_true] at e
  subst e
  obtain ⟨a, c, rfl, _, hc⟩ := own_form2 h2.row
  exact ⟨a, c, h2.cell, hc⟩

theorem shows_nil (B : Nat) (w : World) : Shows B w nilS [] := ⟨none, 0, rfl, Nat.le_refl _, Nat.zero_le _, fun _ => rfl, fun h => absurd rfl h⟩

theorem such_one {n : Int} {rows : List (List UInt8)} {r r' : List UInt8} (h : Such n rows r) (h' : Such n rows r') : r = r' := by
  have := h.2.symm.trans h'.2
  exact Option.some.inj this

theorem such_not {n : Int} {rows : List (List UInt8)} {r : List UInt8} (h : Such n rows r) (h' : NoSuch n rows) : False := by
  refine h' ⟨h.1, ?_⟩
  have h1 := (List.getElem?_eq_some_iff.1 h.2).1
  have h2 := h.1
  omega

theorem start_RX (w : World) : Calls Try.prog 8 #[] w fun e w2 => ∃ rb, e = .returned (.pointer (some ⟨rb, 0, none⟩)) ∧ Below w.heap.size w w2 ∧
    Calls Try.prog 9 #[] w2 fun e w3 => ∃ xb, e = .returned (.pointer (some ⟨xb, 0, none⟩)) ∧ RX w.heap.size w3 (.pointer (some ⟨rb, 0, none⟩)) (.pointer (some ⟨xb, 0, none⟩)) [] ∧ Below w2.heap.size w2 w3 := by
  refine (new_any w).mono ?_
  rintro e w2 ⟨v, rfl, hR, hb⟩
  obtain ⟨rb, rfl⟩ := hR.ptr
  refine ⟨rb, rfl, hb, ?_⟩
  refine (rnew_any w2).mono ?_
  rintro e w3 ⟨xb, rfl, hX, hb3⟩
  exact ⟨xb, rfl, ⟨_, _, hR.new hb3, hX, fun i hi => hi.1, fun i hi => Nat.le_trans hb.size hi.1, fun i hi ht => by omega⟩, hb3⟩
end Go.Proofs.Ytnhgjjpjmfjmjaa
