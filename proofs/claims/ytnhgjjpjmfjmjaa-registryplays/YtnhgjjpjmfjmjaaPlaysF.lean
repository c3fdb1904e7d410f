/- What a round of RegistryPlays has in hand: the registry, the document's own one, the act, the lent bytes. -/
import Derived.Test.YtnhgjjpjmfjmjaaCopyF
import Derived.Test.YtnhgjjpjmfjmjaaOwnedF
import Derived.Test.YtnhgjjpjmfjmjaaSameF
import Derived.Test.YtnhgjjpjmfjmjaaRefSg
import Derived.Test.YtnhgjjpjmfjmjaaRefBy
namespace Go.Proofs.Ytnhgjjpjmfjmjaa
open Go.RowKit Go.Maps
set_option linter.unusedVariables false

/-- The registry and the document's own one, with the same pairs; they share no block. -/
def RX (B : Nat) (w : World) (vr vx : Value) (L : List Pr) : Prop :=
  ∃ S T, Reg w vr L S ∧ RefG w vx L T ∧ (∀ i, S i → B ≤ i) ∧ (∀ i, T i → B ≤ i) ∧ ∀ i, S i → ¬ T i

theorem RX.new {B : Nat} {w w' : World} {vr vx : Value} {L : List Pr} (h : RX B w vr vx L) (hb : Below w.heap.size w w') : RX B w' vr vx L := by
  obtain ⟨S, T, h1, h2, h3, h4, h5⟩ := h
  exact ⟨S, T, h1.new hb, h2.new hb, h3, h4, h5⟩

/-- A block that the round's own things do not lie in. -/
def Off (B pa : Nat) (vin : Value) (i : Nat) : Prop := B ≤ i ∧ i ≠ pa ∧ vin.ownBlock ≠ some i

structure Bd (B : Nat) (w W : World) (vr vx : Value) (L M : List Pr) (pa : Nat) (d who : Int) (vb : Value) (n : Int) (vin : Value) (bs : List UInt8) : Prop where
  two : ∃ S T, Reg W vr L S ∧ RefG W vx M T ∧ (∀ i, S i → Off B pa vin i) ∧ (∀ i, T i → Off B pa vin i) ∧ ∀ i, S i → ¬ T i
  act : W.heap[pa]? = some (.cells #[.int .i64 d, .int .i64 who, vb, .int .i64 n] 30)
  lent : Lends B W vin bs
  shb : Shows B W vb bs
  lo : B ≤ pa
  ne : vin.ownBlock ≠ some pa
  below : Below B w W
  hB : B ≤ w.heap.size
  iw : I64 who
  id : I64 d
  inn : I64 n
  hl : bs.length ≤ 140737488351232

theorem Lends.spares {S : Nat → Prop} {B : Nat} {w w' : World} {v : Value} {bs : List UInt8} (h : Lends B w v bs) (hk : Spares S w w') (hS : ∀ g, v.ownBlock = some g → ¬ S g) : Lends B w' v bs := by
  obtain ⟨g, rfl, ho⟩ := h
  exact ⟨g, rfl, hk.row ho fun k hk => hS k hk⟩

theorem Lends.ltR {B : Nat} {w : World} {v : Value} {bs : List UInt8} (h : Lends B w v bs) : ∀ k, v.ownBlock = some k → B ≤ k ∧ k < w.heap.size := by
  obtain ⟨g, rfl, ho⟩ := h
  intro k hk
  exact ho.lt k hk

section
variable {B : Nat} {w W : World} {vr vx : Value} {L M : List Pr} {pa : Nat} {d who : Int} {vb : Value} {n : Int} {vin : Value} {bs : List UInt8}

theorem Bd.pa_lt (h : Bd B w W vr vx L M pa d who vb n vin bs) : pa < W.heap.size := (Array.getElem?_eq_some_iff.1 h.act).1

theorem Bd.size (h : Bd B w W vr vx L M pa d who vb n vin bs) : B ≤ W.heap.size := Nat.le_trans h.hB h.below.size

/-- A new block is off. -/
theorem Bd.off_new (h : Bd B w W vr vx L M pa d who vb n vin bs) {i : Nat} (hi : W.heap.size ≤ i) : Off B pa vin i := by
  have h1 := h.size
  have h2 := h.pa_lt
  refine ⟨by omega, by omega, fun e => ?_⟩
  have := (h.lent.ltR i e).2
  omega

theorem Bd.spares (h : Bd B w W vr vx L M pa d who vb n vin bs) {U : Nat → Prop} {W' : World} {vr' : Value} {L' M' : List Pr} (hk : Spares U W W') (hU : ∀ i, U i → Off B pa vin i)
    (two' : ∃ S T, Reg W' vr' L' S ∧ RefG W' vx M' T ∧ (∀ i, S i → Off B pa vin i) ∧ (∀ i, T i → Off B pa vin i) ∧ ∀ i, S i → ¬ T i) : Bd B w W' vr' vx L' M' pa d who vb n vin bs :=
  ⟨two', (hk.block pa h.pa_lt fun hu => (hU pa hu).2.1 rfl).trans h.act, h.lent.spares hk (fun g hg hu => (hU g hu).2.2 hg), h.shb.keeps hk (fun i hi hu => by have := (hU i hu).1; omega), h.lo, h.ne,
    h.below.trans (hk.below (fun i hi => (hU i hi).1) h.size), h.hB, h.iw, h.id, h.inn, h.hl⟩

theorem Bd.new (h : Bd B w W vr vx L M pa d who vb n vin bs) {W' : World} (hb : Below W.heap.size W W') : Bd B w W' vr vx L M pa d who vb n vin bs := by
  obtain ⟨S, T, h1, h2, h3, h4, h5⟩ := h.two
  exact h.spares (U := fun _ => False) (Spares.of_new hb) (fun _ hi => hi.elim) ⟨S, T, h1.new hb, h2.new hb, h3, h4, h5⟩

theorem Bd.cell (h : Bd B w W vr vx L M pa d who vb n vin bs) : W.cell? ⟨pa, 0, none⟩ = some (.int .i64 d) ∧ W.cell? ⟨pa, 1, none⟩ = some (.int .i64 who) ∧ W.cell? ⟨pa, 2, none⟩ = some vb ∧ W.cell? ⟨pa, 3, none⟩ = some (.int .i64 n) :=
  ⟨cell_of_row _ _ _ _ _ _ h.act, cell_of_row _ _ _ _ _ _ h.act, cell_of_row _ _ _ _ _ _ h.act, cell_of_row _ _ _ _ _ _ h.act⟩

theorem Bd.shin (h : Bd B w W vr vx L M pa d who vb n vin bs) : Shows W.heap.size W vin bs := h.lent.shows (by have := h.hl; unfold maxLen; omega)

theorem Bd.shv (h : Bd B w W vr vx L M pa d who vb n vin bs) : Shows W.heap.size W vb bs := h.shb.mono h.size

theorem sign_Bd (h : Bd B w W vr vx L M pa d who vb n vin bs) (hL : L.length ≤ 1000) :
    Calls Try.prog 11 #[vr, .int .i64 who, vin] W fun e W' => e = .returned (.int .i64 (signE who bs)) ∧ Bd B w W' vr vx (signL L who bs) M pa d who vb n vin bs := by
  obtain ⟨S, T, h1, h2, h3, h4, h5⟩ := h.two
  refine (sign_any vr vin who bs L S W h1 h.iw h.shin (by omega)).mono ?_
  rintro e W' ⟨rfl, hR2, hk⟩
  refine ⟨rfl, h.spares hk h3 ⟨_, T, hR2, h2.keeps hk (fun i hi hs => h5 i hs hi), fun i hi => ?_, h4, fun i hi ht => ?_⟩⟩
  · rcases hi with hi | hi
    · exact h3 i hi
    · exact h.off_new hi.1
  · rcases hi with hi | hi
    · exact h5 i hi ht
    · have := h2.lt i ht; omega

theorem rsign_Bd (h : Bd B w W vr vx L M pa d who vb n vin bs) (hL : M.length ≤ 1000) :
    Calls Try.prog 12 #[vx, .int .i64 who, vb] W fun e W' => e = .returned (.int .i64 (signE who bs)) ∧ Bd B w W' vr vx L (signL M who bs) pa d who vb n vin bs := by
  obtain ⟨S, T, h1, h2, h3, h4, h5⟩ := h.two
  refine (rsign_any vx vb who bs M T W h2 h.iw h.shv (by omega)).mono ?_
  rintro e W' ⟨rfl, hR2, hk⟩
  refine ⟨rfl, h.spares hk h4 ⟨S, _, h1.keeps hk (fun i hi hs => h5 i hi hs), hR2, h3, fun i hi => ?_, fun i hi ht => ?_⟩⟩
  · rcases hi with hi | hi
    · exact h4 i hi
    · exact h.off_new hi.1
  · rcases ht with ht | ht
    · exact h5 i hi ht
    · have := h1.lt i hi; omega

theorem knows_Bd (h : Bd B w W vr vx L M pa d who vb n vin bs) :
    Calls Try.prog 13 #[vr, .int .i64 who, vin] W fun e W' => e = .returned (.bool (decide ((who, bs) ∈ L))) ∧ Bd B w W' vr vx L M pa d who vb n vin bs := by
  obtain ⟨S, T, h1, h2, h3, h4, h5⟩ := h.two
  refine (knows_any vr vin who bs L S W h1 h.iw h.shin).mono ?_
  rintro e W' ⟨rfl, hb⟩
  exact ⟨rfl, h.new hb⟩

theorem rknows_Bd (h : Bd B w W vr vx L M pa d who vb n vin bs) (hL : M.length ≤ 1000) :
    Calls Try.prog 14 #[vx, .int .i64 who, vb] W fun e W' => e = .returned (.bool (decide ((who, bs) ∈ M))) ∧ Bd B w W' vr vx L M pa d who vb n vin bs := by
  obtain ⟨S, T, h1, h2, h3, h4, h5⟩ := h.two
  refine (rknows_any vx vb who bs M T W h2 h.iw h.shv (by omega)).mono ?_
  rintro e W' ⟨rfl, hb⟩
  exact ⟨rfl, h.new hb⟩

theorem by_Bd (h : Bd B w W vr vx L M pa d who vb n vin bs) (hL : L.length ≤ 1000) :
    Calls Try.prog 15 #[vr, .int .i64 who] W fun e W' => ∃ v', e = .returned v' ∧ RowsFAt W' W.heap.size v' (textsOf L who) ∧ Below W.heap.size W W' := by
  obtain ⟨S, T, h1, h2, h3, h4, h5⟩ := h.two
  exact by_any vr who L S W h1 h.iw (by omega)

theorem rby_Bd (h : Bd B w W vr vx L M pa d who vb n vin bs) (hL : M.length ≤ 1000) :
    Calls Try.prog 17 #[vx, .int .i64 who] W fun e W' => ∃ v', e = .returned v' ∧ RowsFAt W' W.heap.size v' (textsOf M who) ∧ Below W.heap.size W W' := by
  obtain ⟨S, T, h1, h2, h3, h4, h5⟩ := h.two
  exact rby_any vx who M T W h2 h.iw (by omega)

theorem many_Bd (h : Bd B w W vr vx L M pa d who vb n vin bs) :
    Calls Try.prog 22 #[vr, .int .i64 who] W fun e W' => e = .returned (.int .i64 ((textsOf L who).length : Int)) ∧ W' = W := by
  obtain ⟨S, T, h1, h2, h3, h4, h5⟩ := h.two
  exact many_any vr who L S W h1 h.iw

theorem text_Bd (h : Bd B w W vr vx L M pa d who vb n vin bs) :
    Calls Try.prog 20 #[vr, .int .i64 who, .int .i64 n] W fun e W' => (NoSuch n (textsOf L who) ∧ e = .returned (.tuple #[nilS, .bool false]) ∧ W' = W) ∨
      ∃ v' r, Such n (textsOf L who) r ∧ r.length ≤ 65536 ∧ e = .returned (.tuple #[v', .bool true]) ∧ OwnF W.heap.size W' v' r ∧ Below W.heap.size W W' := by
  obtain ⟨S, T, h1, h2, h3, h4, h5⟩ := h.two
  exact rtext_any vr who n L S W h1 h.iw h.inn

theorem rtext_Bd (h : Bd B w W vr vx L M pa d who vb n vin bs) (hL : M.length ≤ 1000) :
    Calls Try.prog 21 #[vx, .int .i64 who, .int .i64 n] W fun e W' => (NoSuch n (textsOf M who) ∧ e = .returned (.tuple #[nilS, .bool false]) ∧ Below W.heap.size W W') ∨
      ∃ v' r, Such n (textsOf M who) r ∧ e = .returned (.tuple #[v', .bool true]) ∧ OwnF W.heap.size W' v' r ∧ Below W.heap.size W W' := by
  obtain ⟨S, T, h1, h2, h3, h4, h5⟩ := h.two
  exact rrtext_any vx who n M T W h2 h.iw h.inn (by omega)

/-- The registry, its copy, the document's own one. -/
def Tri (B : Nat) (W : World) (vr vc vx : Value) (L M : List Pr) (pa : Nat) (vin : Value) : Prop :=
  ∃ S Q T, Reg W vr L S ∧ Reg W vc L Q ∧ RefG W vx M T ∧ (∀ i, S i → Off B pa vin i) ∧ (∀ i, Q i → Off B pa vin i) ∧ (∀ i, T i → Off B pa vin i) ∧ (∀ i, S i → ¬ Q i) ∧ (∀ i, S i → ¬ T i) ∧ ∀ i, Q i → ¬ T i

theorem copy_Bd (h : Bd B w W vr vx L M pa d who vb n vin bs) (hL : L.length ≤ 1000) :
    Calls Try.prog 19 #[vr] W fun e W' => ∃ cb, e = .returned (.pointer (some ⟨cb, 0, none⟩)) ∧ Tri B W' vr (.pointer (some ⟨cb, 0, none⟩)) vx L M pa vin ∧ Bd B w W' vr vx L M pa d who vb n vin bs := by
  obtain ⟨S, T, h1, h2, h3, h4, h5⟩ := h.two
  refine (copy_any vr L S W h1 (by omega)).mono ?_
  rintro e W' ⟨v', rfl, hR2, hb⟩
  obtain ⟨cb, rfl⟩ := hR2.ptr
  refine ⟨cb, rfl, ⟨S, _, T, h1.new hb, hR2, h2.new hb, h3, fun i hi => h.off_new hi.1, h4, fun i hi hq => ?_, h5, fun i hq ht => ?_⟩, h.new hb⟩
  · have := h1.lt i hi; omega
  · have := h2.lt i ht; omega

theorem signOld_Bd {vc : Value} (h : Bd B w W vr vx L M pa d who vb n vin bs) (ht : Tri B W vr vc vx L M pa vin) (hL : L.length ≤ 1000) :
    Calls Try.prog 11 #[vr, .int .i64 who, vin] W fun e W' => e = .returned (.int .i64 (signE who bs)) ∧ Bd B w W' vc vx L M pa d who vb n vin bs := by
  obtain ⟨S, Q, T, h1, h2, h3, h4, h5, h6, h7, h8, h9⟩ := ht
  refine (sign_any vr vin who bs L S W h1 h.iw h.shin (by omega)).mono ?_
  rintro e W' ⟨rfl, hR2, hk⟩
  exact ⟨rfl, h.spares hk h4 ⟨Q, T, h2.keeps hk (fun i hi hs => h7 i hs hi), h3.keeps hk (fun i hi hs => h8 i hs hi), h5, h6, h9⟩⟩

theorem kept_Bd (h : Bd B w W vr vx L M pa d who vb n vin bs) : Calls Try.prog 23 #[vin, vb] W fun e W' => e = .returned (.bool true) ∧ W' = W :=
  kept_any B B vin vb bs W h.lent h.shb h.hl

theorem made_one (w : World) (b : Value) : (w.alloc (.cells #[b] 28)).ownsRow w.heap.size 28 1 (.slice (some ⟨w.heap.size, 0, none⟩) 1 1) 1 [b] :=
  ⟨rfl, .inr ⟨w.heap.size, 1, #[b], rfl, Nat.le_refl _, heap_alloc_new w _, Nat.le_refl _, by unfold maxLen; omega, rfl, rfl⟩⟩

theorem apartF_one (b : Value) : ApartF [b] := fun i j u v g hu hv hij => by
  have h1 := (List.getElem?_eq_some_iff.1 hu).1
  have h2 := (List.getElem?_eq_some_iff.1 hv).1
  simp at h1 h2
  omega

/-- Owned of one slice. -/
theorem ownOne (B : Nat) (W : World) (b : Value) (hB : B ≤ W.heap.size) (hb : ∃ ys, FullF B W b ys) :
    Calls Try.prog 18 #[.slice (some ⟨W.heap.size, 0, none⟩) 1 1] (W.alloc (.cells #[b] 28)) fun e W' => e = .returned (.bool true) ∧ Spares (fun i => b.ownBlock = some i) W W' := by
  obtain ⟨ys, hf⟩ := hb
  have hk : Spares (fun _ => False) W (W.alloc (.cells #[b] 28)) := Spares.of_new (new_allocR W _)
  refine (ownedF_any B _ [b] _ (by simp; omega) (owns_lower (made_one W b) (fun g hg => by simp only [Value.ownBlock, Option.some.injEq] at hg; omega)) ?_ (apartF_one b) (by simp)).mono ?_
  · intro j v hv
    have hj : j = 0 := by have := (List.getElem?_eq_some_iff.1 hv).1; simp at this; omega
    subst hj
    simp only [List.getElem?_cons_zero, Option.some.injEq] at hv
    subst hv
    exact ⟨ys, hf.spares hk (fun _ _ => id), fun h => by omega⟩
  · rintro e W' ⟨rfl, h2⟩
    refine ⟨rfl, (Spares.of_new (new_allocR W _)).andThen (h2.mono (T := fun i => b.ownBlock = some i) fun i hi => ?_) (fun i hi => .inl hi)⟩
    obtain ⟨v, hv, e⟩ := hi
    simp only [List.mem_singleton] at hv
    subst hv
    exact e

/-- Owned of the rows that By handed back. -/
theorem ownRows (W0 W : World) (v : Value) (rows : List (List UInt8)) (hr : RowsFAt W W0.heap.size v rows) (hb : Below W0.heap.size W0 W) (hl : rows.length ≤ 100000) :
    Calls Try.prog 18 #[v] W fun e W' => e = .returned (.bool true) ∧ Below W0.heap.size W0 W' := by
  obtain ⟨vs, ho, hF⟩ := hr
  have hlen := hF.len
  rw [← hlen] at ho
  refine (ownedF_any W0.heap.size v vs W hb.size ho ?_ ?_ (by omega)).mono ?_
  · intro j u hu
    have hj : j < rows.length := by rw [← hlen]; exact (List.getElem?_eq_some_iff.1 hu).1
    obtain ⟨ys, hf⟩ := (hF.own j u rows[j] hu (List.getElem?_eq_getElem hj)).full
    exact ⟨ys, hf, fun h => by omega⟩
  · intro i j u u' g hu hu' hij e1 e2
    exact hF.apart i j u u' hu hu' hij (by rw [e1, e2])
  · rintro e W' ⟨rfl, h2⟩
    refine ⟨rfl, hb.trans (h2.below (fun i hi => ?_) hb.size)⟩
    obtain ⟨u, hu, e⟩ := hi
    exact (hF.lt u hu i e).1

/-- At the round's end: the lent bytes are written over. -/
theorem tail_Bd (h : Bd B w W vr vx L L pa d who vb n vin bs) :
    Calls Try.prog 18 #[.slice (some ⟨W.heap.size, 0, none⟩) 1 1] (W.alloc (.cells #[vin] 28)) fun e W' => e = .returned (.bool true) ∧ RX B W' vr vx L ∧ Below B w W' := by
  refine (ownOne B W vin h.size h.lent.fullF).mono ?_
  rintro e W' ⟨rfl, hk⟩
  obtain ⟨S, T, h1, h2, h3, h4, h5⟩ := h.two
  exact ⟨rfl, ⟨S, T, h1.keeps hk (fun i hi => (h3 i hi).2.2), h2.keeps hk (fun i hi => (h4 i hi).2.2), fun i hi => (h3 i hi).1, fun i hi => (h4 i hi).1, h5⟩,
    h.below.trans (hk.below (fun i hi => (h.lent.ltR i hi).1) h.size)⟩
end
end Go.Proofs.Ytnhgjjpjmfjmjaa
