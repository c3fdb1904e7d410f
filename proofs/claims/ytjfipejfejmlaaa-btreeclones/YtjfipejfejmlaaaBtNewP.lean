/- newPage: a page of a row of entries and a row of pages. -/
import Derived.Test.YtjfipejfejmlaaaBtRaw
namespace Go.Proofs.Ytjfipejfejmlaaa
open Go.RowKit Go.Shelf
set_option linter.unusedVariables false
set_option linter.unusedSimpArgs false
set_option maxRecDepth 20000

/-- A PAGE AS IT LIES: its row of entries, its row of pages. -/
structure Pag (w : World) (B pb : Nat) (se sp fv : Value) (ne np : Nat) (ce cp : List Value) : Prop where
  blk : w.heap[pb]? = some (.cells #[se, sp, fv] 66 (0, 0))
  low : B ≤ pb
  rowe : w.ownsRow B 46 2 se ne ce
  rowp : w.ownsRow B 53 1 sp np cp

theorem Pag.new {w w' : World} {B pb ne np : Nat} {se sp fv : Value} {ce cp : List Value} (h : Pag w B pb se sp fv ne np ce cp) (hb : Below w.heap.size w w') : Pag w' B pb se sp fv ne np ce cp :=
  ⟨(hb.block _ (block_lt h.blk)).trans h.blk, h.low, (Spares.of_new (S := fun _ => False) hb).row h.rowe (fun _ _ => id), (Spares.of_new (S := fun _ => False) hb).row h.rowp (fun _ _ => id)⟩

theorem Pag.lower {w : World} {B B' pb ne np : Nat} {se sp fv : Value} {ce cp : List Value} (h : Pag w B pb se sp fv ne np ce cp) (hB : B' ≤ B) : Pag w B' pb se sp fv ne np ce cp :=
  ⟨h.blk, Nat.le_trans hB h.low, owns_lower h.rowe (fun g hg => Nat.le_trans hB (h.rowe.lt g hg).1), owns_lower h.rowp (fun g hg => Nat.le_trans hB (h.rowp.lt g hg).1)⟩

theorem row_slice {w : World} {B e s n : Nat} {v : Value} {xs : List Value} (h : w.ownsRow B e s v n xs) : ∃ a c, v = .slice a n c := by
  rcases h.2 with ⟨rfl, hn⟩ | ⟨g, cap, cur, rfl, _⟩
  · exact ⟨none, 0, by rw [hn]⟩
  · exact ⟨_, _, rfl⟩

/-- What newPage takes for the first key. -/
def firstV (np ne : Nat) (fb fe : Value) : Value := if 0 < np then fb else if 0 < ne then fe else nilS

set_option maxHeartbeats 4000000 in
theorem newPage_any (ev bv : Value) (ne np : Nat) (ce cp : List Value) (fb fe : Value) (w : World) (he : Rw w 2 ev ne ce) (hp : Rw w 1 bv np cp) (hne : ne < 1000000000) (hnp : np < 1000000000)
    (hfb : 0 < np → ∃ b0, cp[0]? = some (.pointer (some ⟨b0, 0, none⟩)) ∧ w.cell? ⟨b0, 2, none⟩ = some fb ∧ ∃ a l c, fb = .slice a l c) (hfe : 0 < ne → ce[0]? = some fe ∧ ∃ a l c, fe = .slice a l c) :
    Calls Try.prog 23 #[ev, bv] w fun e w' => ∃ pb se sp, e = .returned (.pointer (some ⟨pb, 0, none⟩)) ∧ Pag w' w.heap.size pb se sp (firstV np ne fb fe) ne np ce cp ∧ (ev = nilS → se = nilS) ∧ (bv = nilS → sp = nilS) ∧ Below w.heap.size w w' := by
  obtain ⟨a1, c1, rfl, p1, p2, _⟩ := id he
  obtain ⟨a2, c2, rfl, p3, p4, _⟩ := id hp
  have HCE := scloneE_any _ ne ce w he hne
  have HP := hid hp
  have HE := hid he
  have HFB := hid hfb
  have HFE := hid hfe
  clear hfb hfe hp he
  by_cases hnp0 : 0 < np
  · obtain ⟨b0, q0, qc, fa, fl, fc, rfl⟩ := HFB.out hnp0
    have hpi : (0 : Int) < (np : Int) := by omega
    go_enter Try.func23, Try.ntmps23
    go_wp2_with (first
      | (go_at_call 42; refine HCE.mono ?_; clear HCE; rintro e w1 ⟨v1, rfl, ho1, hn1, hb1⟩
         obtain ⟨b1, d1, rfl⟩ := row_slice ho1
         have HCP := scloneP_any _ np cp w1 (HP.out.new hb1) hnp)
      | (go_at_call 43; refine HCP.mono ?_; clear HCP; rintro e w2 ⟨v2, rfl, ho2, hn2, hb2⟩
         obtain ⟨b2, d2, rfl⟩ := row_slice ho2
         have hz1 := hb1.size
         have hz2 := hb2.size
         have hb12 : Below w.heap.size w w2 := hb1.trans (hb2.mono hz1)
         have ho1' := ((Spares.of_new (S := fun _ => False) hb2).row ho1 (fun _ _ => id))
         have ho2' := owns_lower ho2 (B' := w.heap.size) (fun g hg => by have := (ho2.lt g hg).1; omega)
         have hbn : Below w2.heap.size w2 (w2.alloc (.cells #[.slice b1 ne d1, .slice b2 np d2, .slice none 0 0] 66)) := (Below.refl _ _).alloc (Nat.le_refl _) _
         have hnew := World.alloc_heap_new w2 (.cells #[.slice b1 ne d1, .slice b2 np d2, .slice none 0 0] 66)
         have HPG : Hid (∀ fv, Pag (w2.alloc (.cells #[.slice b1 ne d1, .slice b2 np d2, fv] 66)) w.heap.size w2.heap.size (.slice b1 ne d1) (.slice b2 np d2) fv ne np ce cp) := hid fun fv => have hbn : Below w2.heap.size w2 (w2.alloc (.cells #[.slice b1 ne d1, .slice b2 np d2, fv] 66)) := (Below.refl _ _).alloc (Nat.le_refl _) _; ⟨World.alloc_heap_new w2 _, by omega, (Spares.of_new (S := fun _ => False) hbn).row ho1' (fun _ _ => id), (Spares.of_new (S := fun _ => False) hbn).row ho2' (fun _ _ => id)⟩
         have HB := hid (fun (o : Obj) => hb12.trans (((Below.refl w2.heap.size w2).alloc (Nat.le_refl _) o).mono hb12.size))
         have HN1 := hid hn1
         have HN2 := hid hn2
         have HPW : Hid (Rw (w2.alloc (.cells #[.slice b1 ne d1, .slice b2 np d2, .slice none 0 0] 66)) 1 (.slice a2 np c2) np cp) := hid (HP.out.new (hb12.trans (hbn.mono hb12.size)))
         have HEW : Hid (Rw (w2.alloc (.cells #[.slice b1 ne d1, .slice b2 np d2, .slice none 0 0] 66)) 2 (.slice a1 ne c1) ne ce) := hid (HE.out.new (hb12.trans (hbn.mono hb12.size)))
         obtain ⟨bq, offq, rfl, cq⟩ := HPW.out.one 0 _ q0
         rw [Nat.add_zero] at cq
         have qc' := (hb12.cell (p := ⟨b0, 2, none⟩) (World.block_lt_of_cell? w _ qc)).trans qc
         have qc2 := (hbn.cell (p := ⟨b0, 2, none⟩) (World.block_lt_of_cell? w2 _ qc')).trans qc'
         have hc2 : (w2.alloc (.cells #[.slice b1 ne d1, .slice b2 np d2, .slice none 0 0] 66)).cell? ⟨w2.heap.size, 2, none⟩ = some (.slice none 0 0) := by rw [cell_of_row _ _ _ _ _ _ hnew]; rfl
         clear ho1 ho2 hn1 hn2 hb1 hb2 hb12 ho1' ho2' hbn hnew HP HE))
    go_ret
    exact ⟨_, _, _, rfl, by unfold firstV; rw [if_pos hnp0]; exact HPG.out _, HN1.out, HN2.out, HB.out _⟩
  by_cases hne0 : 0 < ne
  · obtain ⟨q0, fa, fl, fc, rfl⟩ := HFE.out hne0
    have hpi : np = 0 := by omega
    subst hpi
    have hei : (0 : Int) < (ne : Int) := by omega
    go_enter Try.func23, Try.ntmps23
    go_wp2_with (first
      | (go_at_call 42; refine HCE.mono ?_; clear HCE; rintro e w1 ⟨v1, rfl, ho1, hn1, hb1⟩
         obtain ⟨b1, d1, rfl⟩ := row_slice ho1
         have HCP := scloneP_any _ 0 cp w1 (HP.out.new hb1) hnp)
      | (go_at_call 43; refine HCP.mono ?_; clear HCP; rintro e w2 ⟨v2, rfl, ho2, hn2, hb2⟩
         obtain ⟨b2, d2, rfl⟩ := row_slice ho2
         have hz1 := hb1.size
         have hz2 := hb2.size
         have hb12 : Below w.heap.size w w2 := hb1.trans (hb2.mono hz1)
         have ho1' := ((Spares.of_new (S := fun _ => False) hb2).row ho1 (fun _ _ => id))
         have ho2' := owns_lower ho2 (B' := w.heap.size) (fun g hg => by have := (ho2.lt g hg).1; omega)
         have hbn : Below w2.heap.size w2 (w2.alloc (.cells #[.slice b1 ne d1, .slice b2 0 d2, .slice none 0 0] 66)) := (Below.refl _ _).alloc (Nat.le_refl _) _
         have hnew := World.alloc_heap_new w2 (.cells #[.slice b1 ne d1, .slice b2 0 d2, .slice none 0 0] 66)
         have HPG : Hid (∀ fv, Pag (w2.alloc (.cells #[.slice b1 ne d1, .slice b2 0 d2, fv] 66)) w.heap.size w2.heap.size (.slice b1 ne d1) (.slice b2 0 d2) fv ne 0 ce cp) := hid fun fv => have hbn : Below w2.heap.size w2 (w2.alloc (.cells #[.slice b1 ne d1, .slice b2 0 d2, fv] 66)) := (Below.refl _ _).alloc (Nat.le_refl _) _; ⟨World.alloc_heap_new w2 _, by omega, (Spares.of_new (S := fun _ => False) hbn).row ho1' (fun _ _ => id), (Spares.of_new (S := fun _ => False) hbn).row ho2' (fun _ _ => id)⟩
         have HB := hid (fun (o : Obj) => hb12.trans (((Below.refl w2.heap.size w2).alloc (Nat.le_refl _) o).mono hb12.size))
         have HN1 := hid hn1
         have HN2 := hid hn2
         have HPW : Hid (Rw (w2.alloc (.cells #[.slice b1 ne d1, .slice b2 0 d2, .slice none 0 0] 66)) 1 (.slice a2 0 c2) 0 cp) := hid (HP.out.new (hb12.trans (hbn.mono hb12.size)))
         have HEW : Hid (Rw (w2.alloc (.cells #[.slice b1 ne d1, .slice b2 0 d2, .slice none 0 0] 66)) 2 (.slice a1 ne c1) ne ce) := hid (HE.out.new (hb12.trans (hbn.mono hb12.size)))
         obtain ⟨bq, offq, rfl, hbq, cq⟩ := HEW.out.at 0 hne0 (by decide)
         obtain ⟨uq, cq0, cq1⟩ := cq 0 (by decide)
         rw [show 0 * 2 + 0 = 0 from rfl, q0] at cq0
         cases cq0
         rw [show offq + 0 * 2 + 0 = offq by omega] at cq1
         have hc2 : (w2.alloc (.cells #[.slice b1 ne d1, .slice b2 0 d2, .slice none 0 0] 66)).cell? ⟨w2.heap.size, 2, none⟩ = some (.slice none 0 0) := by rw [cell_of_row _ _ _ _ _ _ hnew]; rfl
         clear ho1 ho2 hn1 hn2 hb1 hb2 hb12 ho1' ho2' hbn hnew HP HE))
    go_ret
    exact ⟨_, _, _, rfl, by unfold firstV; rw [if_neg (by omega), if_pos hne0]; exact HPG.out _, HN1.out, HN2.out, HB.out _⟩
  · have hpi : np = 0 := by omega
    subst hpi
    have hei : ne = 0 := by omega
    subst hei
    go_enter Try.func23, Try.ntmps23
    go_wp2_with (first
      | (go_at_call 42; refine HCE.mono ?_; clear HCE; rintro e w1 ⟨v1, rfl, ho1, hn1, hb1⟩
         obtain ⟨b1, d1, rfl⟩ := row_slice ho1
         have HCP := scloneP_any _ 0 cp w1 (HP.out.new hb1) hnp)
      | (go_at_call 43; refine HCP.mono ?_; clear HCP; rintro e w2 ⟨v2, rfl, ho2, hn2, hb2⟩
         obtain ⟨b2, d2, rfl⟩ := row_slice ho2
         have hz1 := hb1.size
         have hz2 := hb2.size
         have hb12 : Below w.heap.size w w2 := hb1.trans (hb2.mono hz1)
         have ho1' := ((Spares.of_new (S := fun _ => False) hb2).row ho1 (fun _ _ => id))
         have ho2' := owns_lower ho2 (B' := w.heap.size) (fun g hg => by have := (ho2.lt g hg).1; omega)
         have hbn : Below w2.heap.size w2 (w2.alloc (.cells #[.slice b1 0 d1, .slice b2 0 d2, .slice none 0 0] 66)) := (Below.refl _ _).alloc (Nat.le_refl _) _
         have hnew := World.alloc_heap_new w2 (.cells #[.slice b1 0 d1, .slice b2 0 d2, .slice none 0 0] 66)
         have HPG : Hid (∀ fv, Pag (w2.alloc (.cells #[.slice b1 0 d1, .slice b2 0 d2, fv] 66)) w.heap.size w2.heap.size (.slice b1 0 d1) (.slice b2 0 d2) fv 0 0 ce cp) := hid fun fv => have hbn : Below w2.heap.size w2 (w2.alloc (.cells #[.slice b1 0 d1, .slice b2 0 d2, fv] 66)) := (Below.refl _ _).alloc (Nat.le_refl _) _; ⟨World.alloc_heap_new w2 _, by omega, (Spares.of_new (S := fun _ => False) hbn).row ho1' (fun _ _ => id), (Spares.of_new (S := fun _ => False) hbn).row ho2' (fun _ _ => id)⟩
         have HB := hid (fun (o : Obj) => hb12.trans (((Below.refl w2.heap.size w2).alloc (Nat.le_refl _) o).mono hb12.size))
         have HN1 := hid hn1
         have HN2 := hid hn2
         have HPW : Hid (Rw (w2.alloc (.cells #[.slice b1 0 d1, .slice b2 0 d2, .slice none 0 0] 66)) 1 (.slice a2 0 c2) 0 cp) := hid (HP.out.new (hb12.trans (hbn.mono hb12.size)))
         have HEW : Hid (Rw (w2.alloc (.cells #[.slice b1 0 d1, .slice b2 0 d2, .slice none 0 0] 66)) 2 (.slice a1 0 c1) 0 ce) := hid (HE.out.new (hb12.trans (hbn.mono hb12.size)))
         clear ho1 ho2 hn1 hn2 hb1 hb2 hb12 ho1' ho2' hbn hnew HP HE))
    go_ret
    exact ⟨_, _, _, rfl, HPG.out _, HN1.out, HN2.out, HB.out _⟩
end Go.Proofs.Ytjfipejfejmlaaa
