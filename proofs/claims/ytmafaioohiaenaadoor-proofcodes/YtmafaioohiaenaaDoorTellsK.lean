/- Its owner writes over a proof: the law's spoil. -/
import Derived.Test.YtmafaioohiaenaaDoorOwned
import Derived.Test.YtmafaioohiaenaaDoorLentQ
import Derived.Deep.MidRow
import Derived.Test.YtmafaioohiaenaaDoorCodec
import Derived.Test.YtmafaioohiaenaaDoorGetF
import Derived.Deep.QuietTactic
import Derived.BigQuiet
import Derived.Test.YtmafaioohiaenaaDoorSameZ
import Derived.Test.YtmafaioohiaenaaDoorYCheck
import Derived.Test.YtmafaioohiaenaaDoorOwnL
namespace Go.Proofs.YtmafaioohiaenaaDoor
open Go.RowKit Go.Shelf
set_option linter.unusedVariables false
set_option linter.unusedSimpArgs false
set_option maxRecDepth 20000

theorem marked_nilZ (B : Nat) (w : World) : Marked B w [] 0 := fun j v hv => by simp at hv

theorem marked_consZ {B : Nat} {w : World} {x : Value} {xs : List Value} {vs : List Value} (hx : Full B w x xs) (h : Marked B w vs 0) : Marked B w (x :: vs) 0 := by
  intro j v hv
  match j, hv with
  | 0, hv => simp at hv; subst hv; exact ⟨xs, hx, fun h => by omega⟩
  | j + 1, hv =>
    obtain ⟨ys, hf, _⟩ := h j v (by simpa using hv)
    exact ⟨ys, hf, fun h => by omega⟩

theorem apart_nilZ : Apart [] := fun i j u v g hu => by simp at hu

/-- One more, whose block is none of the others'. -/
theorem apart_consZ {x : Value} {vs : List Value} (h : Apart vs) (hx : ∀ g, x.ownBlock = some g → ∀ v ∈ vs, v.ownBlock ≠ some g) : Apart (x :: vs) := by
  intro i j u v g hu hv hij hg hv2
  match i, j, hu, hv with
  | 0, 0, _, _ => exact hij rfl
  | 0, j + 1, hu, hv =>
    simp at hu
    subst hu
    exact hx g hg v (List.mem_of_getElem? (by simpa using hv)) hv2
  | i + 1, 0, hu, hv =>
    simp at hv
    subst hv
    exact hx g hv2 u (List.mem_of_getElem? (by simpa using hu)) hg
  | i + 1, j + 1, hu, hv => exact h i j u v g (by simpa using hu) (by simpa using hv) (by omega) hg hv2

/-- Owned of two slices. -/
theorem own_twoZ (B : Nat) (W : World) (k v : Value) (hB : B ≤ W.heap.size) (hk : ∃ ys, Full B W k ys) (hv : ∃ ys, Full B W v ys) (hap : ∀ g, k.ownBlock = some g → v.ownBlock ≠ some g) :
    Calls Tryd.prog 19 #[.slice (some ⟨W.heap.size, 0, none⟩) 2 2] (W.alloc (.cells #[k, v] 24)) fun e W' => e = .returned (.bool true) ∧ Spares (fun i => k.ownBlock = some i ∨ v.ownBlock = some i) W W' := by
  obtain ⟨ys, h1⟩ := hk
  obtain ⟨zs, h2⟩ := hv
  have hb : Below W.heap.size W (W.alloc (.cells #[k, v] 24)) := Below.alloc (Below.refl _ _) (Nat.le_refl _) _
  have hrow : (W.alloc (.cells #[k, v] 24)).ownsRow B 24 1 (.slice (some ⟨W.heap.size, 0, none⟩) 2 2) 2 [k, v] :=
    ⟨rfl, .inr ⟨W.heap.size, 2, #[k, v], rfl, hB, heap_alloc_new W _, Nat.le_refl _, by unfold maxLen; omega, rfl, rfl⟩⟩
  have hap2 : Apart [k, v] := apart_consZ (apart_consZ apart_nilZ (fun g hg u hu => by cases hu)) (fun g hg u hu e => by
    simp only [List.mem_cons, List.not_mem_nil, or_false] at hu
    subst hu
    exact hap g hg e)
  refine (owned_keep B W.heap.size 2 [k, v] _ (Nat.le_trans hB hb.size) hrow (marked_consZ (h1.below hb) (marked_consZ (h2.below hb) (marked_nilZ _ _))) hap2 (by simp)).mono ?_
  rintro e W' ⟨rfl, q1, q2⟩
  refine ⟨rfl, q1.os.trans hb.os, q1.tape.trans hb.tape, q1.output.trans hb.output, Nat.le_trans hb.size q1.size, fun i hi hS => (q2 i (fun u hu e => ?_)).trans (hb.block i hi)⟩
  simp only [List.mem_cons, List.not_mem_nil, or_false] at hu
  rcases hu with rfl | rfl
  · exact hS (.inl e)
  · exact hS (.inr e)

theorem lends_fullZ {B : Nat} {w : World} {v : Value} {bs : List UInt8} (h : Lends B w v bs) : ∃ ys, Full B w v ys := by
  obtain ⟨g, rfl, ho⟩ := h
  exact ⟨_, .inr ⟨g, _, _, rfl, ho⟩⟩

theorem spares_setCellsZ (b : Nat) : ∀ (vs : List Value) (o : Nat) (w : World), Spares (fun i => i = b) w (w.setCells b o vs)
  | [], o, w => Spares.refl _ _
  | v :: r, o, w => by
    rw [World.setCells]
    exact (spares_set w ⟨b, o, none⟩ v).andThen (spares_setCellsZ b r (o + 1) _) (fun i hi => .inl hi)

/-- What is laid over each step. -/
def sevenZ : List Value := zc (-7, false, List.replicate 32 0)
theorem built_sevenZ : Tryd.prog.built 66 [(0, .int .i64 (-7))] = some sevenZ.toArray := by kernel_rfl
theorem seven_size : sevenZ.toArray.size = 34 := by kernel_rfl
theorem seven_one : sevenZ.toArray.all (·.oneCell') = true := by kernel_rfl
theorem seven_info : (Tryd.prog.info? 66).map (·.size) = some sevenZ.toArray.size := by kernel_rfl

/-- What the loop keeps. -/
structure Sp5 (S : Nat → Prop) (w : World) (gb : Nat) (A : Array Value) (n : Nat) (sv : Value) (W : World) : Prop where
  box : W.heap[gb]? = some (.cells A 29 (0, 0))
  there : ∀ g l c, sv = .slice (some ⟨g, 0, none⟩) l c → ∀ k, k < n → W.there g (k * 34) 34
  sp : Spares S w W

theorem Sp5.on {S : Nat → Prop} {w : World} {gb : Nat} {A : Array Value} {n : Nat} {g l c : Nat} {W : World} (h : Sp5 S w gb A n (.slice (some ⟨g, 0, none⟩) l c) W) (hg : g ≠ gb) (hS : S g) (o : Nat) (vs : List Value) : Sp5 S w gb A n (.slice (some ⟨g, 0, none⟩) l c) (W.setCells g o vs) := by
  have s := spares_setCellsZ g vs o W
  refine ⟨(s.block gb (Array.getElem?_eq_some_iff.1 h.box).1 (fun e => hg e.symm)).trans h.box, fun g' l' c' e k hk => ?_, h.sp.andThen s (fun i hi => by subst hi; exact .inl hS)⟩
  exact World.there_setCells (h.there g' l' c' e k hk) _ _ _

theorem there_of_row {w : World} {B n : Nat} {sv : Value} {xs : List Value} (h : w.ownsRow B 66 34 sv n xs) : ∀ g l c, sv = .slice (some ⟨g, 0, none⟩) l c → ∀ k, k < n → w.there g (k * 34) 34 := by
  intro g l c e k hk j hj
  rcases h.2 with ⟨rfl, _⟩ | ⟨g', cap, cur, rfl, hB, hg, h1, h2, h3, h4⟩
  · cases e
  · simp only [Value.slice.injEq, Option.some.injEq, Addr.mk.injEq] at e
    obtain ⟨⟨rfl, _⟩, _⟩ := e
    have hlt : k * 34 + j < cur.size := by rw [h3]; omega
    refine ⟨?_, by simp [World.frozen?, hg]⟩
    rw [cell_of_row _ _ _ _ _ _ hg, Array.getElem?_eq_getElem hlt]
    rfl

set_option maxHeartbeats 1000000 in
theorem spoil5_any (B : Nat) (p : Prf) (kv vv sv : Value) (w : World) (xs : List Value) (hB : B ≤ w.heap.size) (hk : ∃ ys, Full B w kv ys) (hv : ∃ ys, Full B w vv ys) (hap : ∀ g, kv.ownBlock = some g → vv.ownBlock ≠ some g)
    (hs : w.ownsRow B 66 34 sv p.st.length xs) (hks : ∀ g, sv.ownBlock = some g → kv.ownBlock ≠ some g ∧ vv.ownBlock ≠ some g) (hn : p.st.length ≤ 2000) :
    Calls Tryd.prog 16 #[.agg #[.bool p.no, kv, vv, sv]] w fun e w' => e = .returned (.tuple #[]) ∧ Spares (fun i => kv.ownBlock = some i ∨ vv.ownBlock = some i ∨ sv.ownBlock = some i) w w' := by
  obtain ⟨ka, kl, kc, rfl⟩ : ∃ a l c, kv = .slice a l c := by
    obtain ⟨ys, ⟨h, _⟩ | ⟨g, l, c, h, _⟩⟩ := hk
    · exact ⟨_, _, _, h⟩
    · exact ⟨_, _, _, h⟩
  obtain ⟨va, vl, vc, rfl⟩ : ∃ a l c, vv = .slice a l c := by
    obtain ⟨ys, ⟨h, _⟩ | ⟨g, l, c, h, _⟩⟩ := hv
    · exact ⟨_, _, _, h⟩
    · exact ⟨_, _, _, h⟩
  obtain ⟨sa, sc, rfl⟩ : ∃ a c, sv = .slice a p.st.length c := by
    rcases hs.2 with ⟨h, h0⟩ | ⟨g', cap, cur, h, _⟩
    · exact ⟨_, _, by rw [h, h0]⟩
    · exact ⟨_, _, h⟩
  have HSA : Hid (0 < p.st.length → ∃ g, sa = some ⟨g, 0, none⟩ ∧ g < w.heap.size) := hid (fun h => by
    rcases hs.2 with ⟨h1, h0⟩ | ⟨g', cap, cur, h1, _, hg, _⟩
    · omega
    · simp only [Value.slice.injEq] at h1
      exact ⟨g', h1.1, (Array.getElem?_eq_some_iff.1 hg).1⟩)
  have hlt : ∀ i, (Value.slice sa p.st.length sc).ownBlock = some i → i < w.heap.size := fun i hi => (hs.lt i hi).2
  have hklt : ∀ i, (Value.slice ka kl kc).ownBlock = some i → i < w.heap.size := fun i hi => by
    obtain ⟨ys, ⟨h, _⟩ | ⟨g, l, c, h, h2⟩⟩ := hk
    · rw [h] at hi; cases hi
    · rw [h] at hi; exact (h2.lt i hi).2
  have hvlt : ∀ i, (Value.slice va vl vc).ownBlock = some i → i < w.heap.size := fun i hi => by
    obtain ⟨ys, ⟨h, _⟩ | ⟨g, l, c, h, h2⟩⟩ := hv
    · rw [h] at hi; cases hi
    · rw [h] at hi; exact (h2.lt i hi).2
  have hbn : Below w.heap.size w (w.alloc (.cells #[.bool p.no, .slice ka kl kc, .slice va vl vc, .slice sa p.st.length sc] 29)) := (Below.refl _ _).alloc (Nat.le_refl _) _
  have hnew := World.alloc_heap_new w (.cells #[.bool p.no, .slice ka kl kc, .slice va vl vc, .slice sa p.st.length sc] 29)
  have hsn : (w.alloc (.cells #[.bool p.no, .slice ka kl kc, .slice va vl vc, .slice sa p.st.length sc] 29)).heap.size = w.heap.size + 1 := World.size_alloc _ _
  have hbd := hbn
  have HOW := own_twoZ B (w.alloc (.cells #[.bool p.no, .slice ka kl kc, .slice va vl vc, .slice sa p.st.length sc] 29)) (.slice ka kl kc) (.slice va vl vc) (by have := hbd.size; exact Nat.le_trans hB this) (hk.imp fun _ h => h.below hbd) (hv.imp fun _ h => h.below hbd) hap
  rw [hsn] at HOW
  have HAFT : Hid (∀ W', Spares (fun i => (Value.slice ka kl kc).ownBlock = some i ∨ (Value.slice va vl vc).ownBlock = some i) (w.alloc (.cells #[.bool p.no, .slice ka kl kc, .slice va vl vc, .slice sa p.st.length sc] 29)) W' → Sp5 (fun i => (Value.slice ka kl kc).ownBlock = some i ∨ (Value.slice va vl vc).ownBlock = some i ∨ (Value.slice sa p.st.length sc).ownBlock = some i) w w.heap.size #[.bool p.no, .slice ka kl kc, .slice va vl vc, .slice sa p.st.length sc] p.st.length (.slice sa p.st.length sc) W') := hid (fun W' hW => by
    have hz : w.heap.size < (w.alloc (.cells #[.bool p.no, .slice ka kl kc, .slice va vl vc, .slice sa p.st.length sc] 29)).heap.size := by rw [hsn]; omega
    refine ⟨(hW.block _ hz ?_).trans hnew, there_of_row (hW.row ((Spares.of_new (S := fun _ => False) hbd).row hs (fun _ _ => id)) (fun g hg e => ?_)), ?_⟩
    · rintro (e | e)
      · have := hklt _ e; omega
      · have := hvlt _ e; omega
    · rcases e with e | e
      · exact (hks g hg).1 e
      · exact (hks g hg).2 e
    · exact (Spares.of_new hbd).andThen hW (fun i hi => .inl (by rcases hi with e | e; exact .inl e; exact .inr (.inl e))))
  obtain ⟨c0, c1, c2, c3⟩ := proof_cells hnew
  have HLT := hid hlt
  clear hk hv hs hlt hklt hvlt hbn hbd hnew hsn c0 c3 hap
  go_enter Tryd.func16, Tryd.ntmps16
  go_wp2_with fail
  generalize hw0 : w.alloc (.cells #[.bool p.no, .slice ka kl kc, .slice va vl vc, .slice sa p.st.length sc] 29) = w0 at *
  refine HOW.mono ?_
  clear HOW
  rintro e w3 ⟨rfl, hs3⟩
  have HI3 := hid (HAFT.out _ hs3)
  clear HAFT hs3 c1 c2 hw0
  go_wp2_with fail
  go_loopw [2] (fun i wr => ∃ k : Nat, k ≤ p.st.length ∧ i = .int .i64 k ∧ Hid (Sp5 (fun i => (Value.slice ka kl kc).ownBlock = some i ∨ (Value.slice va vl vc).ownBlock = some i ∨ (Value.slice sa p.st.length sc).ownBlock = some i) w w.heap.size #[.bool p.no, .slice ka kl kc, .slice va vl vc, .slice sa p.st.length sc] p.st.length (.slice sa p.st.length sc) wr)) (fun i _ => p.st.length - (intOf i).toNat)
  case atStart => exact ⟨0, Nat.zero_le _, rfl, HI3⟩
  case round =>
    obtain ⟨k, hk, rfl, HI⟩ := hrel
    obtain ⟨c0, c1, c2, c3⟩ := proof_cells HI.out.box
    by_cases hlt : k < p.st.length
    · obtain ⟨g, rfl, hgl⟩ := HSA.out (by omega)
      have hki : (k : Int) < (p.st.length : Int) := by omega
      have hk0 : (0 : Int) ≤ (k : Int) := by omega
      have HTH := hid (HI.out.there g _ _ rfl k hlt)
      obtain ⟨cs, q1, q2, q3, q4⟩ : ∃ cs : Array Value, Tryd.prog.built 66 [(0, .int .i64 (-7))] = some cs ∧ cs.size = 34 ∧ cs.all (·.oneCell') = true ∧ (Tryd.prog.info? 66).map (·.size) = some cs.size := ⟨_, built_sevenZ, seven_size, seven_one, seven_info⟩
      have Q1 := hid q1
      have Q2 := hid q2
      have Q3 := hid q3
      have Q4 := hid q4
      clear q1 q2 q3 q4
      have HN := hid (HI.out.on (by omega) (.inr (.inr rfl)) (k * 34) cs.toList)
      clear c0 c1 c2
      go_wp2_with (first
        | (refine wpList_buildTo rfl 66 _ rfl _ rfl cs ?hf ?_)
        | (refine wpList_store_mid rfl 66 (.tmp 22) (.tmp 21) rfl g (k * 34) cs rfl rfl ?ht Q4.out Q3.out ?_))
      case hf => exact Q1.out
      case ht => rw [Q2.out]; exact HTH.out
      go_roundw
      case rel => exact ⟨k + 1, by omega, by go_num, HN⟩
      case measure => simp [intOf]; omega
    · have hki : (p.st.length : Int) ≤ (k : Int) := by omega
      go_wp2
      exact bodyPost_end (v := .tuple #[]) (by simp [results, Tryd.func16]) rfl ⟨rfl, HI.out.sp⟩
end Go.Proofs.YtmafaioohiaenaaDoor

/- Contract of the law's helper SameRows, and rows that are read. -/

namespace Go.Proofs.YtmafaioohiaenaaDoor
open Go.RowKit
set_option linter.unusedVariables false
set_option maxRecDepth 20000

theorem lists_of_rowsAtZ {w : World} {B : Nat} {v : Value} {rows : List (List UInt8)} (h : RowsAt w B v rows) : Lists w.heap.size w v rows := by
  obtain ⟨vs, ho, hr⟩ := h
  rcases ho.2 with ⟨rfl, hn⟩ | ⟨g, cap, cur, rfl, hb, hg, hnc, hcm, hcs, ht⟩
  · have h0 : rows = [] := List.eq_nil_of_length_eq_zero hn
    subst h0
    have hv : vs = [] := List.eq_nil_of_length_eq_zero (by simpa using hr.len)
    subst hv
    exact ⟨none, 0, [], rfl, Nat.le_refl _, Nat.zero_le _, rfl, fun h => absurd rfl h, fun j u r hu => by simp at hu⟩
  · refine ⟨_, cap, vs, rfl, hnc, hcm, hr.len, fun _ => ⟨g, 0, rfl, (Array.getElem?_eq_some_iff.1 hg).1, fun j u hu => ?_⟩, fun j u r hu hrr => (shows_of_owns (hr.own j u r hu hrr).1).2⟩
    have hj : j < vs.length := (List.getElem?_eq_some_iff.1 hu).1
    rw [Nat.zero_add, ho.cellAt j (by rw [← hr.len]; omega)]
    exact hu

theorem shows_drewNZ {B : Nat} {w : World} {v : Value} {bs : List UInt8} (h : Shows B w v bs) (n : Nat) : Shows B (w.drewN n) v bs :=
  h.below (below_drewN B w n)

theorem strsZ {B : Nat} {v : Value} {bs : List UInt8} {w : World} (h : Shows B w v bs) : (convert 24 9 v).run Tryd.prog w = .ok (.string (str8 bs)) w :=
  run_string_shows (P := Tryd.prog) 24 5 9 Tryd.underlying24 Tryd.underlying5 Tryd.underlying9 h

set_option maxHeartbeats 2000000 in
theorem sameRowsZ_some (B C : Nat) (aa ab : Option Addr) (ca cb : Nat) (rows : List (List UInt8)) (w : World) (ha : Lists B w (.slice aa rows.length ca) rows) (hb : Lists C w (.slice ab rows.length cb) rows) (hl : rows.length ≤ 9223372036854775807) :
    Calls Tryd.prog 18 #[.slice aa rows.length ca, .slice ab rows.length cb] w fun e w' => e = .returned (.bool true) ∧ Below w.heap.size w w' := by
  have HA := hid ha
  have HB := hid hb
  clear ha hb
  go_enter Tryd.func18, Tryd.ntmps18
  go_wp2_with fail
  go_loopw [5] (fun i wr => ∃ k : Nat, k ≤ rows.length ∧ i = .int .i64 k ∧ Hid (∀ D, Below D w wr)) (fun i _ => rows.length - (intOf i).toNat)
  case atStart => exact ⟨0, Nat.zero_le _, rfl, fun D => Below.refl _ _⟩
  case round =>
    obtain ⟨k, hk, rfl, HD⟩ := hrel
    by_cases hlt : k < rows.length
    · obtain ⟨b1, o1, a1, c1, rfl, hc1, hs1⟩ := (HA.out.below (HD.out B)).at k hlt
      obtain ⟨b2, o2, a2, c2, rfl, hc2, hs2⟩ := (HB.out.below (HD.out C)).at k hlt
      have e1 := fun nq => strsZ (shows_drewNZ hs1 nq)
      have e2 := fun nq => strsZ (shows_drewNZ hs2 nq)
      have hki : (k : Int) < (rows.length : Int) := by omega
      have hk0 : (0 : Int) ≤ (k : Int) := by omega
      generalize rows[k]?.getD [] = r at *
      clear hs1 hs2
      go_wp2_with fail
      go_quiet (fail)
      go_wp2_with fail
      go_roundw
      case rel => exact ⟨k + 1, by omega, by go_num, fun D => (HD.out D).trans (below_drewN D _ _)⟩
      case measure => simp [intOf]; omega
    · go_wp2
      go_ret
      exact ⟨rfl, HD.out _⟩

theorem sameRowsZ_any (B C : Nat) (va vb : Value) (rows : List (List UInt8)) (w : World) (ha : Lists B w va rows) (hb : Lists C w vb rows) :
    Calls Tryd.prog 18 #[va, vb] w fun e w' => e = .returned (.bool true) ∧ Below w.heap.size w w' := by
  have ha0 := ha
  have hb0 := hb
  obtain ⟨aa, ca, vs, rfl, h1, h2, _⟩ := ha
  obtain ⟨ab, cb, us, rfl, _⟩ := hb
  unfold maxLen at h2
  exact sameRowsZ_some B C aa ab ca cb rows w ha0 hb0 (by omega)
end Go.Proofs.YtmafaioohiaenaaDoor

/- What the walk of ProofTells has in hand. -/

namespace Go.Proofs.YtmafaioohiaenaaDoor
open Go.RowKit Go.Shelf
set_option linter.unusedVariables false
set_option linter.unusedSimpArgs false
set_option maxRecDepth 20000

theorem rowsAt_spared {S : Nat → Prop} {B : Nat} {w w' : World} {v : Value} {rows : List (List UInt8)} (h : RowsAt w B v rows) (hs : Spares S w w') (hS : ∀ i, B ≤ i → i < w.heap.size → ¬ S i) : RowsAt w' B v rows := by
  obtain ⟨vs, ho, hr⟩ := h
  exact ⟨vs, hs.row ho (fun g hg => hS g (ho.lt g hg).1 (ho.lt g hg).2), hr.len, fun j u r hu hrr => ⟨hs.row (hr.own j u r hu hrr).1 (fun g hg => hS g ((hr.own j u r hu hrr).1.lt g hg).1 ((hr.own j u r hu hrr).1.lt g hg).2), (hr.own j u r hu hrr).2⟩, hr.apart⟩

theorem rowsAt_new {B : Nat} {w w' : World} {v : Value} {rows : List (List UInt8)} (h : RowsAt w B v rows) (hb : Below w.heap.size w w') : RowsAt w' B v rows := rowsAt_spared h (Spares.of_new (S := fun _ => False) hb) (fun _ _ _ h => h)

theorem rowsAt_lower {B B' : Nat} {w : World} {v : Value} {rows : List (List UInt8)} (h : RowsAt w B v rows) (hB : B' ≤ B) : RowsAt w B' v rows := by
  obtain ⟨vs, ho, hr⟩ := h
  exact ⟨vs, owns_lower ho (fun g hg => Nat.le_trans hB (ho.lt g hg).1), hr.len, fun j u r hu hrr => ⟨owns_lower (hr.own j u r hu hrr).1 (fun g hg => Nat.le_trans hB ((hr.own j u r hu hrr).1.lt g hg).1), (hr.own j u r hu hrr).2⟩, hr.apart⟩

/-- Rows, each slice told. -/
def RAt (w : World) (B : Nat) (v : Value) (vs : List Value) (rows : List (List UInt8)) : Prop := w.ownsRow B 24 1 v rows.length vs ∧ RowsOwn w B vs rows

theorem rAt_spared {S : Nat → Prop} {B : Nat} {w w' : World} {v : Value} {vs : List Value} {rows : List (List UInt8)} (h : RAt w B v vs rows) (hs : Spares S w w') (hS : ∀ i, B ≤ i → i < w.heap.size → ¬ S i) : RAt w' B v vs rows := by
  obtain ⟨ho, hr⟩ := h
  exact ⟨hs.row ho (fun g hg => hS g (ho.lt g hg).1 (ho.lt g hg).2), hr.len, fun j u r hu hrr => ⟨hs.row (hr.own j u r hu hrr).1 (fun g hg => hS g ((hr.own j u r hu hrr).1.lt g hg).1 ((hr.own j u r hu hrr).1.lt g hg).2), (hr.own j u r hu hrr).2⟩, hr.apart⟩

theorem rAt_new {B : Nat} {w w' : World} {v : Value} {vs : List Value} {rows : List (List UInt8)} (h : RAt w B v vs rows) (hb : Below w.heap.size w w') : RAt w' B v vs rows := rAt_spared h (Spares.of_new (S := fun _ => False) hb) (fun _ _ _ h => h)

/-- What holds from the tail's start on. -/
structure TF (w : World) (p : Prf) (X : List (List UInt8)) (kv vv sv key want : Value) (kb rt : List UInt8) (W : World) : Prop where
  bel : Below w.heap.size w W
  pat : PAt w.heap.size W p kv vv sv
  key : Shows w.heap.size W key kb
  siz : w.heap.size + 2 ≤ W.heap.size
  tab : Tables W
  tlt : 1 < w.heap.size
  root : W.heap[w.heap.size]? = some (.cells (sumV rt) 23 (0, 0))
  box : W.heap[w.heap.size + 1]? = some (.cells #[.bool p.no, kv, vv, sv] 29 (0, 0))
  want : RowsAt W (w.heap.size + 2) want X

theorem TF.new {w : World} {p : Prf} {X : List (List UInt8)} {kv vv sv key want : Value} {kb rt : List UInt8} {W W' : World} (h : TF w p X kv vv sv key want kb rt W) (hb : Below W.heap.size W W') : TF w p X kv vv sv key want kb rt W' := by
  have hz := h.siz
  have hb0 : Below w.heap.size W W' := hb.mono (by omega)
  exact ⟨h.bel.trans hb0, h.pat.below hb0, h.key.below hb0, Nat.le_trans hz hb.size, h.tab.below hb h.tab.lt, h.tlt, (hb.block _ (by omega)).trans h.root, (hb.block _ (by omega)).trans h.box, rowsAt_new h.want hb⟩

/-- The root is another one's. -/
theorem TF.turn {w : World} {p : Prf} {X : List (List UInt8)} {kv vv sv key want : Value} {kb rt : List UInt8} {W : World} (h : TF w p X kv vv sv key want kb rt W) (r : List UInt8) : TF w p X kv vv sv key want kb r (W.setRow w.heap.size (sumV r)) := by
  have s := spares_setRowZ W w.heap.size (sumV r)
  have hz := h.siz
  have hb : Below w.heap.size W (W.setRow w.heap.size (sumV r)) := s.below (fun i hi => by omega) (by omega)
  have hlt := h.tab.lt
  exact ⟨h.bel.trans hb, h.pat.below hb, h.key.below hb, Nat.le_trans hz hb.size, h.tab.below hb h.tlt, h.tlt, setRow_heap _ _ _ _ _ _ h.root, (s.block _ (by omega) (by omega)).trans h.box, rowsAt_spared h.want s (fun i h1 h2 h3 => by omega)⟩

/-- The proof that was lent. -/
structure QF (M gq : Nat) (p : Prf) (kv vv sv : Value) (W : World) : Prop where
  k : Lends M W kv p.k
  v : Lends M W vv p.v
  s : W.ownsRow M 66 34 sv p.st.length (p.st.flatMap zc)
  box : W.heap[gq]? = some (.cells #[.bool p.no, kv, vv, sv] 29 (0, 0))

theorem QF.new {M gq : Nat} {p : Prf} {kv vv sv : Value} {W W' : World} (h : QF M gq p kv vv sv W) (hb : Below W.heap.size W W') : QF M gq p kv vv sv W' :=
  ⟨h.k.newer hb, h.v.newer hb, (Spares.of_new (S := fun _ => False) hb).row h.s (fun _ _ => id), (hb.block _ (Array.getElem?_eq_some_iff.1 h.box).1).trans h.box⟩

theorem QF.at {M gq : Nat} {p : Prf} {kv vv sv : Value} {W : World} (h : QF M gq p kv vv sv W) (hok : ∀ s ∈ p.st, ZOk s) (h1 : p.k.length ≤ 4096) (h2 : p.v.length ≤ 4096) : PAt W.heap.size W p kv vv sv :=
  ⟨h.k.shows (by unfold maxLen; omega), h.v.shows (by unfold maxLen; omega), stps_of_row h.s hok⟩

theorem row_form34 {w : World} {B n : Nat} {v : Value} {xs : List Value} (h : w.ownsRow B 66 34 v n xs) : ∃ a c, v = .slice a n c := by
  rcases h.2 with ⟨rfl, rfl⟩ | ⟨g, cap, cur, rfl, _⟩
  · exact ⟨_, _, rfl⟩
  · exact ⟨_, _, rfl⟩

/-- A proof laid into a new block. -/
theorem fresh_proof (w : World) (A : Array Value) : ((w.alloc (.cells #[.bool false, .slice none 0 0, .slice none 0 0, .slice none 0 0] 29)).setRow w.heap.size A).heap[w.heap.size]? = some (.cells A 29 (0, 0)) ∧ Below w.heap.size w ((w.alloc (.cells #[.bool false, .slice none 0 0, .slice none 0 0, .slice none 0 0] 29)).setRow w.heap.size A) := by
  refine ⟨setRow_heap _ _ _ _ _ _ (heap_alloc_new w _), ?_⟩
  exact below_setRow ((Below.refl _ _).alloc (Nat.le_refl _) _) (Nat.le_refl _) _

/-- Rows and one slice more, for Owned. -/
theorem owned_snocZ {B C : Nat} {w : World} {vs : List Value} {rows : List (List UInt8)} {v : Value} (hr : RowsOwn w B vs rows) (hB : B ≤ C) (hv : ∃ ys, Full C w v ys) (hlt : ∀ u ∈ vs, ∀ g, u.ownBlock = some g → g < C) : Marked B w (vs ++ [v]) 0 ∧ Apart (vs ++ [v]) := by
  have hge : ∀ g, v.ownBlock = some g → C ≤ g := fun g hg => by
    obtain ⟨ys, ⟨h, _⟩ | ⟨g', l, c, h, h2⟩⟩ := hv
    · rw [h] at hg; cases hg
    · rw [h] at hg; exact (h2.lt g hg).1
  have hcut : ∀ (j : Nat) (u : Value), (vs ++ [v])[j]? = some u → (j < vs.length ∧ vs[j]? = some u) ∨ (j = vs.length ∧ u = v) := fun j u hu => by
    rcases Nat.lt_or_ge j vs.length with hj | hj
    · rw [List.getElem?_append_left hj] at hu
      exact .inl ⟨hj, hu⟩
    · rw [List.getElem?_append_right hj] at hu
      cases e : j - vs.length with
      | zero => rw [e] at hu; simp at hu; exact .inr ⟨by omega, hu.symm⟩
      | succ m => rw [e] at hu; simp at hu
  refine ⟨fun j u hu => ?_, fun i j u q g hu hq hij hg e => ?_⟩
  · rcases hcut j u hu with ⟨hj, hu'⟩ | ⟨_, rfl⟩
    · have hjr : j < rows.length := by rw [← hr.len]; exact hj
      obtain ⟨ys, hf⟩ := full_of_owns (hr.own j u _ hu' (List.getElem?_eq_getElem hjr)).1
      exact ⟨ys, hf, fun h => by omega⟩
    · obtain ⟨ys, hf⟩ := hv
      exact ⟨ys, hf.mono hB, fun h => by omega⟩
  · rcases hcut i u hu with ⟨hi, hu'⟩ | ⟨hi, rfl⟩ <;> rcases hcut j q hq with ⟨hj, hq'⟩ | ⟨hj, rfl⟩
    · exact hr.apart i j u q hu' hq' hij (hg.trans e.symm)
    · have h1 := hlt u (List.mem_of_getElem? hu') g hg
      have h2 := hge g e
      omega
    · have h1 := hlt q (List.mem_of_getElem? hq') g e
      have h2 := hge g hg
      omega
    · omega

theorem one_cell_rows (w : World) (v : Value) : ∀ j u, [v][j]? = some u → (w.alloc (.cells #[v] 24)).cell? ((⟨w.heap.size, 0, none⟩ : Addr).add j) = some u := by
  intro j u hu
  have hj : j = 0 := by have := (List.getElem?_eq_some_iff.1 hu).1; simpa using this
  subst hj
  simp only [List.getElem?_cons_zero, Option.some.injEq] at hu
  subst hu
  exact cell_of_row _ _ _ _ _ _ (heap_alloc_new w _)
end Go.Proofs.YtmafaioohiaenaaDoor
