/- The document's own registry: what it is; New, Knows, Sign. -/
import Derived.Test.YtnhgjjpjmfjmjaaCountF
import Derived.Deep.QuietTactic
import Derived.BigQuiet
import Derived.Deep.RegionLaw
namespace Go.Proofs.Ytnhgjjpjmfjmjaa
open Go.RowKit Go.Maps
set_option linter.unusedVariables false

/-- Pairs as cells. -/
def pairCells : List Pr → List Value
  | [] => []
  | p :: L => .int .i64 p.1 :: .string (str8 p.2) :: pairCells L

theorem pairCells_len : ∀ L : List Pr, (pairCells L).length = L.length * 2
  | [] => rfl
  | p :: L => by simp only [pairCells, List.length_cons, pairCells_len L]; omega

theorem pairCells_snoc (p : Pr) : ∀ L : List Pr, pairCells (L ++ [p]) = pairCells L ++ [.int .i64 p.1, .string (str8 p.2)]
  | [] => rfl
  | q :: L => by simp only [List.cons_append, pairCells, pairCells_snoc p L]

theorem pairCells_at : ∀ (L : List Pr) (k : Nat) (h : k < L.length), (pairCells L)[k * 2]? = some (.int .i64 L[k].1) ∧ (pairCells L)[k * 2 + 1]? = some (.string (str8 L[k].2))
  | p :: L, 0, _ => ⟨rfl, rfl⟩
  | p :: L, k + 1, h => by
    have := pairCells_at L k (by simpa using h)
    rw [show (k + 1) * 2 = k * 2 + 1 + 1 by omega]
    exact this

structure Ref0 (w : World) (xb : Nat) (vl : Value) (L : List Pr) (S : Nat → Prop) : Prop where
  cell : w.cell? ⟨xb, 0, none⟩ = some vl
  fz : w.frozen? ⟨xb, 0, none⟩ = false
  row : w.ownsRow 0 59 2 vl L.length (pairCells L)
  inS : S xb
  rowS : ∀ g, vl.ownBlock = some g → S g
  ne : vl.ownBlock ≠ some xb
  lt : ∀ i, S i → i < w.heap.size
  ok : ∀ p ∈ L, 1 ≤ p.1 ∧ p.1 ≤ 64 ∧ p.2.length ≤ 65536

/-- THE POINTER v LEADS TO THE DOCUMENT's OWN REGISTRY WITH THE PAIRS L. -/
def RefG (w : World) (v : Value) (L : List Pr) (S : Nat → Prop) : Prop := ∃ xb vl, v = .pointer (some ⟨xb, 0, none⟩) ∧ Ref0 w xb vl L S

theorem Ref0.keeps {w w' : World} {xb : Nat} {vl : Value} {L : List Pr} {S T : Nat → Prop} (h : Ref0 w xb vl L S) (hk : Spares T w w') (hT : ∀ i, S i → ¬ T i) : Ref0 w' xb vl L S :=
  ⟨hk.cell h.cell (hT _ h.inS), by rw [World.frozen?_of_block (w := w) (hk.block xb (h.lt _ h.inS) (hT _ h.inS))]; exact h.fz, hk.row h.row fun g hg => hT g (h.rowS g hg), h.inS, h.rowS, h.ne, fun i hi => Nat.lt_of_lt_of_le (h.lt i hi) hk.size, h.ok⟩

theorem RefG.keeps {w w' : World} {v : Value} {L : List Pr} {S T : Nat → Prop} (h : RefG w v L S) (hk : Spares T w w') (hT : ∀ i, S i → ¬ T i) : RefG w' v L S := by
  obtain ⟨xb, vl, rfl, h0⟩ := h
  exact ⟨xb, vl, rfl, h0.keeps hk hT⟩

theorem RefG.new {w w' : World} {v : Value} {L : List Pr} {S : Nat → Prop} (h : RefG w v L S) (hb : Below w.heap.size w w') : RefG w' v L S :=
  h.keeps (T := fun _ => False) (Spares.of_new hb) (fun _ _ => id)

theorem RefG.lt {w : World} {v : Value} {L : List Pr} {S : Nat → Prop} (h : RefG w v L S) : ∀ i, S i → i < w.heap.size := by
  obtain ⟨xb, vl, rfl, h0⟩ := h
  exact h0.lt

theorem Ref0.at {w : World} {xb : Nat} {a : Option Addr} {c : Nat} {L : List Pr} {S : Nat → Prop} (h : Ref0 w xb (.slice a L.length c) L S) (k : Nat) (hk : k < L.length) :
    ∃ g, a = some ⟨g, 0, none⟩ ∧ w.cell? ⟨g, k * 2, none⟩ = some (.int .i64 L[k].1) ∧ w.cell? ⟨g, k * 2 + 1, none⟩ = some (.string (str8 L[k].2)) := by
  have hr := h.row
  rcases h.row.2 with ⟨e, h0⟩ | ⟨g, cap, cur, e, _⟩
  · omega
  · simp only [Value.slice.injEq] at e
    obtain ⟨rfl, _, rfl⟩ := e
    have hc := hr.cells (g := g) rfl
    obtain ⟨h1, h2⟩ := pairCells_at L k hk
    have c1 := hc _ _ h1
    have c2 := hc _ _ h2
    simp only [Addr.add_lit, Nat.zero_add] at c1 c2
    exact ⟨g, rfl, c1, c2⟩

set_option maxHeartbeats 1000000 in
theorem rnew_any (w : World) : Calls Try.prog 9 #[] w fun e w' => ∃ xb, e = .returned (.pointer (some ⟨xb, 0, none⟩)) ∧ RefG w' (.pointer (some ⟨xb, 0, none⟩)) [] (fun i => w.heap.size ≤ i ∧ i < w'.heap.size) ∧ Below w.heap.size w w' := by
  go_enter Try.func9, Try.ntmps9
  go_wp2
  go_ret
  have hblk := heap_alloc_new w (.cells #[.slice none 0 0] 46)
  refine ⟨_, rfl, ⟨_, .slice none 0 0, rfl, ⟨cell_of_row _ _ _ _ _ _ hblk, frozen_of_row _ _ _ _ _ hblk, World.ownsRow_nil _ _ _ _, by simp, fun g hg => by simp [Value.ownBlock] at hg, by simp [Value.ownBlock], fun i hi => hi.2, fun p hp => by simp at hp⟩⟩, new_allocR _ _⟩

theorem list_beqS (a b : List UInt8) : (a == b) = decide (a = b) := by
  by_cases h : a = b
  · rw [decide_eq_true h, h]; simp
  · rw [decide_eq_false h]; simpa using h

theorem str_beqS (a b : List UInt8) : ((str8 a).toList == (str8 b).toList) = decide (a = b) := by
  rw [ByteArray.toList_eq, ByteArray.toList_eq]
  exact list_beqS a b

theorem own_form2 {w : World} {B e s n : Nat} {v : Value} {xs : List Value} (h : w.ownsRow B e s v n xs) : ∃ a c, v = .slice a n c ∧ n ≤ c ∧ c ≤ maxLen := by
  rcases h.2 with ⟨e, h0⟩ | ⟨g, cap, _, e, _, _, h1, h2, _⟩
  · exact ⟨none, 0, by rw [e, h0], by omega, by unfold maxLen; omega⟩
  · exact ⟨_, _, e, h1, h2⟩

theorem Shows.drewR {B : Nat} {w : World} {v : Value} {bs : List UInt8} (h : Shows B w v bs) (n : Nat) : Shows B (w.drewN n) v bs :=
  h.below (below_drewN (Below.refl _ _) n)

set_option maxRecDepth 10000 in
set_option maxHeartbeats 1000000 in
theorem rknows_any (v vt : Value) (who : Int) (t : List UInt8) (L : List Pr) (S : Nat → Prop) (w : World) (hR : RefG w v L S) (hw : I64 who) (hsh : Shows w.heap.size w vt t) (hL : L.length ≤ 100000) :
    Calls Try.prog 14 #[v, .int .i64 who, vt] w fun e w' => e = .returned (.bool (decide ((who, t) ∈ L))) ∧ Below w.heap.size w w' := by
  obtain ⟨xb, vl, rfl, h0⟩ := hR
  obtain ⟨a, c, rfl, hc1, hc2⟩ := own_form2 h0.row
  have hcm : c ≤ 9223372036854775807 := by unfold maxLen at hc2; exact hc2
  have H0 := hid h0
  have HSH := hid hsh
  clear h0 hsh
  go_enter Try.func14, Try.ntmps14
  go_wp2_with fail
  go_loopw [7] (fun i wr => ∃ k : Nat, k ≤ L.length ∧ i = .int .i64 (k : Int) ∧ Hid (∀ m (h : m < L.length), m < k → L[m] ≠ (who, t)) ∧ Hid (Below w.heap.size w wr)) (fun i _ => L.length - (intOf i).toNat)
  case atStart => exact ⟨0, Nat.zero_le _, rfl, fun m _ hm => by omega, Below.refl _ _⟩
  case round =>
    obtain ⟨k, hk, rfl, HN, HB⟩ := hrel
    have hr := H0.out.keeps (T := fun _ => False) (Spares.of_new HB.out) (fun _ _ => id)
    have hcell := hr.cell
    by_cases hlt : k < L.length
    · obtain ⟨g, rfl, c1, c2⟩ := hr.at k hlt
      have hki : (k : Int) < (L.length : Int) := by omega
      have hk0 : (0 : Int) ≤ (k : Int) := by omega
      have e2 := fun nq => strR ((HSH.out.below HB.out).drewR nq)
      have hcmp := str_beqS L[k].2 t
      have HLK := hid (rfl : L[k] = L[k])
      by_cases hp : L[k].1 = who
      · have hpd : decide (L[k].1 = who) = true := decide_eq_true hp
        by_cases hq : L[k].2 = t
        · have hres : decide ((who, t) ∈ L) = true := decide_eq_true (by rw [← hp, ← hq]; exact List.getElem_mem hlt)
          have HRES := hid hres
          rw [decide_eq_true hq] at hcmp
          clear hres hq HLK hr hpd
          generalize L[k].1 = x at *
          generalize str8 L[k].2 = s1 at *
          generalize str8 t = s2 at *
          subst hp
          go_wp2_with fail
          go_quiet (fail)
          go_wp2
          go_ret
          exact ⟨by rw [HRES.out]; rfl, below_drewN HB.out _⟩
        · have HN1 : Hid (∀ m (h : m < L.length), m < k + 1 → L[m] ≠ (who, t)) := fun m h hm e => by
            rcases Nat.lt_or_ge m k with h' | h'
            · exact HN.out m h h' e
            · have : m = k := by omega
              subst this
              exact hq (by rw [e])
          rw [decide_eq_false hq] at hcmp
          clear hq HLK hr hpd
          generalize L[k].1 = x at *
          generalize str8 L[k].2 = s1 at *
          generalize str8 t = s2 at *
          subst hp
          go_wp2_with fail
          go_quiet (fail)
          go_wp2
          go_roundw
          case rel => exact ⟨k + 1, by omega, by go_num, HN1, below_drewN HB.out _⟩
          case measure => simp [intOf]; omega
      · have hpd : (L[k].1 == who) = false := by rw [beq_eq_false_iff_ne]; exact hp
        have hpe : decide (L[k].1 = who) = false := decide_eq_false hp
        have HN1 : Hid (∀ m (h : m < L.length), m < k + 1 → L[m] ≠ (who, t)) := fun m h hm e => by
          rcases Nat.lt_or_ge m k with h' | h'
          · exact HN.out m h h' e
          · have : m = k := by omega
            subst this
            exact hp (by rw [e])
        clear hp HLK hr hcmp e2
        generalize L[k].1 = x at *
        generalize str8 L[k].2 = s1 at *
        go_wp2_with fail
        go_quiet (fail)
        go_wp2
        go_roundw
        case rel => exact ⟨k + 1, by omega, by go_num, HN1, below_drewN HB.out _⟩
        case measure => simp [intOf]; omega
    · have hres : decide ((who, t) ∈ L) = false := decide_eq_false fun hm => by
        obtain ⟨m, h, e⟩ := List.getElem_of_mem hm
        exact HN.out m h (by omega) e
      have HRES := hid hres
      clear hres hr
      go_wp2
      go_ret
      exact ⟨by rw [HRES.out]; rfl, HB.out⟩
end Go.Proofs.Ytnhgjjpjmfjmjaa
