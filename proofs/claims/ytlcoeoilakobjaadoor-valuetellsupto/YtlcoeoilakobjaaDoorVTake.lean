/- Contract of value.TakeKey. -/
import Derived.Test.YtlcoeoilakobjaaDoorVKey
import Derived.Test.YtlcoeoilakobjaaDoorTText
import Derived.Test.YtlcoeoilakobjaaDoorCodec
namespace Go.Proofs.YtlcoeoilakobjaaDoor
open Go.RowKit
set_option linter.unusedVariables false
set_option linter.unusedSimpArgs false
set_option maxRecDepth 20000

theorem run_from (b off L c p : Nat) (hp : p ≤ L) (hL : L ≤ c) (w : World) : (Instr.slice 30 (.slice (some ⟨b, off, none⟩) L c) (some (.int .i64 (p : Int))) none none).run Tryd.prog w = .ok (.slice (some ⟨b, if p = c then off else off + p, none⟩) (L - p) (c - p)) w := by
  by_cases h : p = c
  · rw [if_pos h]
    go_simp
    intro hlt
    omega
  · rw [if_neg h]
    go_simp
    intro e
    exact absurd e.symm h

theorem from_shows {B b off c : Nat} {bs : List UInt8} {w : World} (h : Shows B w (.slice (some ⟨b, off, none⟩) bs.length c) bs) (p : Nat) (hp : p ≤ bs.length) (hL : bs.length ≤ c) :
    Shows B w (.slice (some ⟨b, if p = c then off else off + p, none⟩) (bs.length - p) (c - p)) (bs.drop p) := by
  by_cases hc : p = c
  · rw [if_pos hc]
    have h1 : bs.length - p = 0 := by omega
    have h2 : bs.drop p = [] := List.drop_eq_nil_of_le (by omega)
    rw [h1, h2]
    exact Shows.empty _ _ _ _ (by unfold maxLen; omega)
  · rw [if_neg hc]
    have := h.mid p (bs.length - p) (by omega)
    rwa [List.take_of_length_le (by simp)] at this

/-- Whatever stands behind the first p bytes, as a slice expression writes it. -/
theorem from_any {B : Nat} {bs : List UInt8} {w : World} {a : Option Addr} {c : Nat} (h : Shows B w (.slice a bs.length c) bs) (hne : bs ≠ []) (p : Nat) (hp : p ≤ bs.length) :
    ∃ V, (∀ w, (Instr.slice 30 (.slice a bs.length c) (some (.int .i64 (p : Int))) none none).run Tryd.prog w = .ok V w) ∧ ∀ w', Shows B w' (.slice a bs.length c) bs → Shows B w' V (bs.drop p) := by
  obtain ⟨a', c', hv, h1, h2, _, h3⟩ := h
  simp only [Value.slice.injEq] at hv
  obtain ⟨rfl, _, rfl⟩ := hv
  obtain ⟨b, off, rfl, _, _⟩ := h3 hne
  exact ⟨_, run_from b off bs.length c p hp h1, fun w' h' => from_shows h' p hp h1⟩

def zV : Vl := ⟨0, 0, []⟩

/-- TakeKey's answer: the error, the value, how many bytes it takes. -/
def tkV : List UInt8 → Nat × Vl × Nat
  | [] => (3, zV, 0)
  | c :: r => if c = 0 then (0, zV, 1) else if c = 1 then (if r.length < 8 then (3, zV, 0) else (0, ⟨1, i64of (num (r.take 8) + 9223372036854775808), []⟩, 9))
    else if c = 2 then (if (ttext r).1 ≠ 0 then ((ttext r).1, zV, 0) else if 40 < (ttext r).2.1.length then (2, zV, 0) else (0, ⟨2, 0, (ttext r).2.1⟩, 1 + (ttext r).2.2)) else (4, zV, 0)

theorem cells3 {w : World} {g : Nat} {a b c : Value} {t : TypeId} (h : w.heap[g]? = some (.cells #[a, b, c] t)) :
    w.cell? ⟨g, 0, none⟩ = some a ∧ w.cell? ⟨g, 1, none⟩ = some b ∧ w.cell? ⟨g, 2, none⟩ = some c ∧ ∀ i, w.frozen? ⟨g, i, none⟩ = false :=
  ⟨by rw [cell_row _ _ _ _ _ _ h]; rfl, by rw [cell_row _ _ _ _ _ _ h]; rfl, by rw [cell_row _ _ _ _ _ _ h]; rfl, fun i => by simp [World.frozen?, h]⟩

/-- Two boxes: blocks of three cells, behind whatever is made later. -/
theorem boxes (w : World) (a b c a' b' c' : Value) (t : TypeId) : ∃ W, (w.alloc (.cells #[a, b, c] t)).alloc (.cells #[a', b', c'] t) = W ∧ Below w.heap.size w W ∧ w.heap.size + 1 < W.heap.size ∧
    ∀ W', Below W.heap.size W W' → W'.heap[w.heap.size]? = some (.cells #[a, b, c] t) ∧ W'.heap[w.heap.size + 1]? = some (.cells #[a', b', c'] t) := by
  refine ⟨_, rfl, ((Below.refl _ _).alloc (Nat.le_refl _) _).alloc (by simp) _, by simp, fun W' h => ?_⟩
  have e : (w.alloc (.cells #[a, b, c] t)).heap.size = w.heap.size + 1 := by simp
  refine ⟨(h.block _ (by simp; omega)).trans ((((Below.refl _ (w.alloc (.cells #[a, b, c] t))).alloc (Nat.le_refl _) _).block _ (by omega)).trans (heap_alloc_new w _)), ?_⟩
  rw [h.block _ (by simp), ← e]
  exact heap_alloc_new _ _

theorem tnum_short {r : List UInt8} (h : r.length < 8) (q : Nat) : tnum r q = (0, 0, 3) := if_pos h
theorem tnum_long {r : List UInt8} (h : ¬ r.length < 8) (q : Nat) : tnum r q = (i64of (num (r.take 8) + q), 8, 0) := if_neg h

theorem right_num (n : Int) : rightV ⟨1, n, []⟩ = 0 := by
  have : eqv ⟨1, n, []⟩ (namedV ⟨1, n, []⟩) = true := by rw [eqv_iff]; rfl
  rw [rightV, if_neg (by rw [this]; simp)]
  rfl

theorem right_text (s : List UInt8) : rightV ⟨2, 0, s⟩ = if 40 < s.length then 2 else 0 := by
  have : eqv ⟨2, 0, s⟩ (namedV ⟨2, 0, s⟩) = true := by rw [eqv_iff]; rfl
  rw [rightV, if_neg (by rw [this]; simp)]

theorem right_none (c : UInt8) (h0 : c ≠ 0) (h1 : c ≠ 1) (h2 : c ≠ 2) : rightV ⟨(c.toNat : Int), 0, []⟩ = 4 := by
  have k0 : c.toNat ≠ 0 := fun e => h0 (UInt8.toNat_inj.1 e)
  have k1 : c.toNat ≠ 1 := fun e => h1 (UInt8.toNat_inj.1 e)
  have k2 : c.toNat ≠ 2 := fun e => h2 (UInt8.toNat_inj.1 e)
  have hn : namedV ⟨(c.toNat : Int), 0, []⟩ = ⟨0, 0, []⟩ := by
    unfold namedV
    rw [if_neg (by dsimp only; omega), if_neg (by dsimp only; omega)]
  have : eqv ⟨(c.toNat : Int), 0, []⟩ (namedV ⟨(c.toNat : Int), 0, []⟩) = false := by
    rw [hn]
    have : ¬ eqv ⟨(c.toNat : Int), 0, []⟩ ⟨0, 0, []⟩ = true := by rw [eqv_iff]; simp only [Vl.mk.injEq]; omega
    simpa using this
  rw [rightV, if_pos this]

set_option maxHeartbeats 1000000 in
theorem takeKey_none (a : Option Addr) (c : Nat) (w : World) :
    Calls Tryd.prog 18 #[.slice a 0 c] w fun e w' => e = .returned (.tuple #[.agg #[.int .i64 0, .int .i64 0, .string (str8 [])], .int .i64 0, .int .i64 3]) ∧ Below w.heap.size w w' := by
  have hb : ∀ (o : Obj), Below w.heap.size w (w.alloc o) := fun o => (Below.refl _ _).alloc (Nat.le_refl _) _
  have e0 : str8 [] = ⟨#[]⟩ := rfl
  rw [e0]
  go_enter Tryd.func18, Tryd.ntmps18
  go_wp2
  exact bodyPost_ret (v := .tuple #[.agg #[.int .i64 0, .int .i64 0, .string ⟨#[]⟩], .int .i64 0, .int .i64 3]) (by simp [results, Tryd.results18, go_sem]) rfl ⟨rfl, hb _⟩

set_option maxHeartbeats 1000000 in
theorem takeKey_null (B0 : Nat) (v : Value) (c : UInt8) (r : List UInt8) (w : World) (hB : B0 ≤ w.heap.size) (hsh : Shows B0 w v (c :: r)) (hl : r.length ≤ 140737488351232) (hc : c = 0) :
    Calls Tryd.prog 18 #[v] w fun e w' => e = .returned (.tuple #[.agg #[.int .i64 0, .int .i64 0, .string (str8 [])], .int .i64 1, .int .i64 0]) ∧ Below w.heap.size w w' := by
  obtain ⟨a, cp, rfl, hl1, hl2, hn0, h3⟩ := id hsh
  have hlen : (c :: r).length = r.length + 1 := rfl
  obtain ⟨b, off, rfl, hbB, hcell⟩ := h3 (by simp)
  obtain ⟨V, hV, hVs⟩ := from_any (p := 1) hsh (by simp) (by simp)
  have hcp : w.cell? ⟨b, off, none⟩ = some (.int .u8 0) := by have := hcell 0 (by simp); simp only [List.getElem?_cons_zero, Option.getD_some, Nat.add_zero] at this; rw [hc] at this; exact this
  have hV : ∀ w, (Instr.slice 30 (.slice (some ⟨b, off, none⟩) (r.length + 1) cp) (some (.int .i64 1)) none none).run Tryd.prog w = .ok V w := hV
  have hcp2 : ∀ o, (w.alloc o).cell? ⟨b, off, none⟩ = some (.int .u8 0) := fun o => (((Below.refl _ w).alloc (Nat.le_refl _) o).cell (p := ⟨b, off, none⟩) (by show b < _; omega)).trans hcp
  have hnz : ((r.length : Int) + 1 == 0) = false := by rw [beq_eq_false_iff_ne]; omega
  have HVs := hid hVs
  have HSH := hid hsh
  unfold maxLen at hl2
  rw [hlen] at hl1 ⊢
  clear hVs h3 hcell hn0 hsh
  have e0 : str8 [] = ⟨#[]⟩ := rfl
  try rw [e0]
  go_enter Tryd.func18, Tryd.ntmps18
  go_wp2_with fail
  obtain ⟨W, hW, hbW, hzW, hcW⟩ := boxes w (.int .i64 0) (.int .i64 0) (.string ⟨#[]⟩) (.int .i64 0) (.int .i64 0) (.string ⟨#[]⟩) 23
  have HCW := hid hcW
  have HB := hid hbW
  clear hcW hbW
  rw [hW]
  clear hW
  refine (right_any 0 0 [] W (by simp)).mono ?_
  rw [show rightV ⟨0, 0, []⟩ = 0 from rfl]
  rintro e w2 ⟨rfl, hb2⟩
  have hz2 := hb2.size
  have g0 := cells3 (HCW.out w2 hb2).1
  have g1 := cells3 (HCW.out w2 hb2).2
  have HD := hid (HB.out.trans (hb2.mono (by omega)))
  clear hb2
  go_wp2
  exact bodyPost_ret (v := .tuple #[.agg #[.int .i64 0, .int .i64 0, .string ⟨#[]⟩], .int .i64 1, .int .i64 0]) (by simp [results, Tryd.results18, go_sem, g0]) rfl ⟨rfl, ((HD.out.setCell (Nat.le_refl _) _).setCell (Nat.le_refl _) _).setCell (Nat.le_refl _) _⟩

set_option maxHeartbeats 1000000 in
theorem takeKey_form (B0 : Nat) (v : Value) (c : UInt8) (r : List UInt8) (w : World) (hB : B0 ≤ w.heap.size) (hsh : Shows B0 w v (c :: r)) (hl : r.length ≤ 140737488351232) (h0 : c ≠ 0) (h1 : c ≠ 1) (h2 : c ≠ 2) (q : Int) (hq : (c.toNat : Int) = q) :
    Calls Tryd.prog 18 #[v] w fun e w' => e = .returned (.tuple #[.agg #[.int .i64 0, .int .i64 0, .string (str8 [])], .int .i64 0, .int .i64 4]) ∧ Below w.heap.size w w' := by
  have n1 := toNat_ne c 1 h1
  have n2 := toNat_ne c 2 h2
  have hR := right_none c h0 h1 h2
  simp only [show ((1 : UInt8).toNat : Int) = 1 from rfl, show ((2 : UInt8).toNat : Int) = 2 from rfl] at n1 n2
  rw [hq] at n1 n2 hR
  have q0 : 0 ≤ q := by omega
  have q1 : q ≤ 255 := by have := c.toNat_lt; omega
  clear h0 h1 h2
  obtain ⟨a, cp, rfl, hl1, hl2, hn0, h3⟩ := id hsh
  have hlen : (c :: r).length = r.length + 1 := rfl
  obtain ⟨b, off, rfl, hbB, hcell⟩ := h3 (by simp)
  obtain ⟨V, hV, hVs⟩ := from_any (p := 1) hsh (by simp) (by simp)
  have hcp : w.cell? ⟨b, off, none⟩ = some (.int .u8 q) := by have := hcell 0 (by simp); simp only [List.getElem?_cons_zero, Option.getD_some, Nat.add_zero] at this; rw [hq] at this; exact this
  have hV : ∀ w, (Instr.slice 30 (.slice (some ⟨b, off, none⟩) (r.length + 1) cp) (some (.int .i64 1)) none none).run Tryd.prog w = .ok V w := hV
  have hcp2 : ∀ o, (w.alloc o).cell? ⟨b, off, none⟩ = some (.int .u8 q) := fun o => (((Below.refl _ w).alloc (Nat.le_refl _) o).cell (p := ⟨b, off, none⟩) (by show b < _; omega)).trans hcp
  have hnz : ((r.length : Int) + 1 == 0) = false := by rw [beq_eq_false_iff_ne]; omega
  have HVs := hid hVs
  have HSH := hid hsh
  unfold maxLen at hl2
  rw [hlen] at hl1 ⊢
  clear hVs h3 hcell hn0 hsh
  have e0 : str8 [] = ⟨#[]⟩ := rfl
  try rw [e0]
  go_enter Tryd.func18, Tryd.ntmps18
  go_wp2_with fail
  obtain ⟨W, hW, hbW, hzW, hcW⟩ := boxes w (.int .i64 0) (.int .i64 0) (.string ⟨#[]⟩) (.int .i64 q) (.int .i64 0) (.string ⟨#[]⟩) 23
  have HCW := hid hcW
  have HB := hid hbW
  clear hcW hbW
  rw [hW]
  clear hW
  refine (right_any q 0 [] W (by simp)).mono ?_
  rw [hR]
  rintro e w2 ⟨rfl, hb2⟩
  have hz2 := hb2.size
  have g0 := cells3 (HCW.out w2 hb2).1
  have g1 := cells3 (HCW.out w2 hb2).2
  have HD := hid (HB.out.trans (hb2.mono (by omega)))
  clear hb2
  go_wp2
  exact bodyPost_ret (v := .tuple #[.agg #[.int .i64 0, .int .i64 0, .string ⟨#[]⟩], .int .i64 0, .int .i64 4]) (by simp [results, Tryd.results18, go_sem, g0]) rfl ⟨rfl, ((HD.out.setCell (Nat.le_refl _) _).setCell (Nat.le_refl _) _).setCell (Nat.le_refl _) _⟩

set_option maxHeartbeats 1000000 in
theorem takeKey_short (B0 : Nat) (v : Value) (c : UInt8) (r : List UInt8) (w : World) (hB : B0 ≤ w.heap.size) (hsh : Shows B0 w v (c :: r)) (hl : r.length ≤ 140737488351232) (hc : c = 1) (h8 : r.length < 8) :
    Calls Tryd.prog 18 #[v] w fun e w' => e = .returned (.tuple #[.agg #[.int .i64 0, .int .i64 0, .string (str8 [])], .int .i64 0, .int .i64 3]) ∧ Below w.heap.size w w' := by
  obtain ⟨a, cp, rfl, hl1, hl2, hn0, h3⟩ := id hsh
  have hlen : (c :: r).length = r.length + 1 := rfl
  obtain ⟨b, off, rfl, hbB, hcell⟩ := h3 (by simp)
  obtain ⟨V, hV, hVs⟩ := from_any (p := 1) hsh (by simp) (by simp)
  have hcp : w.cell? ⟨b, off, none⟩ = some (.int .u8 1) := by have := hcell 0 (by simp); simp only [List.getElem?_cons_zero, Option.getD_some, Nat.add_zero] at this; rw [hc] at this; exact this
  have hV : ∀ w, (Instr.slice 30 (.slice (some ⟨b, off, none⟩) (r.length + 1) cp) (some (.int .i64 1)) none none).run Tryd.prog w = .ok V w := hV
  have hcp2 : ∀ o, (w.alloc o).cell? ⟨b, off, none⟩ = some (.int .u8 1) := fun o => (((Below.refl _ w).alloc (Nat.le_refl _) o).cell (p := ⟨b, off, none⟩) (by show b < _; omega)).trans hcp
  have hnz : ((r.length : Int) + 1 == 0) = false := by rw [beq_eq_false_iff_ne]; omega
  have HVs := hid hVs
  have HSH := hid hsh
  unfold maxLen at hl2
  rw [hlen] at hl1 ⊢
  clear hVs h3 hcell hn0 hsh
  have e0 : str8 [] = ⟨#[]⟩ := rfl
  try rw [e0]
  go_enter Tryd.func18, Tryd.ntmps18
  go_wp2_with fail
  obtain ⟨W, hW, hbW, hzW, hcW⟩ := boxes w (.int .i64 0) (.int .i64 0) (.string ⟨#[]⟩) (.int .i64 1) (.int .i64 0) (.string ⟨#[]⟩) 23
  have HCW := hid hcW
  have HSV : Shows B0 W V r := HVs.out W (HSH.out.below (hbW.mono hB))
  have hBW : B0 ≤ W.heap.size := by omega
  rw [hW]
  clear hW hcW
  refine (takeNumKey_any B0 V r W HSV).mono ?_
  rw [tnum_short h8]
  rintro e X ⟨rfl, rfl⟩
  have HX := hbW
  have hzX := hzW
  have H0 := hid (HCW.out X (Below.refl _ _)).1
  have f0 := cells3 (HCW.out X (Below.refl _ _)).1
  have f1 := cells3 (HCW.out X (Below.refl _ _)).2
  clear hbW hzW
  have HD := hid HX
  clear HX
  go_wp2
  exact bodyPost_ret (v := .tuple #[.agg #[.int .i64 0, .int .i64 0, .string ⟨#[]⟩], .int .i64 0, .int .i64 3]) (by simp [results, Tryd.results18, go_sem, f0, f1]) rfl ⟨rfl, (((HD.out.setCell (Nat.le_succ _) _).setCell (Nat.le_refl _) _).setCell (Nat.le_refl _) _).setCell (Nat.le_refl _) _⟩

set_option maxHeartbeats 1000000 in
theorem takeKey_num (B0 : Nat) (v : Value) (c : UInt8) (r : List UInt8) (w : World) (hB : B0 ≤ w.heap.size) (hsh : Shows B0 w v (c :: r)) (hl : r.length ≤ 140737488351232) (hc : c = 1) (h8 : ¬ r.length < 8) (n : Int) (hn : i64of (num (r.take 8) + 9223372036854775808) = n) :
    Calls Tryd.prog 18 #[v] w fun e w' => e = .returned (.tuple #[.agg #[.int .i64 1, .int .i64 n, .string (str8 [])], .int .i64 9, .int .i64 0]) ∧ Below w.heap.size w w' := by
  obtain ⟨a, cp, rfl, hl1, hl2, hn0, h3⟩ := id hsh
  have hlen : (c :: r).length = r.length + 1 := rfl
  obtain ⟨b, off, rfl, hbB, hcell⟩ := h3 (by simp)
  obtain ⟨V, hV, hVs⟩ := from_any (p := 1) hsh (by simp) (by simp)
  have hcp : w.cell? ⟨b, off, none⟩ = some (.int .u8 1) := by have := hcell 0 (by simp); simp only [List.getElem?_cons_zero, Option.getD_some, Nat.add_zero] at this; rw [hc] at this; exact this
  have hV : ∀ w, (Instr.slice 30 (.slice (some ⟨b, off, none⟩) (r.length + 1) cp) (some (.int .i64 1)) none none).run Tryd.prog w = .ok V w := hV
  have hcp2 : ∀ o, (w.alloc o).cell? ⟨b, off, none⟩ = some (.int .u8 1) := fun o => (((Below.refl _ w).alloc (Nat.le_refl _) o).cell (p := ⟨b, off, none⟩) (by show b < _; omega)).trans hcp
  have hnz : ((r.length : Int) + 1 == 0) = false := by rw [beq_eq_false_iff_ne]; omega
  have HVs := hid hVs
  have HSH := hid hsh
  unfold maxLen at hl2
  rw [hlen] at hl1 ⊢
  clear hVs h3 hcell hn0 hsh
  have e0 : str8 [] = ⟨#[]⟩ := rfl
  try rw [e0]
  go_enter Tryd.func18, Tryd.ntmps18
  go_wp2_with fail
  obtain ⟨W, hW, hbW, hzW, hcW⟩ := boxes w (.int .i64 0) (.int .i64 0) (.string ⟨#[]⟩) (.int .i64 1) (.int .i64 0) (.string ⟨#[]⟩) 23
  have HCW := hid hcW
  have HSV : Shows B0 W V r := HVs.out W (HSH.out.below (hbW.mono hB))
  have hBW : B0 ≤ W.heap.size := by omega
  rw [hW]
  clear hW hcW
  refine (takeNumKey_any B0 V r W HSV).mono ?_
  rw [tnum_long h8, hn]
  rintro e X ⟨rfl, rfl⟩
  have HX := hbW
  have hzX := hzW
  have H0 := hid (HCW.out X (Below.refl _ _)).1
  have f0 := cells3 (HCW.out X (Below.refl _ _)).1
  have f1 := cells3 (HCW.out X (Below.refl _ _)).2
  clear hbW hzW
  have HX2 : Below w.heap.size w (X.setCell ⟨w.heap.size + 1, 1, none⟩ (.int .i64 n)) := HX.setCell (Nat.le_succ _) _
  have hne : w.heap.size ≠ w.heap.size + 1 := by omega
  have k0 : (X.setCell ⟨w.heap.size + 1, 1, none⟩ (.int .i64 n)).heap[w.heap.size]? = X.heap[w.heap.size]? := Below.heap_setCell X _ _ _ hne
  have k1 : (X.setCell ⟨w.heap.size + 1, 1, none⟩ (.int .i64 n)).cell? ⟨w.heap.size + 1, 0, none⟩ = some (.int .i64 1) := by rw [World.cell?_setCell_other _ _ _ _ (by simp)]; exact f1.1
  have k2 : (X.setCell ⟨w.heap.size + 1, 1, none⟩ (.int .i64 n)).cell? ⟨w.heap.size + 1, 1, none⟩ = some (.int .i64 n) := by exact World.cell?_setCell_same _ _ _ f1.2.1
  have k3 : (X.setCell ⟨w.heap.size + 1, 1, none⟩ (.int .i64 n)).cell? ⟨w.heap.size + 1, 2, none⟩ = some (.string ⟨#[]⟩) := by rw [World.cell?_setCell_other _ _ _ _ (by simp)]; exact f1.2.2.1
  have hzX2 : w.heap.size + 1 < (X.setCell ⟨w.heap.size + 1, 1, none⟩ (.int .i64 n)).heap.size := Nat.lt_of_lt_of_le hzX (by simp)
  have HK := hid (show _ ∧ _ ∧ _ ∧ _ ∧ _ from ⟨HX2, k0, k1, k2, k3⟩)
  clear k0 k1 k2 k3 HX2 HX
  go_wp2_with fail
  generalize X.setCell ⟨w.heap.size + 1, 1, none⟩ (.int .i64 n) = Y at *
  refine (right_any 1 n [] _ (by simp)).mono ?_
  rw [right_num]
  rintro e w2 ⟨rfl, hb2⟩
  have hz2 := hb2.size
  obtain ⟨HY, k0, k1, k2, k3⟩ := HK.out
  have g0 := cells3 ((hb2.block w.heap.size (by omega)).trans (k0.trans H0.out))
  have g1 : w2.cell? ⟨w.heap.size + 1, 0, none⟩ = some (.int .i64 1) := (hb2.cell (p := ⟨w.heap.size + 1, 0, none⟩) hzX2).trans k1
  have g2 : w2.cell? ⟨w.heap.size + 1, 1, none⟩ = some (.int .i64 n) := (hb2.cell (p := ⟨w.heap.size + 1, 1, none⟩) hzX2).trans k2
  have g3 : w2.cell? ⟨w.heap.size + 1, 2, none⟩ = some (.string ⟨#[]⟩) := (hb2.cell (p := ⟨w.heap.size + 1, 2, none⟩) hzX2).trans k3
  have HD := hid (HY.trans (hb2.mono (by omega)))
  clear hb2 HY k0 k1 k2 k3 HK f0 f1
  go_wp2
  exact bodyPost_ret (v := .tuple #[.agg #[.int .i64 1, .int .i64 n, .string ⟨#[]⟩], .int .i64 9, .int .i64 0]) (by simp [results, Tryd.results18, go_sem, g0]) rfl ⟨rfl, ((HD.out.setCell (Nat.le_refl _) _).setCell (Nat.le_refl _) _).setCell (Nat.le_refl _) _⟩

set_option maxHeartbeats 1000000 in
theorem takeKey_terr (B0 : Nat) (v : Value) (c : UInt8) (r : List UInt8) (w : World) (hB : B0 ≤ w.heap.size) (hsh : Shows B0 w v (c :: r)) (hl : r.length ≤ 140737488351232) (hc : c = 2) (er : Nat) (he : ttext r = (er, [], 0)) (her : er ≠ 0) :
    Calls Tryd.prog 18 #[v] w fun e w' => e = .returned (.tuple #[.agg #[.int .i64 0, .int .i64 0, .string (str8 [])], .int .i64 0, .int .i64 er]) ∧ Below w.heap.size w w' := by
  have her' : (((er : Nat) : Int) == 0) = false := by rw [beq_eq_false_iff_ne]; omega
  obtain ⟨a, cp, rfl, hl1, hl2, hn0, h3⟩ := id hsh
  have hlen : (c :: r).length = r.length + 1 := rfl
  obtain ⟨b, off, rfl, hbB, hcell⟩ := h3 (by simp)
  obtain ⟨V, hV, hVs⟩ := from_any (p := 1) hsh (by simp) (by simp)
  have hcp : w.cell? ⟨b, off, none⟩ = some (.int .u8 2) := by have := hcell 0 (by simp); simp only [List.getElem?_cons_zero, Option.getD_some, Nat.add_zero] at this; rw [hc] at this; exact this
  have hV : ∀ w, (Instr.slice 30 (.slice (some ⟨b, off, none⟩) (r.length + 1) cp) (some (.int .i64 1)) none none).run Tryd.prog w = .ok V w := hV
  have hcp2 : ∀ o, (w.alloc o).cell? ⟨b, off, none⟩ = some (.int .u8 2) := fun o => (((Below.refl _ w).alloc (Nat.le_refl _) o).cell (p := ⟨b, off, none⟩) (by show b < _; omega)).trans hcp
  have hnz : ((r.length : Int) + 1 == 0) = false := by rw [beq_eq_false_iff_ne]; omega
  have HVs := hid hVs
  have HSH := hid hsh
  unfold maxLen at hl2
  rw [hlen] at hl1 ⊢
  clear hVs h3 hcell hn0 hsh
  have e0 : str8 [] = ⟨#[]⟩ := rfl
  try rw [e0]
  go_enter Tryd.func18, Tryd.ntmps18
  go_wp2_with fail
  obtain ⟨W, hW, hbW, hzW, hcW⟩ := boxes w (.int .i64 0) (.int .i64 0) (.string ⟨#[]⟩) (.int .i64 2) (.int .i64 0) (.string ⟨#[]⟩) 23
  have HCW := hid hcW
  have HSV : Shows B0 W V r := HVs.out W (HSH.out.below (hbW.mono hB))
  have hBW : B0 ≤ W.heap.size := by omega
  rw [hW]
  clear hW hcW
  refine (takeText_any B0 V r W hBW HSV hl).mono ?_
  rw [he]
  rintro e X ⟨rfl, hbX⟩
  have HX := hbW.trans (hbX.mono (by omega))
  have hzX : w.heap.size + 1 < X.heap.size := Nat.lt_of_lt_of_le hzW hbX.size
  have H0 := hid (HCW.out X hbX).1
  have f0 := cells3 (HCW.out X hbX).1
  have f1 := cells3 (HCW.out X hbX).2
  clear hbW hzW hbX
  have HD := hid HX
  clear HX
  go_wp2
  exact bodyPost_ret (v := .tuple #[.agg #[.int .i64 0, .int .i64 0, .string ⟨#[]⟩], .int .i64 0, .int .i64 er]) (by simp [results, Tryd.results18, go_sem, f0, f1]) rfl ⟨rfl, (((HD.out.setCell (Nat.le_succ _) _).setCell (Nat.le_refl _) _).setCell (Nat.le_refl _) _).setCell (Nat.le_refl _) _⟩

set_option maxHeartbeats 1000000 in
theorem takeKey_tlong (B0 : Nat) (v : Value) (c : UInt8) (r : List UInt8) (w : World) (hB : B0 ≤ w.heap.size) (hsh : Shows B0 w v (c :: r)) (hl : r.length ≤ 140737488351232) (hc : c = 2) (s : List UInt8) (q : Nat) (he : ttext r = (0, s, q)) (hs : 40 < s.length) (hs2 : s.length ≤ 140737488351232) :
    Calls Tryd.prog 18 #[v] w fun e w' => e = .returned (.tuple #[.agg #[.int .i64 0, .int .i64 0, .string (str8 [])], .int .i64 0, .int .i64 2]) ∧ Below w.heap.size w w' := by
  obtain ⟨a, cp, rfl, hl1, hl2, hn0, h3⟩ := id hsh
  have hlen : (c :: r).length = r.length + 1 := rfl
  obtain ⟨b, off, rfl, hbB, hcell⟩ := h3 (by simp)
  obtain ⟨V, hV, hVs⟩ := from_any (p := 1) hsh (by simp) (by simp)
  have hcp : w.cell? ⟨b, off, none⟩ = some (.int .u8 2) := by have := hcell 0 (by simp); simp only [List.getElem?_cons_zero, Option.getD_some, Nat.add_zero] at this; rw [hc] at this; exact this
  have hV : ∀ w, (Instr.slice 30 (.slice (some ⟨b, off, none⟩) (r.length + 1) cp) (some (.int .i64 1)) none none).run Tryd.prog w = .ok V w := hV
  have hcp2 : ∀ o, (w.alloc o).cell? ⟨b, off, none⟩ = some (.int .u8 2) := fun o => (((Below.refl _ w).alloc (Nat.le_refl _) o).cell (p := ⟨b, off, none⟩) (by show b < _; omega)).trans hcp
  have hnz : ((r.length : Int) + 1 == 0) = false := by rw [beq_eq_false_iff_ne]; omega
  have HVs := hid hVs
  have HSH := hid hsh
  unfold maxLen at hl2
  rw [hlen] at hl1 ⊢
  clear hVs h3 hcell hn0 hsh
  have e0 : str8 [] = ⟨#[]⟩ := rfl
  try rw [e0]
  go_enter Tryd.func18, Tryd.ntmps18
  go_wp2_with fail
  obtain ⟨W, hW, hbW, hzW, hcW⟩ := boxes w (.int .i64 0) (.int .i64 0) (.string ⟨#[]⟩) (.int .i64 2) (.int .i64 0) (.string ⟨#[]⟩) 23
  have HCW := hid hcW
  have HSV : Shows B0 W V r := HVs.out W (HSH.out.below (hbW.mono hB))
  have hBW : B0 ≤ W.heap.size := by omega
  rw [hW]
  clear hW hcW
  refine (takeText_any B0 V r W hBW HSV hl).mono ?_
  rw [he]
  rintro e X ⟨rfl, hbX⟩
  have HX := hbW.trans (hbX.mono (by omega))
  have hzX : w.heap.size + 1 < X.heap.size := Nat.lt_of_lt_of_le hzW hbX.size
  have H0 := hid (HCW.out X hbX).1
  have f0 := cells3 (HCW.out X hbX).1
  have f1 := cells3 (HCW.out X hbX).2
  clear hbW hzW hbX
  have HX2 : Below w.heap.size w (X.setCell ⟨w.heap.size + 1, 2, none⟩ (.string (str8 s))) := HX.setCell (Nat.le_succ _) _
  have hne : w.heap.size ≠ w.heap.size + 1 := by omega
  have k0 : (X.setCell ⟨w.heap.size + 1, 2, none⟩ (.string (str8 s))).heap[w.heap.size]? = X.heap[w.heap.size]? := Below.heap_setCell X _ _ _ hne
  have k1 : (X.setCell ⟨w.heap.size + 1, 2, none⟩ (.string (str8 s))).cell? ⟨w.heap.size + 1, 0, none⟩ = some (.int .i64 2) := by rw [World.cell?_setCell_other _ _ _ _ (by simp)]; exact f1.1
  have k2 : (X.setCell ⟨w.heap.size + 1, 2, none⟩ (.string (str8 s))).cell? ⟨w.heap.size + 1, 1, none⟩ = some (.int .i64 0) := by rw [World.cell?_setCell_other _ _ _ _ (by simp)]; exact f1.2.1
  have k3 : (X.setCell ⟨w.heap.size + 1, 2, none⟩ (.string (str8 s))).cell? ⟨w.heap.size + 1, 2, none⟩ = some (.string (str8 s)) := by exact World.cell?_setCell_same _ _ _ f1.2.2.1
  have hzX2 : w.heap.size + 1 < (X.setCell ⟨w.heap.size + 1, 2, none⟩ (.string (str8 s))).heap.size := Nat.lt_of_lt_of_le hzX (by simp)
  have HK := hid (show _ ∧ _ ∧ _ ∧ _ ∧ _ from ⟨HX2, k0, k1, k2, k3⟩)
  clear k0 k1 k2 k3 HX2 HX
  go_wp2_with fail
  generalize X.setCell ⟨w.heap.size + 1, 2, none⟩ (.string (str8 s)) = Y at *
  refine (right_any 2 0 s _ (by omega)).mono ?_
  rw [right_text, if_pos hs]
  rintro e w2 ⟨rfl, hb2⟩
  have hz2 := hb2.size
  obtain ⟨HY, k0, k1, k2, k3⟩ := HK.out
  have g0 := cells3 ((hb2.block w.heap.size (by omega)).trans (k0.trans H0.out))
  have g1 : w2.cell? ⟨w.heap.size + 1, 0, none⟩ = some (.int .i64 2) := (hb2.cell (p := ⟨w.heap.size + 1, 0, none⟩) hzX2).trans k1
  have g2 : w2.cell? ⟨w.heap.size + 1, 1, none⟩ = some (.int .i64 0) := (hb2.cell (p := ⟨w.heap.size + 1, 1, none⟩) hzX2).trans k2
  have g3 : w2.cell? ⟨w.heap.size + 1, 2, none⟩ = some (.string (str8 s)) := (hb2.cell (p := ⟨w.heap.size + 1, 2, none⟩) hzX2).trans k3
  have HD := hid (HY.trans (hb2.mono (by omega)))
  clear hb2 HY k0 k1 k2 k3 HK f0 f1
  go_wp2
  exact bodyPost_ret (v := .tuple #[.agg #[.int .i64 0, .int .i64 0, .string ⟨#[]⟩], .int .i64 0, .int .i64 2]) (by simp [results, Tryd.results18, go_sem, g0]) rfl ⟨rfl, ((HD.out.setCell (Nat.le_refl _) _).setCell (Nat.le_refl _) _).setCell (Nat.le_refl _) _⟩

set_option maxHeartbeats 1000000 in
theorem takeKey_text (B0 : Nat) (v : Value) (c : UInt8) (r : List UInt8) (w : World) (hB : B0 ≤ w.heap.size) (hsh : Shows B0 w v (c :: r)) (hl : r.length ≤ 140737488351232) (hc : c = 2) (s : List UInt8) (q : Nat) (he : ttext r = (0, s, q)) (hs : ¬ 40 < s.length) (hq : q ≤ 140737488351232) :
    Calls Tryd.prog 18 #[v] w fun e w' => e = .returned (.tuple #[.agg #[.int .i64 2, .int .i64 0, .string (str8 s)], .int .i64 (1 + (q : Int)), .int .i64 0]) ∧ Below w.heap.size w w' := by
  obtain ⟨a, cp, rfl, hl1, hl2, hn0, h3⟩ := id hsh
  have hlen : (c :: r).length = r.length + 1 := rfl
  obtain ⟨b, off, rfl, hbB, hcell⟩ := h3 (by simp)
  obtain ⟨V, hV, hVs⟩ := from_any (p := 1) hsh (by simp) (by simp)
  have hcp : w.cell? ⟨b, off, none⟩ = some (.int .u8 2) := by have := hcell 0 (by simp); simp only [List.getElem?_cons_zero, Option.getD_some, Nat.add_zero] at this; rw [hc] at this; exact this
  have hV : ∀ w, (Instr.slice 30 (.slice (some ⟨b, off, none⟩) (r.length + 1) cp) (some (.int .i64 1)) none none).run Tryd.prog w = .ok V w := hV
  have hcp2 : ∀ o, (w.alloc o).cell? ⟨b, off, none⟩ = some (.int .u8 2) := fun o => (((Below.refl _ w).alloc (Nat.le_refl _) o).cell (p := ⟨b, off, none⟩) (by show b < _; omega)).trans hcp
  have hnz : ((r.length : Int) + 1 == 0) = false := by rw [beq_eq_false_iff_ne]; omega
  have HVs := hid hVs
  have HSH := hid hsh
  unfold maxLen at hl2
  rw [hlen] at hl1 ⊢
  clear hVs h3 hcell hn0 hsh
  have e0 : str8 [] = ⟨#[]⟩ := rfl
  try rw [e0]
  go_enter Tryd.func18, Tryd.ntmps18
  go_wp2_with fail
  obtain ⟨W, hW, hbW, hzW, hcW⟩ := boxes w (.int .i64 0) (.int .i64 0) (.string ⟨#[]⟩) (.int .i64 2) (.int .i64 0) (.string ⟨#[]⟩) 23
  have HCW := hid hcW
  have HSV : Shows B0 W V r := HVs.out W (HSH.out.below (hbW.mono hB))
  have hBW : B0 ≤ W.heap.size := by omega
  rw [hW]
  clear hW hcW
  refine (takeText_any B0 V r W hBW HSV hl).mono ?_
  rw [he]
  rintro e X ⟨rfl, hbX⟩
  have HX := hbW.trans (hbX.mono (by omega))
  have hzX : w.heap.size + 1 < X.heap.size := Nat.lt_of_lt_of_le hzW hbX.size
  have H0 := hid (HCW.out X hbX).1
  have f0 := cells3 (HCW.out X hbX).1
  have f1 := cells3 (HCW.out X hbX).2
  clear hbW hzW hbX
  have HX2 : Below w.heap.size w (X.setCell ⟨w.heap.size + 1, 2, none⟩ (.string (str8 s))) := HX.setCell (Nat.le_succ _) _
  have hne : w.heap.size ≠ w.heap.size + 1 := by omega
  have k0 : (X.setCell ⟨w.heap.size + 1, 2, none⟩ (.string (str8 s))).heap[w.heap.size]? = X.heap[w.heap.size]? := Below.heap_setCell X _ _ _ hne
  have k1 : (X.setCell ⟨w.heap.size + 1, 2, none⟩ (.string (str8 s))).cell? ⟨w.heap.size + 1, 0, none⟩ = some (.int .i64 2) := by rw [World.cell?_setCell_other _ _ _ _ (by simp)]; exact f1.1
  have k2 : (X.setCell ⟨w.heap.size + 1, 2, none⟩ (.string (str8 s))).cell? ⟨w.heap.size + 1, 1, none⟩ = some (.int .i64 0) := by rw [World.cell?_setCell_other _ _ _ _ (by simp)]; exact f1.2.1
  have k3 : (X.setCell ⟨w.heap.size + 1, 2, none⟩ (.string (str8 s))).cell? ⟨w.heap.size + 1, 2, none⟩ = some (.string (str8 s)) := by exact World.cell?_setCell_same _ _ _ f1.2.2.1
  have hzX2 : w.heap.size + 1 < (X.setCell ⟨w.heap.size + 1, 2, none⟩ (.string (str8 s))).heap.size := Nat.lt_of_lt_of_le hzX (by simp)
  have HK := hid (show _ ∧ _ ∧ _ ∧ _ ∧ _ from ⟨HX2, k0, k1, k2, k3⟩)
  clear k0 k1 k2 k3 HX2 HX
  go_wp2_with fail
  generalize X.setCell ⟨w.heap.size + 1, 2, none⟩ (.string (str8 s)) = Y at *
  refine (right_any 2 0 s _ (by omega)).mono ?_
  rw [right_text, if_neg hs]
  rintro e w2 ⟨rfl, hb2⟩
  have hz2 := hb2.size
  obtain ⟨HY, k0, k1, k2, k3⟩ := HK.out
  have g0 := cells3 ((hb2.block w.heap.size (by omega)).trans (k0.trans H0.out))
  have g1 : w2.cell? ⟨w.heap.size + 1, 0, none⟩ = some (.int .i64 2) := (hb2.cell (p := ⟨w.heap.size + 1, 0, none⟩) hzX2).trans k1
  have g2 : w2.cell? ⟨w.heap.size + 1, 1, none⟩ = some (.int .i64 0) := (hb2.cell (p := ⟨w.heap.size + 1, 1, none⟩) hzX2).trans k2
  have g3 : w2.cell? ⟨w.heap.size + 1, 2, none⟩ = some (.string (str8 s)) := (hb2.cell (p := ⟨w.heap.size + 1, 2, none⟩) hzX2).trans k3
  have HD := hid (HY.trans (hb2.mono (by omega)))
  clear hb2 HY k0 k1 k2 k3 HK f0 f1
  go_wp2
  exact bodyPost_ret (v := .tuple #[.agg #[.int .i64 2, .int .i64 0, .string (str8 s)], .int .i64 (1 + (q : Int)), .int .i64 0]) (by simp [results, Tryd.results18, go_sem, g0]) rfl ⟨rfl, ((HD.out.setCell (Nat.le_refl _) _).setCell (Nat.le_refl _) _).setCell (Nat.le_refl _) _⟩

theorem ttext_used : ∀ r : List UInt8, (ttext r).2.1.length ≤ r.length ∧ (ttext r).2.2 ≤ r.length
  | [] => by simp [ttext]
  | [c] => by
    by_cases h : c = 0
    · subst h; rw [ttext_end]; simp
    · rw [ttext_byte c [] h]; simp [addText, ttext]
  | c :: d :: r => by
    by_cases hc : c = 0
    · subst hc
      by_cases hd : d = 0
      · subst hd; rw [ttext_zero]; simp
      · by_cases h2 : d = 255
        · subst h2
          have ih := ttext_used r
          rw [ttext_esc]
          unfold addText
          split <;> simp <;> omega
        · rw [ttext_form d r hd h2]; simp
    · have ih := ttext_used (d :: r)
      rw [ttext_byte c _ hc]
      unfold addText
      simp only [List.length_cons] at ih ⊢
      split <;> simp <;> omega

theorem takeKey_any (B0 : Nat) (v : Value) (bs : List UInt8) (w : World) (hB : B0 ≤ w.heap.size) (hsh : Shows B0 w v bs) (hl : bs.length ≤ 140737488351232) :
    Calls Tryd.prog 18 #[v] w fun e w' => e = .returned (.tuple #[.agg #[.int .i64 (tkV bs).2.1.k, .int .i64 (tkV bs).2.1.n, .string (str8 (tkV bs).2.1.s)], .int .i64 (tkV bs).2.2, .int .i64 (tkV bs).1]) ∧ Below w.heap.size w w' := by
  match bs, hsh, hl with
  | [], hsh, _ =>
    obtain ⟨a, c, rfl, _⟩ := hsh
    exact takeKey_none a c w
  | c :: r, hsh, hl =>
    have hl' : r.length ≤ 140737488351232 := by simp at hl; omega
    by_cases h0 : c = 0
    · rw [show tkV (c :: r) = (0, zV, 1) from by rw [tkV, if_pos h0]]
      exact takeKey_null B0 v c r w hB hsh hl' h0
    · by_cases h1 : c = 1
      · by_cases h8 : r.length < 8
        · rw [show tkV (c :: r) = (3, zV, 0) from by rw [tkV, if_neg h0, if_pos h1, if_pos h8]]
          exact takeKey_short B0 v c r w hB hsh hl' h1 h8
        · rw [show tkV (c :: r) = (0, ⟨1, i64of (num (r.take 8) + 9223372036854775808), []⟩, 9) from by rw [tkV, if_neg h0, if_pos h1, if_neg h8]]
          exact takeKey_num B0 v c r w hB hsh hl' h1 h8 _ rfl
      · by_cases h2 : c = 2
        · have hu := ttext_used r
          by_cases he : (ttext r).1 = 0
          · have ht : ttext r = (0, (ttext r).2.1, (ttext r).2.2) := Prod.ext he rfl
            by_cases hs : 40 < (ttext r).2.1.length
            · rw [show tkV (c :: r) = (2, zV, 0) from by rw [tkV, if_neg h0, if_neg h1, if_pos h2, if_neg (by simpa using he), if_pos hs]]
              exact takeKey_tlong B0 v c r w hB hsh hl' h2 _ _ ht hs (by omega)
            · rw [show tkV (c :: r) = (0, ⟨2, 0, (ttext r).2.1⟩, 1 + (ttext r).2.2) from by rw [tkV, if_neg h0, if_neg h1, if_pos h2, if_neg (by simpa using he), if_neg hs]]
              have := takeKey_text B0 v c r w hB hsh hl' h2 _ _ ht hs (by omega)
              rw [show (1 + ((ttext r).2.2 : Int)) = ((1 + (ttext r).2.2 : Nat) : Int) by omega] at this
              exact this
          · rw [show tkV (c :: r) = ((ttext r).1, zV, 0) from by rw [tkV, if_neg h0, if_neg h1, if_pos h2, if_pos he]]
            exact takeKey_terr B0 v c r w hB hsh hl' h2 _ (by have := ttext_errs r he; exact Prod.ext rfl this) he
        · rw [show tkV (c :: r) = (4, zV, 0) from by rw [tkV, if_neg h0, if_neg h1, if_neg h2]]
          exact takeKey_form B0 v c r w hB hsh hl' h0 h1 h2 _ rfl
end Go.Proofs.YtlcoeoilakobjaaDoor
