/- Contract of digest's with. -/
import Derived.Test.YthkeofinamedfaaDoorWords
namespace Go.Proofs.YthkeofinamedfaaDoor
open Go.RowKit
set_option linter.unusedVariables false
set_option maxRecDepth 20000

/-- The words as an array. -/
def St.cells (s : St) : Array Value := #[w32 s.a, w32 s.b, w32 s.c, w32 s.d, w32 s.e, w32 s.f, w32 s.g, w32 s.h]

/-- A word of an array by value. -/
theorem run_index_words (WS : Array Value) (t : Nat) (u : Value) (W : World) (h : WS[t]? = some u) (ht : t < 64) :
    (Instr.index 121 (.agg WS) (.int .i64 t)).run Tryd.prog W = .ok u W := by
  simp [Instr.index, run_underlying Tryd.underlying121, asIntOf, ht, h, go_sem]

theorem not32 (E : Nat) (h : E < 4294967296) : bits .xor .u32 (if IntKind.u32.signed = true then -1 else IntKind.u32.max) (E : Int) = ((4294967295 - E : Nat) : Int) := by
  have e1 : (if IntKind.u32.signed = true then (-1 : Int) else IntKind.u32.max) = ((4294967295 : Nat) : Int) := by decide +kernel
  rw [e1, xor32 _ _ (by decide) h]
  have h1 : (BitVec.allOnes 32 ^^^ BitVec.ofNat 32 E) = ~~~ BitVec.ofNat 32 E := by rw [BitVec.allOnes_xor]
  have h2 := congrArg BitVec.toNat h1
  rw [BitVec.toNat_xor, BitVec.toNat_not, BitVec.toNat_allOnes, BitVec.toNat_ofNat, Nat.mod_eq_of_lt (by simpa using h)] at h2
  simp only [Nat.reducePow, Nat.reduceSub] at h2
  rw [h2]

/-- p of a round, as the walk writes it. -/
theorem p_step (H E F G k w : Nat) (hH : H < 4294967296) (hE : E < 4294967296) (hF : F < 4294967296) (hG : G < 4294967296) (s : St) (h1 : s.h = H) (h2 : s.e = E) (h3 : s.f = F) (h4 : s.g = G) :
    ((H : Int) + bits .xor .u32 (bits .xor .u32 (rot E 6 : Nat) (rot E 11 : Nat)) (rot E 25 : Nat) +
      bits .xor .u32 (bits .and .u32 (E : Int) (F : Int)) (bits .and .u32 (bits .xor .u32 (if IntKind.u32.signed = true then -1 else IntKind.u32.max) (E : Int)) (G : Int)) + (k : Int) + (w : Int)) % 4294967296 = ((pOf s k w : Nat) : Int) := by
  rw [not32 E hE, and32 _ _ (by omega) hG, and32 _ _ hE hF, xor32 _ _ (and_lt32 hE hF) (and_lt32 (by omega) hG), xor32 _ _ (rot_lt _ _ hE) (rot_lt _ _ hE), xor32 _ _ (xor_lt32 (rot_lt _ _ hE) (rot_lt _ _ hE)) (rot_lt _ _ hE)]
  rw [pOf, h1, h2, h3, h4, up1, cho]
  omega

/-- q of a round, as the walk writes it. -/
theorem q_step (A B C : Nat) (hA : A < 4294967296) (hB : B < 4294967296) (hC : C < 4294967296) (s : St) (h1 : s.a = A) (h2 : s.b = B) (h3 : s.c = C) :
    (bits .xor .u32 (bits .xor .u32 (rot A 2 : Nat) (rot A 13 : Nat)) (rot A 22 : Nat) +
      bits .xor .u32 (bits .xor .u32 (bits .and .u32 (A : Int) (B : Int)) (bits .and .u32 (A : Int) (C : Int))) (bits .and .u32 (B : Int) (C : Int))) % 4294967296 = ((qOf s : Nat) : Int) := by
  rw [and32 _ _ hA hB, and32 _ _ hA hC, and32 _ _ hB hC, xor32 _ _ (and_lt32 hA hB) (and_lt32 hA hC), xor32 _ _ (xor_lt32 (and_lt32 hA hB) (and_lt32 hA hC)) (and_lt32 hB hC), xor32 _ _ (rot_lt _ _ hA) (rot_lt _ _ hA), xor32 _ _ (xor_lt32 (rot_lt _ _ hA) (rot_lt _ _ hA)) (rot_lt _ _ hA)]
  rw [qOf, h1, h2, h3, up0, maj]
  omega

theorem one8 (a b c d e f g h : Int) : (#[Value.int .u32 a, .int .u32 b, .int .u32 c, .int .u32 d, .int .u32 e, .int .u32 f, .int .u32 g, .int .u32 h] : Array Value).all (·.oneCell') = true := by simp [Value.oneCell']

theorem rnd_a (s : St) (k w : Nat) : (rnd s k w).a = (pOf s k w + qOf s) % 4294967296 := rfl
theorem rnd_e (s : St) (k w : Nat) : (rnd s k w).e = (s.d + pOf s k w) % 4294967296 := rfl

theorem Tryd.infoWords : (Tryd.prog.info? 110).map (·.size) = some 8 := by kernel_rfl

theorem sum32 (a A : Nat) : Value.int .u32 (((a : Int) + (A : Int)) % 4294967296) = w32 ((a + A) % 4294967296) := congrArg (Value.int .u32) (by omega)

set_option maxRecDepth 100000 in
set_option maxHeartbeats 16000000 in
theorem with_any (B : Nat) (p0 p1 p2 p3 p4 p5 p6 p7 : Nat) (v : Value) (bs : List UInt8) (w : World) (hB : B ≤ w.heap.size) (hok : St.Ok ⟨p0, p1, p2, p3, p4, p5, p6, p7⟩) (hsh : Shows B w v bs) (hl : bs.length = 64)
    (tk : TypeId) (hk : w.heap[2]? = some (.cells (cubes.map w32).toArray tk (0, 0))) :
    Calls Tryd.prog 73 #[.agg #[.int .u32 p0, .int .u32 p1, .int .u32 p2, .int .u32 p3, .int .u32 p4, .int .u32 p5, .int .u32 p6, .int .u32 p7], v] w fun e' w' => e' = .returned (.agg (work ⟨p0, p1, p2, p3, p4, p5, p6, p7⟩ bs).cells) ∧ Below w.heap.size w w' := by
  have HK := hid hk
  have hk1 : 2 < w.heap.size := block_lt hk
  clear hk
  go_enter Tryd.func73, Tryd.ntmps73
  go_wp2_with fail
  go_quiet (fail)
  go_wp2_with fail
  obtain ⟨b1, b0, hbel, hsz⟩ := two_newN w (.cells #[.int .u32 p0, .int .u32 p1, .int .u32 p2, .int .u32 p3, .int .u32 p4, .int .u32 p5, .int .u32 p6, .int .u32 p7] 110) (.cells #[.int .u32 0, .int .u32 0, .int .u32 0, .int .u32 0, .int .u32 0, .int .u32 0, .int .u32 0, .int .u32 0] 110) nq
  generalize World.drewN _ nq = w0 at *
  have hkk := (hbel.block 2 hk1).trans HK.out
  refine (stretched_any B v bs w0 (by omega) (hsh.below (hbel.mono hB)) hl).mono ?_
  rintro e' w1 ⟨rfl, hbel1⟩
  replace b1 := (hbel1.block _ (by omega)).trans b1
  replace b0 := (hbel1.block _ (by omega)).trans b0
  replace hkk := (hbel1.block _ (by omega)).trans hkk
  replace hbel := hbel.trans (hbel1.mono (by omega))
  clear hbel1 hsz hsh
  have HW : Hid (∀ i, i < 64 → ((sched bs).map w32).toArray[i]? = some (.int .u32 ((sched bs).getD i 0 : Nat))) := hid (fun i hi => by simp [hi, spread_length, sched, w32])
  have HWL : Hid (∀ i, (sched bs).getD i 0 < 4294967296) := hid (getD_lt (spread_lt bs 48))
  have HCK : Hid (∀ i, i < 64 → w1.cell? ⟨2, i, none⟩ = some (.int .u32 (cubes.getD i 0 : Nat))) := hid (fun i hi => words_cell hkk i (by rw [cubes_length]; exact hi))
  have HCL : Hid (∀ i, cubes.getD i 0 < 4294967296) := hid (getD_lt cubes_lt)
  have HB1 := hid b1
  have HB0 := hid b0
  have HWD : Hid (work ⟨p0, p1, p2, p3, p4, p5, p6, p7⟩ bs = St.plus ⟨p0, p1, p2, p3, p4, p5, p6, p7⟩ (rnds (sched bs) ⟨p0, p1, p2, p3, p4, p5, p6, p7⟩ 64)) := hid rfl
  clear b1 b0 hkk HK hk1
  generalize ((sched bs).map w32).toArray = WS at *
  generalize sched bs = ws at *
  go_wp2_with fail
  go_loopw [5, 6, 7, 8, 9, 10, 11, 12, 35] (fun x5 x6 x7 x8 x9 x10 x11 x12 i wr => ∃ (t : Nat) (s : St) (m : Nat), t ≤ 64 ∧ i = .int .i64 t ∧ s.Ok ∧ Hid (s = rnds ws ⟨p0, p1, p2, p3, p4, p5, p6, p7⟩ t) ∧ Hid (wr = w1.drewN m) ∧ x5 = .int .u32 s.a ∧ x6 = .int .u32 s.b ∧ x7 = .int .u32 s.c ∧ x8 = .int .u32 s.d ∧ x9 = .int .u32 s.e ∧ x10 = .int .u32 s.f ∧ x11 = .int .u32 s.g ∧ x12 = .int .u32 s.h) (fun _ _ _ _ _ _ _ _ i _ => 64 - (intOf i).toNat)
  case atStart => exact ⟨0, ⟨p0, p1, p2, p3, p4, p5, p6, p7⟩, 0, Nat.zero_le _, rfl, hok, rfl, rfl, rfl, rfl, rfl, rfl, rfl, rfl, rfl, rfl⟩
  case round =>
    obtain ⟨t, ⟨A, B', C, D, E, F, G, H⟩, m, ht, rfl, hok2, HS, HM, rfl, rfl, rfl, rfl, rfl, rfl, rfl, rfl⟩ := hrel
    obtain ⟨o1, o2, o3, o4, o5, o6, o7, o8⟩ := hok2
    simp only at o1 o2 o3 o4 o5 o6 o7 o8 HS
    by_cases hlt : t < 64
    · have hw := HW.out t hlt
      have hwl := HWL.out t
      have hc : wr.cell? ⟨2, t, none⟩ = some (.int .u32 (cubes.getD t 0 : Nat)) := by rw [HM.out]; exact HCK.out t hlt
      have hcl := HCL.out t
      have t1 : (t : Int) < 64 := by omega
      have HN : Hid (rnds ws ⟨p0, p1, p2, p3, p4, p5, p6, p7⟩ (t + 1) = rnd (rnds ws ⟨p0, p1, p2, p3, p4, p5, p6, p7⟩ t) (cubes.getD t 0) (ws.getD t 0)) := hid rfl
      have hix := fun W => run_index_words WS t _ W hw hlt
      clear hw
      generalize ws.getD t 0 = wt at *
      generalize cubes.getD t 0 = kt at *
      go_wp2_with fail
      go_quiet ((go_at_call 86; refine Calls.quiet_of_same (right_int E _ _ o5 (by decide) (by decide))))
      replace HM : Hid (wr.drewN nq = w1.drewN (m + nq)) := hid (by rw [HM.out, World.drewN_drewN])
      generalize wr.drewN nq = wq at *
      clear hc hix
      go_wp2_with ((go_at_call 86; refine (right_int A _ _ o1 (by decide) (by decide)).mono ?_; rintro e' w' ⟨rfl, rfl⟩))
      go_roundw
      case rel =>
        refine ⟨t + 1, rnd ⟨A, B', C, D, E, F, G, H⟩ kt wt, m + nq, by omega, by go_num, rnd_ok ⟨o1, o2, o3, o4, o5, o6, o7, o8⟩ _ _, hid (by rw [HN.out, ← HS.out]), HM, ?_, rfl, rfl, rfl, ?_, rfl, rfl, rfl⟩
        · rw [p_step H E F G kt wt o8 o5 o6 o7 ⟨A, B', C, D, E, F, G, H⟩ rfl rfl rfl rfl, q_step A B' C o1 o2 o3 ⟨A, B', C, D, E, F, G, H⟩ rfl rfl rfl]
          exact congrArg (Value.int .u32) (by rw [rnd_a]; omega)
        · rw [p_step H E F G kt wt o8 o5 o6 o7 ⟨A, B', C, D, E, F, G, H⟩ rfl rfl rfl rfl]
          exact congrArg (Value.int .u32) (by rw [rnd_e]; show _ = (((D + pOf ⟨A, B', C, D, E, F, G, H⟩ kt wt) % 4294967296 : Nat) : Int); omega)
      case measure => simp [intOf]; omega
    · have ht64 : t = 64 := by omega
      have HT : Hid (work ⟨p0, p1, p2, p3, p4, p5, p6, p7⟩ bs = St.plus ⟨p0, p1, p2, p3, p4, p5, p6, p7⟩ ⟨A, B', C, D, E, F, G, H⟩) := hid (by rw [HWD.out, HS.out, ht64])
      have hb0 : wr.heap[w.heap.size]? = _ := (congrArg (fun W : World => W.heap[w.heap.size]?) HM.out).trans HB0.out
      have hb1 : wr.heap[w.heap.size + 1]? = _ := (congrArg (fun W : World => W.heap[w.heap.size + 1]?) HM.out).trans HB1.out
      have hbr : Below w.heap.size w wr := by rw [HM.out]; exact below_drewN hbel m
      have c0 := cell_of_row wr _ 0 _ _ _ hb0
      have c1 := cell_of_row wr _ 1 _ _ _ hb0
      have c2 := cell_of_row wr _ 2 _ _ _ hb0
      have c3 := cell_of_row wr _ 3 _ _ _ hb0
      have c4 := cell_of_row wr _ 4 _ _ _ hb0
      have c5 := cell_of_row wr _ 5 _ _ _ hb0
      have c6 := cell_of_row wr _ 6 _ _ _ hb0
      have c7 := cell_of_row wr _ 7 _ _ _ hb0
      simp at c0 c1 c2 c3 c4 c5 c6 c7
      obtain ⟨o1', o2', o3', o4', o5', o6', o7', o8'⟩ := hok
      simp only at o1' o2' o3' o4' o5' o6' o7' o8'
      have HX := hid hb1
      clear hb0 hb1 HM HB0 HB1 HS HWD HW HWL HCK HCL hbel
      go_wp2_with (first
        | (refine wpList_store_row rfl 110 (.tmp 4) (.tmp 129) rfl (w.heap.size + 1) #[.int .u32 (((p0 : Int) + (A : Int)) % 4294967296), .int .u32 (((p1 : Int) + (B' : Int)) % 4294967296), .int .u32 (((p2 : Int) + (C : Int)) % 4294967296), .int .u32 (((p3 : Int) + (D : Int)) % 4294967296), .int .u32 (((p4 : Int) + (E : Int)) % 4294967296), .int .u32 (((p5 : Int) + (F : Int)) % 4294967296), .int .u32 (((p6 : Int) + (G : Int)) % 4294967296), .int .u32 (((p7 : Int) + (H : Int)) % 4294967296)] rfl rfl 110 _ HX.out Tryd.infoWords (by rfl) (one8 _ _ _ _ _ _ _ _) ?_)
        | (refine bodyPost_ret (results_cell_row rfl _ _ (w.heap.size + 1) 110 _ (0, 0) _ rfl (setRow_heap _ _ _ _ _ _ HX.out) Tryd.underlying110 rfl Tryd.infoWords) rfl ⟨?_, below_setRow hbr (Nat.le_succ _) _⟩; rw [HT.out]; simp only [sum32]; rfl))
end Go.Proofs.YthkeofinamedfaaDoor
