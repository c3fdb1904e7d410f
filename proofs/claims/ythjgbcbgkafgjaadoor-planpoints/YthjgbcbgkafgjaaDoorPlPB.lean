/- Contract of the program's (test).span (tools/plprogb.py). -/
import Derived.Test.YthjgbcbgkafgjaaDoorPlPA
import Derived.Test.YthjgbcbgkafgjaaDoorPlDocD
namespace Go.Proofs.YthjgbcbgkafgjaaDoor
open Go.RowKit Go.Shelf
set_option linter.unusedVariables false
set_option linter.unusedSimpArgs false
set_option maxRecDepth 20000

theorem spares_set3 (w : World) (g : Nat) (u v x : Value) : Spares (fun b => b = g) w (((w.setCell ⟨g, 0, none⟩ u).setCell ⟨g, 1, none⟩ v).setCell ⟨g, 2, none⟩ x) :=
  ((spares_set w ⟨g, 0, none⟩ u).andThen (spares_set _ ⟨g, 1, none⟩ v) (fun i hi => .inl hi)).andThen (spares_set _ ⟨g, 2, none⟩ x) (fun i hi => .inl hi)

theorem far3 {g h : Nat} (hne : g ≠ h) {W : World} (u v x : Value) {j : Nat} {z : Value} (hz : W.cell? ⟨h, j, none⟩ = some z) : (((W.setCell ⟨g, 0, none⟩ u).setCell ⟨g, 1, none⟩ v).setCell ⟨g, 2, none⟩ x).cell? ⟨h, j, none⟩ = some z :=
  (spares_set3 W g u v x).cell hz (fun e => hne e.symm)

/-- The span of a test that stands in the array. -/
def tspP (f t : Int) (v : Vl) : Spn := if rightV v = 0 then (if v.k = 0 then noneP else ⟨endP f (keyV v), endP t (keyV v), t != 0⟩) else allP

theorem tsp_test (n : Nat) (v : Vl) (hr : rightV v = 0) (h : isTst (n : Int) = true) : tspP (tstF n) (tstT n) v = testP (n : Int) v := by
  have ho : n = 3 ∨ n = 5 ∨ n = 6 ∨ n = 7 ∨ n = 8 := by
    have := of_decide_eq_true h
    omega
  unfold tspP testP
  rw [if_pos hr]
  rcases ho with rfl | rfl | rfl | rfl | rfl <;> simp [tstF, tstT, endP]

theorem apart_nil {v u : Value} (h : v = .slice none 0 0) : ∀ g, v.ownBlock = some g → u.ownBlock ≠ some g := by
  subst h
  intro g hg
  simp [Value.ownBlock] at hg

set_option maxHeartbeats 4000000 in
theorem ptspan_any (f t m k n : Int) (s : List UInt8) (w : World) (h0 : -9223372036854775808 ≤ n) (h1 : n ≤ 9223372036854775807) (hs : s.length ≤ 9223372036854775807) :
    Calls Tryd.prog 26 #[.agg #[.int .i64 f, .int .i64 t, .int .i64 m], .agg #[.int .i64 k, .int .i64 n, .string (str8 s)]] w fun e w' => ∃ fv tv, e = .returned (.agg #[fv, tv, .bool (tspP f t ⟨k, n, s⟩).en]) ∧ Copy w.heap.size w' fv (tspP f t ⟨k, n, s⟩).a ∧ Copy w.heap.size w' tv (tspP f t ⟨k, n, s⟩).b ∧ (∀ g, fv.ownBlock = some g → tv.ownBlock ≠ some g) ∧ Below w.heap.size w w' := by
  obtain ⟨z0, z1, z2, hbW, hzW⟩ := alloc3 w (.cells #[.int .i64 f, .int .i64 t, .int .i64 m] 51) (.cells #[.int .i64 k, .int .i64 n, .string (str8 s)] 23) (.cells #[.slice none 0 0, .slice none 0 0, .bool false] 31)
  obtain ⟨W, hW⟩ : ∃ W, ((w.alloc (.cells #[.int .i64 f, .int .i64 t, .int .i64 m] 51)).alloc (.cells #[.int .i64 k, .int .i64 n, .string (str8 s)] 23)).alloc (.cells #[.slice none 0 0, .slice none 0 0, .bool false] 31) = W := ⟨_, rfl⟩
  rw [hW] at z0 z1 z2 hbW hzW
  have k0 : W.cell? ⟨w.heap.size + 1, 0, none⟩ = some (.int .i64 k) := by rw [cell_row _ _ _ _ _ _ z1]; rfl
  have k1 : W.cell? ⟨w.heap.size + 1, 1, none⟩ = some (.int .i64 n) := by rw [cell_row _ _ _ _ _ _ z1]; rfl
  have k2 : W.cell? ⟨w.heap.size + 1, 2, none⟩ = some (.string (str8 s)) := by rw [cell_row _ _ _ _ _ _ z1]; rfl
  have HB := hid hbW
  have HK := key_any k n s W hs
  have HZ := hid z2
  have HT := hid z0
  have HV := hid z1
  rcases keyOf_len ⟨k, n, s⟩ with ⟨hr, hko⟩ | ⟨hr, hko, hk0, hk1⟩
  · have ht : tspP f t ⟨k, n, s⟩ = allP := by unfold tspP; rw [if_neg hr]
    have hri : ¬ ((rightV ⟨k, n, s⟩ : Int) = 0) := by omega
    rw [ht]
    rw [hko] at HK
    generalize rightV ⟨k, n, s⟩ = r at *
    clear hbW z0 z1 z2 ht hr hko
    go_enter Tryd.func26, Tryd.ntmps26
    go_wp2_with (first
      | (go_at_call 22; refine HK.mono ?_; clear HK; rintro e w2 ⟨kv, rfl, hkv, hb2⟩
         obtain ⟨ak, ck, rfl⟩ := own_form hkv
         have HA := pall_any w2
         have HB2 := hid hb2
         have HZ2 := hid ((hb2.block _ (by omega)).trans HZ.out)
         clear hkv hb2)
      | (go_at_call 18; refine HA.mono ?_; clear HA; rintro e w3 ⟨rfl, hb3⟩
         have HZ3 := hid ((hb3.block _ (by have := block_lt HZ2.out; omega)).trans HZ2.out)
         have HB3 := hid (HB.out.trans ((HB2.out.trans (hb3.mono HB2.out.size)).mono HB.out.size))
         obtain ⟨m0, m1, m2, m3, m4, m5⟩ := row3 HZ3.out
         clear hb3))
    exact bodyPost_ret (v := .agg #[.slice none 0 0, .slice none 0 0, .bool false]) (results_cell_row (p := 4) (ty := 31) rfl _ _ (w.heap.size + 1 + 1) 31 _ (0, 0) _ rfl (set3 HZ3.out _ _ _) Tryd.underlying31 rfl Tryd.infoSpan) rfl ⟨_, _, rfl, World.ownsRow_nil _ _ _ _, World.ownsRow_nil _ _ _ _, apart_nil rfl, below3 HB3.out (by omega) _ _ _⟩
  · rw [hko, hr] at HK
    by_cases hk : k = 0
    · subst hk
      have ht : tspP f t ⟨0, n, s⟩ = noneP := by unfold tspP; rw [if_pos hr]; rfl
      rw [ht]
      generalize keyV ⟨0, n, s⟩ = K at *
      clear hbW z0 z1 z2 ht hr hko
      go_enter Tryd.func26, Tryd.ntmps26
      go_wp2_with (first
        | (go_at_call 22; refine HK.mono ?_; clear HK; rintro e w2 ⟨kv, rfl, hkv, hb2⟩
           obtain ⟨ak, ck, rfl⟩ := own_form hkv
           have HA := pnone_any w2
           have k02 := (hb2.cell (p := ⟨w.heap.size + 1, 0, none⟩) (by show w.heap.size + 1 < _; omega)).trans k0
           have HB2 := hid hb2
           have HZ2 := hid ((hb2.block _ (by omega)).trans HZ.out)
           clear hkv hb2)
        | (go_at_call 19; refine HA.mono ?_; clear HA; rintro e w3 ⟨rfl, hb3⟩
           have HZ3 := hid ((hb3.block _ (by have := block_lt HZ2.out; omega)).trans HZ2.out)
           have HB3 := hid (HB.out.trans ((HB2.out.trans (hb3.mono HB2.out.size)).mono HB.out.size))
           obtain ⟨m0, m1, m2, m3, m4, m5⟩ := row3 HZ3.out
           clear hb3))
      exact bodyPost_ret (v := .agg #[.slice none 0 0, .slice none 0 0, .bool true]) (results_cell_row (p := 4) (ty := 31) rfl _ _ (w.heap.size + 1 + 1) 31 _ (0, 0) _ rfl (set3 HZ3.out _ _ _) Tryd.underlying31 rfl Tryd.infoSpan) rfl ⟨_, _, rfl, World.ownsRow_nil _ _ _ _, World.ownsRow_nil _ _ _ _, apart_nil rfl, below3 HB3.out (by omega) _ _ _⟩
    · have ht : tspP f t ⟨k, n, s⟩ = ⟨endP f (keyV ⟨k, n, s⟩), endP t (keyV ⟨k, n, s⟩), t != 0⟩ := by unfold tspP; rw [if_pos hr, if_neg hk]
      rw [ht]
      dsimp only
      generalize keyV ⟨k, n, s⟩ = K at *
      clear hbW z0 z1 z2 ht hr hko
      go_enter Tryd.func26, Tryd.ntmps26
      go_wp2_with (first
        | (go_at_call 22; refine HK.mono ?_; clear HK; rintro e w2 ⟨kv, rfl, hkv, hb2⟩
           obtain ⟨ak, ck, rfl⟩ := own_form hkv
           have k02 := (hb2.cell (p := ⟨w.heap.size + 1, 0, none⟩) (by show w.heap.size + 1 < _; omega)).trans k0
           have HKV := hid (show Copy W.heap.size w2 (.slice ak K.length ck) K from hkv)
           have hz2 := hb2.size
           have HB2 := hid hb2
           have HZ2 := hid ((hb2.block _ (by omega)).trans HZ.out)
           have HT2 := hid ((hb2.block _ (by omega)).trans HT.out)
           clear hkv hb2))
      have hS2 : w2.drew.cell? ⟨w.heap.size, 0, none⟩ = some (.int .i64 f) ∧ w2.drew.cell? ⟨w.heap.size, 1, none⟩ = some (.int .i64 t) := ⟨by rw [cell_row _ _ _ _ _ _ (show w2.drew.heap[w.heap.size]? = _ from HT2.out)]; rfl, by rw [cell_row _ _ _ _ _ _ (show w2.drew.heap[w.heap.size]? = _ from HT2.out)]; rfl⟩
      have HKD := hid (show Says w2.drew (.slice ak K.length ck) K from (HKV.out.new (below_drewN _ _ 1)).says)
      have HC1 := pend_any f (.slice ak K.length ck) K w2.drew HKD.out (by omega)
      have H21 : Hid (w2.drew.heap[w.heap.size + 1 + 1]? = _) := hid HZ2.out
      have HL := hid (show w.heap.size + 1 + 1 < w2.drew.heap.size from by show _ < w2.heap.size; omega)
      have HD := hid (show Below w.heap.size w w2.drew from (HB.out.trans (HB2.out.mono HB.out.size)).drew)
      go_region_held3 (fun w' => w'.cell? ⟨w.heap.size, 0, none⟩ = some (.int .i64 f) ∧ w'.cell? ⟨w.heap.size, 1, none⟩ = some (.int .i64 t))
        (first | assumption | go_keep | exact ⟨far3 (by omega) _ _ _ hS4.1, far3 (by omega) _ _ _ hS4.2⟩)
        ((go_at_call 37; first
          | (refine HC1.mono ?_; clear HC1; rintro e w3 ⟨fv, rfl, hf3, hb3⟩; obtain ⟨a3, c3, rfl⟩ := hf3.form
             have hz3 := hb3.size
             have hS3 : w3.cell? ⟨w.heap.size, 0, none⟩ = some (.int .i64 f) ∧ w3.cell? ⟨w.heap.size, 1, none⟩ = some (.int .i64 t) := ⟨(hb3.cell (p := ⟨w.heap.size, 0, none⟩) (by have := HL.out; show w.heap.size < _; omega)).trans hS2.1, (hb3.cell (p := ⟨w.heap.size, 1, none⟩) (by have := HL.out; show w.heap.size < _; omega)).trans hS2.2⟩
             have HC2 := pend_any t (.slice ak K.length ck) K w3 (HKD.out.new hb3) (by omega)
             have HF3 := hid hf3
             have HB3 := hid hb3
             clear hf3 hb3)
          | (refine HC2.mono ?_; clear HC2; rintro e w4 ⟨tv, rfl, ht4, hb4⟩; obtain ⟨a4, c4, rfl⟩ := ht4.form
             have hz4 := hb4.size
             have hS4 : w4.cell? ⟨w.heap.size, 0, none⟩ = some (.int .i64 f) ∧ w4.cell? ⟨w.heap.size, 1, none⟩ = some (.int .i64 t) := ⟨(hb4.cell (p := ⟨w.heap.size, 0, none⟩) (by have := HL.out; show w.heap.size < _; omega)).trans hS3.1, (hb4.cell (p := ⟨w.heap.size, 1, none⟩) (by have := HL.out; show w.heap.size < _; omega)).trans hS3.2⟩
             have H41 : w4.heap[w.heap.size + 1 + 1]? = some (.cells #[.slice none 0 0, .slice none 0 0, .bool false] 31 (0, 0)) := (hb4.block _ (by have := HL.out; omega)).trans ((HB3.out.block _ (by have := HL.out; omega)).trans H21.out)
             obtain ⟨m0, m1, m2, m3, m4, m5⟩ := row3 H41
             have HF4 := hid (HF3.out.new hb4)
             have HT4 := hid ht4
             have HB4 := hid hb4
             have H4 := hid H41
             clear ht4 hb4 H41)))
      go_wp2_with fail
      refine bodyPost_ret (v := .agg #[.slice a3 (endP f K).length c3, .slice a4 (endP t K).length c4, .bool (t != 0)]) (results_cell_row (p := 4) (ty := 31) rfl _ _ (w.heap.size + 1 + 1) 31 _ (0, 0) _ rfl (set3 H4.out _ _ _) Tryd.underlying31 rfl Tryd.infoSpan) rfl ⟨_, _, rfl, ?_, ?_, ?_, ?_⟩
      · exact HF4.out.spares (spares_set3 _ _ _ _ _) (fun i hi => by have := HL.out; omega) (by have := HL.out; omega)
      · exact HT4.out.spares (spares_set3 _ _ _ _ _) (fun i hi => by have := HL.out; omega) (by have := HL.out; omega)
      · intro g hg hg'
        have h1 := (HF3.out.lt g hg).2
        have h2 := (HT4.out.lt g hg').1
        omega
      · exact below3 (HD.out.trans ((HB3.out.mono HD.out.size).trans (HB4.out.mono (Nat.le_trans HD.out.size hz3)))) (by omega) _ _ _

end Go.Proofs.YthjgbcbgkafgjaaDoor
