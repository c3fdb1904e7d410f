/- PlanBoth is walked. -/
import Derived.Test.YthjgbcbgkafgjaaDoorPlSmall
import Derived.Test.YthjgbcbgkafgjaaDoorPlPM
import Derived.Test.YthjgbcbgkafgjaaDoorPlOpen
namespace Go.Proofs.YthjgbcbgkafgjaaDoor
open Go.RowKit Go.Shelf
set_option linter.unusedVariables false
set_option linter.unusedSimpArgs false
set_option maxRecDepth 20000

set_option maxHeartbeats 4000000 in
theorem planBoth_law (f1 t1 f2 t2 kv : Value) (e1 e2 : Bool) (a1 b1 a2 b2 key : List UInt8) (w : World) (ht : TstAt w) (h1 : Says w f1 a1) (h2 : Says w t1 b1) (h3 : Says w f2 a2) (h4 : Says w t2 b2) (hk : Says w kv key)
    (l1 : a1.length ≤ 140737488351232) (l2 : b1.length ≤ 140737488351232) (l3 : a2.length ≤ 140737488351232) (l4 : b2.length ≤ 140737488351232) :
    Calls Tryd.prog 5 #[.agg #[f1, t1, .bool e1], .agg #[f2, t2, .bool e2], kv] w fun e w' => e = .returned (.bool true) ∧ Below w.heap.size w w' := by
  obtain ⟨z0, z1, hbW, hzW⟩ := alloc2 w (.cells #[f1, t1, .bool e1] 31) (.cells #[f2, t2, .bool e2] 31)
  obtain ⟨W, hW⟩ : ∃ W, (w.alloc (.cells #[f1, t1, .bool e1] 31)).alloc (.cells #[f2, t2, .bool e2] 31) = W := ⟨_, rfl⟩
  rw [hW] at z0 z1 hbW hzW
  obtain ⟨s, hs⟩ : ∃ s, meetP ⟨a1, b1, e1⟩ ⟨a2, b2, e2⟩ = s := ⟨_, rfl⟩
  obtain ⟨p, hp⟩ : ∃ p, inSp a1 b1 e1 key = p := ⟨_, rfl⟩
  obtain ⟨q, hq⟩ : ∃ q, inSp a2 b2 e2 key = q := ⟨_, rfl⟩
  have hpq : inSp s.a s.b s.en key = (p && q) := by
    have h := meet_has ⟨a1, b1, e1⟩ ⟨a2, b2, e2⟩ key
    rw [hs] at h
    rw [← hp, ← hq]
    exact h
  have HPQ := hid hpq
  have HI1 := hid (fun (V : World) (hb : Below w.heap.size w V) => (show Calls Tryd.prog 17 #[.agg #[f1, t1, .bool e1], kv] V fun e w' => e = .returned (.bool p) ∧ Below V.heap.size V w' from by have := xin_any f1 t1 kv e1 a1 b1 key V (h1.new hb) (h2.new hb) (hk.new hb); rwa [hp] at this))
  have HI2 := hid (fun (V : World) (hb : Below w.heap.size w V) => (show Calls Tryd.prog 17 #[.agg #[f2, t2, .bool e2], kv] V fun e w' => e = .returned (.bool q) ∧ Below V.heap.size V w' from by have := xin_any f2 t2 kv e2 a2 b2 key V (h3.new hb) (h4.new hb) (hk.new hb); rwa [hq] at this))
  have HIA := hid (fun (V : World) (hb : Below w.heap.size w V) => (show Calls Tryd.prog 17 #[.agg #[.slice none 0 0, .slice none 0 0, .bool false], kv] V fun e w' => e = .returned (.bool true) ∧ Below V.heap.size V w' from by have := xin_any (.slice none 0 0) (.slice none 0 0) kv false [] [] key V (says_nil _) (says_nil _) (hk.new hb); rwa [show inSp [] [] false key = true from all_has key] at this))
  have HIN := hid (fun (V : World) (hb : Below w.heap.size w V) => (show Calls Tryd.prog 17 #[.agg #[.slice none 0 0, .slice none 0 0, .bool true], kv] V fun e w' => e = .returned (.bool false) ∧ Below V.heap.size V w' from by have := xin_any (.slice none 0 0) (.slice none 0 0) kv true [] [] key V (says_nil _) (says_nil _) (hk.new hb); rwa [show inSp [] [] true key = false from none_has key] at this))
  have HM := hid (fun (V : World) (hb : Below w.heap.size w V) => (show Calls Tryd.prog 14 #[.agg #[f1, t1, .bool e1], .agg #[f2, t2, .bool e2]] V fun e w' => ∃ fv tv, e = .returned (.agg #[fv, tv, .bool s.en]) ∧ Copy V.heap.size w' fv s.a ∧ Copy V.heap.size w' tv s.b ∧ (∀ g, fv.ownBlock = some g → tv.ownBlock ≠ some g) ∧ Below V.heap.size V w' from by have := pmeet_any f1 t1 f2 t2 e1 e2 a1 b1 a2 b2 V (h1.new hb) (h2.new hb) (h3.new hb) (h4.new hb) l1 l2 l3 l4; rwa [hs] at this))
  have HN := hid (fun (V : World) (hb : Below w.heap.size w V) => (show Calls Tryd.prog 14 #[.agg #[f2, t2, .bool e2], .agg #[f1, t1, .bool e1]] V fun e w' => ∃ fv tv, e = .returned (.agg #[fv, tv, .bool s.en]) ∧ Copy V.heap.size w' fv s.a ∧ Copy V.heap.size w' tv s.b ∧ (∀ g, fv.ownBlock = some g → tv.ownBlock ≠ some g) ∧ Below V.heap.size V w' from by have := pmeet_any f2 t2 f1 t1 e2 e1 a2 b2 a1 b1 V (h3.new hb) (h4.new hb) (h1.new hb) (h2.new hb) l3 l4 l1 l2; rwa [meet_comm, hs] at this))
  have HKK := hid (fun (V : World) (hb : Below w.heap.size w V) => hk.new hb)
  have HT := hid (ht.on hbW)
  have HB := hid hbW
  have HZ0 := hid z0
  have HZ1 := hid z1
  have HL := hid (show w.heap.size + 1 < W.heap.size from by omega)
  have HR := hid (fun (V : World) (hb : Below W.heap.size W V) => And.intro (row3 ((hb.block w.heap.size (Nat.lt_trans (Nat.lt_succ_self _) HL.out)).trans z0)) (row3 ((hb.block (w.heap.size + 1) HL.out).trans z1)))
  obtain ⟨x5, c5, rfl, _⟩ := id hk
  clear z0 z1 hbW hzW h1 h2 h3 h4 hk ht hs hp hq hpq l1 l2 l3 l4
  go_enter Tryd.func5, Tryd.ntmps5
  go_wp2_with fail
  refine (small15_any W HT.out).mono ?_
  rintro e w1 ⟨rfl, hb1⟩
  have HB1 := hid hb1
  have r1 := HR.out w1 hb1
  clear hb1
  go_wp2_with fail
  refine (HI1.out w1 (HB.out.trans (HB1.out.mono HB.out.size))).mono ?_
  rintro e w2 ⟨rfl, hb2⟩
  have HB2 := htr HB1 hb2
  clear r1 hb2 HB1
  have r1 := HR.out w2 HB2.out
  go_wp2_with fail
  refine (HI2.out w2 (HB.out.trans (HB2.out.mono HB.out.size))).mono ?_
  rintro e w3 ⟨rfl, hb3⟩
  have HB3 := htr HB2 hb3
  clear r1 hb3 HB2
  have r1 := HR.out w3 HB3.out
  go_wp2_with fail
  refine (HM.out w3 (HB.out.trans (HB3.out.mono HB.out.size))).mono ?_
  rintro e w4 ⟨f4, t4, rfl, hf4, ht4, _, hb4⟩
  obtain ⟨y1, d1, rfl⟩ := hf4.form
  obtain ⟨y2, d2, rfl⟩ := ht4.form
  clear r1
  obtain ⟨X4, hX4, hbX, hzX, hcX⟩ := box8 w4 (.cells #[.slice y1 s.a.length d1, .slice y2 s.b.length d2, .bool s.en] 31)
  have HB4 := hid (HB3.out.trans ((hb4.trans (hbX.mono hb4.size)).mono HB3.out.size))
  have r1 := HR.out X4 HB4.out
  rw [← hX4] at r1
  have HX4 := hid hX4
  clear hX4
  go_wp2_with fail
  rw [HX4.out]
  clear HX4 r1
  have HF4 := hid (fun (V : World) (hb : Below X4.heap.size X4 V) => And.intro ((hf4.new hbX).new hb).says ((ht4.new hbX).new hb).says)
  have HR4 := hid (fun (V : World) (hb : Below X4.heap.size X4 V) => row3 ((hb.block w4.heap.size hzX).trans hcX))
  clear hf4 ht4 hb4 hbX hzX hcX HB3
  refine (HN.out X4 (HB.out.trans (HB4.out.mono HB.out.size))).mono ?_
  rintro e w5 ⟨f5, t5, rfl, hf5, ht5, _, hb5⟩
  obtain ⟨y3, d3, rfl⟩ := hf5.form
  obtain ⟨y4, d4, rfl⟩ := ht5.form
  go_wp2_with fail
  obtain ⟨X5, hX5, hbX, hzX, hcX⟩ := box8 w5 (.cells #[.slice y3 s.a.length d3, .slice y4 s.b.length d4, .bool s.en] 31)
  rw [hX5]
  clear hX5
  have HB5 := hid (HB4.out.trans ((hb5.trans (hbX.mono hb5.size)).mono HB4.out.size))
  have HX5 := hid (hb5.trans (hbX.mono hb5.size))
  have HF5 := hid (fun (V : World) (hb : Below X5.heap.size X5 V) => And.intro ((hf5.new hbX).new hb).says ((ht5.new hbX).new hb).says)
  have HR5 := hid (fun (V : World) (hb : Below X5.heap.size X5 V) => row3 ((hb.block w5.heap.size hzX).trans hcX))
  clear hf5 ht5 hb5 hbX hzX hcX HB4
  go_wp2_with fail
  refine (pall_any X5).mono ?_
  rintro e w6 ⟨rfl, hb6⟩
  have HX6 := hid hb6
  clear hb6
  go_wp2_with fail
  refine (HIA.out w6 (HB.out.trans ((HB5.out.trans (HX6.out.mono HB5.out.size)).mono HB.out.size))).mono ?_
  rintro e w7 ⟨rfl, hb7⟩
  have HX7 := htr HX6 hb7
  clear hb7 HX6
  go_wp2_with fail
  refine (pnone_any w7).mono ?_
  rintro e w8 ⟨rfl, hb8⟩
  have HX8 := htr HX7 hb8
  clear hb8 HX7
  go_wp2_with fail
  refine (HIN.out w8 (HB.out.trans ((HB5.out.trans (HX8.out.mono HB5.out.size)).mono HB.out.size))).mono ?_
  rintro e w9 ⟨rfl, hb9⟩
  have HX9 := htr HX8 hb9
  clear hb9 HX8
  have HIS := hid (fun (V : World) (hb : Below X5.heap.size X5 V) => (show Calls Tryd.prog 17 #[.agg #[.slice y1 s.a.length d1, .slice y2 s.b.length d2, .bool s.en], .slice x5 key.length c5] V fun e w' => e = .returned (.bool (p && q)) ∧ Below V.heap.size V w' from by
    have hv := HX5.out.trans (hb.mono HX5.out.size)
    have := xin_any (.slice y1 s.a.length d1) (.slice y2 s.b.length d2) (.slice x5 key.length c5) s.en s.a s.b key V (HF4.out V hv).1 (HF4.out V hv).2 (HKK.out V (HB.out.trans ((HB5.out.trans (hb.mono HB5.out.size)).mono HB.out.size)))
    rwa [HPQ.out] at this))
  have HSM := hid (fun (V : World) (hb : Below X5.heap.size X5 V) => ysame_any (.slice y1 s.a.length d1) (.slice y2 s.b.length d2) (.slice y3 s.a.length d3) (.slice y4 s.b.length d4) s.en s.en s.a s.b s.a s.b V (HF4.out V (HX5.out.trans (hb.mono HX5.out.size))).1 (HF4.out V (HX5.out.trans (hb.mono HX5.out.size))).2 (HF5.out V hb).1 (HF5.out V hb).2)
  have HRR := hid (fun (V : World) (hb : Below X5.heap.size X5 V) => And.intro (HR4.out V (HX5.out.trans (hb.mono HX5.out.size))) (HR5.out V hb))
  have HE := hid (HB.out.trans (HB5.out.mono HB.out.size))
  clear HPQ HI1 HI2 HIA HIN HM HN HKK HR HR4 HR5 HF4 HF5 HT HB HB5 HX5 HZ0 HZ1 HL
  have r1 := HRR.out w9 HX9.out
  revert HIS
  cases p <;> cases q
  all_goals
    intro HIS
    go_wp2_with fail
    refine (HIS.out w9 HX9.out).mono ?_
    rintro e w10 ⟨rfl, hb10⟩
    have HX10 := htr HX9 hb10
    clear r1 hb10
    have r1 := HRR.out w10 HX10.out
    go_wp2_with fail
    refine (HSM.out w10 HX10.out).mono ?_
    rintro e w11 ⟨rfl, hb11⟩
    have HX11 := htr HX10 hb11
    clear r1 hb11
    go_wp2_with fail
    go_ret
    exact ⟨by simp, HE.out.trans (HX11.out.mono HE.out.size)⟩

theorem planBoth_w (f1 t1 : Value) (e1 : Bool) (a1 b1 : List UInt8) (f2 t2 : Value) (e2 : Bool) (a2 b2 : List UInt8) (kv : Value) (key : List UInt8) (w : World) (h1 : Lent8 w.heap.size w f1 a1) (h2 : Lent8 w.heap.size w t1 b1) (h3 : Lent8 w.heap.size w f2 a2) (h4 : Lent8 w.heap.size w t2 b2) (hk : Lent8 w.heap.size w kv key) (ht : TstAt w) :
    Calls Tryd.prog 5 #[.agg #[f1, t1, .bool e1], .agg #[f2, t2, .bool e2], kv] w fun e w' => e = .returned (.bool true) ∧ Below w.heap.size w w' :=
  planBoth_law f1 t1 f2 t2 kv e1 e2 a1 b1 a2 b2 key w ht h1.1 h2.1 h3.1 h4.1 hk.1 h1.2 h2.2 h3.2 h4.2
end Go.Proofs.YthjgbcbgkafgjaaDoor
