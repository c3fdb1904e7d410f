/- Contracts of newReader, Script, One. -/
import Derived.Test.YtokfphfgcjbpkaaGreatDoorPState
namespace Go.Proofs.YtokfphfgcjbpkaaGreatDoor
open Go.RowKit Go.Shelf
set_option linter.unusedVariables false
set_option linter.unusedSimpArgs false
set_option maxRecDepth 20000

/-- The reader ahead of a source's first token. -/
def startR (s : List UInt8) : Rd := ⟨(tokens s).2.2, 0, ((tokens s).1 : Int), (tokens s).2.1⟩

theorem start_good (s : List UInt8) : Good 2001 (startR s) := by
  by_cases h : (tokens s).1 = 0
  · have hl : ¬ 2000 < s.length := fun hl => by rw [tokens, if_pos hl] at h; exact absurd (show (2 : Nat) = 0 from h) (by decide)
    have e : tokens s = toks (s.length + 1) s 0 := by rw [tokens, if_neg hl]
    have h' := h
    rw [e] at h'
    obtain ⟨L, h1, h2, h3⟩ := toks_good (s.length + 1) s 0 (by omega) h'
    have hts : (startR s).ts = L ++ [⟨6, [], 0, ((0 + s.length : Nat) : Int)⟩] := by unfold startR; rw [e]; exact h1
    refine ⟨fun _ => ⟨L, _, hts, rfl, fun x hx => (h3 x hx).k6⟩, Int.le_refl _, by show (0 : Int) ≤ 11; decide, fun _ => by show (0 : Int) ≤ 10; decide, fun x hx => ?_, by rw [hts]; simp; omega⟩
    rw [hts] at hx
    rcases List.mem_append.1 hx with hx | hx
    · exact ⟨(h3 x hx).n0, (h3 x hx).n1⟩
    · rw [List.mem_singleton] at hx
      subst hx
      exact ⟨Int.le_refl _, by show (0 : Int) ≤ _; decide⟩
  · have hts : (startR s).ts = [] := by
      unfold startR tokens at *
      split
      · rfl
      · rename_i hl
        rw [if_neg hl] at h
        exact (toks_form _ _ _).1 h
    have hb : (startR s).bad ≠ 0 := by show ((tokens s).1 : Int) ≠ 0; omega
    exact ⟨fun e => absurd e hb, Int.le_refl _, by show (0 : Int) ≤ 11; decide, fun e => absurd e hb, (fun x hx => by rw [hts] at hx; cases hx), by rw [hts]; simp⟩

set_option maxHeartbeats 1000000 in
theorem newReader_any (s : List UInt8) (w : World) (hT : TabL w) (hs : s.length ≤ 140737488351232) :
    Calls Tryz.prog 22 #[.string (str8 s)] w fun e w' => ∃ g, e = .returned (.pointer (some ⟨g, 0, none⟩)) ∧ w.heap.size ≤ g ∧ RdAt 2001 w' g (startR s) ∧ Below w.heap.size w w' := by
  have HK := hid (tokens_any s w hT hs)
  have HG := hid (start_good s)
  have HST : Hid (startR s = ⟨(tokens s).2.2, 0, ((tokens s).1 : Int), (tokens s).2.1⟩) := hid rfl
  generalize startR s = r at HG HST ⊢
  generalize (tokens s).2.2 = ts at HK HST
  generalize ((tokens s).1 : Int) = e1 at HK HST
  generalize (tokens s).2.1 = p1 at HK HST
  clear hT
  go_enter Tryz.func22, Tryz.ntmps22
  go_wp2_with fail
  refine HK.out.mono ?_
  rintro e w1 ⟨v, rfl, htk, hb1⟩
  have HTK := hid htk
  obtain ⟨va, vc, rfl, _⟩ := id htk
  have HB1 := hid hb1
  clear htk hb1 HK
  go_wp2
  obtain ⟨W, hW, hbW, hzW, hcA, hcB⟩ := two w1 (.cells #[.int .i64 e1, .int .i64 p1] 26) (.cells #[.slice va ts.length vc, .int .i64 0, .int .i64 e1, .int .i64 p1] 86)
  rw [hW]
  refine bodyPost_ret (v := .pointer (some ⟨w1.heap.size + 1, 0, none⟩)) (by simp [results, Tryz.results22, go_sem]) rfl ⟨w1.heap.size + 1, rfl, by have := HB1.out.size; omega, ⟨HG.out, .slice va ts.length vc, ?_, ?_⟩, HB1.out.trans (hbW.mono HB1.out.size)⟩
  · rw [HST.out]
    exact hcB
  · rw [HST.out]
    exact (HTK.out.below hbW).mono (by omega)

/-- What Script answers: the statements, or what is wrong and where. -/
def scriptA (s : List UInt8) : List St × Int × Int := if (scriptP 2001 (startR s)).2.bad = 0 then ((scriptP 2001 (startR s)).1, 0, 0) else ([], (scriptP 2001 (startR s)).2.bad, (scriptP 2001 (startR s)).2.bp)

/-- What One answers. -/
def oneA (s : List UInt8) : Ex × Int × Int := if (oneP 2001 (startR s)).2.bad = 0 then ((oneP 2001 (startR s)).1, 0, 0) else (zEx, (oneP 2001 (startR s)).2.bad, (oneP 2001 (startR s)).2.bp)

theorem expr_E : RdsE 2001 D0 34 (exprP 2001) := fun g r w h hD => exprP_any 2001 g r w h hD

theorem state_X : RdsX 2001 StE 24 (stateP (exprP 2001)) := state_any 2001 (exprP 2001) expr_E nice_expr

set_option maxHeartbeats 2000000 in
theorem script_any (s : List UInt8) (w : World) (hT : TabL w) (hs : s.length ≤ 140737488351232) :
    Calls Tryz.prog 10 #[.string (str8 s)] w fun e w' => ∃ (aa : Option Addr) (nn cc : Nat), e = .returned (.tuple #[.slice aa nn cc, .agg #[.int .i64 (scriptA s).2.1, .int .i64 (scriptA s).2.2]]) ∧ SlAt 14 StE (fun b => w.heap.size ≤ b) w' (scriptA s).1 (.slice aa nn cc) ∧ Below w.heap.size w w' := by
  obtain ⟨W, hW, hbW, hzW, hcW⟩ := box8 w (.cells #[.int .i64 0, .int .i64 0] 26)
  have HCW := hid hcW
  have HBW := hid hbW
  have HNR := hid (newReader_any s W (hT.on hbW) hs)
  have hD : D0 (startR s) := fun _ => rfl
  have HL : Hid (∀ g V, RdAt 2001 V g (startR s) → Calls Tryz.prog 23 #[.pointer (some ⟨g, 0, none⟩), .int .i64 8, .func (.func 24) #[.pointer (some ⟨g, 0, none⟩)] #[], .func (.func 25) #[.pointer (some ⟨g, 0, none⟩)] #[]] V fun e w' => ∃ (aa : Option Addr) (nn cc : Nat), e = .returned (.slice aa nn cc) ∧ SlAt 14 StE (fun b => V.heap.size ≤ b) w' (listL (stateP (exprP 2001)) semiP 8 [] (startR s)).1 (.slice aa nn cc) ∧ RdAt 2001 w' g (listL (stateP (exprP 2001)) semiP 8 [] (startR s)).2 ∧ Fr g V w') :=
    hid (fun g V hV => listSt_any 2001 _ _ (stateP (exprP 2001)) semiP state_X (semi_B 2001) (nice_state nice_expr) nice_semi (enters_of Tryz.func24 (by kernel_rfl) rfl) (enters_of Tryz.func25 (by kernel_rfl) rfl) 8 (by decide) g (startR s) V hV hD)
  obtain ⟨⟨X, p, q⟩, hXA⟩ : ∃ x, scriptA s = x := ⟨_, rfl⟩
  have hA : scriptA s = if (endP (listL (stateP (exprP 2001)) semiP 8 [] (startR s)).2).2.bad = 0 then ((listL (stateP (exprP 2001)) semiP 8 [] (startR s)).1, 0, 0) else ([], (endP (listL (stateP (exprP 2001)) semiP 8 [] (startR s)).2).2.bad, (endP (listL (stateP (exprP 2001)) semiP 8 [] (startR s)).2).2.bp) := rfl
  rw [hXA] at hA ⊢
  generalize startR s = r0 at HNR HL hA
  generalize (listL (stateP (exprP 2001)) semiP 8 [] r0).1 = l1 at HL hA
  generalize (listL (stateP (exprP 2001)) semiP 8 [] r0).2 = r1 at HL hA
  have HE := hid (fun g V (hV : RdAt 2001 V g r1) => end_any 2001 g r1 V hV)
  generalize (endP r1).2 = r2 at HE hA
  dsimp only
  clear hXA hT hbW hcW hD
  by_cases hb : r2.bad = 0
  · rw [if_pos hb] at hA
    simp only [Prod.mk.injEq] at hA
    obtain ⟨rfl, rfl, rfl⟩ := hA
    rw [hb] at HE
    clear hb
    go_enter Tryz.func10, Tryz.ntmps10
    go_wp2_with fail
    try rw [hW]
    clear hW
    refine HNR.out.mono ?_
    rintro e w1 ⟨g, rfl, hg, hr1, hb1⟩
    have hz1 := hb1.size
    have HB1 := hid (HBW.out.trans (hb1.mono HBW.out.size))
    have HL1 := hid (HL.out g w1 hr1)
    have HC1 := hid ((hb1.block w.heap.size hzW).trans HCW.out)
    have hgw1 := hr1.lt
    clear hr1 hb1 HNR HL
    go_wp2_with fail
    refine HL1.out.mono ?_
    rintro e w2 ⟨aa, nn, cc, rfl, hl2, hr2, hf2⟩
    have hz2 := hf2.size
    have HL2 := hid hl2
    have HE2 := hid (HE.out g w2 hr2)
    have HC2 := hid ((hf2.block w.heap.size (by omega) (by omega)).trans HC1.out)
    have HF2 := hid hf2
    clear hl2 hr2 hf2 HL1 HE
    go_wp2_with fail
    refine HE2.out.mono ?_
    rintro e w3 ⟨rfl, hr3, hf3⟩
    have hz3 := hf3.size
    obtain ⟨U, hU, hbU, hzU, hcU⟩ := box8 w3 (.cells #[.int .i64 0, .int .i64 r2.bp] 26)
    have hC3 := (hbU.block w.heap.size (by omega)).trans ((hf3.block w.heap.size (by omega) (by omega)).trans HC2.out)
    have kU := cells2 hcU
    have kC := cells2 hC3
    have HF3 := hid ((HF2.out.then hf3).thenNew hbU)
    have HSL := hid ((HL2.out.to (by decide) (T := fun b => w.heap.size ≤ b ∧ b ≠ w.heap.size) hf3 (fun b hb _ => ⟨by omega, by omega, by omega⟩) (fun _ _ e => e.to hf3 (fun b hb _ => ⟨by omega, by omega, by omega⟩))).to (by decide) (T := fun b => w.heap.size ≤ b ∧ b ≠ w.heap.size) (R := fun _ => False) (Spares.of_new hbU) (fun b hb _ => ⟨id, hb⟩) (fun _ _ e => e.to (R := fun _ => False) (Spares.of_new hbU) (fun b hb _ => ⟨id, hb⟩)))
    have HC3 := hid hC3
    clear hr3 hf3 hbU hcU hC3 HF2
    go_wp2
    have hZs : Spares (fun k => k = w.heap.size) U ((U.setCell ⟨w.heap.size, 0, none⟩ (.int .i64 0)).setCell ⟨w.heap.size, 1, none⟩ (.int .i64 0)) := ((Spares.refl (fun k => k = w.heap.size) U).own _ _).own _ _
    have hB : Below w.heap.size w U := HB1.out.trans (HF3.out.below (fun i hi => by omega) (by omega))
    refine bodyPost_ret (v := .tuple #[.slice aa nn cc, .agg #[.int .i64 0, .int .i64 0]]) (by simp [results, Tryz.results10, go_sem, kC]) rfl ⟨aa, nn, cc, rfl, ?_, (hB.setCell (Nat.le_refl _) _).setCell (Nat.le_refl _) _⟩
    exact HSL.out.to (by decide) hZs (fun b hb _ => ⟨hb.2, hb.1⟩) (fun _ _ e => e.to hZs (fun b hb _ => ⟨hb.2, hb.1⟩))
  · rw [if_neg hb] at hA
    simp only [Prod.mk.injEq] at hA
    obtain ⟨rfl, hA2, hA3⟩ := hA
    have hb' : (r2.bad != 0) = true := by simpa using hb
    rw [← hA2] at HE hb'
    rw [← hA3] at HE
    clear hb hA2 hA3
    go_enter Tryz.func10, Tryz.ntmps10
    go_wp2_with fail
    try rw [hW]
    clear hW
    refine HNR.out.mono ?_
    rintro e w1 ⟨g, rfl, hg, hr1, hb1⟩
    have hz1 := hb1.size
    have HB1 := hid (HBW.out.trans (hb1.mono HBW.out.size))
    have HL1 := hid (HL.out g w1 hr1)
    have HC1 := hid ((hb1.block w.heap.size hzW).trans HCW.out)
    have hgw1 := hr1.lt
    clear hr1 hb1 HNR HL
    go_wp2_with fail
    refine HL1.out.mono ?_
    rintro e w2 ⟨aa, nn, cc, rfl, hl2, hr2, hf2⟩
    have hz2 := hf2.size
    have HL2 := hid hl2
    have HE2 := hid (HE.out g w2 hr2)
    have HC2 := hid ((hf2.block w.heap.size (by omega) (by omega)).trans HC1.out)
    have HF2 := hid hf2
    clear hl2 hr2 hf2 HL1 HE
    go_wp2_with fail
    refine HE2.out.mono ?_
    rintro e w3 ⟨rfl, hr3, hf3⟩
    have hz3 := hf3.size
    obtain ⟨U, hU, hbU, hzU, hcU⟩ := box8 w3 (.cells #[.int .i64 p, .int .i64 q] 26)
    have hC3 := (hbU.block w.heap.size (by omega)).trans ((hf3.block w.heap.size (by omega) (by omega)).trans HC2.out)
    have kU := cells2 hcU
    have kC := cells2 hC3
    have HF3 := hid ((HF2.out.then hf3).thenNew hbU)
    have HSL : Hid True := hid trivial
    have HC3 := hid hC3
    clear hr3 hf3 hbU hcU hC3 HF2
    go_wp2_with fail
    go_region
    all_goals
      go_wp2
      have hB : Below w.heap.size w U := HB1.out.trans (HF3.out.below (fun i hi => by omega) (by omega))
      exact bodyPost_ret (v := .tuple #[.slice none 0 0, .agg #[.int .i64 p, .int .i64 q]]) (by simp [results, Tryz.results10, go_sem, kC]) rfl ⟨none, 0, 0, rfl, SlAt.nil, ((hB.setCell (Nat.le_refl _) _).setCell (Nat.le_refl _) _).drew⟩

set_option maxHeartbeats 2000000 in
theorem one_any (s : List UInt8) (w : World) (hT : TabL w) (hs : s.length ≤ 140737488351232) :
    Calls Tryz.prog 15 #[.string (str8 s)] w fun e w' => ∃ u, e = .returned (.tuple #[u, .agg #[.int .i64 (oneA s).2.1, .int .i64 (oneA s).2.2]]) ∧ ExV (fun b => w.heap.size ≤ b) w' (oneA s).1 u ∧ Below w.heap.size w w' := by
  obtain ⟨W, hW, hbW, hzW, hcA, hcB⟩ := two w zBox (.cells #[.int .i64 0, .int .i64 0] 26)
  have HCA := hid hcA
  have HCB := hid hcB
  have HBW := hid hbW
  have HNR := hid (newReader_any s W (hT.on hbW) hs)
  have HL := hid (fun g V (hV : RdAt 2001 V g (startR s)) => exprP_any 2001 g (startR s) V hV (fun _ => rfl))
  obtain ⟨⟨X, p, q⟩, hXA⟩ : ∃ x, oneA s = x := ⟨_, rfl⟩
  have hA : oneA s = if (endP (exprP 2001 (startR s)).2).2.bad = 0 then ((exprP 2001 (startR s)).1, 0, 0) else (zEx, (endP (exprP 2001 (startR s)).2).2.bad, (endP (exprP 2001 (startR s)).2).2.bp) := rfl
  rw [hXA] at hA ⊢
  generalize startR s = r0 at HNR HL hA
  generalize (exprP 2001 r0).1 = l1 at HL hA
  generalize (exprP 2001 r0).2 = r1 at HL hA
  have HE := hid (fun g V (hV : RdAt 2001 V g r1) => end_any 2001 g r1 V hV)
  generalize (endP r1).2 = r2 at HE hA
  dsimp only
  clear hXA hT hbW hcA hcB
  by_cases hb : r2.bad = 0
  · rw [if_pos hb] at hA
    simp only [Prod.mk.injEq] at hA
    obtain ⟨rfl, rfl, rfl⟩ := hA
    rw [hb] at HE
    clear hb
    go_enter Tryz.func15, Tryz.ntmps15
    go_wp2_with fail
    try rw [hW]
    clear hW
    refine HNR.out.mono ?_
    rintro e w1 ⟨g, rfl, hg, hr1, hb1⟩
    have hz1 := hb1.size
    have HB1 := hid (HBW.out.trans (hb1.mono HBW.out.size))
    have HL1 := hid (HL.out g w1 hr1)
    have HA1 := hid ((hb1.block w.heap.size (by omega)).trans HCA.out)
    have HC1 := hid ((hb1.block (w.heap.size + 1) (by omega)).trans HCB.out)
    have hgw1 := hr1.lt
    clear hr1 hb1 HNR HL
    go_wp2_with fail
    refine HL1.out.mono ?_
    rintro e w2 ⟨u, rfl, hu, hr2, hf2⟩
    have HU2 := hid hu
    obtain ⟨k3, op3, tb3, nm3, vk3, vn3, vs3, ys3, aa3, nn3, cc3, _, rfl, _⟩ := hu
    have hz2 := hf2.size
    go_wp2_with fail
    obtain ⟨V, hV, hbV, hzV, hcV⟩ := box8 w2 (.cells #[.int .i64 k3, .int .i64 op3, .string (str8 tb3), .string (str8 nm3), .int .i64 vk3, .int .i64 vn3, .string (str8 vs3), .slice aa3 nn3 cc3] 40)
    rw [hV]
    have HE2 := hid (HE.out g V (hr2.below hbV))
    have HA2 := hid ((hbV.block w.heap.size (by omega)).trans ((hf2.block w.heap.size (by omega) (by omega)).trans HA1.out))
    have HC2 := hid ((hbV.block (w.heap.size + 1) (by omega)).trans ((hf2.block (w.heap.size + 1) (by omega) (by omega)).trans HC1.out))
    have HV2 := hid hcV
    have HF2 := hid (hf2.thenNew hbV)
    have HUV := hid (HU2.out.to (R := fun _ => False) (T := fun b => w1.heap.size ≤ b ∧ b < V.heap.size) (Spares.of_new hbV) (fun b hb hlt => ⟨id, hb, by omega⟩))
    clear hV hr2 hf2 hbV hcV HL1 HE HU2
    refine HE2.out.mono ?_
    rintro e w3 ⟨rfl, hr3, hf3⟩
    have hz3 := hf3.size
    obtain ⟨U, hU, hbU, hzU, hcU⟩ := box8 w3 (.cells #[.int .i64 0, .int .i64 r2.bp] 26)
    have hA3 := (hbU.block w.heap.size (by omega)).trans ((hf3.block w.heap.size (by omega) (by omega)).trans HA2.out)
    have hC3 := (hbU.block (w.heap.size + 1) (by omega)).trans ((hf3.block (w.heap.size + 1) (by omega) (by omega)).trans HC2.out)
    have hV3 := (hbU.block w2.heap.size (by omega)).trans ((hf3.block w2.heap.size (by omega) (by omega)).trans HV2.out)
    have kU := cells2 hcU
    have kC := cells2 hC3
    have kA := cells8f hA3
    have kV := cells8f hV3
    have HA3 := hid hA3
    have HC3 := hid hC3
    have HF3 := hid ((HF2.out.then hf3).thenNew hbU)
    have HUU := hid ((HUV.out.to (T := fun b => w1.heap.size ≤ b) hf3 (fun b hb _ => ⟨by omega, hb.1⟩)).to (R := fun _ => False) (T := fun b => w1.heap.size ≤ b) (Spares.of_new hbU) (fun b hb _ => ⟨id, hb⟩))
    have HBU : Hid (Below w.heap.size w U) := hid (HB1.out.trans (HF3.out.below (fun i hi => by omega) (by omega)))
    clear hr3 hf3 hbU hcU hC3 hA3 hV3 HF2 HF3 HE2 HUV
    go_wp2_with (first
      | (refine wpList_store_row rfl 40 (.tmp 2) (.tmp 18) rfl w.heap.size #[.int .i64 k3, .int .i64 op3, .string (str8 tb3), .string (str8 nm3), .int .i64 vk3, .int .i64 vn3, .string (str8 vs3), .slice aa3 nn3 cc3] rfl rfl 40 _ HA3.out Tryz.exprInfo rfl (one8 _ _ _ _ _ _ _ _ _ _) ?_
         obtain ⟨Z, hZ⟩ : ∃ Z, U.setRow w.heap.size #[.int .i64 k3, .int .i64 op3, .string (str8 tb3), .string (str8 nm3), .int .i64 vk3, .int .i64 vn3, .string (str8 vs3), .slice aa3 nn3 cc3] = Z := ⟨_, rfl⟩
         have hZs : Spares (fun k => k = w.heap.size) U Z := by rw [← hZ]; exact Spares.setRow (S := fun k => k = w.heap.size) (Spares.refl _ U) (p := w.heap.size) (.inl rfl) _
         have hZB : Z.heap[w.heap.size]? = some (.cells #[.int .i64 k3, .int .i64 op3, .string (str8 tb3), .string (str8 nm3), .int .i64 vk3, .int .i64 vn3, .string (str8 vs3), .slice aa3 nn3 cc3] 40) := by rw [← hZ]; exact setRow_heap U w.heap.size _ _ _ _ HA3.out
         have kZ := cells8f hZB
         have kZC := cells2 ((hZs.block (w.heap.size + 1) (World.lt_of_block HC3.out) (by omega)).trans HC3.out)
         rw [hZ]
         clear hZ)
      | fail)
    have hB : Below w.heap.size w Z := HBU.out.trans (hZs.below (fun i hi => by omega) (by have := HBU.out.size; omega))
    have hZ2 : Spares (fun k => k = w.heap.size + 1) Z ((Z.setCell ⟨w.heap.size + 1, 0, none⟩ (.int .i64 0)).setCell ⟨w.heap.size + 1, 1, none⟩ (.int .i64 0)) := ((Spares.refl (fun k => k = w.heap.size + 1) Z).own _ _).own _ _
    refine bodyPost_ret (v := .tuple #[.agg #[.int .i64 k3, .int .i64 op3, .string (str8 tb3), .string (str8 nm3), .int .i64 vk3, .int .i64 vn3, .string (str8 vs3), .slice aa3 nn3 cc3], .agg #[.int .i64 0, .int .i64 0]]) (by simp [results, Tryz.results15, go_sem, kZ, kZC]) rfl ⟨_, rfl, ?_, (hB.setCell (show w.heap.size ≤ w.heap.size + 1 by omega) _).setCell (show w.heap.size ≤ w.heap.size + 1 by omega) _⟩
    exact (HUU.out.to (T := fun b => w1.heap.size ≤ b) hZs (fun b hb _ => ⟨by omega, hb⟩)).to hZ2 (fun b hb _ => ⟨by omega, by omega⟩)
  · rw [if_neg hb] at hA
    simp only [Prod.mk.injEq] at hA
    obtain ⟨rfl, hA2, hA3⟩ := hA
    have hb' : (r2.bad != 0) = true := by simpa using hb
    rw [← hA2] at HE hb'
    rw [← hA3] at HE
    clear hb hA2 hA3
    go_enter Tryz.func15, Tryz.ntmps15
    go_wp2_with fail
    try rw [hW]
    clear hW
    refine HNR.out.mono ?_
    rintro e w1 ⟨g, rfl, hg, hr1, hb1⟩
    have hz1 := hb1.size
    have HB1 := hid (HBW.out.trans (hb1.mono HBW.out.size))
    have HL1 := hid (HL.out g w1 hr1)
    have HA1 := hid ((hb1.block w.heap.size (by omega)).trans HCA.out)
    have HC1 := hid ((hb1.block (w.heap.size + 1) (by omega)).trans HCB.out)
    have hgw1 := hr1.lt
    clear hr1 hb1 HNR HL
    go_wp2_with fail
    refine HL1.out.mono ?_
    rintro e w2 ⟨u, rfl, hu, hr2, hf2⟩
    have HU2 := hid hu
    obtain ⟨k3, op3, tb3, nm3, vk3, vn3, vs3, ys3, aa3, nn3, cc3, _, rfl, _⟩ := hu
    have hz2 := hf2.size
    go_wp2_with fail
    obtain ⟨V, hV, hbV, hzV, hcV⟩ := box8 w2 (.cells #[.int .i64 k3, .int .i64 op3, .string (str8 tb3), .string (str8 nm3), .int .i64 vk3, .int .i64 vn3, .string (str8 vs3), .slice aa3 nn3 cc3] 40)
    rw [hV]
    have HE2 := hid (HE.out g V (hr2.below hbV))
    have HA2 := hid ((hbV.block w.heap.size (by omega)).trans ((hf2.block w.heap.size (by omega) (by omega)).trans HA1.out))
    have HC2 := hid ((hbV.block (w.heap.size + 1) (by omega)).trans ((hf2.block (w.heap.size + 1) (by omega) (by omega)).trans HC1.out))
    have HV2 := hid hcV
    have HF2 := hid (hf2.thenNew hbV)
    have HUV := hid (HU2.out.to (R := fun _ => False) (T := fun b => w1.heap.size ≤ b ∧ b < V.heap.size) (Spares.of_new hbV) (fun b hb hlt => ⟨id, hb, by omega⟩))
    clear hV hr2 hf2 hbV hcV HL1 HE HU2
    refine HE2.out.mono ?_
    rintro e w3 ⟨rfl, hr3, hf3⟩
    have hz3 := hf3.size
    obtain ⟨U, hU, hbU, hzU, hcU⟩ := box8 w3 (.cells #[.int .i64 p, .int .i64 q] 26)
    have hA3 := (hbU.block w.heap.size (by omega)).trans ((hf3.block w.heap.size (by omega) (by omega)).trans HA2.out)
    have hC3 := (hbU.block (w.heap.size + 1) (by omega)).trans ((hf3.block (w.heap.size + 1) (by omega) (by omega)).trans HC2.out)
    have hV3 := (hbU.block w2.heap.size (by omega)).trans ((hf3.block w2.heap.size (by omega) (by omega)).trans HV2.out)
    have kU := cells2 hcU
    have kC := cells2 hC3
    have kA := cells8f hA3
    have kV := cells8f hV3
    have HA3 := hid hA3
    have HC3 := hid hC3
    have HF3 := hid ((HF2.out.then hf3).thenNew hbU)
    have HUU := hid ((HUV.out.to (T := fun b => w1.heap.size ≤ b) hf3 (fun b hb _ => ⟨by omega, hb.1⟩)).to (R := fun _ => False) (T := fun b => w1.heap.size ≤ b) (Spares.of_new hbU) (fun b hb _ => ⟨id, hb⟩))
    have HBU : Hid (Below w.heap.size w U) := hid (HB1.out.trans (HF3.out.below (fun i hi => by omega) (by omega)))
    clear hr3 hf3 hbU hcU hC3 hA3 hV3 HF2 HF3 HE2 HUV
    go_wp2_with fail
    go_region
    all_goals
      rw [set8 HA3.out]
      obtain ⟨Z, hZ⟩ : ∃ Z, U.setRow w.heap.size #[.int .i64 0, .int .i64 0, .string ⟨#[]⟩, .string ⟨#[]⟩, .int .i64 0, .int .i64 0, .string ⟨#[]⟩, .slice none 0 0] = Z := ⟨_, rfl⟩
      have hZs : Spares (fun k => k = w.heap.size) U Z := by rw [← hZ]; exact Spares.setRow (S := fun k => k = w.heap.size) (Spares.refl _ U) (p := w.heap.size) (.inl rfl) _
      have hZB : Z.heap[w.heap.size]? = some (.cells #[.int .i64 0, .int .i64 0, .string ⟨#[]⟩, .string ⟨#[]⟩, .int .i64 0, .int .i64 0, .string ⟨#[]⟩, .slice none 0 0] 40) := by rw [← hZ]; exact setRow_heap U w.heap.size _ _ _ _ HA3.out
      have kZ := cells8f hZB
      have kZC := cells2 ((hZs.block (w.heap.size + 1) (World.lt_of_block HC3.out) (by omega)).trans HC3.out)
      rw [hZ]
      clear hZ kA kV kC kU
      have hB : Below w.heap.size w Z := HBU.out.trans (hZs.below (fun i hi => by omega) (by have := HBU.out.size; omega))
      go_wp2
      exact bodyPost_ret (v := .tuple #[.agg #[.int .i64 0, .int .i64 0, .string ⟨#[]⟩, .string ⟨#[]⟩, .int .i64 0, .int .i64 0, .string ⟨#[]⟩, .slice none 0 0], .agg #[.int .i64 p, .int .i64 q]]) (by simp [results, Tryz.results15, go_sem, kZ, kZC]) rfl ⟨_, rfl, ⟨0, 0, [], [], 0, 0, [], [], _, _, _, rfl, rfl, .nil _ _ (by unfold maxLen; omega)⟩, ((hB.setCell (show w.heap.size ≤ w.heap.size + 1 by omega) _).setCell (show w.heap.size ≤ w.heap.size + 1 by omega) _).drew⟩

end Go.Proofs.YtokfphfgcjbpkaaGreatDoor
