/- LexApart: between tokens stand blanks alone. -/
import Derived.Test.YtlbhaknceiehiaaDoorLBackL
namespace Go.Proofs.YtlbhaknceiehiaaDoor
open Go.RowKit Go.Shelf
set_option linter.unusedVariables false
set_option linter.unusedSimpArgs false
set_option maxRecDepth 20000

/-- LexApart's plain part. -/
theorem apart_plain {s : List UInt8} (h : (tokens s).1 = 0) : s.length ≤ 2000 ∧ (∃ L, (tokens s).2.2 = L ++ [⟨6, [], 0, (s.length : Int)⟩] ∧ L.length ≤ s.length) ∧
    ∀ (i : Nat) (a b : Tk), (tokens s).2.2[i]? = some a → (tokens s).2.2[i + 1]? = some b → ∃ p q : Nat, a.p = p ∧ b.p = q ∧ p < q ∧ q ≤ s.length ∧ tokens ((s.drop p).take (q - p)) = (0, 0, [a.z, ⟨6, [], 0, ((q - p : Nat) : Int)⟩]) := by
  obtain ⟨hs, _, L, hL, hLl, _⟩ := tokens_good h
  refine ⟨hs, ⟨L, hL, hLl⟩, fun i a b ha hb => ?_⟩
  have e : tokens s = toks (s.length + 1) s 0 := by rw [tokens, if_neg (by omega)]
  rw [e] at h ha hb
  exact apart (s.length + 1) s 0 s (by omega) (by simp) hs h i a b ha hb

/-- A piece of a text. -/
theorem run_cutmid (s : List UInt8) (p q : Nat) (h1 : p ≤ q) (h2 : q ≤ s.length) (w : World) : (Instr.slice 9 (.string (str8 s)) (some (.int .i64 (p : Int))) (some (.int .i64 (q : Int))) none).run Tryd.prog w = .ok (.string (str8 ((s.drop p).take (q - p)))) w := by
  have hsz : (str8 s).size = s.length := rfl
  rw [run_slice_string w 9 (str8 s) .i64 .i64 _ _ Tryd.underlying9 (by omega) (by omega) (by rw [hsz]; omega)]
  refine congrArg (fun x => Result.ok (Value.string x) w) ?_
  apply ByteArray.ext
  apply Array.ext'
  rw [show ((p : Int)).toNat = p by omega, show ((q : Int)).toNat = q by omega, Lib.extract_data]
  rfl

theorem run_toks1 (b off c : Nat) (hM : 2 ≤ c) (w : World) : (Instr.slice 23 (.slice (some ⟨b, off, none⟩) 2 c) none (some (.int .i64 1)) none).run Tryd.prog w = .ok (.slice (some ⟨b, off, none⟩) 1 c) w := by
  go_simp
  intro h
  omega

theorem run_toksmid (b off N c i : Nat) (hi : i + 1 < N) (hN : N ≤ c) (w : World) : (Instr.slice 23 (.slice (some ⟨b, off, none⟩) N c) (some (.int .i64 (i : Int))) (some (.int .i64 ((i : Int) + 1))) none).run Tryd.prog w = .ok (.slice (some ⟨b, off + i * 4, none⟩) 1 (c - i)) w := by
  have h1 : ((i : Int) + 1).toNat = i + 1 := by omega
  go_simp
  rw [if_pos ⟨by omega, by omega⟩, if_neg (by omega)]

theorem toks_one_at {B : Nat} {w : World} {b off c : Nat} {x : Tk} (h1 : 1 ≤ c) (h2 : c ≤ maxLen) (hb : b < B) (hc : w.cell? ⟨b, off, none⟩ = some (.int .i64 x.k) ∧ w.cell? ⟨b, off + 1, none⟩ = some (.string (str8 x.s)) ∧ w.cell? ⟨b, off + 2, none⟩ = some (.int .i64 x.n) ∧ w.cell? ⟨b, off + 3, none⟩ = some (.int .i64 x.p)) : Toks B w (.slice (some ⟨b, off, none⟩) 1 c) [x] := by
  refine ⟨_, c, rfl, h1, h2, fun _ => ⟨b, off, rfl, hb, fun j y hy => ?_⟩⟩
  match j, hy with
  | 0, hy =>
    simp at hy
    subst hy
    simpa using hc

/-- What a cell holds, stored into it again: nothing has changed. -/
theorem setCell_self {w : World} {g i : Nat} {v : Value} (h : w.cell? ⟨g, i, none⟩ = some v) : w.setCell ⟨g, i, none⟩ v = w := by
  unfold World.cell? at h
  dsimp only at h
  cases hg : w.heap[g]? with
  | none => rw [hg] at h; cases h
  | some o =>
    rw [hg] at h
    cases o with
    | cells c t fr =>
      have hc : c[i]? = some v := by simpa using h
      have e : c.setIfInBounds i v = c := by
        apply Array.ext_getElem?
        intro j
        rw [Array.getElem?_setIfInBounds]
        split
        · rename_i e
          subst e
          split
          · exact hc.symm
          · rename_i hlt
            rw [Array.getElem?_eq_none (by omega)]
        · rfl
      have e2 : (w.setCell ⟨g, i, none⟩ v).heap = w.heap := by
        apply Array.ext_getElem?
        intro j
        show (w.heap.modify g _)[j]? = _
        rw [Array.getElem?_modify]
        split
        · rename_i e'
          subst e'
          rw [hg]
          simp [e]
        · rfl
      show ({ w with heap := (w.setCell ⟨g, i, none⟩ v).heap } : World) = w
      rw [e2]
    | _ => simp at h

set_option maxHeartbeats 2000000 in
theorem lexApart_law (s : List UInt8) (w : World) (hs : s.length ≤ 140737488351232) (hT : TabL w) :
    Calls Tryd.prog 5 #[.string (str8 s)] w fun e w' => e = .returned (.bool true) ∧ Below w.heap.size w w' := by
  have HSM := hid (small8_any w hT)
  have HTK := hid (fun V (h : TabL V) => tokens_any s V h hs)
  have hap : (tokens s).1 = 0 → _ := apart_plain (s := s)
  generalize tokens s = X at HTK hap
  obtain ⟨xe, xp, l⟩ := X
  dsimp only at HTK hap
  have HT := hid hT
  have hsz : (str8 s).size = s.length := rfl
  clear hT
  by_cases he : xe = 0
  · subst he
    obtain ⟨hs2, ⟨L, hL, hLl⟩, hap2⟩ := hap rfl
    have HAP := hid hap2
    clear hap2
    have HLE := hid hL
    have hlen : l.length = L.length + 1 := by rw [hL]; simp
    clear hL
    clear hap
    go_enter Tryd.func5, Tryd.ntmps5
    go_wp2_with fail
    refine HSM.out.mono ?_
    rintro e w1 ⟨rfl, hb1⟩
    have HB1 := hid hb1
    have HT1 := hid (HT.out.on hb1)
    clear hb1
    go_wp2_with fail
    refine (HTK.out w1 HT1.out).mono ?_
    rintro e w2 ⟨v, rfl, htk, hb2⟩
    obtain ⟨W2, hW2, hbW2, hzW2, hcW2⟩ := box2 w2 (.int .i64 0) (.int .i64 xp) 26
    have g2 := cells2 (hcW2 W2 (Below.refl _ _))
    have hB2 := HB1.out.trans (hb2.mono HB1.out.size)
    have HB2 : Hid (Below w.heap.size w W2) := hid (hB2.trans (hbW2.mono hB2.size))
    have HV2 := hid (htk.on hbW2)
    obtain ⟨va, vc, rfl, hvc, hvm, hv3⟩ := id (htk.on hbW2)
    obtain ⟨b, off, rfl, hbl, hcell⟩ := hv3 (by intro e; rw [e] at hlen; simp at hlen)
    have HCV : Hid (∀ V, Below W2.heap.size W2 V → ∀ j x, l[j]? = some x → V.cell? ⟨b, off + j * 4, none⟩ = some (.int .i64 x.k) ∧ V.cell? ⟨b, off + j * 4 + 1, none⟩ = some (.string (str8 x.s)) ∧ V.cell? ⟨b, off + j * 4 + 2, none⟩ = some (.int .i64 x.n) ∧ V.cell? ⟨b, off + j * 4 + 3, none⟩ = some (.int .i64 x.p)) := hid (fun V hV j x hx => by
      obtain ⟨c0, c1, c2, c3⟩ := hcell j x hx
      exact ⟨(hV.cell (p := ⟨b, _, none⟩) hbl).trans c0, (hV.cell (p := ⟨b, _, none⟩) hbl).trans c1, (hV.cell (p := ⟨b, _, none⟩) hbl).trans c2, (hV.cell (p := ⟨b, _, none⟩) hbl).trans c3⟩)
    rw [hlen] at hvc ⊢
    unfold maxLen at hvm
    have HLN := hid hlen
    clear hb2 hbW2 hcW2 htk hB2 hv3 hcell hlen
    generalize hM : L.length = M at hvc hLl HLN ⊢
    have HM := hid hM
    clear hM
    go_wp2_with fail
    try rw [hW2]
    clear hW2
    go_loopw [6] (fun i wr => ∃ k : Nat, k ≤ M ∧ i = .int .i64 k ∧ Below W2.heap.size W2 wr) (fun i _ => M - (intOf i).toNat)
    case atStart => exact ⟨0, Nat.zero_le _, rfl, Below.refl _ _⟩
    case round =>
      obtain ⟨k, hk, rfl, hbel⟩ := hrel
      by_cases hlt : k < M
      · obtain ⟨x, hx⟩ : ∃ x, l[k]? = some x := ⟨_, List.getElem?_eq_getElem (by rw [HLN.out]; omega)⟩
        obtain ⟨y, hy⟩ : ∃ y, l[k + 1]? = some y := ⟨_, List.getElem?_eq_getElem (by rw [HLN.out]; omega)⟩
        obtain ⟨p, q, hp, hq, hpq, hqs, htp⟩ := HAP.out k x y hx hy
        have hd1 := HCV.out
        obtain ⟨P, hP⟩ : ∃ P : Int, (p : Int) = P := ⟨_, rfl⟩
        obtain ⟨Q, hQ⟩ : ∃ Q : Int, (q : Int) = Q := ⟨_, rfl⟩
        have hsl := run_cutmid s p q (by omega) hqs
        rw [hP, hQ] at hsl
        obtain ⟨xk, xs, xn, xp'⟩ := x
        obtain ⟨yk, ys, yn, yp'⟩ := y
        dsimp only at hp hq
        obtain rfl : xp' = P := by rw [← hP]; exact hp
        obtain rfl : yp' = Q := by rw [← hQ]; exact hq
        have b1 : decide (xp' < 0) = false := decide_eq_false (by omega)
        have b2 : decide (yp' ≤ xp') = false := decide_eq_false (by omega)
        have b3 : decide ((s.length : Int) < yp') = false := decide_eq_false (by omega)
        have HC1 : Hid (∀ V, Below W2.heap.size W2 V → V.cell? ⟨b, off + k * 4 + 3, none⟩ = some (.int .i64 xp') ∧ V.cell? ⟨b, off + (k + 1) * 4 + 3, none⟩ = some (.int .i64 yp')) := hid (fun V hV => ⟨(HCV.out V hV k _ hx).2.2.2, (HCV.out V hV (k + 1) _ hy).2.2.2⟩)
        have hlt1 : (k : Int) + 1 < (M : Int) + 1 := by omega
        have hlt2 : (k : Int) < (M : Int) + 1 := by omega
        have HTP := hid (fun V (h : TabL V) => tokens_any ((s.drop p).take (q - p)) V h (by rw [List.length_take, List.length_drop]; omega))
        rw [htp] at HTP
        dsimp only at HTP
        generalize ((s.drop p).take (q - p)) = pc at HTP hsl
        have HX := hid hx
        have hcc := HC1.out wr hbel
        have HBr := hid hbel
        clear hd1 hP hQ hp hq hpq hqs htp hx hy hbel
        go_wp2_with fail
        go_quiet (fail)
        have HBq : Hid (Below W2.heap.size W2 (wr.drewN nq)) := hid (below_drewN HBr.out nq)
        have hcq := HC1.out _ HBq.out
        clear hcc
        generalize wr.drewN nq = wq at HBq hcq ⊢
        go_wp2_with fail
        have D0 : Hid (Below W2.heap.size W2 wq.drew) := hid (below_drewN HBq.out 1)
        have hS0 := HC1.out _ D0.out
        clear hcq
        have hwr : IntKind.i64.wrap ((k : Int) + 1) = (k : Int) + 1 := by rw [IntKind.wrap_i64]; omega
        have hk1 : (0 : Int) ≤ (k : Int) + 1 := by omega
        have hk0 : (0 : Int) ≤ (k : Int) := by omega
        obtain ⟨Wa, hWa⟩ : ∃ Wa, (wq.alloc (.cells #[.int .i64 0, .int .i64 0] 26)) = Wa := ⟨_, rfl⟩
        have DA : Hid (Below W2.heap.size W2 Wa.drew) := hid (by rw [← hWa]; exact below_drewN (HBq.out.alloc HBq.out.size _) 1)
        have HBA : Hid (Wa.drew.heap[wq.heap.size]? = some (.cells #[.int .i64 0, .int .i64 0] 26) ∧ wq.heap.size < Wa.drew.heap.size) := hid (by rw [← hWa]; exact ⟨heap_alloc_new wq _, by simp⟩)
        have hSA := HC1.out _ DA.out
        go_region_held3 (fun V => V.cell? ⟨b, off + k * 4 + 3, none⟩ = some (.int .i64 xp') ∧ V.cell? ⟨b, off + (k + 1) * 4 + 3, none⟩ = some (.int .i64 yp')) (first | assumption | exact HC1.out _ (by first | exact D5.out.alloc D5.out.size _ | exact D6.out.setCell HBq.out.size _ | exact (D6.out.setCell HBq.out.size _).setCell HBq.out.size _)) (first
          | (go_at_call 9; first
              | (refine (HTP.out wq.drew (HT.out.on (HB2.out.trans (D0.out.mono HB2.out.size)))).mono ?_; rintro e w5 ⟨m, rfl, hm5, hb5⟩
                 have D5 : Hid (Below W2.heap.size W2 w5) := hid (D0.out.trans (hb5.mono D0.out.size))
                 have hS5 := HC1.out _ D5.out
                 have HM5 := hid hm5
                 clear hb5 hm5)
              | (refine (HTP.out Wa.drew (HT.out.on (HB2.out.trans (DA.out.mono HB2.out.size)))).mono ?_; rintro e w6 ⟨m, rfl, hm5, hb5⟩
                 have D6 : Hid (Below W2.heap.size W2 w6) := hid (DA.out.trans (hb5.mono DA.out.size))
                 have hS6 := HC1.out _ D6.out
                 have G6 := cells2 ((hb5.block _ HBA.out.2).trans HBA.out.1)
                 have HM5 := hid hm5
                 clear hb5 hm5)))
        · have DV0 : Hid (Below W2.heap.size W2 (w5.alloc (.cells #[.int .i64 0, .int .i64 0] 26))) := hid (D5.out.alloc D5.out.size _)
          have GC0 : Hid ((w5.alloc (.cells #[.int .i64 0, .int .i64 0] 26)).cell? ⟨w5.heap.size, 0, none⟩ = some (.int .i64 0)) := hid (by simp)
          have GL0 : Hid (w5.heap.size < (w5.alloc (.cells #[.int .i64 0, .int .i64 0] 26)).heap.size) := hid (by simp)
          have HM50 := hid (HM5.out.on ((Below.refl _ _).alloc (Nat.le_refl _) (.cells #[.int .i64 0, .int .i64 0] 26)))
          clear HM5
          have hcS := hS5
          generalize hV : w5.alloc (.cells #[.int .i64 0, .int .i64 0] 26) = V at DV0 GC0 GL0 HM50 ⊢
          generalize hG : w5.heap.size = G at GC0 GL0 ⊢
          have DV := DV0
          have GC := GC0
          have GL := GL0
          have HM5 := HM50
          clear DV0 GC0 GL0 HM50 hV hG hS5
          obtain ⟨ma, mc, rfl, hmc, hmm, hm3⟩ := HM5.out
          obtain ⟨b3, off3, rfl, hb3, hcm⟩ := hm3 (by simp)
          obtain ⟨d0, d1, d2, d3⟩ := hcm 0 _ rfl
          dsimp only [Tk.z] at d0 d1 d2 d3
          simp only [Nat.zero_mul, Nat.add_zero] at d0 d1 d2 d3
          have hmc2 : 2 ≤ mc := hmc
          have e1 := run_toks1 b3 off3 mc hmc2
          have e2 := run_toksmid b off (M + 1) vc k (by omega) hvc
          have HSm : Hid (∀ U, Below V.heap.size V U → Calls Tryd.prog 11 #[.slice (some ⟨b3, off3, none⟩) 1 mc, .slice (some ⟨b, off + k * 4, none⟩) 1 (vc - k), .bool false] U fun e w' => e = .returned (.bool true) ∧ Below U.heap.size U w') := hid (fun U hU => by
            have hbV : b3 < V.heap.size := hb3
            have hDU := DV.out.trans (hU.mono DV.out.size)
            refine sameT_any U.heap.size _ _ [⟨xk, xs, xn, 0⟩] [⟨xk, xs, xn, xp'⟩] U (Nat.le_refl _) (toks_one_at (by omega) hmm (Nat.lt_of_lt_of_le hbV hU.size) ⟨(hU.cell (p := ⟨b3, _, none⟩) hbV).trans d0, (hU.cell (p := ⟨b3, _, none⟩) hbV).trans d1, (hU.cell (p := ⟨b3, _, none⟩) hbV).trans d2, (hU.cell (p := ⟨b3, _, none⟩) hbV).trans d3⟩) (toks_one_at (by omega) (by unfold maxLen; omega) (Nat.lt_of_lt_of_le hbl hDU.size) (HCV.out U hDU k _ HX.out)) rfl)
          have HS7 : Hid (∀ U, Below V.heap.size V U → U.cell? ⟨G, 0, none⟩ = some (.int .i64 0) ∧ U.cell? ⟨b3, off3 + 3, none⟩ = some (.int .i64 0)) := hid (fun U hU => ⟨(hU.cell (p := ⟨G, _, none⟩) GL.out).trans GC.out, (hU.cell (p := ⟨b3, _, none⟩) hb3).trans d3⟩)
          have D7 : Hid (Below V.heap.size V V.drew) := hid (below_drewN (Below.refl _ _) 1)
          have hS7 := HS7.out _ D7.out
          clear hm3 hcm d0 d1 d2 d3 HM5 hcS
          go_wp2_with fail
          go_region_held3 (fun U => U.cell? ⟨G, 0, none⟩ = some (.int .i64 0) ∧ U.cell? ⟨b3, off3 + 3, none⟩ = some (.int .i64 0)) (first | assumption) (first
            | (go_at_call 11; refine (HSm.out _ D7.out).mono ?_; rintro e w8 ⟨rfl, hb8⟩
               have D8 : Hid (Below V.heap.size V w8) := hid (D7.out.trans (hb8.mono D7.out.size))
               have hS8 := HS7.out _ D8.out
               clear hb8))
          have DE : Hid (Below W2.heap.size W2 w8) := hid (DV.out.trans (D8.out.mono DV.out.size))
          go_wp2
          first
            | exact ⟨⟨k + 1, by omega, by go_num, DE.out⟩, by simp [intOf]; omega⟩
            | (go_roundw
               case rel => exact ⟨k + 1, by omega, by go_num, DE.out⟩
               case measure => simp [intOf]; omega)
        · rw [setCell_self G6.1, setCell_self G6.2.1]
          have DV := D6
          have GC : Hid (w6.cell? ⟨wq.heap.size, 0, none⟩ = some (.int .i64 0)) := hid G6.1
          have GL : Hid (wq.heap.size < w6.heap.size) := hid (World.block_lt_of_cell? _ ⟨wq.heap.size, 0, none⟩ G6.1)
          have hcS := hS6
          clear G6 hS6 D6
          generalize hG : wq.heap.size = G at GC GL ⊢
          generalize w6 = V at *
          clear hG
          obtain ⟨ma, mc, rfl, hmc, hmm, hm3⟩ := HM5.out
          obtain ⟨b3, off3, rfl, hb3, hcm⟩ := hm3 (by simp)
          obtain ⟨d0, d1, d2, d3⟩ := hcm 0 _ rfl
          dsimp only [Tk.z] at d0 d1 d2 d3
          simp only [Nat.zero_mul, Nat.add_zero] at d0 d1 d2 d3
          have hmc2 : 2 ≤ mc := hmc
          have e1 := run_toks1 b3 off3 mc hmc2
          have e2 := run_toksmid b off (M + 1) vc k (by omega) hvc
          have HSm : Hid (∀ U, Below V.heap.size V U → Calls Tryd.prog 11 #[.slice (some ⟨b3, off3, none⟩) 1 mc, .slice (some ⟨b, off + k * 4, none⟩) 1 (vc - k), .bool false] U fun e w' => e = .returned (.bool true) ∧ Below U.heap.size U w') := hid (fun U hU => by
            have hbV : b3 < V.heap.size := hb3
            have hDU := DV.out.trans (hU.mono DV.out.size)
            refine sameT_any U.heap.size _ _ [⟨xk, xs, xn, 0⟩] [⟨xk, xs, xn, xp'⟩] U (Nat.le_refl _) (toks_one_at (by omega) hmm (Nat.lt_of_lt_of_le hbV hU.size) ⟨(hU.cell (p := ⟨b3, _, none⟩) hbV).trans d0, (hU.cell (p := ⟨b3, _, none⟩) hbV).trans d1, (hU.cell (p := ⟨b3, _, none⟩) hbV).trans d2, (hU.cell (p := ⟨b3, _, none⟩) hbV).trans d3⟩) (toks_one_at (by omega) (by unfold maxLen; omega) (Nat.lt_of_lt_of_le hbl hDU.size) (HCV.out U hDU k _ HX.out)) rfl)
          have HS7 : Hid (∀ U, Below V.heap.size V U → U.cell? ⟨G, 0, none⟩ = some (.int .i64 0) ∧ U.cell? ⟨b3, off3 + 3, none⟩ = some (.int .i64 0)) := hid (fun U hU => ⟨(hU.cell (p := ⟨G, _, none⟩) GL.out).trans GC.out, (hU.cell (p := ⟨b3, _, none⟩) hb3).trans d3⟩)
          have D7 : Hid (Below V.heap.size V V.drew) := hid (below_drewN (Below.refl _ _) 1)
          have hS7 := HS7.out _ D7.out
          clear hm3 hcm d0 d1 d2 d3 HM5 hcS
          go_wp2_with fail
          go_region_held3 (fun U => U.cell? ⟨G, 0, none⟩ = some (.int .i64 0) ∧ U.cell? ⟨b3, off3 + 3, none⟩ = some (.int .i64 0)) (first | assumption) (first
            | (go_at_call 11; refine (HSm.out _ D7.out).mono ?_; rintro e w8 ⟨rfl, hb8⟩
               have D8 : Hid (Below V.heap.size V w8) := hid (D7.out.trans (hb8.mono D7.out.size))
               have hS8 := HS7.out _ D8.out
               clear hb8))
          have DE : Hid (Below W2.heap.size W2 w8) := hid (DV.out.trans (D8.out.mono DV.out.size))
          go_wp2
          first
            | exact ⟨⟨k + 1, by omega, by go_num, DE.out⟩, by simp [intOf]; omega⟩
            | (go_roundw
               case rel => exact ⟨k + 1, by omega, by go_num, DE.out⟩
               case measure => simp [intOf]; omega)
      · obtain rfl : k = M := by omega
        have hend : l[k]? = some ⟨6, [], 0, (s.length : Int)⟩ := by
          rw [HLE.out, List.getElem?_append_right (by rw [HM.out]; omega), HM.out]
          simp
        obtain ⟨c0, c1, c2, c3⟩ := HCV.out wr hbel k _ hend
        dsimp only at c0 c1 c2 c3
        have hg1 := Tryd.eqGuardTok
        have q3 : ∀ w, (binOp .eql 33 (.agg #[.int .i64 6, .string (str8 []), .int .i64 0, .int .i64 (s.length : Int)]) (.agg #[.int .i64 6, .string ⟨#[]⟩, .int .i64 0, .int .i64 (s.length : Int)])).run Tryd.prog w = .ok (.bool true) w := run_eqt ⟨6, [], 0, (s.length : Int)⟩
        have HBE : Hid (Below w.heap.size w wr) := hid (HB2.out.trans (hbel.mono HB2.out.size))
        clear hend
        go_wp2
        go_ret
        exact ⟨by simp, HBE.out⟩
  · have he' : (((xe : Nat) : Int) != 0) = true := by
      clear hap
      rw [bne_iff_ne]; omega
    generalize ((xe : Nat) : Int) = E at HTK he'
    clear hap he
    go_enter Tryd.func5, Tryd.ntmps5
    go_wp2_with fail
    refine HSM.out.mono ?_
    rintro e w1 ⟨rfl, hb1⟩
    have HB1 := hid hb1
    have HT1 := hid (HT.out.on hb1)
    clear hb1
    go_wp2_with fail
    refine (HTK.out w1 HT1.out).mono ?_
    rintro e w2 ⟨v, rfl, htk, hb2⟩
    obtain ⟨va, vc, rfl, _⟩ := htk
    have HB2 : Hid (Below w.heap.size w w2) := hid (HB1.out.trans (hb2.mono HB1.out.size))
    clear hb2
    go_wp2
    go_ret
    exact ⟨rfl, HB2.out.alloc HB2.out.size _⟩

end Go.Proofs.YtlbhaknceiehiaaDoor
