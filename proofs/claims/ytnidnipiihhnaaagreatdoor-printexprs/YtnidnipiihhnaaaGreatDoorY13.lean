/- Packed for the hand-in: WWrite -/
import Derived.Test.YtnidnipiihhnaaaGreatDoorY12
namespace Go.Proofs.YtnidnipiihhnaaaGreatDoor
open Go.RowKit Go.Shelf
set_option linter.unusedSimpArgs false
set_option linter.unusedVariables false
set_option maxRecDepth 20000
set_option maxHeartbeats 8000000
theorem joinW_any (B n : Nat) (v : Value) (ps : List (List UInt8)) (w : World) (hown : w.ownsRow B 9 1 v n (scs ps)) (hl : ∀ p ∈ ps, p.length ≤ 100) (hn : ps.length ≤ 10000000) :
    Calls Tryz.prog 118 #[v, .string ⟨#[32]⟩] w fun e w' => e = .returned (.string (str8 (Lib.join ps [32]))) ∧ Below w.heap.size w w' := by
  have hlen : n = ps.length := by have := hown.1; simp [scs] at this; omega
  subst hlen
  have hj := join_le ps hl
  have hc := hown
  rcases hown.2 with ⟨rfl, hz⟩ | ⟨g, cap, cur, rfl, hb, hg, hnc, hcm, hcs, ht⟩
  · obtain rfl : ps = [] := List.eq_nil_of_length_eq_zero hz
    have := Any.strings_Join_none laysJo extraR none 0 ⟨#[32]⟩ w
    rw [numL.2.2.2.2.2.2.2.2.2] at this
    exact this.mono fun e w' ⟨he, hw⟩ => ⟨he, hw ▸ Below.refl _ _⟩
  · have k := hc.cells (g := g) rfl
    have hm : (ps.map str8).map (·.data.toList) = ps := by
      rw [List.map_map]
      conv => rhs; rw [← List.map_id ps]
      apply List.map_congr_left
      intro x _
      rfl
    have := Any.strings_Join laysJo extraR g 0 cap (ps.map str8) ⟨#[32]⟩ w (fun j x hx => by
      have := k j (.string x) (by
        rw [List.getElem?_map] at hx
        simp only [scs, List.getElem?_map]
        cases hp : ps[j]? with
        | none => rw [hp] at hx; cases hx
        | some l => rw [hp] at hx; simp at hx; simp [hx])
      rwa [Addr.add_lit] at this) (Array.getElem?_eq_some_iff.1 hg).1 (by rw [List.length_map]; omega) (by rw [List.length_map]; exact hnc) (by
        rw [hm]
        show (Lib.join ps [32]).length ≤ _
        omega)
    rw [numL.2.2.2.2.2.2.2.2.2, hm, List.length_map] at this
    exact this
theorem writtenW_any (k n p : Int) (s : List UInt8) (w : World) (hT : TabW w) (hs : s.length ≤ 40) (hn0 : 0 ≤ n) (hn1 : n ≤ 9223372036854775807) :
    Calls Tryz.prog 116 #[.agg #[.int .i64 k, .string (str8 s), .int .i64 n, .int .i64 p]] w fun e w' => e = .returned (.string (str8 (wr ⟨k, s, n, p⟩))) ∧ Below w.heap.size w w' := by
  obtain ⟨W, hW, hbW, hzW, hcW⟩ := box4 w (.int .i64 k) (.string (str8 s)) (.int .i64 n) (.int .i64 p) 119
  have g0 := cells4 (hcW W (Below.refl _ _))
  have HI := hid (itoa_any n W (hT.on hbW).tv (by omega) hn1)
  have HL := hid (literal_any 2 0 s W (hT.on hbW).tv (by decide) (by decide) (by omega))
  have HB := hid hbW
  clear hcW hbW hT
  by_cases h3 : k = 3
  · have hd : wr ⟨k, s, n, p⟩ = Lib.itoa n := by rw [wr, if_pos h3]
    rw [hd]
    clear hd
    subst h3
    go_enter Tryz.func116, Tryz.ntmps116
    go_wp2_with fail
    refine HI.out.mono ?_
    rintro e w1 ⟨rfl, hb1⟩
    go_wp2
    go_ret
    exact ⟨rfl, HB.out.trans (hb1.mono HB.out.size)⟩
  · have h3' : (k == 3) = false := by simpa using h3
    by_cases h4 : k = 4
    · have hd : wr ⟨k, s, n, p⟩ = litV ⟨2, 0, s⟩ := by rw [wr, if_neg h3, if_pos h4]; rfl
      rw [hd]
      clear hd
      subst h4
      go_enter Tryz.func116, Tryz.ntmps116
      go_wp2_with fail
      refine HL.out.mono ?_
      rintro e w1 ⟨rfl, hb1⟩
      go_wp2
      go_ret
      exact ⟨rfl, HB.out.trans (hb1.mono HB.out.size)⟩
    · have h4' : (k == 4) = false := by simpa using h4
      have hd : wr ⟨k, s, n, p⟩ = s := by rw [wr, if_neg h3, if_neg h4]
      rw [hd]
      clear hd
      go_enter Tryz.func116, Tryz.ntmps116
      go_wp2
      go_ret
      exact ⟨rfl, HB.out⟩
theorem writeW_any (B : Nat) (v : Value) (l : List Tk) (w : World) (hT : TabW w) (hB : B ≤ w.heap.size) (hv : Toks B w v l) (hok : ∀ t ∈ l, OkT t) (hn : l.length ≤ 10000000) :
    Calls Tryz.prog 54 #[v] w fun e w' => e = .returned (.string (str8 (Lib.join (wrs l) [32]))) ∧ Below w.heap.size w w' := by
  obtain ⟨i0, hi, hz0, hz1, hz2⟩ := info_parts Tryz.infoStr
  obtain ⟨a, c, rfl, h1, h2, h3⟩ := id hv
  unfold maxLen at h2
  have HV := hid hv
  have HT := hid hT
  have HOK := hid hok
  have hwl : ∀ k, ∀ p ∈ wrs (l.take k), p.length ≤ 100 := fun k p hp => by
    unfold wrs at hp
    obtain ⟨t, ht, rfl⟩ := List.mem_map.1 hp
    exact wr_le (hok t (List.mem_of_mem_take (List.mem_filter.1 ht).1))
  have HWL := hid hwl
  clear hwl h3 hv hT hok
  obtain ⟨S, hS⟩ : ∃ S, str8 (Lib.join (wrs l) [32]) = S := ⟨_, rfl⟩
  rw [hS]
  have HS := hid hS
  clear hS
  go_enter Tryz.func54, Tryz.ntmps54
  go_wp2_with fail
  go_loopw [3, 8] (fun u i wr => ∃ k : Nat, k ≤ l.length ∧ i = .int .i64 k ∧ wr.ownsRow w.heap.size 9 1 u (wrs (l.take k)).length (scs (wrs (l.take k))) ∧ Below w.heap.size w wr) (fun _ i _ => l.length - (intOf i).toNat)
  case atStart => exact ⟨0, Nat.zero_le _, rfl, World.ownsRow_nil _ _ _ _, Below.refl _ _⟩
  case round =>
    obtain ⟨k, hk, rfl, hown, hbel⟩ := hrel
    have hszr := hbel.size
    have hwl2 := wrs_len (l.take k)
    rw [List.length_take] at hwl2
    by_cases hlt : k < l.length
    · obtain ⟨x, hx⟩ : ∃ x, l[k]? = some x := ⟨_, List.getElem?_eq_getElem hlt⟩
      obtain ⟨a', c', hv', _, _, h3⟩ := HV.out.below (hbel.mono hB)
      simp only [Value.slice.injEq] at hv'
      obtain ⟨rfl, _, rfl⟩ := hv'
      obtain ⟨b, off, rfl, hbB, hcell⟩ := h3 (by intro e; rw [e] at hlt; simp at hlt)
      obtain ⟨c0, c1, c2, c3⟩ := hcell k x hx
      have ht := take_snocL l k x hx
      have hws := wrs_snoc (l.take k) x
      rw [← ht] at hws
      obtain ⟨o1, o2, o3⟩ := HOK.out x (List.mem_of_getElem? hx)
      obtain ⟨xk, xs, xn, xp⟩ := x
      dsimp only at c0 c1 c2 c3 hws o1 o2 o3
      clear h3 hcell ht hx
      by_cases h6 : xk = 6
      · rw [if_pos h6] at hws
        have HW2 := hid hws
        subst h6
        have hown2 := hid (hown.alloc (.cells #[.int .i64 6, .string (str8 xs), .int .i64 xn, .int .i64 xp] 119))
        have hbel2 := hid (hbel.alloc hszr (.cells #[.int .i64 6, .string (str8 xs), .int .i64 xn, .int .i64 xp] 119))
        clear hws hown
        go_wp2
        go_roundw
        case rel => exact ⟨k + 1, by omega, by go_num, by rw [HW2.out]; exact hown2.out, hbel2.out⟩
        case measure => simp [intOf]; omega
      · rw [if_neg h6] at hws
        have HW2 := hid hws
        have h6' : (xk != 6) = true := by rw [bne_iff_ne]; exact h6
        obtain ⟨W, hW, hbW, hzW, hcW⟩ := box4 wr (.int .i64 xk) (.string (str8 xs)) (.int .i64 xn) (.int .i64 xp) 119
        have g0 := cells4 (hcW W (Below.refl _ _))
        have hownW := hown.alloc (.cells #[.int .i64 xk, .string (str8 xs), .int .i64 xn, .int .i64 xp] 119)
        rw [hW] at hownW
        have hbelW := hbel.trans (hbW.mono hszr)
        have HWR := hid (writtenW_any xk xn xp xs W (HT.out.on hbelW) o1 o2 o3)
        generalize Go.Proofs.YtnidnipiihhnaaaGreatDoor.wr ⟨xk, xs, xn, xp⟩ = tx at HWR HW2
        generalize hPS : wrs (l.take k) = PS at *
        clear hPS hws hown hcW h6
        go_wp2_with fail
        try rw [hW]
        clear hW
        refine HWR.out.mono ?_
        rintro e w2 ⟨rfl, hb2⟩
        have hown2 := owns_onL hownW hb2
        have hbel2 := hbelW.trans (hb2.mono hbelW.size)
        have hown22 := hown2.alloc (.cells #[.string (str8 tx)] 9)
        have hbel22 := hbel2.alloc hbel2.size (.cells #[.string (str8 tx)] 9)
        have HSA := hid hbel22.size
        have HB22 := hid hbel22
        obtain ⟨va, vcap, hvf⟩ : ∃ va vcap, u3 = .slice va PS.length vcap := by
          rcases hown2.2 with ⟨rfl, hn⟩ | ⟨g, cap, cur, rfl, _⟩
          · exact ⟨_, _, by rw [hn]⟩
          · exact ⟨_, _, rfl⟩
        subst hvf
        have HL := hid (fun q hq => (hown22.lt q hq).1 : ∀ q, (Value.slice va PS.length vcap).ownBlock = some q → w.heap.size ≤ q)
        have hnew : ∀ (j : Nat) (u : Value), [Value.string (str8 tx)][j]? = some u → (w2.alloc (.cells #[.string (str8 tx)] 9)).cell? ((⟨w2.heap.size, 0, none⟩ : Addr).add j) = some u := by
          intro j u hj
          match j, hj with
          | 0, hj => simp at hj; subst hj; simp [Addr.add]
        have hone : ∀ u ∈ [Value.string (str8 tx)], u.oneCell' = true := by intro u hu; simp at hu; rw [hu]; rfl
        clear hb2 hownW hbelW HWR hown2 hbel2 hbel22
        go_wp2_with (first
          | (at_builtin; refine wpList_append_own _ rfl (.tmp 15) (.tmp 18) 77 rfl w.heap.size 9 i0 (.string ⟨#[]⟩) 1 16 Tryz.underlying77 hi hz0 hz1 hz2 rfl (by decide) _ _ _ rfl hown22 ⟨w2.heap.size, 0, none⟩ 1 1 [.string (str8 tx)] rfl rfl hnew hone (by unfold maxLen; omega) (by omega) HSA.out ?_; intro v3 w3 hown3 hg3 _)
          | fail)
        have HB3 : Hid (Below w.heap.size w w3) := hid (HB22.out.grown hg3 HSA.out HL.out)
        go_roundw
        case rel =>
          refine ⟨k + 1, by omega, by go_num, ?_, HB3.out⟩
          rw [HW2.out, List.length_append, show scs (PS ++ [tx]) = scs PS ++ [.string (str8 tx)] from by simp [scs]]
          exact hown3
        case measure => simp [intOf]; omega
    · have hkl : k = l.length := by omega
      have htk : l.take k = l := List.take_of_length_le (by omega)
      have hwl3 := HWL.out k
      rw [htk] at hown hwl3 hwl2
      have HJ := hid (joinW_any _ _ _ _ wr hown hwl3 (by omega))
      have hjl := join_le (wrs l) hwl3
      have HC := hid (fun w => strClone_any (str8 (Lib.join (wrs l) [32])) w (by rw [str8_size]; omega))
      rw [HS.out] at HJ HC
      clear hown hwl3 htk hjl
      go_wp2_with fail
      refine HJ.out.mono ?_
      rintro e w2 ⟨rfl, hb2⟩
      have hbel2 := hbel.trans (hb2.mono hszr)
      go_wp2_with fail
      refine (HC.out _).mono ?_
      rintro e w3 ⟨rfl, hb3⟩
      have HB3 := hid (hbel2.trans (hb3.mono hbel2.size))
      go_wp2
      go_ret
      exact ⟨rfl, HB3.out⟩
end Go.Proofs.YtnidnipiihhnaaaGreatDoor
