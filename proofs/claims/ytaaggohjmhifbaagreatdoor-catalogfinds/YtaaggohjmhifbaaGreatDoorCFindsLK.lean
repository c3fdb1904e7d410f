/- CatalogFinds, walked. -/
import Derived.Test.YtaaggohjmhifbaaGreatDoorP39
import Derived.Test.YtaaggohjmhifbaaGreatDoorP42
namespace Go.Proofs.YtaaggohjmhifbaaGreatDoor
open Go.RowKit Go.Shelf Go.Lib
set_option linter.unusedVariables false
set_option linter.unusedSimpArgs false
set_option maxRecDepth 20000
theorem cells5f {w : World} {g : Nat} {a b c d e : Value} {t : TypeId} (h : w.heap[g]? = some (.cells #[a, b, c, d, e] t)) :
    w.cell? ⟨g, 0, none⟩ = some a ∧ w.cell? ⟨g, 1, none⟩ = some b ∧ w.cell? ⟨g, 2, none⟩ = some c ∧ w.cell? ⟨g, 3, none⟩ = some d ∧ w.cell? ⟨g, 4, none⟩ = some e ∧ ∀ i, w.frozen? ⟨g, i, none⟩ = false :=
  ⟨by rw [cell_row _ _ _ _ _ _ h]; rfl, by rw [cell_row _ _ _ _ _ _ h]; rfl, by rw [cell_row _ _ _ _ _ _ h]; rfl, by rw [cell_row _ _ _ _ _ _ h]; rfl, by rw [cell_row _ _ _ _ _ _ h]; rfl, fun i => by simp [World.frozen?, h]⟩
def Is (L : List Tb) (nm : List UInt8) (b : Bool) : Prop := decide (nm ∈ L.map Tb.nm) = b
def Wt (L : List Tb) (nm : List UInt8) (b : Bool) (t : Tb) : Prop := b = true → findT L nm = t
set_option maxHeartbeats 4000000 in
theorem catalogFinds_law (l : List Ac) (v : Value) (nm : List UInt8) (w : World) (hx : SlAt 5 AcE (fun b => b < w.heap.size) w l v) (hR : ∀ a ∈ l, RgA a) (hn : nm.length ≤ 140737488351232) (hL : TabL w) (hT : TabW w) :
    Calls Tryz.prog 7 #[v, .string (str8 nm)] w fun e w' => e = .returned (.bool true) ∧ Below w.heap.size w w' := by
  obtain ⟨aa, cc, hv⟩ := hx.form
  subst hv
  have hlm : l.length ≤ 9223372036854775807 := by
    obtain ⟨_, _, _, h1, h2, h3, _⟩ := id hx
    unfold maxLen at h3
    omega
  have HX := hid hx
  have HR := hid hR
  have HT := hid hT
  have HSM := hid (small11_any w hT hL)
  have hnm : nm.length ≤ maxLen := by unfold maxLen; omega
  have HN := hid hnm
  clear hx hR hT hL hn hnm
  go_enter Tryz.func7, Tryz.ntmps7
  go_wp2_with fail
  refine HSM.out.mono ?_
  rintro e w1 ⟨rfl, hb1⟩
  have HB1 := hid hb1
  clear hb1 HSM
  go_wp2_with fail
  refine (cnew_any w1).mono ?_
  rintro e w2 ⟨u, rfl, hcat, hb2⟩
  obtain ⟨sb, mb, E, f, rfl, hcat⟩ := hcat
  obtain ⟨W, hW, hbW, hzW, hcW⟩ := box8 w2 (.cells #[.string ⟨#[]⟩, .slice none 0 0, .int .i64 0] 31)
  have hs1 := HB1.out.size
  have hs2 := hb2.size
  obtain ⟨wb, hwb⟩ : ∃ wb, w2.heap.size = wb := ⟨_, rfl⟩
  rw [hwb] at hcW
  have HF0 : Hid (FM w W sb mb wb [] zTb [.string ⟨#[]⟩, .slice none 0 0, .int .i64 0]) := hid (by
    have hm := hcat.inS.2
    refine ⟨⟨E, f, _, hcat.new hbW, fun b hb => ⟨by omega, by omega⟩⟩, hcW, ⟨none, 0, 0, rfl, SlAt.nil⟩, (HB1.out.trans (hb2.mono hs1)).trans (hbW.mono (by omega)), by omega, by omega, by omega⟩)
  clear hcat hb2 hbW hcW hzW
  go_wp2_with fail
  try rw [hW]
  try rw [hwb]
  clear hW
  go_loopw [7, 9] (fun th i wr => ∃ (k : Nat) (L : List Tb) (want : Tb) (ds : List Value) (b : Bool), k ≤ l.length ∧ i = .int .i64 k ∧ th = .bool b ∧ Hid (FM w wr sb mb wb L want ds) ∧ Hid (Is L nm b) ∧ Hid (Wt L nm b want)) (fun _ i _ => l.length - (intOf i).toNat)
  case atStart => exact ⟨0, [], zTb, _, false, Nat.zero_le _, rfl, rfl, HF0, hid rfl, hid (fun h => by cases h)⟩
  case round =>
    clear HF0
    obtain ⟨k, L, want, ds, b, hk, rfl, rfl, HF, HTH, HWT⟩ := hrel
    by_cases hlt : k < l.length ∧ k < 40
    · obtain ⟨hlt1, hlt2⟩ := hlt
      have hlt1' : (k : Int) < (l.length : Int) := by omega
      have hlt2' : (k : Int) < 40 := by omega
      obtain ⟨a, ha⟩ : ∃ a, l[k]? = some a := ⟨_, List.getElem?_eq_getElem hlt1⟩
      have HRA := hid (HR.out a (List.mem_of_getElem? ha))
      obtain ⟨_, _, _, b0, off, cs, rfl, _, hel, hcell⟩ := sl_get (HX.out.to (T := fun b => b < w.heap.size) (by decide) (R := fun _ => False) (Spares.of_new HF.out.below) (fun b hb _ => ⟨id, hb⟩) (fun _ _ e => e.to (R := fun _ => False) (Spares.of_new HF.out.below) (fun b hb _ => ⟨id, hb⟩))) ha
      obtain ⟨ts, rfl, htb⟩ := hel
      have HTB := hid htb
      obtain ⟨ta, tn, tc, rfl, _⟩ := htb
      have q0 := hcell 0 _ rfl
      have q1 := hcell 1 _ rfl
      have q2 := hcell 2 _ rfl
      have q3 := hcell 3 _ rfl
      have q4 := hcell 4 _ rfl
      simp only [Nat.add_zero] at q0
      obtain ⟨U, hU, hbU, hzU, hcU⟩ := box8 wr (.cells #[.int .i64 a.d, .string (str8 a.t.nm), .slice ta tn tc, .int .i64 a.t.pr, .string (str8 a.s)] 50)
      have kU := cells5f hcU
      have HSH := hid (short_any _ a.t _ U (HTB.out.on hbU))
      have HBU := hid hbU
      have HCU := hid hcU
      have hRD : -9223372036854775808 ≤ a.d ∧ a.d ≤ 9223372036854775807 := HRA.out.2.2
      clear hcell ha hbU hcU
      obtain ⟨d, t, s⟩ := a
      dsimp only at *
      go_wp2_with fail
      try rw [hU]
      refine HSH.out.mono ?_
      rintro e w3 ⟨⟨sh, rfl⟩, hb3⟩
      have hs3 := hb3.size
      have HB3 := hid (HBU.out.trans (hb3.mono HBU.out.size))
      have HC3 := hid ((hb3.block wr.heap.size hzU).trans HCU.out)
      have HF3 := hid (HF.out.new HB3.out)
      have HT3 := hid (HT.out.on HF3.out.below)
      have HTB3 := hid (HTB.out.on HB3.out)
      have hzU3 : wr.heap.size < w3.heap.size := by omega
      have k3 := cells5f HC3.out
      clear hb3 hU kU HSH q0 q1 q2 q3 q4 HBU HCU HTB hs3 HB3
      cases sh
      · go_wp2
        go_ret
        exact ⟨rfl, HF3.out.below⟩
      have hmw : mb < wr.heap.size := by obtain ⟨_, _, _, h1, _⟩ := HF.out.cat; exact h1.lt _ h1.inS.2
      obtain ⟨E3, f3, S3, hc3, hS3⟩ := HF3.out.cat
      have HC := hid hc3
      have HS := hid hS3
      clear hc3 hS3
      by_cases hd0 : d = 0
      · subst hd0
        have HAD := hid (cadd_any sb mb E3 f3 L S3 _ t _ w3 HC.out HT3.out HRA.out.1.1 HTB3.out)
        go_wp2_with fail
        refine HAD.out.mono ?_
        rintro e w4 ⟨rfl, ⟨E4, f4, S4, hc4, hS4⟩, hk4⟩
        have hw3 := HF3.out.below.size
        have hwb3 := HF3.out.lt
        have hlo := HF3.out.lo
        have HF4 : Hid (FM w w4 sb mb wb (addL L t) want ds) := hid (HF3.out.mv hk4 hc4 (fun b hb => by
          rcases hS4 b hb with h | h
          · exact HS.out b h
          · omega))
        have hs4 := hk4.size
        have HC4 := hid ((hk4.block wr.heap.size hzU3 (by omega)).trans HC3.out)
        have k4 := cells5f HC4.out
        have HTB4 := hid (HTB3.out.to (T := fun b => b < w.heap.size) hk4 (fun b hb _ => ⟨by omega, hb⟩))
        clear hc4 hS4 hk4 HAD k3 HC HS
        by_cases hq : addE L t = 0 ∧ t.nm = nm
        · obtain ⟨hq0, hqn⟩ := hq
          have hfn := find_new hq0
          have hb0 : b = false := by have := HTH.out; unfold Is at this; rw [← this, ← hqn]; exact hfn.1
          subst hb0
          have hnm1 : ((str8 t.nm).toList == (str8 nm).toList) = true := by rw [str8_toList, str8_toList, hqn]; simp
          have HCO := hid (copied11_any _ t _ w4 HTB4.out (by have := (may_short (addE_zero hq0).1).1.2.1; omega))
          obtain ⟨LL, hLL, HTW, HWW⟩ : ∃ LL, LL = addL L t ∧ Hid (Is LL nm true) ∧ Hid (Wt LL nm true t) := ⟨_, rfl, hid (by unfold Is; rw [← hqn]; exact hfn.2.1), hid (fun _ => by rw [← hqn]; exact hfn.2.2)⟩
          rw [← hLL] at HF4
          rw [hq0]
          clear hfn hq0 HTH HWT hqn hLL
          go_wp2_with fail
          refine HCO.out.mono ?_
          rintro e w5 ⟨d5, rfl, ho5, hb5⟩
          have HF5 := hid (HF4.out.new hb5)
          have hs5 := hb5.size
          have HO5 := hid (ho5.e.to (R := fun _ => False) (T := fun b => b ≠ mb ∧ b ≠ wb) (Spares.refl _ _) (fun b hb _ => ⟨id, by omega, by omega⟩))
          obtain ⟨a5, n5, c5, rfl, _⟩ := ho5
          obtain ⟨y1, y2, y3, hds, _⟩ := id HF5.out.tb
          subst hds
          have kW := cells3f HF5.out.box
          obtain ⟨X, hX⟩ : ∃ X, ((w5.setCell ⟨wb, 0, none⟩ (.string (str8 t.nm))).setCell ⟨wb, 1, none⟩ (.slice a5 n5 c5)).setCell ⟨wb, 2, none⟩ (.int .i64 t.pr) = X := ⟨_, rfl⟩
          have hXr := hX
          rw [set3 HF5.out.box] at hXr
          have hkX : Spares (fun k => k = wb) w5 X := by rw [← hXr]; exact Spares.setRow (S := fun k => k = wb) (Spares.refl _ w5) (p := wb) (.inl rfl) _
          have hcX : X.heap[wb]? = some (.cells [.string (str8 t.nm), .slice a5 n5 c5, .int .i64 t.pr].toArray 31) := by rw [← hXr]; exact setRow_heap w5 wb _ _ _ _ HF5.out.box
          have HF6 := hid (HF5.out.put hkX hcX HO5.out)
          have hwbr := HF.out.lt
          have kX := cells5f ((hkX.block wr.heap.size (by omega) (by omega)).trans ((hb5.block wr.heap.size (by omega)).trans HC4.out))
          clear hb5 hXr hkX hcX HCO HF5 HO5 HF4
          obtain ⟨dd, HFW⟩ : ∃ dd, Hid (FM w X sb mb wb LL t dd) := ⟨_, HF6⟩
          clear HF6
          obtain ⟨E6, f6, S6, hc6, _⟩ := HFW.out.cat
          have h66 := hc6.six
          have HFI := hid (cfind_any sb mb E6 f6 LL S6 nm X hc6 HN.out)
          rw [show decide (nm ∈ LL.map Tb.nm) = true from HTW.out] at HFI
          obtain ⟨x1, x2, x3, hdd, _⟩ := id HFW.out.tb
          subst hdd
          clear hc6
          go_wp2_with fail
          refine HFI.out.mono ?_
          rintro e w7 ⟨d7, rfl, ho7, hb7⟩
          have HF7 := hid (HFW.out.new hb7)
          obtain ⟨ft, hft⟩ : ∃ ft, findT LL nm = ft := ⟨_, rfl⟩
          have HWF : Hid (true = true → ft = t) := hid (fun h => hft ▸ HWW.out h)
          rw [hft] at ho7
          have HO7 := hid ho7
          obtain ⟨a7, n7, c7, rfl, _⟩ := ho7
          obtain ⟨V, hV, hbV, hzV, hcV⟩ := box8 w7 (.cells #[.string (str8 ft.nm), .slice a7 n7 c7, .int .i64 ft.pr] 31)
          have kV := cells3f hcV
          have HF8 := hid (HF7.out.new hbV)
          have kB := cells3f HF8.out.box
          have HSA := hid (sameTab_any _ _ ft t _ _ V (HO7.out.e.on hbV) HF8.out.tb)
          obtain ⟨E8, f8, S8, hc8, _⟩ := HF8.out.cat
          have HALL := hid (fun Z (hZ : Below V.heap.size V Z) => call_any sb mb E8 f8 LL S8 Z (hc8.new hZ))
          clear hc8 hb7 hbV hcV hft HFI HO7 HF7
          rw [(sameT_iff ft t).2 (HWF.out rfl)] at HSA
          go_wp2_with fail
          try rw [hV]
          refine HSA.out.mono ?_
          rintro e w8 ⟨rfl, hb8⟩
          have HF8' := hid (HF8.out.new hb8)
          have HA9 := hid (HALL.out w8 hb8)
          clear hb8 kV kB HALL HSA HF8 hV
          go_wp2_with fail
          refine HA9.out.mono ?_
          rintro e w9 ⟨v9, T9, rfl, hp9, _, hsl9, hb9⟩
          obtain ⟨a9, c9, rfl⟩ := hsl9.form
          have h69 : ¬ ((6 : Int) < (T9.length : Int)) := by rw [hp9.length_eq]; omega
          have HF9 := hid (HF8'.out.new hb9)
          clear hp9 hsl9 hb9 HA9 HF8'
          go_wp2
          go_roundw
          case rel => exact ⟨k + 1, LL, t, _, true, by omega, by go_num, rfl, HF9, HTW, HWW⟩
          case measure => simp [intOf]; omega
        · have hfk := find_kept hq
          obtain ⟨LL, hLL, HTW, HWW⟩ : ∃ LL, LL = addL L t ∧ Hid (Is LL nm b) ∧ Hid (Wt LL nm b want) := ⟨_, rfl, hid (hfk.1.trans HTH.out), hid (fun hb => hfk.2.trans (HWT.out hb))⟩
          rw [← hLL] at HF4
          have HFW := HF4
          by_cases hq0 : addE L t = 0
          · have hnm1 : ((str8 t.nm).toList == (str8 nm).toList) = false := by
              rw [str8_toList, str8_toList]
              have : t.nm ≠ nm := fun e => hq ⟨hq0, e⟩
              simp [this]
            rw [hq0]
            clear hfk hq hq0 HTH HWT hLL HF4 HTB4
            obtain ⟨E6, f6, S6, hc6, _⟩ := HFW.out.cat
            have h66 := hc6.six
            have HFI := hid (cfind_any sb mb E6 f6 LL S6 nm w4 hc6 HN.out)
            rw [show decide (nm ∈ LL.map Tb.nm) = b from HTW.out] at HFI
            obtain ⟨x1, x2, x3, hdd, _⟩ := id HFW.out.tb
            subst hdd
            clear hc6
            go_wp2_with fail
            refine HFI.out.mono ?_
            rintro e w7 ⟨d7, rfl, ho7, hb7⟩
            have HF7 := hid (HFW.out.new hb7)
            obtain ⟨ft, hft⟩ : ∃ ft, findT LL nm = ft := ⟨_, rfl⟩
            have HWF : Hid (b = true → ft = want) := hid (fun h => hft ▸ HWW.out h)
            rw [hft] at ho7
            have HO7 := hid ho7
            obtain ⟨a7, n7, c7, rfl, _⟩ := ho7
            obtain ⟨V, hV, hbV, hzV, hcV⟩ := box8 w7 (.cells #[.string (str8 ft.nm), .slice a7 n7 c7, .int .i64 ft.pr] 31)
            have kV := cells3f hcV
            have HF8 := hid (HF7.out.new hbV)
            have kB := cells3f HF8.out.box
            have HSA := hid (sameTab_any _ _ ft want _ _ V (HO7.out.e.on hbV) HF8.out.tb)
            obtain ⟨E8, f8, S8, hc8, _⟩ := HF8.out.cat
            have HALL := hid (fun Z (hZ : Below V.heap.size V Z) => call_any sb mb E8 f8 LL S8 Z (hc8.new hZ))
            clear hc8 hb7 hbV hcV hft HFI HO7 HF7
            cases b
            · go_wp2_with fail
              try rw [hV]
              refine (HALL.out V (Below.refl _ _)).mono ?_
              rintro e w9 ⟨v9, T9, rfl, hp9, _, hsl9, hb9⟩
              obtain ⟨a9, c9, rfl⟩ := hsl9.form
              have h69 : ¬ ((6 : Int) < (T9.length : Int)) := by rw [hp9.length_eq]; omega
              have HF9 := hid (HF8.out.new hb9)
              clear hp9 hsl9 hb9 kV kB HALL HSA HF8 hV
              go_wp2
              go_roundw
              case rel => exact ⟨k + 1, LL, want, _, false, by omega, by go_num, rfl, HF9, HTW, HWW⟩
              case measure => simp [intOf]; omega
            · rw [(sameT_iff ft want).2 (HWF.out rfl)] at HSA
              go_wp2_with fail
              try rw [hV]
              refine HSA.out.mono ?_
              rintro e w8 ⟨rfl, hb8⟩
              have HF8' := hid (HF8.out.new hb8)
              have HA9 := hid (HALL.out w8 hb8)
              clear hb8 kV kB HALL HSA HF8 hV
              go_wp2_with fail
              refine HA9.out.mono ?_
              rintro e w9 ⟨v9, T9, rfl, hp9, _, hsl9, hb9⟩
              obtain ⟨a9, c9, rfl⟩ := hsl9.form
              have h69 : ¬ ((6 : Int) < (T9.length : Int)) := by rw [hp9.length_eq]; omega
              have HF9 := hid (HF8'.out.new hb9)
              clear hp9 hsl9 hb9 HA9 HF8'
              go_wp2
              go_roundw
              case rel => exact ⟨k + 1, LL, want, _, true, by omega, by go_num, rfl, HF9, HTW, HWW⟩
              case measure => simp [intOf]; omega
          · obtain ⟨q, hqq⟩ : ∃ q, addE L t = q := ⟨_, rfl⟩
            rw [hqq] at hq0 ⊢
            clear hfk hq hqq HTH HWT hLL HF4 HTB4
            obtain ⟨E6, f6, S6, hc6, _⟩ := HFW.out.cat
            have h66 := hc6.six
            have HFI := hid (cfind_any sb mb E6 f6 LL S6 nm w4 hc6 HN.out)
            rw [show decide (nm ∈ LL.map Tb.nm) = b from HTW.out] at HFI
            obtain ⟨x1, x2, x3, hdd, _⟩ := id HFW.out.tb
            subst hdd
            clear hc6
            go_wp2_with fail
            refine HFI.out.mono ?_
            rintro e w7 ⟨d7, rfl, ho7, hb7⟩
            have HF7 := hid (HFW.out.new hb7)
            obtain ⟨ft, hft⟩ : ∃ ft, findT LL nm = ft := ⟨_, rfl⟩
            have HWF : Hid (b = true → ft = want) := hid (fun h => hft ▸ HWW.out h)
            rw [hft] at ho7
            have HO7 := hid ho7
            obtain ⟨a7, n7, c7, rfl, _⟩ := ho7
            obtain ⟨V, hV, hbV, hzV, hcV⟩ := box8 w7 (.cells #[.string (str8 ft.nm), .slice a7 n7 c7, .int .i64 ft.pr] 31)
            have kV := cells3f hcV
            have HF8 := hid (HF7.out.new hbV)
            have kB := cells3f HF8.out.box
            have HSA := hid (sameTab_any _ _ ft want _ _ V (HO7.out.e.on hbV) HF8.out.tb)
            obtain ⟨E8, f8, S8, hc8, _⟩ := HF8.out.cat
            have HALL := hid (fun Z (hZ : Below V.heap.size V Z) => call_any sb mb E8 f8 LL S8 Z (hc8.new hZ))
            clear hc8 hb7 hbV hcV hft HFI HO7 HF7
            cases b
            · go_wp2_with fail
              try rw [hV]
              refine (HALL.out V (Below.refl _ _)).mono ?_
              rintro e w9 ⟨v9, T9, rfl, hp9, _, hsl9, hb9⟩
              obtain ⟨a9, c9, rfl⟩ := hsl9.form
              have h69 : ¬ ((6 : Int) < (T9.length : Int)) := by rw [hp9.length_eq]; omega
              have HF9 := hid (HF8.out.new hb9)
              clear hp9 hsl9 hb9 kV kB HALL HSA HF8 hV
              go_wp2
              go_roundw
              case rel => exact ⟨k + 1, LL, want, _, false, by omega, by go_num, rfl, HF9, HTW, HWW⟩
              case measure => simp [intOf]; omega
            · rw [(sameT_iff ft want).2 (HWF.out rfl)] at HSA
              go_wp2_with fail
              try rw [hV]
              refine HSA.out.mono ?_
              rintro e w8 ⟨rfl, hb8⟩
              have HF8' := hid (HF8.out.new hb8)
              have HA9 := hid (HALL.out w8 hb8)
              clear hb8 kV kB HALL HSA HF8 hV
              go_wp2_with fail
              refine HA9.out.mono ?_
              rintro e w9 ⟨v9, T9, rfl, hp9, _, hsl9, hb9⟩
              obtain ⟨a9, c9, rfl⟩ := hsl9.form
              have h69 : ¬ ((6 : Int) < (T9.length : Int)) := by rw [hp9.length_eq]; omega
              have HF9 := hid (HF8'.out.new hb9)
              clear hp9 hsl9 hb9 HA9 HF8'
              go_wp2
              go_roundw
              case rel => exact ⟨k + 1, LL, want, _, true, by omega, by go_num, rfl, HF9, HTW, HWW⟩
              case measure => simp [intOf]; omega
      · by_cases hd1 : d = 1
        · subst hd1
          have HDR := hid (cdrop_any sb mb E3 f3 L S3 s w3 HC.out (by have := HRA.out.2.1; unfold maxLen; exact this))
          clear hd0
          go_wp2_with fail
          refine HDR.out.mono ?_
          rintro e w4 ⟨rfl, ⟨E4, f4, hc4⟩, hk4⟩
          have HF4 : Hid (FM w w4 sb mb wb (dropT L s) want ds) := hid (HF3.out.mv hk4 hc4 HS.out)
          have hs4 := hk4.size
          have HC4 := hid ((hk4.block wr.heap.size hzU3 (by omega)).trans HC3.out)
          have k4 := cells5f HC4.out
          clear hc4 hk4 HDR k3 HC HS
          by_cases hsn : s = nm
          · have hnm1 : ((str8 s).toList == (str8 nm).toList) = true := by rw [hsn]; simp
            obtain ⟨LL, HFW, HTW, HWW⟩ : ∃ LL, Hid (FM w w4 sb mb wb LL want ds) ∧ Hid (Is LL nm false) ∧ Hid (Wt LL nm false want) := ⟨_, HF4, hid (by rw [hsn]; exact gone), hid (fun h => by cases h)⟩
            obtain ⟨q, hqq⟩ : ∃ q : Int, (if s ∈ L.map Tb.nm then (0 : Int) else 11) = q := ⟨_, rfl⟩
            have hqb : q = if b = true then 0 else 11 := by
              have := HTH.out
              unfold Is at this
              rw [← hqq, ← this, hsn]
              by_cases h : nm ∈ L.map Tb.nm <;> simp [h]
            rw [hqq]
            clear hqq hsn HTH HWT HF4
            cases b
            · rw [if_neg (by simp)] at hqb
              subst hqb
              obtain ⟨E6, f6, S6, hc6, _⟩ := HFW.out.cat
              have h66 := hc6.six
              have HFI := hid (cfind_any sb mb E6 f6 LL S6 nm w4 hc6 HN.out)
              rw [show decide (nm ∈ LL.map Tb.nm) = false from HTW.out] at HFI
              obtain ⟨x1, x2, x3, hdd, _⟩ := id HFW.out.tb
              subst hdd
              clear hc6
              go_wp2_with fail
              refine HFI.out.mono ?_
              rintro e w7 ⟨d7, rfl, ho7, hb7⟩
              have HF7 := hid (HFW.out.new hb7)
              obtain ⟨ft, hft⟩ : ∃ ft, findT LL nm = ft := ⟨_, rfl⟩
              have HWF : Hid (false = true → ft = want) := hid (fun h => hft ▸ HWW.out h)
              rw [hft] at ho7
              have HO7 := hid ho7
              obtain ⟨a7, n7, c7, rfl, _⟩ := ho7
              obtain ⟨V, hV, hbV, hzV, hcV⟩ := box8 w7 (.cells #[.string (str8 ft.nm), .slice a7 n7 c7, .int .i64 ft.pr] 31)
              have kV := cells3f hcV
              have HF8 := hid (HF7.out.new hbV)
              have kB := cells3f HF8.out.box
              have HSA := hid (sameTab_any _ _ ft want _ _ V (HO7.out.e.on hbV) HF8.out.tb)
              obtain ⟨E8, f8, S8, hc8, _⟩ := HF8.out.cat
              have HALL := hid (fun Z (hZ : Below V.heap.size V Z) => call_any sb mb E8 f8 LL S8 Z (hc8.new hZ))
              clear hc8 hb7 hbV hcV hft HFI HO7 HF7
              go_wp2_with fail
              try rw [hV]
              refine (HALL.out V (Below.refl _ _)).mono ?_
              rintro e w9 ⟨v9, T9, rfl, hp9, _, hsl9, hb9⟩
              obtain ⟨a9, c9, rfl⟩ := hsl9.form
              have h69 : ¬ ((6 : Int) < (T9.length : Int)) := by rw [hp9.length_eq]; omega
              have HF9 := hid (HF8.out.new hb9)
              clear hp9 hsl9 hb9 kV kB HALL HSA HF8 hV
              go_wp2
              go_roundw
              case rel => exact ⟨k + 1, LL, want, _, false, by omega, by go_num, rfl, HF9, HTW, HWW⟩
              case measure => simp [intOf]; omega
            · rw [if_pos rfl] at hqb
              subst hqb
              obtain ⟨E6, f6, S6, hc6, _⟩ := HFW.out.cat
              have h66 := hc6.six
              have HFI := hid (cfind_any sb mb E6 f6 LL S6 nm w4 hc6 HN.out)
              rw [show decide (nm ∈ LL.map Tb.nm) = false from HTW.out] at HFI
              obtain ⟨x1, x2, x3, hdd, _⟩ := id HFW.out.tb
              subst hdd
              clear hc6
              go_wp2_with fail
              refine HFI.out.mono ?_
              rintro e w7 ⟨d7, rfl, ho7, hb7⟩
              have HF7 := hid (HFW.out.new hb7)
              obtain ⟨ft, hft⟩ : ∃ ft, findT LL nm = ft := ⟨_, rfl⟩
              have HWF : Hid (false = true → ft = want) := hid (fun h => hft ▸ HWW.out h)
              rw [hft] at ho7
              have HO7 := hid ho7
              obtain ⟨a7, n7, c7, rfl, _⟩ := ho7
              obtain ⟨V, hV, hbV, hzV, hcV⟩ := box8 w7 (.cells #[.string (str8 ft.nm), .slice a7 n7 c7, .int .i64 ft.pr] 31)
              have kV := cells3f hcV
              have HF8 := hid (HF7.out.new hbV)
              have kB := cells3f HF8.out.box
              have HSA := hid (sameTab_any _ _ ft want _ _ V (HO7.out.e.on hbV) HF8.out.tb)
              obtain ⟨E8, f8, S8, hc8, _⟩ := HF8.out.cat
              have HALL := hid (fun Z (hZ : Below V.heap.size V Z) => call_any sb mb E8 f8 LL S8 Z (hc8.new hZ))
              clear hc8 hb7 hbV hcV hft HFI HO7 HF7
              go_wp2_with fail
              try rw [hV]
              refine (HALL.out V (Below.refl _ _)).mono ?_
              rintro e w9 ⟨v9, T9, rfl, hp9, _, hsl9, hb9⟩
              obtain ⟨a9, c9, rfl⟩ := hsl9.form
              have h69 : ¬ ((6 : Int) < (T9.length : Int)) := by rw [hp9.length_eq]; omega
              have HF9 := hid (HF8.out.new hb9)
              clear hp9 hsl9 hb9 kV kB HALL HSA HF8 hV
              go_wp2
              go_roundw
              case rel => exact ⟨k + 1, LL, want, _, false, by omega, by go_num, rfl, HF9, HTW, HWW⟩
              case measure => simp [intOf]; omega
          · have hnm1 : ((str8 s).toList == (str8 nm).toList) = false := by
              rw [str8_toList, str8_toList]
              simp [hsn]
            have hfk := find_drop (L := L) hsn
            obtain ⟨LL, HFW, HTW, HWW⟩ : ∃ LL, Hid (FM w w4 sb mb wb LL want ds) ∧ Hid (Is LL nm b) ∧ Hid (Wt LL nm b want) := ⟨_, HF4, hid (hfk.1.trans HTH.out), hid (fun hb => hfk.2.trans (HWT.out hb))⟩
            obtain ⟨q, hqq⟩ : ∃ q : Int, (if s ∈ L.map Tb.nm then (0 : Int) else 11) = q := ⟨_, rfl⟩
            rw [hqq]
            clear hqq hsn HTH HWT HF4 hfk
            obtain ⟨E6, f6, S6, hc6, _⟩ := HFW.out.cat
            have h66 := hc6.six
            have HFI := hid (cfind_any sb mb E6 f6 LL S6 nm w4 hc6 HN.out)
            rw [show decide (nm ∈ LL.map Tb.nm) = b from HTW.out] at HFI
            obtain ⟨x1, x2, x3, hdd, _⟩ := id HFW.out.tb
            subst hdd
            clear hc6
            go_wp2_with fail
            refine HFI.out.mono ?_
            rintro e w7 ⟨d7, rfl, ho7, hb7⟩
            have HF7 := hid (HFW.out.new hb7)
            obtain ⟨ft, hft⟩ : ∃ ft, findT LL nm = ft := ⟨_, rfl⟩
            have HWF : Hid (b = true → ft = want) := hid (fun h => hft ▸ HWW.out h)
            rw [hft] at ho7
            have HO7 := hid ho7
            obtain ⟨a7, n7, c7, rfl, _⟩ := ho7
            obtain ⟨V, hV, hbV, hzV, hcV⟩ := box8 w7 (.cells #[.string (str8 ft.nm), .slice a7 n7 c7, .int .i64 ft.pr] 31)
            have kV := cells3f hcV
            have HF8 := hid (HF7.out.new hbV)
            have kB := cells3f HF8.out.box
            have HSA := hid (sameTab_any _ _ ft want _ _ V (HO7.out.e.on hbV) HF8.out.tb)
            obtain ⟨E8, f8, S8, hc8, _⟩ := HF8.out.cat
            have HALL := hid (fun Z (hZ : Below V.heap.size V Z) => call_any sb mb E8 f8 LL S8 Z (hc8.new hZ))
            clear hc8 hb7 hbV hcV hft HFI HO7 HF7
            cases b
            · go_wp2_with fail
              try rw [hV]
              refine (HALL.out V (Below.refl _ _)).mono ?_
              rintro e w9 ⟨v9, T9, rfl, hp9, _, hsl9, hb9⟩
              obtain ⟨a9, c9, rfl⟩ := hsl9.form
              have h69 : ¬ ((6 : Int) < (T9.length : Int)) := by rw [hp9.length_eq]; omega
              have HF9 := hid (HF8.out.new hb9)
              clear hp9 hsl9 hb9 kV kB HALL HSA HF8 hV
              go_wp2
              go_roundw
              case rel => exact ⟨k + 1, LL, want, _, false, by omega, by go_num, rfl, HF9, HTW, HWW⟩
              case measure => simp [intOf]; omega
            · rw [(sameT_iff ft want).2 (HWF.out rfl)] at HSA
              go_wp2_with fail
              try rw [hV]
              refine HSA.out.mono ?_
              rintro e w8 ⟨rfl, hb8⟩
              have HF8' := hid (HF8.out.new hb8)
              have HA9 := hid (HALL.out w8 hb8)
              clear hb8 kV kB HALL HSA HF8 hV
              go_wp2_with fail
              refine HA9.out.mono ?_
              rintro e w9 ⟨v9, T9, rfl, hp9, _, hsl9, hb9⟩
              obtain ⟨a9, c9, rfl⟩ := hsl9.form
              have h69 : ¬ ((6 : Int) < (T9.length : Int)) := by rw [hp9.length_eq]; omega
              have HF9 := hid (HF8'.out.new hb9)
              clear hp9 hsl9 hb9 HA9 HF8'
              go_wp2
              go_roundw
              case rel => exact ⟨k + 1, LL, want, _, true, by omega, by go_num, rfl, HF9, HTW, HWW⟩
              case measure => simp [intOf]; omega
        · obtain ⟨LL, HFW, HTW, HWW⟩ : ∃ LL, Hid (FM w w3 sb mb wb LL want ds) ∧ Hid (Is LL nm b) ∧ Hid (Wt LL nm b want) := ⟨_, HF3, HTH, HWT⟩
          clear HTH HWT HC HS
          obtain ⟨E6, f6, S6, hc6, _⟩ := HFW.out.cat
          have h66 := hc6.six
          have HFI := hid (cfind_any sb mb E6 f6 LL S6 nm w3 hc6 HN.out)
          rw [show decide (nm ∈ LL.map Tb.nm) = b from HTW.out] at HFI
          obtain ⟨x1, x2, x3, hdd, _⟩ := id HFW.out.tb
          subst hdd
          clear hc6
          go_wp2_with fail
          refine HFI.out.mono ?_
          rintro e w7 ⟨d7, rfl, ho7, hb7⟩
          have HF7 := hid (HFW.out.new hb7)
          obtain ⟨ft, hft⟩ : ∃ ft, findT LL nm = ft := ⟨_, rfl⟩
          have HWF : Hid (b = true → ft = want) := hid (fun h => hft ▸ HWW.out h)
          rw [hft] at ho7
          have HO7 := hid ho7
          obtain ⟨a7, n7, c7, rfl, _⟩ := ho7
          obtain ⟨V, hV, hbV, hzV, hcV⟩ := box8 w7 (.cells #[.string (str8 ft.nm), .slice a7 n7 c7, .int .i64 ft.pr] 31)
          have kV := cells3f hcV
          have HF8 := hid (HF7.out.new hbV)
          have kB := cells3f HF8.out.box
          have HSA := hid (sameTab_any _ _ ft want _ _ V (HO7.out.e.on hbV) HF8.out.tb)
          obtain ⟨E8, f8, S8, hc8, _⟩ := HF8.out.cat
          have HALL := hid (fun Z (hZ : Below V.heap.size V Z) => call_any sb mb E8 f8 LL S8 Z (hc8.new hZ))
          clear hc8 hb7 hbV hcV hft HFI HO7 HF7
          cases b
          · go_wp2_with fail
            try rw [hV]
            refine (HALL.out V (Below.refl _ _)).mono ?_
            rintro e w9 ⟨v9, T9, rfl, hp9, _, hsl9, hb9⟩
            obtain ⟨a9, c9, rfl⟩ := hsl9.form
            have h69 : ¬ ((6 : Int) < (T9.length : Int)) := by rw [hp9.length_eq]; omega
            have HF9 := hid (HF8.out.new hb9)
            clear hp9 hsl9 hb9 kV kB HALL HSA HF8 hV
            go_wp2
            go_roundw
            case rel => exact ⟨k + 1, LL, want, _, false, by omega, by go_num, rfl, HF9, HTW, HWW⟩
            case measure => simp [intOf]; omega
          · rw [(sameT_iff ft want).2 (HWF.out rfl)] at HSA
            go_wp2_with fail
            try rw [hV]
            refine HSA.out.mono ?_
            rintro e w8 ⟨rfl, hb8⟩
            have HF8' := hid (HF8.out.new hb8)
            have HA9 := hid (HALL.out w8 hb8)
            clear hb8 kV kB HALL HSA HF8 hV
            go_wp2_with fail
            refine HA9.out.mono ?_
            rintro e w9 ⟨v9, T9, rfl, hp9, _, hsl9, hb9⟩
            obtain ⟨a9, c9, rfl⟩ := hsl9.form
            have h69 : ¬ ((6 : Int) < (T9.length : Int)) := by rw [hp9.length_eq]; omega
            have HF9 := hid (HF8'.out.new hb9)
            clear hp9 hsl9 hb9 HA9 HF8'
            go_wp2
            go_roundw
            case rel => exact ⟨k + 1, LL, want, _, true, by omega, by go_num, rfl, HF9, HTW, HWW⟩
            case measure => simp [intOf]; omega
    · have hend : ¬ ((k : Int) < (l.length : Int)) ∨ ((k : Int) < (l.length : Int) ∧ ¬ ((k : Int) < 40)) := by omega
      obtain ⟨E6, f6, S6, hc6, _⟩ := HF.out.cat
      have HFI := hid (cfind_any sb mb E6 f6 L S6 nm wr hc6 HN.out)
      rw [show decide (nm ∈ L.map Tb.nm) = b from HTH.out] at HFI
      clear hc6 hlt HTH HWT
      rcases hend with hend | ⟨hend, hend2⟩
      · go_wp2_with fail
        refine HFI.out.mono ?_
        rintro e w7 ⟨d7, rfl, ho7, hb7⟩
        have HF7 := hid (HF.out.new hb7)
        obtain ⟨ft, hft⟩ : ∃ ft, findT L nm = ft := ⟨_, rfl⟩
        rw [hft] at ho7
        obtain ⟨a7, n7, c7, rfl, _⟩ := ho7
        obtain ⟨V, hV, hbV, hzV, hcV⟩ := box8 w7 (.cells #[.string (str8 ft.nm), .slice a7 n7 c7, .int .i64 ft.pr] 31)
        have HF8 := hid (HF7.out.new hbV)
        clear hb7 hbV hcV hft HFI HF7
        cases b
        · go_wp2
          go_ret
          try rw [hV]
          exact ⟨rfl, HF8.out.below⟩
        · go_wp2
          go_ret
          try rw [hV]
          exact ⟨rfl, HF8.out.below⟩
      · go_wp2_with fail
        refine HFI.out.mono ?_
        rintro e w7 ⟨d7, rfl, ho7, hb7⟩
        have HF7 := hid (HF.out.new hb7)
        obtain ⟨ft, hft⟩ : ∃ ft, findT L nm = ft := ⟨_, rfl⟩
        rw [hft] at ho7
        obtain ⟨a7, n7, c7, rfl, _⟩ := ho7
        obtain ⟨V, hV, hbV, hzV, hcV⟩ := box8 w7 (.cells #[.string (str8 ft.nm), .slice a7 n7 c7, .int .i64 ft.pr] 31)
        have HF8 := hid (HF7.out.new hbV)
        clear hb7 hbV hcV hft HFI HF7
        cases b
        · go_wp2
          go_ret
          try rw [hV]
          exact ⟨rfl, HF8.out.below⟩
        · go_wp2
          go_ret
          try rw [hV]
          exact ⟨rfl, HF8.out.below⟩
end Go.Proofs.YtaaggohjmhifbaaGreatDoor
