/- Contracts of part, values, set, column, moreColumns. -/
import Derived.Test.YtokfphfgcjbpkaaGreatDoorPList
namespace Go.Proofs.YtokfphfgcjbpkaaGreatDoor
open Go.RowKit Go.Shelf
set_option linter.unusedVariables false
set_option linter.unusedSimpArgs false
set_option maxRecDepth 20000

theorem musts_one (t : List UInt8) (r : Rd) : (mustsP [t] r).2 = (mustP t r).2 := rfl

theorem part_no {read : Pa Ex} {t : List UInt8} {l : List (List UInt8)} {r : Rd} (h : isR t r = false) : partP read t l r = ([], r) := by
  unfold partP ifP
  rw [if_neg (by rw [h]; exact Bool.false_ne_true)]
  rfl

theorem part_yes {read : Pa Ex} {t : List UInt8} {l : List (List UInt8)} {r : Rd} (h : isR t r = true) : partP read t l r = ([(read (mustsP l (nextR r)).2).1], (read (mustsP l (nextR r)).2).2) := by
  unfold partP ifP
  rw [if_pos h]
  rfl

set_option maxHeartbeats 1000000 in
theorem part_any (F fr : Nat) (p : Pa Ex) (hp : RdsE F D0 fr p) (eg : ∀ args w, (callFunc fr args).run Tryz.prog w = .ok (.enter fr args) w) (t : List UInt8) (l : List (List UInt8)) (g : Nat) (r : Rd) (w : World) (h : RdAt F w g r) (hD : D0 r) (v : Value) (hv : StrsG g w v l) :
    Calls Tryz.prog 54 #[.pointer (some ⟨g, 0, none⟩), .func (.func fr) #[.pointer (some ⟨g, 0, none⟩)] #[], .string (str8 t), v] w fun e w' => ∃ (aa : Option Addr) (nn cc : Nat), e = .returned (.slice aa nn cc) ∧ ArgsAt (fun b => w.heap.size ≤ b) w' (partP p t l r).1 (.slice aa nn cc) ∧ RdAt F w' g (partP p t l r).2 ∧ Fr g w w' := by
  have HV := hid hv
  have hgw := h.lt
  cases hi : isR t r with
  | false =>
    rw [part_no hi]
    have HS := hid (skip_no F g r w h t hi)
    clear h hp hv hi
    go_enter Tryz.func54, Tryz.ntmps54
    go_wp2_with fail
    refine HS.out.mono ?_
    rintro e w1 ⟨rfl, hr1, hf1⟩
    have HR1 := hid hr1
    have HF1 := hid hf1
    clear hr1 hf1 HS
    go_wp2
    exact bodyPost_ret (v := .slice none 0 0) (by simp [results, Tryz.results54, go_sem]) rfl ⟨none, 0, 0, rfl, .nil _ _ (by unfold maxLen; omega), HR1.out, HF1.out⟩
  | true =>
    rw [part_yes hi]
    have HS := hid (skip_yes F g r w h t hi)
    have hG1 := h.good.next (is_ok hi) (kind6 hi)
    have hD1 : D0 (nextR r) := hD
    have hD2 := hD1.after (nice_musts (b := false) l) hG1
    have HM := hid (fun V (hV : RdAt F V g (nextR r)) (hs : StrsG g V v l) => must_any F g (nextR r) V hV v l hs)
    obtain ⟨r2, hr2e⟩ : ∃ x, (mustsP l (nextR r)).2 = x := ⟨_, rfl⟩
    rw [hr2e] at HM hD2 ⊢
    have HP := hid (fun V (hV : RdAt F V g r2) => hp g r2 V hV hD2)
    dsimp only
    generalize (p r2).1 = y1 at HP ⊢
    generalize (p r2).2 = y2 at HP ⊢
    clear h hp hv hi hG1 hD1 hD2 hr2e hD
    go_enter Tryz.func54, Tryz.ntmps54
    go_wp2_with fail
    refine HS.out.mono ?_
    rintro e w1 ⟨rfl, hr1, hf1⟩
    have hz1 := hf1.size
    have HF1 := hid hf1
    have HM1 := hid (HM.out w1 hr1 (HV.out.keeps hf1 (fun i hi e => by omega)))
    clear hr1 hf1 HS HM
    go_wp2_with fail
    refine HM1.out.mono ?_
    rintro e w2 ⟨rfl, hr2, hf2⟩
    have hz2 := hf2.size
    have HF2 := hid (HF1.out.then hf2)
    have HP2 := hid (HP.out w2 hr2)
    clear hr2 hf2 HM1 HP
    go_wp2_with fail
    refine HP2.out.mono ?_
    rintro e w3 ⟨u, rfl, hu, hr3, hf3⟩
    obtain ⟨k3, op3, tb3, nm3, vk3, vn3, vs3, ys3, aa3, nn3, cc3, hxe, rfl, ha3⟩ := hu
    have hz3 := hf3.size
    have HR3 := hid hr3
    have HF3 := hid (HF2.out.then hf3)
    have HA3 := hid ha3
    have HXE := hid hxe
    clear hr3 hf3 HP2 ha3 hxe
    go_wp2
    obtain ⟨U, hU, hbU, hzU, hcU⟩ := box8 w3 (.cells #[.int .i64 k3, .int .i64 op3, .string (str8 tb3), .string (str8 nm3), .int .i64 vk3, .int .i64 vn3, .string (str8 vs3), .slice aa3 nn3 cc3] 40)
    rw [hU]
    refine bodyPost_ret (v := .slice (some ⟨w3.heap.size, 0, none⟩) 1 1) (by simp [results, Tryz.results54, go_sem]) rfl ⟨_, 1, 1, rfl, ?_, HR3.out.below hbU, HF3.out.thenNew hbU⟩
    rw [HXE.out]
    exact args_one (show w.heap.size ≤ w3.heap.size by omega) hcU (HA3.out.to (R := fun _ => False) (Spares.of_new hbU) (fun b hb _ => ⟨id, by have : w2.heap.size ≤ b := hb; omega⟩))

theorem lit_X (F : Nat) : RdsX F VlE 127 litP := fun g r w h _ => by
  refine (lit_any F g r w h).mono ?_
  rintro e w' ⟨rfl, h1, h2⟩
  exact ⟨_, rfl, rfl, h1, h2⟩

theorem comma_B (F : Nat) : RdsB F 95 commaP := fun g r w h => comma_any F g r w h
theorem semi_B (F : Nat) : RdsB F 25 semiP := fun g r w h => semi_any F g r w h

theorem values_eq (r : Rd) : valuesP r = ((listL litP commaP 8 [] (mustsP [[40]] r).2).1, (mustsP [[41]] (listL litP commaP 8 [] (mustsP [[40]] r).2).2).2) := by
  simp only [musts_one]
  rfl

set_option maxHeartbeats 1000000 in
theorem values_any (F : Nat) : RdsV F 94 valuesP := fun g r w h hD => by
  rw [values_eq]
  have hgw := h.lt
  have HRw := hid h
  have hD1 := hD.after (nice_musts (b := false) [[40]]) h.good
  have HM : Hid (∀ V, RdAt F V g r → Calls Tryz.prog 50 #[.pointer (some ⟨g, 0, none⟩), .slice (some ⟨V.heap.size, 0, none⟩) 1 1] (V.alloc (.cells #[.string ⟨#[40]⟩] 9)) fun e w' => e = .returned (.tuple #[]) ∧ RdAt F w' g (mustsP [[40]] r).2 ∧ Fr g V w') := hid (fun V hV => must_new F g r [[40]] (by decide) V hV)
  obtain ⟨r1, hr1e⟩ : ∃ x, (mustsP [[40]] r).2 = x := ⟨_, rfl⟩
  rw [hr1e] at HM hD1 ⊢
  have HL : Hid (∀ V, RdAt F V g r1 → Calls Tryz.prog 126 #[.pointer (some ⟨g, 0, none⟩), .int .i64 8, .func (.func 127) #[.pointer (some ⟨g, 0, none⟩)] #[], .func (.func 95) #[.pointer (some ⟨g, 0, none⟩)] #[]] V fun e w' => ∃ (aa : Option Addr) (nn cc : Nat), e = .returned (.slice aa nn cc) ∧ SlAt 3 VlE (fun b => V.heap.size ≤ b) w' (listL litP commaP 8 [] r1).1 (.slice aa nn cc) ∧ RdAt F w' g (listL litP commaP 8 [] r1).2 ∧ Fr g V w') :=
    hid (fun V hV => listVl_any F _ _ litP commaP (lit_X F) (comma_B F) nice_lit nice_comma (enters_of Tryz.func127 (by kernel_rfl) rfl) (enters_of Tryz.func95 (by kernel_rfl) rfl) 8 (by decide) g r1 V hV hD1)
  dsimp only
  generalize (listL litP commaP 8 [] r1).1 = l1 at HL ⊢
  generalize (listL litP commaP 8 [] r1).2 = r2 at HL ⊢
  have HN : Hid (∀ V, RdAt F V g r2 → Calls Tryz.prog 50 #[.pointer (some ⟨g, 0, none⟩), .slice (some ⟨V.heap.size, 0, none⟩) 1 1] (V.alloc (.cells #[.string ⟨#[41]⟩] 9)) fun e w' => e = .returned (.tuple #[]) ∧ RdAt F w' g (mustsP [[41]] r2).2 ∧ Fr g V w') := hid (fun V hV => must_new F g r2 [[41]] (by decide) V hV)
  generalize (mustsP [[41]] r2).2 = r3 at HN ⊢
  clear h hD hD1 hr1e
  go_enter Tryz.func94, Tryz.ntmps94
  go_wp2_with fail
  refine (HM.out w HRw.out).mono ?_
  rintro e w1 ⟨rfl, hr1, hf1⟩
  have hz1 := hf1.size
  have HR1 := hid hr1
  have HF1 := hid hf1
  clear hr1 hf1 HM
  go_wp2_with fail
  refine (HL.out w1 HR1.out).mono ?_
  rintro e w2 ⟨aa, nn, cc, rfl, hl2, hr2, hf2⟩
  have hz2 := hf2.size
  have HR2 := hid hr2
  have HF2 := hid (HF1.out.then hf2)
  have HL2 := hid hl2
  clear hr2 hf2 HL hl2
  go_wp2_with fail
  refine (HN.out w2 HR2.out).mono ?_
  rintro e w3 ⟨rfl, hr3, hf3⟩
  have HR3 := hid hr3
  have HF3 := hid (HF2.out.then hf3)
  have HL3 := hid (HL2.out.to (by decide) (T := fun b => w.heap.size ≤ b) hf3 (fun b hb _ => ⟨by omega, by omega⟩) (fun _ _ e => e))
  clear hr3 hf3 HN
  go_wp2
  exact bodyPost_ret (v := .slice aa nn cc) (by simp [results, Tryz.results94, go_sem]) rfl ⟨aa, nn, cc, rfl, HL3.out, HR3.out, HF3.out⟩

theorem values_nice {F : Nat} : Nice false F valuesP := nice_values

theorem set_eq (ex : Pa Ex) (r : Rd) : setP ex r = (⟨(nameP r).1, (ex (mustsP [[61]] (nameP r).2).2).1⟩, (ex (mustsP [[61]] (nameP r).2).2).2) := by
  simp only [musts_one]
  rfl

theorem Tryz.setInfo : (Tryz.prog.info? 66).map (·.size) = some 9 := by kernel_rfl

set_option maxHeartbeats 1000000 in
theorem set_any (F : Nat) (ex : Pa Ex) (hx : RdsE F D0 34 ex) : RdsX F SeE 97 (setP ex) := fun g r w h hD => by
  rw [set_eq]
  have hgw := h.lt
  obtain ⟨w0, hW, hbW, hzW, hcW⟩ := box8 w (.cells #[.string ⟨#[]⟩, .int .i64 0, .int .i64 0, .string ⟨#[]⟩, .string ⟨#[]⟩, .int .i64 0, .int .i64 0, .string ⟨#[]⟩, .slice none 0 0] 66)
  have HCW := hid hcW
  have HR0 := hid (h.below hbW)
  have HF0 := hid (Spares.of_new (S := fun k => k = g) hbW)
  have hD1 := hD.after (nice_name (b := false)) h.good
  have hG1 := (nice_name (b := false) (F := F)).fine r trivial h.good
  have HN := hid (fun V (hV : RdAt F V g r) => name_any F g r V hV)
  obtain ⟨n1, hn1⟩ : ∃ x, (nameP r).1 = x := ⟨_, rfl⟩
  obtain ⟨r1, hr1e⟩ : ∃ x, (nameP r).2 = x := ⟨_, rfl⟩
  rw [hn1, hr1e] at HN
  rw [hn1, hr1e]
  rw [hr1e] at hD1 hG1
  have hD2 := hD1.after (nice_musts (b := false) [[61]]) hG1.1
  have HM : Hid (∀ V, RdAt F V g r1 → Calls Tryz.prog 50 #[.pointer (some ⟨g, 0, none⟩), .slice (some ⟨V.heap.size, 0, none⟩) 1 1] (V.alloc (.cells #[.string ⟨#[61]⟩] 9)) fun e w' => e = .returned (.tuple #[]) ∧ RdAt F w' g (mustsP [[61]] r1).2 ∧ Fr g V w') := hid (fun V hV => must_new F g r1 [[61]] (by decide) V hV)
  obtain ⟨r2, hr2e⟩ : ∃ x, (mustsP [[61]] r1).2 = x := ⟨_, rfl⟩
  rw [hr2e] at HM hD2 ⊢
  have HX := hid (fun V (hV : RdAt F V g r2) => hx g r2 V hV hD2)
  dsimp only
  generalize (ex r2).1 = y1 at HX ⊢
  generalize (ex r2).2 = y2 at HX ⊢
  clear h hD hD1 hD2 hG1 hn1 hr1e hr2e hx hcW hbW
  go_enter Tryz.func97, Tryz.ntmps97
  go_wp2_with fail
  try rw [hW]
  clear hW
  refine (HN.out w0 HR0.out).mono ?_
  rintro e w1 ⟨rfl, hr1, hf1⟩
  have hz1 := hf1.size
  have HR1 := hid hr1
  have HF1 := hid (HF0.out.then hf1)
  have HB1 := hid ((hf1.block w.heap.size hzW (by omega)).trans HCW.out)
  clear hr1 hf1 HN
  go_wp2_with fail
  refine (HM.out w1 HR1.out).mono ?_
  rintro e w2 ⟨rfl, hr2, hf2⟩
  have hz2 := hf2.size
  have HR2 := hid hr2
  have HF2 := hid (HF1.out.then hf2)
  have HB2 := hid ((hf2.block w.heap.size (by omega) (by omega)).trans HB1.out)
  clear hr2 hf2 HM
  go_wp2_with fail
  refine (HX.out w2 HR2.out).mono ?_
  rintro e w3 ⟨u, rfl, hu, hr3, hf3⟩
  obtain ⟨k3, op3, tb3, nm3, vk3, vn3, vs3, ys3, aa3, nn3, cc3, hxe, rfl, ha3⟩ := hu
  have HXE := hid hxe
  have HA3 := hid ha3
  have hz3 := hf3.size
  have HR3 := hid hr3
  have HF3 := hid (HF2.out.then hf3)
  have HB3 := hid ((hf3.block w.heap.size (by omega) (by omega)).trans HB2.out)
  clear hr3 hf3 HX ha3 hxe
  have hall : (#[.string (str8 n1), .int .i64 k3, .int .i64 op3, .string (str8 tb3), .string (str8 nm3), .int .i64 vk3, .int .i64 vn3, .string (str8 vs3), .slice aa3 nn3 cc3] : Array Value).all (·.oneCell') = true := by simp [Value.oneCell']
  go_wp2_with (first
    | (refine wpList_store_row rfl 66 (.tmp 2) (.tmp 12) rfl w.heap.size #[.string (str8 n1), .int .i64 k3, .int .i64 op3, .string (str8 tb3), .string (str8 nm3), .int .i64 vk3, .int .i64 vn3, .string (str8 vs3), .slice aa3 nn3 cc3] rfl rfl 66 _ HB3.out Tryz.setInfo rfl hall ?_
       obtain ⟨Z, hZ, hZB, hZs, hZR, hZF⟩ := put_box (w := w) #[.string (str8 n1), .int .i64 k3, .int .i64 op3, .string (str8 tb3), .string (str8 nm3), .int .i64 vk3, .int .i64 vn3, .string (str8 vs3), .slice aa3 nn3 cc3] HB3.out (Nat.le_refl _) hgw HR3.out HF3.out
       rw [hZ]
       clear hZ)
    | fail)
  refine bodyPost_ret (v := .agg #[.string (str8 n1), .int .i64 k3, .int .i64 op3, .string (str8 tb3), .string (str8 nm3), .int .i64 vk3, .int .i64 vn3, .string (str8 vs3), .slice aa3 nn3 cc3]) (results_cell_row (d := .struct (Tryz.prog.fieldsOf 66)) Tryz.results97 _ _ w.heap.size 66 _ _ rfl hZB (by kernel_rfl) rfl Tryz.setInfo) rfl ⟨[.string (str8 n1), .int .i64 k3, .int .i64 op3, .string (str8 tb3), .string (str8 nm3), .int .i64 vk3, .int .i64 vn3, .string (str8 vs3), .slice aa3 nn3 cc3], rfl, ⟨k3, op3, tb3, nm3, vk3, vn3, vs3, ys3, aa3, nn3, cc3, HXE.out, rfl, ?_⟩, hZR, hZF⟩
  exact HA3.out.to hZs (fun b hb _ => ⟨by have : w2.heap.size ≤ b := hb; omega, by have : w2.heap.size ≤ b := hb; omega⟩)

end Go.Proofs.YtokfphfgcjbpkaaGreatDoor
