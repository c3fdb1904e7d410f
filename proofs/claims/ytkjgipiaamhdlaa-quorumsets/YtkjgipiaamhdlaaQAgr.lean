/- Contracts of strings.Clone and quorum.Agreed. -/
import Derived.Test.YtkjgipiaamhdlaaQSet
import Derived.Shelf.Pu.Clone
import Derived.Maps.OwnOps
namespace Go.Proofs.Ytkjgipiaamhdlaa
open Go.RowKit Go.Maps Go.Shelf
set_option linter.unusedVariables false
set_option maxRecDepth 20000

/-- The numbers of this seat for those of the library's contract. -/
def renC : Ren := ⟨fun x => if x = 25 then 33 else x, fun x => if x = 0 then 0 else if x = 3 then 3 else if x = 4 then 4 else if x = 5 then 5 else if x = 9 then 9 else if x = 37 then 44 else if x = 47 then 45 else x, fun x => x⟩

theorem laysC : LaysPu.n25 Try.prog renC where
  mixed := by kernel_rfl
  f25 := by kernel_rfl
  t0 := by kernel_rfl
  a0 := fun w => by kernel_rfl
  z0 := fun w => by kernel_rfl
  v0 := fun w => by kernel_rfl
  i0 := by kernel_rfl
  t3 := by kernel_rfl
  a3 := fun w => by kernel_rfl
  z3 := fun w => by kernel_rfl
  v3 := fun w => by kernel_rfl
  i3 := by kernel_rfl
  t4 := by kernel_rfl
  a4 := fun w => by kernel_rfl
  z4 := fun w => by kernel_rfl
  v4 := fun w => by kernel_rfl
  i4 := by kernel_rfl
  t5 := by kernel_rfl
  a5 := fun w => by kernel_rfl
  z5 := fun w => by kernel_rfl
  v5 := fun w => by kernel_rfl
  i5 := by kernel_rfl
  t9 := by kernel_rfl
  a9 := fun w => by kernel_rfl
  z9 := fun w => by kernel_rfl
  v9 := fun w => by kernel_rfl
  i9 := by kernel_rfl
  t37 := by kernel_rfl
  a37 := fun w => by kernel_rfl
  z37 := fun w => by kernel_rfl
  v37 := fun w => by kernel_rfl
  i37 := by kernel_rfl
  t47 := by kernel_rfl
  a47 := fun w => by kernel_rfl
  z47 := fun w => by kernel_rfl
  v47 := fun w => by kernel_rfl
  i47 := by kernel_rfl

set_option maxHeartbeats 1000000 in
theorem strClone_any (s : ByteArray) (w : World) (hs : s.size ≤ 140737488355328) : Calls Try.prog 32 #[.string s] w fun e w' => e = .returned (.string s) ∧ Below w.heap.size w w' := by
  have HC := hid (AnyPu.stringslite_Clone laysC s w (by omega))
  go_enter Try.func32, Try.ntmps32
  go_wp2_with fail
  refine HC.out.mono ?_
  rintro e w1 ⟨rfl, h1⟩
  go_wp2
  go_ret
  exact ⟨rfl, h1⟩

/-- Texts as cells. -/
def strC (ts : List (List UInt8)) : List Value := ts.map fun t => .string (str8 t)

theorem strC_len (ts : List (List UInt8)) : (strC ts).length = ts.length := by simp [strC]

theorem strC_at {ts : List (List UInt8)} {k : Nat} (hk : k < ts.length) : (strC ts)[k]? = some (.string (str8 ts[k])) := by simp [strC, hk]

/-- A slice of texts. -/
def Strs (B : Nat) (w : World) (v : Value) (ts : List (List UInt8)) : Prop := Cel B w v (strC ts) ∧ ∀ t ∈ ts, t.length ≤ 140737488355328

theorem Strs.below {B : Nat} {w w' : World} {v : Value} {ts : List (List UInt8)} (h : Strs B w v ts) (hb : Below B w w') : Strs B w' v ts := ⟨h.1.below hb, h.2⟩

theorem Strs.form {B : Nat} {w : World} {v : Value} {ts : List (List UInt8)} (h : Strs B w v ts) : ∃ a c, v = .slice a ts.length c ∧ ts.length ≤ c ∧ c ≤ maxLen := by
  have := h.1.form
  rwa [strC_len] at this

theorem Strs.at {B : Nat} {w : World} {a : Option Addr} {m c : Nat} {ts : List (List UInt8)} (h : Strs B w (.slice a m c) ts) (k : Nat) (hk : k < ts.length) :
    ∃ b off, a = some ⟨b, off, none⟩ ∧ m = ts.length ∧ ts.length ≤ c ∧ b < B ∧ w.cell? ⟨b, off + k, none⟩ = some (.string (str8 ts[k])) ∧ ts[k].length ≤ 140737488355328 := by
  obtain ⟨b, off, c', hv, h1, hlt, hc⟩ := h.1.at k _ (strC_at hk)
  simp only [Value.slice.injEq] at hv
  obtain ⟨rfl, h2, rfl⟩ := hv
  rw [strC_len] at h1 h2
  exact ⟨b, off, rfl, h2, h1, hlt, hc, h.2 _ (List.getElem_mem hk)⟩

theorem lawS : Keyed Try.prog 9 := string_keyed Try.underlying9

theorem Try.zeroInt (w : World) : (zeroValue 3).run Try.prog w = .ok (.int .i64 0) w := by kernel_rfl

/-- How often each text was said. -/
def Said (D : DataW Unit) (ts : List (List UInt8)) (k : Nat) : Prop :=
  IsMap D ∧ ∀ t : List UInt8, t ≠ [] → D.atKey (.string t) (.lit (.int .i64 0)) = .lit (.int .i64 ((ts.take k).count t : Int))

/-- What is agreed. -/
def agQ (n : Int) (ts : List (List UInt8)) : List UInt8 := agB Op.bytesLess (fewQ n) ts (min n.toNat ts.length)

theorem agB_mem (lt : List UInt8 → List UInt8 → Bool) (few : Int) (ts : List (List UInt8)) : ∀ k, agB lt few ts k = [] ∨ agB lt few ts k ∈ ts
  | 0 => .inl rfl
  | k + 1 => by
    rw [agB]
    split
    · rename_i h
      cases e : ts[k]? with
      | none => rw [e] at h; exact absurd rfl h.1
      | some x => exact .inr (List.mem_of_getElem? e)
    · exact agB_mem lt few ts k

theorem agB_short {ts : List (List UInt8)} (h : ∀ t ∈ ts, t.length ≤ 140737488355328) (few : Int) (k : Nat) : (agB Op.bytesLess few ts k).length ≤ 140737488355328 := by
  rcases agB_mem Op.bytesLess few ts k with e | e
  · rw [e]; simp
  · exact h _ e

theorem take_snoc {ts : List (List UInt8)} {k : Nat} {t : List UInt8} (h : ts[k]? = some t) : ts.take (k + 1) = ts.take k ++ [t] := by
  rw [List.take_add_one, h]
  rfl

theorem str8_toList (t : List UInt8) : (str8 t).toList = t := by rw [ByteArray.toList_eq, str8_list]

theorem Said.start (ts : List (List UInt8)) : Said (.map []) ts 0 := ⟨⟨[], rfl⟩, fun t _ => by simp; rfl⟩

theorem Said.skip {D : DataW Unit} {ts : List (List UInt8)} {k : Nat} (h : Said D ts k) (ht : ts[k]? = some []) : Said D ts (k + 1) :=
  ⟨h.1, fun t hne => by
    rw [h.2 t hne, take_snoc ht, List.count_append]
    have : List.count t [([] : List UInt8)] = 0 := by
      rw [List.count_eq_zero]
      simpa using hne
    rw [this]
    rfl⟩

theorem Said.more {D : DataW Unit} {ts : List (List UInt8)} {k : Nat} {t : List UInt8} (h : Said D ts k) (ht : ts[k]? = some t) (hl : t.length ≤ maxLen) : Said (D.put (.string t) (.lit (.int .i64 (((ts.take k).count t : Int) + 1)))) ts (k + 1) :=
  ⟨h.1.put _ _, fun t' hne => by
    by_cases e : t' = t
    · subst e
      rw [atKey_put_same h.1 (by trivial), take_snoc ht, List.count_append]
      simp
    · rw [atKey_put_other (by intro e2; cases e2; exact e rfl), h.2 t' hne, take_snoc ht, List.count_append]
      have : List.count t' [t] = 0 := by
        rw [List.count_eq_zero]
        simpa using e
      rw [this]
      rfl⟩

theorem agB_step {ts : List (List UInt8)} {k : Nat} {t : List UInt8} (ht : ts[k]? = some t) (lt : List UInt8 → List UInt8 → Bool) (few : Int) :
    agB lt few ts (k + 1) = if t ≠ [] ∧ few ≤ ((ts.take k).count t : Int) + 1 ∧ (agB lt few ts k = [] ∨ lt t (agB lt few ts k) = true) then t else agB lt few ts k := by
  have e : ((ts.take (k + 1)).count t : Int) = ((ts.take k).count t : Int) + 1 := by
    rw [take_snoc ht, List.count_append]
    simp
  rw [agB, ht]
  simp only [Option.getD_some]
  rw [e]

/-- One key of the map: looked up, raised, looked up again. -/
theorem said_ops {w : World} {mb k : Nat} {D : DataW Unit} {ts : List (List UInt8)} {t : List UInt8} (hmap : w.ownsMap Try.prog 9 (plainElem Try.prog 3) mb k D) (HD : Said D ts k) (hk : k < ts.length) (hkm : ts.length ≤ maxLen) (ht : ts[k]? = some t) (hne : t ≠ []) (hl : t.length ≤ 140737488355328) :
    ∃ w2, (Instr.lookup 42 (.map (some mb)) (.string (str8 t)) false).run Try.prog w = .ok (.int .i64 ((ts.take k).count t : Int)) w ∧
      (Instr.mapUpdate 42 (.map (some mb)) (.string (str8 t)) (.int .i64 (((ts.take k).count t : Int) + 1))).run Try.prog w = .ok () w2 ∧
      (Instr.lookup 42 (.map (some mb)) (.string (str8 t)) false).run Try.prog w2 = .ok (.int .i64 (((ts.take k).count t : Int) + 1)) w2 ∧
      w2.ownsMap Try.prog 9 (plainElem Try.prog 3) mb (k + 1) (D.put (.string t) (.lit (.int .i64 (((ts.take k).count t : Int) + 1)))) ∧ w.grownBy w2 (some mb) := by
  have hm : t.length ≤ maxLen := by unfold maxLen; omega
  have hq : (ts.take k).count t ≤ k := by
    have := List.count_le_length (a := t) (l := ts.take k)
    simp at this
    omega
  have hkey : keyOf Try.prog 9 (.string (str8 t)) = some (.string t) := by
    have := WideMaps.keyOf_string_mk (P := Try.prog) Try.underlying9 (s := str8 t) (by rw [str8_size]; exact hm)
    rwa [str8_list] at this
  have hwf : (Lit.int .i64 (((ts.take k).count t : Int) + 1)).wf = true := I64.wf (by unfold I64; unfold maxLen at hkm; omega)
  obtain ⟨c, hrun, hat, _⟩ := hmap.lookup_int lawS Try.underlying42 Try.underlying3 (Try.zeroInt w) hkey
  rw [HD.2 t hne] at hat
  simp only [DataW.lit.injEq, Lit.int.injEq, true_and] at hat
  subst hat
  obtain ⟨w2, hup, hown2, hg2⟩ := hmap.update lawS Try.underlying42 (by omega) hkey (plainElem_int Try.underlying3 hwf)
  obtain ⟨c, hrun2, hat2, _⟩ := hown2.lookup_int lawS Try.underlying42 Try.underlying3 (Try.zeroInt w2) hkey
  rw [atKey_put_same HD.1 (by trivial)] at hat2
  simp only [DataW.lit.injEq, Lit.int.injEq, true_and] at hat2
  subst hat2
  exact ⟨w2, hrun, hup, hrun2, hown2, hg2⟩

set_option maxHeartbeats 2000000 in
theorem agreed_any (B : Nat) (n : Int) (v : Value) (ts : List (List UInt8)) (w : World) (hn : I64 n) (hB : B ≤ w.heap.size) (hL : Strs B w v ts) :
    Calls Try.prog 28 #[.int .i64 n, v] w fun e w' => e = .returned (.tuple #[.string (str8 (agQ n ts)), .bool (!(agQ n ts).isEmpty)]) ∧ Below w.heap.size w w' := by
  obtain ⟨a, c, rfl, hc1, hc2⟩ := hL.form
  unfold maxLen at hc2
  have HL := hid hL
  have hf := fewQ_range n
  have HN := hid hn
  unfold I64 at hn
  clear hL
  have hmm := @run_makeMap Try.prog
  go_enter Try.func28, Try.ntmps28
  go_wp2_with (go_at_call 15; refine (few_any _ _ HN.out).mono ?_; rintro e w1 ⟨rfl, rfl⟩)
  go_loopw [8, 16] (fun g i wr => ∃ (k : Nat) (D : DataW Unit), k ≤ ts.length ∧ (k = 0 ∨ (k : Int) ≤ n) ∧ i = .int .i64 (k : Int) ∧ g = .string (str8 (agB Op.bytesLess (fewQ n) ts k)) ∧ Hid (wr.ownsMap Try.prog 9 (plainElem Try.prog 3) w1.heap.size k D) ∧ Hid (Said D ts k) ∧ Below w1.heap.size w1 wr) (fun _ i _ => ts.length - (intOf i).toNat)
  case atStart => exact ⟨0, .map [], by omega, .inl rfl, rfl, rfl, hid (World.ownsMap_made w1 Try.prog 9 _), hid (Said.start ts), (Below.refl _ _).alloc (Nat.le_refl _) _⟩
  case round =>
    obtain ⟨k, D, hk, hkn, rfl, rfl, HM, HD, hbel⟩ := hrel
    have hsz := hbel.size
    have HSH := hid (agB_short HL.out.2 (fewQ n) k)
    by_cases hlt : k < ts.length
    · obtain ⟨b, off, rfl, _, _, hbB, hcell, hlen⟩ := (HL.out.below (hbel.mono hB)).at k hlt
      have hltz : (k : Int) < (ts.length : Int) := by omega
      have HT := hid (List.getElem?_eq_getElem hlt)
      generalize ts[k] = t at *
      by_cases hnk : n ≤ (k : Int)
      · have HQ := hid (show agQ n ts = agB Op.bytesLess (fewQ n) ts k by unfold agQ; rw [show min n.toNat ts.length = k by omega])
        generalize agB Op.bytesLess (fewQ n) ts k = g at *
        have HG := hid (str8_toList g)
        go_wp2_with (go_at_call 32; refine (strClone_any _ _ (by rw [str8_size]; exact HSH.out)).mono ?_; rintro e w2 ⟨rfl, hb2⟩)
        go_ret2
        refine ⟨?_, hbel.trans (hb2.mono hsz)⟩
        rw [HQ.out]
        show Ending.returned (.tuple #[.string (str8 g), .bool (!(str8 g).toList.isEmpty)]) = _
        rw [HG.out]
      · have HP := hid (agB_step HT.out Op.bytesLess (fewQ n))
        by_cases hne : t = []
        · have HT2 := hid (show ts[k]? = some [] by rw [HT.out, hne])
          have hemp : (str8 t).toList.isEmpty = true := by rw [str8_toList, hne]; rfl
          have HP2 := hid (show agB Op.bytesLess (fewQ n) ts (k + 1) = agB Op.bytesLess (fewQ n) ts k by rw [HP.out, if_neg (fun h => h.1 hne)])
          clear hne
          go_wp2
          go_roundw
          case rel => exact ⟨k + 1, D, by omega, .inr (by omega), by go_num, by rw [HP2.out], hid (HM.out.mono (by omega)), hid (HD.out.skip HT2.out), hbel⟩
          case measure => simp only [intOf]; omega
        · have hemp : (str8 t).toList.isEmpty = false := by rw [str8_toList]; simpa using hne
          obtain ⟨w2, hrun, hup, hrun2, hown2, hg2⟩ := said_ops HM.out HD.out hlt (by unfold maxLen; omega) HT.out hne hlen
          have HO2 := hid hown2
          have hb2 : Below w1.heap.size w1 w2 := hbel.grown hg2 (by omega) (fun q hq => by cases hq; exact Nat.le_refl _)
          have HD2 := hid (HD.out.more HT.out (by unfold maxLen; omega))
          have hq : (ts.take k).count t ≤ k := by
            have := List.count_le_length (a := t) (l := ts.take k)
            simp at this
            omega
          have HNE := hid hne
          clear hown2 hg2 hne
          generalize (ts.take k).count t = q at *
          by_cases hfew : fewQ n ≤ (q : Int) + 1
          · by_cases hg0 : agB Op.bytesLess (fewQ n) ts k = []
            · have HP2 := hid (show agB Op.bytesLess (fewQ n) ts (k + 1) = t by rw [HP.out, if_pos ⟨HNE.out, hfew, .inl hg0⟩])
              have hge : (str8 (agB Op.bytesLess (fewQ n) ts k)).toList.isEmpty = true := by rw [str8_toList, hg0]; rfl
              clear hg0
              generalize agB Op.bytesLess (fewQ n) ts k = g at *
              go_wp2
              go_roundw
              case rel => exact ⟨k + 1, _, by omega, .inr (by omega), by go_num, by rw [HP2.out], HO2, HD2, hb2⟩
              case measure => simp only [intOf]; omega
            · have hge : (str8 (agB Op.bytesLess (fewQ n) ts k)).toList.isEmpty = false := by rw [str8_toList]; simpa using hg0
              by_cases hless : Op.bytesLess t (agB Op.bytesLess (fewQ n) ts k) = true
              · have HP2 := hid (show agB Op.bytesLess (fewQ n) ts (k + 1) = t by rw [HP.out, if_pos ⟨HNE.out, hfew, .inr hless⟩])
                have hl2 : Op.bytesLess (str8 t).toList (str8 (agB Op.bytesLess (fewQ n) ts k)).toList = true := by rw [str8_toList, str8_toList]; exact hless
                clear hg0 hless
                generalize agB Op.bytesLess (fewQ n) ts k = g at *
                go_wp2
                go_roundw
                case rel => exact ⟨k + 1, _, by omega, .inr (by omega), by go_num, by rw [HP2.out], HO2, HD2, hb2⟩
                case measure => simp only [intOf]; omega
              · have HP2 := hid (show agB Op.bytesLess (fewQ n) ts (k + 1) = agB Op.bytesLess (fewQ n) ts k by rw [HP.out, if_neg (fun h => h.2.2.elim hg0 hless)])
                have hl2 : Op.bytesLess (str8 t).toList (str8 (agB Op.bytesLess (fewQ n) ts k)).toList = false := by rw [str8_toList, str8_toList]; simpa using hless
                clear hg0 hless
                generalize agB Op.bytesLess (fewQ n) ts k = g at *
                go_wp2
                go_roundw
                case rel => exact ⟨k + 1, _, by omega, .inr (by omega), by go_num, by rw [HP2.out], HO2, HD2, hb2⟩
                case measure => simp only [intOf]; omega
          · have HP2 := hid (show agB Op.bytesLess (fewQ n) ts (k + 1) = agB Op.bytesLess (fewQ n) ts k by rw [HP.out, if_neg (fun h => hfew h.2.1)])
            generalize agB Op.bytesLess (fewQ n) ts k = g at *
            go_wp2
            go_roundw
            case rel => exact ⟨k + 1, _, by omega, .inr (by omega), by go_num, by rw [HP2.out], HO2, HD2, hb2⟩
            case measure => simp only [intOf]; omega
    · have HQ := hid (show agQ n ts = agB Op.bytesLess (fewQ n) ts k by unfold agQ; rw [show min n.toNat ts.length = k by omega])
      have hltz : ¬ (k : Int) < (ts.length : Int) := by omega
      generalize agB Op.bytesLess (fewQ n) ts k = g at *
      have HG := hid (str8_toList g)
      go_wp2_with (go_at_call 32; refine (strClone_any _ _ (by rw [str8_size]; exact HSH.out)).mono ?_; rintro e w2 ⟨rfl, hb2⟩)
      go_ret2
      refine ⟨?_, hbel.trans (hb2.mono hsz)⟩
      rw [HQ.out]
      show Ending.returned (.tuple #[.string (str8 g), .bool (!(str8 g).toList.isEmpty)]) = _
      rw [HG.out]
end Go.Proofs.Ytkjgipiaamhdlaa
