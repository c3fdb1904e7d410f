/- Contracts of the document's own Text and Of. -/
import Derived.Test.YtomfhihhhfelfaaDoorRefRD
import Derived.Test.YtomfhihhhfelfaaDoorRefRaw
import Derived.Test.YtomfhihhhfelfaaDoorOfD
namespace Go.Proofs.YtomfhihhhfelfaaDoor
open Go.RowKit
set_option linter.unusedVariables false

set_option maxHeartbeats 4000000 in
theorem refText_long (s : ByteArray) (v : Value) (w : World) (h : 16 < s.size) (hm : s.size ≤ maxLen) :
    Calls Tryd.prog 16 #[.string s, v] w fun e w' => e = .returned (.tuple #[.slice none 0 0, .int .i64 2]) ∧ w' = w := by
  unfold maxLen at hm
  go_enter Tryd.func16, Tryd.ntmps16
  go_wp2
  go_ret2
  exact ⟨rfl, rfl⟩

set_option maxHeartbeats 4000000 in
theorem refText_short (B : Nat) (s : ByteArray) (a : Option Addr) (c : Nat) (rows : List (List UInt8)) (w : World) (hs : s.size ≤ 16) (hB : B ≤ w.heap.size) (hL : Lists B w (.slice a rows.length c) rows) (hnl : a = none → c = 0) (hr : rows.length * 24 ≤ 140737488351232) :
    Calls Tryd.prog 16 #[.string s, .slice a rows.length c] w fun e w' => ∃ v', e = .returned (.tuple #[v', .int .i64 (rowOf (s.data.toList :: rows)).1]) ∧ w'.ownsRow w.heap.size 5 1 v' (rowOf (s.data.toList :: rows)).2.length ((rowOf (s.data.toList :: rows)).2.map by8) ∧ Below w.heap.size w w' := by
  obtain ⟨i0, hi, hz0, hz1, hz2⟩ := info_parts Tryd.infoRow
  obtain ⟨cn, wn, hcv, hshn, hbn, hszn, _⟩ := bytes_new s (by unfold maxLen; omega) w
  have h31 := World.ownsRow_lit (base := w.heap.size + 1) (e := 22) (size := 1) wn #[.slice (some ⟨w.heap.size, 0, none⟩) s.size cn] 1 (by omega) (by unfold maxLen; omega) rfl
  have hb1 : Below w.heap.size w (wn.alloc (.cells #[.slice (some ⟨w.heap.size, 0, none⟩) s.size cn] 22)) := hbn.alloc (by omega) _
  have hL1 := hL.below (hb1.mono hB)
  have hnl2 : ∀ l c', Value.slice a rows.length c = .slice none l c' → c' = 0 := fun l c' e => by
    simp only [Value.slice.injEq] at e
    rw [← e.2.2]
    exact hnl e.1
  have HSZ := hid hszn
  have HSN := hid hshn
  clear hszn hshn
  go_enter Tryd.func16, Tryd.ntmps16
  go_wp2_with (first
    | (at_builtin; refine wpList_append_lists _ rfl (.tmp 11) (.tmp 12) 30 rfl (w.heap.size + 1) 22 i0 Tryd.underlying30 hi hz0 hz1 hz2 _ 1 _ rfl h31 B _ rows rfl hL1 hnl2 (by omega) ?base ?_)
    | fail)
  case base => have := HSZ.out; simp; omega
  intro v4 w4 vs hvl hshv hown4 hg4
  have hszn := HSZ.out
  have hb4 : Below w.heap.size w w4 := hb1.grown hg4 (by simp; omega) (fun q hq => by have hq' : some wn.heap.size = some q := hq; cases hq'; omega)
  have hb14 : Below (w.heap.size + 1) (wn.alloc (.cells #[.slice (some ⟨w.heap.size, 0, none⟩) s.size cn] 22)) w4 := (Below.refl _ _).grown hg4 (by simp; omega) (fun q hq => by have hq' : some wn.heap.size = some q := hq; cases hq'; omega)
  have hs4 : wn.heap.size + 1 ≤ w4.heap.size := by have := hg4.size; simpa using this
  have hL4 : Lists w4.heap.size w4 v4 (s.data.toList :: rows) := by
    refine lists_of_owns (B := w.heap.size + 1) (vs := .slice (some ⟨w.heap.size, 0, none⟩) s.size cn :: vs) ?_ (by simp [hvl]) ?_
    · rw [List.length_cons, Nat.add_comm rows.length 1]; simpa using hown4
    · intro j u r hu hrr
      cases j with
      | zero =>
        simp at hu hrr
        subst hu hrr
        exact ((HSN.out.alloc (by omega) _).below hb14).mono (by omega)
      | succ j =>
        have := hshv j u r (by simpa using hu) (by simpa using hrr)
        exact (this.below (hb14.mono (by omega))).mono (by have := hb4.size; omega)
  clear hg4 hshv hown4 h31 hL1 hb14
  have hsz4 := hb4.size
  go_wp2_with fail
  refine (refRow_any w4.heap.size _ (s.data.toList :: rows) w4 (Nat.le_refl _) hL4).mono ?_
  rintro e w5 ⟨v5, rfl, hown5, hb5⟩
  have hb6 := hb4.trans (hb5.mono hsz4)
  have hown6 := ownsRow_mono hown5 hsz4
  clear hb5 hown5 hL4
  generalize hR : rowOf (s.data.toList :: rows) = R at *
  have HR := hid hR
  clear hR
  go_wp2
  go_ret2
  exact ⟨_, by rw [HR.out]; rfl, by rw [HR.out]; exact hown6, hb6⟩

theorem refText_any (B : Nat) (s : ByteArray) (v : Value) (rows : List (List UInt8)) (w : World) (hm : s.size ≤ maxLen) (hB : B ≤ w.heap.size) (hL : Lists B w v rows) (hnl : ∀ l c, v = .slice none l c → c = 0) (hr : rows.length * 24 ≤ 140737488351232) :
    Calls Tryd.prog 16 #[.string s, v] w fun e w' => ∃ v', e = .returned (.tuple #[v', .int .i64 (textOf s.data.toList rows).1]) ∧ w'.ownsRow w.heap.size 5 1 v' (textOf s.data.toList rows).2.length ((textOf s.data.toList rows).2.map by8) ∧ Below w.heap.size w w' := by
  have hsz : s.data.toList.length = s.size := by rw [Array.length_toList]; rfl
  by_cases h : 16 < s.size
  · have e : textOf s.data.toList rows = (2, []) := by rw [textOf, if_pos (by omega)]
    rw [e]
    refine (refText_long s v w h hm).mono fun e w' ⟨he, hw⟩ => ?_
    subst he hw
    exact ⟨_, rfl, World.ownsRow_nil _ _ _ _, Below.refl _ _⟩
  · have e : textOf s.data.toList rows = rowOf (s.data.toList :: rows) := by rw [textOf, if_neg (by omega)]
    rw [e]
    have hL0 := hL
    obtain ⟨a, c, _, rfl, _⟩ := hL
    exact refText_short B s a c rows w (by omega) hB hL0 (fun ha => hnl _ c (by rw [ha])) hr

set_option maxRecDepth 100000 in
set_option maxHeartbeats 8000000 in
theorem refOf_any (B : Nat) (s : ByteArray) (v : Value) (rows : List (List UInt8)) (w : World) (hm : s.size ≤ maxLen) (hB : B ≤ w.heap.size) (hL : Lists B w v rows) (hnl : ∀ l c, v = .slice none l c → c = 0) (hr : rows.length * 24 ≤ 140737488351232) :
    Calls Tryd.prog 17 #[.string s, v] w fun e w' => e = .returned (.tuple #[.agg ((ofOf s.data.toList rows).2.map by8).toArray, .int .i64 (ofOf s.data.toList rows).1]) ∧ Below w.heap.size w w' := by
  have hnew := heap_alloc_new w (.cells zero32 26)
  have hbn : Below w.heap.size w (w.alloc (.cells zero32 26)) := (Below.refl _ _).alloc (Nat.le_refl _) _
  have hsn : (w.alloc (.cells zero32 26)).heap.size = w.heap.size + 1 := by simp
  have HTX := hid (refText_any B s v rows (w.alloc (.cells zero32 26)) hm (by omega) (hL.below (hbn.mono hB)) hnl hr)
  have htl := textOf_length s.data.toList rows
  have HOF : Hid (ofOf s.data.toList rows = if (textOf s.data.toList rows).1 = 0 then (0, sha (textOf s.data.toList rows).2) else ((textOf s.data.toList rows).1, List.replicate 32 0)) := hid rfl
  have HER := hid (textOf_err s.data.toList rows)
  have HHL := hid htl
  clear htl
  generalize textOf s.data.toList rows = T at *
  generalize ofOf s.data.toList rows = O at *
  have HHN := hid hnew
  have HBN := hid hbn
  have HSN := hid hsn
  clear hnew hbn hsn
  go_enter Tryd.func17, Tryd.ntmps17
  go_wp2_with fail
  refine HTX.out.mono ?_
  rintro e w1 ⟨v1, rfl, hown, hb1⟩
  have hb1' : Below w.heap.size w w1 := HBN.out.trans (hb1.mono (by rw [HSN.out]; omega))
  have HZ : Hid (w1.heap[w.heap.size]? = some (.cells zero32 26 (0, 0))) := hid ((hb1.block _ (by rw [HSN.out]; omega)).trans HHN.out)
  have hsh := (shows_of_owns hown).2
  have hsz1 := hb1'.size
  clear hb1 hown
  rcases HER.out with hz | ⟨hz, _⟩
  · have HO : Hid (O = (0, sha T.2)) := hid (by rw [HOF.out, if_pos hz])
    rw [hz]
    have HSL := hid (sha_length T.2)
    go_wp2_with fail
    refine (refRaw_any w1.heap.size v1 T.2 w1 (Nat.le_refl _) hsh HHL.out).mono ?_
    rintro e' w2 ⟨rfl, hb2⟩
    have HZ2 := hid ((hb2.block _ (block_lt HZ.out)).trans HZ.out)
    have hbr := hb1'.trans (hb2.mono hsz1)
    obtain ⟨A, hA⟩ : ∃ A, A = ((sha T.2).map by8).toArray := ⟨_, rfl⟩
    rw [← hA]
    have hAs : A.size = 32 := by rw [hA]; simpa using HSL.out
    have hA1 : A.all (·.oneCell') = true := by rw [hA]; simp [by8, Value.oneCell']
    have HI := hid (show (Tryd.prog.info? 26).map (·.size) = some A.size by rw [hAs]; exact Tryd.infoSum)
    have HZS := hid (show zero32.size = A.size from hAs.symm)
    have HA := hid hA
    clear hA hAs hb2 HSL
    go_wp2_with (first
      | (refine wpList_store_row rfl 26 (.tmp 4) (.tmp 19) rfl w.heap.size A rfl rfl 26 zero32 HZ2.out HI.out HZS.out hA1 ?_))
    refine bodyPost_ret (v := .tuple #[.agg A, .int .i64 0]) (results_row_tmp (p := 4) (u := 5) (ty := 26) rfl _ _ w.heap.size 26 A (0, 0) _ _ rfl (setRow_heap _ _ _ _ _ _ HZ2.out) Tryd.underlying26 HI.out) rfl ⟨?_, below_setRow hbr (Nat.le_refl _) _⟩
    rw [HA.out, HO.out]
    rfl
  · have HO : Hid (O = (2, List.replicate 32 0)) := hid (by rw [HOF.out, if_neg (by omega), hz])
    rw [hz]
    go_wp2_with (first
      | (refine wpList_store_row rfl 26 (.tmp 4) (.tmp 16) rfl w.heap.size zero32 rfl rfl 26 zero32 HZ.out Tryd.infoSum rfl zero32_one ?_))
    refine bodyPost_ret (v := .tuple #[.agg zero32, .int .i64 2]) (results_row_tmp (p := 4) (u := 5) (ty := 26) rfl _ _ w.heap.size 26 zero32 (0, 0) _ _ rfl (setRow_heap _ _ _ _ _ _ HZ.out) Tryd.underlying26 Tryd.infoSum) rfl ⟨?_, below_setRow hb1' (Nat.le_refl _) _⟩
    rw [HO.out, zero32_eq]
    rfl
end Go.Proofs.YtomfhihhhfelfaaDoor
