/- Contract of the law's 'small': it answers true. -/
import Derived.Test.YtomfhihhhfelfaaDoorTextD
import Derived.Test.YtomfhihhhfelfaaDoorHexU
import Derived.Lib.SlBytesConst
import Derived.Laws.BytesArg
namespace Go.Proofs.YtomfhihhhfelfaaDoor
open Go.RowKit
set_option linter.unusedVariables false

def abcHex : List UInt8 := [98, 97, 55, 56, 49, 54, 98, 102, 56, 102, 48, 49, 99, 102, 101, 97, 52, 49, 52, 49, 52, 48, 100, 101, 53, 100, 97, 101, 50, 50, 50, 51, 98, 48, 48, 51, 54, 49, 97, 51, 57, 54, 49, 55, 55, 97, 57, 99, 98, 52, 49, 48, 102, 102, 54, 49, 102, 50, 48, 48, 49, 53, 97, 100]

theorem hex_abc : hexOf (sha [97, 98, 99]) = abcHex := by rw [sha_abc]; decide +kernel

theorem small_lists (w : World) : Lists (w.heap.size + 2) ((w.alloc (Obj.cells #[Value.int IntKind.u8 97] 5 (1, 2))).alloc (Obj.cells #[Value.slice (some ⟨w.heap.size, 0, none⟩) 1 1] 22))
    (.slice (some ⟨w.heap.size + 1, 0, none⟩) 1 1) [[97]] := by
  refine ⟨_, 1, [Value.slice (some ⟨w.heap.size, 0, none⟩) 1 1], rfl, by simp, by unfold maxLen; omega, rfl, fun _ => ⟨w.heap.size + 1, 0, rfl, by omega, fun j u hu => ?_⟩, fun j u r hu hr => ?_⟩
  · match j, hu with
    | 0, hu => simp at hu; subst hu; simp [go_sem]
  · match j, hu, hr with
    | 0, hu, hr =>
      simp at hu hr
      subst hu hr
      refine ⟨_, 1, rfl, by simp, by unfold maxLen; omega, (fun e => by cases e), fun _ => ⟨w.heap.size, 0, rfl, by omega, fun j hj => ?_⟩⟩
      match j, hj with
      | 0, _ => simp [go_sem]; rw [World.cell?_alloc_mark]; rfl

theorem abc_shows (w : World) : Shows (w.heap.size + 1) (w.alloc (Obj.cells #[Value.int .u8 97, .int .u8 98, .int .u8 99] 5 (3, 4))) (.slice (some ⟨w.heap.size, 0, none⟩) 3 3) [97, 98, 99] := by
  refine ⟨_, 3, rfl, by simp, by unfold maxLen; omega, (fun e => by cases e), fun _ => ⟨w.heap.size, 0, rfl, by omega, fun j hj => ?_⟩⟩
  have hg : (w.alloc (Obj.cells #[Value.int .u8 97, .int .u8 98, .int .u8 99] 5 (3, 4))).heap[w.heap.size]? = some _ := heap_alloc_new w _
  rw [cell_of_row _ _ _ _ _ _ hg]
  match j, hj with
  | 0, _ => rfl
  | 1, _ => rfl
  | 2, _ => rfl

def smallText : List UInt8 := [0, 0, 0, 2, 0, 0, 0, 1, 120, 0, 0, 0, 1, 97]

theorem small_text : textOf [120] [[97]] = (0, smallText) := by
  have e : rowOf [[120], [97]] = (0, rowBytes [[120], [97]]) := by
    unfold rowOf
    rw [if_neg]
    rintro (h | ⟨m, hm, h⟩)
    · simp at h
    · simp at hm
      match m, hm with
      | 0, _ => simp at h
      | 1, _ => simp at h
  rw [textOf, if_neg (by simp), e]
  rfl

set_option maxRecDepth 100000 in
set_option maxHeartbeats 4000000 in
theorem small_any (w : World) (ht : Tables w) : Calls Tryd.prog 9 #[] w fun e w' => e = .returned (.bool true) ∧ Below w.heap.size w w' := by
  have kc := fun (w : World) (C : Array Value) (n c : Nat) => Lib.run_convert_bytes_const (P := Tryd.prog) w 22 5 C n c Tryd.underlying22 Tryd.underlying5
  have HT := hid ht
  have hw1 := ht.lt
  clear ht
  go_enter Tryd.func9, Tryd.ntmps9
  go_wp2_with fail
  refine (text_any (w.heap.size + 2) ⟨#[120]⟩ _ [[97]] _ (by unfold maxLen; show 1 ≤ _; omega) (by simp) (small_lists w) (fun l c e => by simp at e) (by simp)).mono ?_
  rintro e w1 ⟨v1, rfl, hown1, hbel1⟩
  rw [show textOf ((⟨#[120]⟩ : ByteArray).data.toList) [[97]] = (0, smallText) from small_text] at hown1 ⊢
  have hb1 : Below w.heap.size w w1 := (((Below.refl _ _).alloc (Nat.le_refl _) _).alloc (by simp) _).trans (hbel1.mono (by simp; omega))
  have hsh1 := (shows_of_owns hown1).2
  have hsz1 := hb1.size
  clear hbel1 hown1
  have ht1 := HT.out.below hb1 (by omega)
  have HA := hid (abc_shows w1)
  go_wp2_with fail
  have hba : Below w1.heap.size w1 (w1.alloc (Obj.cells #[Value.int .u8 97, .int .u8 98, .int .u8 99] 5 (3, 4))) := (Below.refl _ _).alloc (Nat.le_refl _) _
  refine (raw_any (w1.heap.size + 1) _ [97, 98, 99] _ (by simp) HA.out (by simp) (ht1.below hba (by omega))).mono ?_
  rintro e w2 ⟨rfl, hbel2⟩
  have hb12 : Below w1.heap.size w1 w2 := hba.trans (hbel2.mono (by simp))
  have hb2 := hb1.trans (hb12.mono hsz1)
  have hsz2 := hb2.size
  have hsz12 := hb12.size
  have hsh2 := hsh1.below hb12
  have HAB := hid hex_abc
  have HSL := hid (sha_length [97, 98, 99])
  clear hbel2 hba HA hsh1 hb12 ht1 HT
  generalize sha [97, 98, 99] = sh at *
  go_wp2_with fail
  refine (hex_any sh w2 HSL.out).mono ?_
  rintro e w3 ⟨rfl, hbel3⟩
  have hb3 := hb2.trans (hbel3.mono hsz2)
  have hsh3 := hsh2.below (hbel3.mono hsz12)
  have hs1 := run_string_shows (P := Tryd.prog) 22 5 9 Tryd.underlying22 Tryd.underlying5 Tryd.underlying9 hsh3
  rw [HAB.out]
  clear hbel3 hsh2 hsh3 HSL HAB
  have hq1 : ((str8 abcHex).toList == [98, 97, 55, 56, 49, 54, 98, 102, 56, 102, 48, 49, 99, 102, 101, 97, 52, 49, 52, 49, 52, 48, 100, 101, 53, 100, 97, 101, 50, 50, 50, 51, 98, 48, 48, 51, 54, 49, 97, 51, 57, 54, 49, 55, 55, 97, 57, 99, 98, 52, 49, 48, 102, 102, 54, 49, 102, 50, 48, 48, 49, 53, 97, 100]) = true := by decide +kernel
  have hq2 : ((str8 smallText).toList == [0, 0, 0, 2, 0, 0, 0, 1, 120, 0, 0, 0, 1, 97]) = true := by decide +kernel
  go_wp2
  go_ret
  exact ⟨rfl, hb3⟩
end Go.Proofs.YtomfhihhhfelfaaDoor
