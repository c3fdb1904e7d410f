/- Contract of plain.TakeTextKey. -/
import Derived.Test.YtlcoeoilakobjaaDoorText
namespace Go.Proofs.YtlcoeoilakobjaaDoor
open Go.RowKit
set_option linter.unusedVariables false
set_option maxRecDepth 20000

def addText (c : UInt8) (n : Nat) (r : Nat × List UInt8 × Nat) : Nat × List UInt8 × Nat := if r.1 = 0 then (0, c :: r.2.1, r.2.2 + n) else (r.1, [], 0)

/-- TakeTextKey's answer: the error, the text, how many bytes it takes. -/
def ttext : List UInt8 → Nat × List UInt8 × Nat
  | [] => (3, [], 0)
  | [c] => if c ≠ 0 then addText c 1 (3, [], 0) else (3, [], 0)
  | c :: d :: r => if c ≠ 0 then addText c 1 (ttext (d :: r)) else if d = 0 then (0, [], 2) else if d ≠ 255 then (4, [], 0) else addText 0 2 (ttext r)

theorem ttext_byte (c : UInt8) (r : List UInt8) (h : c ≠ 0) : ttext (c :: r) = addText c 1 (ttext r) := by
  cases r with
  | nil => simp [ttext, h]
  | cons d r => simp [ttext, h]
theorem ttext_end : ttext [0] = (3, [], 0) := by simp [ttext]
theorem ttext_zero (r : List UInt8) : ttext (0 :: 0 :: r) = (0, [], 2) := by simp [ttext]
theorem ttext_form (d : UInt8) (r : List UInt8) (h : d ≠ 0) (h2 : d ≠ 255) : ttext (0 :: d :: r) = (4, [], 0) := by simp [ttext, h, h2]
theorem ttext_esc (r : List UInt8) : ttext (0 :: 255 :: r) = addText 0 2 (ttext r) := by simp [ttext]

/-- What has been gathered, and then the rest. -/
def thenText (acc : List UInt8) (p : Nat) (r : Nat × List UInt8 × Nat) : Nat × List UInt8 × Nat := if r.1 = 0 then (0, acc ++ r.2.1, p + r.2.2) else (r.1, [], 0)

theorem thenText_add (acc : List UInt8) (p n : Nat) (c : UInt8) (r : Nat × List UInt8 × Nat) : thenText acc p (addText c n r) = thenText (acc ++ [c]) (p + n) r := by
  unfold thenText addText
  by_cases h : r.1 = 0 <;> simp [h]
  omega

theorem ttext_nil (r : Nat × List UInt8 × Nat) (h : r.1 ≠ 0 → r.2 = ([], 0)) : thenText [] 0 r = r := by
  unfold thenText
  by_cases h0 : r.1 = 0
  · obtain ⟨a, b, c⟩ := r
    simp at h0
    subst h0
    simp
  · have := h h0
    rw [if_neg h0]
    obtain ⟨a, b⟩ := r
    simp at this
    rw [this]

theorem ttext_errs : ∀ bs : List UInt8, (ttext bs).1 ≠ 0 → (ttext bs).2 = ([], 0)
  | [] => fun _ => rfl
  | [c] => fun _ => by
    by_cases h : c = 0
    · subst h; rfl
    · rw [ttext_byte c [] h]; rfl
  | c :: d :: r => by
    intro h
    by_cases hc : c = 0
    · subst hc
      by_cases hd : d = 0
      · subst hd; rw [ttext_zero] at h; simp at h
      · by_cases h2 : d = 255
        · subst h2
          rw [ttext_esc] at h ⊢
          unfold addText at h ⊢
          by_cases h3 : (ttext r).1 = 0
          · rw [if_pos h3] at h; simp at h
          · rw [if_neg h3]
        · rw [ttext_form d r hd h2]
    · rw [ttext_byte c _ hc] at h ⊢
      unfold addText at h ⊢
      by_cases h3 : (ttext (d :: r)).1 = 0
      · rw [if_pos h3] at h; simp at h
      · rw [if_neg h3]

theorem drop_at (bs : List UInt8) (p : Nat) (h : p < bs.length) : bs.drop p = (bs[p]?.getD 0) :: bs.drop (p + 1) := by
  rw [List.getElem?_eq_getElem h, Option.getD_some]
  exact List.drop_eq_getElem_cons h

theorem toNat_ne (c d : UInt8) (h : c ≠ d) : ((c.toNat : Int) == (d.toNat : Int)) = false := by
  rw [beq_eq_false_iff_ne]
  intro e
  exact h (UInt8.toNat_inj.1 (by omega))

theorem ret_t3 {a a' : Value} {x x' y y' : Int} (h1 : a = a') (h2 : x = x') (h3 : y = y') : Ending.returned (.tuple #[a, .int .i64 x, .int .i64 y]) = .returned (.tuple #[a', .int .i64 x', .int .i64 y']) := by
  rw [h1, h2, h3]

set_option maxHeartbeats 2000000 in
theorem takeText_some (B0 b off c : Nat) (bs : List UInt8) (w : World) (hB : B0 ≤ w.heap.size) (hsh : Shows B0 w (.slice (some ⟨b, off, none⟩) bs.length c) bs) (hbB : b < B0) (hne : bs ≠ []) (hl : bs.length ≤ 140737488351232) :
    Calls Tryd.prog 38 #[.slice (some ⟨b, off, none⟩) bs.length c] w fun e w' => e = .returned (.tuple #[.string (str8 (ttext bs).2.1), .int .i64 (ttext bs).2.2, .int .i64 (ttext bs).1]) ∧ Below w.heap.size w w' := by
  obtain ⟨i0, hi, hz0, hz1, hz2⟩ := info_parts Tryd.infoU8
  have hcell : ∀ j, j < bs.length → w.cell? ⟨b, off + j, none⟩ = some (.int .u8 ((bs[j]?.getD 0).toNat : Int)) := by
    obtain ⟨a, c', hv, _, _, _, h3⟩ := hsh
    obtain ⟨b', off', ha, _, hc⟩ := h3 hne
    simp only [Value.slice.injEq] at hv
    rw [← hv.1] at ha
    simp only [Option.some.injEq, Addr.mk.injEq] at ha
    obtain ⟨rfl, rfl, _⟩ := ha
    exact hc
  have HCELL := hid hcell
  clear hcell
  go_enter Tryd.func38, Tryd.ntmps38
  go_wp2_with fail
  go_step3
  go_wp2_with fail
  go_step3
  go_wp2_with fail
  go_loopw [5, 6] (fun u i wr => ∃ (p : Nat) (acc : List UInt8), p ≤ bs.length ∧ i = .int .i64 p ∧ acc.length ≤ p ∧ wr.ownsRow w.heap.size 5 1 u acc.length (acc.map by8) ∧ Below w.heap.size w wr ∧ Hid (thenText acc p (ttext (bs.drop p)) = ttext bs)) (fun _ i _ => bs.length - (intOf i).toNat)
  case atStart => exact ⟨0, [], Nat.zero_le _, rfl, by simp, World.ownsRow_nil _ _ _ _, Below.refl _ _, ttext_nil _ (ttext_errs bs)⟩
  case round =>
    obtain ⟨p, acc, hp, rfl, hacc, hown, hbel, hfin⟩ := hrel
    have hszr := hbel.size
    by_cases hlt : p < bs.length
    · have hcp := (hbel.cell (p := ⟨b, off + p, none⟩) (by show b < _; omega)).trans (HCELL.out p hlt)
      have hd := drop_at bs p hlt
      by_cases h0 : bs[p]?.getD 0 = 0
      · rw [h0] at hcp hd
        by_cases hend : p + 1 = bs.length
        · have hdd : bs.drop (p + 1) = [] := List.drop_of_length_le (by omega)
          have hf : ttext bs = (3, [], 0) := by rw [← hfin.out, hd, hdd, ttext_end]; rfl
          have HF := hid hf
          have hend' : (((p : Int) + 1) == (bs.length : Int)) = true := by rw [beq_iff_eq]; omega
          clear hf hfin hdd hd h0 hend
          go_wp2
          rw [Exit.noGoto_ret]
          go_ret3
          exact ⟨by rw [HF.out]; rfl, hbel⟩
        · have hlt1 : p + 1 < bs.length := by omega
          have hcq := (hbel.cell (p := ⟨b, off + (p + 1), none⟩) (by show b < _; omega)).trans (HCELL.out (p + 1) hlt1)
          have hd1 := drop_at bs (p + 1) hlt1
          have hend' : (((p : Int) + 1) == (bs.length : Int)) = false := by rw [beq_eq_false_iff_ne]; omega
          have hltz : (p : Int) + 1 < (bs.length : Int) := by omega
          by_cases hz : bs[p + 1]?.getD 0 = 0
          · rw [hz] at hcq hd1
            have hf : ttext bs = (0, acc, p + 2) := by rw [← hfin.out, hd, hd1, ttext_zero]; simp [thenText]
            have HF := hid hf
            have hstr := run_string_shows (P := Tryd.prog) 30 5 9 Tryd.underlying30 Tryd.underlying5 Tryd.underlying9 (shows_of_owns hown).2
            clear hf hfin hd hd1 h0 hend hz
            go_wp2
            rw [Exit.noGoto_ret]
            go_ret3
            exact ⟨ret_t3 (by rw [HF.out]; rfl) (by rw [HF.out]; show (p : Int) + 1 + 1 = ((p + 2 : Nat) : Int); omega) (by rw [HF.out]; rfl), hbel⟩
          · by_cases hq255 : bs[p + 1]?.getD 0 = 255
            · rw [hq255] at hcq hd1
              have hf : thenText (acc ++ [0]) (p + 2) (ttext (bs.drop (p + 1 + 1))) = ttext bs := by rw [← hfin.out, hd, hd1, ttext_esc, thenText_add]
              have HF := hid hf
              clear hf hfin hd hd1 h0 hend hz hq255
              go_wp2_with (first
                | (at_builtin; refine wpList_append_own _ rfl (.tmp 48) (.tmp 49) 30 rfl w.heap.size 5 i0 (.int .u8 0) 1 1 Tryd.underlying30 hi hz0 hz1 hz2 rfl (by decide) _ _ _ rfl (hown.alloc _) ⟨wr.heap.size, 0, none⟩ 1 1 [.int .u8 0] rfl rfl (one_cell _ _ _) (by intro u hu; simp at hu; subst hu; rfl) (by unfold maxLen; omega) (by omega) (by simp; omega) ?_; intro v2 w2 hown2 hg2 _)
                | fail)
              have hbA : Below w.heap.size w w2 := (hbel.alloc hszr _).grown hg2 (by simp; omega) (fun q hq => (hown.lt q hq).1)
              go_roundw
              case rel => exact ⟨p + 2, acc ++ [0], by omega, by go_num, by simp; omega, by have e : (acc ++ [(0 : UInt8)]).length = acc.length + 1 := by { simp }; rw [e]; simpa [by8] using hown2, hbA, HF⟩
              case measure => simp [intOf]; omega
            · have hf : ttext bs = (4, [], 0) := by rw [← hfin.out, hd, hd1, ttext_form _ _ hz hq255]; rfl
              have HF := hid hf
              have hn0 := toNat_ne _ 0 hz
              have hn1 := toNat_ne _ 255 hq255
              clear hf hfin hd hd1 h0 hend hz hq255
              generalize bs[p + 1]?.getD 0 = d at *
              simp only [show ((0 : UInt8).toNat : Int) = 0 from rfl, show ((255 : UInt8).toNat : Int) = 255 from rfl] at hn0 hn1
              go_wp2
              rw [Exit.noGoto_ret]
              go_ret3
              exact ⟨by rw [HF.out]; rfl, hbel⟩
      · have hf : thenText (acc ++ [bs[p]?.getD 0]) (p + 1) (ttext (bs.drop (p + 1))) = ttext bs := by rw [← hfin.out, hd, ttext_byte _ _ h0, thenText_add]
        have HF := hid hf
        have hn0 := toNat_ne _ 0 h0
        simp only [show ((0 : UInt8).toNat : Int) = 0 from rfl] at hn0
        clear hf hfin hd h0
        generalize bs[p]?.getD 0 = d at *
        go_wp2_with (first
          | (at_builtin; refine wpList_append_own _ rfl (.tmp 18) (.tmp 23) 30 rfl w.heap.size 5 i0 (.int .u8 0) 1 1 Tryd.underlying30 hi hz0 hz1 hz2 rfl (by decide) _ _ _ rfl (hown.alloc _) ⟨wr.heap.size, 0, none⟩ 1 1 [.int .u8 (d.toNat : Int)] rfl rfl (one_cell _ _ _) (by intro u hu; simp at hu; subst hu; rfl) (by unfold maxLen; omega) (by omega) (by simp; omega) ?_; intro v2 w2 hown2 hg2 _)
          | fail)
        have hbA : Below w.heap.size w w2 := (hbel.alloc hszr _).grown hg2 (by simp; omega) (fun q hq => (hown.lt q hq).1)
        go_roundw
        case rel => exact ⟨p + 1, acc ++ [d], by omega, by go_num, by simp; omega, by have e : (acc ++ [d]).length = acc.length + 1 := by { simp }; rw [e]; simpa [by8] using hown2, hbA, HF⟩
        case measure => simp [intOf]; omega
    · have hdd : bs.drop p = [] := List.drop_of_length_le (by omega)
      have hf : ttext bs = (3, [], 0) := by rw [← hfin.out, hdd]; rfl
      have HF := hid hf
      clear hf hfin hdd
      go_wp2
      first | rw [Exit.noGoto_ret] | skip
      go_ret3
      exact ⟨by rw [HF.out]; rfl, hbel⟩

set_option maxHeartbeats 1000000 in
theorem takeText_none (a : Option Addr) (c : Nat) (w : World) :
    Calls Tryd.prog 38 #[.slice a 0 c] w fun e w' => e = .returned (.tuple #[.string (str8 []), .int .i64 0, .int .i64 3]) ∧ Below w.heap.size w w' := by
  go_enter Tryd.func38, Tryd.ntmps38
  go_wp2_with fail
  go_step3
  go_wp2_with fail
  go_step3
  go_wp2_with fail
  go_rounds 1
  first | rw [Exit.noGoto_ret] | skip
  go_ret3
  exact ⟨rfl, Below.refl _ _⟩

theorem takeText_any (B0 : Nat) (v : Value) (bs : List UInt8) (w : World) (hB : B0 ≤ w.heap.size) (hsh : Shows B0 w v bs) (hl : bs.length ≤ 140737488351232) :
    Calls Tryd.prog 38 #[v] w fun e w' => e = .returned (.tuple #[.string (str8 (ttext bs).2.1), .int .i64 (ttext bs).2.2, .int .i64 (ttext bs).1]) ∧ Below w.heap.size w w' := by
  have hsh0 := hsh
  obtain ⟨a, c, rfl, h1, h2, hn, h3⟩ := hsh
  by_cases hne : bs = []
  · subst hne
    exact takeText_none a c w
  · obtain ⟨b, off, rfl, hlt, _⟩ := h3 hne
    exact takeText_some B0 b off c bs w hB hsh0 hlt hne hl
end Go.Proofs.YtlcoeoilakobjaaDoor
