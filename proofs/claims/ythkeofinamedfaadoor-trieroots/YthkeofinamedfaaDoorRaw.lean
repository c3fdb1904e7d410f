/- Contract of digest.Raw. -/
import Derived.Test.YthkeofinamedfaaDoorWith
import Derived.Test.YthkeofinamedfaaDoorEnding
import Derived.Deep.RegionWith
import Derived.Deep.RegionHeld
import Derived.Deep.DeepCutAuto
namespace Go.Proofs.YthkeofinamedfaaDoor
open Go.RowKit
set_option linter.unusedVariables false
set_option maxRecDepth 20000

/-- WHAT THE PACKAGE'S TWO TABLES HOLD. -/
def Tables (w : World) : Prop :=
  ∃ t u, w.heap[0]? = some (.cells start.cells t (0, 0)) ∧ w.heap[2]? = some (.cells (cubes.map w32).toArray u (0, 0))

theorem Tables.lt {w : World} (h : Tables w) : 2 < w.heap.size := by
  obtain ⟨t, u, h1, h2⟩ := h
  exact block_lt h2

theorem Tables.below {w w' : World} {B : Nat} (h : Tables w) (hb : Below B w w') (hB : 2 + 1 ≤ B) : Tables w' := by
  obtain ⟨t, u, h1, h2⟩ := h
  exact ⟨t, u, (hb.block 0 (by omega)).trans h1, (hb.block 2 (by omega)).trans h2⟩

theorem padded_split (bs : List UInt8) (k : Nat) (h1 : 64 * k ≤ bs.length) (h2 : bs.length < 64 * k + 64) : padded bs = bs.take (64 * k) ++ ending (bs.drop (64 * k)) bs.length := by
  have e : (bs.drop (64 * k)).length = bs.length % 64 := by simp; omega
  rw [padded, ending, e]
  simp only [← List.append_assoc, List.take_append_drop]

theorem padded_length (bs : List UInt8) (k : Nat) (h1 : 64 * k ≤ bs.length) (h2 : bs.length < 64 * k + 64) : (padded bs).length = 64 * k + (ending (bs.drop (64 * k)) bs.length).length := by
  rw [padded_split bs k h1 h2]
  simp
  omega

theorem piece_in (bs : List UInt8) (k : Nat) (h : 64 * k + 64 ≤ bs.length) : ((padded bs).drop (64 * k)).take 64 = (bs.drop (64 * k)).take 64 := by
  rw [padded, List.append_assoc, List.append_assoc, List.drop_append_of_le_length (by omega), List.take_append_of_le_length (by simp; omega)]

theorem piece_end (bs : List UInt8) (k j : Nat) (h1 : 64 * k ≤ bs.length) (h2 : bs.length < 64 * k + 64) :
    ((padded bs).drop (64 * (k + j))).take 64 = ((ending (bs.drop (64 * k)) bs.length).drop (64 * j)).take 64 := by
  have e : (bs.take (64 * k)).length = 64 * k := by simp; omega
  rw [padded_split bs k h1 h2, List.drop_append, e, List.drop_of_length_le (by omega), List.nil_append, show 64 * (k + j) - 64 * k = 64 * j by omega]

/-- How long a slice is. -/
def sliceLen : Value → Nat
  | .slice _ n _ => n
  | _ => 0

/-- Eight cells of a block. -/
theorem eight {w : World} {g : Nat} {t : TypeId} {s : St} (h : w.heap[g]? = some (.cells s.cells t (0, 0))) :
    w.cell? ⟨g, 0, none⟩ = some (.int .u32 s.a) ∧ w.cell? ⟨g, 1, none⟩ = some (.int .u32 s.b) ∧ w.cell? ⟨g, 2, none⟩ = some (.int .u32 s.c) ∧ w.cell? ⟨g, 3, none⟩ = some (.int .u32 s.d) ∧
    w.cell? ⟨g, 4, none⟩ = some (.int .u32 s.e) ∧ w.cell? ⟨g, 5, none⟩ = some (.int .u32 s.f) ∧ w.cell? ⟨g, 6, none⟩ = some (.int .u32 s.g) ∧ w.cell? ⟨g, 7, none⟩ = some (.int .u32 s.h) := by
  refine ⟨?_, ?_, ?_, ?_, ?_, ?_, ?_, ?_⟩ <;> rw [cell_of_row w _ _ _ _ _ h] <;> rfl

theorem cells_size (s s' : St) : s.cells.size = s'.cells.size := rfl

theorem cells_one (s : St) : s.cells.all (·.oneCell') = true := one8 _ _ _ _ _ _ _ _

theorem setRow_other (w : World) (g k : Nat) (cs : Array Value) (h : k ≠ g) : (w.setRow g cs).heap[k]? = w.heap[k]? := by
  simp only [World.setRow]
  rw [Array.getElem?_modify, if_neg (fun e => h e.symm)]

/-- One block is written anew: the block, the others, what is below. -/
theorem setRow_facts {w : World} {g : Nat} {old cs : Array Value} {t : TypeId} (h : w.heap[g]? = some (.cells old t (0, 0))) :
    (w.setRow g cs).heap[g]? = some (.cells cs t (0, 0)) ∧ (∀ k, k < g → (w.setRow g cs).heap[k]? = w.heap[k]?) ∧ (∀ B w0, Below B w0 w → B ≤ g → Below B w0 (w.setRow g cs)) ∧ (w.setRow g cs).heap.size = w.heap.size :=
  ⟨setRow_heap _ _ _ _ _ _ h, fun k hk => (below_setRow (Below.refl g w) (Nat.le_refl _) cs).block k hk, fun B w0 hb hB => below_setRow hb hB cs, by simp [World.setRow]⟩

set_option maxRecDepth 100000 in
set_option maxHeartbeats 8000000 in
theorem raw_any (B : Nat) (v : Value) (bs : List UInt8) (w : World) (hB : B ≤ w.heap.size) (hsh : Shows B w v bs) (hl : bs.length ≤ 1099511627776) (ht : Tables w) :
    Calls Tryd.prog 54 #[v] w fun e w' => e = .returned (.agg ((sha bs).map by8).toArray) ∧ Below w.heap.size w w' := by
  have hsh0 := hsh
  obtain ⟨a, c, rfl, h1, h2, hn, h3⟩ := hsh
  have HT := hid ht
  have hw1 := ht.lt
  obtain ⟨tt, uu, ht0, _⟩ := ht
  have HT0 := hid ht0
  clear ht0
  go_enter Tryd.func54, Tryd.ntmps54
  obtain ⟨z32, hz32⟩ : ∃ z : Array Value, z = (List.replicate 32 (.int .u8 0)).toArray := ⟨_, rfl⟩
  go_wp2_with (first
    | (refine wpList_load_row rfl 110 (.global 0) rfl 0 rfl tt start.cells (0, 0) _ ((heap_alloc_old w _ (by omega)).trans HT0.out) Tryd.underlying110 rfl Tryd.infoWords ?_)
    | (refine wpList_store_row rfl 110 (.tmp 3) (.tmp 7) rfl (w.heap.size + 1) start.cells rfl rfl 110 _ (two_new w _ _).1 Tryd.infoWords (by rfl) (cells_one start) ?_))
  obtain ⟨n1, n0, nb⟩ := two_new w (.cells #[.int .u8 0, .int .u8 0, .int .u8 0, .int .u8 0, .int .u8 0, .int .u8 0, .int .u8 0, .int .u8 0, .int .u8 0, .int .u8 0, .int .u8 0, .int .u8 0, .int .u8 0, .int .u8 0, .int .u8 0, .int .u8 0, .int .u8 0, .int .u8 0, .int .u8 0, .int .u8 0, .int .u8 0, .int .u8 0, .int .u8 0, .int .u8 0, .int .u8 0, .int .u8 0, .int .u8 0, .int .u8 0, .int .u8 0, .int .u8 0, .int .u8 0, .int .u8 0] 37) (.cells #[.int .u32 0, .int .u32 0, .int .u32 0, .int .u32 0, .int .u32 0, .int .u32 0, .int .u32 0, .int .u32 0] 110)
  obtain ⟨m1, m2, m3, m4⟩ := setRow_facts (cs := start.cells) n1
  replace nb := m3 _ _ nb (Nat.le_succ _)
  replace n0 := (m2 _ (Nat.lt_succ_self _)).trans n0
  clear m2 m3 m4 n1
  generalize World.setRow _ (w.heap.size + 1) start.cells = w0 at *
  have HW1 := hid m1
  have HW0 : Hid (∃ z : Array Value, z.size = 32 ∧ w0.heap[w.heap.size]? = some (.cells z 37 (0, 0))) := hid ⟨_, by rfl, n0⟩
  clear m1 n0 hz32
  go_loopw [4] (fun x4 wr => ∃ (k : Nat), 64 * k ≤ bs.length ∧ Shows B wr x4 (bs.drop (64 * k)) ∧ Hid (wr.heap[w.heap.size + 1]? = some (.cells (works (padded bs) start k).cells 110 (0, 0))) ∧ Hid (∃ z : Array Value, z.size = 32 ∧ wr.heap[w.heap.size]? = some (.cells z 37 (0, 0))) ∧ Below w.heap.size w wr) (fun x4 _ => sliceLen x4)
  case atStart => exact ⟨0, Nat.zero_le _, hsh0.below (nb.mono hB), HW1, HW0, nb⟩
  case round =>
    clear HW1 HW0 nb
    obtain ⟨k, hk, hsh4, HR1, HR0, hbr⟩ := hrel
    have hsh4' := hsh4
    obtain ⟨a4, c4, rfl, g1, g2, gn, g3⟩ := hsh4
    have hwok := works_ok (padded bs) start_ok k
    obtain ⟨o0, o1, o2, o3, o4, o5, o6, o7⟩ := eight HR1.out
    have hlen : (bs.drop (64 * k)).length = bs.length - 64 * k := by simp
    have hsz := hbr.size
    by_cases hlt : 64 ≤ (bs.drop (64 * k)).length
    · obtain ⟨b4, off4, rfl, hb4, hc4⟩ := g3 (by intro e; simp [e] at hlt)
      have HP := hid (hsh4'.take 64 hlt)
      have HPL : Hid (((bs.drop (64 * k)).take 64).length = 64) := hid (by simp; omega)
      have HQ := hid (show works (padded bs) start (k + 1) = work (works (padded bs) start k) ((bs.drop (64 * k)).take 64) by rw [works, piece_in bs k (by omega)])
      have HD : Hid (c4 ≠ 64 → Shows B wr (.slice (some ⟨b4, off4 + 64, none⟩) ((bs.drop (64 * k)).length - 64) (c4 - 64)) (bs.drop (64 * (k + 1)))) := hid (fun hne => by
        rcases Nat.lt_or_ge 64 (bs.drop (64 * k)).length with hlt2 | hlt2
        · have := hsh4'.drop 64 hlt2
          rwa [List.drop_drop, show 64 * k + 64 = 64 * (k + 1) by omega] at this
        · have e : (bs.drop (64 * k)).length - 64 = 0 := by omega
          rw [e, List.drop_of_length_le (show bs.length ≤ 64 * (k + 1) by omega)]
          exact Shows.empty B wr _ _ (by omega))
      have HD0 : Hid (c4 = 64 → Shows B wr (.slice (some ⟨b4, off4, none⟩) 0 0) (bs.drop (64 * (k + 1)))) := hid (fun he => by
        rw [List.drop_of_length_le (show bs.length ≤ 64 * (k + 1) by omega)]
        exact Shows.empty B wr _ _ (by unfold maxLen; omega))
      have i1 : (64 : Int) ≤ ((bs.drop (64 * k)).length : Int) := by omega
      have i2 : (64 : Int) ≤ (c4 : Int) := by omega
      obtain ⟨_, tk, _, hk2⟩ := HT.out.below hbr (by omega)
      have HT2 := hid hk2
      clear hk2
      clear hc4 g3 hsh4' gn
      generalize works (padded bs) start k = st at *
      generalize hpc : (bs.drop (64 * k)).take 64 = pc at *
      have HPC := hid hpc
      clear hpc
      have HLN := hid hlen
      clear hlen
      generalize hL : (bs.drop (64 * k)).length = L at *
      have HLL := hid hL
      clear hL
      go_wp2_with fail
      refine wp_region_still_tail 3 (by kernel_rfl) (by kernel_rfl) ?_
      simp only [List.take_succ_cons, List.take_zero, List.drop_succ_cons, List.drop_zero]
      repeat still_step
      try refine wpStill_nil ?_
      go_wp2_with fail
      refine (with_any B st.a st.b st.c st.d st.e st.f st.g st.h _ pc wr.drew (Nat.le_trans hB hsz) hwok (HP.out.below (Below.refl _ _).drew) HPL.out tk HT2.out).mono ?_
      rintro e' w2 ⟨rfl, hb2⟩
      rw [show (⟨st.a, st.b, st.c, st.d, st.e, st.f, st.g, st.h⟩ : St) = st from rfl]
      generalize work st pc = st2 at *
      replace hb2 : Below wr.heap.size wr w2 := ⟨hb2.os, hb2.tape, hb2.output, hb2.size, hb2.block⟩
      replace HR1 := hid ((hb2.block _ (block_lt HR1.out)).trans HR1.out)
      replace HR0 : Hid (∃ z : Array Value, z.size = 32 ∧ w2.heap[w.heap.size]? = some (.cells z 37 (0, 0))) := hid (by obtain ⟨z, hz, hz2⟩ := HR0.out; exact ⟨z, hz, (hb2.block _ (block_lt hz2)).trans hz2⟩)
      replace hbr := hbr.trans (hb2.mono hsz)
      have HBW := hid (hb2.mono (Nat.le_trans hB hsz))
      clear o0 o1 o2 o3 o4 o5 o6 o7 hb2 hsz
      obtain ⟨m1, m2, m3, m4⟩ := setRow_facts (cs := st2.cells) HR1.out
      have HM1 := hid m1
      have HM0 : Hid (∃ z : Array Value, z.size = 32 ∧ (w2.setRow (w.heap.size + 1) st2.cells).heap[w.heap.size]? = some (.cells z 37 (0, 0))) := hid (by obtain ⟨z, hz, hz2⟩ := HR0.out; exact ⟨z, hz, (m2 _ (Nat.lt_succ_self _)).trans hz2⟩)
      have HMB := hid (m3 _ _ hbr (Nat.le_succ _))
      have HMW := hid (m3 _ _ HBW.out (by omega))
      clear m1 m2 m3 m4
      by_cases hc64 : c4 = 64
      · subst hc64
        go_wp2_with (refine wpList_store_row rfl 110 (.tmp 3) (.tmp 15) rfl (w.heap.size + 1) st2.cells rfl rfl 110 _ HR1.out Tryd.infoWords (cells_size _ _) (cells_one _) ?_)
        generalize World.setRow _ (w.heap.size + 1) _ = w3 at *
        refine ⟨⟨k + 1, by have := HLN.out; omega, (HD0.out (by first | trivial | rfl)).below HMW.out, by rw [HQ.out]; exact HM1, HM0, HMB.out⟩, by simp [sliceLen]; omega⟩
      · go_wp2_with (refine wpList_store_row rfl 110 (.tmp 3) (.tmp 15) rfl (w.heap.size + 1) st2.cells rfl rfl 110 _ HR1.out Tryd.infoWords (cells_size _ _) (cells_one _) ?_)
        generalize World.setRow _ (w.heap.size + 1) _ = w3 at *
        refine ⟨⟨k + 1, by have := HLN.out; omega, (HD.out hc64).below HMW.out, by rw [HQ.out]; exact HM1, HM0, HMB.out⟩, by simp [sliceLen]; omega⟩
    · have HTW := hid (HT.out.below hbr (by omega))
      have HPL := hid (padded_length bs k hk (by omega))
      have HPE : Hid (∀ j, ((padded bs).drop (64 * (k + j))).take 64 = ((ending (bs.drop (64 * k)) bs.length).drop (64 * j)).take 64) := hid (fun j => piece_end bs k j hk (by omega))
      have HEL := hid (ending_length (bs.drop (64 * k)) bs.length (by omega))
      have HEA := hid (ending_any B _ (bs.drop (64 * k)) bs.length wr (Nat.le_trans hB hsz) hsh4' (by omega) hl)
      clear g3 gn hsh4' o0 o1 o2 o3 o4 o5 o6 o7 hwok
      have HLN := hid hlen
      clear hlen
      generalize hL : (bs.drop (64 * k)).length = L at *
      have HLL := hid hL
      clear hL
      have hwr1 := block_lt HR1.out
      go_wp2_with fail
      refine HEA.out.mono ?_
      rintro e' w2 ⟨v', rfl, hown, hb2⟩
      replace HR1 := hid ((hb2.block _ (block_lt HR1.out)).trans HR1.out)
      replace HR0 : Hid (∃ z : Array Value, z.size = 32 ∧ w2.heap[w.heap.size]? = some (.cells z 37 (0, 0))) := hid (by obtain ⟨z, hz, hz2⟩ := HR0.out; exact ⟨z, hz, (hb2.block _ (block_lt hz2)).trans hz2⟩)
      replace hbr := hbr.trans (hb2.mono hsz)
      have HEL2 : Hid ((ending (bs.drop (64 * k)) bs.length).length = 64 ∨ (ending (bs.drop (64 * k)) bs.length).length = 128) := hid (by rw [HEL.out]; split <;> simp)
      clear HEA HEL
      generalize hE : ending (bs.drop (64 * k)) bs.length = E at *
      have HE := hid hE
      clear hE
      have hel := HEL2.out
      obtain ⟨hlenE, hown2⟩ := hown
      rcases hown2 with ⟨_, hzero⟩ | ⟨g, cap, cur, rfl, hBg, hg, hnc, hcm, hcs, htk⟩
      · omega
      have hgs : w.heap.size + 1 < g := by omega
      have HSH : Hid (∀ wx : World, wx.heap[g]? = some (.cells cur 5 (0, 0)) → Shows wx.heap.size wx (.slice (some ⟨g, 0, none⟩) E.length cap) E) := hid (fun wx hx => (shows_of_owns (B := wr.heap.size) (e := 5) ⟨hlenE, .inr ⟨g, cap, cur, rfl, hBg, hx, hnc, hcm, hcs, htk⟩⟩).2)
      have HG := hid hg
      have HB2 := hid hb2
      unfold maxLen at hcm
      clear hlenE hBg hg hcs htk hb2 hsz hwr1
      generalize hEn : E.length = EL at *
      have HEN := hid hEn
      clear hEn
      go_wp2_with fail
      go_loopw [6] (fun i wr => ∃ (at' j : Nat), i = .int .i64 at' ∧ at' ≤ EL ∧ Hid (at' = 64 * j) ∧ Hid (wr.heap[w.heap.size + 1]? = some (.cells (works (padded bs) start (k + j)).cells 110 (0, 0))) ∧ Hid (∃ z : Array Value, z.size = 32 ∧ wr.heap[w.heap.size]? = some (.cells z 37 (0, 0))) ∧ Hid (wr.heap[g]? = some (.cells cur 5 (0, 0))) ∧ Below w.heap.size w wr) (fun i _ => EL - (intOf i).toNat)
      case atStart => exact ⟨0, 0, rfl, Nat.zero_le _, rfl, HR1, HR0, HG, hbr⟩
      case round =>
        clear HR1 HR0 HG hbr
        rename_i wr0
        obtain ⟨at', j, rfl, hat, HAT, HR1, HR0, HG, hbr⟩ := hrel
        have hat2 := HAT.out
        have hsz := hbr.size
        obtain ⟨o0, o1, o2, o3, o4, o5, o6, o7⟩ := eight HR1.out
        have hwok := works_ok (padded bs) start_ok (k + j)
        by_cases hlt : at' < EL
        · have hat3 : at' + 64 ≤ EL := by omega
          have HP : Hid (Shows wr.heap.size wr (.slice (some ⟨g, at', none⟩) (at' + 64 - at') (cap - at')) ((E.drop at').take 64)) := hid (by
            have := (HSH.out wr HG.out).mid at' 64 (by rw [HEN.out]; exact hat3)
            rw [Nat.zero_add] at this
            rw [show at' + 64 - at' = 64 by omega]
            exact this)
          have HPL2 : Hid (((E.drop at').take 64).length = 64) := hid (by have := HEN.out; simp; omega)
          have HQ := hid (show works (padded bs) start (k + (j + 1)) = work (works (padded bs) start (k + j)) ((E.drop at').take 64) by rw [← Nat.add_assoc, works, HPE.out j, hat2])
          obtain ⟨_, tk, _, hk2⟩ := HT.out.below hbr (by omega)
          have HT2 := hid hk2
          clear hk2
          have i1 : (0 : Int) ≤ (at' : Int) := by omega
          have i2 : (at' : Int) + 64 ≤ (cap : Int) := by omega
          have i3 : (at' : Int) ≤ (at' : Int) + 64 := by omega
          have i4 : IntKind.i64.wrap ((at' : Int) + 64) = (at' : Int) + 64 := by rw [IntKind.wrap_i64]; omega
          have i5 : ¬ cap = at' := by omega
          have hgw := block_lt HG.out
          clear hat2
          generalize works (padded bs) start (k + j) = st at *
          generalize hpc : (E.drop at').take 64 = pc at *
          have HPC := hid hpc
          clear hpc
          go_wp2_with fail
          refine wp_region_still_tail 6 (by kernel_rfl) (by kernel_rfl) ?_
          simp only [List.take_succ_cons, List.take_zero, List.drop_succ_cons, List.drop_zero]
          repeat still_step
          try refine wpStill_nil ?_
          go_wp2_with fail
          refine (with_any wr.heap.size st.a st.b st.c st.d st.e st.f st.g st.h _ pc wr.drew (Nat.le_refl _) hwok (HP.out.below (Below.refl _ _).drew) HPL2.out tk HT2.out).mono ?_
          rintro e' w3 ⟨rfl, hb2⟩
          rw [show (⟨st.a, st.b, st.c, st.d, st.e, st.f, st.g, st.h⟩ : St) = st from rfl]
          generalize work st pc = st2 at *
          replace hb2 : Below wr.heap.size wr w3 := ⟨hb2.os, hb2.tape, hb2.output, hb2.size, hb2.block⟩
          replace HR1 := hid ((hb2.block _ (block_lt HR1.out)).trans HR1.out)
          replace HR0 : Hid (∃ z : Array Value, z.size = 32 ∧ w3.heap[w.heap.size]? = some (.cells z 37 (0, 0))) := hid (by obtain ⟨z, hz, hz2⟩ := HR0.out; exact ⟨z, hz, (hb2.block _ (block_lt hz2)).trans hz2⟩)
          replace HG := hid ((hb2.block _ (block_lt HG.out)).trans HG.out)
          replace hbr := hbr.trans (hb2.mono hsz)
          clear o0 o1 o2 o3 o4 o5 o6 o7 hb2 hsz
          obtain ⟨m1, m2, m3, m4⟩ := setRow_facts (cs := st2.cells) HR1.out
          have HM1 := hid m1
          have HM0 : Hid (∃ z : Array Value, z.size = 32 ∧ (w3.setRow (w.heap.size + 1) st2.cells).heap[w.heap.size]? = some (.cells z 37 (0, 0))) := hid (by obtain ⟨z, hz, hz2⟩ := HR0.out; exact ⟨z, hz, (m2 _ (Nat.lt_succ_self _)).trans hz2⟩)
          have HMB := hid (m3 _ _ hbr (Nat.le_succ _))
          have HMG := hid ((setRow_other w3 (w.heap.size + 1) g st2.cells (by omega)).trans HG.out)
          clear m1 m2 m3 m4
          go_wp2_with (refine wpList_store_row rfl 110 (.tmp 3) (.tmp 34) rfl (w.heap.size + 1) st2.cells rfl rfl 110 _ HR1.out Tryd.infoWords (cells_size _ _) (cells_one _) ?_)
          generalize World.setRow _ (w.heap.size + 1) _ = w4 at *
          refine ⟨⟨at' + 64, j + 1, by go_num, hat3, hid (by rw [HAT.out]; omega), by rw [HQ.out]; exact HM1, HM0, HMG, HMB.out⟩, by simp [intOf]; omega⟩
        · have hsha : sha bs = (works (padded bs) start (k + j)).bytes := by
            rw [sha, HPL.out, show (64 * k + EL) / 64 = k + j by omega]
          have HSHA := hid hsha
          clear hsha hat2
          generalize works (padded bs) start (k + j) = st at *
          obtain ⟨z, hz, hz2⟩ := HR0.out
          have HZ := hid hz2
          have hsb : st.bytes.length = 32 := St.bytes_length _
          have HZS := hid (show z.size = ((st.bytes).map by8).toArray.size by simp [hz, hsb])
          have HI := hid (show (Tryd.prog.info? 37).map (·.size) = some ((st.bytes).map by8).toArray.size by simp only [List.size_toArray, List.length_map, hsb]; kernel_rfl)
          have HO1 : Hid (((st.bytes).map by8).toArray.all (·.oneCell') = true) := hid (by simp [by8, Value.oneCell'])
          clear hz hz2 hsb
          go_wp2_with fail
          refine (bytes_any st.a st.b st.c st.d st.e st.f st.g st.h wr hwok).mono ?_
          rintro e' w3 ⟨rfl, hb2⟩
          rw [show (⟨st.a, st.b, st.c, st.d, st.e, st.f, st.g, st.h⟩ : St) = st from rfl]
          have HZ3 := hid ((hb2.block _ (block_lt HZ.out)).trans HZ.out)
          replace hbr := hbr.trans (hb2.mono hsz)
          clear o0 o1 o2 o3 o4 o5 o6 o7 hb2 hsz
          go_wp2_with (first
            | (refine wpList_store_row rfl 37 (.tmp 2) (.tmp 36) rfl w.heap.size ((st.bytes).map by8).toArray rfl rfl 37 _ HZ3.out HI.out HZS.out HO1.out ?_)
            | (refine bodyPost_ret (v := .agg ((st.bytes).map by8).toArray) (results_cell_row rfl _ _ w.heap.size 37 ((st.bytes).map by8).toArray (0, 0) _ rfl (setRow_heap _ _ _ _ _ _ HZ3.out) Tryd.underlying37 rfl HI.out) rfl ⟨by rw [HSHA.out], below_setRow hbr (Nat.le_refl _) _⟩))
end Go.Proofs.YthkeofinamedfaaDoor
