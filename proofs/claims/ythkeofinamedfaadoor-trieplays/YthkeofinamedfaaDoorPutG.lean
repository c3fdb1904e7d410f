/- Put and Delete once more: where the slices of the entries lie. -/
import Derived.Test.YthkeofinamedfaaDoorPutF
import Derived.Test.YthkeofinamedfaaDoorRootsP
import Derived.Test.YthkeofinamedfaaDoorRef4E
namespace Go.Proofs.YthkeofinamedfaaDoor
open Go.RowKit
set_option linter.unusedVariables false
set_option maxRecDepth 20000

namespace Nod
/-- The slices of all keys and values. -/
def slices : Nod → List Value
  | leaf _ kv vv _ _ => [kv, vv]
  | fork _ _ l r => l.slices ++ r.slices

theorem setv_slices : ∀ (x : Nod) (key : List UInt8) (vv : Value) (v : List UInt8) (u : Value), u ∈ (x.setv key vv v).slices → u ∈ x.slices ∨ u = vv
  | leaf b kv vv' k v', key, vv, v, u, h => by
    simp only [setv, slices, List.mem_cons, List.not_mem_nil, or_false] at h ⊢
    rcases h with h | h
    · exact .inl (.inl h)
    · exact .inr h
  | fork b p l r, key, vv, v, u, h => by
    simp only [setv] at h
    split at h
    · simp only [slices, List.mem_append] at h ⊢
      rcases h with h | h
      · exact .inl (.inl h)
      · exact (setv_slices r key vv v u h).imp .inr id
    · simp only [slices, List.mem_append] at h ⊢
      rcases h with h | h
      · exact (setv_slices l key vv v u h).imp .inl id
      · exact .inl (.inr h)

theorem mk_slices (b : Nat) (old added : Nod) (key : List UInt8) (place : Nat) (u : Value) (h : u ∈ (mk b old added key place).slices) : u ∈ old.slices ∨ u ∈ added.slices := by
  unfold mk at h
  split at h
  · simp only [slices, List.mem_append] at h ⊢
    exact h
  · simp only [slices, List.mem_append] at h ⊢
    exact h.symm

theorem graft_slices : ∀ (x : Nod) (key : List UInt8) (place nb : Nat) (added : Nod) (u : Value), u ∈ (x.graft key place nb added).slices → u ∈ x.slices ∨ u ∈ added.slices
  | leaf b kv vv k v, key, place, nb, added, u, h => mk_slices b (leaf nb kv vv k v) added key place u h
  | fork b p l r, key, place, nb, added, u, h => by
    simp only [graft] at h
    split at h
    · exact mk_slices b (fork nb p l r) added key place u h
    · split at h
      · simp only [slices, List.mem_append] at h ⊢
        rcases h with h | h
        · exact .inl (.inl h)
        · exact (graft_slices r key place nb added u h).imp .inr id
      · simp only [slices, List.mem_append] at h ⊢
        rcases h with h | h
        · exact (graft_slices l key place nb added u h).imp .inl id
        · exact .inl (.inr h)

theorem move_slices (nb : Nat) (x : Nod) : (x.move nb).slices = x.slices := by cases x <;> rfl

theorem cutN_slices : ∀ (x : Nod) (key : List UInt8) (y : Nod), x.cutN key = some y → ∀ u ∈ y.slices, u ∈ x.slices
  | leaf b kv vv k v, key, y, h, u, hu => by cases h
  | fork b p l r, key, y, h, u, hu => by
    simp only [cutN] at h
    split at h
    · split at h
      · cases h; rw [move_slices] at hu; simp [slices, hu]
      · rename_i r' hr
        cases h
        simp only [slices, List.mem_append] at hu ⊢
        exact hu.imp id (fun hu => cutN_slices r key r' hr u hu)
    · split at h
      · cases h; rw [move_slices] at hu; simp [slices, hu]
      · rename_i l' hl
        cases h
        simp only [slices, List.mem_append] at hu ⊢
        exact hu.imp (fun hu => cutN_slices l key l' hl u hu) id
end Nod

/-- What Put leaves. -/
def PutEnd2 (tb : Nat) (o : Option Nod) (key val : List UInt8) (w w' : World) : Prop :=
  ∃ y, TreeAt w' tb (some y) ∧ y.tri = Tri.put (triO o) (key, val) ∧ (∀ b ∈ y.blks, own tb o b ∨ w.heap.size ≤ b) ∧ Spares (own tb o) w w' ∧ ∀ u ∈ y.slices, (∃ x, o = some x ∧ u ∈ x.slices) ∨ ∀ g, u.ownBlock = some g → w.heap.size ≤ g ∧ g < w'.heap.size

set_option maxHeartbeats 4000000 in
theorem put_first2 (tb : Nat) (kv vv : Value) (key val : List UInt8) (w : World) (ht : TreeAt w tb none) (hk : Says w kv key) (hv : Says w vv val) (hs : Tri.short (key, val)) :
    Calls Tryd.prog 23 #[.pointer (some ⟨tb, 0, none⟩), kv, vv] w fun e w' => e = .returned (.int .i64 0) ∧ PutEnd2 tb none key val w w' := by
  have HL := isLong_any _ _ kv vv key val w hk hv
  rw [decide_eq_false (by unfold Tri.short at hs; simp at hs; omega)] at HL
  have HF := leaf_any tb none kv key w ht hk
  simp only [endO] at HF
  obtain ⟨a1, c1, rfl, _⟩ := id hk
  obtain ⟨a2, c2, rfl, _⟩ := id hv
  have htb : tb < w.heap.size := (Array.getElem?_eq_some_iff.1 ht.head).1
  have HH := hid ht.head
  have HK := hid hk
  have HV := hid hv
  clear ht hk hv
  go_enter Tryd.func23, Tryd.ntmps23
  go_wp2_with (first
    | (go_at_call 42; refine HL.mono ?_; clear HL; rintro e w' ⟨rfl, rfl⟩)
    | (go_at_call 45; refine HF.mono ?_; clear HF; rintro e w1 ⟨rfl, hb1⟩
       have HC := entry_any _ _ key val w1 (HK.out.new hb1) (HV.out.new hb1) (by have := hs.1; simp at this; omega) (by have := hs.2; simp at this; omega))
    | (go_at_call 41; refine HC.mono ?_; clear HC; rintro e w2 ⟨kv', vv', rfl, hkc, hvc, hkv, hb2⟩
       obtain ⟨a3, c3, rfl⟩ := hkc.form
       obtain ⟨a4, c4, rfl⟩ := hvc.form
       have hbw := hb1.trans (hb2.mono hb1.size)
       have hh2 := (hbw.block tb htb).trans HH.out
       have t0 : w2.cell? ⟨tb, 0, none⟩ = some (.pointer none) := by rw [cell_of_row _ _ _ _ _ _ hh2]; rfl
       have t1 : w2.cell? ⟨tb, 1, none⟩ = some (.int .i64 0) := by rw [cell_of_row _ _ _ _ _ _ hh2]; rfl
       have tf : ∀ j, w2.frozen? ⟨tb, j, none⟩ = false := fun j => by simp [World.frozen?, hh2]
       have tl : tb < w2.heap.size := (Array.getElem?_eq_some_iff.1 hh2).1
       have HH2 := hid hh2
       have HBW := hid hbw
       have HKC := hid hkc
       have HVC := hid hvc
       have HNK : Hid (∀ g, (Value.slice a3 key.length c3).ownBlock = some g → w'.heap.size ≤ g ∧ g < w2.heap.size) := hid (fun g hg => ⟨Nat.le_trans hb1.size (hkc.lt g hg).1, (hkc.lt g hg).2⟩)
       have HNV : Hid (∀ g, (Value.slice a4 val.length c4).ownBlock = some g → w'.heap.size ≤ g ∧ g < w2.heap.size) := hid (fun g hg => ⟨Nat.le_trans hb1.size (hvc.lt g hg).1, (hvc.lt g hg).2⟩)
       clear hkc hvc hkv hb2 hh2 hbw))
  have HW := hid (head_world w2 tb _ _ (.pointer (some ⟨w2.heap.size, 0, none⟩)) (.int .i64 1) (.cells #[.slice a3 key.length c3, .slice a4 val.length c4, .int .i64 0, .pointer none, .pointer none] 84) (by simp) (by simp) HH2.out)
  go_ret
  refine ⟨rfl, ?_⟩
  obtain ⟨h1, h2, h3, h4⟩ := HW.out
  refine ⟨.leaf w2.heap.size (.slice a3 key.length c3) (.slice a4 val.length c4) key val, ⟨h1, fun x e => ?_, fun x e => ?_, hs⟩, rfl, fun b hb => ?_, ?_, ?_⟩
  · cases e
    exact ⟨h2, HKC.out.says.bytes h4, HVC.out.says.bytes h4⟩
  · cases e
    simp [Nod.blks]
  · simp [Nod.blks] at hb
    subst hb
    exact .inr HBW.out.size
  · exact (Spares.of_new HBW.out).andThen h3 (fun i hi => .inl (.inl hi))
  · intro u hu
    simp only [Nod.slices, List.mem_cons, List.not_mem_nil, or_false] at hu
    have hz := h3.size
    rcases hu with rfl | rfl
    · exact .inr fun g hg => ⟨(HNK.out g hg).1, Nat.lt_of_lt_of_le (HNK.out g hg).2 hz⟩
    · exact .inr fun g hg => ⟨(HNV.out g hg).1, Nat.lt_of_lt_of_le (HNV.out g hg).2 hz⟩

set_option maxHeartbeats 4000000 in
theorem put_set2 (tb : Nat) (x : Nod) (kv vv : Value) (key val : List UInt8) (w : World) (ht : TreeAt w tb (some x)) (hk : Says w kv key) (hv : Says w vv val) (hs : Tri.short (key, val)) (hn : (x.tri.near key).1 = key) :
    Calls Tryd.prog 23 #[.pointer (some ⟨tb, 0, none⟩), kv, vv] w fun e w' => e = .returned (.int .i64 0) ∧ PutEnd2 tb (some x) key val w w' := by
  have HL := isLong_any _ _ kv vv key val w hk hv
  rw [decide_eq_false (by unfold Tri.short at hs; simp at hs; omega)] at HL
  have HF := leaf_any tb (some x) kv key w ht hk
  obtain ⟨b, lk, lv, k, v, he, hne⟩ := Nod.end_leaf x key
  have hlx := Nod.way_lies (ht.lies x rfl) _ (Nod.end_mem x key)
  have hbx := Nod.end_blk x key
  rw [he] at hlx hbx
  simp only [endO, he, Nod.blk] at HF hbx
  rw [hne] at hn
  obtain rfl : k = key := hn
  obtain ⟨a1, c1, rfl, _⟩ := id hk
  obtain ⟨a2, c2, rfl, _⟩ := id hv
  obtain ⟨hblk, hsk, hsv⟩ := hlx
  obtain ⟨a5, c5, rfl, _⟩ := id hsk
  obtain ⟨a6, c6, rfl, _⟩ := id hsv
  have hbl : b < w.heap.size := (Array.getElem?_eq_some_iff.1 hblk).1
  have HT := hid ht
  have HK := hid hk
  have HV := hid hv
  have HSK := hid hsk
  have HBK := hid hblk
  have HE := hid he
  have HNE := hid hne
  have HBX := hid hbx
  clear ht hk hv hsk hsv hblk he hne hbx
  go_enter Tryd.func23, Tryd.ntmps23
  go_wp2_with (first
    | (go_at_call 42; refine HL.mono ?_; clear HL; rintro e w' ⟨rfl, rfl⟩)
    | (go_at_call 45; refine HF.mono ?_; clear HF; rintro e w1 ⟨rfl, hb1⟩
       have hh1 := (hb1.block b hbl).trans HBK.out
       have h0 : w1.cell? ⟨b, 0, none⟩ = some (.slice a5 k.length c5) := by rw [cell_of_row _ _ _ _ _ _ hh1]; rfl
       have HQ := equal_any _ _ (.slice a5 k.length c5) (.slice a1 k.length c1) k k w1 (HSK.out.new hb1) (HK.out.new hb1)
       rw [decide_eq_true rfl] at HQ
       have HC := copy_any (.slice a2 val.length c2) val w1 (HV.out.new hb1) (by have := hs.2; simp at this; omega)
       clear hh1)
    | (go_at_call 46; refine HQ.mono ?_; clear HQ; rintro e w2 ⟨rfl, rfl⟩)
    | (go_at_call 47; refine HC.mono ?_; clear HC; rintro e w3 ⟨v3, rfl, hvc, hb3⟩
       obtain ⟨a3, c3, rfl⟩ := hvc.form
       have hbw := hb1.trans (hb3.mono hb1.size)
       have hh3 := (hbw.block b hbl).trans HBK.out
       have t1 : w3.cell? ⟨b, 1, none⟩ = some (.slice a6 v.length c6) := by rw [cell_of_row _ _ _ _ _ _ hh3]; rfl
       have tf : ∀ j, w3.frozen? ⟨b, j, none⟩ = false := fun j => by simp [World.frozen?, hh3]
       have HH3 := hid hh3
       have HBW := hid hbw
       have HVC := hid hvc
       have HNV : Hid (∀ g, (Value.slice a3 val.length c3).ownBlock = some g → w'.heap.size ≤ g ∧ g < w3.heap.size) := hid (fun g hg => ⟨Nat.le_trans hb1.size (hvc.lt g hg).1, (hvc.lt g hg).2⟩)
       clear hvc hb3 hbw hh3))
  go_ret
  refine ⟨rfl, ?_⟩
  have hT3 := HT.out.new HBW.out
  have hsp := spares_set w3 ⟨b, 1, none⟩ (.slice a3 val.length c3)
  have hby := hT3.bytes (hsp.mono fun i hi => .inr ⟨x, rfl, by rw [hi]; exact HBX.out⟩)
  have hta := hT3.apart
  have hput : (x.setv k (.slice a3 val.length c3) val).tri = Tri.put (triO (some x)) (k, val) := by
    rw [Nod.setv_tri]
    simp only [triO, Option.map_some, Tri.put, HNE.out]
    rfl
  refine ⟨x.setv k (.slice a3 val.length c3) val, ⟨?_, fun y e => ?_, fun y e => ?_, ?_⟩, hput, fun i hi => ?_, ?_, ?_⟩
  · rw [Below.heap_setCell _ _ _ _ (fun e => hta (by rw [show tb = b from e]; exact HBX.out)), hT3.head]
    simp only [topOf, Nod.setv_blk, triO, Option.map_some, Tri.entsO, Nod.setv_tri, Tri.set_length]
  · cases e
    refine Nod.setv_lies (hT3.lies x rfl) (hT3.nodup x rfl) hby (HVC.out.says.bytes hby) (fun i hi hne => Below.heap_setCell _ _ _ _ (by rw [HE.out] at hne; exact hne)) (fun b' kv' u k' z e' => ?_)
    rw [HE.out] at e'
    cases e'
    exact heap_setCell_same _ _ _ _ _ _ HH3.out
  · cases e
    rw [Nod.setv_blks]
    exact hT3.nodup x rfl
  · show Tri.WF _
    rw [hput]
    exact (Tri.put_spec (triO (some x)) HT.out.wf (k, val) hs).1
  · rw [Nod.setv_blks] at hi
    exact .inl (.inr ⟨x, rfl, hi⟩)
  · exact (Spares.of_new HBW.out).andThen hsp (fun i hi => .inl (.inr ⟨x, rfl, by rw [hi]; exact HBX.out⟩))
  · intro u hu
    rcases Nod.setv_slices x _ _ _ u hu with h | h
    · exact .inl ⟨x, rfl, h⟩
    · subst h; exact .inr fun g hg => ⟨(HNV.out g hg).1, Nat.lt_of_lt_of_le (HNV.out g hg).2 hsp.size⟩

set_option maxHeartbeats 4000000 in
theorem put_grow2 (tb : Nat) (x : Nod) (kv vv : Value) (key val : List UInt8) (w : World) (ht : TreeAt w tb (some x)) (hk : Says w kv key) (hv : Says w vv val) (hs : Tri.short (key, val)) (hn : (x.tri.near key).1 ≠ key) (hfew : x.tri.ents.length < 1000000000) :
    Calls Tryd.prog 23 #[.pointer (some ⟨tb, 0, none⟩), kv, vv] w fun e w' => e = .returned (.int .i64 0) ∧ PutEnd2 tb (some x) key val w w' := by
  have HL := isLong_any _ _ kv vv key val w hk hv
  rw [decide_eq_false (by unfold Tri.short at hs; simp at hs; omega)] at HL
  have HF := leaf_any tb (some x) kv key w ht hk
  obtain ⟨b, lk, lv, k, v, he, hne⟩ := Nod.end_leaf x key
  have hlx := Nod.way_lies (ht.lies x rfl) _ (Nod.end_mem x key)
  have hkl : k.length ≤ 120 := by have := (Tri.short_of x.tri ht.wf _ (Tri.near_mem x.tri key)).1; rw [hne] at this; exact this
  rw [he] at hlx
  simp only [endO, he, Nod.blk] at HF
  have HPUT : Hid (Tri.put (triO (some x)) (key, val) = x.tri.grow (key, val) (fu k key)) := hid (by
    simp only [triO, Option.map_some, Tri.put]
    rw [if_neg hn, hne])
  rw [hne] at hn
  simp only at hn
  have hful : fu k key < 1080 := by have h1 := fu_lt k key hn; have h2 := hs.1; simp only at h2; omega
  obtain ⟨a1, c1, rfl, _⟩ := id hk
  obtain ⟨a2, c2, rfl, _⟩ := id hv
  obtain ⟨hblk, hsk, hsv⟩ := hlx
  obtain ⟨a5, c5, rfl, _⟩ := id hsk
  have hbl : b < w.heap.size := (Array.getElem?_eq_some_iff.1 hblk).1
  have htb : tb < w.heap.size := (Array.getElem?_eq_some_iff.1 ht.head).1
  have HT := hid ht
  have HK := hid hk
  have HV := hid hv
  have HSK := hid hsk
  have HBK := hid hblk
  clear ht hk hv hsk hsv hblk he hne
  go_enter Tryd.func23, Tryd.ntmps23
  go_wp2_with (first
    | (go_at_call 42; refine HL.mono ?_; clear HL; rintro e w' ⟨rfl, rfl⟩)
    | (go_at_call 45; refine HF.mono ?_; clear HF; rintro e w1 ⟨rfl, hb1⟩
       have hh1 := (hb1.block b hbl).trans HBK.out
       have h0 : w1.cell? ⟨b, 0, none⟩ = some (.slice a5 k.length c5) := by rw [cell_of_row _ _ _ _ _ _ hh1]; rfl
       have HQ := equal_any _ _ (.slice a5 k.length c5) (.slice a1 key.length c1) k key w1 (HSK.out.new hb1) (HK.out.new hb1)
       rw [decide_eq_false hn] at HQ
       have HC := entry_any _ _ key val w1 (HK.out.new hb1) (HV.out.new hb1) (by have := hs.1; simp at this; omega) (by have := hs.2; simp at this; omega)
       clear hh1)
    | (go_at_call 46; refine HQ.mono ?_; clear HQ; rintro e w2 ⟨rfl, rfl⟩)
    | (go_at_call 41; refine HC.mono ?_; clear HC; rintro e w3 ⟨kv', vv', rfl, hkc, hvc, hkv, hb3⟩
       obtain ⟨a3, c3, rfl⟩ := hkc.form
       obtain ⟨a4, c4, rfl⟩ := hvc.form
       have hbw := hb1.trans (hb3.mono hb1.size)
       have hbn := (Below.refl w3.heap.size w3).alloc (Nat.le_refl _) (.cells #[.slice a3 key.length c3, .slice a4 val.length c4, .int .i64 0, .pointer none, .pointer none] 84)
       have hb4 := hbw.trans (hbn.mono hbw.size)
       have hh4 := (hb4.block b hbl).trans HBK.out
       have h04 : (w3.alloc (.cells #[.slice a3 key.length c3, .slice a4 val.length c4, .int .i64 0, .pointer none, .pointer none] 84)).cell? ⟨b, 0, none⟩ = some (.slice a5 k.length c5) := by rw [cell_of_row _ _ _ _ _ _ hh4]; rfl
       have HU := unlike_any _ _ (.slice a5 k.length c5) (.slice a1 key.length c1) k key _ (HSK.out.new hb4) (HK.out.new hb4) (by omega) (by have := hs.1; simp at this; omega)
       have ha : (Nod.leaf w3.heap.size (.slice a3 key.length c3) (.slice a4 val.length c4) key val).Lies (w3.alloc (.cells #[.slice a3 key.length c3, .slice a4 val.length c4, .int .i64 0, .pointer none, .pointer none] 84)) := ⟨World.alloc_heap_new _ _, (hkc.says).new hbn, (hvc.says).new hbn⟩
       have hT4 := HT.out.new hb4
       have HA := hid ha
       have HT4 := hid hT4
       have HB4 := hid hb4
       have HZ : Hid (w3.heap.size ∉ x.blks) := hid (fun hm => by have := (HT.out.lies x rfl).lt _ hm; have := hbw.size; omega)
       have HZ3 := hid hbw.size
       have HNK : Hid (∀ g, (Value.slice a3 key.length c3).ownBlock = some g → w'.heap.size ≤ g ∧ g < w3.heap.size) := hid (fun g hg => ⟨Nat.le_trans hb1.size (hkc.lt g hg).1, (hkc.lt g hg).2⟩)
       have HNV : Hid (∀ g, (Value.slice a4 val.length c4).ownBlock = some g → w'.heap.size ≤ g ∧ g < w3.heap.size) := hid (fun g hg => ⟨Nat.le_trans hb1.size (hvc.lt g hg).1, (hvc.lt g hg).2⟩)
       clear hkc hvc hkv hb3 hbw hh4 ha hT4 hb4 hbn h0)
    | (go_at_call 49; refine HU.mono ?_; clear HU; rintro e w5 ⟨rfl, nq, rfl⟩
       have HBR := branch_any tb w3.heap.size (fu k key) x _ _ key val _ (HT4.out.new (below_drewN _ _ nq)) (HA.out.new (below_drewN _ _ nq)) HZ.out hful)
    | (go_at_call 48; refine HBR.mono ?_; clear HBR; rintro e w6 ⟨⟨u6, rfl⟩, nb, hnb, hlies, hsp⟩
       have hne : tb ≠ (x.spot key (fu k key)).blk := fun e => HT4.out.apart (by rw [e]; exact Nod.spot_mem x key (fu k key))
       have hh6 : w6.heap[tb]? = _ := (hsp.block tb (Array.getElem?_eq_some_iff.1 HT4.out.head).1 hne).trans HT4.out.head
       have t1 : w6.cell? ⟨tb, 1, none⟩ = some (.int .i64 (x.tri.ents.length : Nat)) := by rw [cell_of_row _ _ _ _ _ _ hh6]; rfl
       have tf : ∀ j, w6.frozen? ⟨tb, j, none⟩ = false := fun j => by simp [World.frozen?, hh6]
       have HH6 := hid hh6
       have HSP := hid hsp
       have HLI := hid hlies
       have HNB := hid hnb
       clear hnb hlies hsp hh6 hne))
  have hsz4 : ((w3.alloc (.cells #[.slice a3 key.length c3, .slice a4 val.length c4, .int .i64 0, .pointer none, .pointer none] 84)).drewN nq).heap.size = w3.heap.size + 1 := World.size_alloc _ _
  have hnb := HNB.out
  rw [hsz4] at hnb
  have hz3 := HZ3.out
  have hlt := fun i hi => (HT.out.lies x rfl).lt i hi
  go_ret
  refine ⟨rfl, ?_⟩
  have hsp : Spares (fun i => i = tb) w6 (w6.setCell ⟨tb, 1, none⟩ (.int .i64 ((x.tri.ents.length : Int) + 1))) := spares_set w6 ⟨tb, 1, none⟩ _
  have hby := bytes_head hsp (by simp) (by simp) HH6.out
  have hmem : ∀ i, i ∈ (x.graft key (fu k key) nb (.leaf w3.heap.size (.slice a3 key.length c3) (.slice a4 val.length c4) key val)).blks → i ∈ x.blks ∨ i = nb ∨ i = w3.heap.size := fun i hi => by
    have := (Nod.graft_blks _ _ _ _ _ i).1 hi
    simpa [Nod.blks] using this
  have htri : (x.graft key (fu k key) nb (.leaf w3.heap.size (.slice a3 key.length c3) (.slice a4 val.length c4) key val)).tri = Tri.put (triO (some x)) (key, val) := by rw [Nod.graft_tri, HPUT.out]
  refine ⟨_, ⟨?_, fun y e => ?_, fun y e => ?_, ?_⟩, htri, fun i hi => ?_, ?_, ?_⟩
  · rw [heap_setCell_same _ _ _ _ _ _ HH6.out]
    simp only [topOf, Nod.graft_blk, triO, Option.map_some, Tri.entsO, Nod.graft_tri, Tri.grow_length]
    rfl
  · cases e
    refine HLI.out.keeps hby fun i hi => hsp.block i (HLI.out.lt i hi) (fun e => ?_)
    rcases hmem i hi with h | h | h
    · exact HT.out.apart (by rw [← e]; exact h)
    · omega
    · omega
  · cases e
    exact Nod.graft_nodup _ _ _ _ _ (HT.out.nodup x rfl) (by simp [Nod.blks]) (fun hm => by have := hlt _ hm; omega) (by simp [Nod.blks]; omega) (fun i hi => by simp [Nod.blks]; have := hlt i hi; omega)
  · show Tri.WF _
    rw [htri]
    exact (Tri.put_spec (triO (some x)) HT.out.wf (key, val) hs).1
  · rcases hmem i hi with h | h | h
    · exact .inl (.inr ⟨x, rfl, h⟩)
    · exact .inr (by omega)
    · exact .inr (by omega)
  · refine (((Spares.of_new HB4.out).andThen (T := fun _ => False) (Spares.of_new (below_drewN _ _ nq)) (fun i hi => hi.elim)).andThen HSP.out (fun i hi => .inl (.inr ⟨x, rfl, ?_⟩))).andThen hsp (fun i hi => .inl (.inl hi))
    rw [hi]
    exact Nod.spot_mem x key (fu k key)
  · intro u hu
    rcases Nod.graft_slices x _ _ _ _ u hu with h | h
    · exact .inl ⟨x, rfl, h⟩
    · simp only [Nod.slices, List.mem_cons, List.not_mem_nil, or_false] at h
      have hz1 := HSP.out.size
      rw [hsz4] at hz1
      have hz2 := hsp.size
      rcases h with rfl | rfl
      · exact .inr fun g hg => ⟨(HNK.out g hg).1, by have := (HNK.out g hg).2; omega⟩
      · exact .inr fun g hg => ⟨(HNV.out g hg).1, by have := (HNV.out g hg).2; omega⟩

theorem put_any2 (tb : Nat) (o : Option Nod) (kv vv : Value) (key val : List UInt8) (w : World) (ht : TreeAt w tb o) (hk : Says w kv key) (hv : Says w vv val) (hs : Tri.short (key, val)) (hfew : (Tri.entsO (triO o)).length < 1000000000) :
    Calls Tryd.prog 23 #[.pointer (some ⟨tb, 0, none⟩), kv, vv] w fun e w' => e = .returned (.int .i64 0) ∧ PutEnd2 tb o key val w w' := by
  cases o with
  | none => exact put_first2 tb kv vv key val w ht hk hv hs
  | some x =>
    by_cases hn : (x.tri.near key).1 = key
    · exact put_set2 tb x kv vv key val w ht hk hv hs hn
    · exact put_grow2 tb x kv vv key val w ht hk hv hs hn hfew

/-- A TREE: its blocks and those of its entries are of S. -/
structure TS (S : Nat → Prop) (w : World) (tb : Nat) (T : Option Tri) : Prop where
  ex : ∃ o, TreeAt w tb o ∧ triO o = T ∧ (∀ b, own tb o b → S b) ∧ ∀ x, o = some x → ∀ u ∈ x.slices, InS S u
  lt : ∀ i, S i → i < w.heap.size

theorem TS.B {S : Nat → Prop} {w : World} {tb : Nat} {T : Option Tri} (h : TS S w tb T) : TreeB 0 w tb T := by
  obtain ⟨⟨o, h1, h2, _⟩, _⟩ := h
  exact ⟨o, h1, h2, fun _ _ => Nat.zero_le _⟩

theorem TS.wf {S : Nat → Prop} {w : World} {tb : Nat} {T : Option Tri} (h : TS S w tb T) : Tri.WFO T := h.B.wf

theorem lies_keep : ∀ {x : Nod} {S R : Nat → Prop} {w w' : World}, x.Lies w → (∀ b ∈ x.blks, S b) → (∀ u ∈ x.slices, InS S u) → Spares R w w' → (∀ i, S i → ¬ R i) → x.Lies w'
  | .leaf b kv vv k v, S, R, w, w', h, hb, hu, hk, hd => ⟨(hk.block b (block_lt h.1) (hd b (hb b (by simp [Nod.blks])))).trans h.1, Says.keep h.2.1 (hu kv (by simp [Nod.slices])) hk hd, Says.keep h.2.2 (hu vv (by simp [Nod.slices])) hk hd⟩
  | .fork b p l r, S, R, w, w', h, hb, hu, hk, hd => ⟨(hk.block b (block_lt h.1) (hd b (hb b (by simp [Nod.blks])))).trans h.1, lies_keep h.2.1 (fun i hi => hb i (by simp [Nod.blks, hi])) (fun u hu' => hu u (by simp [Nod.slices, hu'])) hk hd, lies_keep h.2.2 (fun i hi => hb i (by simp [Nod.blks, hi])) (fun u hu' => hu u (by simp [Nod.slices, hu'])) hk hd⟩

theorem TS.keep {S R : Nat → Prop} {w w' : World} {tb : Nat} {T : Option Tri} (h : TS S w tb T) (hk : Spares R w w') (hd : ∀ i, S i → ¬ R i) : TS S w' tb T := by
  obtain ⟨⟨o, h1, h2, h3, h4⟩, h5⟩ := h
  refine ⟨⟨o, ⟨(hk.block tb (block_lt h1.head) (hd tb (h3 tb (.inl rfl)))).trans h1.head, fun x e => lies_keep (h1.lies x e) (fun b hb => h3 b (.inr ⟨x, e, hb⟩)) (h4 x e) hk hd, h1.nodup, h1.wf⟩, h2, h3, h4⟩, fun i hi => Nat.lt_of_lt_of_le (h5 i hi) hk.size⟩

theorem TS.new {S : Nat → Prop} {w w' : World} {tb : Nat} {T : Option Tri} (h : TS S w tb T) (hb : Below w.heap.size w w') : TS S w' tb T := h.keep (R := fun _ => False) (Spares.of_new hb) (fun _ _ => id)

theorem new_S (w : World) : Calls Tryd.prog 9 #[] w fun e w' => e = .returned (.pointer (some ⟨w.heap.size, 0, none⟩)) ∧ TS (fun i => i = w.heap.size) w' w.heap.size none ∧ Below w.heap.size w w' :=
  (new_any w).mono fun e w' ⟨h1, h2, h3, h4⟩ => ⟨h1, ⟨⟨none, h2, rfl, fun b hb => (by rcases hb with rfl | ⟨x, e, _⟩; (exact rfl); (cases e)), fun x e => (by cases e)⟩, fun i hi => by omega⟩, h3⟩

theorem put_S (S : Nat → Prop) (tb : Nat) (T : Option Tri) (kv vv : Value) (key val : List UInt8) (w : World) (ht : TS S w tb T) (hk : Says w kv key) (hv : Says w vv val) (hs : Tri.short (key, val)) (hfew : (Tri.entsO T).length < 1000000000) :
    Calls Tryd.prog 23 #[.pointer (some ⟨tb, 0, none⟩), kv, vv] w fun e w' => e = .returned (.int .i64 0) ∧ TS (ext S w w') w' tb (some (Tri.put T (key, val))) ∧ Spares S w w' := by
  obtain ⟨⟨o, h1, rfl, h3, h4⟩, h5⟩ := ht
  refine (put_any2 tb o kv vv key val w h1 hk hv hs hfew).mono ?_
  rintro e w' ⟨rfl, y, hy, hyt, hyb, hsp, hsl⟩
  have hlt : ∀ u ∈ y.slices, ∀ g, u.ownBlock = some g → ext S w w' g := fun u hu g hg => by
    rcases hsl u hu with ⟨x, e, hx⟩ | h
    · exact .inl (h4 x e u hx g hg)
    · exact .inr (h g hg)
  refine ⟨rfl, ⟨⟨some y, hy, by simp [triO, hyt], ?_, fun x e => by cases e; exact fun u hu g hg => hlt u hu g hg⟩, fun i hi => ?_⟩, hsp.mono h3⟩
  · rintro b (rfl | ⟨x, e, hi⟩)
    · exact .inl (h3 _ (.inl rfl))
    · cases e
      rcases hyb b hi with h | h
      · exact .inl (h3 b h)
      · exact .inr ⟨h, (hy.lies y rfl).lt b hi⟩
  · rcases hi with hi | hi
    · exact Nat.lt_of_lt_of_le (h5 i hi) hsp.size
    · exact hi.2

theorem TS.more {S S' : Nat → Prop} {w : World} {tb : Nat} {T : Option Tri} (h : TS S w tb T) (hS : ∀ i, S i → S' i) (hl : ∀ i, S' i → i < w.heap.size) : TS S' w tb T := by
  obtain ⟨⟨o, h1, h2, h3, h4⟩, h5⟩ := h
  exact ⟨⟨o, h1, h2, fun b hb => hS b (h3 b hb), fun x e u hu => (h4 x e u hu).mono hS⟩, hl⟩

theorem delete_S (S : Nat → Prop) (tb : Nat) (T : Option Tri) (kv : Value) (key : List UInt8) (w : World) (ht : TS S w tb T) (hk : Says w kv key) (hfew : (Tri.entsO T).length < 1000000000) :
    Calls Tryd.prog 25 #[.pointer (some ⟨tb, 0, none⟩), kv] w fun e w' => e = .returned (.bool (look T key).isSome) ∧ TS S w' tb (dropT T key) ∧ Spares S w w' := by
  obtain ⟨⟨o, h1, rfl, h3, h4⟩, h5⟩ := ht
  refine (delete_any tb o kv key w h1 hk hfew).mono ?_
  rintro e w' ⟨rfl, h | ⟨x, rfl, hn, hd, hs, hsp⟩⟩
  · refine ⟨rfl, ⟨⟨o, h1.new h.2, ?_, h3, h4⟩, fun i hi => Nat.lt_of_lt_of_le (h5 i hi) h.2.size⟩, Spares.of_new h.2⟩
    cases o with
    | none => rfl
    | some x =>
      have h0 := h.1
      simp only [look, triO, Option.map_some, dropT] at h0 ⊢
      split at h0
      · cases h0
      · rename_i hne; rw [if_neg hne]
  · refine ⟨rfl, ⟨⟨x.cutN key, hd, ?_, fun b hb => h3 b (hs b hb), fun y e u hu => h4 x rfl u (Nod.cutN_slices x key y e u hu)⟩, fun i hi => Nat.lt_of_lt_of_le (h5 i hi) hsp.size⟩, hsp.mono h3⟩
    simp only [dropT, triO, Option.map_some, if_pos hn]
    exact Nod.cutN_tri x key
end Go.Proofs.YthkeofinamedfaaDoor
