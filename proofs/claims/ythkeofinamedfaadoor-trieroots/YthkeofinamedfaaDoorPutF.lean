/- Contract of trie.Tree.Put. -/
import Derived.Test.YthkeofinamedfaaDoorBranchF
namespace Go.Proofs.YthkeofinamedfaaDoor
open Go.RowKit
set_option linter.unusedVariables false
set_option maxRecDepth 20000

namespace Nod
/-- Another value in the leaf to which a key leads. -/
def setv : Nod → List UInt8 → Value → List UInt8 → Nod
  | leaf b kv _ k _, _, vv, v => leaf b kv vv k v
  | fork b p l r, key, vv, v => if bit key p then fork b p l (r.setv key vv v) else fork b p (l.setv key vv v) r

theorem setv_tri : ∀ (x : Nod) (key : List UInt8) (vv : Value) (v : List UInt8), (x.setv key vv v).tri = x.tri.set (key, v)
  | leaf b kv _ k _, key, vv, v => rfl
  | fork b p l r, key, vv, v => by
    simp only [setv, tri, Tri.set]
    split
    · simp only [tri, setv_tri r]
    · simp only [tri, setv_tri l]

theorem setv_blk : ∀ (x : Nod) (key : List UInt8) (vv : Value) (v : List UInt8), (x.setv key vv v).blk = x.blk
  | leaf b kv _ k _, key, vv, v => rfl
  | fork b p l r, key, vv, v => by
    simp only [setv]
    split <;> rfl

theorem setv_blks : ∀ (x : Nod) (key : List UInt8) (vv : Value) (v : List UInt8), (x.setv key vv v).blks = x.blks
  | leaf b kv _ k _, key, vv, v => rfl
  | fork b p l r, key, vv, v => by
    simp only [setv]
    split
    · simp only [blks, setv_blks r]
    · simp only [blks, setv_blks l]

theorem end_blk : ∀ (x : Nod) (key : List UInt8), (x.end' key).blk ∈ x.blks
  | leaf b kv _ k _, key => by simp [end', blk, blks]
  | fork b p l r, key => by
    simp only [end', blks, List.mem_cons, List.mem_append]
    split
    · exact .inr (.inr (end_blk r key))
    · exact .inr (.inl (end_blk l key))

theorem setv_lies : ∀ {x : Nod} {w w' : World} {key : List UInt8} {vv : Value} {v : List UInt8}, x.Lies w → x.blks.Nodup → Bytes w w' → Says w' vv v →
    (∀ b ∈ x.blks, b ≠ (x.end' key).blk → w'.heap[b]? = w.heap[b]?) → (∀ b kv u k z, x.end' key = leaf b kv u k z → w'.heap[b]? = some (.cells #[kv, vv, .int .i64 0, .pointer none, .pointer none] 84 (0, 0))) → (x.setv key vv v).Lies w'
  | leaf b kv _ k _, w, w', key, vv, v, hx, hn, hb, hv, hk, he => ⟨he b kv _ k _ rfl, hx.2.1.bytes hb, hv⟩
  | fork b p l r, w, w', key, vv, v, hx, hn, hb, hv, hk, he => by
    simp only [blks, List.nodup_cons, List.mem_append, not_or, List.nodup_append] at hn
    obtain ⟨⟨hb1, hb2⟩, hl, hr, hd⟩ := hn
    simp only [setv]
    simp only [end'] at he hk
    cases hbit : bit key p with
    | true =>
      simp only [hbit, if_true] at he hk ⊢
      have hs := end_blk r key
      refine ⟨?_, hx.2.1.keeps hb fun i hi => hk i (by simp [blks, hi]) (fun e => hd i hi _ hs e), setv_lies hx.2.2 hr hb hv (fun i hi => hk i (by simp [blks, hi])) he⟩
      rw [hk b (by simp [blks]) (fun e => hb2 (by rw [e]; exact hs))]
      have := hx.1
      simp only [at', setv_blk] at this ⊢
      exact this
    | false =>
      simp only [hbit, Bool.false_eq_true, if_false] at he hk ⊢
      have hs := end_blk l key
      refine ⟨?_, setv_lies hx.2.1 hl hb hv (fun i hi => hk i (by simp [blks, hi])) he, hx.2.2.keeps hb fun i hi => hk i (by simp [blks, hi]) (fun e => hd _ hs i hi e.symm)⟩
      rw [hk b (by simp [blks]) (fun e => hb1 (by rw [e]; exact hs))]
      have := hx.1
      simp only [at', setv_blk] at this ⊢
      exact this
end Nod

theorem TreeAt.apart {w : World} {tb : Nat} {x : Nod} (h : TreeAt w tb (some x)) : tb ∉ x.blks := fun hm => by
  obtain ⟨cs, hc, _⟩ := (h.lies x rfl).all tb hm
  rw [h.head] at hc
  cases hc

theorem bytes_head {w w' : World} {tb : Nat} {p n : Value} (sp : Spares (fun i => i = tb) w w') (hp : ∀ i, p ≠ .int .u8 i) (hn : ∀ i, n ≠ .int .u8 i) (h : w.heap[tb]? = some (.cells #[p, n] 69 (0, 0))) : Bytes w w' :=
  ⟨sp.size, fun ad i hc => sp.cell hc fun e => by
    unfold World.cell? at hc
    rw [e, h] at hc
    simp only at hc
    split at hc
    · cases hc
    · match hoff : ad.off, hc with
      | 0, hc => simp at hc; exact hp i hc
      | 1, hc => simp at hc; exact hn i hc
      | k + 2, hc => simp at hc⟩

/-- A tree's block rewritten, a new block. -/
theorem head_world (w : World) (tb : Nat) (p n p' n' : Value) (o : Obj) (hp : ∀ i, p ≠ .int .u8 i) (hn : ∀ i, n ≠ .int .u8 i) (h : w.heap[tb]? = some (.cells #[p, n] 69 (0, 0))) :
    (((w.setCell ⟨tb, 0, none⟩ p').setCell ⟨tb, 1, none⟩ n').alloc o).heap[tb]? = some (.cells #[p', n'] 69 (0, 0)) ∧ (((w.setCell ⟨tb, 0, none⟩ p').setCell ⟨tb, 1, none⟩ n').alloc o).heap[w.heap.size]? = some o ∧
    Spares (fun b => b = tb) w (((w.setCell ⟨tb, 0, none⟩ p').setCell ⟨tb, 1, none⟩ n').alloc o) ∧ Bytes w (((w.setCell ⟨tb, 0, none⟩ p').setCell ⟨tb, 1, none⟩ n').alloc o) := by
  have h2 : ((w.setCell ⟨tb, 0, none⟩ p').setCell ⟨tb, 1, none⟩ n').heap[tb]? = some (.cells #[p', n'] 69 (0, 0)) := heap_setCell_same _ _ _ _ _ _ (heap_setCell_same _ _ _ _ _ _ h)
  have hz : ((w.setCell ⟨tb, 0, none⟩ p').setCell ⟨tb, 1, none⟩ n').heap.size = w.heap.size := by simp [World.setCell]
  have sp : Spares (fun b => b = tb) w (((w.setCell ⟨tb, 0, none⟩ p').setCell ⟨tb, 1, none⟩ n').alloc o) :=
    (spares_set2 w tb 0 1 p' n').andThen (T := fun _ => False) (Spares.of_new ((Below.refl _ _).alloc (Nat.le_refl _) _)) (fun i hi => hi.elim)
  refine ⟨(Below.heap_alloc _ _ _ (Array.getElem?_eq_some_iff.1 h2).1).trans h2, ?_, sp, ⟨sp.size, fun ad i hc => sp.cell hc fun e => ?_⟩⟩
  · have := World.alloc_heap_new ((w.setCell ⟨tb, 0, none⟩ p').setCell ⟨tb, 1, none⟩ n') o
    rwa [hz] at this
  · unfold World.cell? at hc
    rw [e, h] at hc
    simp only at hc
    split at hc
    · cases hc
    · rename_i hsp
      match hoff : ad.off, hc with
      | 0, hc => simp at hc; exact hp i hc
      | 1, hc => simp at hc; exact hn i hc
      | k + 2, hc => simp at hc

/-- What Put leaves. -/
def PutEnd (tb : Nat) (o : Option Nod) (key val : List UInt8) (w w' : World) : Prop :=
  ∃ y, TreeAt w' tb (some y) ∧ y.tri = Tri.put (triO o) (key, val) ∧ (∀ b ∈ y.blks, own tb o b ∨ w.heap.size ≤ b) ∧ Spares (own tb o) w w'

set_option maxHeartbeats 2000000 in
theorem put_long (tb : Nat) (kv vv : Value) (key val : List UInt8) (w : World) (hk : Says w kv key) (hv : Says w vv val) (hl : ¬ Tri.short (key, val)) :
    Calls Tryd.prog 23 #[.pointer (some ⟨tb, 0, none⟩), kv, vv] w fun e w' => e = .returned (.int .i64 2) ∧ w' = w := by
  have HL := isLong_any _ _ kv vv key val w hk hv
  rw [decide_eq_true (by unfold Tri.short at hl; simp at hl; omega)] at HL
  obtain ⟨a1, c1, rfl, _⟩ := id hk
  obtain ⟨a2, c2, rfl, _⟩ := id hv
  go_enter Tryd.func23, Tryd.ntmps23
  go_wp2_with (go_at_call 42; refine HL.mono ?_; rintro e w' ⟨rfl, rfl⟩)
  go_ret
  exact ⟨rfl, rfl⟩

set_option maxHeartbeats 4000000 in
theorem put_first (tb : Nat) (kv vv : Value) (key val : List UInt8) (w : World) (ht : TreeAt w tb none) (hk : Says w kv key) (hv : Says w vv val) (hs : Tri.short (key, val)) :
    Calls Tryd.prog 23 #[.pointer (some ⟨tb, 0, none⟩), kv, vv] w fun e w' => e = .returned (.int .i64 0) ∧ PutEnd tb none key val w w' := by
  have HL := isLong_any _ _ kv vv key val w hk hv
  rw [decide_eq_false (by unfold Tri.short at hs; simp at hs; omega)] at HL
  have HF := leaf_any tb none kv key w ht hk
  simp only [endO] at HF
  obtain ⟨a1, c1, rfl, _⟩ := id hk
  obtain ⟨a2, c2, rfl, _⟩ := id hv
  have htb : tb < w.heap.size := (Array.getElem?_eq_some_iff.1 ht.head).1
  have HH := hid ht.head
  have HK := hid hk
  have HV := hid hv
  clear ht hk hv
  go_enter Tryd.func23, Tryd.ntmps23
  go_wp2_with (first
    | (go_at_call 42; refine HL.mono ?_; clear HL; rintro e w' ⟨rfl, rfl⟩)
    | (go_at_call 45; refine HF.mono ?_; clear HF; rintro e w1 ⟨rfl, hb1⟩
       have HC := entry_any _ _ key val w1 (HK.out.new hb1) (HV.out.new hb1) (by have := hs.1; simp at this; omega) (by have := hs.2; simp at this; omega))
    | (go_at_call 41; refine HC.mono ?_; clear HC; rintro e w2 ⟨kv', vv', rfl, hkc, hvc, hkv, hb2⟩
       obtain ⟨a3, c3, rfl⟩ := hkc.form
       obtain ⟨a4, c4, rfl⟩ := hvc.form
       have hbw := hb1.trans (hb2.mono hb1.size)
       have hh2 := (hbw.block tb htb).trans HH.out
       have t0 : w2.cell? ⟨tb, 0, none⟩ = some (.pointer none) := by rw [cell_of_row _ _ _ _ _ _ hh2]; rfl
       have t1 : w2.cell? ⟨tb, 1, none⟩ = some (.int .i64 0) := by rw [cell_of_row _ _ _ _ _ _ hh2]; rfl
       have tf : ∀ j, w2.frozen? ⟨tb, j, none⟩ = false := fun j => by simp [World.frozen?, hh2]
       have tl : tb < w2.heap.size := (Array.getElem?_eq_some_iff.1 hh2).1
       have HH2 := hid hh2
       have HBW := hid hbw
       have HKC := hid hkc
       have HVC := hid hvc
       clear hkc hvc hkv hb2 hh2 hbw))
  have HW := hid (head_world w2 tb _ _ (.pointer (some ⟨w2.heap.size, 0, none⟩)) (.int .i64 1) (.cells #[.slice a3 key.length c3, .slice a4 val.length c4, .int .i64 0, .pointer none, .pointer none] 84) (by simp) (by simp) HH2.out)
  go_ret
  refine ⟨rfl, ?_⟩
  obtain ⟨h1, h2, h3, h4⟩ := HW.out
  refine ⟨.leaf w2.heap.size (.slice a3 key.length c3) (.slice a4 val.length c4) key val, ⟨h1, fun x e => ?_, fun x e => ?_, hs⟩, rfl, fun b hb => ?_, ?_⟩
  · cases e
    exact ⟨h2, HKC.out.says.bytes h4, HVC.out.says.bytes h4⟩
  · cases e
    simp [Nod.blks]
  · simp [Nod.blks] at hb
    subst hb
    exact .inr HBW.out.size
  · exact (Spares.of_new HBW.out).andThen h3 (fun i hi => .inl (.inl hi))

set_option maxHeartbeats 4000000 in
theorem put_set (tb : Nat) (x : Nod) (kv vv : Value) (key val : List UInt8) (w : World) (ht : TreeAt w tb (some x)) (hk : Says w kv key) (hv : Says w vv val) (hs : Tri.short (key, val)) (hn : (x.tri.near key).1 = key) :
    Calls Tryd.prog 23 #[.pointer (some ⟨tb, 0, none⟩), kv, vv] w fun e w' => e = .returned (.int .i64 0) ∧ PutEnd tb (some x) key val w w' := by
  have HL := isLong_any _ _ kv vv key val w hk hv
  rw [decide_eq_false (by unfold Tri.short at hs; simp at hs; omega)] at HL
  have HF := leaf_any tb (some x) kv key w ht hk
  obtain ⟨b, lk, lv, k, v, he, hne⟩ := Nod.end_leaf x key
  have hlx := Nod.way_lies (ht.lies x rfl) _ (Nod.end_mem x key)
  have hbx := Nod.end_blk x key
  rw [he] at hlx hbx
  simp only [endO, he, Nod.blk] at HF hbx
  rw [hne] at hn
  obtain rfl : k = key := hn
  obtain ⟨a1, c1, rfl, _⟩ := id hk
  obtain ⟨a2, c2, rfl, _⟩ := id hv
  obtain ⟨hblk, hsk, hsv⟩ := hlx
  obtain ⟨a5, c5, rfl, _⟩ := id hsk
  obtain ⟨a6, c6, rfl, _⟩ := id hsv
  have hbl : b < w.heap.size := (Array.getElem?_eq_some_iff.1 hblk).1
  have HT := hid ht
  have HK := hid hk
  have HV := hid hv
  have HSK := hid hsk
  have HBK := hid hblk
  have HE := hid he
  have HNE := hid hne
  have HBX := hid hbx
  clear ht hk hv hsk hsv hblk he hne hbx
  go_enter Tryd.func23, Tryd.ntmps23
  go_wp2_with (first
    | (go_at_call 42; refine HL.mono ?_; clear HL; rintro e w' ⟨rfl, rfl⟩)
    | (go_at_call 45; refine HF.mono ?_; clear HF; rintro e w1 ⟨rfl, hb1⟩
       have hh1 := (hb1.block b hbl).trans HBK.out
       have h0 : w1.cell? ⟨b, 0, none⟩ = some (.slice a5 k.length c5) := by rw [cell_of_row _ _ _ _ _ _ hh1]; rfl
       have HQ := equal_any _ _ (.slice a5 k.length c5) (.slice a1 k.length c1) k k w1 (HSK.out.new hb1) (HK.out.new hb1)
       rw [decide_eq_true rfl] at HQ
       have HC := copy_any (.slice a2 val.length c2) val w1 (HV.out.new hb1) (by have := hs.2; simp at this; omega)
       clear hh1)
    | (go_at_call 46; refine HQ.mono ?_; clear HQ; rintro e w2 ⟨rfl, rfl⟩)
    | (go_at_call 47; refine HC.mono ?_; clear HC; rintro e w3 ⟨v3, rfl, hvc, hb3⟩
       obtain ⟨a3, c3, rfl⟩ := hvc.form
       have hbw := hb1.trans (hb3.mono hb1.size)
       have hh3 := (hbw.block b hbl).trans HBK.out
       have t1 : w3.cell? ⟨b, 1, none⟩ = some (.slice a6 v.length c6) := by rw [cell_of_row _ _ _ _ _ _ hh3]; rfl
       have tf : ∀ j, w3.frozen? ⟨b, j, none⟩ = false := fun j => by simp [World.frozen?, hh3]
       have HH3 := hid hh3
       have HBW := hid hbw
       have HVC := hid hvc
       clear hvc hb3 hbw hh3))
  go_ret
  refine ⟨rfl, ?_⟩
  have hT3 := HT.out.new HBW.out
  have hsp := spares_set w3 ⟨b, 1, none⟩ (.slice a3 val.length c3)
  have hby := hT3.bytes (hsp.mono fun i hi => .inr ⟨x, rfl, by rw [hi]; exact HBX.out⟩)
  have hta := hT3.apart
  have hput : (x.setv k (.slice a3 val.length c3) val).tri = Tri.put (triO (some x)) (k, val) := by
    rw [Nod.setv_tri]
    simp only [triO, Option.map_some, Tri.put, HNE.out]
    rfl
  refine ⟨x.setv k (.slice a3 val.length c3) val, ⟨?_, fun y e => ?_, fun y e => ?_, ?_⟩, hput, fun i hi => ?_, ?_⟩
  · rw [Below.heap_setCell _ _ _ _ (fun e => hta (by rw [show tb = b from e]; exact HBX.out)), hT3.head]
    simp only [topOf, Nod.setv_blk, triO, Option.map_some, Tri.entsO, Nod.setv_tri, Tri.set_length]
  · cases e
    refine Nod.setv_lies (hT3.lies x rfl) (hT3.nodup x rfl) hby (HVC.out.says.bytes hby) (fun i hi hne => Below.heap_setCell _ _ _ _ (by rw [HE.out] at hne; exact hne)) (fun b' kv' u k' z e' => ?_)
    rw [HE.out] at e'
    cases e'
    exact heap_setCell_same _ _ _ _ _ _ HH3.out
  · cases e
    rw [Nod.setv_blks]
    exact hT3.nodup x rfl
  · show Tri.WF _
    rw [hput]
    exact (Tri.put_spec (triO (some x)) HT.out.wf (k, val) hs).1
  · rw [Nod.setv_blks] at hi
    exact .inl (.inr ⟨x, rfl, hi⟩)
  · exact (Spares.of_new HBW.out).andThen hsp (fun i hi => .inl (.inr ⟨x, rfl, by rw [hi]; exact HBX.out⟩))

set_option maxHeartbeats 4000000 in
theorem put_grow (tb : Nat) (x : Nod) (kv vv : Value) (key val : List UInt8) (w : World) (ht : TreeAt w tb (some x)) (hk : Says w kv key) (hv : Says w vv val) (hs : Tri.short (key, val)) (hn : (x.tri.near key).1 ≠ key) (hfew : x.tri.ents.length < 1000000000) :
    Calls Tryd.prog 23 #[.pointer (some ⟨tb, 0, none⟩), kv, vv] w fun e w' => e = .returned (.int .i64 0) ∧ PutEnd tb (some x) key val w w' := by
  have HL := isLong_any _ _ kv vv key val w hk hv
  rw [decide_eq_false (by unfold Tri.short at hs; simp at hs; omega)] at HL
  have HF := leaf_any tb (some x) kv key w ht hk
  obtain ⟨b, lk, lv, k, v, he, hne⟩ := Nod.end_leaf x key
  have hlx := Nod.way_lies (ht.lies x rfl) _ (Nod.end_mem x key)
  have hkl : k.length ≤ 120 := by have := (Tri.short_of x.tri ht.wf _ (Tri.near_mem x.tri key)).1; rw [hne] at this; exact this
  rw [he] at hlx
  simp only [endO, he, Nod.blk] at HF
  have HPUT : Hid (Tri.put (triO (some x)) (key, val) = x.tri.grow (key, val) (fu k key)) := hid (by
    simp only [triO, Option.map_some, Tri.put]
    rw [if_neg hn, hne])
  rw [hne] at hn
  simp only at hn
  have hful : fu k key < 1080 := by have h1 := fu_lt k key hn; have h2 := hs.1; simp only at h2; omega
  obtain ⟨a1, c1, rfl, _⟩ := id hk
  obtain ⟨a2, c2, rfl, _⟩ := id hv
  obtain ⟨hblk, hsk, hsv⟩ := hlx
  obtain ⟨a5, c5, rfl, _⟩ := id hsk
  have hbl : b < w.heap.size := (Array.getElem?_eq_some_iff.1 hblk).1
  have htb : tb < w.heap.size := (Array.getElem?_eq_some_iff.1 ht.head).1
  have HT := hid ht
  have HK := hid hk
  have HV := hid hv
  have HSK := hid hsk
  have HBK := hid hblk
  clear ht hk hv hsk hsv hblk he hne
  go_enter Tryd.func23, Tryd.ntmps23
  go_wp2_with (first
    | (go_at_call 42; refine HL.mono ?_; clear HL; rintro e w' ⟨rfl, rfl⟩)
    | (go_at_call 45; refine HF.mono ?_; clear HF; rintro e w1 ⟨rfl, hb1⟩
       have hh1 := (hb1.block b hbl).trans HBK.out
       have h0 : w1.cell? ⟨b, 0, none⟩ = some (.slice a5 k.length c5) := by rw [cell_of_row _ _ _ _ _ _ hh1]; rfl
       have HQ := equal_any _ _ (.slice a5 k.length c5) (.slice a1 key.length c1) k key w1 (HSK.out.new hb1) (HK.out.new hb1)
       rw [decide_eq_false hn] at HQ
       have HC := entry_any _ _ key val w1 (HK.out.new hb1) (HV.out.new hb1) (by have := hs.1; simp at this; omega) (by have := hs.2; simp at this; omega)
       clear hh1)
    | (go_at_call 46; refine HQ.mono ?_; clear HQ; rintro e w2 ⟨rfl, rfl⟩)
    | (go_at_call 41; refine HC.mono ?_; clear HC; rintro e w3 ⟨kv', vv', rfl, hkc, hvc, hkv, hb3⟩
       obtain ⟨a3, c3, rfl⟩ := hkc.form
       obtain ⟨a4, c4, rfl⟩ := hvc.form
       have hbw := hb1.trans (hb3.mono hb1.size)
       have hbn := (Below.refl w3.heap.size w3).alloc (Nat.le_refl _) (.cells #[.slice a3 key.length c3, .slice a4 val.length c4, .int .i64 0, .pointer none, .pointer none] 84)
       have hb4 := hbw.trans (hbn.mono hbw.size)
       have hh4 := (hb4.block b hbl).trans HBK.out
       have h04 : (w3.alloc (.cells #[.slice a3 key.length c3, .slice a4 val.length c4, .int .i64 0, .pointer none, .pointer none] 84)).cell? ⟨b, 0, none⟩ = some (.slice a5 k.length c5) := by rw [cell_of_row _ _ _ _ _ _ hh4]; rfl
       have HU := unlike_any _ _ (.slice a5 k.length c5) (.slice a1 key.length c1) k key _ (HSK.out.new hb4) (HK.out.new hb4) (by omega) (by have := hs.1; simp at this; omega)
       have ha : (Nod.leaf w3.heap.size (.slice a3 key.length c3) (.slice a4 val.length c4) key val).Lies (w3.alloc (.cells #[.slice a3 key.length c3, .slice a4 val.length c4, .int .i64 0, .pointer none, .pointer none] 84)) := ⟨World.alloc_heap_new _ _, (hkc.says).new hbn, (hvc.says).new hbn⟩
       have hT4 := HT.out.new hb4
       have HA := hid ha
       have HT4 := hid hT4
       have HB4 := hid hb4
       have HZ : Hid (w3.heap.size ∉ x.blks) := hid (fun hm => by have := (HT.out.lies x rfl).lt _ hm; have := hbw.size; omega)
       have HZ3 := hid hbw.size
       clear hkc hvc hkv hb3 hbw hh4 ha hT4 hb4 hbn h0)
    | (go_at_call 49; refine HU.mono ?_; clear HU; rintro e w5 ⟨rfl, nq, rfl⟩
       have HBR := branch_any tb w3.heap.size (fu k key) x _ _ key val _ (HT4.out.new (below_drewN _ _ nq)) (HA.out.new (below_drewN _ _ nq)) HZ.out hful)
    | (go_at_call 48; refine HBR.mono ?_; clear HBR; rintro e w6 ⟨⟨u6, rfl⟩, nb, hnb, hlies, hsp⟩
       have hne : tb ≠ (x.spot key (fu k key)).blk := fun e => HT4.out.apart (by rw [e]; exact Nod.spot_mem x key (fu k key))
       have hh6 : w6.heap[tb]? = _ := (hsp.block tb (Array.getElem?_eq_some_iff.1 HT4.out.head).1 hne).trans HT4.out.head
       have t1 : w6.cell? ⟨tb, 1, none⟩ = some (.int .i64 (x.tri.ents.length : Nat)) := by rw [cell_of_row _ _ _ _ _ _ hh6]; rfl
       have tf : ∀ j, w6.frozen? ⟨tb, j, none⟩ = false := fun j => by simp [World.frozen?, hh6]
       have HH6 := hid hh6
       have HSP := hid hsp
       have HLI := hid hlies
       have HNB := hid hnb
       clear hnb hlies hsp hh6 hne))
  have hsz4 : ((w3.alloc (.cells #[.slice a3 key.length c3, .slice a4 val.length c4, .int .i64 0, .pointer none, .pointer none] 84)).drewN nq).heap.size = w3.heap.size + 1 := World.size_alloc _ _
  have hnb := HNB.out
  rw [hsz4] at hnb
  have hz3 := HZ3.out
  have hlt := fun i hi => (HT.out.lies x rfl).lt i hi
  go_ret
  refine ⟨rfl, ?_⟩
  have hsp : Spares (fun i => i = tb) w6 (w6.setCell ⟨tb, 1, none⟩ (.int .i64 ((x.tri.ents.length : Int) + 1))) := spares_set w6 ⟨tb, 1, none⟩ _
  have hby := bytes_head hsp (by simp) (by simp) HH6.out
  have hmem : ∀ i, i ∈ (x.graft key (fu k key) nb (.leaf w3.heap.size (.slice a3 key.length c3) (.slice a4 val.length c4) key val)).blks → i ∈ x.blks ∨ i = nb ∨ i = w3.heap.size := fun i hi => by
    have := (Nod.graft_blks _ _ _ _ _ i).1 hi
    simpa [Nod.blks] using this
  have htri : (x.graft key (fu k key) nb (.leaf w3.heap.size (.slice a3 key.length c3) (.slice a4 val.length c4) key val)).tri = Tri.put (triO (some x)) (key, val) := by rw [Nod.graft_tri, HPUT.out]
  refine ⟨_, ⟨?_, fun y e => ?_, fun y e => ?_, ?_⟩, htri, fun i hi => ?_, ?_⟩
  · rw [heap_setCell_same _ _ _ _ _ _ HH6.out]
    simp only [topOf, Nod.graft_blk, triO, Option.map_some, Tri.entsO, Nod.graft_tri, Tri.grow_length]
    rfl
  · cases e
    refine HLI.out.keeps hby fun i hi => hsp.block i (HLI.out.lt i hi) (fun e => ?_)
    rcases hmem i hi with h | h | h
    · exact HT.out.apart (by rw [← e]; exact h)
    · omega
    · omega
  · cases e
    exact Nod.graft_nodup _ _ _ _ _ (HT.out.nodup x rfl) (by simp [Nod.blks]) (fun hm => by have := hlt _ hm; omega) (by simp [Nod.blks]; omega) (fun i hi => by simp [Nod.blks]; have := hlt i hi; omega)
  · show Tri.WF _
    rw [htri]
    exact (Tri.put_spec (triO (some x)) HT.out.wf (key, val) hs).1
  · rcases hmem i hi with h | h | h
    · exact .inl (.inr ⟨x, rfl, h⟩)
    · exact .inr (by omega)
    · exact .inr (by omega)
  · refine (((Spares.of_new HB4.out).andThen (T := fun _ => False) (Spares.of_new (below_drewN _ _ nq)) (fun i hi => hi.elim)).andThen HSP.out (fun i hi => .inl (.inr ⟨x, rfl, ?_⟩))).andThen hsp (fun i hi => .inl (.inl hi))
    rw [hi]
    exact Nod.spot_mem x key (fu k key)

theorem put_any (tb : Nat) (o : Option Nod) (kv vv : Value) (key val : List UInt8) (w : World) (ht : TreeAt w tb o) (hk : Says w kv key) (hv : Says w vv val) (hs : Tri.short (key, val)) (hfew : (Tri.entsO (triO o)).length < 1000000000) :
    Calls Tryd.prog 23 #[.pointer (some ⟨tb, 0, none⟩), kv, vv] w fun e w' => e = .returned (.int .i64 0) ∧ PutEnd tb o key val w w' := by
  cases o with
  | none => exact put_first tb kv vv key val w ht hk hv hs
  | some x =>
    by_cases hn : (x.tri.near key).1 = key
    · exact put_set tb x kv vv key val w ht hk hv hs hn
    · exact put_grow tb x kv vv key val w ht hk hv hs hn hfew
end Go.Proofs.YthkeofinamedfaaDoor
