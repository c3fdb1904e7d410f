/- The iterator trie.Tree.down: the nodes to which a key leads, from the top. -/
import Derived.Test.YtmafaioohiaenaaDoorNode
import Derived.RangeFuncNested
import Derived.RangeFuncBound
import Derived.RangeFuncCalls
import Derived.RangeFuncLeaves
import Derived.RangeFuncBox
import Derived.Shelf.Abstract
import Derived.Shelf.RegionOpen
import Derived.WalkKit
import Derived.WalkMore
import Derived.OwnWalkIn
import Derived.TacticsInMore
import Derived.LoopNIn
import Derived.LoopIn
import Derived.Sort.LoopGhostIn
import Derived.Sort.QuietIn
import Derived.Test.YtmafaioohiaenaaDoorBase
import Derived.Deep.RegionHeld3
import Derived.Deep.RegionWith
import Derived.Deep.Heap
namespace Go.Proofs.YtmafaioohiaenaaDoor
open Go.RowKit Go.Shelf
set_option linter.unusedVariables false
set_option maxRecDepth 20000
attribute [local go_sem] Oper.semAt_some

/-- What a round keeps that goes on: whatever lay below n, and the box of the key. -/
def KpB (n bk : Nat) (W W' : World) : Prop := Below n W W' ∧ W'.heap[bk]? = W.heap[bk]?

theorem kpB_t {n bk : Nat} {A B C : World} (h : KpB n bk A B) (k : KpB n bk B C) : KpB n bk A C := ⟨h.1.trans k.1, k.2.trans h.2⟩

theorem kpB_b {n bk : Nat} {w : World} (hn : n ≤ w.heap.size) (hk : bk < w.heap.size) (W : World) (l : Nat) (o o' : Obj) (hl : w.heap.size ≤ l) (h : W.heap[l]? = some o) (h1 : o.isCells = false) (h2 : o.isWalk = false) : KpB n bk W (W.putObj l o') :=
  ⟨belowK_b hn W l o o' hl h h1 h2, World.putObj_heap_other (by omega)⟩

/-- The nodes of a way. -/
abbrev Step (o : Option Nod) (key : List UInt8) : Type := { x : Nod // x ∈ wayO o key }

set_option maxHeartbeats 2000000 in
/-- 't.down(key)': the two are boxed. -/
theorem down_any (tb : Nat) (a : Option Addr) (len cap : Nat) (w : World) :
    Calls Tryd.prog 93 #[.pointer (some ⟨tb, 0, none⟩), .slice a len cap] w fun e w' => e = .returned (.func (.func 107) #[] #[.pointer (some ⟨w.heap.size, 0, none⟩), .pointer (some ⟨w.heap.size + 1, 0, none⟩)]) ∧ w' = (w.alloc (.cells #[.pointer (some ⟨tb, 0, none⟩)] 52)).alloc (.cells #[.slice a len cap] 24) := by
  go_enter Tryd.func93, Tryd.ntmps93
  go_wp2
  go_ret
  exact ⟨rfl, rfl⟩

theorem below_drewN (n : Nat) (w : World) (m : Nat) : Below n w (w.drewN m) := ⟨rfl, rfl, rfl, Nat.le_refl _, fun _ _ => rfl⟩

theorem noGoto_normal (Q : Exit → Act → World → Prop) (a : Act) (w : World) : Exit.noGoto Q .normal a w = Q .normal a w := rfl

theorem wpIn_scope_wide {P : Program} {n : Nat} {c : Code} {Q : Exit → Act → World → Prop} {a : Act} {w : World} (h : c.wpIn Fence.wide n P (Exit.noGoto Q) a w) : (Code.scope c).wpIn Fence.wide n P Q a w :=
  wpIn_wide.2 (wp_scope_straight (wpIn_wide.1 h))

set_option maxHeartbeats 4000000 in
theorem down1_in (n l bt bk n₀ tb : Nat) (a : Option Addr) (len cap : Nat) (key : List UInt8) (o : Option Nod) (J Jx : List (Step o key) → World → Prop)
    (hY : ∀ (pre : List (Step o key)) (x : Step o key) (W : World), J pre W → pre.length < (wayO o key).length → YieldAt Fence.wide (n - 1) Tryd.prog l #[x.1.at'] W fun e W' =>
      (e = .returned (.bool true) ∧ J (pre ++ [x]) W' ∧ KpB n₀ bk W W') ∨ (e = .returned (.bool false) ∧ Jx (pre ++ [x]) W'))
    (W : World) (hbt : W.cell? ⟨bt, 0, none⟩ = some (.pointer (some ⟨tb, 0, none⟩))) (hbk : W.heap[bk]? = some (.cells #[.slice a len cap] 24 (0, 0))) (hsh : Shows n₀ W (.slice a len cap) key)
    (ht : TreeAt W tb o) (hown : ∀ b, own tb o b → b < n₀) (hA : AbidesFrom W.heap.size J) (h0 : J [] W) :
    CallsIn Fence.wide n Tryd.prog 107 #[.func (.yield l) #[] #[], .pointer (some ⟨bt, 0, none⟩), .pointer (some ⟨bk, 0, none⟩)] W fun e W' => (∃ v, e = .returned v) ∧
      ((∃ ys : List (Step o key), ys.map (·.1) = wayO o key ∧ J ys W') ∨ (∃ pre : List (Step o key), pre.map (·.1) <+: wayO o key ∧ Jx pre W')) := by
  have hh0 : W.cell? ⟨tb, 0, none⟩ = some (.pointer (topOf o)) := by rw [cell_of_row _ _ _ _ _ _ ht.head]; rfl
  have HY := hid hY
  have HJ := hid h0
  have HT := hid ht
  have HO := hid hown
  have HA : Hid (∀ pre U m, J pre U → J pre (U.drewN m)) := hid (fun pre U m h => hA pre U (U.drewN m) none h ⟨rfl, rfl, rfl, Nat.le_refl _, fun _ _ _ => rfl⟩ (fun r e => by cases e))
  clear hY h0 ht hown hA
  refine callsIn_of_wp Tryd.func107 rfl trivial ?_ rfl
  simp only [Tryd.ntmps107, List.size_toArray, List.length_cons, List.length_nil, Nat.reduceAdd, Nat.reduceSub, Array.replicate_succ, Array.replicate_zero, List.push_toArray, List.append_toArray, List.nil_append, List.cons_append]
  refine wpIn_scope_wide ?_
  cases o with
  | none =>
    simp only [topOf] at hh0
    gi_wp2
    refine wpIn_label ?_
    gi_wp2
    gi_loopg [4] 0 (fun _ s4 wr => s4 = .pointer none ∧ wr = W)
    case atStart => exact ⟨rfl, rfl⟩
    case round =>
      obtain ⟨rfl, rfl⟩ := hrel
      gi_wp2
      refine ⟨fun _ h => (by cases h), ?_⟩
      gi_wp2
      rw [noGoto_normal]
      go_end0
      exact ⟨⟨_, rfl⟩, .inl ⟨[], rfl, HJ.out⟩⟩
  | some x0 =>
    simp only [topOf] at hh0
    have HL := hid (HT.out.lies x0 rfl)
    have HW : Hid x0.tri.WF := hid HT.out.wf
    have HO2 : Hid (∀ b ∈ x0.blks, b < n₀) := hid (fun b hb => HO.out b (.inr ⟨x0, rfl, hb⟩))
    clear HT HO
    obtain ⟨b0, hb0⟩ : ∃ b0, x0.blk = b0 := ⟨_, rfl⟩
    rw [hb0] at hh0
    have HB0 := hid hb0
    clear hb0
    gi_wp2
    refine wpIn_label ?_
    gi_wp2
    gi_loopg [4] (x0.way key).length (fun kx s4 wr => ∃ (pre : List (Step (some x0) key)) (x : Nod), s4 = x.at' ∧ (x.way key).length ≤ kx ∧ Hid (pre.map (·.1) ++ x.way key = x0.way key) ∧ Hid (J pre wr) ∧ Hid (KpB n₀ bk W wr))
    case atStart => exact ⟨[], x0, by rw [Nod.at', HB0.out], Nat.le_refl _, rfl, HJ, hid ⟨Below.refl _ _, rfl⟩⟩
    case round =>
      obtain ⟨pre, x, rfl, hk, HP, HJ', HK⟩ := hrel
      have hxm : x ∈ x0.way key := by rw [← HP.out]; obtain ⟨r, hr⟩ := x.way_head key; rw [hr]; simp
      have hln : pre.length < (x0.way key).length := by
        have := congrArg List.length HP.out
        obtain ⟨r, hr⟩ := x.way_head key
        rw [hr] at this
        simp at this
        omega
      have hw0 := Nod.ok_way HW.out x hxm
      have hxl := Nod.way_lies HL.out x hxm
      have hxb := HO2.out x.blk (Nod.way_blks x hxm _ x.blk_mem)
      obtain ⟨fn, tmps, assign, body, hy, hR⟩ := HY.out pre ⟨x, hxm⟩ wr HJ'.out hln
      have HX := hid hxl.block
      simp only [Nod.at'] at hy
      cases x with
      | leaf b kv vv k v =>
        simp only [Nod.at', Nod.blk] at hy hxb ⊢
        have HS : Hid ((pre ++ [(⟨.leaf b kv vv k v, hxm⟩ : Step (some x0) key)]).map (·.1) = x0.way key) := hid (by rw [← HP.out]; simp [Nod.way])
        gi_wp2
        refine ⟨fun h => (by cases h), hR.mono ?_⟩
        rintro e W3 (⟨rfl, hJ3, hk3⟩ | ⟨rfl, hJx3⟩)
        · have h3 : W3.cell? ⟨b, 3, none⟩ = some (.pointer none) := by
            rw [hk3.1.cell (p := ⟨b, 3, none⟩) hxb, HK.out.1.cell (p := ⟨b, 3, none⟩) hxb, cell_of_row _ b _ _ _ _ HX.out]; rfl
          have hl := isLeaf_any b none W3 h3
          clear hR hy
          gi_wp2_with (refine ⟨trivial, fun h => (by cases h), ?_⟩; gi_at_call 94; refine (callsIn_wide.2 hl).mono ?_; rintro e w' ⟨rfl, rfl⟩)
          rw [noGoto_normal]
          go_end0
          exact ⟨⟨_, rfl⟩, .inl ⟨_, HS.out, hJ3⟩⟩
        · clear hR hy
          gi_wp2
          rw [noGoto_normal]
          go_end0
          exact ⟨⟨_, rfl⟩, .inr ⟨_, by rw [HS.out]; exact List.prefix_refl _, hJx3⟩⟩
      | fork b p cl cr =>
        simp only [Nod.at', Nod.blk] at hy hxb ⊢
        have hp := Tri.place_bound p _ _ hw0
        have HPR : Hid ((pre ++ [(⟨.fork b p cl cr, hxm⟩ : Step (some x0) key)]).map (·.1) ++ (if bit key p then cr.way key else cl.way key) = x0.way key) := hid (by rw [← HP.out]; simp [Nod.way])
        have HLN : Hid ((if bit key p then cr.way key else cl.way key).length < gk) := hid (by simp only [Nod.way, List.length_cons] at hk; omega)
        gi_wp2
        refine ⟨fun h => (by cases h), hR.mono ?_⟩
        rintro e W3 (⟨rfl, hJ3, hk3⟩ | ⟨rfl, hJx3⟩)
        · have hcell : ∀ j v, (Nod.fork b p cl cr).cells[j]? = some v → W3.cell? ⟨b, j, none⟩ = some v := fun j v hv => by
            rw [hk3.1.cell (p := ⟨b, j, none⟩) hxb, HK.out.1.cell (p := ⟨b, j, none⟩) hxb, cell_of_row _ b _ _ _ _ HX.out]; exact hv
          have h2 : W3.cell? ⟨b, 2, none⟩ = some (.int .i64 p) := hcell 2 _ rfl
          have h3 : W3.cell? ⟨b, 3, none⟩ = some (.pointer (some ⟨cl.blk, 0, none⟩)) := hcell 3 _ rfl
          have h4 : W3.cell? ⟨b, 4, none⟩ = some (.pointer (some ⟨cr.blk, 0, none⟩)) := hcell 4 _ rfl
          have HK3 := hid (kpB_t HK.out hk3)
          have hkc : W3.cell? ⟨bk, 0, none⟩ = some (.slice a len cap) := by
            rw [cell_of_row _ bk _ _ _ _ (HK3.out.2.trans hbk)]; rfl
          have hbit := fun m => bit_any n₀ (.slice a len cap) key p (W3.drewN m) ((hsh.below HK3.out.1).below (below_drewN _ _ _)) (by omega) (by omega)
          simp only [bitI_nat] at hbit
          have hl := isLeaf_any b (some ⟨cl.blk, 0, none⟩) W3 h3
          have HH := hid hJ3
          clear hR hy hcell hJ3 hk3
          obtain ⟨bl, hbl⟩ : ∃ bl, cl.blk = bl := ⟨_, rfl⟩
          obtain ⟨br, hbr⟩ : ∃ br, cr.blk = br := ⟨_, rfl⟩
          rw [hbl] at h3 hl
          rw [hbr] at h4
          have HBL := hid hbl
          have HBR := hid hbr
          clear hbl hbr
          gi_wp2_with (refine ⟨trivial, fun h => (by cases h), ?_⟩; gi_at_call 94; refine (callsIn_wide.2 hl).mono ?_; rintro e w' ⟨rfl, rfl⟩)
          refine wpIn_wide.2 ?_
          cases hb : bit key p with
          | true =>
            simp only [hb] at hbit
            have HPR' := HPR.out
            have HLN' := HLN.out
            rw [if_pos hb] at HPR' HLN'
            have HQ := hid HPR'
            have HQ2 := hid HLN'
            clear HPR HLN HPR' HLN' hb
            go_quiet ((go_at_call 80; exact Calls.quiet_of_same (hbit _)))
            gi_wp2
            gi_roundg (cr.way key).length
            case rel => exact ⟨_, cr, by rw [Nod.at', HBR.out], Nat.le_refl _, HQ, hid (HA.out _ _ _ HH.out), hid ⟨HK3.out.1.trans (below_drewN _ _ _), HK3.out.2⟩⟩
            case measure => exact HQ2.out
          | false =>
            simp only [hb] at hbit
            have HPR' := HPR.out
            have HLN' := HLN.out
            rw [if_neg (by rw [hb]; simp)] at HPR' HLN'
            have HQ := hid HPR'
            have HQ2 := hid HLN'
            clear HPR HLN HPR' HLN' hb
            go_quiet ((go_at_call 80; exact Calls.quiet_of_same (hbit _)))
            gi_wp2
            gi_roundg (cl.way key).length
            case rel => exact ⟨_, cl, by rw [Nod.at', HBL.out], Nat.le_refl _, HQ, hid (HA.out _ _ _ HH.out), hid ⟨HK3.out.1.trans (below_drewN _ _ _), HK3.out.2⟩⟩
            case measure => exact HQ2.out
        · clear hR hy
          gi_wp2
          rw [noGoto_normal]
          go_end0
          exact ⟨⟨_, rfl⟩, .inr ⟨_, ⟨_, HPR.out⟩, hJx3⟩⟩
/-- 'down''s function value, called by a range. -/
theorem down_stops (n bt bk n₀ tb : Nat) (a : Option Addr) (len cap : Nat) (key : List UInt8) (o : Option Nod) (w : World) (hbt : w.cell? ⟨bt, 0, none⟩ = some (.pointer (some ⟨tb, 0, none⟩))) (hbk : w.heap[bk]? = some (.cells #[.slice a len cap] 24 (0, 0)))
    (hsh : Shows n₀ w (.slice a len cap) key) (ht : TreeAt w tb o) (hown : ∀ b, own tb o b → b < n₀) (hn : n₀ ≤ w.heap.size) :
    SeqStopsK Fence.wide n Tryd.prog 107 #[.pointer (some ⟨bt, 0, none⟩), .pointer (some ⟨bk, 0, none⟩)] (fun x : Step o key => #[x.1.at']) (KpB n₀ bk) (fun ys => ys.map (·.1) = wayO o key) (fun pre => pre.map (·.1) <+: wayO o key) (wayO o key).length w :=
  fun l J Jx W hW hA _ hY h0 =>
    down1_in n l bt bk n₀ tb a len cap key o J Jx hY W ((hW.cell (p := ⟨bt, 0, none⟩) (World.block_lt_of_cell? _ _ hbt)).trans hbt) ((hW.block bk (Array.getElem?_eq_some_iff.1 hbk).1).trans hbk) (hsh.below (hW.mono hn)) (ht.new hW) hown hA h0
end Go.Proofs.YtmafaioohiaenaaDoor

/- Contract of trie.Tree.leaf. -/

namespace Go.Proofs.YtmafaioohiaenaaDoor
open Go.RowKit Go.Shelf
set_option linter.unusedVariables false
set_option maxRecDepth 20000
attribute [local go_sem] Oper.semAt_some

/-- Where the leaf lies to which a key leads. -/
def endO : Option Nod → List UInt8 → Option Addr
  | none, _ => none
  | some x, key => some ⟨(x.end' key).blk, 0, none⟩

/-- Where the last of some nodes lies. -/
def lastOf {o : Option Nod} {key : List UInt8} (pre : List (Step o key)) : Option Addr := pre.getLast?.map fun x => ⟨x.1.blk, 0, none⟩

theorem lastOf_snoc {o : Option Nod} {key : List UInt8} (pre : List (Step o key)) (x : Step o key) : lastOf (pre ++ [x]) = some ⟨x.1.blk, 0, none⟩ := by simp [lastOf]

theorem lastOf_all {o : Option Nod} {key : List UInt8} (pre : List (Step o key)) (h : pre.map (·.1) = wayO o key) : lastOf pre = endO o key := by
  have e : lastOf pre = (pre.map (·.1)).getLast?.map fun x => ⟨x.blk, 0, none⟩ := by
    rw [List.getLast?_map]
    simp [lastOf]
  rw [e, h]
  cases o with
  | none => rfl
  | some x => rw [wayO, Nod.way_last]; rfl

/-- Three new blocks. -/
theorem alloc3 (w : World) (o1 o2 o3 : Obj) : (((w.alloc o1).alloc o2).alloc o3).heap[w.heap.size]? = some o1 ∧ (((w.alloc o1).alloc o2).alloc o3).heap[w.heap.size + 1]? = some o2 ∧ (((w.alloc o1).alloc o2).alloc o3).heap[w.heap.size + 2]? = some o3 ∧
    Below w.heap.size w (((w.alloc o1).alloc o2).alloc o3) ∧ (((w.alloc o1).alloc o2).alloc o3).heap.size = w.heap.size + 3 := by
  have s1 : (w.alloc o1).heap.size = w.heap.size + 1 := World.size_alloc _ _
  have s2 : ((w.alloc o1).alloc o2).heap.size = w.heap.size + 2 := by rw [World.size_alloc, s1]
  have b1 := (Below.refl (w.alloc o1).heap.size (w.alloc o1)).alloc (Nat.le_refl _) o2
  have b2 := (Below.refl ((w.alloc o1).alloc o2).heap.size ((w.alloc o1).alloc o2)).alloc (Nat.le_refl _) o3
  have n1 := World.alloc_heap_new w o1
  have n2 := World.alloc_heap_new (w.alloc o1) o2
  have n3 := World.alloc_heap_new ((w.alloc o1).alloc o2) o3
  rw [s1] at n2
  rw [s2] at n3
  refine ⟨(b2.block _ (by omega)).trans ((b1.block _ (by omega)).trans n1), (b2.block _ (by omega)).trans n2, n3, (((Below.refl _ w).alloc (Nat.le_refl _) _).alloc (by omega) _).alloc (by omega) _, by rw [World.size_alloc, s2]⟩

set_option maxHeartbeats 4000000 in
theorem leaf_any (tb : Nat) (o : Option Nod) (kv : Value) (key : List UInt8) (w : World) (ht : TreeAt w tb o) (hk : Says w kv key) :
    Calls Tryd.prog 65 #[.pointer (some ⟨tb, 0, none⟩), kv] w fun e w' => e = .returned (.pointer (endO o key)) ∧ Below w.heap.size w w' := by
  have hk0 := hk
  obtain ⟨a, c, rfl, g1, g2, gn, g3⟩ := hk
  clear g3 gn
  refine (callsIn_wide (n := 3)).1 ?_
  refine callsIn_of_wp_marks Tryd.func65 rfl trivial ?_ rfl
  simp only [Tryd.ntmps65, List.size_toArray, List.length_cons, List.length_nil, Nat.reduceAdd, Nat.reduceSub, Array.replicate_succ, Array.replicate_zero, List.push_toArray, List.append_toArray, List.nil_append, List.cons_append]
  gi_wp2_with (refine ⟨trivial, ?_⟩; gi_at_call 93; refine (callsIn_wide.2 (down_any _ _ _ _ _)).mono ?_; rintro e w' ⟨rfl, rfl⟩)
  obtain ⟨hc0, hc1, hc2, hB0, hsz⟩ := alloc3 w (.cells #[.pointer none] 95) (.cells #[.pointer (some ⟨tb, 0, none⟩)] 52) (.cells #[.slice a key.length c] 24)
  generalize ((w.alloc (.cells #[.pointer none] 95)).alloc (.cells #[.pointer (some ⟨tb, 0, none⟩)] 52)).alloc (.cells #[.slice a key.length c] 24) = w3 at *
  have ht3 := ht.new hB0
  have hs3 : Shows w.heap.size w3 (.slice a key.length c) key := hk0.below hB0
  refine wpIn_rangeFunc_ownG rfl (by omega) (gf := 107) (lb := #[.pointer (some ⟨w.heap.size + 1, 0, none⟩), .pointer (some ⟨w.heap.size + 1 + 1, 0, none⟩)]) rfl trivial (enters_of Tryd.func107 (by kernel_rfl) rfl)
    (down_stops _ (w.heap.size + 1) (w.heap.size + 1 + 1) w.heap.size tb a key.length c key o w3 (by rw [cell_of_row _ _ _ _ _ _ hc1]; rfl) hc2 hs3 ht3 ht.lt (by omega)) kpB_t (kpB_b (by omega) (by omega)) (Below.refl _ _) (fun _ => rfl)
    (fun pre W => (W.cell? ⟨w.heap.size, 0, none⟩ = some (.pointer (lastOf pre)) ∧ W.frozen? ⟨w.heap.size, 0, none⟩ = false) ∧ Below w.heap.size w W)
    (fun _ _ _ => False)
    (OwnFrom.and (Own.from (fun s A B row hs hg hr => ⟨cell_kept hs.1 hg hr, (frozen_kept hs.1 hg hr).trans hs.2⟩) _) (ownFrom_below (Nat.le_refl _) (by omega)))
    (fun _ _ _ _ _ hs _ _ => hs)
    ⟨⟨by rw [cell_of_row _ _ _ _ _ _ hc0]; rfl, by simp [World.frozen?, hc0]⟩, hB0⟩
    (fun x => { tmps := #[.pointer (some ⟨tb, 0, none⟩), .slice a key.length c, undef, undef, .pointer none, .pointer (some ⟨w.heap.size, 0, none⟩), x.1.at', .pointer (some ⟨tb, 0, none⟩), .slice a key.length c, .func (.func 107) #[] #[.pointer (some ⟨w.heap.size + 1, 0, none⟩), .pointer (some ⟨w.heap.size + 1 + 1, 0, none⟩)], x.1.at', undef, undef], defers := [] }) ?assign ?body ?done ?stop
  case assign =>
    intro l x W K hK
    gi_wp2
    exact hK
  case body =>
    rintro l pre ⟨x, hx⟩ W ⟨⟨hc, hf⟩, hB⟩ _
    obtain ⟨b, hb⟩ : ∃ b, x.blk = b := ⟨_, rfl⟩
    simp only [Nod.at', hb]
    gi_wp2
    refine ⟨(KeepsOthers.setCell _ _ _).from _, ⟨(Below.refl w.heap.size W).setCell (p := ⟨w.heap.size, 0, none⟩) (Nat.le_refl _) _, ?_⟩, ⟨?_, by rw [World.frozen?_setCell]; exact hf⟩, hB.setCell (p := ⟨w.heap.size, 0, none⟩) (Nat.le_refl _) _⟩
    · exact Below.heap_setCell _ _ _ _ (by simp; omega)
    · rw [lastOf_snoc, hb]; exact World.cell?_setCell_same' _ _ _ (by rw [hc]; rfl)
  case done =>
    rintro D ys W hD hS ⟨⟨hc, _⟩, hB⟩ hK
    rw [lastOf_all ys hS] at hc
    gi_wp2
    refine ⟨by simp, .inl ⟨_, _, rfl, run_takeDeferred hK, ?_⟩⟩
    exact ⟨_, results_tmp rfl _ _ _, rfl, hB.trans (belowK_b (w := w) (Nat.le_refl _) W D _ _ (by omega) hK rfl rfl)⟩
  case stop =>
    rintro D c pre W _ _ h _
    exact h.elim
end Go.Proofs.YtmafaioohiaenaaDoor

/- Contracts of bytes.Clone, trie.clone, trie.Tree.Get, Count. -/

namespace Go.Proofs.YtmafaioohiaenaaDoor
open Go.RowKit Go.Shelf
set_option linter.unusedVariables false
set_option maxRecDepth 20000

/-- The value of a key. -/
def look (o : Option Tri) (key : List UInt8) : Option (List UInt8) :=
  match o with
  | none => none
  | some t => if (t.near key).1 = key then some (t.near key).2 else none

/-- A copy: nil of nil, else in a block of its own. -/
def Copy (B : Nat) (w : World) (v : Value) (bs : List UInt8) : Prop := w.ownsRow B 5 1 v bs.length (bs.map by8)

theorem Copy.says {B : Nat} {w : World} {v : Value} {bs : List UInt8} (h : Copy B w v bs) : Says w v bs := (shows_of_owns h).2

theorem Copy.new {B : Nat} {w w' : World} {v : Value} {bs : List UInt8} (h : Copy B w v bs) (hb : Below w.heap.size w w') : Copy B w' v bs :=
  (Spares.of_new (S := fun _ => False) hb).row h (fun _ _ => id)

theorem Copy.spares {S : Nat → Prop} {B B' : Nat} {w w' : World} {v : Value} {bs : List UInt8} (h : Copy B w v bs) (hk : Spares S w w') (hS : ∀ i, S i → i < B) (hB : B' ≤ B) : Copy B' w' v bs :=
  owns_lower (hk.row h (fun g hg hs => by have h1 := (h.lt g hg).1; have h2 := hS g hs; omega)) (fun g hg => by have h1 := (h.lt g hg).1; omega)

theorem spares_set (w : World) (ad : Addr) (v : Value) : Spares (fun b => b = ad.block) w (w.setCell ad v) :=
  ⟨rfl, rfl, rfl, by simp [World.setCell], fun k _ hk => Below.heap_setCell w ad v k hk⟩

theorem spares_set2 (w : World) (g i j : Nat) (u v : Value) : Spares (fun b => b = g) w ((w.setCell ⟨g, i, none⟩ u).setCell ⟨g, j, none⟩ v) :=
  (spares_set w ⟨g, i, none⟩ u).andThen (spares_set _ ⟨g, j, none⟩ v) (fun i hi => .inl hi)

theorem Copy.form {B : Nat} {w : World} {v : Value} {bs : List UInt8} (h : Copy B w v bs) : ∃ a c, v = .slice a bs.length c := by
  rcases h.2 with ⟨rfl, hn⟩ | ⟨g, cap, cur, rfl, _⟩
  · exact ⟨none, 0, by rw [hn]⟩
  · exact ⟨_, _, rfl⟩

set_option maxHeartbeats 1000000 in
theorem copy_any (v : Value) (bs : List UInt8) (w : World) (h : Says w v bs) (hl : bs.length ≤ 70368744177664) :
    Calls Tryd.prog 51 #[v] w fun e w' => ∃ v', e = .returned v' ∧ Copy w.heap.size w' v' bs ∧ Below w.heap.size w w' := by
  have h0 := h
  obtain ⟨a, c, rfl, h1, h2, hn, h3⟩ := h
  cases a with
  | some ad =>
    refine (clone_any ad bs.length c bs w.heap.size w h0 (Nat.le_refl _) hl).mono ?_
    rintro e w' ⟨v', rfl, _, ho, hb⟩
    exact ⟨v', rfl, ho, hb⟩
  | none =>
    have hc := hn rfl
    subst hc
    have hb : bs = [] := List.eq_nil_of_length_eq_zero (by omega)
    subst hb
    have hq := fun wx => Lib.run_eql_slice_nil (P := Tryd.prog) wx 24 5 none 0 0 0 0 Tryd.underlying24
    go_enter Tryd.func51, Tryd.ntmps51
    go_wp2
    go_ret
    exact ⟨_, rfl, World.ownsRow_nil _ _ _ _, Below.refl _ _⟩

theorem Tryd.infoEntry : (Tryd.prog.info? 26).map (·.size) = some 2 := by kernel_rfl

/-- Two new blocks. -/
theorem alloc2 (w : World) (o1 o2 : Obj) : ((w.alloc o1).alloc o2).heap[w.heap.size]? = some o1 ∧ ((w.alloc o1).alloc o2).heap[w.heap.size + 1]? = some o2 ∧ Below w.heap.size w ((w.alloc o1).alloc o2) ∧ ((w.alloc o1).alloc o2).heap.size = w.heap.size + 2 := by
  have s1 : (w.alloc o1).heap.size = w.heap.size + 1 := World.size_alloc _ _
  have b1 := (Below.refl (w.alloc o1).heap.size (w.alloc o1)).alloc (Nat.le_refl _) o2
  have n1 := World.alloc_heap_new w o1
  have n2 := World.alloc_heap_new (w.alloc o1) o2
  rw [s1] at n2
  exact ⟨(b1.block _ (by omega)).trans n1, n2, ((Below.refl _ w).alloc (Nat.le_refl _) _).alloc (by omega) _, by rw [World.size_alloc, s1]⟩

set_option maxHeartbeats 4000000 in
theorem entry_any (kv vv : Value) (k v : List UInt8) (w : World) (hk : Says w kv k) (hv : Says w vv v) (hkl : k.length ≤ 70368744177664) (hvl : v.length ≤ 70368744177664) :
    Calls Tryd.prog 70 #[.agg #[kv, vv]] w fun e w' => ∃ kv' vv', e = .returned (.agg #[kv', vv']) ∧ Copy w.heap.size w' kv' k ∧ Copy w.heap.size w' vv' v ∧ (∀ g, kv'.ownBlock = some g → vv'.ownBlock ≠ some g) ∧ Below w.heap.size w w' := by
  obtain ⟨a1, c1, rfl, _⟩ := id hk
  obtain ⟨a2, c2, rfl, _⟩ := id hv
  obtain ⟨h20, h21, hb2, hz2⟩ := alloc2 w (.cells #[.slice a1 k.length c1, .slice a2 v.length c2] 26) (.cells #[.slice none 0 0, .slice none 0 0] 26)
  go_enter Tryd.func70, Tryd.ntmps70
  go_wp2_with fail
  generalize (w.alloc (.cells #[.slice a1 k.length c1, .slice a2 v.length c2] 26)).alloc (.cells #[.slice none 0 0, .slice none 0 0] 26) = w2 at *
  have hS2 : w2.drew.cell? ⟨w.heap.size, 0, none⟩ = some (.slice a1 k.length c1) ∧ w2.drew.cell? ⟨w.heap.size, 1, none⟩ = some (.slice a2 v.length c2) := ⟨cell_of_row _ _ _ _ _ _ h20, cell_of_row _ _ _ _ _ _ h20⟩
  have hbd : Below w.heap.size w w2.drew := hb2.drew
  have HC1 := copy_any (.slice a1 k.length c1) k w2.drew (hk.new hbd) hkl
  have HV := hid (hv.new hbd)
  have HD := hid hbd
  have H21 : Hid (w2.drew.heap[w.heap.size + 1]? = _) := hid h21
  have HZ : Hid (w2.drew.heap.size = w.heap.size + 2) := hid hz2
  clear h20 h21 hb2 hz2 hk hv hbd
  go_region_held3 (fun w' => w'.cell? ⟨w.heap.size, 0, none⟩ = some (.slice a1 k.length c1) ∧ w'.cell? ⟨w.heap.size, 1, none⟩ = some (.slice a2 v.length c2))
    (first | assumption | go_keep)
    ((go_at_call 51; first
      | (refine HC1.mono ?_; clear HC1; rintro e w3 ⟨kv', rfl, hk3, hb3⟩; obtain ⟨a3, c3, rfl⟩ := hk3.form
         have hz3 := hb3.size
         have hS3 : w3.cell? ⟨w.heap.size, 0, none⟩ = some (.slice a1 k.length c1) ∧ w3.cell? ⟨w.heap.size, 1, none⟩ = some (.slice a2 v.length c2) := ⟨(hb3.cell (p := ⟨w.heap.size, 0, none⟩) (by have := HZ.out; show w.heap.size < _; omega)).trans hS2.1, (hb3.cell (p := ⟨w.heap.size, 1, none⟩) (by have := HZ.out; show w.heap.size < _; omega)).trans hS2.2⟩
         have HC2 := copy_any (.slice a2 v.length c2) v w3 (HV.out.new hb3) hvl
         have HK3 := hid hk3
         have HB3 := hid hb3
         clear hk3 hb3)
      | (refine HC2.mono ?_; clear HC2; rintro e w4 ⟨vv', rfl, hv4, hb4⟩; obtain ⟨a4, c4, rfl⟩ := hv4.form
         have hz4 := hb4.size
         have hS4 : w4.cell? ⟨w.heap.size, 0, none⟩ = some (.slice a1 k.length c1) ∧ w4.cell? ⟨w.heap.size, 1, none⟩ = some (.slice a2 v.length c2) := ⟨(hb4.cell (p := ⟨w.heap.size, 0, none⟩) (by have := HZ.out; show w.heap.size < _; omega)).trans hS3.1, (hb4.cell (p := ⟨w.heap.size, 1, none⟩) (by have := HZ.out; show w.heap.size < _; omega)).trans hS3.2⟩
         have H41 : w4.heap[w.heap.size + 1]? = some (.cells #[.slice none 0 0, .slice none 0 0] 26 (0, 0)) := (hb4.block _ (by have := HZ.out; omega)).trans ((HB3.out.block _ (by have := HZ.out; omega)).trans H21.out)
         have h410 : w4.cell? ⟨w.heap.size + 1, 0, none⟩ = some (.slice none 0 0) := by rw [cell_of_row _ _ _ _ _ _ H41]; rfl
         have h411 : w4.cell? ⟨w.heap.size + 1, 1, none⟩ = some (.slice none 0 0) := by rw [cell_of_row _ _ _ _ _ _ H41]; rfl
         have f410 : w4.frozen? ⟨w.heap.size + 1, 0, none⟩ = false := by simp [World.frozen?, H41]
         have f411 : w4.frozen? ⟨w.heap.size + 1, 1, none⟩ = false := by simp [World.frozen?, H41]
         have HK4 := hid (HK3.out.new hb4)
         have HV4 := hid hv4
         have HB4 := hid hb4
         have H4 := hid H41
         clear hv4 hb4 H41)))
  go_wp2_with fail
  refine bodyPost_ret (v := .agg #[.slice a3 k.length c3, .slice a4 v.length c4]) (results_cell_row (p := 2) (ty := 26) rfl _ _ (w.heap.size + 1) 26 #[.slice a3 k.length c3, .slice a4 v.length c4] (0, 0) _ rfl (heap_setCell_same _ _ _ _ _ _ (heap_setCell_same _ _ _ _ _ _ H4.out)) Tryd.underlying26 rfl Tryd.infoEntry) rfl ⟨_, _, rfl, ?_, ?_, ?_, ?_⟩
  · exact HK4.out.spares (spares_set2 _ _ _ _ _ _) (fun i hi => by have := HZ.out; omega) (by have := HZ.out; omega)
  · exact HV4.out.spares (spares_set2 _ _ _ _ _ _) (fun i hi => by have := HZ.out; omega) (by have := HZ.out; omega)
  · intro g hg hg'
    have h1 := (HK3.out.lt g hg).2
    have h2 := (HV4.out.lt g hg').1
    omega
  · have e1 := HZ.out
    exact ((HD.out.trans ((HB3.out.mono (by omega)).trans (HB4.out.mono (by omega)))).setCell (p := ⟨w.heap.size + 1, 0, none⟩) (by simp) _).setCell (p := ⟨w.heap.size + 1, 1, none⟩) (by simp) _
set_option maxHeartbeats 4000000 in
theorem get_any (tb : Nat) (o : Option Nod) (kv : Value) (key : List UInt8) (w : World) (ht : TreeAt w tb o) (hk : Says w kv key) :
    Calls Tryd.prog 27 #[.pointer (some ⟨tb, 0, none⟩), kv] w fun e w' => ∃ v', e = .returned (.tuple #[v', .bool (look (triO o) key).isSome]) ∧ Copy w.heap.size w' v' ((look (triO o) key).getD []) ∧ Below w.heap.size w w' := by
  have HL := leaf_any tb o kv key w ht hk
  obtain ⟨a, c, rfl, _⟩ := id hk
  cases o with
  | none =>
    simp only [endO] at HL
    go_enter Tryd.func27, Tryd.ntmps27
    go_wp2_with (go_at_call 65; refine HL.mono ?_; rintro e w1 ⟨rfl, hb1⟩)
    go_ret2
    exact ⟨_, rfl, World.ownsRow_nil _ _ _ _, hb1⟩
  | some x =>
    obtain ⟨b, lk, lv, k, v, he, hn⟩ := Nod.end_leaf x key
    have hlx := Nod.way_lies (ht.lies x rfl) _ (Nod.end_mem x key)
    rw [he] at hlx
    simp only [endO, he, Nod.blk] at HL
    have hsh : Tri.short (k, v) := by rw [← hn]; exact Tri.short_of x.tri ht.wf _ (Tri.near_mem _ _)
    obtain ⟨hblk, hsk, hsv⟩ := hlx
    obtain ⟨a1, c1, rfl, _⟩ := id hsk
    obtain ⟨a2, c2, rfl, _⟩ := id hsv
    have hlook : look (triO (some x)) key = if k = key then some v else none := by simp [look, triO, hn]
    have hbl : b < w.heap.size := (Array.getElem?_eq_some_iff.1 hblk).1
    by_cases hkk : k = key
    · rw [hlook, if_pos hkk]
      subst hkk
      clear hlook
      go_enter Tryd.func27, Tryd.ntmps27
      go_wp2_with (first
        | (go_at_call 65; refine HL.mono ?_; clear HL; rintro e w1 ⟨rfl, hb1⟩
           have h0 : w1.cell? ⟨b, 0, none⟩ = some (.slice a1 k.length c1) := by rw [hb1.cell (p := ⟨b, 0, none⟩) hbl, cell_of_row _ _ _ _ _ _ hblk]; rfl
           have h1 : w1.cell? ⟨b, 1, none⟩ = some (.slice a2 v.length c2) := by rw [hb1.cell (p := ⟨b, 1, none⟩) hbl, cell_of_row _ _ _ _ _ _ hblk]; rfl
           have HE := equal_any _ _ (.slice a1 k.length c1) (.slice a k.length c) k k w1 (hsk.new hb1) (hk.new hb1)
           rw [decide_eq_true rfl] at HE
           have HC := copy_any (.slice a2 v.length c2) v w1 (hsv.new hb1) (by have := hsh.2; simp at this; omega))
        | (go_at_call 50; refine HE.mono ?_; clear HE; rintro e w2 ⟨rfl, rfl⟩)
        | (go_at_call 51; refine HC.mono ?_; clear HC; rintro e w3 ⟨v3, rfl, hc3, hb3⟩))
      go_ret2
      exact ⟨_, rfl, owns_lower hc3 (fun g hg => by have h1 := (hc3.lt g hg).1; have h2 := hb1.size; omega), hb1.trans (hb3.mono hb1.size)⟩
    · rw [hlook, if_neg hkk]
      clear hlook
      go_enter Tryd.func27, Tryd.ntmps27
      go_wp2_with (first
        | (go_at_call 65; refine HL.mono ?_; clear HL; rintro e w1 ⟨rfl, hb1⟩
           have h0 : w1.cell? ⟨b, 0, none⟩ = some (.slice a1 k.length c1) := by rw [hb1.cell (p := ⟨b, 0, none⟩) hbl, cell_of_row _ _ _ _ _ _ hblk]; rfl
           have HE := equal_any _ _ (.slice a1 k.length c1) (.slice a key.length c) k key w1 (hsk.new hb1) (hk.new hb1)
           rw [decide_eq_false hkk] at HE)
        | (go_at_call 50; refine HE.mono ?_; clear HE; rintro e w2 ⟨rfl, rfl⟩))
      go_ret2
      exact ⟨_, rfl, World.ownsRow_nil _ _ _ _, hb1⟩

set_option maxHeartbeats 1000000 in
theorem new_any (w : World) :
    Calls Tryd.prog 63 #[] w fun e w' => e = .returned (.pointer (some ⟨w.heap.size, 0, none⟩)) ∧ TreeAt w' w.heap.size none ∧ Below w.heap.size w w' ∧ w'.heap.size = w.heap.size + 1 := by
  go_enter Tryd.func63, Tryd.ntmps63
  go_wp2
  go_ret
  exact ⟨rfl, ⟨World.alloc_heap_new _ _, fun x e => (by cases e), fun x e => (by cases e), trivial⟩, (Below.refl _ _).alloc (Nat.le_refl _) _, World.size_alloc _ _⟩
end Go.Proofs.YtmafaioohiaenaaDoor
