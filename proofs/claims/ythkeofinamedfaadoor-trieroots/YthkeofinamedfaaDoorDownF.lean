/- The iterator trie.Tree.down: the nodes to which a key leads, from the top. -/
import Derived.Test.YthkeofinamedfaaDoorNode
import Derived.RangeFuncNested
import Derived.RangeFuncBound
import Derived.RangeFuncCalls
import Derived.RangeFuncLeaves
import Derived.RangeFuncBox
import Derived.Shelf.Abstract
import Derived.Shelf.RegionOpen
import Derived.WalkKit
import Derived.WalkMore
import Derived.OwnWalkIn
import Derived.TacticsInMore
import Derived.LoopNIn
import Derived.LoopIn
import Derived.Sort.LoopGhostIn
import Derived.Sort.QuietIn
namespace Go.Proofs.YthkeofinamedfaaDoor
open Go.RowKit Go.Shelf
set_option linter.unusedVariables false
set_option maxRecDepth 20000
attribute [local go_sem] Oper.semAt_some

/-- What a round keeps that goes on: whatever lay below n, and the box of the key. -/
def KpB (n bk : Nat) (W W' : World) : Prop := Below n W W' ∧ W'.heap[bk]? = W.heap[bk]?

theorem kpB_t {n bk : Nat} {A B C : World} (h : KpB n bk A B) (k : KpB n bk B C) : KpB n bk A C := ⟨h.1.trans k.1, k.2.trans h.2⟩

theorem kpB_b {n bk : Nat} {w : World} (hn : n ≤ w.heap.size) (hk : bk < w.heap.size) (W : World) (l : Nat) (o o' : Obj) (hl : w.heap.size ≤ l) (h : W.heap[l]? = some o) (h1 : o.isCells = false) (h2 : o.isWalk = false) : KpB n bk W (W.putObj l o') :=
  ⟨belowK_b hn W l o o' hl h h1 h2, World.putObj_heap_other (by omega)⟩

/-- The nodes of a way. -/
abbrev Step (o : Option Nod) (key : List UInt8) : Type := { x : Nod // x ∈ wayO o key }

set_option maxHeartbeats 2000000 in
/-- 't.down(key)': the two are boxed. -/
theorem down_any (tb : Nat) (a : Option Addr) (len cap : Nat) (w : World) :
    Calls Tryd.prog 50 #[.pointer (some ⟨tb, 0, none⟩), .slice a len cap] w fun e w' => e = .returned (.func (.func 71) #[] #[.pointer (some ⟨w.heap.size, 0, none⟩), .pointer (some ⟨w.heap.size + 1, 0, none⟩)]) ∧ w' = (w.alloc (.cells #[.pointer (some ⟨tb, 0, none⟩)] 24)).alloc (.cells #[.slice a len cap] 28) := by
  go_enter Tryd.func50, Tryd.ntmps50
  go_wp2
  go_ret
  exact ⟨rfl, rfl⟩

theorem below_drewN (n : Nat) (w : World) (m : Nat) : Below n w (w.drewN m) := ⟨rfl, rfl, rfl, Nat.le_refl _, fun _ _ => rfl⟩

theorem noGoto_normal (Q : Exit → Act → World → Prop) (a : Act) (w : World) : Exit.noGoto Q .normal a w = Q .normal a w := rfl

theorem wpIn_scope_wide {P : Program} {n : Nat} {c : Code} {Q : Exit → Act → World → Prop} {a : Act} {w : World} (h : c.wpIn Fence.wide n P (Exit.noGoto Q) a w) : (Code.scope c).wpIn Fence.wide n P Q a w :=
  wpIn_wide.2 (wp_scope_straight (wpIn_wide.1 h))

set_option maxHeartbeats 4000000 in
theorem down1_in (n l bt bk n₀ tb : Nat) (a : Option Addr) (len cap : Nat) (key : List UInt8) (o : Option Nod) (J Jx : List (Step o key) → World → Prop)
    (hY : ∀ (pre : List (Step o key)) (x : Step o key) (W : World), J pre W → pre.length < (wayO o key).length → YieldAt Fence.wide (n - 1) Tryd.prog l #[x.1.at'] W fun e W' =>
      (e = .returned (.bool true) ∧ J (pre ++ [x]) W' ∧ KpB n₀ bk W W') ∨ (e = .returned (.bool false) ∧ Jx (pre ++ [x]) W'))
    (W : World) (hbt : W.cell? ⟨bt, 0, none⟩ = some (.pointer (some ⟨tb, 0, none⟩))) (hbk : W.heap[bk]? = some (.cells #[.slice a len cap] 28 (0, 0))) (hsh : Shows n₀ W (.slice a len cap) key)
    (ht : TreeAt W tb o) (hown : ∀ b, own tb o b → b < n₀) (hA : AbidesFrom W.heap.size J) (h0 : J [] W) :
    CallsIn Fence.wide n Tryd.prog 71 #[.func (.yield l) #[] #[], .pointer (some ⟨bt, 0, none⟩), .pointer (some ⟨bk, 0, none⟩)] W fun e W' => (∃ v, e = .returned v) ∧
      ((∃ ys : List (Step o key), ys.map (·.1) = wayO o key ∧ J ys W') ∨ (∃ pre : List (Step o key), pre.map (·.1) <+: wayO o key ∧ Jx pre W')) := by
  have hh0 : W.cell? ⟨tb, 0, none⟩ = some (.pointer (topOf o)) := by rw [cell_of_row _ _ _ _ _ _ ht.head]; rfl
  have HY := hid hY
  have HJ := hid h0
  have HT := hid ht
  have HO := hid hown
  have HA : Hid (∀ pre U m, J pre U → J pre (U.drewN m)) := hid (fun pre U m h => hA pre U (U.drewN m) none h ⟨rfl, rfl, rfl, Nat.le_refl _, fun _ _ _ => rfl⟩ (fun r e => by cases e))
  clear hY h0 ht hown hA
  refine callsIn_of_wp Tryd.func71 rfl trivial ?_ rfl
  simp only [Tryd.ntmps71, List.size_toArray, List.length_cons, List.length_nil, Nat.reduceAdd, Nat.reduceSub, Array.replicate_succ, Array.replicate_zero, List.push_toArray, List.append_toArray, List.nil_append, List.cons_append]
  refine wpIn_scope_wide ?_
  cases o with
  | none =>
    simp only [topOf] at hh0
    gi_wp2
    refine wpIn_label ?_
    gi_wp2
    gi_loopg [4] 0 (fun _ s4 wr => s4 = .pointer none ∧ wr = W)
    case atStart => exact ⟨rfl, rfl⟩
    case round =>
      obtain ⟨rfl, rfl⟩ := hrel
      gi_wp2
      refine ⟨fun _ h => (by cases h), ?_⟩
      gi_wp2
      rw [noGoto_normal]
      go_end0
      exact ⟨⟨_, rfl⟩, .inl ⟨[], rfl, HJ.out⟩⟩
  | some x0 =>
    simp only [topOf] at hh0
    have HL := hid (HT.out.lies x0 rfl)
    have HW : Hid x0.tri.WF := hid HT.out.wf
    have HO2 : Hid (∀ b ∈ x0.blks, b < n₀) := hid (fun b hb => HO.out b (.inr ⟨x0, rfl, hb⟩))
    clear HT HO
    obtain ⟨b0, hb0⟩ : ∃ b0, x0.blk = b0 := ⟨_, rfl⟩
    rw [hb0] at hh0
    have HB0 := hid hb0
    clear hb0
    gi_wp2
    refine wpIn_label ?_
    gi_wp2
    gi_loopg [4] (x0.way key).length (fun kx s4 wr => ∃ (pre : List (Step (some x0) key)) (x : Nod), s4 = x.at' ∧ (x.way key).length ≤ kx ∧ Hid (pre.map (·.1) ++ x.way key = x0.way key) ∧ Hid (J pre wr) ∧ Hid (KpB n₀ bk W wr))
    case atStart => exact ⟨[], x0, by rw [Nod.at', HB0.out], Nat.le_refl _, rfl, HJ, hid ⟨Below.refl _ _, rfl⟩⟩
    case round =>
      obtain ⟨pre, x, rfl, hk, HP, HJ', HK⟩ := hrel
      have hxm : x ∈ x0.way key := by rw [← HP.out]; obtain ⟨r, hr⟩ := x.way_head key; rw [hr]; simp
      have hln : pre.length < (x0.way key).length := by
        have := congrArg List.length HP.out
        obtain ⟨r, hr⟩ := x.way_head key
        rw [hr] at this
        simp at this
        omega
      have hw0 := Nod.ok_way HW.out x hxm
      have hxl := Nod.way_lies HL.out x hxm
      have hxb := HO2.out x.blk (Nod.way_blks x hxm _ x.blk_mem)
      obtain ⟨fn, tmps, assign, body, hy, hR⟩ := HY.out pre ⟨x, hxm⟩ wr HJ'.out hln
      have HX := hid hxl.block
      simp only [Nod.at'] at hy
      cases x with
      | leaf b kv vv k v =>
        simp only [Nod.at', Nod.blk] at hy hxb ⊢
        have HS : Hid ((pre ++ [(⟨.leaf b kv vv k v, hxm⟩ : Step (some x0) key)]).map (·.1) = x0.way key) := hid (by rw [← HP.out]; simp [Nod.way])
        gi_wp2
        refine ⟨fun h => (by cases h), hR.mono ?_⟩
        rintro e W3 (⟨rfl, hJ3, hk3⟩ | ⟨rfl, hJx3⟩)
        · have h3 : W3.cell? ⟨b, 3, none⟩ = some (.pointer none) := by
            rw [hk3.1.cell (p := ⟨b, 3, none⟩) hxb, HK.out.1.cell (p := ⟨b, 3, none⟩) hxb, cell_of_row _ b _ _ _ _ HX.out]; rfl
          have hl := isLeaf_any b none W3 h3
          clear hR hy
          gi_wp2_with (refine ⟨trivial, fun h => (by cases h), ?_⟩; gi_at_call 52; refine (callsIn_wide.2 hl).mono ?_; rintro e w' ⟨rfl, rfl⟩)
          rw [noGoto_normal]
          go_end0
          exact ⟨⟨_, rfl⟩, .inl ⟨_, HS.out, hJ3⟩⟩
        · clear hR hy
          gi_wp2
          rw [noGoto_normal]
          go_end0
          exact ⟨⟨_, rfl⟩, .inr ⟨_, by rw [HS.out]; exact List.prefix_refl _, hJx3⟩⟩
      | fork b p cl cr =>
        simp only [Nod.at', Nod.blk] at hy hxb ⊢
        have hp := Tri.place_bound p _ _ hw0
        have HPR : Hid ((pre ++ [(⟨.fork b p cl cr, hxm⟩ : Step (some x0) key)]).map (·.1) ++ (if bit key p then cr.way key else cl.way key) = x0.way key) := hid (by rw [← HP.out]; simp [Nod.way])
        have HLN : Hid ((if bit key p then cr.way key else cl.way key).length < gk) := hid (by simp only [Nod.way, List.length_cons] at hk; omega)
        gi_wp2
        refine ⟨fun h => (by cases h), hR.mono ?_⟩
        rintro e W3 (⟨rfl, hJ3, hk3⟩ | ⟨rfl, hJx3⟩)
        · have hcell : ∀ j v, (Nod.fork b p cl cr).cells[j]? = some v → W3.cell? ⟨b, j, none⟩ = some v := fun j v hv => by
            rw [hk3.1.cell (p := ⟨b, j, none⟩) hxb, HK.out.1.cell (p := ⟨b, j, none⟩) hxb, cell_of_row _ b _ _ _ _ HX.out]; exact hv
          have h2 : W3.cell? ⟨b, 2, none⟩ = some (.int .i64 p) := hcell 2 _ rfl
          have h3 : W3.cell? ⟨b, 3, none⟩ = some (.pointer (some ⟨cl.blk, 0, none⟩)) := hcell 3 _ rfl
          have h4 : W3.cell? ⟨b, 4, none⟩ = some (.pointer (some ⟨cr.blk, 0, none⟩)) := hcell 4 _ rfl
          have HK3 := hid (kpB_t HK.out hk3)
          have hkc : W3.cell? ⟨bk, 0, none⟩ = some (.slice a len cap) := by
            rw [cell_of_row _ bk _ _ _ _ (HK3.out.2.trans hbk)]; rfl
          have hbit := fun m => bit_any n₀ (.slice a len cap) key p (W3.drewN m) ((hsh.below HK3.out.1).below (below_drewN _ _ _)) (by omega) (by omega)
          simp only [bitI_nat] at hbit
          have hl := isLeaf_any b (some ⟨cl.blk, 0, none⟩) W3 h3
          have HH := hid hJ3
          clear hR hy hcell hJ3 hk3
          obtain ⟨bl, hbl⟩ : ∃ bl, cl.blk = bl := ⟨_, rfl⟩
          obtain ⟨br, hbr⟩ : ∃ br, cr.blk = br := ⟨_, rfl⟩
          rw [hbl] at h3 hl
          rw [hbr] at h4
          have HBL := hid hbl
          have HBR := hid hbr
          clear hbl hbr
          gi_wp2_with (refine ⟨trivial, fun h => (by cases h), ?_⟩; gi_at_call 52; refine (callsIn_wide.2 hl).mono ?_; rintro e w' ⟨rfl, rfl⟩)
          refine wpIn_wide.2 ?_
          cases hb : bit key p with
          | true =>
            simp only [hb] at hbit
            have HPR' := HPR.out
            have HLN' := HLN.out
            rw [if_pos hb] at HPR' HLN'
            have HQ := hid HPR'
            have HQ2 := hid HLN'
            clear HPR HLN HPR' HLN' hb
            go_quiet ((go_at_call 20; exact Calls.quiet_of_same (hbit _)))
            gi_wp2
            gi_roundg (cr.way key).length
            case rel => exact ⟨_, cr, by rw [Nod.at', HBR.out], Nat.le_refl _, HQ, hid (HA.out _ _ _ HH.out), hid ⟨HK3.out.1.trans (below_drewN _ _ _), HK3.out.2⟩⟩
            case measure => exact HQ2.out
          | false =>
            simp only [hb] at hbit
            have HPR' := HPR.out
            have HLN' := HLN.out
            rw [if_neg (by rw [hb]; simp)] at HPR' HLN'
            have HQ := hid HPR'
            have HQ2 := hid HLN'
            clear HPR HLN HPR' HLN' hb
            go_quiet ((go_at_call 20; exact Calls.quiet_of_same (hbit _)))
            gi_wp2
            gi_roundg (cl.way key).length
            case rel => exact ⟨_, cl, by rw [Nod.at', HBL.out], Nat.le_refl _, HQ, hid (HA.out _ _ _ HH.out), hid ⟨HK3.out.1.trans (below_drewN _ _ _), HK3.out.2⟩⟩
            case measure => exact HQ2.out
        · clear hR hy
          gi_wp2
          rw [noGoto_normal]
          go_end0
          exact ⟨⟨_, rfl⟩, .inr ⟨_, ⟨_, HPR.out⟩, hJx3⟩⟩
/-- 'down''s function value, called by a range. -/
theorem down_stops (n bt bk n₀ tb : Nat) (a : Option Addr) (len cap : Nat) (key : List UInt8) (o : Option Nod) (w : World) (hbt : w.cell? ⟨bt, 0, none⟩ = some (.pointer (some ⟨tb, 0, none⟩))) (hbk : w.heap[bk]? = some (.cells #[.slice a len cap] 28 (0, 0)))
    (hsh : Shows n₀ w (.slice a len cap) key) (ht : TreeAt w tb o) (hown : ∀ b, own tb o b → b < n₀) (hn : n₀ ≤ w.heap.size) :
    SeqStopsK Fence.wide n Tryd.prog 71 #[.pointer (some ⟨bt, 0, none⟩), .pointer (some ⟨bk, 0, none⟩)] (fun x : Step o key => #[x.1.at']) (KpB n₀ bk) (fun ys => ys.map (·.1) = wayO o key) (fun pre => pre.map (·.1) <+: wayO o key) (wayO o key).length w :=
  fun l J Jx W hW hA _ hY h0 =>
    down1_in n l bt bk n₀ tb a len cap key o J Jx hY W ((hW.cell (p := ⟨bt, 0, none⟩) (World.block_lt_of_cell? _ _ hbt)).trans hbt) ((hW.block bk (Array.getElem?_eq_some_iff.1 hbk).1).trans hbk) (hsh.below (hW.mono hn)) (ht.new hW) hown hA h0
end Go.Proofs.YthkeofinamedfaaDoor
