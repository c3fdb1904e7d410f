/- Contract of Tree.leaves: what its iterator tells. -/
import Derived.Test.YtjfipejfejmlaaaBtTellF
namespace Go.Proofs.Ytjfipejfejmlaaa
open Go.RowKit Go.Shelf
set_option linter.unusedVariables false
set_option linter.unusedSimpArgs false
set_option maxRecDepth 20000
attribute [local go_sem] Oper.semAt_some

/-- What the iterator wants kept: whatever lay when its caller began; its way, its boxes. -/
def KpL (n₀ : Nat) (W W' : World) : Prop := Below n₀ W W' ∧ ∀ (k : Nat) (cs : Array Value) (t : TypeId), (t = 84 ∨ t = 58 ∨ t = 94) → W.heap[k]? = some (.cells cs t (0, 0)) → W'.heap[k]? = some (.cells cs t (0, 0))

theorem kpL_refl (n₀ : Nat) (W : World) : KpL n₀ W W := ⟨Below.refl _ _, fun _ _ _ _ h => h⟩
theorem kpL_t {n₀ : Nat} {X Y Z : World} (h : KpL n₀ X Y) (k : KpL n₀ Y Z) : KpL n₀ X Z := ⟨h.1.trans k.1, fun i cs t ht hc => k.2 i cs t ht (h.2 i cs t ht hc)⟩

theorem kpL_put {n₀ : Nat} (W : World) (l : Nat) (o o' : Obj) (hl : n₀ ≤ l) (h : W.heap[l]? = some o) (ho : o.isCells = false) : KpL n₀ W (W.putObj l o') :=
  ⟨⟨rfl, rfl, rfl, by simp, fun k hk => World.putObj_heap_other (by omega)⟩, fun k cs t _ hc => (World.putObj_heap_other (fun e => by subst e; rw [h] at hc; cases hc; cases ho)).trans hc⟩

theorem kpL_own {n₀ B : Nat} {w4 : World} (h4 : n₀ ≤ w4.heap.size) (hB : n₀ ≤ B) {β : Type} : OwnFrom B (fun (_ : β) W => KpL n₀ w4 W) := fun _ W W' row hs hg hr => by
  refine ⟨ownFrom_below h4 hB () W W' row hs.1 hg hr, fun k cs t ht hc => ?_⟩
  have h1 := hs.2 k cs t ht hc
  refine (hg.block k (block_lt h1) (fun e => ?_)).trans h1
  obtain ⟨_, o, ho, hcs⟩ := hr k e.symm
  rw [h1] at ho
  cases ho
  cases hcs

theorem kpL_new {n₀ : Nat} {W W' : World} (hn : n₀ ≤ W.heap.size) (hb : Below W.heap.size W W') : KpL n₀ W W' := ⟨hb.mono hn, fun k cs t _ hc => (hb.block k (block_lt hc)).trans hc⟩

theorem own_below {B : Nat} {J : Nat → World → Prop} (hJ : OwnFrom B J) {k : Nat} {W W' : World} (h : J k W) (hb : Below W.heap.size W W') : J k W' :=
  hJ k W W' none h ⟨hb.os, hb.tape, hb.output, hb.size, fun i hi _ => hb.block i hi⟩ (fun r e => by cases e)

theorem own_up {B B' : Nat} {J : Nat → World → Prop} (hJ : OwnFrom B J) (hB : B ≤ B') : OwnFrom B' J := fun s A C row hs hg hr => hJ s A C row hs hg (fun r e => ⟨by have := (hr r e).1; omega, (hr r e).2⟩)

/-- Between two turns of the way back. -/
def LvI (K : Nat → Prop) (w₀ : World) (c : Ctx 0) (E : List (Pg 0)) (J : Nat → World → Prop) (w4 : World) (k : Nat) (W : World) : Prop :=
  ∃ (h : Nat) (ck : Ctx h) (hb j : Nat), ck.turns = c.turns.take (c.turns.length - k) ∧ ck.Lies K w₀ hb ∧ ck.Ok ∧ ck.later = E.drop j ∧ j ≤ E.length ∧ J j W ∧ KpL w₀.heap.size w4 W

theorem lvI_own {K : Nat → Prop} {w₀ : World} {c : Ctx 0} {E : List (Pg 0)} {J : Nat → World → Prop} {w4 : World} {B : Nat} (hJ : OwnFrom B J) (h4 : w₀.heap.size ≤ w4.heap.size) (hB : w₀.heap.size ≤ B) : OwnFrom B (LvI K w₀ c E J w4) := fun k W W' row hs hg hr => by
  obtain ⟨h, ck, hb, j, h1, h2, h3, h5, h6, h7, h8⟩ := hs
  exact ⟨h, ck, hb, j, h1, h2, h3, h5, h6, hJ j W W' row h7 hg hr, kpL_own h4 hB () W W' row h8 hg hr⟩

/-- A turn, as it comes. -/
theorem lvI_turn {K : Nat → Prop} {w₀ : World} {c : Ctx 0} {E : List (Pg 0)} {J : Nat → World → Prop} {w4 W : World} {k : Nat} {x : Nat × (Nat × Nat)} (hI : LvI K w₀ c E J w4 k W) (hx : (enumB c.turns)[k]? = some x) :
    ∃ (h : Nat) (pb : Nat) (sv fv : Value) (pre post : List (Pg h)) (up : Ctx (h + 1)) (hb j : Nat), x.2 = (pb, pre.length) ∧ up.turns = c.turns.take (c.turns.length - (k + 1)) ∧ (Ctx.down pb sv fv pre post up).Lies K w₀ hb ∧ (Ctx.down pb sv fv pre post up).Ok ∧ post.flatMap (lvs h) ++ up.later = E.drop j ∧ j ≤ E.length ∧ J j W ∧ KpL w₀.heap.size w4 W := by
  obtain ⟨h, ck, hb, j, h1, h2, h3, h5, h6, h7, h8⟩ := hI
  have hkl : k < c.turns.length := by
    have := (List.getElem?_eq_some_iff.1 hx).1
    rwa [enumB_length] at this
  rw [enumB_at c.turns k hkl] at hx
  have hx' := (Option.some.inj hx).symm
  subst hx'
  have hm : c.turns.length - k = c.turns.length - 1 - k + 1 := by omega
  rw [hm, List.take_add_one, List.getElem?_eq_getElem (by omega)] at h1
  cases ck with
  | top =>
    have := congrArg List.length h1
    simp [Ctx.turns] at this
    omega
  | down qb qsv qfv pre post up =>
    simp only [Ctx.turns, Option.toList_some] at h1
    have h2' := List.append_inj' h1 rfl
    have hturn : (qb, pre.length) = c.turns[c.turns.length - 1 - k] := by simpa using h2'.2
    exact ⟨_, qb, qsv, qfv, pre, post, up, hb, j, hturn.symm, by rw [show c.turns.length - (k + 1) = c.turns.length - 1 - k by omega]; exact h2'.1, h2, h3, h5, h6, h7, h8⟩

theorem kpL_row {n₀ B n : Nat} {v : Value} {xs : List Value} {w1 W3 : World} (h : w1.ownsRow B 84 2 v n xs) (hk : KpL n₀ w1 W3) : W3.ownsRow B 84 2 v n xs := by
  rcases h with ⟨h1, ⟨e, h0⟩ | ⟨g, cap, cur, e, hB, hg, hr⟩⟩
  · exact ⟨h1, .inl ⟨e, h0⟩⟩
  · exact ⟨h1, .inr ⟨g, cap, cur, e, hB, hk.2 _ _ _ (.inl rfl) hg, hr⟩⟩

theorem kpA_of_kpL {n₀ bk : Nat} {aw : Option Addr} {cs : Array Value} {w4 W W' : World} (hbk : w4.heap[bk]? = some (.cells cs 58 (0, 0))) (hty : ∀ ad, aw = some ad → ∃ cs, w4.heap[ad.block]? = some (.cells cs 84 (0, 0))) (h1 : KpL n₀ w4 W) (h2 : KpL n₀ W W') : KpA bk aw W W' := by
  refine ⟨?_, fun ad e => ?_⟩
  · have := h1.2 _ _ _ (.inr (.inl rfl)) hbk
    exact (h2.2 _ _ _ (.inr (.inl rfl)) this).trans this.symm
  · obtain ⟨cs', hc⟩ := hty ad e
    have := h1.2 _ _ _ (.inl rfl) hc
    exact (h2.2 _ _ _ (.inl rfl) this).trans this.symm

theorem own_mark {B : Nat} {J : Nat → World → Prop} (hJ : OwnFrom B J) {k D : Nat} {W W' : World} (h : J k W) (hB : B ≤ D) (hD : W.heap[D]? = some (.deferred (some []))) (hs : Spares (fun i => i ∈ [D]) W W') : J k W' :=
  hJ k W W' (some D) h ⟨hs.os, hs.tape, hs.output, hs.size, fun i hi hne => hs.block i hi (fun hm => hne (by rw [List.mem_singleton.1 hm]))⟩ (fun r e => by cases e; exact ⟨hB, _, hD, rfl⟩)

set_option maxHeartbeats 1000000 in
theorem leaves_any (tb : Nat) (kv : Value) (key : List UInt8) (w : World) (hk : Says w kv key) :
    Calls Try.prog 38 #[.pointer (some ⟨tb, 0, none⟩), kv] w fun e w' => e = .returned (.func (.func 53) #[] #[.pointer (some ⟨w.heap.size, 0, none⟩), .pointer (some ⟨w.heap.size + 1, 0, none⟩)]) ∧ w' = (w.alloc (.cells #[.pointer (some ⟨tb, 0, none⟩)] 24)).alloc (.cells #[kv] 30) := by
  obtain ⟨a, c, rfl, _⟩ := id hk
  clear hk
  go_enter Try.func38, Try.ntmps38
  go_wp2
  go_ret
  exact ⟨rfl, rfl⟩

set_option maxHeartbeats 8000000 in
theorem leaves_tells (n : Nat) {H : Nat} {T : Pg H} {K : Nat → Prop} {tb cnt : Nat} {w₀ w : World} (kv : Value) (key : List UInt8) (ht : TreeM K w₀ tb (cnt : Int) T) (hok : OkR H T) (hr : RisesV (flat (H + 1) T)) (hk : Says w₀ kv key) (hH : H < 1000)
    (hb : Below w₀.heap.size w₀ w) (tbx fbx : Nat) (h1 : w.heap[tbx]? = some (.cells #[.pointer (some ⟨tb, 0, none⟩)] 24 (0, 0))) (h2 : w.heap[fbx]? = some (.cells #[kv] 30 (0, 0))) :
    TellsE n Try.prog 53 #[.pointer (some ⟨tbx, 0, none⟩), .pointer (some ⟨fbx, 0, none⟩)] (fun q : Pg 0 => #[.pointer (some ⟨q.pb, 0, none⟩)])
      (fun E => ∃ A, lvs H T = A ++ E ∧ E ≠ [] ∧ ∀ q ∈ A, ∀ x ∈ (q.es : List EntV), Op.bytesLess x.k key = true) (KpL w₀.heap.size) w := by
  intro l J Jx W hW hl hJ hJx hY h0
  have hbW : Below w₀.heap.size w₀ W := hb.trans (hW.mono hb.size)
  obtain ⟨ak, ck, rfl, _⟩ := id hk
  have c1 : W.cell? ⟨tbx, 0, none⟩ = some (.pointer (some ⟨tb, 0, none⟩)) := by rw [cell_of_row _ _ _ _ _ _ ((hW.block _ (block_lt h1)).trans h1)]; rfl
  have c2 : W.cell? ⟨fbx, 0, none⟩ = some (.slice ak key.length ck) := by rw [cell_of_row _ _ _ _ _ _ ((hW.block _ (block_lt h2)).trans h2)]; rfl
  have hbA := new_alloc W (.cells #[.func (.yield l) #[] #[]] 94)
  have hnA := World.alloc_heap_new W (.cells #[.func (.yield l) #[] #[]] 94)
  have hzA : (W.alloc (.cells #[.func (.yield l) #[] #[]] 94)).heap.size = W.heap.size + 1 := World.size_alloc _ _
  have d1 : (W.alloc (.cells #[.func (.yield l) #[] #[]] 94)).cell? ⟨tbx, 0, none⟩ = some (.pointer (some ⟨tb, 0, none⟩)) := (hbA.cell (p := ⟨tbx, 0, none⟩) (World.block_lt_of_cell? W _ c1)).trans c1
  have d2 : (W.alloc (.cells #[.func (.yield l) #[] #[]] 94)).cell? ⟨fbx, 0, none⟩ = some (.slice ak key.length ck) := (hbA.cell (p := ⟨fbx, 0, none⟩) (World.block_lt_of_cell? W _ c2)).trans c2
  have hbY : Below w₀.heap.size w₀ (W.alloc (.cells #[.func (.yield l) #[] #[]] 94)) := hbW.trans (hbA.mono hbW.size)
  have htY := ht.new hbY
  have HW := walk_any H T K tb cnt (.slice ak key.length ck) key (W.alloc (.cells #[.func (.yield l) #[] #[]] 94)) htY.tree htY.lies hok hr (hk.new hbY) hH
  have hpl := fun (c : Ctx 0) (p : Pg 0) (h : c.plug p = ⟨H, T⟩) => (show lvs H T = c.earlier ++ lvs 0 p ++ c.later by have := c.plug_lvs p; rw [h] at this; exact this)
  have HPL := hid hpl
  have HY := hid hY
  have HT := hid ht
  have HOK := hid hok
  have HJ := hid hJ
  have HJX := hid hJx
  have H0 := hid h0
  have HBW := hid hbW
  have HR := hid hr
  clear hpl hY ht hok hJ hJx h0 hr hk c1 c2 htY
  refine callsIn_wide.2 ((callsIn_wide (n := 3)).1 ?_)
  refine callsIn_of_wp_marks Try.func53 rfl trivial ?_ rfl
  simp only [Try.ntmps53, List.size_toArray, List.length_cons, List.length_nil, Nat.reduceAdd, Nat.reduceSub, Array.replicate_succ, Array.replicate_zero, List.push_toArray, List.append_toArray, List.nil_append, List.cons_append]
  gi_wp2_with (first
    | (refine ⟨trivial, ?_⟩; gi_at_call 25; refine (callsIn_wide.2 HW).mono ?_; clear HW; rintro e w1 ⟨wv, c, p, rfl, hp, hrow, hbf, haf, hb1⟩
       obtain ⟨aw, cw, rfl⟩ := row_slice hrow
       have hlv := HPL.out c p hp
       have hE : (fun E : List (Pg 0) => ∃ A, lvs H T = A ++ E ∧ E ≠ [] ∧ ∀ q ∈ A, ∀ x ∈ (q.es : List EntV), Op.bytesLess x.k key = true) (p :: c.later) := ⟨c.earlier, by rw [hlv]; simp [lvs], by simp, fun q hq x hx => hbf x (by rw [← Ctx.earlier_flat]; exact List.mem_flatMap.2 ⟨q, hq, hx⟩)⟩
       have HA := hid (atLeaf_of HT.out.lies HOK.out HR.out hp hbf haf)
       have hbW1 : Below W.heap.size W w1 := hbA.trans (hb1.mono (by omega))
       have hb01 := HBW.out.trans (hbW1.mono HBW.out.size)
       obtain ⟨fn', tmps', assign', body', hy, hR⟩ := HY.out _ hE 2 0 p w1 (own_below (HJ.out _) (H0.out _ hE) hbW1) rfl
       have y1 : w1.cell? ⟨W.heap.size, 0, none⟩ = some (.func (.yield l) #[] #[]) := by rw [cell_of_row _ _ _ _ _ _ ((hb1.block _ (block_lt hnA)).trans hnA)]; rfl
       have HROW := hid hrow
       have HEE := hid hE
       have HP := hid hp
       have HB1 := hid hb1
       have HB01 := hid hb01
       have HBW1 := hid hbW1
       clear hrow hE hp hbf haf hb1 hlv hb01 hbW1 HPL
       obtain ⟨pb, hpb⟩ : ∃ pb, p.pb = pb := ⟨_, rfl⟩
       rw [hpb] at hy
       have HPB := hid hpb
       simp only [hpb]
       clear hpb)
    | ((first | refine ⟨fun h => (by cases h), hR.mono ?_⟩ | refine hR.mono ?_); clear hR hy; rintro e W3 ⟨(⟨rfl, hJ3, hk3⟩ | ⟨rfl, hJx3⟩), hkf3⟩)
    | (refine ⟨trivial, ?_⟩; gi_at_call 47; refine (callsIn_wide.2 (backT_any _ _ _ _)).mono ?_; rintro e w4 ⟨rfl, rfl⟩))
  rotate_left
  · exact ⟨_, results_none rfl _ _ _, ⟨_, rfl⟩, _, HEE.out, .inr ⟨1, by simp, hJx3⟩⟩
  have hb01 := HB01.out
  have hz1 := HBW1.out.size
  have hz3 := hk3.1.size
  have hbn := new_alloc W3 (.cells #[.slice aw c.turns.length cw] 58)
  have hnew := World.alloc_heap_new W3 (.cells #[.slice aw c.turns.length cw] 58)
  have hz4 : (W3.alloc (.cells #[.slice aw c.turns.length cw] 58)).heap.size = W3.heap.size + 1 := World.size_alloc _ _
  have hYB : W3.heap[W.heap.size]? = some (.cells #[.func (.yield l) #[] #[]] 94 (0, 0)) := hk3.2 _ _ _ (.inr (.inr rfl)) ((HB1.out.block _ (block_lt hnA)).trans hnA)
  have hYB4 := (hbn.block _ (block_lt hYB)).trans hYB
  have hrow3 := kpL_row HROW.out hk3
  have hrow4 := (Spares.of_new (S := fun _ => False) hbn).row hrow3 (fun _ _ => id)
  have hrw4 := rw_of_owns hrow4 (by
    intro u hu
    simp only [turnC, List.mem_flatMap] at hu
    obtain ⟨x, _, hu⟩ := hu
    simp only [List.mem_cons, List.not_mem_nil, or_false] at hu
    rcases hu with rfl | rfl <;> rfl)
  have hty : ∀ ad, aw = some ad → ∃ cs, (W3.alloc (.cells #[.slice aw c.turns.length cw] 58)).heap[ad.block]? = some (.cells cs 84 (0, 0)) := fun ad e => by
    rcases hrow4.2 with ⟨e1, _⟩ | ⟨g, cap, cur, e1, _, hg, _⟩
    · rw [e] at e1; cases e1
    · rw [e] at e1; cases e1; exact ⟨cur, hg⟩
  have hJ4 := own_below (HJ.out _) hJ3 hbn
  have hb04 : Below w₀.heap.size w₀ (W3.alloc (.cells #[.slice aw c.turns.length cw] 58)) := (hb01.trans hk3.1).trans (hbn.mono (by have := hb01.size; omega))
  have hW04 : W.heap.size ≤ (W3.alloc (.cells #[.slice aw c.turns.length cw] 58)).heap.size := by omega
  have hw0W := HBW.out.size
  have HTY := hid hty
  have HYB := hid hYB4
  have HNEW := hid hnew
  have HB04 := hid hb04
  have HRW := hid hrw4
  have HJ4 := hid hJ4
  clear hrow3 hrow4 hYB hYB4 hty hrw4 hnA hJ3 hk3 hbn hnew hJ4 hb04 HROW
  generalize W3.alloc (.cells #[.slice aw c.turns.length cw] 58) = w4 at *
  refine range_tells (by omega) (gf := 57) (lb := #[.pointer (some ⟨W3.heap.size, 0, none⟩)]) rfl (enters_of Try.func57 (by kernel_rfl) rfl)
    (backT_tells _ W3.heap.size aw cw c.turns w4 HNEW.out HRW.out) kpA_t (fun X l o o' hl hX ho => ⟨World.putObj_heap_other (by omega), fun ad e => World.putObj_heap_other (by obtain ⟨cs, hc⟩ := HTY.out ad e; have := block_lt hc; omega)⟩) (fun _ => rfl)
    (LvI K w₀ c (p :: c.later) (J (p :: c.later)) w4) (fun cd _ X => cd = .ret ∧ ∃ k', k' ≤ (p :: c.later).length ∧ Jx (p :: c.later) k' X) (lvI_own (own_up (HJ.out _) hW04) HB04.out.size HB04.out.size)
    (fun cd _ A C row hs hg hr => by
      obtain ⟨h1, k', h2, h3⟩ := hs
      exact ⟨h1, k', h2, own_up (HJX.out _) hW04 k' A C row h3 hg hr⟩)
    ⟨0, c, p.pb, 1, by rw [Nat.sub_zero, List.take_length], HA.out.ctx, HA.out.ok, rfl, by simp, HJ4.out, kpL_refl _ _⟩
    (fun x a' X => ∃ eb, a' = { tmps := #[.func (.yield l) #[] #[], .pointer (some ⟨tbx, 0, none⟩), .pointer (some ⟨fbx, 0, none⟩), .pointer (some ⟨W.heap.size, 0, none⟩), .slice aw c.turns.length cw, .pointer (some ⟨pb, 0, none⟩), undef, .pointer (some ⟨eb, 0, none⟩), undef, undef, .tuple #[.slice aw c.turns.length cw, .pointer (some ⟨pb, 0, none⟩)], .pointer (some ⟨tb, 0, none⟩), .slice ak key.length ck, .tuple #[.slice aw c.turns.length cw, .pointer (some ⟨pb, 0, none⟩)], .slice aw c.turns.length cw, .pointer (some ⟨pb, 0, none⟩), .func (.yield l) #[] #[], .pointer (some ⟨pb, 0, none⟩), .bool true, .bool false, .slice aw c.turns.length cw, .func (.func 57) #[] #[.pointer (some ⟨W3.heap.size, 0, none⟩)], .int .i64 (x.1 : Int), .agg #[.pointer (some ⟨x.2.1, 0, none⟩), .int .i64 (x.2.2 : Int)], undef, undef, undef, undef, undef, undef, undef, undef, undef, undef, undef, undef, undef, undef, undef, undef, undef, undef, undef], defers := [] } ∧ X.heap[eb]? = some (.cells #[.pointer (some ⟨x.2.1, 0, none⟩), .int .i64 (x.2.2 : Int)] 84 (0, 0)))
    (fun x a' s A C row hs hg hr => by
      obtain ⟨eb, h1, h2⟩ := hs
      exact ⟨eb, h1, cells_own () A C row h2 hg hr⟩) ?assign ?body ?done ?stop
  case stop =>
    rintro D cd k X hD _ ⟨rfl, k', hk', hjx⟩ hK
    gi_wp2
    exact leaves_marks [D] _ ((waits_nil X).cons hK (fun E hE => (by cases hE))) fun w'' hs hz2 => ⟨_, results_none rfl _ _ _, ⟨_, rfl⟩, _, HEE.out, .inr ⟨k', hk', own_mark (HJX.out _) hjx (by omega) hK hs⟩⟩
  case done =>
    rintro D X hD hI hK
    rw [enumB_length] at hI
    obtain ⟨h, ck', hb', j, i1, i2, i3, i4, i5, i6, i7⟩ := hI
    rw [Nat.sub_self, List.take_zero] at i1
    have hj : j = (p :: c.later).length := by
      have hl0 : ck'.later = [] := by
        cases ck' with
        | top => rfl
        | down a1 a2 a3 a4 a5 a6 => simp [Ctx.turns] at i1
      rw [hl0] at i4
      have := congrArg List.length i4
      simp at this
      simp at i5
      simp
      omega
    subst hj
    have HJE := hid i6
    clear i1 i2 i3 i4 i5 i6 i7
    gi_wp2
    exact leaves_marks [D] _ ((waits_nil X).cons hK (fun E hE => (by cases hE))) fun w'' hs hz2 => ⟨_, results_none rfl _ _ _, ⟨_, rfl⟩, _, HEE.out, .inl (own_mark (HJ.out _) HJE.out (by omega) hK hs)⟩
  case assign =>
    intro l' m k x X K' hx hI hK
    obtain ⟨xi, xb, xa⟩ := x
    dsimp only
    have hnew := World.alloc_heap_new X (.cells #[.pointer none, .int .i64 0] 84)
    have q0 : (X.alloc (.cells #[.pointer none, .int .i64 0] 84)).cell? ⟨X.heap.size, 0, none⟩ = some (.pointer none) := by rw [cell_of_row _ _ _ _ _ _ hnew]; rfl
    have q1 : (X.alloc (.cells #[.pointer none, .int .i64 0] 84)).cell? ⟨X.heap.size, 1, none⟩ = some (.int .i64 0) := by rw [cell_of_row _ _ _ _ _ _ hnew]; rfl
    have hbN : Below X.heap.size X (X.alloc (.cells #[.pointer (some ⟨xb, 0, none⟩), .int .i64 (xa : Int)] 84)) := (Below.refl _ _).alloc (Nat.le_refl _) _
    have hI2 := hI
    obtain ⟨h, ck', hb', j, i1, i2, i3, i4, i5, i6, i7⟩ := hI
    have hX0 : w₀.heap.size ≤ X.heap.size := by have := i7.1.size; have := HB04.out.size; omega
    have HKP := hid (kpA_of_kpL HNEW.out HTY.out i7 (kpL_new hX0 hbN))
    have HI : Hid (LvI K w₀ c (p :: c.later) (J (p :: c.later)) w4 k (X.alloc (.cells #[.pointer (some ⟨xb, 0, none⟩), .int .i64 (xa : Int)] 84))) := hid ⟨h, ck', hb', j, i1, i2, i3, i4, i5, own_below (HJ.out _) i6 hbN, kpL_t i7 (kpL_new hX0 hbN)⟩
    have HK := hid hK
    clear hI2 hK i1 i2 i3 i4 i5 i6 i7
    gi_wp2
    exact HK.out _ _ (keepsFrom_of (S := fun _ => False) (Spares.of_new hbN) (fun i h => h.elim)) HKP.out HI.out ⟨X.heap.size, rfl, World.alloc_heap_new _ _⟩
  case body =>
    rintro l' m k x a' X hl' hx hI ⟨eb, rfl, heb⟩
    obtain ⟨h, qb, qsv, qfv, pre, post, up, hb', j, e1, i1, i2, i3, i4, i5, i6, i7⟩ := lvI_turn hI hx
    obtain ⟨xi, xb, xa⟩ := x
    cases e1
    dsimp only at heb ⊢
    obtain ⟨k1, k2, k3, k4, k5⟩ := i2
    obtain ⟨o1, o2, o3, o4, o5⟩ := i3
    have hX := HB04.out.trans i7.1
    have hXrow := (Spares.of_new (S := fun _ => False) hX).row k2 (fun _ _ => id)
    obtain ⟨g, cap, rfl, q1, q2⟩ : ∃ g cap, qsv = .slice (some ⟨g, 0, none⟩) (pre.length + (post.length + 1)) cap ∧ pre.length + (post.length + 1) ≤ cap ∧ cap ≤ maxLen := by
      rcases hXrow.2 with ⟨_, h0⟩ | ⟨g, cap, cur, e, _, hg, q1, q2, q3, q4⟩
      · omega
      · exact ⟨g, cap, e, q1, q2⟩
    have hrw0 := rw_of_owns k2 (by
      intro u hu
      simp only [List.mem_append, List.mem_map, List.mem_cons] at hu
      rcases hu with ⟨q, _, rfl⟩ | rfl | ⟨q, _, rfl⟩ <;> rfl)
    have HCELL : Hid (∀ (wr : World), Below w₀.heap.size w₀ wr → ∀ (i : Nat) (q : Pg h), post[i]? = some q → wr.cell? ⟨g, pre.length + 1 + i, none⟩ = some (.pointer (some ⟨q.pb, 0, none⟩))) := hid (fun wr hwr i q hq => by
      obtain ⟨b9, o9, e9, hc⟩ := (hrw0.new hwr).one (pre.length + 1 + i) (ptr q.pb) (by
        rw [List.getElem?_append_right (by simp; omega)]
        rw [List.length_map, show pre.length + 1 + i - pre.length = i + 1 by omega, List.getElem?_cons_succ, List.getElem?_map, hq]
        rfl)
      cases e9
      rw [Nat.zero_add] at hc
      exact hc)
    have p0 : X.cell? ⟨eb, 0, none⟩ = some (.pointer (some ⟨qb, 0, none⟩)) := by rw [cell_of_row _ _ _ _ _ _ heb]; rfl
    have p1 : X.cell? ⟨eb, 1, none⟩ = some (.int .i64 (pre.length : Int)) := by rw [cell_of_row _ _ _ _ _ _ heb]; rfl
    have pq : X.cell? ⟨qb, 1, none⟩ = some (.slice (some ⟨g, 0, none⟩) (pre.length + (post.length + 1)) cap) := by rw [cell_of_row _ _ _ _ _ _ ((hX.block _ (block_lt k1)).trans k1)]; rfl
    unfold maxLen at q2
    have hyX := i7.2 _ _ _ (.inr (.inr rfl)) HYB.out
    have HYX := hid hyX
    have HXB := hid hX
    have HO4 := hid o4
    have HK4 := hid k4
    have HNX : Hid (∀ X' j', j' ≤ (p :: c.later).length → up.later = (p :: c.later).drop j' → J (p :: c.later) j' X' → KpL w₀.heap.size X X' → LvI K w₀ c (p :: c.later) (J (p :: c.later)) w4 (k + 1) X') := hid (fun X' j' n1 n2 n3 n4 => ⟨_, up, qb, j', i1, k5, o5, n2, n1, n3, kpL_t i7 n4⟩)
    have HKA : Hid (∀ X', KpL w₀.heap.size X X' → KpA W3.heap.size aw X X') := hid (fun X' hk => kpA_of_kpL HNEW.out HTY.out i7 hk)
    have HLJ := hid i4
    have HJX6 := hid i6
    have hi5 := i5
    generalize hpl : pre.length = a at *
    have hpls : post.length + 1 ≤ 4 := by omega
    have has : a ≤ 4 := by omega
    clear hI hx heb k1 k2 k3 k4 k5 o3 o4 o5 hXrow hrw0 i1 i4 i6 i7 hyX hX
    have hLI : ∀ i, ((post.take i).flatMap (lvs h)).length + (((post.drop i).flatMap (lvs h)).length + up.later.length) = (p :: c.later).length - j := fun i => by
      have := congrArg List.length HLJ.out
      rw [List.length_drop, List.length_append] at this
      rw [← this, ← Nat.add_assoc, ← List.length_append, ← List.flatMap_append, List.take_append_drop]
    have HLI := hid hLI
    have HI5 := hid hi5
    clear hLI hi5 i5
    have HFIN : Hid (∀ X', J (p :: c.later) (j + ((post.take post.length).flatMap (lvs h)).length) X' → KpL w₀.heap.size X X' → LvI K w₀ c (p :: c.later) (J (p :: c.later)) w4 (k + 1) X') := hid (fun X' m1 m2 => by
      refine HNX.out X' _ (by have := HLI.out post.length; have := HI5.out; omega) ?_ m1 m2
      rw [← List.drop_drop, ← HLJ.out, List.take_length, List.drop_left])
    clear HNX
    by_cases hcap : cap = a + 1
    · subst hcap
      have hp0 : post.length = 0 := by omega
      have hpn : post = [] := List.eq_nil_of_length_eq_zero hp0
      subst hpn
      clear hp0
      gi_wp2
      refine quiet_in_round (by kernel_rfl) (by kernel_rfl) (by kernel_rfl) (by rintro ⟨_, _, h⟩; exact h) ?_
      repeat (go_big_quiet_step (fail))
      refine wpQuiet_nil ?_
      intro _ hw'
      obtain ⟨nq, hw''⟩ := hw'
      subst hw''
      gi_wp2
      gi_loopg [34] 0 (fun kx s34 wr => s34 = .int .i64 0 ∧ wr = X.drewN nq)
      case atStart => exact ⟨rfl, rfl⟩
      case round =>
        obtain ⟨rfl, rfl⟩ := hrel
        have HJE := hid (own_below (HJ.out _) HJX6.out (below_drewN _ X nq))
        have HKN : Hid (KpL w₀.heap.size X (X.drewN nq)) := hid (kpL_new (by have := HXB.out.size; omega) (below_drewN _ X nq))
        gi_wp2
        exact ⟨keepsFrom_of (S := fun _ => False) (Spares.of_new (below_drewN _ X nq)) (fun i h => h.elim), HKA.out _ HKN.out, HFIN.out _ HJE.out HKN.out⟩
    · have hsub : a + (post.length + 1) - (a + 1) = post.length := by omega
      gi_wp2
      refine quiet_in_round (by kernel_rfl) (by kernel_rfl) (by kernel_rfl) (by rintro ⟨_, _, h⟩; exact h) ?_
      repeat (go_big_quiet_step (fail))
      refine wpQuiet_nil ?_
      intro _ hw'
      obtain ⟨nq, hw''⟩ := hw'
      subst hw''
      gi_wp2
      try simp only [hsub]
      clear hsub
      gi_loopg [34] post.length (fun kx s34 wr => ∃ i : Nat, i + kx = post.length ∧ s34 = .int .i64 (i : Int) ∧ Hid (J (p :: c.later) (j + ((post.take i).flatMap (lvs h)).length) wr) ∧ Hid (KpL w₀.heap.size X wr) ∧ Hid (KeepsFrom W.heap.size X wr))
      case atStart => exact ⟨0, by omega, rfl, hid (own_below (HJ.out _) HJX6.out (below_drewN _ X nq)), hid (kpL_new (by have := HXB.out.size; omega) (below_drewN _ X nq)), hid (keepsFrom_of (S := fun _ => False) (Spares.of_new (below_drewN _ X nq)) (fun i h => h.elim))⟩
      case round =>
        obtain ⟨i, hii, rfl, HJ', HK, HF⟩ := hrel
        by_cases hk : gk = 0
        · subst hk
          have hie : i = post.length := by omega
          subst hie
          gi_wp2
          exact ⟨keepsFrom_up HF.out hW04, HKA.out _ HK.out, HFIN.out _ HJ'.out HK.out⟩
        · obtain ⟨m', rfl⟩ : ∃ m', gk = m' + 1 := ⟨gk - 1, by omega⟩
          have hil : i < post.length := by omega
          have hki : ((i : Int) < (post.length : Int)) := by omega
          have hk0 : (0 : Int) ≤ (i : Int) := by omega
          have hq : post[i]? = some post[i] := List.getElem?_eq_getElem hil
          obtain ⟨q, hqq⟩ : ∃ q, post[i] = q := ⟨_, rfl⟩
          rw [hqq] at hq
          have hqm := List.mem_of_getElem? hq
          have hwr := HXB.out.trans HK.out.1
          have cq := HCELL.out wr hwr i q hq
          have cy : wr.cell? ⟨W.heap.size, 0, none⟩ = some (.func (.yield l) #[] #[]) := by rw [cell_of_row _ _ _ _ _ _ (HK.out.2 _ _ _ (.inr (.inr rfl)) HYX.out)]; rfl
          have HADD : Hid (((post.take (i + 1)).flatMap (lvs h)).length = ((post.take i).flatMap (lvs h)).length + (lvs h q).length) := hid (by
            rw [List.take_add_one, hq, List.flatMap_append, List.length_append]
            simp)
          have hpx : lvs h q <+: (p :: c.later).drop (j + ((post.take i).flatMap (lvs h)).length) := by
            refine prefix_at (c := (post.drop (i + 1)).flatMap (lvs h) ++ up.later) ?_
            have e : post = post.take i ++ q :: post.drop (i + 1) := by
              rw [← hqq, ← List.drop_eq_getElem_cons hil, List.take_append_drop]
            have e2 : post.flatMap (lvs h) ++ up.later = (post.take i).flatMap (lvs h) ++ lvs h q ++ ((post.drop (i + 1)).flatMap (lvs h) ++ up.later) := by
              conv => lhs; rw [e]
              simp
            rw [← e2, HLJ.out]
            exact List.prefix_refl _
          have HTL := tell_in l W.heap.size w₀ (Kp := KpL w₀.heap.size) (E := p :: c.later) (J := J (p :: c.later)) (Jx := Jx (p :: c.later)) (kpL_refl _) kpL_t (fun hk hb => hb.trans hk.1) (HY.out _ HEE.out) h q (HO4.out q hqm) (HK4.out q hqm) 3 (j + ((post.take i).flatMap (lvs h)).length) wr hwr HJ'.out hpx
          generalize q.pb = qpb at *
          clear hpx hq hqm hqq hwr
          gi_wp2_with ((first | refine ⟨trivial, fun h => (by cases h), ?_⟩ | refine ⟨trivial, ?_⟩); gi_at_call 54; refine (callsIn_round (callsIn_wide.1 HTL)).mono ?_; clear HTL; rintro e W5 ⟨(⟨rfl, hJ5, hk5⟩ | ⟨rfl, hJx5⟩), hkf5⟩)
          · gi_roundg m'
            case rel => exact ⟨i + 1, by omega, by first | rfl | go_num, hid (by rw [HADD.out, ← Nat.add_assoc]; exact hJ5), hid (kpL_t HK.out hk5), hid (HF.out.trans hkf5)⟩
            case measure => omega
          · exact ⟨keepsFrom_up (HF.out.trans hkf5) hW04, rfl, hJx5⟩
end Go.Proofs.Ytjfipejfejmlaaa
