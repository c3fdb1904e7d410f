/- Contract of registry.Copy. -/
import Derived.Test.YtnhgjjpjmfjmjaaCloneF
import Derived.Deep.DeepCutAuto
namespace Go.Proofs.Ytnhgjjpjmfjmjaa
open Go.RowKit Go.Maps
set_option linter.unusedVariables false

/-- A REGISTRY's PARTS, just made: the struct, the copied pairs, an empty map. -/
structure Made (w0 w : World) (cb ck cs n : Nat) (D : DataW Unit) : Prop where
  c0 : w.cell? ⟨cb, 0, none⟩ = some (.map (some ck))
  c1 : w.cell? ⟨cb, 1, none⟩ = some (.map (some cs))
  known : w.ownsMap Try.prog 55 (unitElem (H := Unit)) ck n D
  signed : w.ownsMap Try.prog 3 rawElem cs 0 (.map [])
  lo : w0.heap.size ≤ cb ∧ w0.heap.size ≤ ck ∧ w0.heap.size ≤ cs
  ne : ck ≠ cs
  hi : cb < w.heap.size ∧ ck < w.heap.size ∧ cs < w.heap.size
  below : Below w0.heap.size w0 w

theorem made_A {w w2 : World} {n : Nat} {D : DataW Unit} (hk : w2.ownsMap Try.prog 55 (unitElem (H := Unit)) w.heap.size n D) (hg : w.grownBy w2 none) :
    Made w ((w2.alloc (.map #[] 0)).alloc (.cells #[.map (some w.heap.size), .map (some w2.heap.size)] 53)) (w2.heap.size + 1) w.heap.size w2.heap.size n D := by
  have hlt := hk.lt
  have e1 : (w2.alloc (Obj.map #[] 0)).heap.size = w2.heap.size + 1 := by simp
  have hblk := heap_alloc_new (w2.alloc (Obj.map #[] 0)) (.cells #[.map (some w.heap.size), .map (some w2.heap.size)] 53)
  rw [e1] at hblk
  have hs := hg.size
  refine ⟨cell_of_row _ _ _ _ _ _ hblk, cell_of_row _ _ _ _ _ _ hblk, (hk.alloc _).alloc _, (World.ownsMap_made w2 Try.prog 3 rawElem).alloc _, by omega, by omega, by simp; omega, ?_⟩
  exact (((Below.refl _ w).grown hg (Nat.le_refl _) (fun k e => by cases e)).alloc hs _).alloc (by simp; omega) _

theorem made_B {w w2 : World} {n : Nat} {D : DataW Unit} (hk : w2.ownsMap Try.prog 55 (unitElem (H := Unit)) (w.heap.size + 1) n D) (hg : (w.alloc (.map #[] 0)).grownBy w2 none) :
    Made w (w2.alloc (.cells #[.map (some (w.heap.size + 1)), .map (some w.heap.size)] 53)) w2.heap.size (w.heap.size + 1) w.heap.size n D := by
  have hlt := hk.lt
  have hblk := heap_alloc_new w2 (.cells #[.map (some (w.heap.size + 1)), .map (some w.heap.size)] 53)
  have hs := hg.size
  simp at hs
  refine ⟨cell_of_row _ _ _ _ _ _ hblk, cell_of_row _ _ _ _ _ _ hblk, hk.alloc _, ((World.ownsMap_made w Try.prog 3 rawElem).kept hg (by simp)).alloc _, by omega, by omega, by simp; omega, ?_⟩
  exact ((((Below.refl _ w).alloc (Nat.le_refl _) _).grown hg (by simp) (fun k e => by cases e)).alloc (by omega) _)

theorem ranges_spares {w w' : World} {S : Nat → Prop} {k : TypeId} {b r n cnt : Nat} {R : Value → Option (DataW Value × List MemPlace)} {D : DataW Value} {left : Lit → Bool} (h : w.ranges Try.prog k R b r n D left cnt) (hk : Spares S w w') (hb : ¬ S b) (hr : ¬ S r) : w'.ranges Try.prog k R b r n D left cnt := by
  have h1 := h.owns.lt
  have h2 := h.lt
  obtain ⟨es, clock, since, seen, c0, hb', F, hs, hD, hr', rest⟩ := h
  exact ⟨es, clock, since, seen, c0, (hk.block b h1 hb).trans hb', F, hs, hD, (hk.block r h2 hr).trans hr', rest⟩

/-- THE COPYING UNDER WAY: what the new map holds of the signers that have come. -/
structure Cop (w0 wr : World) (bs cs r : Nat) (E : DataW Value) (L : List Pr) (left : Lit → Bool) (cnt M : Nat) (Ec : DataW Value) (fc : Int → Value) : Prop where
  rg : wr.ranges Try.prog 3 rawElem bs r L.length E left cnt
  own : wr.ownsMap Try.prog 3 rawElem cs M Ec
  room : M + cnt ≤ L.length
  at' : ∀ x, I64 x → Ec.atKey (.int .i64 x) (.held nilS) = .held (fc x)
  nil : ∀ x, (¬ I64 x ∨ left (.int .i64 x) = true) → fc x = nilS
  rows : ∀ x, I64 x → left (.int .i64 x) = false → wr.ownsRow 0 9 1 (fc x) (textsOf L x).length (strCells (textsOf L x))
  apart : ∀ x y g, x ≠ y → (fc x).ownBlock = some g → (fc y).ownBlock ≠ some g
  new : ∀ x g, (fc x).ownBlock = some g → w0.heap.size ≤ g ∧ g < wr.heap.size
  keep : Spares (fun i => i = cs ∨ i = r) w0 wr

theorem Cop.start {w0 : World} {sb bk bs cs r : Nat} {D : DataW Unit} {E : DataW Value} {f : Int → Value} {L : List Pr} {S : Nat → Prop} (h : Reg0 w0 sb bk bs D E f L S) (hrg : w0.ranges Try.prog 3 rawElem bs r L.length E (Maps.has E) (Maps.size E)) (ho : w0.ownsMap Try.prog 3 rawElem cs 0 (.map [])) :
    Cop w0 w0 bs cs r E L (Maps.has E) (Maps.size E) 0 (.map []) (fun _ => nilS) := by
  refine ⟨hrg, ho, by have := h.signed.size_le; omega, fun x _ => atKey_empty _ _, fun x _ => rfl, fun x hx hl => ?_, fun x y g _ hg => by simp [Value.ownBlock] at hg, fun x g hg => by simp [Value.ownBlock] at hg, Spares.refl _ _⟩
  have e1 := h.at' x hx
  rw [atKey_of_not_has hl] at e1
  simp only [DataW.held.injEq] at e1
  have h2 := h.rows x
  rw [← e1] at h2
  exact h2

theorem Cop.step {w0 wr w1 w5 w6 : World} {bs cs r : Nat} {E : DataW Value} {L : List Pr} {left : Lit → Bool} {cnt cnt' M : Nat} {Ec : DataW Value} {fc : Int → Value} (h : Cop w0 wr bs cs r E L left cnt M Ec fc) {x : Int} (hx : I64 x) (hl : left (.int .i64 x) = true)
    (hbc : bs ≠ cs) (hrc : r ≠ cs) (hr0 : r < w0.heap.size) (hc0 : cs < w0.heap.size)
    (hrg : w1.ranges Try.prog 3 rawElem bs r L.length E (fun z => left z && !z.sameKey (.int .i64 x)) cnt') (hlt : cnt' < cnt) (hg1 : wr.grownBy w1 (some r)) (hb : Below w1.heap.size w1 w5)
    {v' : Value} (hv : w5.ownsRow w1.heap.size 9 1 v' (textsOf L x).length (strCells (textsOf L x))) (hE : w6.ownsMap Try.prog 3 rawElem cs (M + 1) (Ec.put (.int .i64 x) (.held v'))) (hg6 : w5.grownBy w6 (some cs)) :
    Cop w0 w6 bs cs r E L (fun z => left z && !z.sameKey (.int .i64 x)) cnt' (M + 1) (Ec.put (.int .i64 x) (.held v')) (fun y => if y = x then v' else fc y) := by
  have s01 := h.keep.size
  have s1 := hg1.size
  have s5 := hb.size
  have s6 := hg6.size
  have k1 : Spares (fun i => i = r) wr w1 := Spares.of_grown hg1 (fun k e => by cases e; rfl)
  have k5 : Spares (fun i => i = cs ∨ i = r) w1 w5 := Spares.of_new hb
  have k6 : Spares (fun i => i = cs) w5 w6 := Spares.of_grown hg6 (fun k e => by cases e; rfl)
  have k16 : Spares (fun i => i = cs) w1 w6 := (Spares.of_new hb).andThen k6 (fun i hi => .inl hi)
  have kr6 : Spares (fun i => i = cs ∨ i = r) wr w6 := ((k1.mono fun i hi => .inr hi).andThen k5 (fun i hi => .inl hi)).andThen k6 (fun i hi => .inl (.inl hi))
  have kx : WideAt.IsKeyLit (.int .i64 x) := lawI.key (keyOf_int_mk Try.underlying3 hx.wf)
  have mapE : IsMap Ec := by obtain ⟨es, e1, _⟩ := h.own.entries lawI; exact ⟨es, e1⟩
  have hv6 : w6.ownsRow 0 9 1 v' (textsOf L x).length (strCells (textsOf L x)) := owns_lower (k6.row hv (fun g hg => by have := (hv.lt g hg).1; omega)) (fun g _ => Nat.zero_le _)
  refine ⟨ranges_spares hrg k16 hbc hrc, hE, by have := h.room; omega, ?_, ?_, ?_, ?_, ?_, h.keep.andThen kr6 (fun i hi => .inl hi)⟩
  · intro y hy
    by_cases e : y = x
    · subst e
      rw [atKey_put_same mapE kx, if_pos rfl]
    · rw [atKey_put_other (key_i e), h.at' y hy, if_neg e]
  · intro y hy
    have e : y ≠ x := by
      rintro rfl
      rcases hy with hy | hy
      · exact hy hx
      · rw [WideAt.sameKey_self kx] at hy
        simp at hy
    rw [if_neg e]
    refine h.nil y ?_
    rcases hy with hy | hy
    · exact .inl hy
    · exact .inr (by simp at hy; exact hy.1)
  · intro y hy hly
    by_cases e : y = x
    · subst e
      rw [if_pos rfl]
      exact hv6
    · rw [if_neg e]
      have hs : (Lit.int .i64 y).sameKey (.int .i64 x) = false := sameKey_ne (key_i e)
      rw [hs] at hly
      simp at hly
      exact kr6.row (h.rows y hy hly) (fun g hg => by have := (h.new y g hg).1; omega)
  · intro y z g hyz hy hz
    by_cases ey : y = x
    · rw [if_pos ey] at hy
      rw [if_neg (fun e => hyz (ey.trans e.symm))] at hz
      have a1 := (hv.lt g hy).1
      have a2 := (h.new z g hz).2
      omega
    · rw [if_neg ey] at hy
      by_cases ez : z = x
      · rw [if_pos ez] at hz
        have a1 := (hv.lt g hz).1
        have a2 := (h.new y g hy).2
        omega
      · rw [if_neg ez] at hz
        exact h.apart y z g hyz hy hz
  · intro y g hy
    by_cases ey : y = x
    · rw [if_pos ey] at hy
      have a1 := hv.lt g hy
      omega
    · rw [if_neg ey] at hy
      have a1 := h.new y g hy
      omega

theorem Cop.done {w wc w0 wr : World} {sb bk bs cb ck cs : Nat} {D : DataW Unit} {E : DataW Value} {f : Int → Value} {L : List Pr} {S left cnt M Ec fc} (h : Cop w0 wr bs cs wc.heap.size E L left cnt M Ec fc) (hR : Reg0 w sb bk bs D E f L S) (hM : Made w wc cb ck cs L.length D)
    (hg0 : wc.grownBy w0 none) (hr0 : wc.heap.size < w0.heap.size) (hl : ∀ kl, left kl = false) :
    Reg wr (.pointer (some ⟨cb, 0, none⟩)) L (fun i => w.heap.size ≤ i ∧ i < wr.heap.size) ∧ Below w.heap.size w wr := by
  have s0 := hM.below.size
  have s1 := h.keep.size
  have hlo := hM.lo
  have hhi := hM.hi
  have nsb := map_ne_cell hM.signed hM.c0
  have kk : Spares (fun i => i = cs ∨ i = wc.heap.size) wc wr := (Spares.of_grown hg0 (fun k e => by cases e)).andThen h.keep (fun i hi => .inl hi)
  have nb : ¬ (cb = cs ∨ cb = wc.heap.size) := by omega
  have nk : ¬ (ck = cs ∨ ck = wc.heap.size) := by have := hM.ne; omega
  refine ⟨⟨cb, ck, cs, D, Ec, fc, rfl, ⟨kk.cell hM.c0 nb, kk.cell hM.c1 nb, map_keeps hM.known kk nk, hR.has, hR.size, h.own.mono (by have := h.room; omega), h.at', fun x => ?_, h.apart, hM.ne, fun x e => ?_, ⟨by omega, by omega, by omega⟩, fun x g e => ?_, fun i hi => hi.2, hR.ok, hR.once⟩⟩, ?_⟩
  · by_cases hx : I64 x
    · exact h.rows x hx (hl _)
    · rw [h.nil x (.inl hx)]
      have : textsOf L x = [] := by
        rw [textsOf, List.map_eq_nil_iff, List.filter_eq_nil_iff]
        intro p hp
        have h1 := hR.ok p hp
        simp only [decide_eq_true_eq]
        rintro rfl
        exact hx ⟨by omega, by omega⟩
      rw [this]
      exact World.ownsRow_nil _ _ _ _
  · have := h.new x cb e
    omega
  · have := h.new x g e
    omega
  · refine hM.below.trans (kk.below (fun i hi => ?_) s0)
    rcases hi with rfl | rfl
    · exact hlo.2.2
    · exact s0

set_option maxHeartbeats 1000000 in
theorem copy_any (v : Value) (L : List Pr) (S : Nat → Prop) (w : World) (hR : Reg w v L S) (hL : L.length ≤ 100000) :
    Calls Try.prog 19 #[v] w fun e w' => ∃ v', e = .returned v' ∧ Reg w' v' L (fun i => w.heap.size ≤ i ∧ i < w'.heap.size) ∧ Below w.heap.size w w' := by
  obtain ⟨sb, bk, bs, D, E, f, rfl, h0⟩ := hR
  have hmk := fun (w : World) (n : Int) => run_makeMap_hint w 51 3 57 n Try.underlying51
  have hS : ∀ w', w.grownBy w' none → (w'.cell? ⟨sb, 0, none⟩ = some (.map (some bk)) ∧ w'.cell? ⟨sb, 1, none⟩ = some (.map (some bs)) ∧ (Builtin.len_ #[51] 3 #[.map (some bs)]).run Try.prog w' = .ok (.int .i64 (Maps.size E)) w') := fun w' hg =>
    ⟨hg.cell h0.cellK (by simp), hg.cell h0.cellS (by simp), (h0.signed.kept hg (by simp)).len Try.underlying51 3⟩
  have hCL : ∀ w', w.grownBy w' none → Calls Try.prog 25 #[.map (some bk)] w' fun e w2 => e = .returned (.map (some w'.heap.size)) ∧ w2.ownsMap Try.prog 55 (unitElem (H := Unit)) w'.heap.size L.length D ∧ w'.grownBy w2 none ∧ w2.heap.size = w'.heap.size + 1 := fun w' hg =>
    mclone_any _ bk L.length D w' (h0.known.kept hg (by simp))
  have HS := hid hS
  have HCL := hid hCL
  have H0 := hid h0
  clear hS hCL h0
  go_enter Try.func19, Try.ntmps19
  go_wp2_with fail
  go_cut [3] from 6 (fun u3 wx => ∃ cb ck cs, u3 = .pointer (some ⟨cb, 0, none⟩) ∧ Made w wx cb ck cs L.length D)
  case first =>
    go_region_held3 (fun w' => w'.cell? ⟨sb, 0, none⟩ = some (.map (some bk)) ∧ w'.cell? ⟨sb, 1, none⟩ = some (.map (some bs)) ∧ (Builtin.len_ #[51] 3 #[.map (some bs)]).run Try.prog w' = .ok (.int .i64 (Maps.size E)) w')
      ((refine HS.out _ ?_; first | exact grown_drew _ | exact (World.grownBy_alloc w _ _).trans (grown_drew _) | exact hgw2 | exact hgw2.trans (World.grownBy_alloc _ _ _) | exact (hgw2.trans (World.grownBy_alloc _ _ _)).trans (World.grownBy_alloc _ _ _)))
      ((go_at_call 25; (first | refine (HCL.out _ (grown_drew _)).mono ?_ | refine (HCL.out _ ((World.grownBy_alloc w _ _).trans (grown_drew _))).mono ?_); rintro e w2 ⟨rfl, hk2, hg2, hs2⟩; have hgw2 : w.grownBy w2 none := (by first | exact (grown_drew w).trans hg2 | exact ((World.grownBy_alloc w _ none).trans (grown_drew _)).trans hg2); have HS2 := hid hs2; have HK2 := hid hk2; have HG2 := hid hg2; clear hs2 hk2 hg2))
    all_goals (go_wp2_with fail; go_meet)
    all_goals first | exact ⟨_, _, _, rfl, made_A HK2.out hgw2⟩ | exact ⟨_, _, _, rfl, made_B HK2.out HG2.out⟩
  case rest =>
    obtain ⟨cb, ck, cs, rfl, hM⟩ := hcut
    have hcS : wc.cell? ⟨sb, 1, none⟩ = some (.map (some bs)) := by rw [hM.below.cell (p := ⟨sb, 1, none⟩) (H0.out.lt _ H0.out.inS.1)]; exact H0.out.cellS
    have h1 : Reg0 wc sb bk bs D E f L S := H0.out.keeps (T := fun _ => False) (Spares.of_new hM.below) (fun _ _ => id)
    have HM := hid hM
    have H1 := hid h1
    clear hM h1 HS HCL hmk
    go_wp2_with (first | (at_range; refine wpList_range_own _ rfl _ 51 rfl 3 57 lawI Try.underlying51 rawElem bs L.length E rfl H1.out.signed ?_; intro w0 hrg0 hg0 hs0) | go_in)
    go_frame
    have hr0 : wc.heap.size < w0.heap.size := by omega
    have HG0 := hid hg0
    have hst := Cop.start (H1.out.keeps (T := fun _ => False) (Spares.of_grown hg0 (fun k e => by cases e)) (fun _ _ => id)) hrg0 (HM.out.signed.kept hg0 (by simp))
    have hhi := HM.out.hi
    have hbs : bs < w.heap.size := H0.out.lt _ H0.out.inS.2.2
    have hlo := HM.out.lo
    have cb1 : w0.cell? ⟨cb, 1, none⟩ = some (.map (some cs)) := hg0.cell HM.out.c1 (by simp)
    have HC1 := hid cb1
    have hncb : cb ≠ cs := map_ne_cell HM.out.signed HM.out.c0
    clear hs0 hg0 hrg0 hcS cb1 H1
    go_loopw [4] (fun _ wr => ∃ left cnt M Ec fc, Hid (Cop w0 wr bs cs wc.heap.size E L left cnt M Ec fc)) (fun _ wr => wr.rangeLeft bs wc.heap.size)
    case atStart => exact ⟨_, _, _, _, _, hst⟩
    case round =>
      clear hst
      obtain ⟨left, cnt, M, Ec, fc, HC⟩ := hrel
      go_wp2_with (first | (at_next; refine wpList_next_ranges _ rfl _ rfl 3 lawI rawElem (Value.int .i64) (fun v : Value => v) (fun key kl hk => by obtain ⟨x, e, _⟩ := Maps.keyOf_int_inv Try.underlying3 hk; exact ⟨x, e⟩) (fun v y _ => ⟨v, rfl⟩) bs wc.heap.size L.length E left cnt rfl HC.out.rg ?_ ?_) | go_in)
      · intro _ hl0
        have hfin := HC.out.done H0.out HM.out HG0.out hr0 hl0
        have HF := hid hfin
        clear hfin hl0
        go_wp2
        go_ret
        exact ⟨_, rfl, HF.out⟩
      · intro x c kl y ps w1 cnt1 hkey hlk hv hat hrg1 hlt hg1 hs1 hen
        obtain ⟨x', ex, rfl, hwx⟩ := Maps.keyOf_int_inv Try.underlying3 hkey
        cases ex
        have hx := I64.of_wf hwx
        have hcf : c = f x := by
          have e1 := hat (.held nilS)
          have e2 := rawElem_inv hv
          simp only [Prod.mk.injEq] at e2
          rw [H0.out.at' x hx, e2.1] at e1
          simp only [DataW.held.injEq] at e1
          exact e1.symm
        subst hcf
        have k1 : Spares (fun i => i = wc.heap.size) wr w1 := Spares.of_grown hg1 (fun k e => by cases e; rfl)
        have k01 : Spares (fun i => i = cs ∨ i = wc.heap.size) w0 w1 := HC.out.keep.andThen k1 (fun i hi => .inl (.inr hi))
        have kc1 : Spares (fun i => i = cs ∨ i = wc.heap.size) wc w1 := (Spares.of_grown HG0.out (fun k e => by cases e)).andThen k01 (fun i hi => .inl hi)
        have hbw1 : Below w.heap.size w w1 := HM.out.below.trans (kc1.below (fun i hi => by rcases hi with rfl | rfl; exact hlo.2.2; exact HM.out.below.size) HM.out.below.size)
        have hrow1 : w1.ownsRow 0 9 1 (f x) (textsOf L x).length (strCells (textsOf L x)) := (Spares.of_new (S := fun _ => False) hbw1).row (H0.out.rows x) (fun _ _ => id)
        have hc1 : w1.cell? ⟨cb, 1, none⟩ = some (.map (some cs)) := k01.cell HC1.out (by show ¬ (cb = cs ∨ cb = wc.heap.size); omega)
        have hbcs : bs ≠ cs := by omega
        have hrcs : wc.heap.size ≠ cs := by omega
        have hc0 : cs < w0.heap.size := by omega
        have hown1 := HC.out.own.kept hg1 (by simpa using Ne.symm hrcs)
        have hroom := HC.out.room
        have hFIN : ∀ (v' : Value) (w5 : World), w5.ownsRow w1.heap.size 9 1 v' (textsOf L x).length (strCells (textsOf L x)) → Below w1.heap.size w1 w5 → ∃ w6, (Instr.mapUpdate 51 (.map (some cs)) (.int .i64 x) v').run Try.prog w5 = .ok () w6 ∧
            w5.cell? ⟨cb, 1, none⟩ = some (.map (some cs)) ∧ w6.cell? ⟨cb, 1, none⟩ = some (.map (some cs)) ∧ Hid (Cop w0 w6 bs cs wc.heap.size E L (fun z => left z && !z.sameKey (.int .i64 x)) cnt1 (M + 1) (Ec.put (.int .i64 x) (.held v')) (fun y => if y = x then v' else fc y)) := by
          intro v' w5 hv5 hb5
          have hown5 := map_keeps hown1 (Spares.of_new (S := fun _ => False) hb5) id
          obtain ⟨w6, hup6, hown6, hg6⟩ := hown5.update lawI Try.underlying51 (by unfold maxLen; omega) (keyOf_int_mk Try.underlying3 hwx) (val := v') (d := .held v') (ps := []) rfl
          have d5 : w5.cell? ⟨cb, 1, none⟩ = some (.map (some cs)) := (Spares.of_new (S := fun _ => False) hb5).cell hc1 id
          exact ⟨w6, hup6, d5, hg6.cell d5 (by simpa using hncb), HC.out.step hx hlk hbcs hrcs hr0 hc0 hrg1 hlt hg1 hb5 hv5 hown6 hg6⟩
        have hlx := textsOf_le L x
        have HSC := hid (sclone_any (f x) (textsOf L x) w1.drew hrow1 (by omega))
        have HFIN := hid hFIN
        have HCC := hid hc1
        have HLT := hid hlt
        have hmeas : wr.rangeLeft bs wc.heap.size = cnt := HC.out.rg.left_eq
        have HME := hid hmeas
        clear hFIN hc1 hrow1 hown1 hroom hmeas k1 k01 kc1 hbw1 hrg1 hlt hg1 hs1 hat hv hlk hkey HC hx hwx
        generalize f x = fx at *
        generalize textsOf L x = tx at *
        go_wp2_with fail
        go_region_held3 (fun w' => w'.cell? ⟨cb, 1, none⟩ = some (.map (some cs))) (first | exact HCC.out | assumption)
          ((go_at_call 26; refine HSC.out.mono ?_; rintro e w5 ⟨v', rfl, hv5, hb5⟩; obtain ⟨w6, hup6, hS5, hS6, FIN⟩ := HFIN.out v' w5 hv5 ((Below.refl _ w1).drew.trans hb5)))
        go_wp2
        go_roundw
        case rel => exact ⟨_, _, _, _, _, FIN⟩
        case measure => rw [FIN.out.rg.left_eq, HME.out]; exact HLT.out
end Go.Proofs.Ytnhgjjpjmfjmjaa
