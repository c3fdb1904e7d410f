/- Contract of registry.Sign. -/
import Derived.Test.YtnhgjjpjmfjmjaaRegF
import Derived.Deep.AppendLies
namespace Go.Proofs.Ytnhgjjpjmfjmjaa
open Go.RowKit Go.Maps
set_option linter.unusedVariables false

theorem Try.infoStr : (Try.prog.info? 9).map (fun i => (i.zero, i.size, i.bytes)) = some (some (.string ByteArray.empty), 1, 16) := by kernel_rfl

theorem map_ne_cell {H : Type} {R : Value → Option (DataW H × List MemPlace)} {w : World} {k : TypeId} {b n sb o : Nat} {D : DataW H} {v : Value} (h : w.ownsMap Try.prog k R b n D) (hc : w.cell? ⟨sb, o, none⟩ = some v) : sb ≠ b := by
  obtain ⟨es, clock, hb, _⟩ := h
  rintro rfl
  simp [World.cell?, hb] at hc

theorem map_ne_row {H : Type} {R : Value → Option (DataW H × List MemPlace)} {w : World} {k : TypeId} {b n : Nat} {D : DataW H} (h : w.ownsMap Try.prog k R b n D) {B e s m : Nat} {v : Value} {xs : List Value} (hr : w.ownsRow B e s v m xs) : v.ownBlock ≠ some b := by
  obtain ⟨es, clock, hb, _⟩ := h
  intro hv
  rcases hr.2 with ⟨rfl, _⟩ | ⟨g, cap, cur, rfl, _, hg, _⟩
  · simp [Value.ownBlock] at hv
  · simp only [Value.ownBlock, Option.some.injEq] at hv
    subst hv
    rw [hg] at hb
    cases hb

theorem key_i {x y : Int} (h : x ≠ y) : Lit.int .i64 x ≠ Lit.int .i64 y := fun e => h (by cases e; rfl)

/-- ONE PAIR MORE. -/
theorem Reg0.added {w w6 : World} {sb bk bs : Nat} {D : DataW Unit} {E : DataW Value} {f : Int → Value} {L : List Pr} {S : Nat → Prop} (h : Reg0 w sb bk bs D E f L S) {who : Int} {t : List UInt8} (h1 : 1 ≤ who) (h64 : who ≤ 64) (hl : t.length ≤ 65536) (hnm : (who, t) ∉ L)
    (hk : Spares (fun i => i = bk ∨ i = bs ∨ (f who).ownBlock = some i) w w6) (hK : w6.ownsMap Try.prog 55 (unitElem (H := Unit)) bk (L.length + 1) (D.put (pk who t) (.agg [])))
    {v' : Value} {g : Nat} (hE : w6.ownsMap Try.prog 3 rawElem bs (L.length + 1) (E.put (.int .i64 who) (.held v'))) (hv : w6.ownsRow 0 9 1 v' ((textsOf L who).length + 1) (strCells (textsOf L who) ++ [.string (str8 t)]))
    (hg : v'.ownBlock = some g) (hloc : (f who).ownBlock = some g ∨ w.heap.size ≤ g) :
    Reg0 w6 sb bk bs (D.put (pk who t) (.agg [])) (E.put (.int .i64 who) (.held v')) (fun y => if y = who then v' else f y) (L ++ [(who, t)]) (ext S w w6) := by
  have hw : I64 who := by unfold I64; omega
  have hm : t.length ≤ maxLen := by unfold maxLen; omega
  have nk := map_ne_cell h.known h.cellK
  have ns := map_ne_cell h.signed h.cellK
  have nsb : ¬ (sb = bk ∨ sb = bs ∨ (f who).ownBlock = some sb) := by
    rintro (e | e | e)
    · exact nk e
    · exact ns e
    · exact h.rne who e
  have kl : WideAt.IsKeyLit (pk who t) := lawP.key (key_pair hw hm)
  have tidy : Tidy D := by obtain ⟨es, e1, e2, _⟩ := h.known.entries lawP; exact ⟨es, e1, e2⟩
  have mapE : IsMap E := by obtain ⟨es, e1, _⟩ := h.signed.entries lawI; exact ⟨es, e1⟩
  have h0 : Maps.has D (pk who t) = false := by rw [h.has who t hw hm]; simpa using hnm
  have gne : ∀ y, y ≠ who → (f y).ownBlock ≠ some g := fun y hy e => by
    rcases hloc with e' | e'
    · exact h.apart y who g hy e e'
    · have := ((h.rows y).lt g e).2; omega
  refine ⟨hk.cell h.cellK nsb, hk.cell h.cellS nsb, by simpa using hK, ?_, ?_, by simpa using hE, ?_, ?_, ?_, h.ne, ?_, ⟨.inl h.inS.1, .inl h.inS.2.1, .inl h.inS.2.2⟩, ?_, ?_, ?_, ?_⟩
  · intro x s hx hs
    by_cases e : pk x s = pk who t
    · obtain ⟨rfl, rfl⟩ := pk_inj hx hs hw hm e
      rw [has_put_same tidy.isMap kl]
      simp
    · rw [has_put_other e, h.has x s hx hs]
      have : ¬ ((x, s) = (who, t)) := fun e2 => by cases e2; exact e rfl
      simp [this]
  · rw [size_put tidy, h0, h.size]
    simp
  · intro x hx
    by_cases e : x = who
    · subst e
      rw [atKey_put_same mapE (lawI.key (keyOf_int_mk Try.underlying3 hw.wf)), if_pos rfl]
    · rw [atKey_put_other (key_i e), h.at' x hx, if_neg e]
  · intro x
    by_cases e : x = who
    · subst e
      rw [if_pos rfl, textsOf_snoc, if_pos rfl]
      simpa [strCells] using hv
    · rw [if_neg e, textsOf_snoc, if_neg (fun e2 => e e2.symm)]
      refine hk.row (h.rows x) fun g' hg' => ?_
      rintro (e2 | e2 | e2)
      · subst e2; exact map_ne_row h.known (h.rows x) hg'
      · subst e2; exact map_ne_row h.signed (h.rows x) hg'
      · exact h.apart x who g' e hg' e2
  · intro x y g' hxy hx hy
    by_cases ex : x = who
    · rw [if_pos ex] at hx
      rw [if_neg (fun e => hxy (ex.trans e.symm))] at hy
      rw [hg] at hx
      cases hx
      exact gne y (fun e => hxy (ex.trans e.symm)) hy
    · rw [if_neg ex] at hx
      by_cases ey : y = who
      · rw [if_pos ey, hg] at hy
        cases hy
        exact gne x ex hx
      · rw [if_neg ey] at hy
        exact h.apart x y g' hxy hx hy
  · intro x e
    by_cases ex : x = who
    · rw [if_pos ex, hg] at e
      cases e
      rcases hloc with e' | e'
      · exact h.rne who e'
      · have := h.lt _ h.inS.1; omega
    · rw [if_neg ex] at e
      exact h.rne x e
  · intro x g' e
    by_cases ex : x = who
    · rw [if_pos ex, hg] at e
      cases e
      rcases hloc with e' | e'
      · exact .inl (h.rowS who _ e')
      · exact .inr ⟨e', (hv.lt _ hg).2⟩
    · rw [if_neg ex] at e
      exact .inl (h.rowS x g' e)
  · intro i hi
    rcases hi with hi | hi
    · exact Nat.lt_of_lt_of_le (h.lt i hi) hk.size
    · exact hi.2
  · intro p hp
    rcases List.mem_append.1 hp with hp | hp
    · exact h.ok p hp
    · simp only [List.mem_singleton] at hp
      subst hp
      exact ⟨h1, h64, hl⟩
  · rw [List.nodup_append]
    refine ⟨h.once, by simp, ?_⟩
    intro a ha b hb
    simp only [List.mem_singleton] at hb
    subst hb
    exact fun e => hnm (e ▸ ha)

theorem strR {B : Nat} {v : Value} {bs : List UInt8} {w : World} (h : Shows B w v bs) : (convert 28 9 v).run Try.prog w = .ok (.string (str8 bs)) w :=
  run_string_shows (P := Try.prog) 28 5 9 Try.underlying28 Try.underlying5 Try.underlying9 h

theorem look_signed {w : World} {bs n : Nat} {E : DataW Value} {who : Int} {fw : Value} (h : w.ownsMap Try.prog 3 rawElem bs n E) (hw : I64 who) (he : E.atKey (.int .i64 who) (.held nilS) = .held fw) :
    (Instr.lookup 51 (.map (some bs)) (.int .i64 who) false).run Try.prog w = .ok fw w := by
  obtain ⟨v, ps, hrun, hv⟩ := h.lookup lawI Try.underlying51 (Try.zeroStrs w) (zd := .held nilS) (zp := []) rfl (keyOf_int_mk Try.underlying3 hw.wf)
  have := rawElem_inv hv
  rw [he] at this
  simp only [Prod.mk.injEq, DataW.held.injEq] at this
  rw [this.1]
  exact hrun

theorem Reg.wider {w w' : World} {v : Value} {L : List Pr} {S : Nat → Prop} (h : Reg w v L S) (hb : Below w.heap.size w w') : Reg w' v L (ext S w w') := by
  obtain ⟨sb, bk, bs, D, E, f, rfl, h0⟩ := h.new hb
  refine ⟨sb, bk, bs, D, E, f, rfl, ?_⟩
  exact ⟨h0.cellK, h0.cellS, h0.known, h0.has, h0.size, h0.signed, h0.at', h0.rows, h0.apart, h0.ne, h0.rne, ⟨.inl h0.inS.1, .inl h0.inS.2.1, .inl h0.inS.2.2⟩, fun x g hg => .inl (h0.rowS x g hg), fun i hi => by
    rcases hi with hi | hi
    · exact h0.lt i hi
    · exact hi.2, h0.ok, h0.once⟩

set_option maxHeartbeats 4000000 in
theorem sign_any (v vt : Value) (who : Int) (t : List UInt8) (L : List Pr) (S : Nat → Prop) (w : World) (hR : Reg w v L S) (hw : I64 who) (hsh : Shows w.heap.size w vt t) (hL : L.length ≤ 100000) :
    Calls Try.prog 11 #[v, .int .i64 who, vt] w fun e w' => e = .returned (.int .i64 (signE who t)) ∧ Reg w' v (signL L who t) (ext S w w') ∧ Spares S w w' := by
  have hRk := hR
  obtain ⟨a, c, rfl, g1, g2, gn, g3⟩ := id hsh
  by_cases hbad : who < 1 ∨ 64 < who
  · have e1 : signE who t = 1 := by simp [signE, hbad]
    have e2 : signL L who t = L := by simp [signL, e1]
    rw [e1, e2]
    have hR' := hR.wider (Below.refl _ w)
    rcases hbad with hbad | hbad
    · clear e1 e2
      go_enter Try.func11, Try.ntmps11
      go_wp2
      go_ret
      exact ⟨rfl, hR', Spares.refl _ _⟩
    · have h1 : ¬ who < 1 := by omega
      clear e1 e2
      go_enter Try.func11, Try.ntmps11
      go_wp2
      go_ret
      exact ⟨rfl, hR', Spares.refl _ _⟩
  · have hlo : 1 ≤ who := by omega
    have hhi : who ≤ 64 := by omega
    by_cases hlong : 65536 < t.length
    · have e1 : signE who t = 2 := by simp [signE, hbad, hlong]
      have e2 : signL L who t = L := by simp [signL, e1]
      rw [e1, e2]
      have hR' := hR.wider (Below.refl _ w)
      clear e1 e2 hbad
      go_enter Try.func11, Try.ntmps11
      go_wp2
      go_ret
      exact ⟨rfl, hR', Spares.refl _ _⟩
    · have e1 : signE who t = 0 := by simp [signE, hbad, hlong]
      have hl : t.length ≤ 65536 := by omega
      by_cases hmem : (who, t) ∈ L
      · have e2 : signL L who t = L := by simp [signL, hmem]
        rw [e1, e2]
        clear e1 e2 hbad hlong
        go_enter Try.func11, Try.ntmps11
        go_wp2_with (go_at_call 13; refine (knows_any _ _ _ _ _ _ _ hRk hw hsh).mono ?_; rintro e w1 ⟨rfl, hb1⟩; rw [decide_eq_true hmem])
        go_ret
        exact ⟨rfl, hR.wider hb1, Spares.of_new hb1⟩
      · have e2 : signL L who t = L ++ [(who, t)] := by simp [signL, hmem, e1]
        rw [e1, e2]
        clear hbad hlong e1 e2
        have hm : t.length ≤ maxLen := by unfold maxLen; omega
        obtain ⟨i0, hi, hz0, hz1, hz2⟩ := info_parts Try.infoStr
        obtain ⟨sb, bk, bs, D, E, f, rfl, h0⟩ := hR
        go_enter Try.func11, Try.ntmps11
        go_wp2_with (go_at_call 13; refine (knows_any _ _ _ _ _ _ _ hRk hw hsh).mono ?_; rintro e w1 ⟨rfl, hb1⟩; rw [decide_eq_false hmem]; have hs1 := strR (hsh.below hb1))
        have h2 : Reg0 (w1.alloc (.cells #[.int .i64 who, .string (str8 t)] 55)) sb bk bs D E f L S := (h0.keeps (T := fun _ => False) (Spares.of_new hb1) (fun _ _ => id)).keeps (T := fun _ => False) (Spares.of_new ((Below.refl _ w1).alloc (Nat.le_refl _) _)) (fun _ _ => id)
        have hb2 : Below w.heap.size w (w1.alloc (.cells #[.int .i64 who, .string (str8 t)] 55)) := hb1.alloc hb1.size _
        have hblk := heap_alloc_new w1 (.cells #[.int .i64 who, .string (str8 t)] 55)
        have hp : w.heap.size ≤ w1.heap.size := hb1.size
        clear hs1 hb1
        generalize w1.alloc (.cells #[.int .i64 who, .string (str8 t)] 55) = w2 at *
        generalize w1.heap.size = p at *
        have c0 := cell_of_row w2 p 0 _ _ _ hblk
        have c1 := cell_of_row w2 p 1 _ _ _ hblk
        simp only [List.getElem?_toArray, List.getElem?_cons_zero, List.getElem?_cons_succ] at c0 c1
        obtain ⟨w3, hup3, hown3, hg3⟩ := (h2.known.drew).update lawP Try.underlying50 (by unfold maxLen; omega) (key_pair hw hm) unitElem_mk
        change (Instr.mapUpdate 50 (.map (some bk)) (.agg #[.int .i64 who, .string (str8 t)]) (.agg #[])).run Try.prog w2.drew = .ok () w3 at hup3
        have npk : p ≠ bk := map_ne_cell h2.known c0
        have nsk : sb ≠ bk := map_ne_cell h2.known h2.cellK
        have HA := hid (show w2.drew.cell? ⟨sb, 0, none⟩ = some (.map (some bk)) ∧ w2.drew.cell? ⟨p, 0, none⟩ = some (.int .i64 who) ∧ w2.drew.cell? ⟨p, 1, none⟩ = some (.string (str8 t)) from ⟨h2.cellK, c0, c1⟩)
        have HB := hid (show w3.cell? ⟨sb, 0, none⟩ = some (.map (some bk)) ∧ w3.cell? ⟨p, 0, none⟩ = some (.int .i64 who) ∧ w3.cell? ⟨p, 1, none⟩ = some (.string (str8 t)) from
          ⟨hg3.cell (w := w2.drew) h2.cellK (by simpa using nsk), hg3.cell (w := w2.drew) c0 (by simpa using npk), hg3.cell (w := w2.drew) c1 (by simpa using npk)⟩)
        have H0 := hid h0
        have H2 := hid h2
        have HR := hid hRk
        have HO3 := hid hown3
        have HG3 := hid hg3
        have HB2 := hid hb2
        clear h0 h2 hown3 hg3 c0 c1 hRk hsh g3 hblk hb2
        generalize hs : str8 t = s at *
        have HSS := hid hs
        clear hs
        go_region_held3 (fun w' => w'.cell? ⟨sb, 0, none⟩ = some (.map (some bk)) ∧ w'.cell? ⟨p, 0, none⟩ = some (.int .i64 who) ∧ w'.cell? ⟨p, 1, none⟩ = some (.string s))
          (first | exact HA.out | exact HB.out) (fail)
        clear hup3
        -- the second map
        have nbs : bs ≠ bk := fun e => H2.out.ne e.symm
        have hsg3 : w3.ownsMap Try.prog 3 rawElem bs L.length E := H2.out.signed.drew.kept HG3.out (by simpa using nbs)
        have hrow3 : w3.ownsRow 0 9 1 (f who) (textsOf L who).length (strCells (textsOf L who)) := (H2.out.rows who).kept (w := w2.drew) HG3.out (.inr (map_ne_row H2.out.known (H2.out.rows who)))
        have cs3 : w3.cell? ⟨sb, 1, none⟩ = some (.map (some bs)) := HG3.out.cell (w := w2.drew) H2.out.cellS (by simpa using nsk)
        have cp3 := HB.out.2.2
        have hlen := textsOf_le L who
        have nrp : ∀ g, (f who).ownBlock = some g → g ≠ p := fun g hg e => by have h1 := H0.out.lt g (H0.out.rowS who g hg); omega
        have nrs : (f who).ownBlock ≠ some sb := H0.out.rne who
        have hlt3 := hsg3.lt
        have hFIN : ∀ (w4 : World) (g cap : Nat) (w5 : World), w3.grownBy w4 none → w5.ownsRow 0 9 1 (.slice (some ⟨g, 0, none⟩) ((textsOf L who).length + 1) cap) ((textsOf L who).length + 1) (strCells (textsOf L who) ++ [.string s]) →
            w4.grownBy w5 (f who).ownBlock → ((f who).ownBlock = some g ∨ g = w3.heap.size + 1) → ∃ w6, (Instr.mapUpdate 51 (.map (some bs)) (.int .i64 who) (.slice (some ⟨g, 0, none⟩) ((textsOf L who).length + 1) cap)).run Try.prog w5 = .ok () w6 ∧
              (w5.cell? ⟨sb, 1, none⟩ = some (.map (some bs)) ∧ w5.cell? ⟨p, 1, none⟩ = some (.string s)) ∧ (w6.cell? ⟨sb, 1, none⟩ = some (.map (some bs)) ∧ w6.cell? ⟨p, 1, none⟩ = some (.string s)) ∧
              Hid (Reg w6 (.pointer (some ⟨sb, 0, none⟩)) (L ++ [(who, t)]) (ext S w w6) ∧ Spares S w w6) := by
          intro w4 g cap w5 hg4 hown5 hg5 hloc
          have hsg4 := hsg3.kept hg4 (by simp)
          have hsg5 := hsg4.kept hg5 (fun e => map_ne_row hsg3 hrow3 e.symm)
          have hkn5 := (HO3.out.kept hg4 (by simp)).kept hg5 (fun e => map_ne_row HO3.out hrow3 e.symm)
          obtain ⟨w6, hup6, hown6, hg6⟩ := hsg5.update lawI Try.underlying51 (by unfold maxLen; omega) (keyOf_int_mk Try.underlying3 hw.wf) (val := .slice (some ⟨g, 0, none⟩) ((textsOf L who).length + 1) cap) (d := .held (.slice (some ⟨g, 0, none⟩) ((textsOf L who).length + 1) cap)) (ps := []) rfl
          have d5 : w5.cell? ⟨sb, 1, none⟩ = some (.map (some bs)) := hg5.cell (hg4.cell cs3 (by simp)) (fun e => nrs e.symm)
          have e5 : w5.cell? ⟨p, 1, none⟩ = some (.string s) := hg5.cell (hg4.cell cp3 (by simp)) (fun e => nrp p e.symm rfl)
          have n5 : sb ≠ bs := map_ne_cell hsg5 d5
          have m5 : p ≠ bs := map_ne_cell hsg5 e5
          refine ⟨w6, hup6, ⟨d5, e5⟩, ⟨hg6.cell d5 (by simpa using n5), hg6.cell e5 (by simpa using m5)⟩, ?_⟩
          have k2 : Spares (fun i => i = bk ∨ i = bs ∨ (f who).ownBlock = some i) w w2 := Spares.of_new HB2.out
          have k3 : Spares (fun i => i = bk ∨ i = bs ∨ (f who).ownBlock = some i) w2 w3 := Spares.of_grown (w := w2) (row := some bk) ⟨HG3.out.os, HG3.out.tape, HG3.out.output, HG3.out.size, HG3.out.block⟩ (fun k e => .inl (by cases e; rfl))
          have k5 : Spares (fun i => i = bk ∨ i = bs ∨ (f who).ownBlock = some i) w3 w5 := (Spares.of_grown hg4 (fun k e => by cases e)).andThen (Spares.of_grown (S := fun i => i = bk ∨ i = bs ∨ (f who).ownBlock = some i) hg5 (fun k e => .inr (.inr e))) (fun i hi => .inl hi)
          have k6 : Spares (fun i => i = bk ∨ i = bs ∨ (f who).ownBlock = some i) w5 w6 := Spares.of_grown hg6 (fun k e => .inr (.inl (by cases e; rfl)))
          have kk : Spares (fun i => i = bk ∨ i = bs ∨ (f who).ownBlock = some i) w w6 := ((k2.andThen k3 fun _ h => .inl h).andThen k5 fun _ h => .inl h).andThen k6 fun _ h => .inl h
          refine ⟨⟨sb, bk, bs, _, _, _, rfl, H0.out.added hlo hhi hl hmem kk (hkn5.kept hg6 (by simpa using fun e => nbs e.symm)) hown6 (by rw [HSS.out]; exact hown5.kept hg6 (.inr (map_ne_row hsg5 hown5))) rfl ?_⟩, kk.mono ?_⟩
          · rcases hloc with e | e
            · exact .inl e
            · have h1 := HB2.out.size
              have h2 := HG3.out.size
              exact .inr (by rw [e]; exact Nat.le_succ_of_le (Nat.le_trans h1 h2))
          · rintro i (e | e | e)
            · rw [e]; exact H0.out.inS.2.1
            · rw [e]; exact H0.out.inS.2.2
            · exact H0.out.rowS who i e
        have hlk3 := look_signed hsg3.drew hw (H0.out.at' who hw)
        have hlk4 := look_signed (hsg3.alloc (.cells #[.string s] 9)).drew hw (H0.out.at' who hw)
        have HROW := hid hrow3
        have HFIN := hid hFIN
        have HC := hid (show w3.cell? ⟨sb, 1, none⟩ = some (.map (some bs)) ∧ w3.cell? ⟨p, 1, none⟩ = some (.string s) from ⟨cs3, cp3⟩)
        have HC4 := hid (show (w3.alloc (.cells #[.string s] 9)).cell? ⟨sb, 1, none⟩ = some (.map (some bs)) ∧ (w3.alloc (.cells #[.string s] 9)).cell? ⟨p, 1, none⟩ = some (.string s) from
          ⟨(World.grownBy_alloc w3 (.cells #[.string s] 9) none).cell cs3 (by simp), (World.grownBy_alloc w3 (.cells #[.string s] 9) none).cell cp3 (by simp)⟩)
        clear hsg3 hrow3 cs3 cp3 nrp nrs hFIN HA HB H0 H2 HR HO3 HG3 HB2 HSS nbs hlt3 hw hmem
        generalize f who = fw at *
        generalize (textsOf L who) = tw at *
        go_wp2_with fail
        go_region_held3 (fun w' => w'.cell? ⟨sb, 1, none⟩ = some (.map (some bs)) ∧ w'.cell? ⟨p, 1, none⟩ = some (.string s))
          (first | exact HC.out | exact HC4.out | assumption)
          ((refine step_append_lies _ (by rfl) (.tmp 41) (.tmp 44) 57 (by rfl) 0 9 i0 (.string ByteArray.empty) 1 16 Try.underlying57 hi hz0 hz1 hz2 rfl (by decide) fw tw.length (strCells tw) (by rfl) (HROW.out.alloc _) ⟨w3.heap.size, 0, none⟩ 1 1 [.string s] (by rfl) rfl (one_cell w3 _ _) (by simp [Value.oneCell']) (by decide) (by unfold maxLen; omega) (by omega) (Nat.zero_le _) (w3.heap.size + 1) (by simp) ?_; intro g cap w5 hown5 hgrow5 hat hlt; obtain ⟨w6, hup6, hS5, hS6, FIN⟩ := HFIN.out _ g cap w5 ((World.grownBy_alloc w3 _ none).trans (grown_drew _)) hown5 hgrow5 hat))
        all_goals go_wp2
        all_goals go_ret
        all_goals exact ⟨rfl, FIN.out⟩
end Go.Proofs.Ytnhgjjpjmfjmjaa
