/- The document's own registry: Sign. -/
import Derived.Test.YtnhgjjpjmfjmjaaRefS
import Derived.Deep.AppendLies
namespace Go.Proofs.Ytnhgjjpjmfjmjaa
open Go.RowKit Go.Maps
set_option linter.unusedVariables false

theorem Try.infoRpair : (Try.prog.info? 59).map (fun i => (i.zero, i.size, i.bytes)) = some (some (.agg #[.int .i64 0, .string ByteArray.empty]), 2, 24) := by kernel_rfl

theorem RefG.wider {w w' : World} {v : Value} {L : List Pr} {S : Nat → Prop} (h : RefG w v L S) (hb : Below w.heap.size w w') : RefG w' v L (ext S w w') := by
  obtain ⟨xb, vl, rfl, h0⟩ := h.new hb
  exact ⟨xb, vl, rfl, ⟨h0.cell, h0.fz, h0.row, .inl h0.inS, fun g hg => .inl (h0.rowS g hg), h0.ne, fun i hi => by
    rcases hi with hi | hi
    · exact h0.lt i hi
    · exact hi.2, h0.ok⟩⟩

set_option maxHeartbeats 2000000 in
theorem rsign_any (v vt : Value) (who : Int) (t : List UInt8) (L : List Pr) (S : Nat → Prop) (w : World) (hR : RefG w v L S) (hw : I64 who) (hsh : Shows w.heap.size w vt t) (hL : L.length ≤ 10000) :
    Calls Try.prog 12 #[v, .int .i64 who, vt] w fun e w' => e = .returned (.int .i64 (signE who t)) ∧ RefG w' v (signL L who t) (ext S w w') ∧ Spares S w w' := by
  have hRk := hR
  obtain ⟨a, c, rfl, g1, g2, gn, g3⟩ := id hsh
  by_cases hbad : who < 1 ∨ 64 < who
  · have e1 : signE who t = 1 := by simp [signE, hbad]
    have e2 : signL L who t = L := by simp [signL, e1]
    rw [e1, e2]
    have hR' := hR.wider (Below.refl _ w)
    rcases hbad with hbad | hbad
    · clear e1 e2
      go_enter Try.func12, Try.ntmps12
      go_wp2
      go_ret
      exact ⟨rfl, hR', Spares.refl _ _⟩
    · have h1 : ¬ who < 1 := by omega
      clear e1 e2
      go_enter Try.func12, Try.ntmps12
      go_wp2
      go_ret
      exact ⟨rfl, hR', Spares.refl _ _⟩
  · have hlo : 1 ≤ who := by omega
    have hhi : who ≤ 64 := by omega
    by_cases hlong : 65536 < t.length
    · have e1 : signE who t = 2 := by simp [signE, hbad, hlong]
      have e2 : signL L who t = L := by simp [signL, e1]
      rw [e1, e2]
      have hR' := hR.wider (Below.refl _ w)
      clear e1 e2 hbad
      go_enter Try.func12, Try.ntmps12
      go_wp2
      go_ret
      exact ⟨rfl, hR', Spares.refl _ _⟩
    · have e1 : signE who t = 0 := by simp [signE, hbad, hlong]
      have hl : t.length ≤ 65536 := by omega
      by_cases hmem : (who, t) ∈ L
      · have e2 : signL L who t = L := by simp [signL, hmem]
        rw [e1, e2]
        clear e1 e2 hbad hlong
        go_enter Try.func12, Try.ntmps12
        go_wp2_with (go_at_call 14; refine (rknows_any _ _ _ _ _ _ _ hRk hw hsh (by omega)).mono ?_; rintro e w1 ⟨rfl, hb1⟩; rw [decide_eq_true hmem])
        go_ret
        exact ⟨rfl, hR.wider hb1, Spares.of_new hb1⟩
      · have e2 : signL L who t = L ++ [(who, t)] := by simp [signL, hmem, e1]
        rw [e1, e2]
        clear hbad hlong e1 e2
        have hm : t.length ≤ maxLen := by unfold maxLen; omega
        obtain ⟨i0, hi, hz0, hz1, hz2⟩ := info_parts Try.infoRpair
        obtain ⟨xb, vl, rfl, h0⟩ := hR
        go_enter Try.func12, Try.ntmps12
        go_wp2_with (go_at_call 14; refine (rknows_any _ _ _ _ _ _ _ hRk hw hsh (by omega)).mono ?_; rintro e w1 ⟨rfl, hb1⟩; rw [decide_eq_false hmem])
        have h1 := h0.keeps (T := fun _ => False) (Spares.of_new hb1) (fun _ _ => id)
        have es1 := strR ((hsh.below hb1).below (Below.refl _ w1).drew)
        have hc1 := h1.cell
        have hc2 : (w1.alloc (.cells #[.int .i64 who, .string (str8 t)] 59)).cell? ⟨xb, 0, none⟩ = some vl := (World.grownBy_alloc w1 _ none).cell hc1 (by simp)
        have hFIN : ∀ (g cap : Nat) (w5 : World), w5.ownsRow 0 59 2 (.slice (some ⟨g, 0, none⟩) (L.length + 1) cap) (L.length + 1) (pairCells L ++ [.int .i64 who, .string (str8 t)]) → (w1.alloc (.cells #[.int .i64 who, .string (str8 t)] 59)).drew.grownBy w5 vl.ownBlock → (vl.ownBlock = some g ∨ g = w1.heap.size + 1) → g < w5.heap.size →
            w5.cell? ⟨xb, 0, none⟩ = some vl ∧ w5.frozen? ⟨xb, 0, none⟩ = false ∧ Hid (RefG (w5.setCell ⟨xb, 0, none⟩ (.slice (some ⟨g, 0, none⟩) (L.length + 1) cap)) (.pointer (some ⟨xb, 0, none⟩)) (L ++ [(who, t)]) (ext S w (w5.setCell ⟨xb, 0, none⟩ (.slice (some ⟨g, 0, none⟩) (L.length + 1) cap))) ∧ Spares S w (w5.setCell ⟨xb, 0, none⟩ (.slice (some ⟨g, 0, none⟩) (L.length + 1) cap))) := by
          intro g cap w5 ho5 hg5 hloc hlt
          have k5 : Spares (fun i => vl.ownBlock = some i) w w5 := ((Spares.of_new hb1).andThen (Spares.of_new (S := fun i => vl.ownBlock = some i) (new_allocR w1 (.cells #[.int .i64 who, .string (str8 t)] 59))) (fun i hi => .inl hi)).andThen (Spares.of_grown (w := w1.alloc (.cells #[.int .i64 who, .string (str8 t)] 59)) (row := vl.ownBlock) ⟨hg5.os, hg5.tape, hg5.output, hg5.size, hg5.block⟩ (fun k e => e)) (fun i hi => .inl hi)
          have hxlt := h0.lt _ h0.inS
          have hsz := k5.size
          have hs1 := hb1.size
          have d5 := k5.cell h0.cell h0.ne
          have f5 : w5.frozen? ⟨xb, 0, none⟩ = false := by rw [World.frozen?_of_block (w := w) (k5.block xb hxlt h0.ne)]; exact h0.fz
          have hgx : g ≠ xb := by
            rcases hloc with e | e
            · intro e2; rw [e2] at e; exact h0.ne e
            · omega
          have hk6 : Spares (fun i => i = xb) w5 (w5.setCell ⟨xb, 0, none⟩ (.slice (some ⟨g, 0, none⟩) (L.length + 1) cap)) := ⟨rfl, rfl, rfl, by simp [World.setCell], fun j hj hS => heap_setCell_other w5 ⟨xb, 0, none⟩ j _ hS⟩
          have hsz6 : (w5.setCell ⟨xb, 0, none⟩ (.slice (some ⟨g, 0, none⟩) (L.length + 1) cap)).heap.size = w5.heap.size := by simp [World.setCell]
          refine ⟨d5, f5, ⟨⟨xb, .slice (some ⟨g, 0, none⟩) (L.length + 1) cap, rfl, ⟨?_, ?_, ?_, .inl h0.inS, fun g' hg' => ?_, fun e => ?_, fun i hi => ?_, ?_⟩⟩, ?_⟩⟩
          · exact World.cell?_setCell_same w5 ⟨xb, 0, none⟩ _ (by rw [d5])
          · rw [World.frozen?_setCell]; exact f5
          · rw [pairCells_snoc, List.length_append]
            exact hk6.row ho5 (fun g' hg' e => by simp only [Value.ownBlock, Option.some.injEq] at hg'; exact hgx (hg'.trans e))
          · simp only [Value.ownBlock, Option.some.injEq] at hg'
            subst hg'
            rcases hloc with e | e
            · exact .inl (h0.rowS g e)
            · exact .inr ⟨by omega, by rw [hsz6]; exact hlt⟩
          · simp only [Value.ownBlock, Option.some.injEq] at e
            exact hgx e
          · rcases hi with hi | hi
            · rw [hsz6]; exact Nat.lt_of_lt_of_le (h0.lt i hi) hsz
            · exact hi.2
          · intro p hp
            rcases List.mem_append.1 hp with hp | hp
            · exact h0.ok p hp
            · simp only [List.mem_singleton] at hp
              subst hp
              exact ⟨hlo, hhi, hl⟩
          · exact (k5.mono fun i hi => h0.rowS i hi).andThen hk6 (fun i hi => .inl (by rw [hi]; exact h0.inS))
        have HROW := hid h1.row
        have HFIN := hid hFIN
        clear hFIN h1 h0 hRk hsh g3 hb1
        generalize str8 t = s at *
        generalize hcs : pairCells L = cs at *
        clear hcs
        go_wp2_with fail
        go_region_law ((refine step_append_lies _ (by rfl) (.tmp 27) (.tmp 32) 44 (by rfl) 0 59 i0 (.agg #[.int .i64 0, .string ByteArray.empty]) 2 24 Try.underlying44 hi hz0 hz1 hz2 rfl (by decide) vl L.length cs (by rfl) (HROW.out.alloc _) ⟨w1.heap.size, 0, none⟩ 1 1 [.int .i64 who, .string s] (by rfl) rfl (two_cells w1 _ _ _) (by simp [Value.oneCell']) (by decide) (by unfold maxLen; omega) (by omega) (Nat.zero_le _) (w1.heap.size + 1) (by simp) ?_; intro g cap w5 hown5 hgrow5 hat hlt; obtain ⟨d5, f5, FIN⟩ := HFIN.out g cap w5 hown5 hgrow5 hat hlt))
        all_goals go_wp2
        all_goals go_ret
        all_goals exact ⟨rfl, FIN.out⟩
end Go.Proofs.Ytnhgjjpjmfjmjaa
