/- Contracts of registry.New, Knows, Count. -/
import Derived.Test.YtnhgjjpjmfjmjaaReg
import Derived.Deep.RegionHeld3
namespace Go.Proofs.Ytnhgjjpjmfjmjaa
open Go.RowKit Go.Maps
set_option linter.unusedVariables false

theorem Try.zeroUnit (w : World) : (zeroValue 56).run Try.prog w = .ok (.agg #[]) w := by kernel_rfl

theorem Try.zeroStrs (w : World) : (zeroValue 57).run Try.prog w = .ok nilS w := by kernel_rfl

theorem has_empty (x : Lit) : Maps.has (.map [] : DataW Unit) x = false := rfl

theorem atKey_empty (x : Lit) (z : DataW Value) : (.map [] : DataW Value).atKey x z = z := rfl

set_option maxHeartbeats 1000000 in
theorem new_any (w : World) :
    Calls Try.prog 8 #[] w fun e w' => ∃ v, e = .returned v ∧ Reg w' v [] (fun i => w.heap.size ≤ i ∧ i < w'.heap.size) ∧ Below w.heap.size w w' := by
  have hmm := @run_makeMap Try.prog
  go_enter Try.func8, Try.ntmps8
  go_wp2
  go_ret
  have hsz : (((w.alloc (Obj.map #[] 0)).alloc (Obj.map #[] 0)).alloc (Obj.cells #[Value.map (some w.heap.size), Value.map (some (w.heap.size + 1))] 53)).heap.size = w.heap.size + 3 := by simp
  have m1 := World.ownsMap_made w Try.prog 55 (unitElem (H := Unit))
  have m2 := World.ownsMap_made (w.alloc (Obj.map #[] 0)) Try.prog 3 rawElem
  have e1 : (w.alloc (Obj.map #[] 0)).heap.size = w.heap.size + 1 := by simp
  have e2 : ((w.alloc (Obj.map #[] 0)).alloc (Obj.map #[] 0)).heap.size = w.heap.size + 1 + 1 := by simp
  rw [e1] at m2
  refine ⟨_, rfl, ⟨w.heap.size + 1 + 1, w.heap.size, w.heap.size + 1, .map [], .map [], fun _ => nilS, rfl, ?_⟩, (((Below.refl _ w).alloc (Nat.le_refl _) _).alloc (by simp) _).alloc (by simp; omega) _⟩
  have hblk := heap_alloc_new ((w.alloc (Obj.map #[] 0)).alloc (Obj.map #[] 0)) (Obj.cells #[Value.map (some w.heap.size), Value.map (some (w.heap.size + 1))] 53)
  rw [e2] at hblk
  exact ⟨cell_of_row _ _ _ _ _ _ hblk, cell_of_row _ _ _ _ _ _ hblk, (m1.alloc _).alloc _, fun x t _ _ => by rw [has_empty]; simp, rfl, m2.alloc _, fun x _ => atKey_empty _ _, fun x => World.ownsRow_nil _ _ _ _,
    fun x y g _ hg => by simp [Value.ownBlock] at hg, by omega, fun x => by simp [Value.ownBlock], by simp only [hsz]; omega, fun x g hg => by simp [Value.ownBlock] at hg, fun i hi => hi.2, fun p hp => by simp at hp, List.nodup_nil⟩

set_option maxHeartbeats 1000000 in
theorem count_any (v : Value) (L : List Pr) (S : Nat → Prop) (w : World) (hR : Reg w v L S) :
    Calls Try.prog 24 #[v] w fun e w' => e = .returned (.int .i64 (L.length : Int)) ∧ w' = w := by
  obtain ⟨sb, bk, bs, D, E, f, rfl, h0⟩ := hR
  have hc := h0.cellK
  have hlen := h0.known.len Try.underlying50 3
  rw [h0.size] at hlen
  go_enter Try.func24, Try.ntmps24
  go_wp2
  go_ret
  exact ⟨rfl, rfl⟩

set_option maxHeartbeats 1000000 in
theorem knows_any (v vt : Value) (who : Int) (t : List UInt8) (L : List Pr) (S : Nat → Prop) (w : World) (hR : Reg w v L S) (hw : I64 who) (hsh : Shows w.heap.size w vt t) :
    Calls Try.prog 13 #[v, .int .i64 who, vt] w fun e w' => e = .returned (.bool (decide ((who, t) ∈ L))) ∧ Below w.heap.size w w' := by
  obtain ⟨sb, bk, bs, D, E, f, rfl, h0⟩ := hR
  have hc := h0.cellK
  have hS : ∀ w', w.grownBy w' none → w'.cell? ⟨sb, 0, none⟩ = some (.map (some bk)) ∧ (convert 28 9 vt).run Try.prog w' = .ok (.string (str8 t)) w' ∧
      (Instr.lookup 50 (.map (some bk)) (.agg #[.int .i64 who, .string (str8 t)]) true).run Try.prog w' = .ok (.tuple #[.agg #[], .bool (decide ((who, t) ∈ L))]) w' := fun w' hg => by
    have hb : Below w.heap.size w w' := (Below.refl _ w).grown hg (Nat.le_refl _) (fun k e => by cases e)
    refine ⟨hg.cell hc (by simp), run_string_shows (P := Try.prog) 28 5 9 Try.underlying28 Try.underlying5 Try.underlying9 (hsh.below hb), ?_⟩
    obtain ⟨v, ps, hrun, hv⟩ := (h0.known.kept hg (by simp)).look_ok lawP Try.underlying50 (Try.zeroUnit w') unitElem_mk (key_pair hw hsh.len)
    obtain ⟨rfl, _⟩ := unitElem_inv hv
    rw [h0.has _ _ hw hsh.len] at hrun
    exact hrun
  have HS := hid hS
  clear hS h0 hc
  generalize decide ((who, t) ∈ L) = b at *
  generalize str8 t = s at *
  go_enter Try.func13, Try.ntmps13
  go_wp2_with fail
  go_region_held3 (fun w' => w'.cell? ⟨sb, 0, none⟩ = some (.map (some bk)) ∧ (convert 28 9 vt).run Try.prog w' = .ok (.string s) w' ∧
      (Instr.lookup 50 (.map (some bk)) (.agg #[.int .i64 who, .string s]) true).run Try.prog w' = .ok (.tuple #[.agg #[], .bool b]) w')
    (first | exact HS.out _ (grown_drew _) | exact HS.out _ ((World.grownBy_alloc w _ _).trans (grown_drew _)) | exact HS.out _ (World.grownBy_alloc _ _ _)) (fail)
  all_goals go_wp2
  all_goals go_ret
  all_goals exact ⟨rfl, ((Below.refl _ w).alloc (Nat.le_refl _) _).drew⟩
end Go.Proofs.Ytnhgjjpjmfjmjaa
