/- Contracts of maps.Clone and slices.Clone, as the registry calls them. -/
import Derived.Test.YtnhgjjpjmfjmjaaByF
import Derived.Shelf.SlMaps.Clone
import Derived.Lib.SliceRun
namespace Go.Proofs.Ytnhgjjpjmfjmjaa
open Go.RowKit Go.Maps
set_option linter.unusedVariables false

theorem run_makeMap_hint (w : World) (t k e : TypeId) (n : Int) (ht : Try.prog.underlying t = some (.map k e)) : (Instr.makeMap t (some (.int .i64 n))).run Try.prog w = .ok (.map (some w.heap.size)) (w.alloc (.map #[] 0)) := by
  simp [Instr.makeMap, run_underlying ht, asInt, asIntOf, Result.andThen]

set_option maxHeartbeats 1000000 in
theorem mclone_any {H : Type} (R : Value → Option (DataW H × List MemPlace)) (b n : Nat) (D : DataW H) (w : World) (hown : w.ownsMap Try.prog 55 R b n D) :
    Calls Try.prog 25 #[.map (some b)] w fun e w' => e = .returned (.map (some w.heap.size)) ∧ w'.ownsMap Try.prog 55 R w.heap.size n D ∧ w.grownBy w' none ∧ w'.heap.size = w.heap.size + 1 := by
  obtain ⟨es, clock, hb, F, hs, hD⟩ := hown
  have hq := fun w => run_eql_map_nil_sl (P := Try.prog) w 50 _ _ (some b) Try.underlying50
  go_enter Try.func25, Try.ntmps25
  go_wp2
  rw [run_callFunc_extern Try.func27 (by kernel_rfl) (by kernel_rfl) (by kernel_rfl) (e := Extern.MapsClone.clone) (by kernel_rfl), run_maps_clone_sl (P := Try.prog) w 50 hb]
  simp only [Result.andThen]
  rw [Oper.upon_value]
  go_wp2
  rw [run_typeAssert_map_sl (P := Try.prog) _ 50 20 _ _ _ Try.underlying50]
  simp only [Result.andThen]
  rw [Oper.upon_value]
  go_wp2
  go_ret
  exact ⟨rfl, ⟨es, clock, (MapKept.heap_alloc w _).1, F, hs, hD⟩, World.grownBy_alloc w _ none, by simp⟩

theorem str_one (ts : List (List UInt8)) : ∀ u ∈ strCells ts, u.oneCell' = true := by
  intro u hu
  obtain ⟨t, _, rfl⟩ := List.mem_map.1 hu
  rfl

set_option maxHeartbeats 1000000 in
theorem sclone_any (v : Value) (ts : List (List UInt8)) (w : World) (hown : w.ownsRow 0 9 1 v ts.length (strCells ts)) (hl : ts.length ≤ 100000) :
    Calls Try.prog 26 #[v] w fun e w' => ∃ v', e = .returned v' ∧ w'.ownsRow w.heap.size 9 1 v' ts.length (strCells ts) ∧ Below w.heap.size w w' := by
  obtain ⟨i0, hi, hz0, hz1, hz2⟩ := info_parts Try.infoStr
  have hq := fun (w : World) (a : Option Addr) (n c : Nat) => Lib.run_eql_slice_nil (P := Try.prog) w 57 9 a n c 0 0 Try.underlying57
  have hown0 := hown
  rcases hown.2 with ⟨rfl, h0⟩ | ⟨g, cap, cur, rfl, hB, hg, h1, h2, h3, h4⟩
  · have e := List.eq_nil_of_length_eq_zero h0
    subst e
    clear hown hown0 h0
    go_enter Try.func26, Try.ntmps26
    go_wp2
    go_ret
    exact ⟨_, rfl, World.ownsRow_nil _ _ _ _, Below.refl _ _⟩
  · have hcells := hown0.cells (g := g) rfl
    have hnew := World.ownsRow_made (base := w.heap.size) (e := 9) (size := 1) w #[] 0 (Nat.le_refl _) (by unfold maxLen; omega) rfl
    have hlt : g < w.heap.size := (Array.getElem?_eq_some_iff.1 hg).1
    have hc2 : ∀ j u, (strCells ts)[j]? = some u → (w.alloc (.cells #[] 9)).cell? ((⟨g, 0, none⟩ : Addr).add j) = some u := fun j u hu => by
      have := hcells j u hu
      rw [World.cell?_alloc_lt _ _ _ (by rw [Addr.add_lit]; exact hlt)]
      exact this
    have HC := hid hc2
    have HL := hid (show (strCells ts).length = ts.length * 1 by rw [strCells_length]; omega)
    have HO := hid (str_one ts)
    clear hown hown0 hcells hc2 hg h4 h3
    generalize strCells ts = cs at *
    generalize ts.length = n at *
    go_enter Try.func26, Try.ntmps26
    go_wp2_with (first | (at_builtin; refine wpList_append_own_at _ rfl _ _ 57 rfl w.heap.size 9 i0 (.string ByteArray.empty) 1 16 Try.underlying57 hi hz0 hz1 hz2 rfl (by decide) _ 0 [] rfl hnew ⟨g, 0, none⟩ n cap cs rfl HL.out HC.out HO.out ?c1 ?c2 ?c3 ?_) | go_in)
    case c1 => unfold maxLen; omega
    case c2 => omega
    case c3 => simp
    · intro v' w2 hown2 hg2 _ _
      go_wp2
      go_ret
      refine ⟨_, rfl, by simpa using hown2, ((new_allocR w _).grown hg2 (by simp) (fun k hk => ?_))⟩
      have : some w.heap.size = some k := hk
      cases this
      exact Nat.le_refl _
end Go.Proofs.Ytnhgjjpjmfjmjaa
