/- How an argument that is a slice of entries is read. -/
import Derived.Test.YtmafaioohiaenaaDoorOpenE
import Derived.Test.YtmafaioohiaenaaDoorAllF
namespace Go.Proofs.YtmafaioohiaenaaDoor
open Go.RowKit Go.ChangeShapes Go.WideShapes
set_option linter.unusedVariables false
set_option maxRecDepth 20000

section
variable {H : Type} {enc : TypeId × Value → H} {w : World} {base : Nat} {held : Bool}

theorem ents_of_trod {fuel : Nat} {a : Option Addr} {len cap : Nat} {x : DataW H × List MemPlace} (h : DataW.trod enc Tryd.prog w base (fun _ => true) held fuel 51 [.slice a len cap] = some x) :
    ∃ xs, Ents w.heap.size w (.slice a len cap) xs := by
  rcases Deep.open_slice Tryd.underlying51 h with ⟨hcs, _⟩ | ⟨y, l, c, m, n, D, Pl, hcs, _, hl, hm, hmm, hx, hr⟩
  · simp only [List.cons.injEq, Value.slice.injEq, and_true] at hcs
    obtain ⟨rfl, rfl, rfl⟩ := hcs
    exact ⟨[], none, 0, rfl, Nat.le_refl _, Nat.zero_le _, fun h => absurd rfl h⟩
  · simp only [List.cons.injEq, Value.slice.injEq, and_true] at hcs
    obtain ⟨rfl, rfl, rfl⟩ := hcs
    simp only [if_true] at hmm
    subst hmm
    have one : ∀ i, i < len → ∃ av : EntV, w.cells? base (y.add (i * 2)) 2 = some [av.kv, av.vv] ∧ Says w av.kv av.k ∧ Says w av.vv av.v := fun i hi => by
      obtain ⟨cs, h1, h2⟩ := hr i (by omega)
      rw [Tryd.cellsEntry] at h1
      obtain ⟨ka, va, k, x, rfl, hk, hv⟩ := entry_of_trod h2
      exact ⟨⟨ka, va, k, x⟩, h1, hk, hv⟩
    haveI : Inhabited EntV := ⟨⟨.slice none 0 0, .slice none 0 0, [], []⟩⟩
    obtain ⟨f, hfr⟩ := Deep.choose_lt (α := EntV) (p := fun i av => w.cells? base (y.add (i * 2)) 2 = some [av.kv, av.vv] ∧ Says w av.kv av.k ∧ Says w av.vv av.v) one
    have hlen : ((List.range len).map f).length = len := by simp
    refine ⟨(List.range len).map f, some y, m, by rw [hlen], by rw [hlen]; exact hl, hm, fun hne => ?_⟩
    have hpos : 0 < len := by
      rcases Nat.eq_zero_or_pos len with e | e
      · exact absurd (by rw [e]; rfl) hne
      · exact e
    obtain ⟨b, off, spot⟩ := y
    have h0 := (World.cells?_some (hfr 0 hpos).1).2.2 0 (by omega)
    have hspot : spot = none := by simpa [Addr.add] using World.cell?_spot h0
    subst hspot
    refine ⟨b, off, rfl, World.block_lt_of_cell? w _ h0, fun j v hv => ?_⟩
    have hj : j < len := by have := (List.getElem?_eq_some_iff.1 hv).1; simpa using this
    have ev : f j = v := by simpa [hj] using hv
    obtain ⟨hc, r⟩ := hfr j hj
    rw [ev] at hc r
    have hcell := (World.cells?_some hc).2.2
    have k0 := hcell 0 (by omega)
    have k1 := hcell 1 (by omega)
    simp only [Addr.add_lit, List.getElem?_cons_zero, List.getElem?_cons_succ, Nat.add_zero] at k0 k1
    exact ⟨k0, k1, r.1, r.2⟩
end
end Go.Proofs.YtmafaioohiaenaaDoor
