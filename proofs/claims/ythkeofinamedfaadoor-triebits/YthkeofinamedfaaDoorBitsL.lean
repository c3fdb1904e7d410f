/- The walk of TrieBits. -/
import Derived.Test.YthkeofinamedfaaDoorRef4D
import Derived.Test.YthkeofinamedfaaDoorSmall4
import Derived.Test.YthkeofinamedfaaDoorForksP
namespace Go.Proofs.YthkeofinamedfaaDoor
open Go.RowKit Go.Shelf
set_option linter.unusedVariables false
set_option linter.unusedSimpArgs false
set_option maxRecDepth 20000

theorem rootsTo_cells {L : List Ent} {A : Array Value} {e : Int} (h : RootsTo L A e) : ∃ s cs, Cs s cs ∧ A = cs.toArray ∧ 0 ≤ e ∧ e ≤ 2 := by
  have hz : zero32 = ((List.replicate 32 (0 : UInt8)).map by8).toArray := by rw [zero32]; simp [by8]
  rcases h with ⟨_, rfl, rfl⟩ | ⟨_, _, rfl, rfl⟩ | ⟨T, _, _, rfl, rfl⟩
  · exact ⟨List.replicate 32 0, _, ⟨by simp, rfl⟩, hz, by omega, by omega⟩
  · exact ⟨List.replicate 32 0, _, ⟨by simp, rfl⟩, hz, by omega, by omega⟩
  · exact ⟨rootO T, _, ⟨rootO_length T, rfl⟩, rfl, by omega, by omega⟩

set_option maxHeartbeats 8000000 in
theorem bits_law (kv : Value) (key : List UInt8) (i : Int) (v : Value) (xs : List EntV) (w : World) (hk : Shows w.heap.size w kv key) (hkl : key.length ≤ 140737488351232) (h1 : -9223372036854775808 ≤ i) (h2 : i ≤ 9223372036854775807) (hE : Ents w.heap.size w v xs) (ht : Tables w) :
    Calls Tryd.prog 4 #[kv, .int .i64 i, v] w fun e w' => e = .returned (.bool true) ∧ Below w.heap.size w w' := by
  obtain ⟨a, c, rfl, _⟩ := id hk
  obtain ⟨a1, c1, rfl, hc1, hc2, _⟩ := id hE
  unfold maxLen at hc2
  have hlt := ht.lt
  have HW : Hid (∀ W, Below w.heap.size w W → Says W (.slice a key.length c) key ∧ Ents W.heap.size W (.slice a1 xs.length c1) xs ∧ Tables W) := hid (fun W h => ⟨Says.new hk h, hE.new h, ht.below h (by omega)⟩)
  have HT := hid ht
  clear hk hE ht
  by_cases hn : 20 < xs.length
  · have hn' : (20 : Int) < (xs.length : Int) := by omega
    go_enter Tryd.func4, Tryd.ntmps4
    go_wp2_with fail
    refine (small_any w HT.out).mono ?_
    rintro e w1 ⟨rfl, hb1⟩
    go_wp2
    go_ret
    exact ⟨rfl, hb1⟩
  · have hn' : (xs.length : Int) ≤ 20 := by omega
    go_enter Tryd.func4, Tryd.ntmps4
    go_wp2_with fail
    refine (small_any w HT.out).mono ?_
    rintro e w1 ⟨rfl, hb1⟩
    have HB1 := hid hb1
    go_wp2_with fail
    refine (roots_any _ xs w1 (HW.out w1 hb1).2.1 (by omega) (HW.out w1 hb1).2.2).mono ?_
    rintro e w2 ⟨A, er, rfl, hR, _, hb2⟩
    obtain ⟨s, cs, K, rfl, he1, he2⟩ := rootsTo_cells hR
    have HB2 := hid (HB1.out.trans (hb2.mono HB1.out.size))
    have HR := hid hR
    have HK := hid K
    have hi0 := K.info
    have hq0 := K.same
    have hu := Tryd.underlying37
    clear hb1 hb2 hR K
    go_wp2_with (first
      | (refine wpList_store_row rfl 37 (.tmp 8) (.tmp 20) rfl w2.heap.size cs.toArray rfl rfl 37 zero32 (World.alloc_heap_new w2 _) HK.out.isSum.info HK.out.isSum.size HK.out.isSum.one ?_
         generalize hw3 : World.setRow _ w2.heap.size cs.toArray = w3
         have H3 : Hid (w3.heap[w2.heap.size]? = some (.cells cs.toArray 37 (0, 0))) := hid (by rw [← hw3]; exact (fresh_row w2 _).1)
         have HB3 : Hid (Below w2.heap.size w2 w3) := hid (by rw [← hw3]; exact (fresh_row w2 _).2.1)
         clear hw3))
    have HB3' := hid (HB2.out.trans (HB3.out.mono HB2.out.size))
    refine (xroots_any _ xs w3 (HW.out w3 HB3'.out).2.1 (by omega)).mono ?_
    rintro e w4 ⟨A', er', rfl, hR', _, hb4⟩
    obtain ⟨rfl, rfl⟩ := rootsTo_one HR.out hR'
    have H4 := hid (row_kept H3.out hb4)
    have HB4 := hid (HB3'.out.trans (hb4.mono HB3'.out.size))
    have hS := (HW.out w4 HB4.out).1
    clear hR' hb4 HB3 HB3' H3 HB2
    have e5 : ((w4.alloc (.cells zero32 37)).setRow w4.heap.size cs.toArray).heap.size = w4.heap.size + 1 := (fresh_row w4 _).2.2
    go_wp2_with (first
      | (refine wpList_store_row rfl 37 (.tmp 10) (.tmp 25) rfl w4.heap.size cs.toArray rfl rfl 37 zero32 (World.alloc_heap_new w4 _) HK.out.isSum.info HK.out.isSum.size HK.out.isSum.one ?_
         generalize hw5 : World.setRow _ w4.heap.size cs.toArray = w5
         have H5 : Hid (w5.heap[w4.heap.size]? = some (.cells cs.toArray 37 (0, 0))) := hid (by rw [← hw5]; exact (fresh_row w4 _).1)
         have HB5 : Hid (Below w4.heap.size w4 w5) := hid (by rw [← hw5]; exact (fresh_row w4 _).2.1)
         have H45 := hid (row_kept H4.out HB5.out)
         have HB5' := hid (HB4.out.trans (HB5.out.mono HB4.out.size))
         have hb1' := bit_any _ _ key i w5 (hS.new HB5.out) h1 h2
         have hb2' := xbit_any _ _ key i w5 (hS.new HB5.out) (by omega) h1 h2
         generalize bitI key i = bb at *
         clear hw5)
      | (go_at_call 20; refine hb1'.mono ?_; rintro e w6 ⟨rfl, rfl⟩)
      | (go_at_call 21; refine hb2'.mono ?_; rintro e w6 ⟨rfl, rfl⟩)
      | (refine wpList_load_want (by rfl) 37 (.tmp 8) rfl w2.heap.size rfl 37 cs.toArray (0, 0) _ _ H45.out Tryd.underlying37 HK.out.isSum.info ?_)
      | (refine wpList_load_want (by rfl) 37 (.tmp 10) rfl w4.heap.size rfl 37 cs.toArray (0, 0) _ _ H5.out Tryd.underlying37 HK.out.isSum.info ?_))
    go_ret
    exact ⟨by simp, HB5'.out⟩
end Go.Proofs.YthkeofinamedfaaDoor
