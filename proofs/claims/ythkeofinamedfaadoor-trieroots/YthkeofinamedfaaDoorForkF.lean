/- Contract of trie.forkSum. -/
import Derived.Test.YthkeofinamedfaaDoorSumF
import Derived.Deep.Upon
namespace Go.Proofs.YthkeofinamedfaaDoor
open Go.RowKit
set_option linter.unusedVariables false
set_option maxRecDepth 20000

theorem shows_sum (w : World) (g B : Nat) (s : List UInt8) (h : s.length = 32) (hg : w.heap[g]? = some (.cells (sumV s) 37 (0, 0))) (hB : g < B) : Shows B w (.slice (some ⟨g, 0, none⟩) 32 32) s := by
  refine ⟨_, 32, by rw [h], by omega, by decide, fun e => (by cases e), fun _ => ⟨g, 0, rfl, hB, fun j hj => ?_⟩⟩
  rw [Nat.zero_add, cell_of_row _ _ _ _ _ _ hg]
  simp [sumV, List.getElem?_eq_getElem hj, by8]

theorem row_form {w : World} {B e n : Nat} {v : Value} {xs : List Value} (h : w.ownsRow B e 1 v n xs) : ∃ a c, v = .slice a n c := by
  rcases h.2 with ⟨rfl, hn⟩ | ⟨g, cap, cur, rfl, _⟩
  · exact ⟨none, 0, by rw [hn]⟩
  · exact ⟨_, _, rfl⟩

theorem alloc_second (w : World) (o o' : Obj) : ((w.alloc o).alloc o').heap[w.heap.size + 1]? = some o' := by
  have := World.alloc_heap_new (w.alloc o) o'
  rwa [World.size_alloc] at this

theorem below_setCells_w3 {B g : Nat} {w0 w : World} (h : Below B w0 w) (hg : B ≤ g) : ∀ (vs : List Value) (o : Nat), Below B w0 (w.setCells g o vs)
  | [], _ => h
  | v :: r, o => below_setCells_w3 (h.setCell (p := ⟨g, o, none⟩) hg v) hg r (o + 1)

theorem fork_end {Q : World → Prop} {w3 W : World} {B g : Nat} {cs : List Value} (ht : W.there g 0 cs.length) (hb : Below B w3 W) (hg : B ≤ g) (h : ∀ we, we.rangeAt g 0 cs → Below B w3 we → Q we) : Q (W.setCells g 0 cs) :=
  h _ (World.rangeAt_setCells_same W g 0 cs ht) (below_setCells_w3 hb hg cs 0)

set_option maxHeartbeats 8000000 in
theorem forkSum_any (p : Nat) (s t : List UInt8) (w : World) (hp : p < 1080) (hs : s.length = 32) (ht' : t.length = 32) (ht : Tables w) :
    Calls Tryd.prog 61 #[.int .i64 p, .agg (sumV s), .agg (sumV t)] w fun e w' => e = .returned (.agg (sumV (forkS p s t))) ∧ Below w.heap.size w w' := by
  have hw1 := ht.lt
  obtain ⟨n0, n1, n2, hbn, hsn⟩ := alloc3 w (.cells (sumV s) 37) (.cells (sumV t) 37) (.cells zero32 37)
  go_enter Tryd.func61, Tryd.ntmps61
  go_wp2_with fail
  generalize hw3 : ((w.alloc _).alloc _).alloc _ = w3
  have HN0 : Hid (w3.heap[w.heap.size]? = some (.cells (sumV s) 37 (0, 0))) := hid (by rw [← hw3]; exact n0)
  have HN1 : Hid (w3.heap[w.heap.size + 1]? = some (.cells (sumV t) 37 (0, 0))) := hid (by rw [← hw3]; exact n1)
  have HN2 : Hid (w3.heap[w.heap.size + 2]? = some (.cells zero32 37 (0, 0))) := hid (by rw [← hw3]; exact n2)
  have HBN : Hid (Below w.heap.size w w3) := hid (by rw [← hw3]; exact hbn)
  have HSN : Hid (w3.heap.size = w.heap.size + 3) := hid (by rw [← hw3]; exact hsn)
  clear n0 n1 n2 hbn hsn hw3
  have HT := hid ht
  -- what 'Of' answers, wherever the row lies
  have HOF : Hid (∀ (W : World) (g : Nat) (vn : Value), Below (w.heap.size + 3) w3 W → W.heap[g]? = some (.cells #[vn, .slice (some ⟨w.heap.size, 0, none⟩) 32 32, .slice (some ⟨w.heap.size + 1, 0, none⟩) 32 32] 28 (0, 0)) → Says W vn (be (u64of p) 8) →
      Calls Tryd.prog 27 #[.string ⟨#[102, 111, 114, 107]⟩, .slice (some ⟨g, 0, none⟩) 3 3] W fun e w' => e = .returned (.tuple #[.agg ((forkS p s t).map by8).toArray, .int .i64 (ofOf [102, 111, 114, 107] [be (u64of p) 8, s, t]).1]) ∧ Below W.heap.size W w') := hid (fun W g vn hb hg hv => by
    have e1 := HSN.out
    have hgl := (Array.getElem?_eq_some_iff.1 hg).1
    have hsz := hb.size
    have hbw : Below w.heap.size w W := HBN.out.trans (hb.mono (by omega))
    exact of_any W.heap.size (⟨#[102, 111, 114, 107]⟩ : ByteArray) (.slice (some ⟨g, 0, none⟩) 3 3) [be (u64of p) 8, s, t] W (by decide) (Nat.le_refl _)
      (lists_three W g _ _ _ _ _ s t hg hgl hv (shows_sum W w.heap.size _ s hs ((hb.block _ (by omega)).trans HN0.out) (by omega)) (shows_sum W (w.heap.size + 1) _ t ht' ((hb.block _ (by omega)).trans HN1.out) (by omega))) (fun l c e => by cases e) (by simp) (HT.out.below hbw (by omega)))
  have hI : (Tryd.prog.info? 37).map (·.size) = some ((forkS p s t).map by8).length := by rw [List.length_map, show (forkS p s t).length = 32 from ofS_length _ _]; exact Tryd.infoSum
  have h1 : ∀ v ∈ (forkS p s t).map by8, v.oneCell' = true := by8_one _
  have HL : Hid (((forkS p s t).map by8).length = 32) := hid (by rw [List.length_map]; exact ofS_length _ _)
  have HEQ : Hid (sumV (forkS p s t) = ((forkS p s t).map by8).toArray) := hid rfl
  generalize (forkS p s t).map by8 = cs at *
  generalize (ofOf [102, 111, 114, 107] [be (u64of p) 8, s, t]).1 = n at *
  have hb3 : Below (w.heap.size + 3) w3 w3.drew := (Below.refl _ _).drew
  have hS0 : w3.drew.heap.size = w.heap.size + 3 := HSN.out
  have HTH : Hid (∀ (W : World) (g : Nat), W.heap[g]? = some (.cells zero32 37 (0, 0)) → W.there g 0 cs.length) := hid (fun W g hg j hj => by
    rw [HL.out] at hj
    have : zero32[j]? = some (.int .u8 0) := by rw [zero32, List.getElem?_toArray, List.getElem?_replicate, if_pos hj]
    exact ⟨by rw [Nat.zero_add, cell_of_row _ _ _ _ _ _ hg, this]; rfl, by simp [World.frozen?, hg]⟩)
  have HS0 := hid hS0
  clear hS0
  have hz3 : w.heap.size + 3 ≤ w3.heap.size := by rw [HSN.out]; exact Nat.le_refl _
  have hz3' : w3.heap.size ≤ w.heap.size + 3 := by rw [HSN.out]; exact Nat.le_refl _
  go_region_held3 (fun w' => Below (w.heap.size + 3) w3 w')
    (first | assumption | exact Below.alloc (by assumption) (by first | omega | (simp; omega)) _ | exact below_setCells_w3 (by assumption) (by omega) _ _)
    (first
      | (go_at_call 28; refine (num_any _ _).mono ?_; rintro e wn ⟨vn, rfl, hon, hbn⟩
         obtain ⟨an, cn, rfl⟩ := row_form hon
         have hsay : Says wn (.slice an 8 cn) (be (u64of p) 8) := (shows_of_owns hon).2
         have hzn : w3.heap.size ≤ wn.heap.size := by have := hbn.size; simp at this; omega
         have hSn : Below (w.heap.size + 3) w3 wn := (fun h => Below.trans h (hbn.mono (by simp; omega))) (by assumption)
         first
           | (have hA : wn.heap[w3.heap.size]? = some (.cells zero32 37 (0, 0)) := (hbn.block _ (by show _ < (w3.alloc _).heap.size; rw [World.size_alloc]; exact Nat.lt_succ_self _)).trans (World.alloc_heap_new w3.drew _); have hzA : w3.heap.size < wn.heap.size := (Array.getElem?_eq_some_iff.1 hA).1)
           | skip
         have HON := hid hsay
         clear hon hbn hsay)
      | (go_at_call 27; refine (HOF.out _ _ _ (by assumption) (by first | exact World.alloc_heap_new _ _ | exact (Below.heap_alloc _ _ _ (by rw [World.size_alloc]; exact Nat.lt_succ_self _)).trans (World.alloc_heap_new wn _) | exact alloc_second wn _ _) (by first | exact HON.out.new ((Below.refl _ _).alloc (Nat.le_refl _) _) | exact (HON.out.new ((Below.refl _ _).alloc (Nat.le_refl _) _)).new ((Below.refl _ _).alloc (Nat.le_refl _) _))).mono ?_
         rintro e wo ⟨rfl, hbo⟩
         have hzo : wn.heap.size < wo.heap.size := by have := hbo.size; simp at this; omega
         have hSo : Below (w.heap.size + 3) w3 wo := (fun h => Below.trans h (hbo.mono (by simp; omega))) (by assumption)
         have hthD : (wo.alloc (.cells zero32 37)).there wo.heap.size 0 cs.length := HTH.out _ _ (World.alloc_heap_new wo _)
         first
           | (have hth : wo.there w3.heap.size 0 cs.length := HTH.out _ _ ((hbo.block _ (by rw [World.size_alloc]; omega)).trans ((Below.heap_alloc _ _ _ (by omega)).trans hA)))
           | (have hth : wo.there wn.heap.size 0 cs.length := HTH.out _ _ ((hbo.block _ (by rw [World.size_alloc, World.size_alloc]; omega)).trans ((Below.heap_alloc _ _ _ (by rw [World.size_alloc]; omega)).trans (World.alloc_heap_new wn (.cells zero32 37)))))
           | (have hth : wo.there (wn.heap.size + 1) 0 cs.length := HTH.out _ _ ((hbo.block _ (by rw [World.size_alloc, World.size_alloc]; omega)).trans (by have := World.alloc_heap_new (wn.alloc (.cells #[.slice an 8 cn, .slice (some ⟨w.heap.size, 0, none⟩) 32 32, .slice (some ⟨w.heap.size + 1, 0, none⟩) 32 32] 28)) (.cells zero32 37); rw [World.size_alloc] at this; exact this)))
           | skip
         clear hbo))
  all_goals
    refine fork_end (Q := Exit.then _ _ Exit.normal _) (by assumption) (by first | assumption | exact Below.alloc (by assumption) (by omega) _) (by omega) ?_
    intro we hr hbe
    have HM := hid ((hbe.block (w.heap.size + 2) (by omega)).trans HN2.out)
    have HBE := hid (HBN.out.trans (hbe.mono (by omega)))
    have HR := hid hr
    have HZS : Hid (zero32.size = cs.toArray.size) := hid (by rw [show cs.toArray.size = 32 from (by rw [List.size_toArray]; exact HL.out)]; rfl)
    have HI : Hid ((Tryd.prog.info? 37).map (·.size) = some cs.toArray.size) := hid (by rw [List.size_toArray]; exact hI)
    have H1 := hid (all_oneCell_toArray h1)
    clear hr hbe
    go_wp2_with (first
      | (refine wpList_load_mid rfl 37 (.tmp 7) rfl _ 0 rfl cs _ HR.out Tryd.underlying37 rfl hI ?_)
      | (refine wpList_store_row rfl 37 (.tmp 6) (.tmp 18) rfl (w.heap.size + 2) cs.toArray rfl rfl 37 zero32 HM.out HI.out HZS.out H1.out ?_)
      | (refine bodyPost_ret (v := .agg cs.toArray) (results_cell_row (p := 6) (ty := 37) rfl _ _ (w.heap.size + 2) 37 cs.toArray (0, 0) _ rfl (setRow_heap _ _ _ _ _ _ HM.out) Tryd.underlying37 rfl HI.out) rfl ⟨by rw [HEQ.out], below_setRow HBE.out (by omega) _⟩))
end Go.Proofs.YthkeofinamedfaaDoor
