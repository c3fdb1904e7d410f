/- Contracts of the document's own texts of a node: ForkText (at any place), LeafText, NoneText. -/
import Derived.Test.YtmafaioohiaenaaDoorYMay
import Derived.Test.YtmafaioohiaenaaDoorRef4B
namespace Go.Proofs.YtmafaioohiaenaaDoor
open Go.RowKit Go.Shelf
set_option linter.unusedVariables false
set_option linter.unusedSimpArgs false
set_option maxRecDepth 20000

theorem new_allocZ1 (w : World) (o : Obj) : Below w.heap.size w (w.alloc o) := (Below.refl _ w).alloc (Nat.le_refl _) _

set_option maxHeartbeats 4000000 in
theorem xfork_any (p : Int) (s t : List UInt8) (w : World) (hp0 : -9223372036854775808 ≤ p) (hp1 : p ≤ 9223372036854775807) (hs : s.length = 32) (ht' : t.length = 32) :
    Calls Tryd.prog 37 #[.int .i64 p, .agg (sumV s), .agg (sumV t)] w fun e w' => ∃ v', e = .returned v' ∧ w'.ownsRow w.heap.size 5 1 v' (forkZ p s t).length ((forkZ p s t).map by8) ∧ Below w.heap.size w w' := by
  obtain ⟨n0, n1, hbn, hsn⟩ := alloc2 w (.cells (sumV s) 23) (.cells (sumV t) 23)
  go_enter Tryd.func37, Tryd.ntmps37
  go_wp2_with fail
  generalize hw3 : (w.alloc _).alloc _ = w3
  have HN0 : Hid (w3.heap[w.heap.size]? = some (.cells (sumV s) 23 (0, 0))) := hid (by rw [← hw3]; exact n0)
  have HN1 : Hid (w3.heap[w.heap.size + 1]? = some (.cells (sumV t) 23 (0, 0))) := hid (by rw [← hw3]; exact n1)
  have HBN : Hid (Below w.heap.size w w3) := hid (by rw [← hw3]; exact hbn)
  have HSN : Hid (w3.heap.size = w.heap.size + 2) := hid (by rw [← hw3]; exact hsn)
  clear n0 n1 hbn hsn hw3
  have HOF : Hid (∀ (W : World) (g : Nat) (vn : Value), Below (w.heap.size + 2) w3 W → W.heap[g]? = some (.cells #[vn, .slice (some ⟨w.heap.size, 0, none⟩) 32 32, .slice (some ⟨w.heap.size + 1, 0, none⟩) 32 32] 24 (0, 0)) → Says W vn (be (u64of p) 8) →
      Calls Tryd.prog 71 #[.string ⟨#[102, 111, 114, 107]⟩, .slice (some ⟨g, 0, none⟩) 3 3] W fun e w' => ∃ v', e = .returned v' ∧ w'.ownsRow W.heap.size 5 1 v' (forkZ p s t).length ((forkZ p s t).map by8) ∧ Below W.heap.size W w') := hid (fun W g vn hb hg hv => by
    have e1 := HSN.out
    have hgl := (Array.getElem?_eq_some_iff.1 hg).1
    have hsz := hb.size
    exact xtext_any W.heap.size (⟨#[102, 111, 114, 107]⟩ : ByteArray) (.slice (some ⟨g, 0, none⟩) 3 3) [be (u64of p) 8, s, t] W (by decide) (Nat.le_refl _)
      (lists_three W g _ _ _ _ _ s t hg hgl hv (shows_sum W w.heap.size _ s hs ((hb.block _ (by omega)).trans HN0.out) (by omega)) (shows_sum W (w.heap.size + 1) _ t ht' ((hb.block _ (by omega)).trans HN1.out) (by omega))) (fun l c e => by cases e) (by simp))
  have hb3 : Below (w.heap.size + 2) w3 w3.drew := (Below.refl _ _).drew
  obtain ⟨tx, htx⟩ : ∃ tx, forkZ p s t = tx := ⟨_, rfl⟩
  rw [htx] at HOF
  have HTX := hid htx
  clear htx
  have hz3 : w.heap.size + 2 ≤ w3.heap.size := by rw [HSN.out]; exact Nat.le_refl _
  have hz3' : w3.heap.size ≤ w.heap.size + 2 := by rw [HSN.out]; exact Nat.le_refl _
  go_region_held3 (fun w' => Below (w.heap.size + 2) w3 w')
    (first | assumption | exact Below.alloc (by assumption) (by first | omega | (simp; omega)) _)
    (first
      | (go_at_call 38; refine (refNum_any _ _ (by omega) (by omega)).mono ?_; rintro e wn ⟨gn, rfl, hon, hbn⟩
         have hsay : Says wn (.slice (some ⟨gn, 0, none⟩) 8 8) (be (u64of p) 8) := (shows_of_owns hon).2
         have hzn : w3.heap.size ≤ wn.heap.size := by have := hbn.size; simp at this; omega
         have hSn : Below (w.heap.size + 2) w3 wn := (fun h => Below.trans h (hbn.mono (by simp; omega))) (by assumption)
         have HON := hid hsay
         clear hon hbn hsay)
      | (go_at_call 71; refine (HOF.out _ _ _ (by assumption) (World.alloc_heap_new _ _) (HON.out.new ((Below.refl _ _).alloc (Nat.le_refl _) _))).mono ?_
         rintro e wo ⟨v', rfl, hoo, hbo⟩
         obtain ⟨a1, c1, rfl⟩ := row_form hoo
         have hSo : Below (w.heap.size + 2) w3 wo := (fun h => Below.trans h (hbo.mono (by simp; omega))) (by assumption)
         have HOO : Hid (wo.ownsRow w.heap.size 5 1 (.slice a1 tx.length c1) tx.length (tx.map by8)) := hid (owns_lower hoo (fun g hg => by have h1 := (hoo.lt g hg).1; simp at h1; omega))
         clear hbo hoo))
  have HBO := hid (HBN.out.trans (hSo.mono (by omega)))
  go_wp2
  go_ret
  exact ⟨.slice a1 tx.length c1, rfl, by rw [HTX.out]; exact HOO.out, HBO.out⟩

set_option maxHeartbeats 4000000 in
theorem xleaf_any (B : Nat) (kv vv : Value) (k v : List UInt8) (w : World) (hB : B ≤ w.heap.size) (hk : Shows B w kv k) (hv : Shows B w vv v) :
    Calls Tryd.prog 36 #[.agg #[kv, vv]] w fun e w' => ∃ v', e = .returned v' ∧ w'.ownsRow w.heap.size 5 1 v' (leafZ k v).length ((leafZ k v).map by8) ∧ Below w.heap.size w w' := by
  obtain ⟨ka, kc, rfl, _⟩ := id hk
  obtain ⟨va, vc, rfl, _⟩ := id hv
  have hb1 := new_allocZ1 w (.cells #[.slice ka k.length kc, .slice va v.length vc] 26)
  have hb2 := new_allocZ1 (w.alloc (.cells #[.slice ka k.length kc, .slice va v.length vc] 26)) (.cells #[.slice ka k.length kc, .slice va v.length vc] 24)
  have hnw := World.alloc_heap_new (w.alloc (.cells #[.slice ka k.length kc, .slice va v.length vc] 26)) (.cells #[.slice ka k.length kc, .slice va v.length vc] 24)
  have hs1 : (w.alloc (.cells #[.slice ka k.length kc, .slice va v.length vc] 26)).heap.size = w.heap.size + 1 := World.size_alloc _ _
  rw [hs1] at hb2 hnw
  have hb : Below w.heap.size w ((w.alloc (.cells #[.slice ka k.length kc, .slice va v.length vc] 26)).alloc (.cells #[.slice ka k.length kc, .slice va v.length vc] 24)) := hb1.trans (hb2.mono (by omega))
  have hz : w.heap.size + 1 < ((w.alloc (.cells #[.slice ka k.length kc, .slice va v.length vc] 26)).alloc (.cells #[.slice ka k.length kc, .slice va v.length vc] 24)).heap.size := (Array.getElem?_eq_some_iff.1 hnw).1
  have HT := xtext_any _ (⟨#[108, 101, 97, 102]⟩ : ByteArray) (.slice (some ⟨w.heap.size + 1, 0, none⟩) 2 2) [k, v] _ (by decide) (Nat.le_refl _) (lists_two _ (w.heap.size + 1) _ _ _ k v hnw hz ((hk.below (hb.mono hB)).mono (by omega)) ((hv.below (hb.mono hB)).mono (by omega))) (fun l c e => by cases e) (by simp)
  have HL := hid (show (textOf (⟨#[108, 101, 97, 102]⟩ : ByteArray).data.toList [k, v]).2 = leafZ k v from rfl)
  rw [HL.out] at HT
  have HB := hid hb
  clear hb1 hb2 hnw hs1 hb hz hk hv
  generalize leafZ k v = tx at *
  go_enter Tryd.func36, Tryd.ntmps36
  go_wp2_with fail
  refine HT.mono ?_
  clear HT
  rintro e w3 ⟨v3, rfl, ho, hb3⟩
  obtain ⟨a3, c3, rfl⟩ := row_form ho
  have HO : Hid (w3.ownsRow w.heap.size 5 1 (.slice a3 tx.length c3) tx.length (tx.map by8)) := hid (owns_lower ho (fun g hg => by have := (ho.lt g hg).1; have := HB.out.size; omega))
  have HE := hid (HB.out.trans (hb3.mono HB.out.size))
  clear ho hb3 HB
  go_wp2
  go_ret
  exact ⟨_, rfl, HO.out, HE.out⟩

set_option maxHeartbeats 4000000 in
theorem xnone_any (w : World) :
    Calls Tryd.prog 35 #[] w fun e w' => ∃ v', e = .returned v' ∧ w'.ownsRow w.heap.size 5 1 v' noneZ.length (noneZ.map by8) ∧ Below w.heap.size w w' := by
  have HT := xtext_any w.heap.size (⟨#[110, 111, 110, 101]⟩ : ByteArray) (.slice none 0 0) [] w (by decide) (Nat.le_refl _) ⟨none, 0, [], rfl, Nat.le_refl _, Nat.zero_le _, rfl, fun h => absurd rfl h, fun j u r hu => by simp at hu⟩ (fun l c e => by cases e; rfl) (by simp)
  have HL := hid (show (textOf (⟨#[110, 111, 110, 101]⟩ : ByteArray).data.toList []).2 = noneZ from rfl)
  rw [HL.out] at HT
  generalize noneZ = tx at *
  go_enter Tryd.func35, Tryd.ntmps35
  go_wp2_with fail
  refine HT.mono ?_
  clear HT
  rintro e w3 ⟨v3, rfl, ho, hb3⟩
  obtain ⟨a3, c3, rfl⟩ := row_form ho
  have HO := hid ho
  have HE := hid hb3
  clear ho hb3
  go_wp2
  go_ret
  exact ⟨_, rfl, HO.out, HE.out⟩
end Go.Proofs.YtmafaioohiaenaaDoor
