/- Contract of cloneAll. -/
import Derived.Test.YtjfipejfejmlaaaBtDelete
namespace Go.Proofs.Ytjfipejfejmlaaa
open Go.RowKit Go.Shelf
set_option linter.unusedVariables false
set_option linter.unusedSimpArgs false
set_option maxRecDepth 20000

theorem sep_snoc {vs : List Value} {a b : Value} (h : Sep vs) (ha : ∀ u ∈ vs, ∀ g, u.ownBlock = some g → a.ownBlock ≠ some g) (hb : ∀ u ∈ vs, ∀ g, u.ownBlock = some g → b.ownBlock ≠ some g) (hab : ∀ g, a.ownBlock = some g → b.ownBlock ≠ some g) : Sep (vs ++ [a, b]) := by
  unfold Sep at *
  rw [List.pairwise_append]
  refine ⟨h, ?_, fun u hu v hv => ?_⟩
  · simp only [List.pairwise_cons, List.mem_cons, List.not_mem_nil, or_false, forall_eq, List.Pairwise.nil, and_true, false_imp_iff, implies_true]
    exact hab
  · simp only [List.mem_cons, List.not_mem_nil, or_false] at hv
    rcases hv with rfl | rfl
    · exact ha u hu
    · exact hb u hu

/-- A row of one's own with one entry more. -/
theorem rowed_snoc {B : Nat} {W W2 W3 : World} {sv sv' kv' vv' : Value} {xs : List EntV} {k v : List UInt8} (hR : Rowed B W sv xs) (hB : B ≤ W.heap.size) (hb2 : Below W.heap.size W W2) (hk : Copy W.heap.size W2 kv' k) (hv : Copy W.heap.size W2 vv' v) (hap : ∀ g, kv'.ownBlock = some g → vv'.ownBlock ≠ some g)
    (hg : W2.grownBy W3 sv.ownBlock) (hown : W3.ownsRow B 46 2 sv' (xs.length + 1) (xs.flatMap EntV.two ++ [kv', vv'])) : Rowed B W3 sv' (xs ++ [⟨kv', vv', k, v⟩]) := by
  have spg : Spares (fun i => sv.ownBlock = some i) W W3 := (Spares.of_new hb2).andThen (Spares.of_grown (S := fun i => sv.ownBlock = some i) hg (fun k e => e)) (fun i hi => .inl hi)
  have sp2 : Spares (fun i => sv.ownBlock = some i) W2 W3 := Spares.of_grown (S := fun i => sv.ownBlock = some i) hg (fun k e => e)
  have hlow : ∀ i, sv.ownBlock = some i → i < W.heap.size := fun i hi => (hR.row.lt i hi).2
  have hK : Copy B W3 kv' k := hk.spares sp2 hlow hB
  have hV : Copy B W3 vv' v := hv.spares sp2 hlow hB
  obtain ⟨s1, s2⟩ := List.pairwise_cons.1 hR.sep
  have hold : ∀ u : Value, u ∈ xs.flatMap EntV.two → ∀ bs, Copy B W u bs → Copy B W3 u bs := fun u hu bs hc => spg.row hc (fun i hi hs => s1 u hu i hs hi)
  have hoc : ∀ x ∈ xs, Copy B W3 x.kv x.k ∧ Copy B W3 x.vv x.v := fun x hx =>
    ⟨hold _ (List.mem_flatMap.2 ⟨x, hx, by simp [EntV.two]⟩) _ (hR.cps x hx).1, hold _ (List.mem_flatMap.2 ⟨x, hx, by simp [EntV.two]⟩) _ (hR.cps x hx).2⟩
  have e : (xs ++ [(⟨kv', vv', k, v⟩ : EntV)]).flatMap EntV.two = xs.flatMap EntV.two ++ [kv', vv'] := by simp [EntV.two]
  have holt : ∀ u ∈ xs.flatMap EntV.two, ∀ g, u.ownBlock = some g → g < W.heap.size := fun u hu g hg => by
    obtain ⟨bs, hc⟩ := hR.mem u hu
    exact (hc.lt g hg).2
  refine ⟨by rw [e, List.length_append]; exact hown, fun x hx => ?_, ?_⟩
  · rcases List.mem_append.1 hx with hx | hx
    · exact hoc x hx
    · rw [List.mem_singleton.1 hx]; exact ⟨hK, hV⟩
  · rw [e]
    refine List.pairwise_cons.2 ⟨fun u hu g hg hug => ?_, sep_snoc s2 (fun u hu g hg hkg => ?_) (fun u hu g hg hkg => ?_) hap⟩
    · have hcu : ∃ bs, Copy B W3 u bs := by
        rcases List.mem_append.1 hu with hu | hu
        · obtain ⟨x, hx, hu⟩ := List.mem_flatMap.1 hu
          simp only [EntV.two, List.mem_cons, List.not_mem_nil, or_false] at hu
          rcases hu with rfl | rfl
          · exact ⟨_, (hoc x hx).1⟩
          · exact ⟨_, (hoc x hx).2⟩
        · simp only [List.mem_cons, List.not_mem_nil, or_false] at hu
          rcases hu with rfl | rfl
          · exact ⟨_, hK⟩
          · exact ⟨_, hV⟩
      obtain ⟨bs, hcu⟩ := hcu
      exact rows_apart hown hcu (by decide) g hg hug
    · have := holt u hu g hg
      have := (hk.lt g hkg).1
      omega
    · have := holt u hu g hg
      have := (hv.lt g hkg).1
      omega

set_option maxHeartbeats 4000000 in
theorem cloneAll_any (v : Value) (xs : List EntV) (w : World) (hE : Ents w.heap.size w v xs) (hf : ∀ x ∈ xs, Fine x.ent) (hlen : xs.length < 100000) :
    Calls Try.prog 41 #[v] w fun e w' => ∃ rv ys, e = .returned rv ∧ Rowed w.heap.size w' rv ys ∧ ys.map EntV.ent = xs.map EntV.ent ∧ (xs = [] → rv = nilS) ∧ Below w.heap.size w w' := by
  obtain ⟨a, c, rfl, hc1, hc2, _⟩ := id hE
  unfold maxLen at hc2
  have HE := hid hE
  have HF := hid hf
  obtain ⟨i0, hi, hz0, hzz1, hzz2⟩ := info_parts Try.infoEntryZ
  clear hE hf
  go_enter Try.func41, Try.ntmps41
  go_wp2
  go_loopw [3, 8] (fun s3 i wr => ∃ k : Nat, k ≤ xs.length ∧ i = .int .i64 k ∧ ∃ ys, Hid (Rowed w.heap.size wr s3 ys) ∧ Hid (ys.map EntV.ent = (xs.take k).map EntV.ent) ∧ Hid (k = 0 → s3 = nilS) ∧ Hid (Below w.heap.size w wr)) (fun _ i _ => xs.length - (intOf i).toNat)
  case atStart => exact ⟨0, Nat.zero_le _, rfl, [], hid (rowed_nil _ _), hid rfl, hid (fun _ => rfl), hid (Below.refl _ _)⟩
  case round =>
    obtain ⟨k, hk, rfl, ys, HR, HS, HN, HB⟩ := hrel
    obtain ⟨b3, d3, rfl⟩ := row_slice HR.out.row
    have hyl : ys.length = k := by have := congrArg List.length HS.out; simp at this; omega
    by_cases hlt : k < xs.length
    · obtain ⟨b, off, ka, kc, va, vc, kb, vb, rfl, hb, hx, c0, c1, s1, s2⟩ := (HE.out.new HB.out).at k hlt
      have hfx := HF.out _ (List.mem_of_getElem? hx)
      have hki : (k : Int) < (xs.length : Int) := by omega
      have hk0 : (0 : Int) ≤ (k : Int) := by omega
      have hz := HB.out.size
      have hbn := new_alloc wr (.cells #[.slice ka kb.length kc, .slice va vb.length vc] 46)
      have HC := entry_any _ _ kb vb (wr.alloc (.cells #[.slice ka kb.length kc, .slice va vb.length vc] 46)) (Says.new s1 hbn) (Says.new s2 hbn) hfx.1 hfx.2
      have HX := hid hx
      have HYL := hid hyl
      have hyl2 : ys.length < 100000 := by omega
      clear hfx hx s1 s2 hyl
      go_wp2_with (first
        | (go_at_call 29; refine HC.mono ?_; clear HC; rintro e w4 ⟨kv', vv', rfl, hck, hcv, hap, hb4⟩
           obtain ⟨a8, c8, rfl⟩ := hck.form
           obtain ⟨a9, c9, rfl⟩ := hcv.form
           have hzA : (wr.alloc (.cells #[.slice ka kb.length kc, .slice va vb.length vc] 46)).heap.size = wr.heap.size + 1 := World.size_alloc _ _
           have hbr4 : Below wr.heap.size wr w4 := hbn.trans (hb4.mono (by omega))
           have hbA := new_alloc w4 (.cells #[.slice a8 kb.length c8, .slice a9 vb.length c9] 46)
           have hz4 := hb4.size
           have HCK := hid (owns_lower hck (B' := wr.heap.size) (fun g hg => by have := (hck.lt g hg).1; omega))
           have HCV := hid (owns_lower hcv (B' := wr.heap.size) (fun g hg => by have := (hcv.lt g hg).1; omega))
           have HAP := hid hap
           have HB4 := hid hbr4
           have hro := (Spares.of_new (S := fun _ => False) (hbr4.trans (hbA.mono hbr4.size))).row HR.out.row (fun _ _ => id)
           have hnews := two_cells w4 (.slice a8 kb.length c8) (.slice a9 vb.length c9) 46
           clear hck hcv hap hb4 hbr4)
        | (at_builtin; refine wpList_append_own _ rfl (.tmp 12) (.tmp 15) 27 rfl w.heap.size 46 i0 _ 2 48 Try.underlying27 hi hz0 hzz1 hzz2 rfl (by decide) _ ys.length _ rfl hro ⟨w4.heap.size, 0, none⟩ 1 1 [.slice a8 kb.length c8, .slice a9 vb.length c9] rfl rfl hnews ?d1 ?d2 ?d3 ?d4 ?_))
      case d1 => intro u hu; simp at hu; rcases hu with rfl | rfl <;> rfl
      case d2 => unfold maxLen; omega
      case d3 => omega
      case d4 => simp; omega
      intro v5 w5 ho5 hg5 _
      obtain ⟨a5, c5, rfl⟩ := row_slice ho5
      have hbA2 := hbA
      have HR5 := hid (rowed_snoc (k := kb) (v := vb) HR.out hz (HB4.out.trans (hbA.mono HB4.out.size)) (Copy.new HCK.out hbA2) (Copy.new HCV.out hbA2) HAP.out hg5 ho5)
      have HB5 : Hid (Below w.heap.size w w5) := hid ((HB.out.trans ((HB4.out.trans (hbA.mono HB4.out.size)).mono hz)).grown hg5 (by simp; omega) (fun q hq => (HR.out.row.lt q hq).1))
      clear ho5 hg5 hbA hbA2 hro hnews
      go_wp2_with fail
      go_roundw
      case rel =>
        refine ⟨k + 1, hlt, by go_num, _, HR5, hid ?_, hid (fun h => by omega), HB5⟩
        rw [List.map_append, HS.out, List.take_add_one, HX.out]
        simp [EntV.ent]
      case measure => simp [intOf]; omega
    · have hki : (xs.length : Int) ≤ (k : Int) := by omega
      have hkk : k = xs.length := by omega
      subst hkk
      go_wp2
      go_ret
      refine ⟨_, ys, rfl, HR.out, by rw [HS.out, List.take_length], fun h => ?_, HB.out⟩
      exact HN.out (by rw [h]; rfl)
end Go.Proofs.Ytjfipejfejmlaaa
