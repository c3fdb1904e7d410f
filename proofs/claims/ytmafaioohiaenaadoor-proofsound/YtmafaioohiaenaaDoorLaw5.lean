/- Contracts of the law's helpers Made, small, short, and of proof.Make. -/
import Derived.Test.YtmafaioohiaenaaDoorMadeP
import Derived.Test.YtmafaioohiaenaaDoorAllF
import Derived.Lib.SlBytesConst
namespace Go.Proofs.YtmafaioohiaenaaDoor
open Go.RowKit Go.Shelf
set_option linter.unusedVariables false
set_option linter.unusedSimpArgs false
set_option maxRecDepth 20000

instance (e : Ent) : Decidable (Tri.short e) := inferInstanceAs (Decidable (_ ∧ _))

/-- One entry put, if it may be. -/
def putIf (T : Option Tri) (e : Ent) : Option Tri := if Tri.short e then some (Tri.put T e) else T

theorem putIf_few (T : Option Tri) (e : Ent) : (Tri.entsO (putIf T e)).length ≤ (Tri.entsO T).length + 1 := by
  unfold putIf
  split
  · exact put_few T e
  · omega

set_option maxHeartbeats 4000000 in
theorem made5_any (v : Value) (xs : List EntV) (w : World) (hA : Ents w.heap.size w v xs) :
    Calls Tryd.prog 26 #[v] w fun e w' => e = .returned (.pointer (some ⟨w.heap.size, 0, none⟩)) ∧ TreeB w.heap.size w' w.heap.size ((xs.take 12).foldl (fun T x => putIf T x.ent) none) ∧ (Tri.entsO ((xs.take 12).foldl (fun T x => putIf T x.ent) none)).length ≤ 12 ∧ Below w.heap.size w w' := by
  obtain ⟨a, c, rfl, h1, h2, _⟩ := id hA
  unfold maxLen at h2
  have HA := hid hA
  clear hA
  go_enter Tryd.func26, Tryd.ntmps26
  go_wp2_with fail
  refine (new_B w).mono ?_
  rintro e w1 ⟨rfl, R1, hb1⟩
  go_wp2_with fail
  go_loopw [4] (fun i wr => ∃ (k : Nat) (T : Option Tri), k ≤ 12 ∧ k ≤ xs.length ∧ i = .int .i64 (k : Int) ∧ Hid ((xs.take k).foldl (fun T x => putIf T x.ent) none = T) ∧ (Tri.entsO T).length ≤ k ∧ Hid (TreeB w.heap.size wr w.heap.size T) ∧ Hid (Below w.heap.size w wr)) (fun i _ => 12 - (intOf i).toNat)
  case atStart => exact ⟨0, none, by omega, by omega, rfl, hid rfl, by simp [Tri.entsO], hid R1, hid hb1⟩
  case round =>
    obtain ⟨k, T, hk, hkl, rfl, HTE, hT, R, hb⟩ := hrel
    have hszr := hb.out.size
    clear R1 hb1
    by_cases hlt : k < xs.length
    · have hki : (k : Int) < (xs.length : Int) := by omega
      by_cases h12 : k < 12
      · have hk12 : (k : Int) < 12 := by omega
        have hk0 : (0 : Int) ≤ (k : Int) := by omega
        obtain ⟨b, off, ka, kc, va, vc, kb, vb, rfl, hbl, hx, c0, c1, s1, s2⟩ := (HA.out.below hb.out).at k hlt
        have HTE2 : Hid ((xs.take (k + 1)).foldl (fun T x => putIf T x.ent) none = putIf T (kb, vb)) := hid (by rw [List.take_add_one, hx, List.foldl_append, HTE.out]; rfl)
        have hblr : b < wr.heap.size := by omega
        have hS0 : wr.drew.cell? ⟨b, off + k * 2, none⟩ = some (.slice ka kb.length kc) ∧ wr.drew.cell? ⟨b, off + k * 2 + 1, none⟩ = some (.slice va vb.length vc) := ⟨c0, c1⟩
        have sk : Says wr.drew (.slice ka kb.length kc) kb := Says.new (w := wr) (s1.mono hszr) (below_drewN _ wr 1)
        have sv : Says wr.drew (.slice va vb.length vc) vb := Says.new (w := wr) (s2.mono hszr) (below_drewN _ wr 1)
        have RD : TreeB w.heap.size wr.drew w.heap.size T := R.out.new (below_drewN _ wr 1)
        have HFW := hid (putIf_few T (kb, vb))
        by_cases hs : Tri.short (kb, vb)
        · have HP := put_B w.heap.size w.heap.size T _ _ kb vb wr.drew hszr RD sk sv hs (by omega)
          have ep : putIf T (kb, vb) = some (Tri.put T (kb, vb)) := by simp [putIf, hs]
          rw [ep] at HTE2 HFW
          generalize Tri.put T (kb, vb) = T' at *
          have HC0 : Hid (∀ W, Below w.heap.size wr.drew W → W.cell? ⟨b, off + k * 2, none⟩ = some (.slice ka kb.length kc) ∧ W.cell? ⟨b, off + k * 2 + 1, none⟩ = some (.slice va vb.length vc)) := hid fun W hW =>
            ⟨(hW.cell (p := ⟨b, off + k * 2, none⟩) hbl).trans c0, (hW.cell (p := ⟨b, off + k * 2 + 1, none⟩) hbl).trans c1⟩
          clear R RD sk sv s1 s2 hs hx ep
          go_wp2_with fail
          go_region_held3 (fun w' => w'.cell? ⟨b, off + k * 2, none⟩ = some (.slice ka kb.length kc) ∧ w'.cell? ⟨b, off + k * 2 + 1, none⟩ = some (.slice va vb.length vc))
            (first | assumption)
            ((go_at_call 64; refine HP.mono ?_; clear HP; rintro e wn ⟨rfl, Rn, hbn, _⟩
              have hSn := HC0.out wn hbn))
          have HRN := hid Rn
          have HBN := hid (hb.out.trans ((below_drewN _ wr 1).trans hbn))
          clear Rn hbn c0 c1 hS0 HC0 hSn
          go_wp2
          go_roundw
          case rel => exact ⟨k + 1, some T', by omega, by omega, by go_num, HTE2, by have := HFW.out; omega, HRN, HBN⟩
          case measure => simp [intOf]; omega
        · have HP := long_B w.heap.size _ _ kb vb wr.drew sk sv hs
          have ep : putIf T (kb, vb) = T := by simp [putIf, hs]
          rw [ep] at HTE2
          have HRN := hid RD
          have HBN := hid (hb.out.trans (below_drewN _ wr 1))
          clear R RD sk sv s1 s2 hs hb hx ep
          go_wp2_with fail
          go_region_held3 (fun w' => w'.cell? ⟨b, off + k * 2, none⟩ = some (.slice ka kb.length kc) ∧ w'.cell? ⟨b, off + k * 2 + 1, none⟩ = some (.slice va vb.length vc))
            (first | assumption)
            ((go_at_call 64; refine HP.mono ?_; clear HP; rintro e wn ⟨rfl, rfl⟩))
          go_wp2
          go_roundw
          case rel => exact ⟨k + 1, T, by omega, by omega, by go_num, HTE2, by omega, HRN, HBN⟩
          case measure => simp [intOf]; omega
      · have hk12 : (12 : Int) ≤ (k : Int) := by omega
        have hke : k = 12 := by omega
        subst hke
        go_wp2
        go_ret
        exact ⟨rfl, by rw [HTE.out]; exact R.out, by rw [HTE.out]; exact hT, hb.out⟩
    · have hki : (xs.length : Int) ≤ (k : Int) := by omega
      have hke : xs.take 12 = xs.take k := by rw [List.take_of_length_le (by omega), List.take_of_length_le (by omega)]
      have HKE := hid hke
      clear hke
      go_wp2
      go_ret
      exact ⟨rfl, by rw [HKE.out, HTE.out]; exact R.out, by rw [HKE.out, HTE.out]; omega, hb.out⟩

theorem one_four (b : Bool) (a1 a2 a3 : Option Addr) (n1 n2 n3 c1 c2 c3 : Nat) : (#[Value.bool b, .slice a1 n1 c1, .slice a2 n2 c2, .slice a3 n3 c3] : Array Value).all (·.oneCell') = true := by simp [Value.oneCell']

/-- proof.Make. -/
theorem make_any (B tb : Nat) (T : Option Tri) (kv : Value) (key : List UInt8) (w : World) (ht : TreeB B w tb T) (hk : Says w kv key) (hT : Tables w) (hn : (Tri.entsO T).length < 1000000000) :
    Calls Tryd.prog 28 #[.pointer (some ⟨tb, 0, none⟩), kv] w fun e w' => ∃ ek ev sv, e = .returned (.agg #[.bool (mkP T key).no, ek, ev, sv]) ∧ PAt w'.heap.size w' (mkP T key) ek ev sv ∧ Below w.heap.size w w' := by
  have hbn : Below w.heap.size w (w.alloc (.cells #[.bool false, .slice none 0 0, .slice none 0 0, .slice none 0 0] 29)) := new_alloc _ _
  have hnew := World.alloc_heap_new w (.cells #[.bool false, .slice none 0 0, .slice none 0 0, .slice none 0 0] 29)
  have HP : Calls Tryd.prog 66 #[.pointer (some ⟨tb, 0, none⟩), kv] (w.alloc (.cells #[.bool false, .slice none 0 0, .slice none 0 0, .slice none 0 0] 29)) fun e w' => ∃ ek ev sv, e = .returned (.agg #[.bool (mkP T key).no, ek, ev, sv]) ∧
      Copy (w.heap.size + 1) w' ek (mkP T key).k ∧ Copy (w.heap.size + 1) w' ev (mkP T key).v ∧ w'.ownsRow (w.heap.size + 1) 66 34 sv (mkP T key).st.length ((mkP T key).st.flatMap zc) ∧ w'.heap[w.heap.size]? = some (.cells #[.bool false, .slice none 0 0, .slice none 0 0, .slice none 0 0] 29 (0, 0)) ∧ Below w.heap.size w w' :=
    (path_B B tb T kv key _ (ht.new hbn) (hk.new hbn) (hT.below hbn (by have := hT.lt; omega)) hn).mono fun e w' ⟨ek, ev, sv, h1, h2, h3, h4, h5, h6⟩ => by
      rw [World.size_alloc] at h2 h3 h4
      exact ⟨ek, ev, sv, h1, h2, h3, by simp only [mkP, flat_toZ, List.length_map]; exact h4, (h6.block _ (by rw [World.size_alloc]; exact Nat.lt_succ_self _)).trans hnew, hbn.trans (h6.mono hbn.size)⟩
  have HWF := hid (mkP_ok T key ht.wf)
  obtain ⟨ka, kc, rfl, _⟩ := id hk
  have HN := hid hnew
  clear hk ht hT hnew hbn
  generalize mkP T key = p at *
  obtain ⟨no, pk, pv, st⟩ := p
  simp only at HP HWF ⊢
  go_enter Tryd.func28, Tryd.ntmps28
  go_wp2_with (first
    | (go_at_call 66; refine HP.mono ?_; clear HP; rintro e w2 ⟨ek, ev, sv, rfl, hke, hve, hse, hbx, hb2⟩
       obtain ⟨a1, c1, rfl⟩ := hke.form
       obtain ⟨a2, c2, rfl⟩ := hve.form
       obtain ⟨a3, c3, rfl⟩ : ∃ a c, sv = .slice a st.length c := by
         rcases hse.2 with ⟨rfl, hn⟩ | ⟨g, cap, cur, rfl, _⟩
         · exact ⟨none, 0, by rw [hn]⟩
         · exact ⟨_, _, rfl⟩
       have HB2 := hid hb2
       have HK := hid hke
       have HV := hid hve
       have HS := hid hse
       have H2 := hid hbx
       clear hke hve hse hb2 hbx)
    | (refine wpList_store_row rfl 29 (.tmp 4) (.tmp 7) rfl w.heap.size #[.bool no, .slice a1 pk.length c1, .slice a2 pv.length c2, .slice a3 st.length c3] rfl rfl 29 _ H2.out Tryd.infoProof rfl (one_four _ _ _ _ _ _ _ _ _ _) ?_
       generalize hw3 : w2.setRow w.heap.size _ = w3
       have H3 : Hid (w3.heap[w.heap.size]? = some (.cells #[.bool no, .slice a1 pk.length c1, .slice a2 pv.length c2, .slice a3 st.length c3] 29 (0, 0))) := hid (by rw [← hw3]; exact setRow_heap _ _ _ _ _ _ H2.out)
       have HSP : Hid (Spares (fun i => i = w.heap.size) w2 w3) := hid (by rw [← hw3]; exact spares_setRowZ _ _ _)
       clear hw3)
    | (refine bodyPost_ret (results_cell_row (p := 4) (ty := 29) rfl _ _ w.heap.size 29 #[.bool no, .slice a1 pk.length c1, .slice a2 pv.length c2, .slice a3 st.length c3] (0, 0) _ rfl H3.out Tryd.underlying29 rfl Tryd.infoProof) rfl ?fin))
  case fin =>
    have hk3 := HSP.out.row HK.out (fun g hg e => by have h1 := (HK.out.lt g hg).1; omega)
    have hv3 := HSP.out.row HV.out (fun g hg e => by have h1 := (HV.out.lt g hg).1; omega)
    have hs3 := HSP.out.row HS.out (fun g hg e => by have h1 := (HS.out.lt g hg).1; omega)
    exact ⟨_, _, _, rfl, ⟨(shows_of_owns hk3).2, (shows_of_owns hv3).2, stps_of_row hs3 HWF.out⟩, HB2.out.trans (HSP.out.below (fun i hi => by omega) HB2.out.size)⟩
end Go.Proofs.YtmafaioohiaenaaDoor
