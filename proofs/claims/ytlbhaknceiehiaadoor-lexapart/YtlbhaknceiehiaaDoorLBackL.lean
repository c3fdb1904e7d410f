/- LexBack: what was written is cut into the same tokens. -/
import Derived.Test.YtlbhaknceiehiaaDoorLSame
import Derived.Test.YtlbhaknceiehiaaDoorLWrite
namespace Go.Proofs.YtlbhaknceiehiaaDoor
open Go.RowKit Go.Shelf
set_option linter.unusedVariables false
set_option linter.unusedSimpArgs false
set_option maxRecDepth 20000

theorem wrs_z (l : List Tk) : wrs (l.map Tk.z) = wrs l := by
  unfold wrs
  rw [List.filter_map, List.map_map]
  rfl

theorem okT_z {t : Tk} : OkT t.z ↔ OkT t := Iff.rfl

theorem GoodT.ok {t : Tk} (h : GoodT t) : OkT t := ⟨h.len, h.n0, h.n1⟩

/-- The tokens of a source: good ones, and the end. -/
theorem tokens_good {s : List UInt8} (h : (tokens s).1 = 0) : s.length ≤ 2000 ∧ (tokens s).2.1 = 0 ∧ ∃ L, (tokens s).2.2 = L ++ [⟨6, [], 0, (s.length : Int)⟩] ∧ L.length ≤ s.length ∧ ∀ t ∈ L, GoodT t := by
  have hl : ¬ 2000 < s.length := fun hl => by rw [tokens, if_pos hl] at h; exact absurd (show (2 : Nat) = 0 from h) (by decide)
  have e : tokens s = toks (s.length + 1) s 0 := by rw [tokens, if_neg hl]
  rw [e] at h ⊢
  refine ⟨by omega, (toks_form _ _ _).2 h, ?_⟩
  obtain ⟨L, h1, h2, h3⟩ := toks_good (s.length + 1) s 0 (by omega) h
  exact ⟨L, by rw [h1, Nat.zero_add], h2, h3⟩

theorem tokens_bad {s : List UInt8} (h : (tokens s).1 ≠ 0) : (tokens s).2.2 = [] := by
  unfold tokens at h ⊢
  split
  · rfl
  · rename_i hl
    rw [if_neg hl] at h
    exact (toks_form _ _ _).1 h

theorem wrs_good {L : List Tk} (h : ∀ t ∈ L, GoodT t) (e : Tk) (he : e.k = 6) : wrs (L ++ [e]) = L.map wr := by
  rw [wrs_snoc, if_pos he]
  unfold wrs
  rw [List.filter_eq_self.2]
  intro t ht
  have := (h t ht).k6
  simpa using this

/-- LexBack's plain part. -/
theorem back_plain {s : List UInt8} (h : (tokens s).1 = 0) :
    (∀ t ∈ (tokens s).2.2, OkT t) ∧ (tokens s).2.2.length ≤ 2001 ∧
    ((Lib.join (wrs (tokens s).2.2) [32]).length ≤ 2000 → ∃ l', tokens (Lib.join (wrs (tokens s).2.2) [32]) = (0, 0, l') ∧ (tokens s).2.2.map Tk.z = l'.map Tk.z ∧ (∀ t ∈ l', OkT t) ∧ l'.length ≤ 2001 ∧ wrs l' = wrs (tokens s).2.2) := by
  obtain ⟨hs, _, L, hL, hLl, hg⟩ := tokens_good h
  rw [hL]
  have hok : ∀ t ∈ L ++ [(⟨6, [], 0, (s.length : Int)⟩ : Tk)], OkT t := fun t ht => by
    rcases List.mem_append.1 ht with ht | ht
    · exact (hg t ht).ok
    · rw [List.mem_singleton] at ht
      subst ht
      exact ⟨by simp, Int.le_refl _, by show (0 : Int) ≤ _; decide⟩
  refine ⟨hok, by simp; omega, fun hj => ?_⟩
  rw [wrs_good hg _ rfl] at hj ⊢
  obtain ⟨l', h1, h2⟩ := back L hg hj
  have hz : (L ++ [(⟨6, [], 0, (s.length : Int)⟩ : Tk)]).map Tk.z = l'.map Tk.z := by rw [h2, List.map_append]; rfl
  refine ⟨l', h1, hz, fun t ht => ?_, ?_, ?_⟩
  · have : t.z ∈ (L ++ [(⟨6, [], 0, (s.length : Int)⟩ : Tk)]).map Tk.z := by rw [hz]; exact List.mem_map.2 ⟨t, ht, rfl⟩
    obtain ⟨x, hx, e⟩ := List.mem_map.1 this
    rw [← okT_z, ← e, okT_z]
    exact hok x hx
  · have := congrArg List.length hz
    simp at this
    omega
  · rw [← wrs_z l', ← hz, wrs_z, wrs_good hg _ rfl]

/-- A box of two cells. -/
theorem box2 (w : World) (a b : Value) (t : TypeId) : ∃ W, w.alloc (.cells #[a, b] t) = W ∧ Below w.heap.size w W ∧ w.heap.size < W.heap.size ∧ ∀ W', Below W.heap.size W W' → W'.heap[w.heap.size]? = some (.cells #[a, b] t) :=
  ⟨_, rfl, (Below.refl _ _).alloc (Nat.le_refl _) _, by simp, fun W' h => (h.block _ (by simp)).trans (heap_alloc_new w _)⟩

set_option maxHeartbeats 2000000 in
theorem lexBack_law (s : List UInt8) (w : World) (hs : s.length ≤ 140737488351232) (hT : TabL w) :
    Calls Tryd.prog 4 #[.string (str8 s)] w fun e w' => e = .returned (.bool true) ∧ Below w.heap.size w w' := by
  have HSM := hid (small8_any w hT)
  have HTK := hid (fun V (h : TabL V) => tokens_any s V h hs)
  have hbp : (tokens s).1 = 0 → _ := back_plain (s := s)
  have hbad : (tokens s).1 ≠ 0 → _ := tokens_bad (s := s)
  generalize tokens s = X at HTK hbp hbad
  obtain ⟨xe, xp, l⟩ := X
  dsimp only at HTK hbp hbad
  have HT := hid hT
  clear hT
  by_cases he : xe = 0
  · subst he
    obtain ⟨hok, hll, hback⟩ := hbp rfl
    clear hbp hbad
    have HOK := hid hok
    have HWR := hid (fun V (h : TabL V) v (hv : Toks V.heap.size V v l) => write_any V.heap.size v l V h (Nat.le_refl _) hv hok hll)
    obtain ⟨J, hJ⟩ : ∃ J, Lib.join (wrs l) [32] = J := ⟨_, rfl⟩
    rw [hJ] at HWR hback
    have HJ := hid hJ
    clear hok hJ
    have hsz : (str8 J).size = J.length := rfl
    go_enter Tryd.func4, Tryd.ntmps4
    go_wp2_with fail
    refine HSM.out.mono ?_
    rintro e w1 ⟨rfl, hb1⟩
    have HB1 := hid hb1
    have HT1 := hid (HT.out.on hb1)
    clear hb1
    go_wp2_with fail
    refine (HTK.out w1 HT1.out).mono ?_
    rintro e w2 ⟨v, rfl, htk, hb2⟩
    obtain ⟨W2, hW2, hbW2, hzW2, hcW2⟩ := box2 w2 (.int .i64 0) (.int .i64 xp) 26
    have g2 := cells2 (hcW2 W2 (Below.refl _ _))
    have HB2 : Hid (Below w.heap.size w W2) := hid ((HB1.out.trans (hb2.mono HB1.out.size)).trans (hbW2.mono (HB1.out.trans (hb2.mono HB1.out.size)).size))
    have HV2 := hid (htk.on hbW2)
    have HT2 := hid (HT.out.on HB2.out)
    have HW2 := hid (HWR.out W2 HT2.out v HV2.out)
    obtain ⟨va, vc, rfl, _⟩ := id htk
    clear hb2 hbW2 hcW2 htk
    go_wp2_with fail
    try rw [hW2]
    clear hW2
    refine HW2.out.mono ?_
    rintro e w3 ⟨rfl, hb3⟩
    have HB3 : Hid (Below w.heap.size w w3) := hid (HB2.out.trans (hb3.mono HB2.out.size))
    have HV3 := hid (HV2.out.on hb3)
    have HT3 := hid (HT.out.on HB3.out)
    clear hb3 HW2
    by_cases hlong : 2000 < J.length
    · have hlong' : (2000 : Int) < ((str8 J).size : Int) := by rw [hsz]; omega
      clear hback
      go_wp2
      go_ret
      exact ⟨rfl, HB3.out⟩
    · have hlong' : ¬ (2000 : Int) < ((str8 J).size : Int) := by rw [hsz]; omega
      obtain ⟨l', hY, hz, hok', hll', hwr'⟩ := hback (by omega)
      have HTJ := hid (tokens_any J w3 HT3.out (by omega))
      rw [hY] at HTJ
      dsimp only at HTJ
      have HS := hid (fun V v u (h1 : Toks V.heap.size V v l) (h2 : Toks V.heap.size V u l') => sameT_any V.heap.size v u l l' V (Nat.le_refl _) h1 h2 hz)
      have HWR' := hid (fun V (h : TabL V) v (hv : Toks V.heap.size V v l') => write_any V.heap.size v l' V h (Nat.le_refl _) hv hok' hll')
      rw [hwr', HJ.out] at HWR'
      have hJJ : ((str8 J).toList == (str8 J).toList) = true := by simp
      clear hback hY hz hok' hll' hwr'
      go_wp2_with fail
      refine HTJ.out.mono ?_
      rintro e w4 ⟨m, rfl, hm4, hb4⟩
      obtain ⟨ma, mc, rfl, _⟩ := id hm4
      go_wp2_with fail
      obtain ⟨W4, hW4, hbW4, hzW4, hcW4⟩ := box2 w4 (.int .i64 0) (.int .i64 0) 26
      have g4 := cells2 (hcW4 W4 (Below.refl _ _))
      have HB4 : Hid (Below w.heap.size w W4) := hid ((HB3.out.trans (hb4.mono HB3.out.size)).trans (hbW4.mono (HB3.out.trans (hb4.mono HB3.out.size)).size))
      have HV4 := hid ((HV3.out.on hb4).on hbW4)
      have HM4 := hid (hm4.on hbW4)
      have HS4 := hid (HS.out W4 _ _ HV4.out HM4.out)
      clear hb4 hbW4 hcW4 hm4 HTJ HS
      rw [hW4]
      clear hW4
      refine HS4.out.mono ?_
      rintro e w5 ⟨rfl, hb5⟩
      have HB5 : Hid (Below w.heap.size w w5) := hid (HB4.out.trans (hb5.mono HB4.out.size))
      have HW5 := hid (HWR'.out w5 (HT.out.on HB5.out) _ (HM4.out.on hb5))
      clear hb5 HS4
      go_wp2_with fail
      refine HW5.out.mono ?_
      rintro e w6 ⟨rfl, hb6⟩
      have HB6 : Hid (Below w.heap.size w w6) := hid (HB5.out.trans (hb6.mono HB5.out.size))
      clear hb6
      go_wp2
      go_ret
      exact ⟨rfl, HB6.out⟩
  · have hl := hbad he
    subst hl
    clear hbp
    have he' : (((xe : Nat) : Int) != 0) = true := by rw [bne_iff_ne]; omega
    generalize ((xe : Nat) : Int) = E at HTK he'
    clear hbad he
    go_enter Tryd.func4, Tryd.ntmps4
    go_wp2_with fail
    refine HSM.out.mono ?_
    rintro e w1 ⟨rfl, hb1⟩
    have HB1 := hid hb1
    have HT1 := hid (HT.out.on hb1)
    clear hb1
    go_wp2_with fail
    refine (HTK.out w1 HT1.out).mono ?_
    rintro e w2 ⟨v, rfl, htk, hb2⟩
    obtain ⟨va, vc, rfl, _⟩ := htk
    have HB2 : Hid (Below w.heap.size w w2) := hid (HB1.out.trans (hb2.mono HB1.out.size))
    clear hb2
    go_wp2
    go_ret
    exact ⟨rfl, HB2.out.alloc HB2.out.size _⟩
end Go.Proofs.YtlbhaknceiehiaaDoor
