/- A slice of acts, as it lies in memory; contract of the law's 'made'. -/
import Derived.Test.YthkeofinamedfaaDoorWhole
import Derived.Test.YthkeofinamedfaaDoorDeleteF
namespace Go.Proofs.YthkeofinamedfaaDoor
open Go.RowKit
set_option linter.unusedVariables false
set_option maxRecDepth 20000

def dropT (T : Option Tri) (key : List UInt8) : Option Tri :=
  match T with
  | none => none
  | some t => if (t.near key).1 = key then t.cut key else some t

theorem delete_B (B tb : Nat) (T : Option Tri) (kv : Value) (key : List UInt8) (w : World) (hB : B ≤ w.heap.size) (ht : TreeB B w tb T) (hk : Says w kv key) (hfew : (Tri.entsO T).length < 1000000000) :
    Calls Tryd.prog 25 #[.pointer (some ⟨tb, 0, none⟩), kv] w fun e w' => e = .returned (.bool (look T key).isSome) ∧ TreeB B w' tb (dropT T key) ∧ Below B w w' := by
  obtain ⟨o, h1, rfl, h3⟩ := ht
  refine (delete_any tb o kv key w h1 hk hfew).mono ?_
  rintro e w' ⟨rfl, h | ⟨x, rfl, hn, hd, hs, hsp⟩⟩
  · refine ⟨rfl, ⟨o, h1.new h.2, ?_, h3⟩, h.2.mono hB⟩
    cases o with
    | none => rfl
    | some x =>
      have h0 := h.1
      simp only [look, triO, Option.map_some, dropT] at h0 ⊢
      split at h0
      · cases h0
      · rename_i hne; rw [if_neg hne]
  · refine ⟨rfl, ⟨x.cutN key, hd, ?_, fun b hb => h3 b (hs b hb)⟩, hsp.below h3 hB⟩
    simp only [dropT, triO, Option.map_some, if_pos hn]
    exact Nod.cutN_tri x key

theorem put_few (T : Option Tri) (e : Ent) : (Tri.put T e).ents.length ≤ (Tri.entsO T).length + 1 := by
  cases T with
  | none => simp [Tri.put, Tri.ents, Tri.entsO]
  | some t =>
    simp only [Tri.put, Tri.entsO]
    split
    · rw [Tri.set_length]; omega
    · rw [Tri.grow_length]; omega

theorem drop_few (T : Option Tri) (hT : Tri.WFO T) (key : List UInt8) : (Tri.entsO (dropT T key)).length ≤ (Tri.entsO T).length := by
  cases T with
  | none => simp [dropT]
  | some t =>
    simp only [dropT]
    split
    · rename_i h
      have := (Tri.cut_spec t hT key h).2.2
      simp only [Tri.entsO] at this ⊢
      omega
    · exact Nat.le_refl _

/-- One act: Do, K, V (values, and what they show). -/
structure ActV where
  d : Int
  kv : Value
  vv : Value
  k : List UInt8
  v : List UInt8

/-- v IS A SLICE OF THE ACTS xs, below block B. -/
def Acts (B : Nat) (w : World) (v : Value) (xs : List ActV) : Prop :=
  ∃ a c, v = .slice a xs.length c ∧ xs.length ≤ c ∧ c ≤ maxLen ∧ (xs ≠ [] → ∃ b off, a = some ⟨b, off, none⟩ ∧ b < B ∧ ∀ j x, xs[j]? = some x →
    w.cell? ⟨b, off + j * 3, none⟩ = some (.int .i64 x.d) ∧ w.cell? ⟨b, off + j * 3 + 1, none⟩ = some x.kv ∧ w.cell? ⟨b, off + j * 3 + 2, none⟩ = some x.vv ∧
    (-9223372036854775808 ≤ x.d ∧ x.d ≤ 9223372036854775807) ∧ Shows B w x.kv x.k ∧ Shows B w x.vv x.v)

theorem Acts.below {B : Nat} {w w' : World} {v : Value} {xs : List ActV} (h : Acts B w v xs) (hb : Below B w w') : Acts B w' v xs := by
  obtain ⟨a, c, hv, h1, h2, h3⟩ := h
  refine ⟨a, c, hv, h1, h2, fun hne => ?_⟩
  obtain ⟨b, off, ha, hlt, hc⟩ := h3 hne
  refine ⟨b, off, ha, hlt, fun j x hx => ?_⟩
  obtain ⟨c0, c1, c2, i0, s1, s2⟩ := hc j x hx
  exact ⟨by rw [hb.cell (p := ⟨b, off + j * 3, none⟩) hlt]; exact c0, by rw [hb.cell (p := ⟨b, off + j * 3 + 1, none⟩) hlt]; exact c1, by rw [hb.cell (p := ⟨b, off + j * 3 + 2, none⟩) hlt]; exact c2, i0, s1.below hb, s2.below hb⟩

theorem Acts.at {B : Nat} {w : World} {a : Option Addr} {l c : Nat} {xs : List ActV} (h : Acts B w (.slice a l c) xs) (k : Nat) (hk : k < xs.length) :
    ∃ b off d ka kc va vc kb vb, a = some ⟨b, off, none⟩ ∧ b < B ∧
    w.cell? ⟨b, off + k * 3, none⟩ = some (.int .i64 d) ∧ w.cell? ⟨b, off + k * 3 + 1, none⟩ = some (.slice ka kb.length kc) ∧ w.cell? ⟨b, off + k * 3 + 2, none⟩ = some (.slice va vb.length vc) ∧
    (-9223372036854775808 ≤ d ∧ d ≤ 9223372036854775807) ∧ Shows B w (.slice ka kb.length kc) kb ∧ Shows B w (.slice va vb.length vc) vb := by
  obtain ⟨a', c', hv, h1, h2, h3⟩ := h
  simp only [Value.slice.injEq] at hv
  obtain ⟨rfl, rfl, rfl⟩ := hv
  obtain ⟨b, off, rfl, hlt, hc⟩ := h3 (by intro e; rw [e] at hk; simp at hk)
  obtain ⟨x, hx⟩ : ∃ x, xs[k]? = some x := ⟨_, List.getElem?_eq_getElem hk⟩
  obtain ⟨c0, c1, c2, i0, s1, s2⟩ := hc k x hx
  obtain ⟨ka, kc, ek, _⟩ := id s1
  obtain ⟨va, vc, ev, _⟩ := id s2
  rw [ek] at c1 s1
  rw [ev] at c2 s2
  exact ⟨b, off, x.d, ka, kc, va, vc, x.k, x.v, rfl, hlt, c0, c1, c2, i0, s1, s2⟩

set_option maxHeartbeats 4000000 in
theorem made_any (v : Value) (xs : List ActV) (w : World) (hA : Acts w.heap.size w v xs) :
    Calls Tryd.prog 22 #[v] w fun e w' => ∃ tb T, e = .returned (.pointer (some ⟨tb, 0, none⟩)) ∧ TreeB w.heap.size w' tb T ∧ (Tri.entsO T).length ≤ 30 ∧ Below w.heap.size w w' := by
  obtain ⟨a, c, rfl, h1, h2, _⟩ := id hA
  unfold maxLen at h2
  have HA := hid hA
  clear hA
  go_enter Tryd.func22, Tryd.ntmps22
  go_wp2_with fail
  refine (new_B w).mono ?_
  rintro e w1 ⟨rfl, R1, hb1⟩
  go_wp2_with fail
  obtain ⟨tb, htb⟩ : ∃ tb, w.heap.size = tb := ⟨_, rfl⟩
  go_loopw [4] (fun i wr => ∃ (k : Nat) (T : Option Tri), k ≤ 30 ∧ k ≤ xs.length ∧ i = .int .i64 (k : Int) ∧ (Tri.entsO T).length ≤ k ∧ TreeB w.heap.size wr w.heap.size T ∧ Below w.heap.size w wr) (fun i _ => 30 - (intOf i).toNat)
  case atStart => exact ⟨0, none, by omega, by omega, rfl, by simp [Tri.entsO], R1, hb1⟩
  case round =>
    obtain ⟨k, T, hk, hkl, rfl, hT, R, hb⟩ := hrel
    have hszr := hb.size
    clear R1 hb1 htb
    by_cases hlt : k < xs.length
    · have hki : (k : Int) < (xs.length : Int) := by omega
      by_cases h30 : k < 30
      · have hk30 : (k : Int) < 30 := by omega
        have hk0 : (0 : Int) ≤ (k : Int) := by omega
        obtain ⟨b, off, d, ka, kc, va, vc, kb, vb, rfl, hbl, c0, c1, c2, i0, s1, s2⟩ := (HA.out.below hb).at k hlt
        have hblr : b < wr.heap.size := by omega
        by_cases hd0 : d = 0
        · subst hd0
          have hS0 : wr.drew.cell? ⟨b, off + k * 3 + 1, none⟩ = some (.slice ka kb.length kc) ∧ wr.drew.cell? ⟨b, off + k * 3 + 2, none⟩ = some (.slice va vb.length vc) := ⟨c1, c2⟩
          have sk : Says wr.drew (.slice ka kb.length kc) kb := Says.new (w := wr) (s1.mono hszr) (below_drewN _ wr 1)
          have sv : Says wr.drew (.slice va vb.length vc) vb := Says.new (w := wr) (s2.mono hszr) (below_drewN _ wr 1)
          have RD : TreeB w.heap.size wr.drew w.heap.size T := R.new (below_drewN _ wr 1)
          have HHB := hid hb
          by_cases hs : Tri.short (kb, vb)
          · have HP := put_B w.heap.size w.heap.size T _ _ kb vb wr.drew hszr RD sk sv hs (by omega)
            have HFW := hid (put_few T (kb, vb))
            generalize Tri.put T (kb, vb) = T' at *
            have HC0 : Hid (∀ W, Below w.heap.size wr.drew W → W.cell? ⟨b, off + k * 3, none⟩ = some (.int .i64 0) ∧ W.cell? ⟨b, off + k * 3 + 1, none⟩ = some (.slice ka kb.length kc) ∧ W.cell? ⟨b, off + k * 3 + 2, none⟩ = some (.slice va vb.length vc)) := hid fun W hW =>
              ⟨(hW.cell (p := ⟨b, off + k * 3, none⟩) hbl).trans c0, (hW.cell (p := ⟨b, off + k * 3 + 1, none⟩) hbl).trans c1, (hW.cell (p := ⟨b, off + k * 3 + 2, none⟩) hbl).trans c2⟩
            clear R RD sk sv s1 s2 hs hb
            go_wp2_with fail
            go_region_held3 (fun w' => w'.cell? ⟨b, off + k * 3 + 1, none⟩ = some (.slice ka kb.length kc) ∧ w'.cell? ⟨b, off + k * 3 + 2, none⟩ = some (.slice va vb.length vc))
              (first | assumption)
              ((go_at_call 23; refine HP.mono ?_; clear HP; rintro e wn ⟨rfl, Rn, hbn, _⟩
                have hcn := HC0.out wn hbn
                have hcn0 := hcn.1
                have hSn := hcn.2))
            have HRN := hid Rn
            have HBN := hid (HHB.out.trans ((below_drewN _ wr 1).trans hbn))
            clear Rn hbn c0 c1 c2 hS0 HC0 hcn hSn
            go_wp2
            go_roundw
            case rel => exact ⟨k + 1, some T', by omega, by omega, by go_num, by have := HFW.out; show T'.ents.length ≤ k + 1; omega, HRN.out, HBN.out⟩
            case measure => simp [intOf]; omega
          · have HP := long_B w.heap.size _ _ kb vb wr.drew sk sv hs
            have HRN := hid RD
            have HBN := hid (hb.trans (below_drewN _ wr 1))
            have c0' : wr.drew.cell? ⟨b, off + k * 3, none⟩ = some (.int .i64 0) := c0
            clear R RD sk sv s1 s2 hs hb
            go_wp2_with fail
            go_region_held3 (fun w' => w'.cell? ⟨b, off + k * 3 + 1, none⟩ = some (.slice ka kb.length kc) ∧ w'.cell? ⟨b, off + k * 3 + 2, none⟩ = some (.slice va vb.length vc))
              (first | assumption)
              ((go_at_call 23; refine HP.mono ?_; clear HP; rintro e wn ⟨rfl, rfl⟩))
            go_wp2
            go_roundw
            case rel => exact ⟨k + 1, T, by omega, by omega, by go_num, by omega, HRN.out, HBN.out⟩
            case measure => simp [intOf]; omega
        · have hd0' : (d == 0) = false := by simpa using hd0
          by_cases hd1 : d = 1
          · subst hd1
            have HD := delete_B w.heap.size w.heap.size T _ kb wr hszr R (s1.mono hszr) (by omega)
            have HFW := hid (drop_few T R.wf kb)
            have HHB := hid hb
            generalize dropT T kb = T' at *
            clear R s1 s2 hb
            go_wp2_with (go_at_call 25; refine HD.mono ?_; clear HD; rintro e wn ⟨rfl, Rn, hbn⟩
                         have HRN := hid Rn
                         have HBN := hid (HHB.out.trans hbn)
                         clear Rn hbn)
            go_roundw
            case rel => exact ⟨k + 1, T', by omega, by omega, by go_num, by have := HFW.out; omega, HRN.out, HBN.out⟩
            case measure => simp [intOf]; omega
          · have hd1' : (d == 1) = false := by simpa using hd1
            have HRN := hid R
            have HBN := hid hb
            clear R s1 s2 hb
            go_wp2
            go_roundw
            case rel => exact ⟨k + 1, T, by omega, by omega, by go_num, by omega, HRN.out, HBN.out⟩
            case measure => simp [intOf]; omega
      · have hk30 : (30 : Int) ≤ (k : Int) := by omega
        go_wp2
        go_ret
        first | exact ⟨_, rfl, T, R, by omega, hb⟩ | exact ⟨_, T, rfl, R, by omega, hb⟩
    · have hki : (xs.length : Int) ≤ (k : Int) := by omega
      go_wp2
      go_ret
      first | exact ⟨_, rfl, T, R, by omega, hb⟩ | exact ⟨_, T, rfl, R, by omega, hb⟩
end Go.Proofs.YthkeofinamedfaaDoor
