/- For every int and every slice of bytes, PlainNumbers returns true. -/
import Derived.Test.YtknanockidellaaSmall
import Derived.Test.YtknanockidellaaRefN
import Derived.Test.YtknanockidellaaOwned
import Derived.Deep.RegionWith
import Derived.Deep.DeepCutAuto
namespace Go.Proofs.Ytknanockidellaa
open Go.RowKit
set_option linter.unusedVariables false

theorem Shows.drew {B : Nat} {w : World} {v : Value} {bs : List UInt8} (h : Shows B w v bs) : Shows B w.drew v bs :=
  h.below ((Below.refl B w).drew)

/-- string(v) of what is shown. -/
theorem strs {B : Nat} {v : Value} {bs : List UInt8} {w : World} (h : Shows B w v bs) : (convert 22 9 v).run Try.prog w = .ok (.string (str8 bs)) w :=
  run_string_shows (P := Try.prog) 22 5 9 Try.underlying22 Try.underlying5 Try.underlying9 h

theorem Lends.full {B : Nat} {w : World} {v : Value} {bs : List UInt8} (h : Lends B w v bs) : ∃ ys, Full B w v ys := by
  obtain ⟨g, rfl, ho⟩ := h
  exact ⟨_, .inr ⟨g, _, _, rfl, ho⟩⟩

theorem Lends.lt {B : Nat} {w : World} {v : Value} {bs : List UInt8} (h : Lends B w v bs) : ∀ k, v.ownBlock = some k → B ≤ k ∧ k < w.heap.size := by
  obtain ⟨g, rfl, ho⟩ := h
  intro k hk
  exact ho.lt k hk

/-- A number's bytes, and its key's. -/
def numBytes (n : Int) : List UInt8 := be (u64of n) 8
def keyBytes (n : Int) : List UInt8 := be (u64of (n + 9223372036854775808)) 8

theorem apart3 (x y z : Value) {a b c d : Nat} (hx : ∀ g, x.ownBlock = some g → b ≤ g ∧ g < c) (hy : ∀ g, y.ownBlock = some g → c ≤ g ∧ g < d) (hz : ∀ g, z.ownBlock = some g → a ≤ g ∧ g < b) (h : b ≤ c) : Apart [x, y, z] := by
  intro i j u v g hu hv hij hg hv2
  have key : ∀ (i : Nat) (u : Value), [x, y, z][i]? = some u → u.ownBlock = some g → (i = 0 ∧ b ≤ g ∧ g < c) ∨ (i = 1 ∧ c ≤ g ∧ g < d) ∨ (i = 2 ∧ a ≤ g ∧ g < b) := by
    intro i u hu hg
    match i, hu with
    | 0, hu => simp at hu; subst hu; exact .inl ⟨rfl, hx g hg⟩
    | 1, hu => simp at hu; subst hu; exact .inr (.inl ⟨rfl, hy g hg⟩)
    | 2, hu => simp at hu; subst hu; exact .inr (.inr ⟨rfl, hz g hg⟩)
  have k1 := key i u hu hg
  have k2 := key j v hv hv2
  omega

theorem marked3 {B : Nat} (w : World) {x y z : Value} {xs ys zs : List Value} (hx : Full B w x xs) (hy : Full B w y ys) (hz : Full B w z zs) : Marked B w [x, y, z] 0 := by
  intro j v hv
  match j, hv with
  | 0, hv => simp at hv; subst hv; exact ⟨xs, hx, fun h => by omega⟩
  | 1, hv => simp at hv; subst hv; exact ⟨ys, hy, fun h => by omega⟩
  | 2, hv => simp at hv; subst hv; exact ⟨zs, hz, fun h => by omega⟩

set_option maxRecDepth 100000 in
set_option maxHeartbeats 4000000 in
theorem numbers_law (n : Int) (vb : Value) (bs : List UInt8) (w : World) (h0 : -9223372036854775808 ≤ n) (h1 : n ≤ 9223372036854775807) (hsh : Shows w.heap.size w vb bs) (hl : bs.length ≤ 140737488351232) :
    Calls Try.prog 3 #[.int .i64 n, vb] w fun e w' => e = .returned (.bool true) ∧ Below w.heap.size w w' := by
  go_enter Try.func3, Try.ntmps3
  go_wp2_with fail
  refine (small_any w).mono ?_
  rintro e w1 ⟨rfl, hb1⟩
  have hz1 := hb1.size
  have hsh1 := hsh.below hb1
  go_wp2_with fail
  refine (lent_any w.heap.size vb bs w1 hz1 hsh1 hl).mono ?_
  rintro e w2 ⟨v2, rfl, hlend2, hbel2⟩
  have hz2 := hbel2.size
  have hb2 := hb1.trans (hbel2.mono hz1)
  go_wp2_with fail
  refine (num_any n w2).mono ?_
  rintro e w3 ⟨v3, rfl, hown3, hbel3⟩
  have hz3 := hbel3.size
  have hb3 := hb2.trans (hbel3.mono (by omega))
  go_wp2_with fail
  refine (numKey_any n w3).mono ?_
  rintro e w4 ⟨v4, rfl, hown4, hbel4⟩
  have hz4 := hbel4.size
  have hb4 := hb3.trans (hbel4.mono (by omega))
  have hlend4 := (hlend2.below hbel3).below hbel4
  have hx4 := ownsRow_below hown3 hbel4
  have hin4 := hlend4.shows (by unfold maxLen; omega)
  have HIN := hid hin4
  have HLE := hid hlend4
  have HX := hid hx4
  have HY := hid hown4
  have HAP := hid (apart3 v3 v4 v2 (fun g hg => (hown3.lt g hg)) (fun g hg => (hown4.lt g hg)) (fun g hg => hlend2.lt g hg) (by omega))
  clear hown3 hbel3 hown4 hbel4 hlend2 hbel2 hlend4 hx4 hin4 hb1 hb2 hb3
  have HT1 := hid (takeNum_any w4.heap.size v2 bs w4 HIN.out)
  have HT2 := hid (takeNumKey_any w4.heap.size v2 bs w4 HIN.out)
  have HT3 := hid (refTakeNum_any w.heap.size vb bs w4 (hsh.below hb4))
  have HT4 := hid (refTakeNumKey_any w.heap.size vb bs w4 hb4.size (hsh.below hb4))
  generalize tnum bs 9223372036854775808 = R2 at *
  generalize tnum bs 0 = R1 at *
  go_wp2_with fail
  refine HT1.out.mono ?_
  rintro e w5 ⟨rfl, rfl⟩
  go_wp2_with fail
  refine HT2.out.mono ?_
  rintro e w6 ⟨rfl, rfl⟩
  go_wp2_with fail
  refine HT3.out.mono ?_
  rintro e w7 ⟨rfl, rfl⟩
  go_wp2_with fail
  refine HT4.out.mono ?_
  rintro e w8 ⟨rfl, hbel8⟩
  clear HT1 HT2 HT3 HT4
  have hz8 := hbel8.size
  have hb8 := hb4.trans (hbel8.mono hb4.size)
  go_wp2_with fail
  refine (kept_any w1.heap.size w.heap.size v2 vb bs w8 (HLE.out.below hbel8) (hsh.below hb8) hl).mono ?_
  rintro e w9 ⟨rfl, rfl⟩
  go_wp2_with fail
  go_cut [22] (fun u wx => u = .bool true ∧ Below w9.heap.size w9 wx)
  case first =>
    have hx9 := (shows_of_owns (ownsRow_below HX.out hbel8)).2.drew
    have hy9 := (shows_of_owns (ownsRow_below HY.out hbel8)).2.drew
    have HX9 := hid hx9
    have HY9 := hid hy9
    have hsx := strs hx9
    have hsy := strs hy9
    clear hx9 hy9 HIN HLE HX HY HAP hsh hsh1
    have hk : ∀ wx : World, Calls Try.prog 19 #[.int .i64 n] wx fun e w' => ∃ g, e = .returned (.slice (some ⟨g, 0, none⟩) 8 8) ∧ w'.ownsRow wx.heap.size 5 1 (.slice (some ⟨g, 0, none⟩) 8 8) 8 ((keyBytes n).map by8) ∧ Below wx.heap.size wx w' := fun wx => refNumKey_any n wx h0 h1
    have HK := hid hk
    have HN := hid (fun wx => refNum_any n wx h0 h1)
    have e : be (u64of (n + 9223372036854775808)) 8 = keyBytes n := rfl
    rw [e] at HY9 hsy
    clear hk e
    go_region_with (first
      | (go_at_call 18; refine (HN.out _).mono ?_; rintro e wa ⟨ga, rfl, howna, hbela⟩; have hxa := strs (HX9.out.below hbela); have hya := strs (HY9.out.below hbela); have hra := strs (shows_of_owns howna).2; have HBA := hid hbela)
      | (go_at_call 19; refine (HK.out _).mono ?_; rintro e wb ⟨gb, rfl, hownb, hbelb⟩; have hbb := HBA.out.trans (hbelb.mono HBA.out.size); have hyb := strs (HY9.out.below hbb); have hrb := strs (shows_of_owns hownb).2))
    all_goals (go_wp2_with fail; go_meet)
    all_goals exact ⟨rfl, (Below.refl _ _).drew.trans hbb⟩
  case rest =>
    obtain ⟨rfl, hbc⟩ := hcut
    obtain ⟨g3, c3, rfl⟩ : ∃ g c, v3 = .slice (some ⟨g, 0, none⟩) 8 c := by
      rcases HX.out.2 with ⟨e, h0⟩ | ⟨g, cap, _, e, _⟩
      · simp at h0
      · exact ⟨_, _, e⟩
    obtain ⟨g4, c4, rfl⟩ : ∃ g c, v4 = .slice (some ⟨g, 0, none⟩) 8 c := by
      rcases HY.out.2 with ⟨e, h0⟩ | ⟨g, cap, _, e, _⟩
      · simp at h0
      · exact ⟨_, _, e⟩
    obtain ⟨g2, rfl⟩ : ∃ g, v2 = .slice (some ⟨g, 0, none⟩) bs.length (bs.length + 1) := by
      obtain ⟨g, e, _⟩ := HLE.out
      exact ⟨g, e⟩
    have hzc := hbc.size
    have hb79 := hbel8.trans (hbc.mono hz8)
    have hbw := hb8.trans (hbc.mono hb8.size)
    obtain ⟨xs3, f3⟩ := full_of_owns HX.out
    obtain ⟨xs4, f4⟩ := full_of_owns HY.out
    obtain ⟨xs2, f2⟩ := HLE.out.full
    have q3 := (f3.below hb79).mono (show w.heap.size ≤ w2.heap.size by omega)
    have q4 := (f4.below hb79).mono (show w.heap.size ≤ w3.heap.size by omega)
    have q2 := (f2.below hb79).mono (show w.heap.size ≤ w1.heap.size by omega)
    have hmk := marked3 (wc.alloc (.cells #[.slice (some ⟨g3, 0, none⟩) 8 c3, .slice (some ⟨g4, 0, none⟩) 8 c4, .slice (some ⟨g2, 0, none⟩) bs.length (bs.length + 1)] 22)) (q3.below ((Below.refl _ _).alloc (Nat.le_refl _) _)) (q4.below ((Below.refl _ _).alloc (Nat.le_refl _) _)) (q2.below ((Below.refl _ _).alloc (Nat.le_refl _) _))
    have hro := World.ownsRow_lit (base := w.heap.size) (e := 22) (size := 1) wc #[.slice (some ⟨g3, 0, none⟩) 8 c3, .slice (some ⟨g4, 0, none⟩) 8 c4, .slice (some ⟨g2, 0, none⟩) bs.length (bs.length + 1)] 3 hbw.size (by unfold maxLen; omega) rfl
    have HOW := hid (owned_any w.heap.size wc.heap.size 3 [.slice (some ⟨g3, 0, none⟩) 8 c3, .slice (some ⟨g4, 0, none⟩) 8 c4, .slice (some ⟨g2, 0, none⟩) bs.length (bs.length + 1)] (wc.alloc (.cells #[.slice (some ⟨g3, 0, none⟩) 8 c3, .slice (some ⟨g4, 0, none⟩) 8 c4, .slice (some ⟨g2, 0, none⟩) bs.length (bs.length + 1)] 22)) (by simp; have := hbw.size; omega) hro hmk HAP.out (by simp))
    clear f3 f4 f2 q3 q4 q2 hmk hro HX HY HLE HAP HIN
    go_wp2_with fail
    refine HOW.out.mono ?_
    rintro e wo ⟨rfl, hbo⟩
    have hfin := (hbw.alloc hbw.size _).trans hbo
    clear HOW hbo
    go_wp2
    go_ret
    exact ⟨rfl, hfin⟩
end Go.Proofs.Ytknanockidellaa
