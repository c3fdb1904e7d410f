/- The document's own registry: By, Text. -/
import Derived.Test.YtnhgjjpjmfjmjaaRefS
namespace Go.Proofs.Ytnhgjjpjmfjmjaa
open Go.RowKit Go.Maps
set_option linter.unusedVariables false

theorem texts_take (L : List Pr) (k : Nat) (h : k < L.length) (x : Int) : textsOf (L.take (k + 1)) x = if L[k].1 = x then textsOf (L.take k) x ++ [L[k].2] else textsOf (L.take k) x := by
  rw [List.take_succ_eq_append_getElem h, textsOf_snoc]

set_option maxRecDepth 10000 in
set_option maxHeartbeats 2000000 in
theorem rby_any (v : Value) (who : Int) (L : List Pr) (S : Nat → Prop) (w : World) (hR : RefG w v L S) (hw : I64 who) (hL : L.length ≤ 100000) :
    Calls Try.prog 17 #[v, .int .i64 who] w fun e w' => ∃ v', e = .returned v' ∧ RowsFAt w' w.heap.size v' (textsOf L who) ∧ Below w.heap.size w w' := by
  obtain ⟨i0, hi, hz0, hz1, hz2⟩ := info_parts Try.infoBytesR
  obtain ⟨xb, vl, rfl, h0⟩ := hR
  obtain ⟨a, c, rfl, hc1, hc2⟩ := own_form2 h0.row
  have hcm : c ≤ 9223372036854775807 := by unfold maxLen at hc2; exact hc2
  have H0 := hid h0
  clear h0
  go_enter Try.func17, Try.ntmps17
  go_wp2_with fail
  go_loopw [5, 6] (fun u i wr => ∃ (k n : Nat) (vs : List Value), k ≤ L.length ∧ i = .int .i64 (k : Int) ∧ n ≤ k ∧ Hid ((textsOf (L.take k) who).length = n) ∧ wr.ownsRow w.heap.size 28 1 u n vs ∧ Hid (RowsF wr w.heap.size vs (textsOf (L.take k) who)) ∧ Below w.heap.size w wr) (fun _ i _ => L.length - (intOf i).toNat)
  case atStart => exact ⟨0, 0, [], by omega, rfl, by omega, rfl, World.ownsRow_nil _ _ _ _, RowsF.nil _ _, Below.refl _ _⟩
  case round =>
    obtain ⟨k, n, vs, hk, rfl, hnk, HNL, hown, HF, hb⟩ := hrel
    have hszr := hb.size
    have hr := H0.out.keeps (T := fun _ => False) (Spares.of_new hb) (fun _ _ => id)
    have hcell := hr.cell
    by_cases hlt : k < L.length
    · obtain ⟨g, rfl, c1, c2⟩ := hr.at k hlt
      have hki : (k : Int) < (L.length : Int) := by omega
      have hk0 : (0 : Int) ≤ (k : Int) := by omega
      have HT := hid (texts_take L k hlt who)
      have hrl := (H0.out.ok L[k] (List.getElem_mem hlt)).2.2
      by_cases hp : L[k].1 = who
      · rw [if_pos hp] at HT
        obtain ⟨cap, w1, hcv, hof, hg1, hs1⟩ := conv_fresh wr L[k].2 (by unfold maxLen; omega)
        have hown1 := hown.kept hg1 (Classical.em _)
        have hbn : Below wr.heap.size wr w1 := (Below.refl _ wr).grown hg1 (Nat.le_refl _) (fun k e => by cases e)
        have hF1 := HF.out.new hbn
        have hflt := HF.out.lt
        have hvb := fun (C : Nat) (u : Value) (r : List UInt8) (hu : OwnF C w1 u r) => rowsF_ne hown1 hu
        have hle1 : w.heap.size ≤ w1.heap.size := by omega
        have HFIN : Hid (∀ v' w2, w2.ownsRow w.heap.size 28 1 v' (n + 1) (vs ++ [.slice (some ⟨wr.heap.size, 0, none⟩) L[k].2.length cap]) → (w1.alloc (.cells #[.slice (some ⟨wr.heap.size, 0, none⟩) L[k].2.length cap] 28)).grownBy w2 u5.ownBlock →
            RowsF w2 w.heap.size (vs ++ [.slice (some ⟨wr.heap.size, 0, none⟩) L[k].2.length cap]) (textsOf (L.take (k + 1)) who) ∧ (textsOf (L.take (k + 1)) who).length = n + 1 ∧ Below w.heap.size w w2) := fun v' w2 ho2 hg2 => by
          have hx : Spares (fun i => u5.ownBlock = some i) w1 w2 := (Spares.of_new (new_allocR w1 _)).andThen (Spares.of_grown (S := fun i => u5.ownBlock = some i) hg2 (fun k e => e)) (fun i h => .inl h)
          refine ⟨?_, ?_, ?_⟩
          · rw [HT.out]
            refine (hF1.spares hx fun u hu g' e1 e2 => ?_).snoc hszr (hof.spares hx fun g' e1 e2 => hvb _ _ _ hof g' e1 e2) (fun u hu g' e => (hflt u hu g' e).2)
            obtain ⟨j, hj⟩ := List.getElem?_of_mem hu
            have hjr : j < (textsOf (L.take k) who).length := by rw [← hF1.len]; exact (List.getElem?_eq_some_iff.1 hj).1
            exact hvb _ _ _ (hF1.own j u _ hj (List.getElem?_eq_getElem hjr)) g' e1 e2
          · rw [HT.out, List.length_append, HNL.out]
            rfl
          · exact (hb.trans (hbn.mono hszr)).trans (hx.below (fun i e => (hown1.lt i e).1) hle1)
        clear hF1 hflt hvb hof hs1 hr HT
        generalize L[k].1 = x at *
        generalize L[k].2 = r at *
        generalize str8 r = s at *
        subst hp
        go_wp2_with (first | (at_builtin; refine wpList_append_own_at _ rfl _ _ 35 rfl w.heap.size 28 i0 (.slice none 0 0) 1 24 Try.underlying35 hi hz0 hz1 hz2 rfl (by decide) _ _ _ rfl (hown1.alloc _) ⟨w1.heap.size, 0, none⟩ 1 1 [.slice (some ⟨wr.heap.size, 0, none⟩) r.length cap] rfl rfl (one_cell w1 _ _) ?c1 ?c2 ?c3 ?c4 ?_) | go_in)
        case c1 => intro u hu; simp at hu; subst hu; rfl
        case c2 => unfold maxLen; omega
        case c3 => omega
        case c4 => simp; omega
        · intro v' w2 hown2 hg2 _ _
          obtain ⟨f1, f3, f2⟩ := HFIN.out v' w2 hown2 hg2
          have F1 := hid f1
          have F3 := hid f3
          clear f1 f3
          go_wp2
          go_roundw
          case rel => exact ⟨k + 1, n + 1, _, by omega, by go_num, by omega, F3, hown2, F1, f2⟩
          case measure => simp [intOf]; omega
      · rw [if_neg hp] at HT
        have hpd : (L[k].1 == who) = false := by rw [beq_eq_false_iff_ne]; exact hp
        have hpe : decide (L[k].1 = who) = false := decide_eq_false hp
        have HNL2 : Hid ((textsOf (L.take (k + 1)) who).length = n) := by rw [HT.out]; exact HNL.out
        have HF2 : Hid (RowsF wr w.heap.size vs (textsOf (L.take (k + 1)) who)) := by rw [HT.out]; exact HF.out
        clear hr HT hp
        generalize L[k].1 = x at *
        generalize str8 L[k].2 = s at *
        go_wp2_with fail
        go_roundw
        case rel => exact ⟨k + 1, n, vs, by omega, by go_num, by omega, HNL2, hown, HF2, hb⟩
        case measure => simp [intOf]; omega
    · have hke : k = L.length := by omega
      have HX := HF.out
      have HZ := HNL.out
      rw [hke, List.take_length] at HX HZ
      rw [← HZ] at hown
      have HY := hid HX
      have HOW := hid hown
      clear HX hr HZ hown HNL
      go_wp2
      go_ret
      exact ⟨_, rfl, ⟨vs, HOW.out, HY.out⟩, hb⟩

set_option maxHeartbeats 2000000 in
theorem rrtext_any (v : Value) (who n : Int) (L : List Pr) (S : Nat → Prop) (w : World) (hR : RefG w v L S) (hw : I64 who) (hn : I64 n) (hL : L.length ≤ 100000) :
    Calls Try.prog 21 #[v, .int .i64 who, .int .i64 n] w fun e w' => (NoSuch n (textsOf L who) ∧ e = .returned (.tuple #[nilS, .bool false]) ∧ Below w.heap.size w w') ∨
      ∃ v' r, Such n (textsOf L who) r ∧ e = .returned (.tuple #[v', .bool true]) ∧ OwnF w.heap.size w' v' r ∧ Below w.heap.size w w' := by
  have hlen := textsOf_le L who
  have HBY := hid (rby_any v who L S w hR hw hL)
  clear hR
  generalize textsOf L who = rows at *
  go_enter Try.func21, Try.ntmps21
  go_wp2_with fail
  refine HBY.out.mono ?_
  rintro e w1 ⟨v1, rfl, hr, hb⟩
  obtain ⟨vs, ho, hF⟩ := hr
  obtain ⟨a, c, rfl, hc1, hc2⟩ := own_formR ho
  have hcm : c ≤ 9223372036854775807 := by unfold maxLen at hc2; exact hc2
  by_cases h1 : 0 ≤ n
  · by_cases h2 : n < (rows.length : Int)
    · obtain ⟨k, rfl⟩ := Int.eq_ofNat_of_zero_le h1
      have hlt : k < rows.length := by omega
      obtain ⟨g, u, rfl, hu, hcell, hg⟩ := own_cellR ho k hlt
      have hr := List.getElem?_eq_getElem hlt
      have hof := hF.own k u rows[k] hu hr
      obtain ⟨gu, cu, _, _, rfl, _⟩ := id hof
      have HS : Hid (Such (k : Int) rows rows[k]) := ⟨h1, hr⟩
      have HOF := hid hof
      clear ho hF hu hr hof HBY
      generalize rows[k] = r at *
      go_wp2
      go_ret2
      exact .inr ⟨_, r, HS.out, rfl, HOF.out, hb⟩
    · have h3 : (rows.length : Int) ≤ n := by omega
      have h4 : ¬ n < 0 := by omega
      have HN := hid (show NoSuch n rows from fun h => by omega)
      clear ho hF HBY
      go_wp2
      go_ret2
      exact .inl ⟨HN.out, rfl, hb⟩
  · have h3 : n < 0 := by omega
    have HN := hid (show NoSuch n rows from fun h => by omega)
    clear ho hF HBY
    go_wp2
    go_ret2
    exact .inl ⟨HN.out, rfl, hb⟩
end Go.Proofs.Ytnhgjjpjmfjmjaa
