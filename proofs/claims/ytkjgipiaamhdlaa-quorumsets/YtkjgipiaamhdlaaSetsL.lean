/- Contract of the law's ints; the walk of QuorumSets. -/
import Derived.Test.YtkjgipiaamhdlaaSetsQ
namespace Go.Proofs.Ytkjgipiaamhdlaa
open Go.RowKit
set_option linter.unusedVariables false
set_option maxRecDepth 20000

set_option maxHeartbeats 1000000 in
theorem ints_any (B C : Nat) (v u : Value) (l : List Int) (w : World) (hV : Ints B w v l) (hU : Ints C w u l) : Calls Try.prog 19 #[v, u] w fun e w' => e = .returned (.bool true) ∧ Below w.heap.size w w' := by
  obtain ⟨a, c, rfl, hc1, hc2⟩ := hV.form
  obtain ⟨a', c', rfl, hd1, hd2⟩ := hU.form
  unfold maxLen at hc2 hd2
  have HV := hid hV
  have HU := hid hU
  clear hV hU
  go_enter Try.func19, Try.ntmps19
  go_wp2
  go_loopw [5] (fun i wr => ∃ k : Nat, k ≤ l.length ∧ i = .int .i64 (k : Int) ∧ Below w.heap.size w wr ∧ Hid (Ints B wr (.slice a l.length c) l) ∧ Hid (Ints C wr (.slice a' l.length c') l)) (fun i _ => l.length - (intOf i).toNat)
  case atStart => exact ⟨0, by omega, rfl, Below.refl _ _, HV, HU⟩
  case round =>
    obtain ⟨k, hk, rfl, hbel, HV1, HU1⟩ := hrel
    by_cases hlt : k < l.length
    · obtain ⟨b, off, rfl, _, _, hbB, hcell, hi64⟩ := HV1.out.at k hlt
      obtain ⟨b', off', rfl, _, _, hbC, hcell', _⟩ := HU1.out.at k hlt
      generalize l[k] = x at *
      have hltz : (k : Int) < (l.length : Int) := by omega
      go_wp2
      go_region
      go_wp2
      go_roundw
      case rel => exact ⟨k + 1, by omega, by go_num, hbel.drew, hid HV1.out, hid HU1.out⟩
      case measure => simp only [intOf]; omega
    · have hltz : ¬ (k : Int) < (l.length : Int) := by omega
      go_wp2
      go_ret
      exact ⟨rfl, hbel⟩

theorem wpList_append_ints {P : Program} (w : World) {ops : Array Oper} {rest : List Oper} {o : Oper} {a : Act} {Q : Exit → Act → World → Prop} (hgd : o.guard = none) (s x : Operand) (t : TypeId)
    (ho : o.op = .call { callee := .builtin .append, args := #[s, x], argTypes := #[t, t] })
    (base : Nat) (e : TypeId) (i : TypeInfo) (ht : P.underlying t = some (.slice e)) (hi : P.info? e = some i) (hz : i.zero = some (.int .i64 0))
    (hsize : i.size = 1) (hby : i.bytes = 8)
    (v : Value) (n : Nat) (xs : List Value) (hs : a.eval s = v) (hown : w.ownsRow base e 1 v n xs)
    (B : Nat) (vx : Value) (l : List Int) (hx : a.eval x = vx) (hsh : Ints B w vx l)
    (hbytes : (n + l.length) * 8 ≤ 140737488355328) (hbase : base ≤ w.heap.size)
    (h : ∀ v' w', w'.ownsRow base e 1 v' (n + l.length) (xs ++ intC l) → w.grownBy w' v.ownBlock → wpList P ops Q rest (a.put o.dst v') w') : wpList P ops Q (o :: rest) a w := by
  have hone : ∀ u ∈ intC l, u.oneCell' = true := by
    intro u hu
    obtain ⟨z, _, rfl⟩ := List.mem_map.1 hu
    rfl
  obtain ⟨ao, c, rfl, h1, h2, hn, h3⟩ := hsh.1
  cases ao with
  | none =>
    have hc := hn rfl
    subst hc
    have hb : l = [] := List.eq_nil_of_length_eq_zero (by rw [intC_len] at h1; omega)
    subst hb
    refine wpList_append_own_none hgd s x t ho base e i 1 ht hi v n xs hs hown hx ?_
    exact h v w (by simpa [intC] using hown) (World.grownBy.refl w _)
  | some ad =>
    refine wpList_append_own w hgd s x t ho base e i (.int .i64 0) 1 8 ht hi hz hsize hby rfl (by decide) v n xs hs hown ad l.length c (intC l) (by rw [hx, intC_len]) (by rw [intC_len]; omega) ?_ hone (by unfold maxLen; omega) (by omega) hbase ?_
    · intro j u hj
      obtain ⟨b, off, ha, _, hc⟩ := h3 (by intro e; rw [e] at hj; simp at hj)
      cases ha
      rw [Addr.add_lit]
      exact hc j u hj
    · intro v' w' ho' hg hnil
      exact h v' w' ho' hg

set_option maxHeartbeats 2000000 in
theorem sets_law (v : Value) (l : List Int) (n s who : Int) (w : World) (hL : Ints w.heap.size w v l) (hl8 : l.length * 8 ≤ 140737488351232) (n1 : -9223372036854775808 ≤ n) (n2 : n ≤ 9223372036854775807) (s1 : -9223372036854775808 ≤ s) (s2 : s ≤ 9223372036854775807) (w1 : -9223372036854775808 ≤ who) (w2 : who ≤ 9223372036854775807) :
    Calls Try.prog 4 #[v, .int .i64 n, .int .i64 s, .int .i64 who] w fun e w' => e = .returned (.bool true) ∧ Below w.heap.size w w' := by
  have HS := hid (show I64 s from ⟨s1, s2⟩)
  have HN := hid (show I64 n from ⟨n1, n2⟩)
  have HW := hid (show I64 who from ⟨w1, w2⟩)
  clear w1 w2
  obtain ⟨i0, hi, hz0, hz1, hz2⟩ := info_parts Try.infoInt
  obtain ⟨a, c, rfl, hc1, hc2⟩ := hL.form
  unfold maxLen at hc2
  have HL := hid hL
  clear hL
  go_enter Try.func4, Try.ntmps4
  go_wp2_with (first
    | (go_at_call 8; refine (small6_any _).mono ?_; rintro e w1 ⟨rfl, hb1⟩)
    | (at_builtin; refine wpList_append_ints _ rfl _ _ 28 rfl w1.heap.size 3 i0 Try.underlying28 hi hz0 hz1 hz2 _ 0 [] rfl (World.ownsRow_made w1 #[] 0 (Nat.le_refl _) (by unfold maxLen; omega) rfl) w.heap.size _ l rfl ?h1 ?h2 ?h3 ?_)
    | go_in)
  case h1 => exact HL.out.below (hb1.alloc hb1.size _)
  case h2 => omega
  case h3 => simp
  intro vi w2 hown2 hg2
  have hb2 : Below w.heap.size w w2 := (hb1.alloc hb1.size _).grown hg2 (by have := hb1.size; simp; omega) (fun q hq => by simp [Value.ownBlock] at hq; have := hb1.size; omega)
  have HI := hid (show Ints w2.heap.size w2 vi l from ⟨(Cel.of_owns hown2).2, HL.out.2⟩)
  have HL2 := hid (HL.out.below hb2)
  obtain ⟨ai, ci, rfl⟩ := owns_form hown2
  clear hown2 hg2 hb1
  go_wp2_with fail
  refine (set_any _ _ _ _ HI.out).mono ?_
  rintro e w3 ⟨rfl, rfl⟩
  go_wp2_with fail
  refine (zset_any _ _ _ _ HL2.out).mono ?_
  rintro e w4 ⟨rfl, rfl⟩
  go_wp2_with fail
  refine (ints_any _ _ _ _ _ _ HI.out HL2.out).mono ?_
  rintro e w5 ⟨rfl, hb5⟩
  have hB5 := hb2.trans (hb5.mono hb2.size)
  clear hb5 hb2
  go_wp2_with fail
  refine (members_any _ _ HS.out).mono ?_
  rintro e w6 ⟨vm, rfl, ho6, hb6⟩
  have hB6 := hB5.trans (hb6.mono hB5.size)
  have H6 := hid (show Ints w6.heap.size w6 vm (memQ s 16) from ⟨(Cel.of_owns ho6).2, fun x hx => by have := memQ_ok s 16 x hx; unfold I64; omega⟩)
  obtain ⟨am, cm, rfl⟩ := owns_form ho6
  clear ho6 hb6 hB5
  go_wp2_with fail
  refine (zmembers_any _ _ HS.out).mono ?_
  rintro e w7 ⟨vz, rfl, ho7, hb7⟩
  have hB7 := hB6.trans (hb7.mono hB6.size)
  have H7 := hid (show Ints w7.heap.size w7 vz (memQ s 16) from ⟨(Cel.of_owns ho7).2, fun x hx => by have := memQ_ok s 16 x hx; unfold I64; omega⟩)
  have H67 := hid (H6.out.below hb7)
  obtain ⟨az, cz, rfl⟩ := owns_form ho7
  clear ho7 hb7 hB6
  go_wp2_with fail
  refine (ints_any _ _ _ _ _ _ H67.out H7.out).mono ?_
  rintro e w8 ⟨rfl, hb8⟩
  have hB8 := hB7.trans (hb8.mono hB7.size)
  clear hb8 hB7
  generalize setV l = q1 at *
  generalize setE l = q2 at *
  go_wp2_with fail
  refine (count_any _ _ HS.out).mono ?_
  rintro e w9 ⟨rfl, hb9⟩
  have hB9 := hB8.trans (hb9.mono hB8.size)
  clear hb9 hB8
  go_wp2_with fail
  refine (zcount_any _ _ HS.out).mono ?_
  rintro e w10 ⟨rfl, hb10⟩
  have hB10 := hB9.trans (hb10.mono hB9.size)
  clear hb10 hB9
  go_wp2_with (go_at_call 24; refine (has_any _ _ _ HS.out HW.out).mono ?_; rintro e w11 ⟨rfl, rfl⟩)
  refine (zhas_any _ _ _ HS.out HW.out).mono ?_
  rintro e w12 ⟨rfl, hb12⟩
  have hB12 := hB10.trans (hb12.mono hB10.size)
  clear hb12 hB10
  go_wp2_with fail
  refine (is_any _ _ _ HN.out HS.out).mono ?_
  rintro e w13 ⟨rfl, hb13⟩
  have hB13 := hB12.trans (hb13.mono hB12.size)
  clear hb13 hB12
  go_wp2_with fail
  refine (zis_any _ _ _ HN.out HS.out).mono ?_
  rintro e w14 ⟨rfl, hb14⟩
  have hB14 := hB13.trans (hb14.mono hB13.size)
  clear hb14 hB13
  go_wp2
  go_ret
  exact ⟨rfl, hB14⟩
end Go.Proofs.Ytkjgipiaamhdlaa
