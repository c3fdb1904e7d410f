/- The document's Clash: where two unlike texts have one digest it says so. -/
import Derived.Test.YtmafaioohiaenaaDoorRef4T
import Derived.Test.YtmafaioohiaenaaDoorYCheck
import Derived.Test.YtmafaioohiaenaaDoorOfRow
namespace Go.Proofs.YtmafaioohiaenaaDoor
open Go.RowKit Go.Shelf
set_option linter.unusedVariables false
set_option linter.unusedSimpArgs false
set_option maxRecDepth 20000

theorem run_eql_sumZ {a b : Array Value} {e : Bool} (W : World) (h : (Op.equalIn 10000 23 (.agg a) (.agg b)).run Tryd.prog W = .ok e W) : (binOp .eql 23 (.agg a) (.agg b)).run Tryd.prog W = .ok (.bool e) W := by
  have h' : (Op.equal 23 (.agg a) (.agg b)).run Tryd.prog W = .ok e W := h
  simp [binOp, Sem.run_bind, h']

theorem run_guard_sumE (x y : Operand) (a b : Array Value) (W : World) : (eqGuard .eql 23 x y (.agg a) (.agg b)).run Tryd.prog W = .ok () W := by
  have hpr : (program).run Tryd.prog W = .ok Tryd.prog W := rfl
  simp only [eqGuard, Sem.run_bind, Bool.not_true, Bool.false_eq_true, if_false, hpr, Result.andThen_ok, Tryd.guardSum, Bool.not_false, if_true, Sem.run_pure]

theorem yields_eql {ops : Array Oper} {S : World → Prop} {o : Oper} {a : Act} (x y : Operand) (ho : o.op = .binOp .eql 23 x y 23) (A B : Array Value) (e : Bool) (hx : a.eval x = .agg A) (hy : a.eval y = .agg B)
    (hw : Region.wanted o (yielded ops a.tmps) = true) (hr : ∀ W, (Op.equalIn 10000 23 (.agg A) (.agg B)).run Tryd.prog W = .ok e W) : YieldsIf Tryd.prog ops S o (.bool e) a :=
  Or.inl ⟨hw, fun w hS => by
    unfold execOp
    simp only [ho, hx, hy, Sem.run_bind, run_guard_sumE, run_eql_sumZ w (hr w), Sem.run_pure, Result.andThen_ok]⟩

theorem yields_conv {P : Program} {ops : Array Oper} {S : World → Prop} {o : Oper} {a : Act} (t1 t2 : TypeId) (x : Operand) (ho : o.op = .convert t1 t2 x) (v r : Value) (hx : a.eval x = v) (hw : Region.wanted o (yielded ops a.tmps) = true) (hr : ∀ W, S W → (convert t1 t2 v).run P W = .ok r W) : YieldsIf P ops S o r a :=
  Or.inl ⟨hw, fun w hS => by
    unfold execOp
    simp only [ho, hx, Sem.run_bind, hr w hS, Sem.run_pure, Result.andThen_ok]⟩

theorem Tryd.infoSumZ : (Tryd.prog.info? 23).map (fun i => (i.zero, i.size, i.bytes)) = some (some (.agg zero32), 32, 32) := by kernel_rfl

theorem strsC {B : Nat} {v : Value} {bs : List UInt8} {w : World} (h : Shows B w v bs) : (convert 24 9 v).run Tryd.prog w = .ok (.string (str8 bs)) w :=
  run_string_shows (P := Tryd.prog) 24 5 9 Tryd.underlying24 Tryd.underlying5 Tryd.underlying9 h

theorem str_beqC (a b : List UInt8) : ((str8 a).toList == (str8 b).toList) = decide (a = b) := str_beqY a b

/-- The digests of texts, as cells. -/
def sumsC (X : List (List UInt8)) : List Value := X.flatMap fun t => (sha t).map by8

theorem sumsC_at : ∀ (X : List (List UInt8)) (m : Nat) (r : List UInt8), X[m]? = some r → ∀ (j : Nat) (u : Value), ((sha r).map by8)[j]? = some u → (sumsC X)[m * 32 + j]? = some u
  | [], m, r, h => by simp at h
  | x :: X, 0, r, h => fun j u hu => by
    simp at h
    subst h
    simp only [sumsC, List.flatMap_cons, Nat.zero_mul, Nat.zero_add]
    rw [List.getElem?_append_left (List.getElem?_eq_some_iff.1 hu).1]
    exact hu
  | x :: X, m + 1, r, h => fun j u hu => by
    have ih := sumsC_at X m r (by simpa using h) j u hu
    have hl : ((sha x).map by8).length = 32 := by rw [List.length_map, sha_length]
    simp only [sumsC, List.flatMap_cons] at ih ⊢
    rw [List.getElem?_append_right (by rw [hl]; omega), hl, show (m + 1) * 32 + j - 32 = m * 32 + j by omega]
    exact ih

/-- What the outer loop has in hand. -/
structure ClI (w : World) (X : List (List UInt8)) (k : Nat) (W : World) (sv : Value) : Prop where
  row : W.ownsRow w.heap.size 23 32 sv k (sumsC (X.take k))
  below : Below w.heap.size w W
  no : NoClash (X.take k)

theorem ClI.new {w : World} {X : List (List UInt8)} {k : Nat} {W W' : World} {sv : Value} (h : ClI w X k W sv) (hb : Below W.heap.size W W') : ClI w X k W' sv :=
  ⟨(Spares.of_new (S := fun _ => False) hb).row h.row (fun _ _ => id), h.below.trans (hb.mono h.below.size), h.no⟩

theorem noClash_snoc {X : List (List UInt8)} {k : Nat} {t : List UInt8} (h : NoClash (X.take k)) (ht : X[k]? = some t) (hn : ∀ q, q < k → ∀ r, X[q]? = some r → sha r = sha t → r = t) : NoClash (X.take (k + 1)) := by
  have hx : ∀ a ∈ X.take k, sha a = sha t → a = t := fun a ha hs => by
    obtain ⟨q, hq⟩ := List.getElem?_of_mem ha
    have hl := (List.getElem?_eq_some_iff.1 hq).1
    rw [List.length_take] at hl
    rw [List.getElem?_take, if_pos (by omega)] at hq
    exact hn q (by omega) a hq hs
  intro a ha b hb hs
  rw [List.take_add_one, ht] at ha hb
  simp only [Option.toList_some, List.mem_append, List.mem_cons, List.not_mem_nil, or_false] at ha hb
  rcases ha with ha | rfl <;> rcases hb with hb | rfl
  · exact h a ha b hb hs
  · exact hx a ha hs
  · exact (hx b hb hs.symm).symm
  · rfl

theorem sumsC_snoc {X : List (List UInt8)} {k : Nat} {t : List UInt8} (ht : X[k]? = some t) : sumsC (X.take (k + 1)) = sumsC (X.take k) ++ (sha t).map by8 := by
  unfold sumsC
  rw [List.take_add_one, ht]
  simp

set_option maxHeartbeats 1500000 in
theorem clash_some (B : Nat) (va : Option Addr) (vc : Nat) (X : List (List UInt8)) (w : World) (hB : B ≤ w.heap.size) (hL : Lists B w (.slice va X.length vc) X) (hxl : X.length ≤ 100000) (htl : ∀ t ∈ X, t.length ≤ 1099511627776) (hcl : ¬ NoClash X) :
    Calls Tryd.prog 32 #[.slice va X.length vc] w fun e w' => e = .returned (.bool true) ∧ Below w.heap.size w w' := by
  have HL := hid hL
  have HCL := hid hcl
  have HTL := hid htl
  have HBB := hid hB
  clear hL hcl htl hB
  go_enter Tryd.func32, Tryd.ntmps32
  go_wp2_with fail
  go_loopw [3, 4] (fun u i wr => ∃ (k : Nat) (sa : Option Addr) (sc : Nat), k ≤ X.length ∧ i = .int .i64 (k : Int) ∧ u = .slice sa k sc ∧ Hid (ClI w X k wr (.slice sa k sc))) (fun _ i _ => X.length - (intOf i).toNat)
  case atStart => exact ⟨0, none, 0, Nat.zero_le _, rfl, rfl, hid ⟨World.ownsRow_nil _ _ _ _, Below.refl _ _, fun a ha => by simp at ha⟩⟩
  case round =>
    obtain ⟨k, sa, sc, hk, rfl, rfl, HI⟩ := hrel
    by_cases hlt : k < X.length
    · obtain ⟨wo, rfl⟩ : ∃ wo, wo = wr := ⟨_, rfl⟩
      obtain ⟨b1, o1, a1, c1, rfl, hc1o, hs1o⟩ := (HL.out.below (HI.out.below.mono HBB.out)).at k hlt
      obtain ⟨t, ht⟩ : ∃ t, X[k]? = some t := ⟨_, List.getElem?_eq_getElem hlt⟩
      rw [ht, Option.getD_some] at hc1o hs1o
      have HTT := hid ht
      have hki : (k : Int) < (X.length : Int) := by omega
      have hk0 : (0 : Int) ≤ (k : Int) := by omega
      have HRW := refRaw_any B _ t wo (Nat.le_trans HBB.out HI.out.below.size) hs1o (HTL.out t (List.mem_of_getElem? ht))
      obtain ⟨A, hA⟩ : ∃ A, sumV (sha t) = A := ⟨_, rfl⟩
      have HIS := hid (isSum (sha t) (sha_length t))
      rw [hA] at HIS
      replace HRW : Calls Tryd.prog 11 #[.slice a1 t.length c1] wo fun e w' => e = .returned (.agg A) ∧ Below wo.heap.size wo w' := by rw [← hA]; exact HRW
      have HA := hid hA
      have HSO := hid hs1o
      clear hA ht hs1o
      go_wp2_with fail
      refine HRW.mono ?_
      clear HRW
      rintro e w2 ⟨rfl, hb2⟩
      have HFR := hid (fresh_row w2 A)
      have HB2 := hid hb2
      clear hb2
      go_wp2_with (first
        | (refine wpList_store_row rfl 23 (.tmp 5) (.tmp 17) rfl w2.heap.size A rfl rfl 23 zero32 (heap_alloc_new w2 _) HIS.out.info HIS.out.size HIS.out.one ?_
           generalize hw3 : World.setRow _ w2.heap.size A = w3
           have HG3 : Hid (w3.heap[w2.heap.size]? = some (.cells A 23 (0, 0))) := hid (by rw [← hw3]; exact HFR.out.1)
           have HB3 : Hid (Below wo.heap.size wo w3) := hid (HB2.out.trans ((show Below w2.heap.size w2 w3 by rw [← hw3]; exact HFR.out.2.1).mono HB2.out.size))
           clear hw3))
      obtain ⟨gs, hgs⟩ : ∃ gs, w2.heap.size = gs := ⟨_, rfl⟩
      rw [hgs] at HG3 ⊢
      clear hgs HFR HB2
      have HI3 := hid (HI.out.new HB3.out)
      have hc13 : w3.cell? ⟨b1, o1 + k, none⟩ = some (.slice a1 t.length c1) := (HB3.out.cell (p := ⟨b1, o1 + k, none⟩) (World.block_lt_of_cell? _ _ hc1o)).trans hc1o
      have HS3 : Hid (Shows B w3 (.slice a1 t.length c1) t) := hid (HSO.out.below (HB3.out.mono (Nat.le_trans HBB.out HI.out.below.size)))
      clear hc1o HSO HI HB3
      go_loopw [6] (fun j wq => ∃ m : Nat, m ≤ k ∧ j = .int .i64 (m : Int) ∧ Hid (∀ q, q < m → ∀ r, X[q]? = some r → sha r = sha t → r = t) ∧ Hid (∀ D, Below D w3 wq)) (fun j _ => k - (intOf j).toNat)
      case atStart => exact ⟨0, Nat.zero_le _, rfl, hid (fun q h => by omega), fun D => Below.refl _ _⟩
      case round =>
        obtain ⟨m, hm, rfl, HNO, HD⟩ := hrel
        by_cases hmk : m < k
        · have hmi : (m : Int) < (k : Int) := by omega
          have hm0 : (0 : Int) ≤ (m : Int) := by omega
          have hmx : m < X.length := by omega
          obtain ⟨r, hr⟩ : ∃ r, X[m]? = some r := ⟨_, List.getElem?_eq_getElem hmx⟩
          have HBX : Hid (Below B w wr) := hid ((HI3.out.below.trans (HD.out _)).mono HBB.out)
          obtain ⟨b2, o2, a2, c2, eb, hc2', hs2⟩ := (HL.out.below HBX.out).at m hmx
          simp only [Option.some.injEq, Addr.mk.injEq, and_true] at eb
          obtain ⟨rfl, rfl⟩ := eb
          rw [hr, Option.getD_some] at hc2' hs2
          have HRM := hid hr
          have hc2 : wr.drew.cell? ⟨b1, o1 + m, none⟩ = some (.slice a2 r.length c2) := hc2'
          have hc1 : wr.drew.cell? ⟨b1, o1 + k, none⟩ = some (.slice a1 t.length c1) := ((HD.out _).cell (p := ⟨b1, o1 + k, none⟩) (World.block_lt_of_cell? _ _ hc13)).trans hc13
          have HK2 := hid (strsC (hs2.below (below_drewN B wr 1)))
          have HK1 := hid (strsC ((HS3.out.below (HD.out B)).below (below_drewN B wr 1)))
          obtain ⟨ga, cap, ea, _⟩ := HI3.out.row.form (by omega)
          simp only [Value.slice.injEq] at ea
          obtain ⟨rfl, _, rfl⟩ := ea
          obtain ⟨D, hD⟩ : ∃ D, sumV (sha r) = D := ⟨_, rfl⟩
          have HLD : Hid ((loadVar 23 ⟨ga, m * 32, none⟩).run Tryd.prog wr.drew = .ok (.agg D) wr.drew) := hid (by
            rw [← hD]
            refine run_load_z wr.drew ga (m * 32) 23 ((sha r).map by8) _ (fun j u hu => ?_) Tryd.underlying23 rfl (by rw [List.length_map, sha_length]; exact Tryd.infoSum)
            have hj := (List.getElem?_eq_some_iff.1 hu).1
            rw [List.length_map, sha_length] at hj
            have hcell := HI3.out.row.cellAt (m * 32 + j) (by omega)
            rw [sumsC_at (X.take k) m r (by rw [List.getElem?_take, if_pos hmk]; exact hr) j u hu] at hcell
            exact ((HD.out _).cell (p := ⟨ga, m * 32 + j, none⟩) (World.block_lt_of_cell? _ _ hcell)).trans hcell)
          have HLA : Hid ((loadVar 23 ⟨gs, 0, none⟩).run Tryd.prog wr.drew = .ok (.agg A) wr.drew) := hid (run_loadVar_row (P := Tryd.prog) wr.drew gs 23 23 A (0, 0) _ (((HD.out (w3.heap.size)).block _ (block_lt HG3.out)).trans HG3.out) Tryd.underlying23 rfl HIS.out.info)
          have hEQ := fun W => eq_sum (sha r) (sha t) (sha_length _) (sha_length _) W
          replace hEQ : ∀ W, (Op.equalIn 10000 23 (.agg D) (.agg A)).run Tryd.prog W = .ok (decide (sha r = sha t)) W := by rw [← hD, ← HA.out]; exact hEQ
          clear hD hr hc2' hs2
          by_cases hsh : sha r = sha t
          · have hq : ∀ W, (Op.equalIn 10000 23 (.agg D) (.agg A)).run Tryd.prog W = .ok true W := fun W => by have := hEQ W; rw [decide_eq_true hsh] at this; exact this
            have HSH := hid hsh
            clear hEQ hsh
            by_cases hrt : r = t
            · have hse : ((str8 r).toList == (str8 t).toList) = true := by rw [hrt]; simp
              have HRT := hid hrt
              clear hrt
              go_wp2_with fail
              have hS0 : (fun W' : World => W' = wr.drew) wr.drew := rfl
              refine last_region (fun W' : World => W' = wr.drew) 18 (by kernel_rfl) ?_
              refine wpAnyE_take (i := 0) (v := ?_) rfl (by kernel_rfl) (by kernel_rfl) (by kernel_rfl) (by kernel_rfl) (by kernel_rfl) (fun _ _ _ h => h) (Or.inl ⟨by rfl, ?_⟩) (by assumption) ?_; rotate_left; (focus (intro w hSw; (try dsimp only at hSw); (try obtain ⟨hSw1, hSw2, hSw3⟩ := hSw); go_simp <;> with_reducible rfl)); (try simp only [Act.put, List.getElem_toArray, List.getElem_cons_zero, List.getElem_cons_succ, List.setIfInBounds_toArray, List.set_cons_zero, List.set_cons_succ])
              refine wpAnyE_take (i := 1) (v := ?_) rfl (by kernel_rfl) (by kernel_rfl) (by kernel_rfl) (by kernel_rfl) (by kernel_rfl) (fun _ _ _ h => h) (Or.inl ⟨by rfl, ?_⟩) (by assumption) ?_; rotate_left; (focus (intro w hSw; (try dsimp only at hSw); (try obtain ⟨hSw1, hSw2, hSw3⟩ := hSw); go_simp <;> with_reducible rfl)); (try simp only [Act.put, List.getElem_toArray, List.getElem_cons_zero, List.getElem_cons_succ, List.setIfInBounds_toArray, List.set_cons_zero, List.set_cons_succ])
              refine wpAnyE_take (i := 2) (v := .pointer (some ⟨ga, m * 32, none⟩)) rfl (by kernel_rfl) (by kernel_rfl) (by kernel_rfl) (by kernel_rfl) (by kernel_rfl) (fun _ _ _ h => h) (Or.inl ⟨by rfl, fun W _ => by go_simp <;> first | with_reducible rfl | (intro h; exact absurd h (by omega)) | (rw [if_pos (by omega)]; rfl) | rw [if_pos (by omega)]⟩) hS0 ?_
              simp only [Act.put, List.getElem_toArray, List.getElem_cons_zero, List.getElem_cons_succ, List.setIfInBounds_toArray, List.set_cons_zero, List.set_cons_succ]
              refine wpAnyE_take (i := 3) (v := .agg D) rfl (by kernel_rfl) (by kernel_rfl) (by kernel_rfl) (by kernel_rfl) (by kernel_rfl) (fun _ _ _ h => h) (yields_val 23 (.tmp 25) rfl ⟨ga, m * 32, none⟩ (by kernel_rfl) _ (by rfl) (fun W hW => by rw [hW]; exact HLD.out)) hS0 ?_
              simp only [Act.put, List.getElem_toArray, List.getElem_cons_zero, List.getElem_cons_succ, List.setIfInBounds_toArray, List.set_cons_zero, List.set_cons_succ]
              refine wpAnyE_take (i := 4) (v := .agg A) rfl (by kernel_rfl) (by kernel_rfl) (by kernel_rfl) (by kernel_rfl) (by kernel_rfl) (fun _ _ _ h => h) (yields_val 23 (.tmp 5) rfl ⟨gs, 0, none⟩ (by kernel_rfl) _ (by rfl) (fun W hW => by rw [hW]; exact HLA.out)) hS0 ?_
              simp only [Act.put, List.getElem_toArray, List.getElem_cons_zero, List.getElem_cons_succ, List.setIfInBounds_toArray, List.set_cons_zero, List.set_cons_succ]
              refine wpAnyE_take (i := 5) (v := .bool true) rfl (by kernel_rfl) (by kernel_rfl) (by kernel_rfl) (by kernel_rfl) (by kernel_rfl) (fun _ _ _ h => h) (yields_eql (.tmp 26) (.tmp 27) rfl D A true (by kernel_rfl) (by kernel_rfl) (by rfl) hq) hS0 ?_
              simp only [Act.put, List.getElem_toArray, List.getElem_cons_zero, List.getElem_cons_succ, List.setIfInBounds_toArray, List.set_cons_zero, List.set_cons_succ]
              refine wpAnyE_take (i := 6) (v := ?_) rfl (by kernel_rfl) (by kernel_rfl) (by kernel_rfl) (by kernel_rfl) (by kernel_rfl) (fun _ _ _ h => h) (Or.inl ⟨by rfl, ?_⟩) (by assumption) ?_; rotate_left; (focus (intro w hSw; (try dsimp only at hSw); (try obtain ⟨hSw1, hSw2, hSw3⟩ := hSw); go_simp <;> with_reducible rfl)); (try simp only [Act.put, List.getElem_toArray, List.getElem_cons_zero, List.getElem_cons_succ, List.setIfInBounds_toArray, List.set_cons_zero, List.set_cons_succ])
              refine wpAnyE_take (i := 7) (v := ?_) rfl (by kernel_rfl) (by kernel_rfl) (by kernel_rfl) (by kernel_rfl) (by kernel_rfl) (fun _ _ _ h => h) (Or.inl ⟨by rfl, ?_⟩) (by assumption) ?_; rotate_left; (focus (intro w hSw; (try dsimp only at hSw); (try obtain ⟨hSw1, hSw2, hSw3⟩ := hSw); go_simp <;> with_reducible rfl)); (try simp only [Act.put, List.getElem_toArray, List.getElem_cons_zero, List.getElem_cons_succ, List.setIfInBounds_toArray, List.set_cons_zero, List.set_cons_succ])
              refine wpAnyE_take (i := 8) (v := ?_) rfl (by kernel_rfl) (by kernel_rfl) (by kernel_rfl) (by kernel_rfl) (by kernel_rfl) (fun _ _ _ h => h) (Or.inl ⟨by rfl, ?_⟩) (by assumption) ?_; rotate_left; (focus (intro w hSw; (try dsimp only at hSw); (try obtain ⟨hSw1, hSw2, hSw3⟩ := hSw); go_simp <;> with_reducible rfl)); (try simp only [Act.put, List.getElem_toArray, List.getElem_cons_zero, List.getElem_cons_succ, List.setIfInBounds_toArray, List.set_cons_zero, List.set_cons_succ])
              refine wpAnyE_take (i := 9) (v := .pointer (some ⟨b1, o1 + m, none⟩)) rfl (by kernel_rfl) (by kernel_rfl) (by kernel_rfl) (by kernel_rfl) (by kernel_rfl) (fun _ _ _ h => h) (Or.inl ⟨by rfl, fun W _ => by go_simp <;> first | with_reducible rfl | (intro h; exact absurd h (by omega)) | (rw [if_pos (by omega)]; rfl) | rw [if_pos (by omega)]⟩) hS0 ?_
              simp only [Act.put, List.getElem_toArray, List.getElem_cons_zero, List.getElem_cons_succ, List.setIfInBounds_toArray, List.set_cons_zero, List.set_cons_succ]
              refine wpAnyE_take (i := 10) (v := .slice a2 r.length c2) rfl (by kernel_rfl) (by kernel_rfl) (by kernel_rfl) (by kernel_rfl) (by kernel_rfl) (fun _ _ _ h => h) (yields_val 24 (.tmp 32) rfl ⟨b1, o1 + m, none⟩ (by kernel_rfl) _ (by rfl) (fun W hW => by rw [hW]; exact run_load_slice _ 24 _ Tryd.underlying24 ⟨b1, o1 + m, none⟩ _ hc2)) hS0 ?_
              simp only [Act.put, List.getElem_toArray, List.getElem_cons_zero, List.getElem_cons_succ, List.setIfInBounds_toArray, List.set_cons_zero, List.set_cons_succ]
              refine wpAnyE_take (i := 11) (v := .string (str8 r)) rfl (by kernel_rfl) (by kernel_rfl) (by kernel_rfl) (by kernel_rfl) (by kernel_rfl) (fun _ _ _ h => h) (yields_conv 24 9 (.tmp 33) rfl (.slice a2 r.length c2) _ (by kernel_rfl) (by rfl) (fun W hW => by rw [hW]; exact HK2.out)) hS0 ?_
              simp only [Act.put, List.getElem_toArray, List.getElem_cons_zero, List.getElem_cons_succ, List.setIfInBounds_toArray, List.set_cons_zero, List.set_cons_succ]
              refine wpAnyE_take (i := 12) (v := ?_) rfl (by kernel_rfl) (by kernel_rfl) (by kernel_rfl) (by kernel_rfl) (by kernel_rfl) (fun _ _ _ h => h) (Or.inl ⟨by rfl, ?_⟩) (by assumption) ?_; rotate_left; (focus (intro w hSw; (try dsimp only at hSw); (try obtain ⟨hSw1, hSw2, hSw3⟩ := hSw); go_simp <;> with_reducible rfl)); (try simp only [Act.put, List.getElem_toArray, List.getElem_cons_zero, List.getElem_cons_succ, List.setIfInBounds_toArray, List.set_cons_zero, List.set_cons_succ])
              refine wpAnyE_take (i := 13) (v := ?_) rfl (by kernel_rfl) (by kernel_rfl) (by kernel_rfl) (by kernel_rfl) (by kernel_rfl) (fun _ _ _ h => h) (Or.inl ⟨by rfl, ?_⟩) (by assumption) ?_; rotate_left; (focus (intro w hSw; (try dsimp only at hSw); (try obtain ⟨hSw1, hSw2, hSw3⟩ := hSw); go_simp <;> with_reducible rfl)); (try simp only [Act.put, List.getElem_toArray, List.getElem_cons_zero, List.getElem_cons_succ, List.setIfInBounds_toArray, List.set_cons_zero, List.set_cons_succ])
              refine wpAnyE_take (i := 14) (v := .pointer (some ⟨b1, o1 + k, none⟩)) rfl (by kernel_rfl) (by kernel_rfl) (by kernel_rfl) (by kernel_rfl) (by kernel_rfl) (fun _ _ _ h => h) (Or.inl ⟨by rfl, fun W _ => by go_simp <;> first | with_reducible rfl | (intro h; exact absurd h (by omega)) | (rw [if_pos (by omega)]; rfl) | rw [if_pos (by omega)]⟩) hS0 ?_
              simp only [Act.put, List.getElem_toArray, List.getElem_cons_zero, List.getElem_cons_succ, List.setIfInBounds_toArray, List.set_cons_zero, List.set_cons_succ]
              refine wpAnyE_take (i := 15) (v := .slice a1 t.length c1) rfl (by kernel_rfl) (by kernel_rfl) (by kernel_rfl) (by kernel_rfl) (by kernel_rfl) (fun _ _ _ h => h) (yields_val 24 (.tmp 37) rfl ⟨b1, o1 + k, none⟩ (by kernel_rfl) _ (by rfl) (fun W hW => by rw [hW]; exact run_load_slice _ 24 _ Tryd.underlying24 ⟨b1, o1 + k, none⟩ _ hc1)) hS0 ?_
              simp only [Act.put, List.getElem_toArray, List.getElem_cons_zero, List.getElem_cons_succ, List.setIfInBounds_toArray, List.set_cons_zero, List.set_cons_succ]
              refine wpAnyE_take (i := 16) (v := .string (str8 t)) rfl (by kernel_rfl) (by kernel_rfl) (by kernel_rfl) (by kernel_rfl) (by kernel_rfl) (fun _ _ _ h => h) (yields_conv 24 9 (.tmp 38) rfl (.slice a1 t.length c1) _ (by kernel_rfl) (by rfl) (fun W hW => by rw [hW]; exact HK1.out)) hS0 ?_
              simp only [Act.put, List.getElem_toArray, List.getElem_cons_zero, List.getElem_cons_succ, List.setIfInBounds_toArray, List.set_cons_zero, List.set_cons_succ]
              refine wpAnyE_take (i := 17) (v := .bool false) rfl (by kernel_rfl) (by kernel_rfl) (by kernel_rfl) (by kernel_rfl) (by kernel_rfl) (fun _ _ _ h => h) (Or.inl ⟨by rfl, fun W _ => by go_simp <;> simp [hse]⟩) hS0 ?_
              simp only [Act.put, List.getElem_toArray, List.getElem_cons_zero, List.getElem_cons_succ, List.setIfInBounds_toArray, List.set_cons_zero, List.set_cons_succ]
              refine takeE_value (i := 18) (v := .bool false) (by kernel_rfl) rfl rfl (by rfl) hS0 ?_
              simp only [Act.put, List.getElem_toArray, List.getElem_cons_zero, List.getElem_cons_succ, List.setIfInBounds_toArray, List.set_cons_zero, List.set_cons_succ]
              refine wpAnyE_done (by kernel_rfl) ?_ _
              simp only [only_normal]
              clear hS0 hq
              go_wp2_with fail
              go_roundw
              case rel => exact ⟨m + 1, hmk, by go_num, hid (fun q h1 x hx hs => by
                  rcases Nat.lt_or_ge q m with h2 | h2
                  · exact HNO.out q h2 x hx hs
                  · obtain rfl : q = m := by omega
                    rw [HRM.out] at hx
                    cases hx
                    exact HRT.out), fun D => (HD.out D).trans (below_drewN D _ 1)⟩
              case measure => simp [intOf]; omega
            · have hse : ((str8 r).toList == (str8 t).toList) = false := by rw [str_beqC]; exact decide_eq_false hrt
              have HE := hid (HI3.out.below.trans (HD.out _))
              clear hrt
              go_wp2_with fail
              have hS0 : (fun W' : World => W' = wr.drew) wr.drew := rfl
              refine last_region (fun W' : World => W' = wr.drew) 18 (by kernel_rfl) ?_
              refine wpAnyE_take (i := 0) (v := ?_) rfl (by kernel_rfl) (by kernel_rfl) (by kernel_rfl) (by kernel_rfl) (by kernel_rfl) (fun _ _ _ h => h) (Or.inl ⟨by rfl, ?_⟩) (by assumption) ?_; rotate_left; (focus (intro w hSw; (try dsimp only at hSw); (try obtain ⟨hSw1, hSw2, hSw3⟩ := hSw); go_simp <;> with_reducible rfl)); (try simp only [Act.put, List.getElem_toArray, List.getElem_cons_zero, List.getElem_cons_succ, List.setIfInBounds_toArray, List.set_cons_zero, List.set_cons_succ])
              refine wpAnyE_take (i := 1) (v := ?_) rfl (by kernel_rfl) (by kernel_rfl) (by kernel_rfl) (by kernel_rfl) (by kernel_rfl) (fun _ _ _ h => h) (Or.inl ⟨by rfl, ?_⟩) (by assumption) ?_; rotate_left; (focus (intro w hSw; (try dsimp only at hSw); (try obtain ⟨hSw1, hSw2, hSw3⟩ := hSw); go_simp <;> with_reducible rfl)); (try simp only [Act.put, List.getElem_toArray, List.getElem_cons_zero, List.getElem_cons_succ, List.setIfInBounds_toArray, List.set_cons_zero, List.set_cons_succ])
              refine wpAnyE_take (i := 2) (v := .pointer (some ⟨ga, m * 32, none⟩)) rfl (by kernel_rfl) (by kernel_rfl) (by kernel_rfl) (by kernel_rfl) (by kernel_rfl) (fun _ _ _ h => h) (Or.inl ⟨by rfl, fun W _ => by go_simp <;> first | with_reducible rfl | (intro h; exact absurd h (by omega)) | (rw [if_pos (by omega)]; rfl) | rw [if_pos (by omega)]⟩) hS0 ?_
              simp only [Act.put, List.getElem_toArray, List.getElem_cons_zero, List.getElem_cons_succ, List.setIfInBounds_toArray, List.set_cons_zero, List.set_cons_succ]
              refine wpAnyE_take (i := 3) (v := .agg D) rfl (by kernel_rfl) (by kernel_rfl) (by kernel_rfl) (by kernel_rfl) (by kernel_rfl) (fun _ _ _ h => h) (yields_val 23 (.tmp 25) rfl ⟨ga, m * 32, none⟩ (by kernel_rfl) _ (by rfl) (fun W hW => by rw [hW]; exact HLD.out)) hS0 ?_
              simp only [Act.put, List.getElem_toArray, List.getElem_cons_zero, List.getElem_cons_succ, List.setIfInBounds_toArray, List.set_cons_zero, List.set_cons_succ]
              refine wpAnyE_take (i := 4) (v := .agg A) rfl (by kernel_rfl) (by kernel_rfl) (by kernel_rfl) (by kernel_rfl) (by kernel_rfl) (fun _ _ _ h => h) (yields_val 23 (.tmp 5) rfl ⟨gs, 0, none⟩ (by kernel_rfl) _ (by rfl) (fun W hW => by rw [hW]; exact HLA.out)) hS0 ?_
              simp only [Act.put, List.getElem_toArray, List.getElem_cons_zero, List.getElem_cons_succ, List.setIfInBounds_toArray, List.set_cons_zero, List.set_cons_succ]
              refine wpAnyE_take (i := 5) (v := .bool true) rfl (by kernel_rfl) (by kernel_rfl) (by kernel_rfl) (by kernel_rfl) (by kernel_rfl) (fun _ _ _ h => h) (yields_eql (.tmp 26) (.tmp 27) rfl D A true (by kernel_rfl) (by kernel_rfl) (by rfl) hq) hS0 ?_
              simp only [Act.put, List.getElem_toArray, List.getElem_cons_zero, List.getElem_cons_succ, List.setIfInBounds_toArray, List.set_cons_zero, List.set_cons_succ]
              refine wpAnyE_take (i := 6) (v := ?_) rfl (by kernel_rfl) (by kernel_rfl) (by kernel_rfl) (by kernel_rfl) (by kernel_rfl) (fun _ _ _ h => h) (Or.inl ⟨by rfl, ?_⟩) (by assumption) ?_; rotate_left; (focus (intro w hSw; (try dsimp only at hSw); (try obtain ⟨hSw1, hSw2, hSw3⟩ := hSw); go_simp <;> with_reducible rfl)); (try simp only [Act.put, List.getElem_toArray, List.getElem_cons_zero, List.getElem_cons_succ, List.setIfInBounds_toArray, List.set_cons_zero, List.set_cons_succ])
              refine wpAnyE_take (i := 7) (v := ?_) rfl (by kernel_rfl) (by kernel_rfl) (by kernel_rfl) (by kernel_rfl) (by kernel_rfl) (fun _ _ _ h => h) (Or.inl ⟨by rfl, ?_⟩) (by assumption) ?_; rotate_left; (focus (intro w hSw; (try dsimp only at hSw); (try obtain ⟨hSw1, hSw2, hSw3⟩ := hSw); go_simp <;> with_reducible rfl)); (try simp only [Act.put, List.getElem_toArray, List.getElem_cons_zero, List.getElem_cons_succ, List.setIfInBounds_toArray, List.set_cons_zero, List.set_cons_succ])
              refine wpAnyE_take (i := 8) (v := ?_) rfl (by kernel_rfl) (by kernel_rfl) (by kernel_rfl) (by kernel_rfl) (by kernel_rfl) (fun _ _ _ h => h) (Or.inl ⟨by rfl, ?_⟩) (by assumption) ?_; rotate_left; (focus (intro w hSw; (try dsimp only at hSw); (try obtain ⟨hSw1, hSw2, hSw3⟩ := hSw); go_simp <;> with_reducible rfl)); (try simp only [Act.put, List.getElem_toArray, List.getElem_cons_zero, List.getElem_cons_succ, List.setIfInBounds_toArray, List.set_cons_zero, List.set_cons_succ])
              refine wpAnyE_take (i := 9) (v := .pointer (some ⟨b1, o1 + m, none⟩)) rfl (by kernel_rfl) (by kernel_rfl) (by kernel_rfl) (by kernel_rfl) (by kernel_rfl) (fun _ _ _ h => h) (Or.inl ⟨by rfl, fun W _ => by go_simp <;> first | with_reducible rfl | (intro h; exact absurd h (by omega)) | (rw [if_pos (by omega)]; rfl) | rw [if_pos (by omega)]⟩) hS0 ?_
              simp only [Act.put, List.getElem_toArray, List.getElem_cons_zero, List.getElem_cons_succ, List.setIfInBounds_toArray, List.set_cons_zero, List.set_cons_succ]
              refine wpAnyE_take (i := 10) (v := .slice a2 r.length c2) rfl (by kernel_rfl) (by kernel_rfl) (by kernel_rfl) (by kernel_rfl) (by kernel_rfl) (fun _ _ _ h => h) (yields_val 24 (.tmp 32) rfl ⟨b1, o1 + m, none⟩ (by kernel_rfl) _ (by rfl) (fun W hW => by rw [hW]; exact run_load_slice _ 24 _ Tryd.underlying24 ⟨b1, o1 + m, none⟩ _ hc2)) hS0 ?_
              simp only [Act.put, List.getElem_toArray, List.getElem_cons_zero, List.getElem_cons_succ, List.setIfInBounds_toArray, List.set_cons_zero, List.set_cons_succ]
              refine wpAnyE_take (i := 11) (v := .string (str8 r)) rfl (by kernel_rfl) (by kernel_rfl) (by kernel_rfl) (by kernel_rfl) (by kernel_rfl) (fun _ _ _ h => h) (yields_conv 24 9 (.tmp 33) rfl (.slice a2 r.length c2) _ (by kernel_rfl) (by rfl) (fun W hW => by rw [hW]; exact HK2.out)) hS0 ?_
              simp only [Act.put, List.getElem_toArray, List.getElem_cons_zero, List.getElem_cons_succ, List.setIfInBounds_toArray, List.set_cons_zero, List.set_cons_succ]
              refine wpAnyE_take (i := 12) (v := ?_) rfl (by kernel_rfl) (by kernel_rfl) (by kernel_rfl) (by kernel_rfl) (by kernel_rfl) (fun _ _ _ h => h) (Or.inl ⟨by rfl, ?_⟩) (by assumption) ?_; rotate_left; (focus (intro w hSw; (try dsimp only at hSw); (try obtain ⟨hSw1, hSw2, hSw3⟩ := hSw); go_simp <;> with_reducible rfl)); (try simp only [Act.put, List.getElem_toArray, List.getElem_cons_zero, List.getElem_cons_succ, List.setIfInBounds_toArray, List.set_cons_zero, List.set_cons_succ])
              refine wpAnyE_take (i := 13) (v := ?_) rfl (by kernel_rfl) (by kernel_rfl) (by kernel_rfl) (by kernel_rfl) (by kernel_rfl) (fun _ _ _ h => h) (Or.inl ⟨by rfl, ?_⟩) (by assumption) ?_; rotate_left; (focus (intro w hSw; (try dsimp only at hSw); (try obtain ⟨hSw1, hSw2, hSw3⟩ := hSw); go_simp <;> with_reducible rfl)); (try simp only [Act.put, List.getElem_toArray, List.getElem_cons_zero, List.getElem_cons_succ, List.setIfInBounds_toArray, List.set_cons_zero, List.set_cons_succ])
              refine wpAnyE_take (i := 14) (v := .pointer (some ⟨b1, o1 + k, none⟩)) rfl (by kernel_rfl) (by kernel_rfl) (by kernel_rfl) (by kernel_rfl) (by kernel_rfl) (fun _ _ _ h => h) (Or.inl ⟨by rfl, fun W _ => by go_simp <;> first | with_reducible rfl | (intro h; exact absurd h (by omega)) | (rw [if_pos (by omega)]; rfl) | rw [if_pos (by omega)]⟩) hS0 ?_
              simp only [Act.put, List.getElem_toArray, List.getElem_cons_zero, List.getElem_cons_succ, List.setIfInBounds_toArray, List.set_cons_zero, List.set_cons_succ]
              refine wpAnyE_take (i := 15) (v := .slice a1 t.length c1) rfl (by kernel_rfl) (by kernel_rfl) (by kernel_rfl) (by kernel_rfl) (by kernel_rfl) (fun _ _ _ h => h) (yields_val 24 (.tmp 37) rfl ⟨b1, o1 + k, none⟩ (by kernel_rfl) _ (by rfl) (fun W hW => by rw [hW]; exact run_load_slice _ 24 _ Tryd.underlying24 ⟨b1, o1 + k, none⟩ _ hc1)) hS0 ?_
              simp only [Act.put, List.getElem_toArray, List.getElem_cons_zero, List.getElem_cons_succ, List.setIfInBounds_toArray, List.set_cons_zero, List.set_cons_succ]
              refine wpAnyE_take (i := 16) (v := .string (str8 t)) rfl (by kernel_rfl) (by kernel_rfl) (by kernel_rfl) (by kernel_rfl) (by kernel_rfl) (fun _ _ _ h => h) (yields_conv 24 9 (.tmp 38) rfl (.slice a1 t.length c1) _ (by kernel_rfl) (by rfl) (fun W hW => by rw [hW]; exact HK1.out)) hS0 ?_
              simp only [Act.put, List.getElem_toArray, List.getElem_cons_zero, List.getElem_cons_succ, List.setIfInBounds_toArray, List.set_cons_zero, List.set_cons_succ]
              refine wpAnyE_take (i := 17) (v := .bool true) rfl (by kernel_rfl) (by kernel_rfl) (by kernel_rfl) (by kernel_rfl) (by kernel_rfl) (fun _ _ _ h => h) (Or.inl ⟨by rfl, fun W _ => by go_simp <;> simp [hse]⟩) hS0 ?_
              simp only [Act.put, List.getElem_toArray, List.getElem_cons_zero, List.getElem_cons_succ, List.setIfInBounds_toArray, List.set_cons_zero, List.set_cons_succ]
              refine takeE_value (i := 18) (v := .bool true) (by kernel_rfl) rfl rfl (by rfl) hS0 ?_
              simp only [Act.put, List.getElem_toArray, List.getElem_cons_zero, List.getElem_cons_succ, List.setIfInBounds_toArray, List.set_cons_zero, List.set_cons_succ]
              refine wpAnyE_done (by kernel_rfl) ?_ _
              simp only [only_normal]
              clear hS0 hq
              go_wp2
              go_ret
              exact ⟨rfl, HE.out.trans (below_drewN _ _ 1)⟩
          · have hq : ∀ W, (Op.equalIn 10000 23 (.agg D) (.agg A)).run Tryd.prog W = .ok false W := fun W => by have := hEQ W; rw [decide_eq_false hsh] at this; exact this
            have HSH := hid hsh
            clear hEQ hsh
            go_wp2_with fail
            have hS0 : (fun W' : World => W' = wr.drew) wr.drew := rfl
            refine last_region (fun W' : World => W' = wr.drew) 18 (by kernel_rfl) ?_
            refine wpAnyE_take (i := 0) (v := ?_) rfl (by kernel_rfl) (by kernel_rfl) (by kernel_rfl) (by kernel_rfl) (by kernel_rfl) (fun _ _ _ h => h) (Or.inl ⟨by rfl, ?_⟩) (by assumption) ?_; rotate_left; (focus (intro w hSw; (try dsimp only at hSw); (try obtain ⟨hSw1, hSw2, hSw3⟩ := hSw); go_simp <;> with_reducible rfl)); (try simp only [Act.put, List.getElem_toArray, List.getElem_cons_zero, List.getElem_cons_succ, List.setIfInBounds_toArray, List.set_cons_zero, List.set_cons_succ])
            refine wpAnyE_take (i := 1) (v := ?_) rfl (by kernel_rfl) (by kernel_rfl) (by kernel_rfl) (by kernel_rfl) (by kernel_rfl) (fun _ _ _ h => h) (Or.inl ⟨by rfl, ?_⟩) (by assumption) ?_; rotate_left; (focus (intro w hSw; (try dsimp only at hSw); (try obtain ⟨hSw1, hSw2, hSw3⟩ := hSw); go_simp <;> with_reducible rfl)); (try simp only [Act.put, List.getElem_toArray, List.getElem_cons_zero, List.getElem_cons_succ, List.setIfInBounds_toArray, List.set_cons_zero, List.set_cons_succ])
            refine wpAnyE_take (i := 2) (v := .pointer (some ⟨ga, m * 32, none⟩)) rfl (by kernel_rfl) (by kernel_rfl) (by kernel_rfl) (by kernel_rfl) (by kernel_rfl) (fun _ _ _ h => h) (Or.inl ⟨by rfl, fun W _ => by go_simp <;> first | with_reducible rfl | (intro h; exact absurd h (by omega)) | (rw [if_pos (by omega)]; rfl) | rw [if_pos (by omega)]⟩) hS0 ?_
            simp only [Act.put, List.getElem_toArray, List.getElem_cons_zero, List.getElem_cons_succ, List.setIfInBounds_toArray, List.set_cons_zero, List.set_cons_succ]
            refine wpAnyE_take (i := 3) (v := .agg D) rfl (by kernel_rfl) (by kernel_rfl) (by kernel_rfl) (by kernel_rfl) (by kernel_rfl) (fun _ _ _ h => h) (yields_val 23 (.tmp 25) rfl ⟨ga, m * 32, none⟩ (by kernel_rfl) _ (by rfl) (fun W hW => by rw [hW]; exact HLD.out)) hS0 ?_
            simp only [Act.put, List.getElem_toArray, List.getElem_cons_zero, List.getElem_cons_succ, List.setIfInBounds_toArray, List.set_cons_zero, List.set_cons_succ]
            refine wpAnyE_take (i := 4) (v := .agg A) rfl (by kernel_rfl) (by kernel_rfl) (by kernel_rfl) (by kernel_rfl) (by kernel_rfl) (fun _ _ _ h => h) (yields_val 23 (.tmp 5) rfl ⟨gs, 0, none⟩ (by kernel_rfl) _ (by rfl) (fun W hW => by rw [hW]; exact HLA.out)) hS0 ?_
            simp only [Act.put, List.getElem_toArray, List.getElem_cons_zero, List.getElem_cons_succ, List.setIfInBounds_toArray, List.set_cons_zero, List.set_cons_succ]
            refine wpAnyE_take (i := 5) (v := .bool false) rfl (by kernel_rfl) (by kernel_rfl) (by kernel_rfl) (by kernel_rfl) (by kernel_rfl) (fun _ _ _ h => h) (yields_eql (.tmp 26) (.tmp 27) rfl D A false (by kernel_rfl) (by kernel_rfl) (by rfl) hq) hS0 ?_
            simp only [Act.put, List.getElem_toArray, List.getElem_cons_zero, List.getElem_cons_succ, List.setIfInBounds_toArray, List.set_cons_zero, List.set_cons_succ]
            refine wpAnyE_take (i := 6) (v := ?_) rfl (by kernel_rfl) (by kernel_rfl) (by kernel_rfl) (by kernel_rfl) (by kernel_rfl) (fun _ _ _ h => h) (Or.inl ⟨by rfl, ?_⟩) (by assumption) ?_; rotate_left; (focus (intro w hSw; (try dsimp only at hSw); (try obtain ⟨hSw1, hSw2, hSw3⟩ := hSw); go_simp <;> with_reducible rfl)); (try simp only [Act.put, List.getElem_toArray, List.getElem_cons_zero, List.getElem_cons_succ, List.setIfInBounds_toArray, List.set_cons_zero, List.set_cons_succ])
            refine wpAnyE_take (i := 7) (v := undef) rfl (by kernel_rfl) (by kernel_rfl) (by kernel_rfl) (by kernel_rfl) (by kernel_rfl) (fun _ _ _ h => h) (Or.inr ⟨by rfl, rfl⟩) (by assumption) ?_; (try simp only [Act.put, List.getElem_toArray, List.getElem_cons_zero, List.getElem_cons_succ, List.setIfInBounds_toArray, List.set_cons_zero, List.set_cons_succ])
            refine wpAnyE_take (i := 8) (v := undef) rfl (by kernel_rfl) (by kernel_rfl) (by kernel_rfl) (by kernel_rfl) (by kernel_rfl) (fun _ _ _ h => h) (Or.inr ⟨by rfl, rfl⟩) (by assumption) ?_; (try simp only [Act.put, List.getElem_toArray, List.getElem_cons_zero, List.getElem_cons_succ, List.setIfInBounds_toArray, List.set_cons_zero, List.set_cons_succ])
            refine wpAnyE_take (i := 9) (v := undef) rfl (by kernel_rfl) (by kernel_rfl) (by kernel_rfl) (by kernel_rfl) (by kernel_rfl) (fun _ _ _ h => h) (Or.inr ⟨by rfl, rfl⟩) (by assumption) ?_; (try simp only [Act.put, List.getElem_toArray, List.getElem_cons_zero, List.getElem_cons_succ, List.setIfInBounds_toArray, List.set_cons_zero, List.set_cons_succ])
            refine wpAnyE_take (i := 10) (v := undef) rfl (by kernel_rfl) (by kernel_rfl) (by kernel_rfl) (by kernel_rfl) (by kernel_rfl) (fun _ _ _ h => h) (Or.inr ⟨by rfl, rfl⟩) (by assumption) ?_; (try simp only [Act.put, List.getElem_toArray, List.getElem_cons_zero, List.getElem_cons_succ, List.setIfInBounds_toArray, List.set_cons_zero, List.set_cons_succ])
            refine wpAnyE_take (i := 11) (v := undef) rfl (by kernel_rfl) (by kernel_rfl) (by kernel_rfl) (by kernel_rfl) (by kernel_rfl) (fun _ _ _ h => h) (Or.inr ⟨by rfl, rfl⟩) (by assumption) ?_; (try simp only [Act.put, List.getElem_toArray, List.getElem_cons_zero, List.getElem_cons_succ, List.setIfInBounds_toArray, List.set_cons_zero, List.set_cons_succ])
            refine wpAnyE_take (i := 12) (v := undef) rfl (by kernel_rfl) (by kernel_rfl) (by kernel_rfl) (by kernel_rfl) (by kernel_rfl) (fun _ _ _ h => h) (Or.inr ⟨by rfl, rfl⟩) (by assumption) ?_; (try simp only [Act.put, List.getElem_toArray, List.getElem_cons_zero, List.getElem_cons_succ, List.setIfInBounds_toArray, List.set_cons_zero, List.set_cons_succ])
            refine wpAnyE_take (i := 13) (v := undef) rfl (by kernel_rfl) (by kernel_rfl) (by kernel_rfl) (by kernel_rfl) (by kernel_rfl) (fun _ _ _ h => h) (Or.inr ⟨by rfl, rfl⟩) (by assumption) ?_; (try simp only [Act.put, List.getElem_toArray, List.getElem_cons_zero, List.getElem_cons_succ, List.setIfInBounds_toArray, List.set_cons_zero, List.set_cons_succ])
            refine wpAnyE_take (i := 14) (v := undef) rfl (by kernel_rfl) (by kernel_rfl) (by kernel_rfl) (by kernel_rfl) (by kernel_rfl) (fun _ _ _ h => h) (Or.inr ⟨by rfl, rfl⟩) (by assumption) ?_; (try simp only [Act.put, List.getElem_toArray, List.getElem_cons_zero, List.getElem_cons_succ, List.setIfInBounds_toArray, List.set_cons_zero, List.set_cons_succ])
            refine wpAnyE_take (i := 15) (v := undef) rfl (by kernel_rfl) (by kernel_rfl) (by kernel_rfl) (by kernel_rfl) (by kernel_rfl) (fun _ _ _ h => h) (Or.inr ⟨by rfl, rfl⟩) (by assumption) ?_; (try simp only [Act.put, List.getElem_toArray, List.getElem_cons_zero, List.getElem_cons_succ, List.setIfInBounds_toArray, List.set_cons_zero, List.set_cons_succ])
            refine wpAnyE_take (i := 16) (v := undef) rfl (by kernel_rfl) (by kernel_rfl) (by kernel_rfl) (by kernel_rfl) (by kernel_rfl) (fun _ _ _ h => h) (Or.inr ⟨by rfl, rfl⟩) (by assumption) ?_; (try simp only [Act.put, List.getElem_toArray, List.getElem_cons_zero, List.getElem_cons_succ, List.setIfInBounds_toArray, List.set_cons_zero, List.set_cons_succ])
            refine wpAnyE_take (i := 17) (v := undef) rfl (by kernel_rfl) (by kernel_rfl) (by kernel_rfl) (by kernel_rfl) (by kernel_rfl) (fun _ _ _ h => h) (Or.inr ⟨by rfl, rfl⟩) (by assumption) ?_; (try simp only [Act.put, List.getElem_toArray, List.getElem_cons_zero, List.getElem_cons_succ, List.setIfInBounds_toArray, List.set_cons_zero, List.set_cons_succ])
            refine takeE_value (i := 18) (v := .bool false) (by kernel_rfl) rfl rfl (by rfl) hS0 ?_
            simp only [Act.put, List.getElem_toArray, List.getElem_cons_zero, List.getElem_cons_succ, List.setIfInBounds_toArray, List.set_cons_zero, List.set_cons_succ]
            refine wpAnyE_done (by kernel_rfl) ?_ _
            simp only [only_normal]
            clear hS0 hq
            go_wp2_with fail
            go_roundw
            case rel => exact ⟨m + 1, hmk, by go_num, hid (fun q h1 x hx hs => by
                rcases Nat.lt_or_ge q m with h2 | h2
                · exact HNO.out q h2 x hx hs
                · obtain rfl : q = m := by omega
                  rw [HRM.out] at hx
                  cases hx
                  exact absurd hs HSH.out), fun D => (HD.out D).trans (below_drewN D _ 1)⟩
            case measure => simp [intOf]; omega
        · have hmi : (k : Int) ≤ (m : Int) := by omega
          obtain rfl : m = k := by omega
          have hb3r : Below w3.heap.size w3 wr := HD.out _
          have HIR := hid (HI3.out.new hb3r)
          have HGR := hid ((hb3r.block _ (block_lt HG3.out)).trans HG3.out)
          have hbA := new_allocZ wr (.cells A 23)
          have hnA := World.alloc_heap_new wr (.cells A 23)
          have hrow7 := (HIR.out.new hbA).row
          have HAS : Hid (A.size = 32) := hid (by rw [← HA.out]; simp [sumV, sha_length])
          have HAL : Hid (A.toList = (sha t).map by8) := hid (by rw [← HA.out]; rfl)
          have hnews : ∀ (j : Nat) (u : Value), A.toList[j]? = some u → (wr.alloc (.cells A 23)).cell? ((⟨wr.heap.size, 0, none⟩ : Addr).add j) = some u := World.news_of_block hnA
          have hbig7 : w.heap.size ≤ (wr.alloc (.cells A 23)).heap.size := Nat.le_trans HIR.out.below.size hbA.size
          obtain ⟨i0, hi, hz0, hzz1, hzz2⟩ := info_parts Tryd.infoSumZ
          have HBA := hid hbA
          have HBE := hid HIR.out.below
          have HNC := hid (noClash_snoc HI3.out.no HTT.out HNO.out)
          have hone : ∀ u ∈ A.toList, u.oneCell' = true := fun u hu => by rw [HAL.out] at hu; obtain ⟨c, _, rfl⟩ := List.mem_map.1 hu; rfl
          clear hnA hbA hb3r hmi
          go_wp2_with (first
            | (refine wpList_load_row rfl 23 (.tmp 5) rfl gs rfl 23 A (0, 0) _ HGR.out Tryd.underlying23 rfl HIS.out.info ?_)
            | (refine wpList_slice_agg rfl 109 23 #[(0, .tmp 43)] rfl A i0 _ (by kernel_rfl) Tryd.underlying109 hi hz0 (by rw [hzz1, HAS.out]) (by rw [HAS.out]; decide) (by rw [HAS.out]; decide) ?_)
            | (at_builtin; go_loud (
                refine wpList_append_lies _ rfl (.tmp 42) (.tmp 44) 109 rfl w.heap.size 23 i0 _ 32 32 Tryd.underlying109 hi hz0 hzz1 hzz2 rfl (by decide) (.slice sa m sc) m (sumsC (X.take m)) rfl hrow7 ⟨wr.heap.size, 0, none⟩ 1 1 A.toList rfl (by rw [Array.length_toList, HAS.out]) hnews hone (by decide) (by unfold maxLen; omega) (by omega) hbig7 _ rfl ?_
                intro g cap w8 hown8 hgrow8 hat8 hgl8
                have HNX : Hid (ClI w X (m + 1) w8 (.slice (some ⟨g, 0, none⟩) (m + 1) cap)) := hid ⟨by rw [sumsC_snoc HTT.out, ← HAL.out]; exact hown8, (HBE.out.trans (HBA.out.mono HBE.out.size)).trans ((Spares.of_grown (S := fun i => (Value.slice sa m sc).ownBlock = some i) hgrow8 (fun k e => e)).below (fun i hi => (hrow7.lt i hi).1) hbig7), HNC.out⟩
                clear hown8 hgrow8 hat8 hrow7 hnews)))
          go_roundw
          case rel => exact ⟨m + 1, _, _, hlt, by go_num, rfl, HNX⟩
          case measure => simp [intOf]; omega
    · exfalso
      have := HI.out.no
      rw [List.take_of_length_le (by omega)] at this
      exact HCL.out this
end Go.Proofs.YtmafaioohiaenaaDoor
