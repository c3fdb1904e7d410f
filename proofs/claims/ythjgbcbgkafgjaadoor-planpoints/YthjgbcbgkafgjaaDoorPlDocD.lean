/- Contract of the document's own test (stage 15). -/
import Derived.Test.YthjgbcbgkafgjaaDoorPlDocC
namespace Go.Proofs.YthjgbcbgkafgjaaDoor
open Go.RowKit Go.Shelf
set_option linter.unusedVariables false
set_option linter.unusedSimpArgs false
set_option maxRecDepth 20000

theorem made_empty (w : World) (B : Nat) (hB : B ≤ w.heap.size) : (w.alloc (.cells #[] 5)).ownsRow B 5 1 (.slice (some ⟨w.heap.size, 0, none⟩) 0 0) 0 [] :=
  World.ownsRow_made w #[] 0 hB (by unfold maxLen; omega) rfl

theorem row3 {W : World} {g : Nat} {a b c : Value} {t : TypeId} (h : W.heap[g]? = some (.cells #[a, b, c] t (0, 0))) :
    W.cell? ⟨g, 0, none⟩ = some a ∧ W.cell? ⟨g, 1, none⟩ = some b ∧ W.cell? ⟨g, 2, none⟩ = some c ∧ W.frozen? ⟨g, 0, none⟩ = false ∧ W.frozen? ⟨g, 1, none⟩ = false ∧ W.frozen? ⟨g, 2, none⟩ = false :=
  ⟨by rw [cell_row _ _ _ _ _ _ h]; rfl, by rw [cell_row _ _ _ _ _ _ h]; rfl, by rw [cell_row _ _ _ _ _ _ h]; rfl, by simp [World.frozen?, h], by simp [World.frozen?, h], by simp [World.frozen?, h]⟩

theorem set3 {W : World} {g : Nat} {a b c : Value} {t : TypeId} (h : W.heap[g]? = some (.cells #[a, b, c] t (0, 0))) (u v x : Value) : (((W.setCell ⟨g, 0, none⟩ u).setCell ⟨g, 1, none⟩ v).setCell ⟨g, 2, none⟩ x).heap[g]? = some (.cells #[u, v, x] t (0, 0)) := by
  have h1 : (W.setCell ⟨g, 0, none⟩ u).heap[g]? = some (.cells #[u, b, c] t (0, 0)) := by
    have := heap_setCell_same W g 0 _ _ u h
    simpa using this
  have h2 : ((W.setCell ⟨g, 0, none⟩ u).setCell ⟨g, 1, none⟩ v).heap[g]? = some (.cells #[u, v, c] t (0, 0)) := by
    have := heap_setCell_same _ g 1 _ _ v h1
    simpa using this
  have := heap_setCell_same _ g 2 _ _ x h2
  simpa using this

/-- What is said in bytes stands a store where no bytes are. -/
theorem bytes_set3 {W : World} {g : Nat} (hg : W.heap[g]? = some (.cells #[.slice none 0 0, .slice none 0 0, .bool false] 31 (0, 0))) (u x y : Value) : Bytes W (((W.setCell ⟨g, 0, none⟩ u).setCell ⟨g, 1, none⟩ x).setCell ⟨g, 2, none⟩ y) := by
  refine ⟨by simp [World.setCell], fun ad n hc => ?_⟩
  have hne : ad.block ≠ g := fun e => by
    obtain ⟨b, o, sp⟩ := ad
    have e' : b = g := e
    subst e'
    have hsp := World.cell?_spot hc
    have hsp' : sp = none := hsp
    subst hsp'
    rw [cell_row _ _ _ _ _ _ hg] at hc
    match o, hc with
    | 0, hc => simp at hc
    | 1, hc => simp at hc
    | 2, hc => simp at hc
    | o + 3, hc => simp at hc
  have hb : (((W.setCell ⟨g, 0, none⟩ u).setCell ⟨g, 1, none⟩ x).setCell ⟨g, 2, none⟩ y).heap[ad.block]? = W.heap[ad.block]? :=
    (Below.heap_setCell _ ⟨g, 2, none⟩ y _ hne).trans ((Below.heap_setCell _ ⟨g, 1, none⟩ x _ hne).trans (Below.heap_setCell _ ⟨g, 0, none⟩ u _ hne))
  exact (World.cell?_of_block hb).trans hc

theorem says_set3 {W : World} {g : Nat} {v : Value} {bs : List UInt8} (h : Says W v bs) (hg : W.heap[g]? = some (.cells #[.slice none 0 0, .slice none 0 0, .bool false] 31 (0, 0))) (u x y : Value) : Says (((W.setCell ⟨g, 0, none⟩ u).setCell ⟨g, 1, none⟩ x).setCell ⟨g, 2, none⟩ y) v bs := h.bytes (bytes_set3 hg u x y)

theorem below3 {n : Nat} {w W : World} (h : Below n w W) {g : Nat} (hg : n ≤ g) (u v x : Value) : Below n w (((W.setCell ⟨g, 0, none⟩ u).setCell ⟨g, 1, none⟩ v).setCell ⟨g, 2, none⟩ x) := ((h.setCell hg u).setCell hg v).setCell hg x

set_option maxHeartbeats 4000000 in
theorem ytest_any (op k n : Int) (s : List UInt8) (w : World) (h0 : -9223372036854775808 ≤ n) (h1 : n ≤ 9223372036854775807) (hs : s.length ≤ 9223372036854775807) (hr : rightV ⟨k, n, s⟩ = 0) (ho : op = 3 ∨ op = 5 ∨ op = 6 ∨ op = 7 ∨ op = 8) :
    Calls Tryd.prog 29 #[.int .i64 op, .agg #[.int .i64 k, .int .i64 n, .string (str8 s)]] w fun e w' => ∃ fv tv, e = .returned (.agg #[fv, tv, .bool (testP op ⟨k, n, s⟩).en]) ∧ Says w' fv (testP op ⟨k, n, s⟩).a ∧ Says w' tv (testP op ⟨k, n, s⟩).b ∧ Below w.heap.size w w' := by
  obtain ⟨z0, z1, hbW, hzW⟩ := alloc2 w (.cells #[.int .i64 k, .int .i64 n, .string (str8 s)] 23) (.cells #[.slice none 0 0, .slice none 0 0, .bool false] 31)
  obtain ⟨W, hW⟩ : ∃ W, (w.alloc (.cells #[.int .i64 k, .int .i64 n, .string (str8 s)] 23)).alloc (.cells #[.slice none 0 0, .slice none 0 0, .bool false] 31) = W := ⟨_, rfl⟩
  rw [hW] at z0 z1 hbW hzW
  have k0 : W.cell? ⟨w.heap.size, 0, none⟩ = some (.int .i64 k) := by rw [cell_row _ _ _ _ _ _ z0]; rfl
  have k1 : W.cell? ⟨w.heap.size, 1, none⟩ = some (.int .i64 n) := by rw [cell_row _ _ _ _ _ _ z0]; rfl
  have k2 : W.cell? ⟨w.heap.size, 2, none⟩ = some (.string (str8 s)) := by rw [cell_row _ _ _ _ _ _ z0]; rfl
  have HB := hid hbW
  by_cases hk : k = 0
  · subst hk
    have ht : testP op ⟨0, n, s⟩ = noneP := rfl
    rw [ht]
    have HN := ynone_any W
    have HZ := hid z1
    clear hbW z0 z1 ht
    go_enter Tryd.func29, Tryd.ntmps29
    go_wp2_with (go_at_call 39; refine HN.mono ?_; clear HN; rintro e w1 ⟨rfl, hb1⟩
                 have HZ1 := hid ((hb1.block _ (by omega)).trans HZ.out)
                 have HB1 := htr HB hb1
                 obtain ⟨m0, m1, m2, m3, m4, m5⟩ := row3 HZ1.out
                 clear hb1)
    exact bodyPost_ret (v := .agg #[.slice none 0 0, .slice none 0 0, .bool true]) (results_cell_row (p := 4) (ty := 31) rfl _ _ (w.heap.size + 1) 31 _ (0, 0) _ rfl (set3 HZ1.out _ _ _) Tryd.underlying31 rfl Tryd.infoSpan) rfl ⟨_, _, rfl, says_nil _, says_nil _, below3 HB1.out (by omega) _ _ _⟩
  · obtain ⟨i0, hi, hz0, hz1, hz2⟩ := info_parts Tryd.infoU8
    have HK := dkey_any k n s W h0 h1 hs
    have hkd : decide (k = 0) = false := decide_eq_false hk
    rcases keyOf_len ⟨k, n, s⟩ with ⟨h, _⟩ | ⟨_, hko, hk0, hk1⟩
    · exact absurd hr h
    rw [hko, hr] at HK
    have htest : testP op ⟨k, n, s⟩ = if op = 3 then ⟨keyV ⟨k, n, s⟩, keyV ⟨k, n, s⟩ ++ [0], true⟩ else if op = 5 then ⟨[], keyV ⟨k, n, s⟩, true⟩ else if op = 6 then ⟨[], keyV ⟨k, n, s⟩ ++ [0], true⟩ else if op = 7 then ⟨keyV ⟨k, n, s⟩ ++ [0], [], false⟩ else ⟨keyV ⟨k, n, s⟩, [], false⟩ := by
      unfold testP
      rw [if_neg hk]
    rw [htest]
    generalize keyV ⟨k, n, s⟩ = K at *
    have HZ := hid z1
    clear hbW z0 z1 htest hko hr
    go_enter Tryd.func29, Tryd.ntmps29
    go_wp2_with (first
      | (go_at_call 40; refine HK.mono ?_; clear HK; rintro e w2 ⟨kv, rfl, hkv, hb2⟩
         obtain ⟨ak, ck, rfl⟩ := own_form hkv
         have hz2' := hb2.size
         have hE := made_empty w2 w2.heap.size (Nat.le_refl _)
         have hbE := new_alloc w2 (.cells #[] 5)
         have hkE := (Copy.new (show Copy W.heap.size w2 (.slice ak K.length ck) K from hkv) hbE).says
         have hzE : (w2.alloc (.cells #[] 5)).heap.size = w2.heap.size + 1 := World.size_alloc _ _
         have HKV := hid (show Copy W.heap.size w2 (.slice ak K.length ck) K from hkv)
         have HB2 := hid hb2
         clear hkv hb2)
      | (at_builtin; refine wpList_append_shows _ rfl (.tmp 17) (.tmp 18) 29 rfl w2.heap.size 5 i0 Tryd.underlying29 hi hz0 hz1 hz2 _ 0 [] rfl hE _ _ K rfl hkE (by omega) (by omega) ?_
         intro v5 w5 hown5 hg5 _
         rw [Nat.zero_add, List.nil_append] at hown5
         obtain ⟨a5, c5, rfl⟩ := own_form hown5
         have hb5 : Below w2.heap.size w2 w5 := hbE.grown hg5 (by omega) (fun q hq => (hE.lt q hq).1)
         have hb6 : Below w5.heap.size w5 (w5.alloc (.cells #[.int .u8 0] 5)) := new_alloc _ _
         have ho6 := (Spares.of_new (S := fun _ => False) hb6).row hown5 (fun _ _ => id)
         have hone : ∀ (j : Nat) (u : Value), [Value.int .u8 0][j]? = some u → (w5.alloc (.cells #[.int .u8 0] 5)).cell? ((⟨w5.heap.size, 0, none⟩ : Addr).add j) = some u := one_cell w5 _ _
         have hz5 := hb5.size
         have hz6 : (w5.alloc (.cells #[.int .u8 0] 5)).heap.size = w5.heap.size + 1 := World.size_alloc _ _
         have HB5 := hid hb5
         clear hE hbE hkE hzE hg5 hown5 hb5)
      | (at_builtin; refine wpList_append_own _ rfl (.tmp 19) (.tmp 20) 29 rfl w2.heap.size 5 i0 (.int .u8 0) 1 1 Tryd.underlying29 hi hz0 hz1 hz2 rfl (by decide) _ K.length _ rfl ho6 ⟨w5.heap.size, 0, none⟩ 1 1 [.int .u8 0] rfl rfl hone (by intro u hu; rw [List.mem_singleton.1 hu]; rfl) (by unfold maxLen; omega) (by omega) (by omega) ?_
         intro v7 w7 hown7 hg7 _
         have hown8 : Copy w2.heap.size w7 v7 (K ++ [0]) := by
           show w7.ownsRow _ _ _ _ (K ++ [0]).length ((K ++ [0]).map by8)
           rw [List.length_append, List.map_append]
           exact hown7
         obtain ⟨a7, c7, rfl⟩ := own_form hown7
         have hb7 : Below w2.heap.size w2 w7 := (HB5.out.trans (hb6.mono hz5)).grown hg7 (by omega) (fun q hq => (ho6.lt q hq).1)
         have HV := hid ((Copy.new HKV.out hb7).says)
         have HBV := hid hown8.says
         have HZ7 := hid ((hb7.block _ (by omega)).trans ((HB2.out.block _ (by omega)).trans HZ.out))
         have HB7 := hid (HB.out.trans ((HB2.out.trans (hb7.mono HB2.out.size)).mono HB.out.size))
         obtain ⟨m0, m1, m2, m3, m4, m5⟩ := row3 HZ7.out
         clear hown7 hown8 hg7 hb7 hb6 ho6 hone hz6
         rcases ho with rfl | rfl | rfl | rfl | rfl
         rotate_left))
    · go_wp2
      exact bodyPost_ret (v := .agg #[.slice none 0 0, .slice ak K.length ck, .bool true]) (results_cell_row (p := 4) (ty := 31) rfl _ _ (w.heap.size + 1) 31 _ (0, 0) _ rfl (set3 HZ7.out _ _ _) Tryd.underlying31 rfl Tryd.infoSpan) rfl ⟨_, _, rfl, says_nil _, says_set3 HV.out HZ7.out _ _ _, below3 HB7.out (by omega) _ _ _⟩
    · go_wp2
      exact bodyPost_ret (v := .agg #[.slice none 0 0, .slice a7 (K.length + 1) c7, .bool true]) (results_cell_row (p := 4) (ty := 31) rfl _ _ (w.heap.size + 1) 31 _ (0, 0) _ rfl (set3 HZ7.out _ _ _) Tryd.underlying31 rfl Tryd.infoSpan) rfl ⟨_, _, rfl, says_nil _, says_set3 HBV.out HZ7.out _ _ _, below3 HB7.out (by omega) _ _ _⟩
    · go_wp2
      exact bodyPost_ret (v := .agg #[.slice a7 (K.length + 1) c7, .slice none 0 0, .bool false]) (results_cell_row (p := 4) (ty := 31) rfl _ _ (w.heap.size + 1) 31 _ (0, 0) _ rfl (set3 HZ7.out _ _ _) Tryd.underlying31 rfl Tryd.infoSpan) rfl ⟨_, _, rfl, says_set3 HBV.out HZ7.out _ _ _, says_nil _, below3 HB7.out (by omega) _ _ _⟩
    · go_wp2
      exact bodyPost_ret (v := .agg #[.slice ak K.length ck, .slice none 0 0, .bool false]) (results_cell_row (p := 4) (ty := 31) rfl _ _ (w.heap.size + 1) 31 _ (0, 0) _ rfl (set3 HZ7.out _ _ _) Tryd.underlying31 rfl Tryd.infoSpan) rfl ⟨_, _, rfl, says_set3 HV.out HZ7.out _ _ _, says_nil _, below3 HB7.out (by omega) _ _ _⟩
    · go_wp2
      exact bodyPost_ret (v := .agg #[.slice ak K.length ck, .slice a7 (K.length + 1) c7, .bool true]) (results_cell_row (p := 4) (ty := 31) rfl _ _ (w.heap.size + 1) 31 _ (0, 0) _ rfl (set3 HZ7.out _ _ _) Tryd.underlying31 rfl Tryd.infoSpan) rfl ⟨_, _, rfl, says_set3 HV.out HZ7.out _ _ _, says_set3 HBV.out HZ7.out _ _ _, below3 HB7.out (by omega) _ _ _⟩
end Go.Proofs.YthjgbcbgkafgjaaDoor
