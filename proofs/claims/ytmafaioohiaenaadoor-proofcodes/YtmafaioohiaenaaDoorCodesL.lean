/- The document's own Bytes of a proof. -/
import Derived.Test.YtmafaioohiaenaaDoorYCheck
import Derived.Test.YtmafaioohiaenaaDoorOwnL
import Derived.Test.YtmafaioohiaenaaDoorBytesF
import Derived.Test.YtmafaioohiaenaaDoorRefTQ
import Derived.Test.YtmafaioohiaenaaDoorParseF
import Derived.Test.YtmafaioohiaenaaDoorYMay
import Derived.Test.YtmafaioohiaenaaDoorTellsK
namespace Go.Proofs.YtmafaioohiaenaaDoor
open Go.RowKit Go.Shelf
set_option linter.unusedVariables false
set_option linter.unusedSimpArgs false
set_option maxRecDepth 20000

set_option maxHeartbeats 2000000 in
theorem all_fit (B : Nat) (v : Value) (rows : List (List UInt8)) (w : World) (hB : B ≤ w.heap.size) (hL : Lists B w v rows) :
    Calls Tryd.prog 59 #[v] w fun e w' => ∃ v', e = .returned v' ∧ w'.ownsRow w.heap.size 5 1 v' (rowOf rows).2.length ((rowOf rows).2.map by8) ∧ Below w.heap.size w w' := by
  have HR := refRow_any B v rows w hB hL
  obtain ⟨a, c, vs, rfl, _⟩ := hL
  generalize rowOf rows = R at *
  go_enter Tryd.func59, Tryd.ntmps59
  go_wp2_with fail
  refine HR.mono ?_
  clear HR
  rintro e w1 ⟨v', rfl, ho, hb⟩
  obtain ⟨ra, rc, rfl⟩ := row_form ho
  have HO := hid ho
  clear ho
  go_wp2
  go_ret
  exact ⟨_, rfl, HO.out, hb⟩

set_option maxHeartbeats 2000000 in
theorem ybytes_no (B : Nat) (p : Prf) (kv vv sv : Value) (w : World) (hB : B ≤ w.heap.size) (hp : PAt B w p kv vv sv) (hm : p.may = false) :
    Calls Tryd.prog 23 #[.agg #[.bool p.no, kv, vv, sv]] w fun e w' => e = .returned (.tuple #[.slice none 0 0, .int .i64 5]) ∧ Below w.heap.size w w' := by
  obtain ⟨ka, kc, rfl, hk1, hk2, _⟩ := id hp.hk
  obtain ⟨va, vc, rfl, hv1, hv2, _⟩ := id hp.hv
  obtain ⟨sa, sc, rfl, hs1, hs2⟩ := hp.hs.form
  have hbn : Below w.heap.size w (w.alloc (.cells #[.bool p.no, .slice ka p.k.length kc, .slice va p.v.length vc, .slice sa p.st.length sc] 29)) := (Below.refl _ _).alloc (Nat.le_refl _) _
  have HM := ymay_any B p _ _ _ _ (by have := hbn.size; omega) (hp.below (hbn.mono hB))
  rw [hm] at HM
  clear hp
  go_enter Tryd.func23, Tryd.ntmps23
  go_wp2_with (go_at_call 34; refine HM.mono ?_; clear HM; rintro e w1 ⟨rfl, hb1⟩)
  go_ret2
  exact ⟨rfl, hbn.trans (hb1.mono hbn.size)⟩

set_option maxHeartbeats 8000000 in
theorem ybytes_in (p : Prf) (kv vv sv : Value) (w : World) (hp : PAt w.heap.size w p kv vv sv) (hm : p.may = true) :
    Calls Tryd.prog 23 #[.agg #[.bool p.no, kv, vv, sv]] w fun e w' => ∃ v', e = .returned (.tuple #[v', .int .i64 0]) ∧ w'.ownsRow w.heap.size 5 1 v' (rowBytes p.blobs).length ((rowBytes p.blobs).map by8) ∧ Below w.heap.size w w' := by
  obtain ⟨ka, kc, rfl, hk1, hk2, _⟩ := id hp.hk
  obtain ⟨va, vc, rfl, hv1, hv2, _⟩ := id hp.hv
  obtain ⟨sa, sc, rfl, hs1, hs2⟩ := hp.hs.form
  unfold maxLen at hk2 hv2 hs2
  have hbn : Below w.heap.size w (w.alloc (.cells #[.bool p.no, .slice ka p.k.length kc, .slice va p.v.length vc, .slice sa p.st.length sc] 29)) := (Below.refl _ _).alloc (Nat.le_refl _) _
  have hnew := World.alloc_heap_new w (.cells #[.bool p.no, .slice ka p.k.length kc, .slice va p.v.length vc, .slice sa p.st.length sc] 29)
  have hsn : (w.alloc (.cells #[.bool p.no, .slice ka p.k.length kc, .slice va p.v.length vc, .slice sa p.st.length sc] 29)).heap.size = w.heap.size + 1 := World.size_alloc _ _
  have HM := ymay_any w.heap.size p _ _ _ _ hbn.size (hp.below hbn)
  rw [hm] at HM
  obtain ⟨hf1, hf2⟩ := blobs_fit p hm hp.hs.ok
  have HRO := hid (rowOf_fit _ hf1 hf2)
  have hml := may_length p hm
  have HP := hid hp
  have HOK := hid hp.hs.ok
  clear hp hf1 hf2
  go_enter Tryd.func23, Tryd.ntmps23
  go_wp2_with fail
  refine HM.mono ?_
  clear HM
  rintro e w1 ⟨rfl, hb1⟩
  have hB1 : Below w.heap.size w w1 := hbn.trans (hb1.mono hbn.size)
  have hbx := (hb1.block _ (by omega)).trans hnew
  obtain ⟨c0, c1, c2, c3⟩ := proof_cells hbx
  have hz1 := hb1.size
  clear hb1 hnew hbn
  cases hn : p.no with
  | true =>
    rw [hn] at c0
    have HBL : Hid (p.blobs = [be (u64of 1) 8]) := hid (by simp [Prf.blobs, hn])
    rw [HBL.out] at HRO
    have HB1 := hid hB1
    clear hbx hB1
    go_wp2_with (first
      | (go_at_call 38; refine (refNum_any 1 _ (by decide) (by decide)).mono ?_; rintro e w2 ⟨gn, rfl, hon, hb2⟩
         have hsay : Says w2 (.slice (some ⟨gn, 0, none⟩) 8 8) (be (u64of 1) 8) := (shows_of_owns hon).2
         have hB2 := HB1.out.trans (hb2.mono HB1.out.size)
         have hbA := new_allocZ w2 (.cells #[.slice (some ⟨gn, 0, none⟩) 8 8] 24)
         have HR := all_fit _ _ [be (u64of 1) 8] _ (Nat.le_refl _) (lists_one (w2.alloc (.cells #[.slice (some ⟨gn, 0, none⟩) 8 8] 24)) w2.heap.size _ _ _ (World.alloc_heap_new _ _) (by rw [World.size_alloc]; exact Nat.lt_succ_self _) (hsay.new hbA))
         rw [HRO.out] at HR
         have HB2 := hid (hB2.trans (hbA.mono hB2.size))
         clear hon hsay hb2 hB2 hbA)
      | (go_at_call 59; refine HR.mono ?_; clear HR; rintro e w3 ⟨v3, rfl, ho3, hb3⟩
         obtain ⟨ra, rc, rfl⟩ := row_form ho3
         have HO := hid ho3
         have HB3 := hid (HB2.out.trans (hb3.mono HB2.out.size))
         clear ho3 hb3))
    go_ret2
    exact ⟨_, rfl, by rw [HBL.out]; exact owns_lower HO.out (fun g hg => Nat.le_trans HB2.out.size (HO.out.lt g hg).1), HB3.out⟩
  | false =>
    rw [hn] at c0
    have HBL : Hid (p.blobs = be (u64of 0) 8 :: p.k :: p.v :: p.st.map stepB) := hid (by simp [Prf.blobs, hn])
    rw [HBL.out] at HRO
    have hS1 : w1.drew.cell? ⟨w.heap.size, 1, none⟩ = some (.slice ka p.k.length kc) ∧ w1.drew.cell? ⟨w.heap.size, 2, none⟩ = some (.slice va p.v.length vc) := ⟨c1, c2⟩
    have hwl : w.heap.size < w1.heap.size := block_lt hbx
    have HB1 := hid hB1
    have HBX1 := hid hbx
    clear hB1
    go_wp2_with fail
    go_region_held3 (fun w' => w'.cell? ⟨w.heap.size, 1, none⟩ = some (.slice ka p.k.length kc) ∧ w'.cell? ⟨w.heap.size, 2, none⟩ = some (.slice va p.v.length vc))
      (first | assumption | exact ⟨((by assumption : Below w1.heap.size w1 _).alloc (by assumption) _).cell (p := ⟨w.heap.size, 1, none⟩) hwl |>.trans c1, ((by assumption : Below w1.heap.size w1 _).alloc (by assumption) _).cell (p := ⟨w.heap.size, 2, none⟩) hwl |>.trans c2⟩)
      (first
        | (go_at_call 38; refine (refNum_any 0 _ (by decide) (by decide)).mono ?_; rintro e w2 ⟨gz, rfl, hon, hb2⟩
           have d2 : Below w1.heap.size w1 w2 := (below_drewN _ _ 1).trans hb2
           have hz2 : w1.heap.size ≤ w2.heap.size := d2.size
           have hS2 : w2.cell? ⟨w.heap.size, 1, none⟩ = some (.slice ka p.k.length kc) ∧ w2.cell? ⟨w.heap.size, 2, none⟩ = some (.slice va p.v.length vc) := ⟨(d2.cell (p := ⟨w.heap.size, 1, none⟩) hwl).trans c1, (d2.cell (p := ⟨w.heap.size, 2, none⟩) hwl).trans c2⟩
           have HON := hid hon
           clear hon hb2))
    have d3 : Below w1.heap.size w1 (w2.alloc (.cells #[.slice (some ⟨gz, 0, none⟩) 8 8, .slice ka p.k.length kc, .slice va p.v.length vc] 24)) := d2.alloc hz2 _
    have hn3 := World.alloc_heap_new w2 (.cells #[.slice (some ⟨gz, 0, none⟩) 8 8, .slice ka p.k.length kc, .slice va p.v.length vc] 24)
    have HI3 : Hid (ByI w p (.slice ka p.k.length kc) (.slice va p.v.length vc) 0 (w2.alloc (.cells #[.slice (some ⟨gz, 0, none⟩) 8 8, .slice ka p.k.length kc, .slice va p.v.length vc] 24)) (.slice (some ⟨w2.heap.size, 0, none⟩) 3 3) (.slice (some ⟨gz, 0, none⟩) 8 8) []) := hid (by
      have h1 := HB1.out.size
      refine ⟨⟨rfl, .inr ⟨w2.heap.size, 3, _, rfl, by omega, hn3, Nat.le_refl _, by decide, rfl, rfl⟩⟩, ?_, RowsOwn.nil _ _, HB1.out.trans (d3.mono h1), by have := d3.size; omega⟩
      have := ownsRow_below HON.out (new_allocZ w2 (.cells #[.slice (some ⟨gz, 0, none⟩) 8 8, .slice ka p.k.length kc, .slice va p.v.length vc] 24))
      exact owns_lower this (fun g hg => by have h2 : w1.heap.size ≤ g := (this.lt g hg).1; omega))
    have HBX3 : Hid ((w2.alloc (.cells #[.slice (some ⟨gz, 0, none⟩) 8 8, .slice ka p.k.length kc, .slice va p.v.length vc] 24)).heap[w.heap.size]? = some (.cells #[.bool p.no, .slice ka p.k.length kc, .slice va p.v.length vc, .slice sa p.st.length sc] 29 (0, 0))) := hid ((d3.block _ hwl).trans HBX1.out)
    generalize w2.alloc (.cells #[.slice (some ⟨gz, 0, none⟩) 8 8, .slice ka p.k.length kc, .slice va p.v.length vc] 24) = w3 at *
    clear c0 c1 c2 c3 hS1 hS2 d3 hn3 d2 HON HBX1 hbx
    go_wp2_with fail
    go_loopw [5, 6] (fun u i wr => ∃ (k : Nat) (ua : Option Addr) (uc : Nat) (ss : List Value), k ≤ p.st.length ∧ i = .int .i64 (k : Int) ∧ u = .slice ua (3 + k) uc ∧ Hid (ByI w p (.slice ka p.k.length kc) (.slice va p.v.length vc) k wr (.slice ua (3 + k) uc) (.slice (some ⟨gz, 0, none⟩) 8 8) ss) ∧ Hid (wr.heap[w.heap.size]? = some (.cells #[.bool p.no, .slice ka p.k.length kc, .slice va p.v.length vc, .slice sa p.st.length sc] 29 (0, 0)))) (fun _ i _ => p.st.length - (intOf i).toNat)
    case atStart => exact ⟨0, _, _, [], by omega, rfl, rfl, HI3, HBX3⟩
    case round =>
      obtain ⟨k, ua, uc, ss, hk, rfl, rfl, HI, HBX⟩ := hrel
      obtain ⟨c0, c1, c2, c3⟩ := proof_cells HBX.out
      clear HI3 HBX3 c0 c1 c2
      by_cases hlt : k < p.st.length
      · have hki : (k : Int) < (p.st.length : Int) := by omega
        have hk0 : (0 : Int) ≤ (k : Int) := by omega
        have hs := List.getElem?_eq_getElem hlt
        obtain ⟨s, hsx⟩ : ∃ s, p.st[k] = s := ⟨_, rfl⟩
        rw [hsx] at hs
        clear hsx
        obtain ⟨b, off, rfl, hbB, hok, hld⟩ := HP.out.hs.at k s hs
        have hl := hld wr HI.out.below
        have HST := hid (isStep hok)
        obtain ⟨x1, x2, x3⟩ := box_step wr s hok (.cells zeroStep 66) rfl
        have HX := hid (And.intro x1 x2)
        have HSS := hid hs
        have HOK2 := hid hok
        clear x1 x2 x3 hld hs
        cases hsd : s.2.1 with
        | true =>
          go_wp2_with (first
            | (refine wpList_load_z rfl 66 (.tmp 36) rfl ⟨b, off + k * 34, none⟩ rfl (zc s).toArray hl ?_)
            | (refine wpList_store_row rfl 66 (.tmp 7) (.tmp 37) rfl wr.heap.size (zc s).toArray rfl rfl 66 zeroStep (World.alloc_heap_new wr _) HST.out.info HST.out.size HST.out.one ?_
               generalize hw2 : World.setRow _ wr.heap.size (zc s).toArray = w4
               have H4 : Hid (w4.heap[wr.heap.size]? = some (.cells (zc s).toArray 66 (0, 0))) := hid (by rw [← hw2]; exact HX.out.1)
               have HB4 : Hid (Below wr.heap.size wr w4) := hid (by rw [← hw2]; exact HX.out.2)
               obtain ⟨hc0, hc1⟩ := boxed_cells H4.out
               rw [hsd] at hc1
               clear hw2 hl)
            | (go_at_call 38; refine (refNum_any s.1 w4 HOK2.out.lo HOK2.out.hi).mono ?_; rintro e w5 ⟨gn, rfl, hon5, hb5⟩
               have HB5 := hid hb5
               have H5 := hid ((hb5.block _ (block_lt H4.out)).trans H4.out)
               have hd1 := (boxed_cells H5.out).2
               rw [hsd] at hd1
               have hA5 := new_allocZ w5 (.cells #[.int .u8 1] 5)
               have hon6 := ownsRow_below hon5 hA5
               have HA5 := hid hA5
               have hnews5 : ∀ (j : Nat) (u : Value), [Value.int .u8 1][j]? = some u → (w5.alloc (.cells #[.int .u8 1] 5)).cell? ((⟨w5.heap.size, 0, none⟩ : Addr).add j) = some u := by have := World.news_of_block (World.alloc_heap_new w5 (.cells #[.int .u8 1] 5)); simpa using this
               have hz5 : w4.heap.size ≤ (w5.alloc (.cells #[.int .u8 1] 5)).heap.size := Nat.le_trans hb5.size hA5.size
               obtain ⟨j0, hj, hj0, hj1, hj2⟩ := info_parts Tryd.infoU8
               clear hb5 hon5 hA5 hc0 hc1)
            | (at_builtin; refine wpList_append_lies _ rfl (.tmp 43) (.tmp 44) 24 rfl w4.heap.size 5 j0 _ 1 1 Tryd.underlying24 hj hj0 hj1 hj2 rfl (by decide) (.slice (some ⟨gn, 0, none⟩) 8 8) 8 ((be (u64of s.1) 8).map by8) rfl hon6 ⟨w5.heap.size, 0, none⟩ 1 1 [.int .u8 1] rfl rfl hnews5 (by intro u hu; simp at hu; subst hu; rfl) (by decide) (by decide) (by decide) hz5 _ rfl ?_
               intro g7 cap7 w7 hown7 hgrow7 _ hgl7
               have s57 : Spares (fun i => i = gn) w5 w7 := (Spares.of_new HA5.out).andThen (Spares.of_grown (S := fun i => i = gn) hgrow7 (fun k e => by simp only [Value.ownBlock, Option.some.injEq] at e; exact e.symm)) (fun i hi => .inl hi)
               have hgn : w4.heap.size ≤ gn := (hon6.lt gn rfl).1
               have hlt4 := block_lt H4.out
               have H7 := hid ((s57.block _ (block_lt H5.out) (by omega)).trans H5.out)
               have HB7 : Hid (Below w4.heap.size w4 w7) := hid (HB5.out.trans (s57.below (fun i hi => by omega) HB5.out.size))
               have hoc := other_cells H7.out
               have hz7 : w4.heap.size ≤ w7.heap.size := HB7.out.size
               have hg7 : w4.heap.size ≤ g7 := (hown7.lt g7 rfl).1
               clear hon6 hnews5 hz5 hgrow7 s57 hd1)
            | (at_builtin; refine wpList_append_lies _ rfl (.tmp 50) (.tmp 52) 24 rfl w4.heap.size 5 j0 _ 1 1 Tryd.underlying24 hj hj0 hj1 hj2 rfl (by decide) (.slice (some ⟨g7, 0, none⟩) (8 + 1) cap7) (8 + 1) ((be (u64of s.1) 8).map by8 ++ [.int .u8 1]) rfl hown7 ⟨wr.heap.size, 2, none⟩ 32 32 (s.2.2.map by8) rfl (by simp [HOK2.out.len]) hoc (by8_one _) (by decide) (by decide) (by decide) hz7 _ rfl ?_
               intro g8 cap8 w8 hown8 hgrow8 _ hgl8
               have s78 : Spares (fun i => i = g7) w7 w8 := Spares.of_grown (S := fun i => i = g7) hgrow8 (fun k e => by simp only [Value.ownBlock, Option.some.injEq] at e; exact e.symm)
               have HB8 : Hid (Below w4.heap.size w4 w8) := hid (HB7.out.trans (s78.below (fun i hi => by omega) hz7))
               have HO8 : Hid (w8.ownsRow w4.heap.size 5 1 (.slice (some ⟨g8, 0, none⟩) 41 cap8) 41 ((stepB s).map by8)) := hid (by
                 have e : (stepB s).map by8 = (be (u64of s.1) 8).map by8 ++ [Value.int .u8 1] ++ s.2.2.map by8 := by simp [stepB, hsd, sideZ, by8]
                 rw [e]
                 exact hown8)
               have HI4 := hid (HI.out.new HB4.out)
               have HA : Hid (Below w8.heap.size w8 (w8.alloc (.cells #[.slice (some ⟨g8, 0, none⟩) 41 cap8] 24))) := hid (new_allocZ _ _)
               have hrow9 := ownsRow_below (ownsRow_below HI4.out.row HB8.out) HA.out
               have hnews9 : ∀ (j : Nat) (u : Value), [Value.slice (some ⟨g8, 0, none⟩) 41 cap8][j]? = some u → (w8.alloc (.cells #[.slice (some ⟨g8, 0, none⟩) 41 cap8] 24)).cell? ((⟨w8.heap.size, 0, none⟩ : Addr).add j) = some u := by have := World.news_of_block (World.alloc_heap_new w8 (.cells #[.slice (some ⟨g8, 0, none⟩) 41 cap8] 24)); simpa using this
               have hz9 : w.heap.size + 1 ≤ (w8.alloc (.cells #[.slice (some ⟨g8, 0, none⟩) 41 cap8] 24)).heap.size := Nat.le_trans HI4.out.big (Nat.le_trans HB8.out.size HA.out.size)
               obtain ⟨i0, hi, hz0, hzz1, hzz2⟩ := info_parts Tryd.infoBytes
               clear hown8 hgrow8 s78 hown7 hoc hz7)
            | (at_builtin; refine wpList_append_lies _ rfl (.tmp 49) (.tmp 54) 32 rfl (w.heap.size + 1) 24 i0 _ 1 24 Tryd.underlying32 hi hz0 hzz1 hzz2 rfl (by decide) (.slice ua (3 + k) uc) (3 + k) (.slice (some ⟨gz, 0, none⟩) 8 8 :: .slice ka p.k.length kc :: .slice va p.v.length vc :: ss) rfl hrow9 ⟨w8.heap.size, 0, none⟩ 1 1 [.slice (some ⟨g8, 0, none⟩) 41 cap8] rfl rfl hnews9 (by intro u hu; simp at hu; subst hu; rfl) (by decide) (by unfold maxLen; omega) (by omega) hz9 _ rfl ?_
               intro g cap w9 hown9 hgrow9 hat9 hgl9
               have HN := hid (by_step HI4.out HSS.out HOK2.out HB8.out HO8.out HA.out hgrow9 hown9)
               have HBN : Hid (w9.heap[w.heap.size]? = wr.heap[w.heap.size]?) := hid (by
                 have b48 : Below wr.heap.size wr (w8.alloc (.cells #[.slice (some ⟨g8, 0, none⟩) 41 cap8] 24)) := (HB4.out.trans (HB8.out.mono HB4.out.size)).trans (HA.out.mono (Nat.le_trans HB4.out.size HB8.out.size))
                 have hlt := block_lt HBX.out
                 refine (hgrow9.block _ (Nat.lt_of_lt_of_le hlt b48.size) (fun e => ?_)).trans (b48.block _ hlt)
                 have := (HI.out.row.lt _ e.symm).1
                 omega)
               clear hown9 hgrow9 hat9 hrow9 hnews9))
          go_roundw
          case rel => exact ⟨k + 1, _, _, _, hlt, by go_num, rfl, HN, hid (HBN.out.trans HBX.out)⟩
          case measure => simp [intOf]; omega
        | false =>
          go_wp2_with (first
            | (refine wpList_load_z rfl 66 (.tmp 36) rfl ⟨b, off + k * 34, none⟩ rfl (zc s).toArray hl ?_)
            | (refine wpList_store_row rfl 66 (.tmp 7) (.tmp 37) rfl wr.heap.size (zc s).toArray rfl rfl 66 zeroStep (World.alloc_heap_new wr _) HST.out.info HST.out.size HST.out.one ?_
               generalize hw2 : World.setRow _ wr.heap.size (zc s).toArray = w4
               have H4 : Hid (w4.heap[wr.heap.size]? = some (.cells (zc s).toArray 66 (0, 0))) := hid (by rw [← hw2]; exact HX.out.1)
               have HB4 : Hid (Below wr.heap.size wr w4) := hid (by rw [← hw2]; exact HX.out.2)
               obtain ⟨hc0, hc1⟩ := boxed_cells H4.out
               rw [hsd] at hc1
               clear hw2 hl)
            | (go_at_call 38; refine (refNum_any s.1 w4 HOK2.out.lo HOK2.out.hi).mono ?_; rintro e w5 ⟨gn, rfl, hon5, hb5⟩
               have HB5 := hid hb5
               have H5 := hid ((hb5.block _ (block_lt H4.out)).trans H4.out)
               have hd1 := (boxed_cells H5.out).2
               rw [hsd] at hd1
               have hA5 := new_allocZ w5 (.cells #[.int .u8 0] 5)
               have hon6 := ownsRow_below hon5 hA5
               have HA5 := hid hA5
               have hnews5 : ∀ (j : Nat) (u : Value), [Value.int .u8 0][j]? = some u → (w5.alloc (.cells #[.int .u8 0] 5)).cell? ((⟨w5.heap.size, 0, none⟩ : Addr).add j) = some u := by have := World.news_of_block (World.alloc_heap_new w5 (.cells #[.int .u8 0] 5)); simpa using this
               have hz5 : w4.heap.size ≤ (w5.alloc (.cells #[.int .u8 0] 5)).heap.size := Nat.le_trans hb5.size hA5.size
               obtain ⟨j0, hj, hj0, hj1, hj2⟩ := info_parts Tryd.infoU8
               clear hb5 hon5 hA5 hc0 hc1)
            | (at_builtin; refine wpList_append_lies _ rfl (.tmp 46) (.tmp 47) 24 rfl w4.heap.size 5 j0 _ 1 1 Tryd.underlying24 hj hj0 hj1 hj2 rfl (by decide) (.slice (some ⟨gn, 0, none⟩) 8 8) 8 ((be (u64of s.1) 8).map by8) rfl hon6 ⟨w5.heap.size, 0, none⟩ 1 1 [.int .u8 0] rfl rfl hnews5 (by intro u hu; simp at hu; subst hu; rfl) (by decide) (by decide) (by decide) hz5 _ rfl ?_
               intro g7 cap7 w7 hown7 hgrow7 _ hgl7
               have s57 : Spares (fun i => i = gn) w5 w7 := (Spares.of_new HA5.out).andThen (Spares.of_grown (S := fun i => i = gn) hgrow7 (fun k e => by simp only [Value.ownBlock, Option.some.injEq] at e; exact e.symm)) (fun i hi => .inl hi)
               have hgn : w4.heap.size ≤ gn := (hon6.lt gn rfl).1
               have hlt4 := block_lt H4.out
               have H7 := hid ((s57.block _ (block_lt H5.out) (by omega)).trans H5.out)
               have HB7 : Hid (Below w4.heap.size w4 w7) := hid (HB5.out.trans (s57.below (fun i hi => by omega) HB5.out.size))
               have hoc := other_cells H7.out
               have hz7 : w4.heap.size ≤ w7.heap.size := HB7.out.size
               have hg7 : w4.heap.size ≤ g7 := (hown7.lt g7 rfl).1
               clear hon6 hnews5 hz5 hgrow7 s57 hd1)
            | (at_builtin; refine wpList_append_lies _ rfl (.tmp 50) (.tmp 52) 24 rfl w4.heap.size 5 j0 _ 1 1 Tryd.underlying24 hj hj0 hj1 hj2 rfl (by decide) (.slice (some ⟨g7, 0, none⟩) (8 + 1) cap7) (8 + 1) ((be (u64of s.1) 8).map by8 ++ [.int .u8 0]) rfl hown7 ⟨wr.heap.size, 2, none⟩ 32 32 (s.2.2.map by8) rfl (by simp [HOK2.out.len]) hoc (by8_one _) (by decide) (by decide) (by decide) hz7 _ rfl ?_
               intro g8 cap8 w8 hown8 hgrow8 _ hgl8
               have s78 : Spares (fun i => i = g7) w7 w8 := Spares.of_grown (S := fun i => i = g7) hgrow8 (fun k e => by simp only [Value.ownBlock, Option.some.injEq] at e; exact e.symm)
               have HB8 : Hid (Below w4.heap.size w4 w8) := hid (HB7.out.trans (s78.below (fun i hi => by omega) hz7))
               have HO8 : Hid (w8.ownsRow w4.heap.size 5 1 (.slice (some ⟨g8, 0, none⟩) 41 cap8) 41 ((stepB s).map by8)) := hid (by
                 have e : (stepB s).map by8 = (be (u64of s.1) 8).map by8 ++ [Value.int .u8 0] ++ s.2.2.map by8 := by simp [stepB, hsd, sideZ, by8]
                 rw [e]
                 exact hown8)
               have HI4 := hid (HI.out.new HB4.out)
               have HA : Hid (Below w8.heap.size w8 (w8.alloc (.cells #[.slice (some ⟨g8, 0, none⟩) 41 cap8] 24))) := hid (new_allocZ _ _)
               have hrow9 := ownsRow_below (ownsRow_below HI4.out.row HB8.out) HA.out
               have hnews9 : ∀ (j : Nat) (u : Value), [Value.slice (some ⟨g8, 0, none⟩) 41 cap8][j]? = some u → (w8.alloc (.cells #[.slice (some ⟨g8, 0, none⟩) 41 cap8] 24)).cell? ((⟨w8.heap.size, 0, none⟩ : Addr).add j) = some u := by have := World.news_of_block (World.alloc_heap_new w8 (.cells #[.slice (some ⟨g8, 0, none⟩) 41 cap8] 24)); simpa using this
               have hz9 : w.heap.size + 1 ≤ (w8.alloc (.cells #[.slice (some ⟨g8, 0, none⟩) 41 cap8] 24)).heap.size := Nat.le_trans HI4.out.big (Nat.le_trans HB8.out.size HA.out.size)
               obtain ⟨i0, hi, hz0, hzz1, hzz2⟩ := info_parts Tryd.infoBytes
               clear hown8 hgrow8 s78 hown7 hoc hz7)
            | (at_builtin; refine wpList_append_lies _ rfl (.tmp 49) (.tmp 54) 32 rfl (w.heap.size + 1) 24 i0 _ 1 24 Tryd.underlying32 hi hz0 hzz1 hzz2 rfl (by decide) (.slice ua (3 + k) uc) (3 + k) (.slice (some ⟨gz, 0, none⟩) 8 8 :: .slice ka p.k.length kc :: .slice va p.v.length vc :: ss) rfl hrow9 ⟨w8.heap.size, 0, none⟩ 1 1 [.slice (some ⟨g8, 0, none⟩) 41 cap8] rfl rfl hnews9 (by intro u hu; simp at hu; subst hu; rfl) (by decide) (by unfold maxLen; omega) (by omega) hz9 _ rfl ?_
               intro g cap w9 hown9 hgrow9 hat9 hgl9
               have HN := hid (by_step HI4.out HSS.out HOK2.out HB8.out HO8.out HA.out hgrow9 hown9)
               have HBN : Hid (w9.heap[w.heap.size]? = wr.heap[w.heap.size]?) := hid (by
                 have b48 : Below wr.heap.size wr (w8.alloc (.cells #[.slice (some ⟨g8, 0, none⟩) 41 cap8] 24)) := (HB4.out.trans (HB8.out.mono HB4.out.size)).trans (HA.out.mono (Nat.le_trans HB4.out.size HB8.out.size))
                 have hlt := block_lt HBX.out
                 refine (hgrow9.block _ (Nat.lt_of_lt_of_le hlt b48.size) (fun e => ?_)).trans (b48.block _ hlt)
                 have := (HI.out.row.lt _ e.symm).1
                 omega)
               clear hown9 hgrow9 hat9 hrow9 hnews9))
          go_roundw
          case rel => exact ⟨k + 1, _, _, _, hlt, by go_num, rfl, HN, hid (HBN.out.trans HBX.out)⟩
          case measure => simp [intOf]; omega
      · have hki : (p.st.length : Int) ≤ (k : Int) := by omega
        have hke : k = p.st.length := by omega
        have HR := refRow_any _ _ _ wr (Nat.le_refl _) (HI.out.lists HP.out hke)
        rw [HRO.out] at HR
        obtain ⟨tx, htx⟩ : ∃ tx, rowBytes (be (u64of 0) 8 :: p.k :: p.v :: p.st.map stepB) = tx := ⟨_, rfl⟩
        rw [htx] at HR
        have HTX := hid htx
        have HB := hid HI.out.below
        clear hke htx
        go_wp2_with (first
          | (go_at_call 60; refine HR.mono ?_; clear HR; rintro e w9 ⟨v9, rfl, ho9, hb9⟩
             obtain ⟨ra, rc, rfl⟩ := row_form ho9
             have HO := hid ho9
             have HB9 := hid (HB.out.trans (hb9.mono HB.out.size))
             clear ho9 hb9))
        go_ret2
        exact ⟨_, rfl, by rw [HBL.out, HTX.out]; exact owns_lower HO.out (fun g hg => Nat.le_trans HB.out.size (HO.out.lt g hg).1), HB9.out⟩
end Go.Proofs.YtmafaioohiaenaaDoor

/- The document's own Parse of a proof: all but its loop. -/

namespace Go.Proofs.YtmafaioohiaenaaDoor
open Go.RowKit Go.Shelf
set_option linter.unusedVariables false
set_option linter.unusedSimpArgs false
set_option maxRecDepth 20000

theorem ofNat_eqZ (a b : Nat) (h : a % 256 = b % 256) : UInt8.ofNat a = UInt8.ofNat b := by
  apply UInt8.toNat_inj.1
  rw [UInt8.toNat_ofNat', UInt8.toNat_ofNat']
  exact h

theorem be_addZ (a m k : Nat) : ∀ j, j ≤ k → be (a * 256 ^ k + m) j = be m j
  | 0, _ => rfl
  | j + 1, h => by
    rw [be, be, be_addZ a m k j (by omega)]
    congr 1
    apply ofNat_eqZ
    have e : (256 : Nat) ^ k = 256 ^ j * (256 * 256 ^ (k - j - 1)) := by
      rw [← Nat.pow_succ', ← Nat.pow_add]
      congr 1
      omega
    have hp : 0 < 256 ^ j := Nat.pow_pos (by omega)
    rw [e, show a * (256 ^ j * (256 * 256 ^ (k - j - 1))) + m = m + 256 ^ j * (256 * (a * 256 ^ (k - j - 1))) by rw [Nat.add_comm, Nat.mul_left_comm, ← Nat.mul_assoc a, Nat.mul_comm a 256, Nat.mul_assoc], Nat.add_mul_div_left _ _ hp]
    omega

theorem be_numZ : ∀ l : List UInt8, be (num l) l.length = l
  | [] => rfl
  | c :: t => by
    have hl := num_lt t
    rw [num_cons, List.length_cons, be, be_addZ _ _ _ _ (Nat.le_refl _), be_numZ t]
    congr 1
    have hp : 0 < 256 ^ t.length := Nat.pow_pos (by omega)
    have e : (c.toNat * 256 ^ t.length + num t) / 256 ^ t.length = c.toNat := by
      rw [Nat.add_comm, Nat.add_mul_div_right _ _ hp, Nat.div_eq_of_lt hl, Nat.zero_add]
    rw [e]
    exact UInt8.ofNat_toNat

/-- Eight bytes are the number n just if they are n's. -/
theorem tnum_is (r : List UInt8) (h : r.length = 8) (n : Nat) (hn : n < 9223372036854775808) : (tnum r 0).1 = (n : Int) ↔ r = be (u64of n) 8 := by
  have hu : u64of (n : Int) = n := by unfold u64of; omega
  have ht : (tnum r 0).1 = i64of (num r) := by
    unfold tnum
    rw [if_neg (by omega), List.take_of_length_le (by omega)]
    rfl
  have hl := num_lt64 r (by omega)
  have hb := be_numZ r
  rw [h] at hb
  rw [ht, hu, i64of, wrap64_eq]
  constructor
  · intro e
    have : num r = n := by omega
    rw [← this, hb]
  · intro e
    have : num r = n := by
      rw [e, num_be]
      exact Nat.mod_eq_of_lt (by omega)
    rw [this]
    omega

set_option maxHeartbeats 4000000 in
theorem yparse_bad (B0 : Nat) (v : Value) (bs : List UInt8) (w : World) (hsh : Shows B0 w v bs) (hB : B0 ≤ w.heap.size) (hbad : (trow bs).1 ≠ 0 ∨ (trow bs).2.2 ≠ bs.length) :
    Calls Tryd.prog 24 #[v] w fun e w' => e = .returned (.tuple #[.agg #[.bool false, .slice none 0 0, .slice none 0 0, .slice none 0 0], .int .i64 4]) ∧ Below w.heap.size w w' := by
  have hnew := World.alloc_heap_new w (.cells #[.bool false, .slice none 0 0, .slice none 0 0, .slice none 0 0] 29)
  have hbn : Below w.heap.size w (w.alloc (.cells #[.bool false, .slice none 0 0, .slice none 0 0, .slice none 0 0] 29)) := new_allocZ _ _
  have HT := refTakeRow_any B0 v bs _ (hsh.below (hbn.mono hB)) (Nat.le_trans hB hbn.size)
  obtain ⟨ba, bc, rfl, hbl, _⟩ := id hsh
  generalize trow bs = t at *
  obtain ⟨c, rows, n⟩ := t
  simp only at HT hbad
  have hc : ¬ (c : Int) = 0 ∨ (c : Int) = 0 ∧ ¬ (n : Int) = (bs.length : Int) := by omega
  clear hbad hsh
  generalize bs.length = bl at *
  rcases hc with hc | ⟨hc, hn⟩
  all_goals
    go_enter Tryd.func24, Tryd.ntmps24
    go_wp2_with (first
      | (go_at_call 61; refine HT.mono ?_; clear HT; rintro e w1 ⟨v1, rfl, _, hb1⟩
         have H1 := hid ((hb1.block _ (block_lt hnew)).trans hnew)
         have HB1 := hid (hbn.trans (hb1.mono hbn.size))
         clear hb1 hnew hbn)
      | (refine wpList_buildTo rfl 29 #[] rfl (some 44) rfl #[.bool false, .slice none 0 0, .slice none 0 0, .slice none 0 0] (by exact built_proofZ) ?_)
      | (refine wpList_store_row rfl 29 (.tmp 2) (.tmp 44) rfl w.heap.size #[.bool false, .slice none 0 0, .slice none 0 0, .slice none 0 0] rfl rfl 29 #[.bool false, .slice none 0 0, .slice none 0 0, .slice none 0 0] H1.out Tryd.infoProof rfl (one_fourZ _ _ _ _ _ _ _ _ _ _) ?_)
      | (refine bodyPost_ret (v := .tuple #[.agg #[.bool false, .slice none 0 0, .slice none 0 0, .slice none 0 0], .int .i64 4]) (results_agg_tmp (p := 2) (u := 3) (ty := 29) rfl _ _ w.heap.size #[.bool false, .slice none 0 0, .slice none 0 0, .slice none 0 0] rfl (load_row_proof (setRow_heap _ _ _ _ _ _ H1.out) rfl)) rfl ⟨rfl, below_setRow HB1.out (Nat.le_refl _) _⟩))

set_option maxHeartbeats 4000000 in
theorem yparse_empty (B0 : Nat) (v : Value) (bs : List UInt8) (w : World) (hsh : Shows B0 w v bs) (hB : B0 ≤ w.heap.size) (ht : trow bs = (0, [], bs.length)) :
    Calls Tryd.prog 24 #[v] w fun e w' => e = .returned (.tuple #[.agg #[.bool false, .slice none 0 0, .slice none 0 0, .slice none 0 0], .int .i64 4]) ∧ Below w.heap.size w w' := by
  have hnew := World.alloc_heap_new w (.cells #[.bool false, .slice none 0 0, .slice none 0 0, .slice none 0 0] 29)
  have hbn : Below w.heap.size w (w.alloc (.cells #[.bool false, .slice none 0 0, .slice none 0 0, .slice none 0 0] 29)) := new_allocZ _ _
  have HT := refTakeRow_any B0 v bs _ (hsh.below (hbn.mono hB)) (Nat.le_trans hB hbn.size)
  obtain ⟨ba, bc, rfl, hbl, _⟩ := id hsh
  rw [ht] at HT
  simp only at HT
  clear ht hsh
  generalize bs.length = bl at *
  go_enter Tryd.func24, Tryd.ntmps24
  go_wp2_with (first
      | (go_at_call 61; refine HT.mono ?_; clear HT; rintro e w1 ⟨v1, rfl, ⟨vs, hrow, hown⟩, hb1⟩
         obtain ⟨ra, rc, rfl⟩ := row_form hrow
         have H1 := hid ((hb1.block _ (block_lt hnew)).trans hnew)
         have HB1 := hid (hbn.trans (hb1.mono hbn.size))
         clear hb1 hnew hbn hrow hown)
      | (refine wpList_buildTo rfl 29 #[] rfl (some 44) rfl #[.bool false, .slice none 0 0, .slice none 0 0, .slice none 0 0] (by exact built_proofZ) ?_)
      | (refine wpList_store_row rfl 29 (.tmp 2) (.tmp 44) rfl w.heap.size #[.bool false, .slice none 0 0, .slice none 0 0, .slice none 0 0] rfl rfl 29 #[.bool false, .slice none 0 0, .slice none 0 0, .slice none 0 0] H1.out Tryd.infoProof rfl (one_fourZ _ _ _ _ _ _ _ _ _ _) ?_)
      | (refine bodyPost_ret (v := .tuple #[.agg #[.bool false, .slice none 0 0, .slice none 0 0, .slice none 0 0], .int .i64 4]) (results_agg_tmp (p := 2) (u := 3) (ty := 29) rfl _ _ w.heap.size #[.bool false, .slice none 0 0, .slice none 0 0, .slice none 0 0] rfl (load_row_proof (setRow_heap _ _ _ _ _ _ H1.out) rfl)) rfl ⟨rfl, below_setRow HB1.out (Nat.le_refl _) _⟩))

/-- What stands behind TakeRow: the result's block, the rows. -/
structure YPI (w : World) (rows : List (List UInt8)) (gr rc : Nat) (vs : List Value) (W : World) : Prop where
  res : W.heap[w.heap.size]? = some (.cells #[.bool false, .slice none 0 0, .slice none 0 0, .slice none 0 0] 29 (0, 0))
  row : W.ownsRow (w.heap.size + 1) 24 1 (.slice (some ⟨gr, 0, none⟩) rows.length rc) rows.length vs
  own : RowsOwn W (w.heap.size + 1) vs rows
  below : Below w.heap.size w W

theorem YPI.new {w : World} {rows : List (List UInt8)} {gr rc : Nat} {vs : List Value} {W W' : World} (h : YPI w rows gr rc vs W) (hb : Below W.heap.size W W') : YPI w rows gr rc vs W' :=
  ⟨(hb.block _ (block_lt h.res)).trans h.res, ownsRow_below h.row hb, h.own.below hb, h.below.trans (hb.mono h.below.size)⟩

theorem y_take (B0 : Nat) (v : Value) (bs : List UInt8) (w : World) (rows : List (List UInt8)) (hsh : Shows B0 w v bs) (hB : B0 ≤ w.heap.size) (ht : trow bs = (0, rows, bs.length)) (hne : 0 < rows.length) :
    Calls Tryd.prog 61 #[v] (w.alloc (.cells #[.bool false, .slice none 0 0, .slice none 0 0, .slice none 0 0] 29)) fun e w' => ∃ gr rc vs, e = .returned (.tuple #[.slice (some ⟨gr, 0, none⟩) rows.length rc, .int .i64 (bs.length : Int), .int .i64 0]) ∧ YPI w rows gr rc vs w' := by
  have hnew := World.alloc_heap_new w (.cells #[.bool false, .slice none 0 0, .slice none 0 0, .slice none 0 0] 29)
  have hbn : Below w.heap.size w (w.alloc (.cells #[.bool false, .slice none 0 0, .slice none 0 0, .slice none 0 0] 29)) := new_allocZ _ _
  have hsn : (w.alloc (.cells #[.bool false, .slice none 0 0, .slice none 0 0, .slice none 0 0] 29)).heap.size = w.heap.size + 1 := World.size_alloc _ _
  refine (refTakeRow_any B0 v bs _ (hsh.below (hbn.mono hB)) (Nat.le_trans hB hbn.size)).mono ?_
  rw [ht]
  rintro e w1 ⟨v1, rfl, ⟨vs, hrow, hown⟩, hb1⟩
  obtain ⟨gr, rc, rfl, _⟩ := hrow.form hne
  rw [hsn] at hrow hown
  exact ⟨gr, rc, vs, rfl, (hb1.block _ (block_lt hnew)).trans hnew, hrow, hown, hbn.trans (hb1.mono hbn.size)⟩

/-- The first blob. -/
theorem YPI.first {w : World} {rows : List (List UInt8)} {gr rc : Nat} {vs : List Value} {W : World} (h : YPI w rows gr rc vs W) (j : Nat) (r : List UInt8) (hr : rows[j]? = some r) : ∃ ga ca, W.cell? ⟨gr, j, none⟩ = some (.slice (some ⟨ga, 0, none⟩) r.length ca) ∧ vs[j]? = some (.slice (some ⟨ga, 0, none⟩) r.length ca) ∧ W.ownsRow (w.heap.size + 1) 5 1 (.slice (some ⟨ga, 0, none⟩) r.length ca) r.length (r.map by8) :=
  rows_cell h.row h.own rfl j r hr

set_option maxHeartbeats 4000000 in
theorem yparse_eight (B0 : Nat) (v : Value) (bs : List UInt8) (w : World) (rows : List (List UInt8)) (hsh : Shows B0 w v bs) (hB : B0 ≤ w.heap.size) (ht : trow bs = (0, rows, bs.length)) (r : List UInt8) (hr : rows[0]? = some r) (h8 : r.length ≠ 8) :
    Calls Tryd.prog 24 #[v] w fun e w' => e = .returned (.tuple #[.agg #[.bool false, .slice none 0 0, .slice none 0 0, .slice none 0 0], .int .i64 4]) ∧ Below w.heap.size w w' := by
  have hne : 0 < rows.length := (List.getElem?_eq_some_iff.1 hr).1
  have HT := y_take B0 v bs w rows hsh hB ht hne
  obtain ⟨ba, bc, rfl, hbl, _⟩ := id hsh
  have hl0 : ((rows.length : Int) == 0) = false := by rw [beq_eq_false_iff_ne]; omega
  have hl1 : (0 : Int) < (rows.length : Int) := by omega
  have h8b : ((r.length : Int) == 8) = false := by rw [beq_eq_false_iff_ne]; omega
  have h8i : ¬ (r.length : Int) = 8 := by omega
  clear ht hsh
  generalize bs.length = bl at *
  go_enter Tryd.func24, Tryd.ntmps24
  go_wp2_with (first
      | (go_at_call 61; refine HT.mono ?_; clear HT; rintro e w1 ⟨gr, rc, vs, rfl, hY⟩
         obtain ⟨ga, ca, hcell, _, _⟩ := hY.first 0 r hr
         have H1 := hid hY.res
         have HB1 := hid hY.below
         clear hY)
      | (refine wpList_buildTo rfl 29 #[] rfl (some 44) rfl #[.bool false, .slice none 0 0, .slice none 0 0, .slice none 0 0] (by exact built_proofZ) ?_)
      | (refine wpList_store_row rfl 29 (.tmp 2) (.tmp 44) rfl w.heap.size #[.bool false, .slice none 0 0, .slice none 0 0, .slice none 0 0] rfl rfl 29 #[.bool false, .slice none 0 0, .slice none 0 0, .slice none 0 0] H1.out Tryd.infoProof rfl (one_fourZ _ _ _ _ _ _ _ _ _ _) ?_)
      | (refine bodyPost_ret (v := .tuple #[.agg #[.bool false, .slice none 0 0, .slice none 0 0, .slice none 0 0], .int .i64 4]) (results_agg_tmp (p := 2) (u := 3) (ty := 29) rfl _ _ w.heap.size #[.bool false, .slice none 0 0, .slice none 0 0, .slice none 0 0] rfl (load_row_proof (setRow_heap _ _ _ _ _ _ H1.out) rfl)) rfl ⟨rfl, below_setRow HB1.out (Nat.le_refl _) _⟩))

set_option maxHeartbeats 4000000 in
theorem yparse_none (B0 : Nat) (v : Value) (bs : List UInt8) (w : World) (rows : List (List UInt8)) (hsh : Shows B0 w v bs) (hB : B0 ≤ w.heap.size) (ht : trow bs = (0, rows, bs.length)) (r : List UInt8) (hr : rows[0]? = some r) (h8 : r.length = 8) (hn : (tnum r 0).1 = 1) (h1 : rows.length = 1) :
    Calls Tryd.prog 24 #[v] w fun e w' => e = .returned (.tuple #[.agg #[.bool true, .slice none 0 0, .slice none 0 0, .slice none 0 0], .int .i64 0]) ∧ Below w.heap.size w w' := by
  have hne : 0 < rows.length := (List.getElem?_eq_some_iff.1 hr).1
  have HT := y_take B0 v bs w rows hsh hB ht hne
  rw [h1] at HT
  obtain ⟨ba, bc, rfl, hbl, _⟩ := id hsh
  clear ht hsh hne h1
  generalize bs.length = bl at *
  go_enter Tryd.func24, Tryd.ntmps24
  go_wp2_with (first
      | (go_at_call 61; refine HT.mono ?_; clear HT; rintro e w1 ⟨gr, rc, vs, rfl, hY⟩
         obtain ⟨ga, ca, hcell, _, hro⟩ := hY.first 0 r hr
         have HTN := refTakeNum_any w1.heap.size _ r w1 (shows_of_owns hro).2
         rw [hn] at HTN
         rw [h8] at hcell HTN
         have H1 := hid hY.res
         have HB1 := hid hY.below
         clear hY hro)
      | (go_at_call 62; refine HTN.mono ?_; clear HTN; rintro e w2 ⟨rfl, rfl⟩)
      | (refine wpList_buildTo rfl 29 #[(0, .const (.bool true))] rfl (some 60) rfl #[.bool true, .slice none 0 0, .slice none 0 0, .slice none 0 0] (by exact built_proofT) ?_)
      | (refine wpList_store_row rfl 29 (.tmp 2) (.tmp 60) rfl w.heap.size #[.bool true, .slice none 0 0, .slice none 0 0, .slice none 0 0] rfl rfl 29 #[.bool false, .slice none 0 0, .slice none 0 0, .slice none 0 0] H1.out Tryd.infoProof rfl (one_fourZ _ _ _ _ _ _ _ _ _ _) ?_)
      | (refine bodyPost_ret (v := .tuple #[.agg #[.bool true, .slice none 0 0, .slice none 0 0, .slice none 0 0], .int .i64 0]) (results_agg_tmp (p := 2) (u := 3) (ty := 29) rfl _ _ w.heap.size #[.bool true, .slice none 0 0, .slice none 0 0, .slice none 0 0] rfl (load_row_proof (setRow_heap _ _ _ _ _ _ H1.out) rfl)) rfl ⟨rfl, below_setRow HB1.out (Nat.le_refl _) _⟩))

set_option maxHeartbeats 4000000 in
theorem yparse_odd (B0 : Nat) (v : Value) (bs : List UInt8) (w : World) (rows : List (List UInt8)) (hsh : Shows B0 w v bs) (hB : B0 ≤ w.heap.size) (ht : trow bs = (0, rows, bs.length)) (r : List UInt8) (hr : rows[0]? = some r) (h8 : r.length = 8) (hn : ¬ ((tnum r 0).1 = 1 ∧ rows.length = 1)) (h1 : (tnum r 0).1 ≠ 0 ∨ rows.length < 3) :
    Calls Tryd.prog 24 #[v] w fun e w' => e = .returned (.tuple #[.agg #[.bool false, .slice none 0 0, .slice none 0 0, .slice none 0 0], .int .i64 4]) ∧ Below w.heap.size w w' := by
  have hne : 0 < rows.length := (List.getElem?_eq_some_iff.1 hr).1
  have HT := y_take B0 v bs w rows hsh hB ht hne
  obtain ⟨ba, bc, rfl, hbl, _⟩ := id hsh
  have hl0 : ((rows.length : Int) == 0) = false := by rw [beq_eq_false_iff_ne]; omega
  have hl1 : (0 : Int) < (rows.length : Int) := by omega
  obtain ⟨N, hN⟩ : ∃ N, (tnum r 0).1 = N := ⟨_, rfl⟩
  rw [hN] at hn h1
  have HN := hid hN
  clear ht hsh hN
  generalize bs.length = bl at *
  have hc : (N = 1 ∧ ((rows.length : Int) == 1) = false) ∨ (N ≠ 1 ∧ N ≠ 0) ∨ (N = 0 ∧ (rows.length : Int) < 3) := by
    by_cases e1 : N = 1
    · exact .inl ⟨e1, by rw [beq_eq_false_iff_ne]; intro h; exact hn ⟨e1, by omega⟩⟩
    · by_cases e0 : N = 0
      · exact .inr (.inr ⟨e0, by rcases h1 with h1 | h1; exact absurd e0 h1; omega⟩)
      · exact .inr (.inl ⟨e1, e0⟩)
  clear hn h1
  rcases hc with ⟨rfl, hc1⟩ | ⟨hc1, hc2⟩ | ⟨rfl, hc1⟩
  all_goals
    go_enter Tryd.func24, Tryd.ntmps24
    go_wp2_with (first
      | (go_at_call 61; refine HT.mono ?_; clear HT; rintro e w1 ⟨gr, rc, vs, rfl, hY⟩
         obtain ⟨ga, ca, hcell, _, hro⟩ := hY.first 0 r hr
         have HTN := refTakeNum_any w1.heap.size _ r w1 (shows_of_owns hro).2
         rw [HN.out] at HTN
         rw [h8] at hcell HTN
         have H1 := hid hY.res
         have HB1 := hid hY.below
         clear hY hro)
      | (go_at_call 62; refine HTN.mono ?_; clear HTN; rintro e w2 ⟨rfl, rfl⟩)
      | (refine wpList_buildTo rfl 29 #[] rfl (some 68) rfl #[.bool false, .slice none 0 0, .slice none 0 0, .slice none 0 0] (by exact built_proofZ) ?_)
      | (refine wpList_store_row rfl 29 (.tmp 2) (.tmp 68) rfl w.heap.size #[.bool false, .slice none 0 0, .slice none 0 0, .slice none 0 0] rfl rfl 29 #[.bool false, .slice none 0 0, .slice none 0 0, .slice none 0 0] H1.out Tryd.infoProof rfl (one_fourZ _ _ _ _ _ _ _ _ _ _) ?_)
      | (refine bodyPost_ret (v := .tuple #[.agg #[.bool false, .slice none 0 0, .slice none 0 0, .slice none 0 0], .int .i64 4]) (results_agg_tmp (p := 2) (u := 3) (ty := 29) rfl _ _ w.heap.size #[.bool false, .slice none 0 0, .slice none 0 0, .slice none 0 0] rfl (load_row_proof (setRow_heap _ _ _ _ _ _ H1.out) rfl)) rfl ⟨rfl, below_setRow HB1.out (Nat.le_refl _) _⟩))
end Go.Proofs.YtmafaioohiaenaaDoor

/- The document's own Parse of a proof: its loop. -/

namespace Go.Proofs.YtmafaioohiaenaaDoor
open Go.RowKit Go.Shelf
set_option linter.unusedVariables false
set_option linter.unusedSimpArgs false
set_option maxRecDepth 20000

/-- 32 bytes, the first m of them laid. -/
def fillZ (b : List UInt8) (m : Nat) : List UInt8 := (b.drop 9).take m ++ List.replicate (32 - m) 0

theorem wrap_nine (m : Nat) (h : m < 32) : wrap64 (9 + (m : Int)) = 9 + (m : Int) := by rw [wrap64_eq]; omega

theorem fillZ_zero (b : List UInt8) : fillZ b 0 = List.replicate 32 0 := by simp [fillZ]

theorem fillZ_all (b : List UInt8) (h : b.length = 41) : fillZ b 32 = b.drop 9 := by
  unfold fillZ
  rw [List.take_of_length_le (by rw [List.length_drop]; omega)]
  simp

theorem fillZ_length (b : List UInt8) (h : b.length = 41) (m : Nat) (hm : m ≤ 32) : (fillZ b m).length = 32 := by
  simp [fillZ, h]
  omega

theorem fillZ_set (b : List UInt8) (h : b.length = 41) (m : Nat) (hm : m < 32) (c : UInt8) (hc : b[9 + m]? = some c) : (fillZ b m).set m c = fillZ b (m + 1) := by
  unfold fillZ
  have hl : ((b.drop 9).take m).length = m := by simp [h]; omega
  rw [List.set_append_right _ _ (by omega), hl, Nat.sub_self, show 32 - m = (32 - (m + 1)) + 1 by omega, List.replicate_succ, List.set_cons_zero, List.take_add_one, List.getElem?_drop, hc]
  simp

theorem yfill_cell {W : World} {sb : Nat} {n : Int} {d : Bool} {b : List UInt8} {m : Nat} (h : W.heap[sb]? = some (.cells (zc (n, d, fillZ b m)).toArray 66 (0, 0))) (hm : m < 32) (h41 : b.length = 41) : W.cell? ⟨sb, 2 + m, none⟩ = some (.int .u8 0) ∧ W.frozen? ⟨sb, 2 + m, none⟩ = false := by
  refine ⟨?_, by simp [World.frozen?, h]⟩
  rw [cell_of_row _ _ _ _ _ _ h, List.getElem?_toArray, show 2 + m = m + 1 + 1 by omega]
  show (.int .i64 n :: .bool d :: (fillZ b m).map by8)[m + 1 + 1]? = _
  simp only [List.getElem?_cons_succ, List.getElem?_map]
  have hl : ((b.drop 9).take m).length = m := by simp [h41]; omega
  unfold fillZ
  rw [List.getElem?_append_right (by omega), hl, Nat.sub_self, List.getElem?_replicate, if_pos (by omega)]
  rfl

theorem yfill_next {W : World} {sb : Nat} {n : Int} {d : Bool} {b : List UInt8} {m : Nat} {c : UInt8} (h : W.heap[sb]? = some (.cells (zc (n, d, fillZ b m)).toArray 66 (0, 0))) (hm : m < 32) (h41 : b.length = 41) (hc : b[9 + m]? = some c) :
    (W.setCell ⟨sb, 2 + m, none⟩ (.int .u8 (c.toNat : Int))).heap[sb]? = some (.cells (zc (n, d, fillZ b (m + 1))).toArray 66 (0, 0)) := by
  rw [heap_setCell_same _ _ _ _ _ _ h]
  congr 2
  rw [List.setIfInBounds_toArray]
  congr 1
  show (Value.int .i64 n :: .bool d :: (fillZ b m).map by8).set (2 + m) _ = Value.int .i64 n :: .bool d :: (fillZ b (m + 1)).map by8
  rw [show 2 + m = m + 1 + 1 by omega, List.set_cons_succ, List.set_cons_succ, ← fillZ_set b h41 m hm c hc, List.map_set]
  rfl

/-- A round of the loop turns nothing below the proof's own block. -/
theorem of_step_below {w : World} {pb : Nat} {kv vv : Value} {rows : List (List UInt8)} {k g cap : Nat} {W W2 W3 W4 : World} {sv : Value} {L : List Zst} (h : OfI w pb kv vv rows k W sv L)
    (hb : Below W.heap.size W W2) (hg : W2.grownBy W3 sv.ownBlock) (h4 : W3.setCell ⟨pb, 3, none⟩ (.slice (some ⟨g, 0, none⟩) (k + 1) cap) = W4) : Below pb W W4 := by
  have hp := block_lt h.box
  have sg : Spares (fun i => sv.ownBlock = some i) W2 W3 := Spares.of_grown hg (fun k e => e)
  have s4 : Spares (fun i => i = pb) W3 W4 := by rw [← h4]; exact spares_set W3 ⟨pb, 3, none⟩ _
  have hz := hb.size
  have hz2 := sg.size
  exact (hb.mono (by omega)).trans ((sg.below (B := pb) (fun i hi => by have := (h.row.lt i hi).1; omega) (by omega)).trans (s4.below (B := pb) (fun i hi => by omega) (by omega)))

set_option maxHeartbeats 1000000 in
theorem yparse_many (B0 : Nat) (v : Value) (bs : List UInt8) (w : World) (rows : List (List UInt8)) (hsh : Shows B0 w v bs) (hB : B0 ≤ w.heap.size) (ht : trow bs = (0, rows, bs.length)) (r : List UInt8) (hr : rows[0]? = some r) (h8 : r.length = 8) (hn : (tnum r 0).1 = 0) (h3 : 3 ≤ rows.length) (h4096 : rows.length ≤ 4096)
    (k1 v1 : List UInt8) (hk1 : rows[1]? = some k1) (hv1 : rows[2]? = some v1) :
    Calls Tryd.prog 24 #[v] w fun e w' => (e = .returned (.tuple #[.agg #[.bool false, .slice none 0 0, .slice none 0 0, .slice none 0 0], .int .i64 4]) ∧ (stepsOfZ (rows.drop 3) = none ∨ ∃ st, stepsOfZ (rows.drop 3) = some st ∧ (⟨false, k1, v1, st⟩ : Prf).may = false) ∧ Below w.heap.size w w') ∨
      ∃ st kv vv sv, stepsOfZ (rows.drop 3) = some st ∧ (⟨false, k1, v1, st⟩ : Prf).may = true ∧ e = .returned (.tuple #[.agg #[.bool false, kv, vv, sv], .int .i64 0]) ∧ POwn w.heap.size w' ⟨false, k1, v1, st⟩ kv vv sv ∧ Below w.heap.size w w' := by
  have hne : 0 < rows.length := (List.getElem?_eq_some_iff.1 hr).1
  have HT := y_take B0 v bs w rows hsh hB ht hne
  obtain ⟨ba, bc, rfl, hbl, _⟩ := id hsh
  have hl0 : ((rows.length : Int) == 0) = false := by rw [beq_eq_false_iff_ne]; omega
  have hl1 : (0 : Int) < (rows.length : Int) := by omega
  have hl3 : ¬ (rows.length : Int) < 3 := by omega
  have hd3 : decide ((rows.length : Int) < 3) = false := decide_eq_false hl3
  have hl3n : ¬ rows.length < 3 := by omega
  have hd3n : decide (rows.length < 3) = false := decide_eq_false hl3n
  clear ht hsh
  generalize bs.length = bl at *
  go_enter Tryd.func24, Tryd.ntmps24
  go_wp2_with (first
      | (go_at_call 61; refine HT.mono ?_; clear HT; rintro e w1 ⟨gr, rc, vs, rfl, hY⟩
         obtain ⟨ga, ca, hcell, _, hro⟩ := hY.first 0 r hr
         have HTN := refTakeNum_any w1.heap.size _ r w1 (shows_of_owns hro).2
         rw [hn] at HTN
         rw [h8] at hcell HTN
         have HY := hid hY
         clear hY hro)
      | (go_at_call 62; refine HTN.mono ?_; clear HTN; rintro e w2 ⟨rfl, hw2⟩; obtain rfl : w1 = w2 := hw2.symm))
  clear hcell hl0 hd3 hd3n hl3 hl3n
  obtain ⟨gk, ck, hck, hvk, hok⟩ := HY.out.first 1 k1 hk1
  obtain ⟨gv, cv, hcv, hvv, hov⟩ := HY.out.first 2 v1 hv1
  have hapk : gk ≠ gv := fun e => HY.out.own.apart 1 2 _ _ hvk hvv (by decide) (by rw [e]; rfl)
  have hgrl : gr < w1.heap.size := World.block_lt_of_cell? _ _ hck
  have hSk : (fun W' : World => W'.cell? ⟨gr, 1, none⟩ = some (.slice (some ⟨gk, 0, none⟩) k1.length ck) ∧ W'.cell? ⟨gr, 2, none⟩ = some (.slice (some ⟨gv, 0, none⟩) v1.length cv)) w1.drew := ⟨hck, hcv⟩
  have h1l : 1 < rows.length := by omega
  have h2l : 2 < rows.length := by omega
  refine last_region (fun W' : World => W'.cell? ⟨gr, 1, none⟩ = some (.slice (some ⟨gk, 0, none⟩) k1.length ck) ∧ W'.cell? ⟨gr, 2, none⟩ = some (.slice (some ⟨gv, 0, none⟩) v1.length cv)) 9 (by kernel_rfl) ?_
  refine wpAnyE_take (i := 0) (v := ?_) rfl (by kernel_rfl) (by kernel_rfl) (by kernel_rfl) (by kernel_rfl) (by kernel_rfl) (fun _ _ _ h => h) (Or.inl ⟨by rfl, ?_⟩) (by assumption) ?_; rotate_left; (focus (intro w hSw; (try dsimp only at hSw); (try obtain ⟨hSw1, hSw2, hSw3⟩ := hSw); go_simp <;> with_reducible rfl)); (try simp only [Act.put, List.getElem_toArray, List.getElem_cons_zero, List.getElem_cons_succ, List.setIfInBounds_toArray, List.set_cons_zero, List.set_cons_succ])
  refine wpAnyE_take (i := 1) (v := .pointer (some ⟨gr, 1, none⟩)) rfl (by kernel_rfl) (by kernel_rfl) (by kernel_rfl) (by kernel_rfl) (by kernel_rfl) (fun _ _ _ h => h) (Or.inl ⟨by rfl, fun W _ => by go_simp <;> first | with_reducible rfl | (intro h; exact absurd h (by omega)) | (rw [if_pos (by omega)]; rfl) | rw [if_pos (by omega)]⟩) hSk ?_
  simp only [Act.put, List.getElem_toArray, List.getElem_cons_zero, List.getElem_cons_succ, List.setIfInBounds_toArray, List.set_cons_zero, List.set_cons_succ]
  refine wpAnyE_take (i := 2) (v := (.slice (some ⟨gk, 0, none⟩) k1.length ck)) rfl (by kernel_rfl) (by kernel_rfl) (by kernel_rfl) (by kernel_rfl) (by kernel_rfl) (fun _ _ _ h => h) (yields_val 24 (.tmp 70) rfl ⟨gr, 1, none⟩ (by kernel_rfl) _ (by rfl) (fun W hW => run_load_slice W 24 _ Tryd.underlying24 ⟨gr, 1, none⟩ _ hW.1)) hSk ?_
  simp only [Act.put, List.getElem_toArray, List.getElem_cons_zero, List.getElem_cons_succ, List.setIfInBounds_toArray, List.set_cons_zero, List.set_cons_succ]
  refine wpAnyE_take (i := 3) (v := ?_) rfl (by kernel_rfl) (by kernel_rfl) (by kernel_rfl) (by kernel_rfl) (by kernel_rfl) (fun _ _ _ h => h) (Or.inl ⟨by rfl, ?_⟩) (by assumption) ?_; rotate_left; (focus (intro w hSw; (try dsimp only at hSw); (try obtain ⟨hSw1, hSw2, hSw3⟩ := hSw); go_simp <;> with_reducible rfl)); (try simp only [Act.put, List.getElem_toArray, List.getElem_cons_zero, List.getElem_cons_succ, List.setIfInBounds_toArray, List.set_cons_zero, List.set_cons_succ])
  refine wpAnyE_take (i := 4) (v := .pointer (some ⟨gr, 2, none⟩)) rfl (by kernel_rfl) (by kernel_rfl) (by kernel_rfl) (by kernel_rfl) (by kernel_rfl) (fun _ _ _ h => h) (Or.inl ⟨by rfl, fun W _ => by go_simp <;> first | with_reducible rfl | (intro h; exact absurd h (by omega)) | (rw [if_pos (by omega)]; rfl) | rw [if_pos (by omega)]⟩) hSk ?_
  simp only [Act.put, List.getElem_toArray, List.getElem_cons_zero, List.getElem_cons_succ, List.setIfInBounds_toArray, List.set_cons_zero, List.set_cons_succ]
  refine wpAnyE_take (i := 5) (v := (.slice (some ⟨gv, 0, none⟩) v1.length cv)) rfl (by kernel_rfl) (by kernel_rfl) (by kernel_rfl) (by kernel_rfl) (by kernel_rfl) (fun _ _ _ h => h) (yields_val 24 (.tmp 73) rfl ⟨gr, 2, none⟩ (by kernel_rfl) _ (by rfl) (fun W hW => run_load_slice W 24 _ Tryd.underlying24 ⟨gr, 2, none⟩ _ hW.2)) hSk ?_
  simp only [Act.put, List.getElem_toArray, List.getElem_cons_zero, List.getElem_cons_succ, List.setIfInBounds_toArray, List.set_cons_zero, List.set_cons_succ]
  refine wpAnyE_take (i := 6) (v := ?_) rfl (by kernel_rfl) (by kernel_rfl) (by kernel_rfl) (by kernel_rfl) (by kernel_rfl) (fun _ _ _ h => h) (Or.inl ⟨by rfl, ?_⟩) (by assumption) ?_; rotate_left; (focus (intro w hSw; (try dsimp only at hSw); (try obtain ⟨hSw1, hSw2, hSw3⟩ := hSw); go_simp <;> with_reducible rfl)); (try simp only [Act.put, List.getElem_toArray, List.getElem_cons_zero, List.getElem_cons_succ, List.setIfInBounds_toArray, List.set_cons_zero, List.set_cons_succ])
  refine wpAnyE_take (i := 7) (v := ?_) rfl (by kernel_rfl) (by kernel_rfl) (by kernel_rfl) (by kernel_rfl) (by kernel_rfl) (fun _ _ _ h => h) (Or.inl ⟨by rfl, ?_⟩) (by assumption) ?_; rotate_left; (focus (intro w hSw; (try dsimp only at hSw); (try obtain ⟨hSw1, hSw2, hSw3⟩ := hSw); go_simp <;> with_reducible rfl)); (try simp only [Act.put, List.getElem_toArray, List.getElem_cons_zero, List.getElem_cons_succ, List.setIfInBounds_toArray, List.set_cons_zero, List.set_cons_succ])
  have hbA : Below w1.heap.size w1.drew (w1.drew.alloc (.cells #[.bool false, .slice none 0 0, .slice none 0 0, .slice none 0 0] 29)) := Below.alloc (Below.refl _ w1.drew) (Nat.le_refl _) _
  have hbA0 : Below w1.heap.size w1 (w1.drew.alloc (.cells #[.bool false, .slice none 0 0, .slice none 0 0, .slice none 0 0] 29)) := (below_drewN _ _ 1).trans hbA
  have hSA : (fun W' : World => W'.cell? ⟨gr, 1, none⟩ = some (.slice (some ⟨gk, 0, none⟩) k1.length ck) ∧ W'.cell? ⟨gr, 2, none⟩ = some (.slice (some ⟨gv, 0, none⟩) v1.length cv)) (w1.drew.alloc (.cells #[.bool false, .slice none 0 0, .slice none 0 0, .slice none 0 0] 29)) := ⟨(hbA0.cell (p := ⟨gr, 1, none⟩) hgrl).trans hck, (hbA0.cell (p := ⟨gr, 2, none⟩) hgrl).trans hcv⟩
  refine takeE_one (i := 8) (by kernel_rfl) rfl rfl (wp_alloc_of rfl (alloc_proof _) ⟨.inl hSA, ?_⟩)
  simp only [Act.put, List.getElem_toArray, List.getElem_cons_zero, List.getElem_cons_succ, List.setIfInBounds_toArray, List.set_cons_zero, List.set_cons_succ]
  have hnA := World.alloc_heap_new w1.drew (.cells #[.bool false, .slice none 0 0, .slice none 0 0, .slice none 0 0] 29)
  refine takeE_storerow (i := 9) (by kernel_rfl) rfl rfl 29 (.tmp 10) (.tmp 76) rfl w1.heap.size #[.bool false, (.slice (some ⟨gk, 0, none⟩) k1.length ck), (.slice (some ⟨gv, 0, none⟩) v1.length cv), .slice none 0 0] (by kernel_rfl) (by kernel_rfl) 29 #[.bool false, .slice none 0 0, .slice none 0 0, .slice none 0 0] hnA Tryd.infoProof rfl (one_fourZ _ _ _ _ _ _ _ _ _ _) (.inr rfl) ?_
  refine wpAnyE_done (by kernel_rfl) ?_ _
  simp only [only_normal]
  have hspA := spares_setRowZ (w1.drew.alloc (.cells #[.bool false, .slice none 0 0, .slice none 0 0, .slice none 0 0] 29)) w1.heap.size #[.bool false, (.slice (some ⟨gk, 0, none⟩) k1.length ck), (.slice (some ⟨gv, 0, none⟩) v1.length cv), .slice none 0 0]
  have hbxA : ((w1.drew.alloc (.cells #[.bool false, .slice none 0 0, .slice none 0 0, .slice none 0 0] 29)).setRow w1.heap.size #[.bool false, (.slice (some ⟨gk, 0, none⟩) k1.length ck), (.slice (some ⟨gv, 0, none⟩) v1.length cv), .slice none 0 0]).heap[w1.heap.size]? = some (.cells #[.bool false, (.slice (some ⟨gk, 0, none⟩) k1.length ck), (.slice (some ⟨gv, 0, none⟩) v1.length cv), .slice none 0 0] 29 (0, 0)) := setRow_heap _ _ _ _ _ _ hnA
  have hz2 : w.heap.size < w1.heap.size := block_lt HY.out.res
  have hbB : Below w1.heap.size w1 ((w1.drew.alloc (.cells #[.bool false, .slice none 0 0, .slice none 0 0, .slice none 0 0] 29)).setRow w1.heap.size #[.bool false, (.slice (some ⟨gk, 0, none⟩) k1.length ck), (.slice (some ⟨gv, 0, none⟩) v1.length cv), .slice none 0 0]) := hbA0.trans (hspA.below (fun i hi => by omega) hbA0.size)
  have hI0 : OfI w w1.heap.size (.slice (some ⟨gk, 0, none⟩) k1.length ck) (.slice (some ⟨gv, 0, none⟩) v1.length cv) rows 0 ((w1.drew.alloc (.cells #[.bool false, .slice none 0 0, .slice none 0 0, .slice none 0 0] 29)).setRow w1.heap.size #[.bool false, (.slice (some ⟨gk, 0, none⟩) k1.length ck), (.slice (some ⟨gv, 0, none⟩) v1.length cv), .slice none 0 0]) (.slice none 0 0) [] :=
    ⟨(hbB.block _ hz2).trans HY.out.res, hbxA, World.ownsRow_nil _ _ _ _, fun s hs => (by cases hs), rfl, by simp, HY.out.below.trans (hbB.mono (by omega)), by omega⟩
  generalize (w1.drew.alloc (.cells #[.bool false, .slice none 0 0, .slice none 0 0, .slice none 0 0] 29)).setRow w1.heap.size #[.bool false, (.slice (some ⟨gk, 0, none⟩) k1.length ck), (.slice (some ⟨gv, 0, none⟩) v1.length cv), .slice none 0 0] = w3 at *
  have HI0 := hid hI0
  have HBB := hid hbB
  have HOK := hid hok
  have HOV := hid hov
  clear hI0 hspA hbxA hnA hSA hbA0 hbA hSk hok hov hcv hck hvk hvv hk1 hv1 hbB
  simp only [Act.put, List.getElem_toArray, List.getElem_cons_zero, List.getElem_cons_succ, List.setIfInBounds_toArray, List.set_cons_zero, List.set_cons_succ]
  rw [show w1.drew.heap.size = w1.heap.size from rfl]
  obtain ⟨pb, hpb⟩ : ∃ pb, w1.heap.size = pb := ⟨_, rfl⟩
  have HPB := hid hpb
  rw [hpb] at HI0 ⊢
  clear hpb h1l h2l
  go_wp2_with fail
  go_loopw [11] (fun i wr => ∃ (q k : Nat) (sa : Option Addr) (sc : Nat) (L : List Zst), Hid (q = 3 + k) ∧ q ≤ rows.length ∧ i = .int .i64 (q : Int) ∧ Hid (OfI w pb (.slice (some ⟨gk, 0, none⟩) k1.length ck) (.slice (some ⟨gv, 0, none⟩) v1.length cv) rows k wr (.slice sa k sc) L) ∧ Hid (Below w1.heap.size w1 wr)) (fun i _ => rows.length - (intOf i).toNat)
  case atStart => exact ⟨3, 0, none, 0, [], hid rfl, h3, rfl, HI0, HBB⟩
  case round =>
    obtain ⟨q, k, sa, sc, L, HQK, hq, rfl, HI, HBW⟩ := hrel
    clear HI0 HBB
    by_cases hlt : q < rows.length
    · have hqi : (q : Int) < (rows.length : Int) := by omega
      have hq0 : (0 : Int) ≤ (q : Int) := by omega
      obtain ⟨b, hb⟩ : ∃ b, rows[q]? = some b := ⟨_, List.getElem?_eq_getElem hlt⟩
      obtain ⟨gb, cb, hcb, _, hob0⟩ := HY.out.first q b hb
      have hcw : wr.cell? ⟨gr, q, none⟩ = some (.slice (some ⟨gb, 0, none⟩) b.length cb) := (HBW.out.cell (p := ⟨gr, q, none⟩) hgrl).trans hcb
      have hob := ownsRow_below hob0 HBW.out
      have hsb : Says wr (.slice (some ⟨gb, 0, none⟩) b.length cb) b := (shows_of_owns hob).2
      have HBG : Hid (rows[3 + k]?.getD [] = b) := hid (by rw [← HQK.out, hb]; rfl)
      have HLT : Hid (3 + k < rows.length) := hid (by rw [← HQK.out]; exact hlt)
      clear hcb hob0 hb
      by_cases h41 : b.length = 41
      · obtain ⟨c8, hc8b⟩ : ∃ c, b[8]? = some c := ⟨_, List.getElem?_eq_getElem (by omega)⟩
        have hob8 : wr.cell? ⟨gb, 8, none⟩ = some (.int .u8 (c8.toNat : Int)) := by
          rw [hob.cellAt 8 (by omega), List.getElem?_map, hc8b]
          rfl
        have hc8e : b[8]?.getD 0 = c8 := by rw [hc8b]; rfl
        clear hc8b
        rcases (show c8.toNat = 0 ∨ c8.toNat = 1 ∨ 1 < c8.toNat by omega) with hcv | hcv | hcv
        · obtain ⟨wo, rfl⟩ : ∃ wo, wo = wr := ⟨_, rfl⟩
          have hc8 : wo.cell? ⟨gb, 8, none⟩ = some (.int .u8 0) := by rw [hob8, hcv]; rfl
          have HSO : Hid (stepOfZ b = some ((tnum b 0).1, false, b.drop 9)) := hid (by unfold stepOfZ; rw [h41, if_pos ⟨rfl, by rw [hc8e, hcv]; decide⟩, hc8e, hcv]; rfl)
          obtain ⟨n, hn⟩ : ∃ n, (tnum b 0).1 = n := ⟨_, rfl⟩
          have hnr := tnum_range b
          have HTN := refTakeNum_any wo.heap.size _ b wo hsb
          rw [hn] at HTN hnr HSO
          rw [h41] at HTN hcw
          have HIS := hid (isStep (zok_zero n false hnr.1 hnr.2))
          obtain ⟨A0, hA0⟩ : ∃ A, (zc (n, false, List.replicate 32 0)).toArray = A := ⟨_, rfl⟩
          have HBT : Hid (Tryd.prog.built 66 [(0, .int .i64 n), (1, .bool false)] = some A0) := hid (by rw [← hA0]; exact built_step0 n false)
          obtain ⟨x1, x2, _⟩ := box_step wo (n, false, List.replicate 32 0) (zok_zero n false hnr.1 hnr.2) (.cells zeroStep 66) rfl
          rw [hA0] at HIS x1 x2
          have HX := hid (And.intro x1 x2)
          have HA0 := hid hA0
          have HOB := hid hob
          have H41 := hid h41
          have HNR := hid hnr
          clear x1 x2 hA0 hob hsb hob8 hc8e hcv hn h41 hnr
          go_wp2_with (first
            | (go_at_call 62; refine HTN.mono ?_; clear HTN; rintro e w2 ⟨rfl, hw2⟩; obtain rfl : wo = w2 := hw2.symm)
            | (refine wpList_buildTo rfl 66 _ rfl _ rfl A0 ?hf ?_)
            | (refine wpList_store_row rfl 66 (.tmp 15) (.tmp 116) rfl wo.heap.size A0 rfl rfl 66 zeroStep (World.alloc_heap_new wo _) HIS.out.info HIS.out.size HIS.out.one ?_
               generalize hw6 : World.setRow _ wo.heap.size A0 = w6
               have H6 : Hid (w6.heap[wo.heap.size]? = some (.cells A0 66 (0, 0))) := hid (by rw [← hw6]; exact HX.out.1)
               have HB6 : Hid (Below wo.heap.size wo w6) := hid (by rw [← hw6]; exact HX.out.2)
               clear hw6))
          case hf => exact HBT.out
          go_loopw [16] (fun i wr => ∃ m : Nat, m ≤ 32 ∧ i = .int .i64 (m : Int) ∧ Hid (wr.heap[wo.heap.size]? = some (.cells (zc (n, false, fillZ b m)).toArray 66 (0, 0))) ∧ Hid (Below wo.heap.size wo wr)) (fun i _ => 32 - (intOf i).toNat)
          case atStart => exact ⟨0, by omega, rfl, hid (by rw [fillZ_zero, HA0.out]; exact H6.out), HB6⟩
          case round =>
            obtain ⟨m, hm, rfl, HQ, HBQ⟩ := hrel
            clear H6 HB6 HX
            by_cases hm32 : m < 32
            · have hmi : (m : Int) < 32 := by omega
              have hm0 : (0 : Int) ≤ (m : Int) := by omega
              obtain ⟨c, hc⟩ : ∃ c, b[9 + m]? = some c := ⟨_, List.getElem?_eq_getElem (by rw [H41.out]; omega)⟩
              have hcb : wr.cell? ⟨gb, 9 + m, none⟩ = some (.int .u8 (c.toNat : Int)) := by
                rw [((ownsRow_below HOB.out HBQ.out).cellAt (9 + m) (by rw [H41.out]; omega)), List.getElem?_map, hc]
                rfl
              have hcq : wr.cell? ⟨gr, q, none⟩ = some (.slice (some ⟨gb, 0, none⟩) 41 cb) := (HBQ.out.cell (p := ⟨gr, q, none⟩) (World.block_lt_of_cell? _ _ hcw)).trans hcw
              obtain ⟨hcs, hfs⟩ := yfill_cell HQ.out hm32 H41.out
              have HQN := hid (yfill_next HQ.out hm32 H41.out hc)
              have HBN : Hid (Below wo.heap.size wo (wr.setCell ⟨wo.heap.size, 2 + m, none⟩ (.int .u8 (c.toNat : Int)))) := hid (HBQ.out.setCell (Nat.le_refl _) _)
              have hm1 : m + 1 ≤ 32 := by omega
              go_wp2_with fail
              go_roundw
              case rel => exact ⟨m + 1, hm1, by go_num, HQN, HBN⟩
              case measure => simp [intOf]; omega
            · have hmi : (32 : Int) ≤ (m : Int) := by omega
              obtain rfl : m = 32 := by omega
              have HQ2 : Hid (wr.heap[wo.heap.size]? = some (.cells (zc (n, false, b.drop 9)).toArray 66 (0, 0))) := hid (by rw [← fillZ_all b H41.out]; exact HQ.out)
              obtain ⟨s, hs⟩ : ∃ s, ((n, false, b.drop 9) : Zst) = s := ⟨_, rfl⟩
              rw [hs] at HQ2 HSO
              have hokS := stepOfZ_ok b s HSO.out
              have HISS := hid (isStep hokS)
              have HZL := hid (zc_length hokS)
              have HI6 := hid (HI.out.new HBQ.out)
              have hc63 := (proof_cells HI6.out.box).2.2.2
              have hbA := new_allocZ wr (.cells (zc s).toArray 66)
              have hnA := World.alloc_heap_new wr (.cells (zc s).toArray 66)
              have hrow7 := (HI6.out.new hbA).row
              have hnews : ∀ (j : Nat) (u : Value), (zc s)[j]? = some u → (wr.alloc (.cells (zc s).toArray 66)).cell? ((⟨wr.heap.size, 0, none⟩ : Addr).add j) = some u := by have := World.news_of_block hnA; simpa using this
              have hbx7 := (HI6.out.new hbA).box
              have hbig7 : pb + 1 ≤ (wr.alloc (.cells (zc s).toArray 66)).heap.size := block_lt hbx7
              obtain ⟨i0, hi, hz0, hzz1, hzz2⟩ := info_parts Tryd.infoStep
              have HBA := hid hbA
              have hkl : k ≤ 4096 := by have := HLT.out; omega
              clear hnA hbA HQ hs hokS hmi
              go_wp2_with (first
                | (refine wpList_load_z rfl 66 (.tmp 15) rfl ⟨wo.heap.size, 0, none⟩ rfl (zc s).toArray (load_row_step HQ2.out HISS.out.info) ?_)
                | (refine wpList_slice_agg rfl 27 66 #[(0, .tmp 134)] rfl (zc s).toArray i0 _ (by kernel_rfl) Tryd.underlying27 hi hz0 (by rw [hzz1, List.size_toArray, HZL.out]) (by rw [List.size_toArray, HZL.out]; decide) (by rw [List.size_toArray, HZL.out]; decide) ?_)
                | (at_builtin; refine wpList_append_lies _ rfl (.tmp 133) (.tmp 135) 27 rfl (pb + 1) 66 i0 _ 34 48 Tryd.underlying27 hi hz0 hzz1 hzz2 rfl (by decide) (.slice sa k sc) k (L.flatMap zc) rfl hrow7 ⟨wr.heap.size, 0, none⟩ 1 1 (zc s) rfl (by rw [HZL.out]) hnews (zc_one s) (by decide) (by unfold maxLen; omega) (by omega) hbig7 _ rfl ?_
                   intro g cap w8 hown8 hgrow8 hat8 hgl8
                   have hlow7 : ∀ i, Value.ownBlock (.slice sa k sc) = some i → pb + 1 ≤ i := fun i hi => (hrow7.lt i hi).1
                   have hbx8 : w8.heap[pb]? = some (.cells #[.bool false, (.slice (some ⟨gk, 0, none⟩) k1.length ck), (.slice (some ⟨gv, 0, none⟩) v1.length cv), .slice sa k sc] 29 (0, 0)) := (hgrow8.block _ hbig7 (fun e => by have := hlow7 _ e.symm; omega)).trans hbx7
                   have hc83 := (proof_cells hbx8).2.2.2
                   have hf83 : w8.frozen? ⟨pb, 3, none⟩ = false := by simp [World.frozen?, hbx8]
                   have HNX := hid (of_step HI6.out HLT.out (by rw [HBG.out]; exact HSO.out) HBA.out hgrow8 hown8 hat8 rfl)
                   have HNB := hid (of_step_below HI6.out HBA.out hgrow8 (cap := cap) (g := g) rfl)
                   clear hown8 hgrow8 hat8 hrow7 hnews hbx7 hbx8 hlow7))
              go_roundw
              case rel => exact ⟨q + 1, k + 1, _, _, _, hid (by rw [HQK.out]; omega), hlt, by go_num, HNX, hid ((HBW.out.trans (HBQ.out.mono HBW.out.size)).trans (by rw [HPB.out]; exact HNB.out))⟩
              case measure => simp [intOf]; omega
        · obtain ⟨wo, rfl⟩ : ∃ wo, wo = wr := ⟨_, rfl⟩
          have hc8 : wo.cell? ⟨gb, 8, none⟩ = some (.int .u8 1) := by rw [hob8, hcv]; rfl
          have HSO : Hid (stepOfZ b = some ((tnum b 0).1, true, b.drop 9)) := hid (by unfold stepOfZ; rw [h41, if_pos ⟨rfl, by rw [hc8e, hcv]; decide⟩, hc8e, hcv]; rfl)
          obtain ⟨n, hn⟩ : ∃ n, (tnum b 0).1 = n := ⟨_, rfl⟩
          have hnr := tnum_range b
          have HTN := refTakeNum_any wo.heap.size _ b wo hsb
          rw [hn] at HTN hnr HSO
          rw [h41] at HTN hcw
          have HIS := hid (isStep (zok_zero n true hnr.1 hnr.2))
          obtain ⟨A0, hA0⟩ : ∃ A, (zc (n, true, List.replicate 32 0)).toArray = A := ⟨_, rfl⟩
          have HBT : Hid (Tryd.prog.built 66 [(0, .int .i64 n), (1, .bool true)] = some A0) := hid (by rw [← hA0]; exact built_step0 n true)
          obtain ⟨x1, x2, _⟩ := box_step wo (n, true, List.replicate 32 0) (zok_zero n true hnr.1 hnr.2) (.cells zeroStep 66) rfl
          rw [hA0] at HIS x1 x2
          have HX := hid (And.intro x1 x2)
          have HA0 := hid hA0
          have HOB := hid hob
          have H41 := hid h41
          have HNR := hid hnr
          clear x1 x2 hA0 hob hsb hob8 hc8e hcv hn h41 hnr
          go_wp2_with (first
            | (go_at_call 62; refine HTN.mono ?_; clear HTN; rintro e w2 ⟨rfl, hw2⟩; obtain rfl : wo = w2 := hw2.symm)
            | (refine wpList_buildTo rfl 66 _ rfl _ rfl A0 ?hf ?_)
            | (refine wpList_store_row rfl 66 (.tmp 15) (.tmp 116) rfl wo.heap.size A0 rfl rfl 66 zeroStep (World.alloc_heap_new wo _) HIS.out.info HIS.out.size HIS.out.one ?_
               generalize hw6 : World.setRow _ wo.heap.size A0 = w6
               have H6 : Hid (w6.heap[wo.heap.size]? = some (.cells A0 66 (0, 0))) := hid (by rw [← hw6]; exact HX.out.1)
               have HB6 : Hid (Below wo.heap.size wo w6) := hid (by rw [← hw6]; exact HX.out.2)
               clear hw6))
          case hf => exact HBT.out
          go_loopw [16] (fun i wr => ∃ m : Nat, m ≤ 32 ∧ i = .int .i64 (m : Int) ∧ Hid (wr.heap[wo.heap.size]? = some (.cells (zc (n, true, fillZ b m)).toArray 66 (0, 0))) ∧ Hid (Below wo.heap.size wo wr)) (fun i _ => 32 - (intOf i).toNat)
          case atStart => exact ⟨0, by omega, rfl, hid (by rw [fillZ_zero, HA0.out]; exact H6.out), HB6⟩
          case round =>
            obtain ⟨m, hm, rfl, HQ, HBQ⟩ := hrel
            clear H6 HB6 HX
            by_cases hm32 : m < 32
            · have hmi : (m : Int) < 32 := by omega
              have hm0 : (0 : Int) ≤ (m : Int) := by omega
              obtain ⟨c, hc⟩ : ∃ c, b[9 + m]? = some c := ⟨_, List.getElem?_eq_getElem (by rw [H41.out]; omega)⟩
              have hcb : wr.cell? ⟨gb, 9 + m, none⟩ = some (.int .u8 (c.toNat : Int)) := by
                rw [((ownsRow_below HOB.out HBQ.out).cellAt (9 + m) (by rw [H41.out]; omega)), List.getElem?_map, hc]
                rfl
              have hcq : wr.cell? ⟨gr, q, none⟩ = some (.slice (some ⟨gb, 0, none⟩) 41 cb) := (HBQ.out.cell (p := ⟨gr, q, none⟩) (World.block_lt_of_cell? _ _ hcw)).trans hcw
              obtain ⟨hcs, hfs⟩ := yfill_cell HQ.out hm32 H41.out
              have HQN := hid (yfill_next HQ.out hm32 H41.out hc)
              have HBN : Hid (Below wo.heap.size wo (wr.setCell ⟨wo.heap.size, 2 + m, none⟩ (.int .u8 (c.toNat : Int)))) := hid (HBQ.out.setCell (Nat.le_refl _) _)
              have hm1 : m + 1 ≤ 32 := by omega
              go_wp2_with fail
              go_roundw
              case rel => exact ⟨m + 1, hm1, by go_num, HQN, HBN⟩
              case measure => simp [intOf]; omega
            · have hmi : (32 : Int) ≤ (m : Int) := by omega
              obtain rfl : m = 32 := by omega
              have HQ2 : Hid (wr.heap[wo.heap.size]? = some (.cells (zc (n, true, b.drop 9)).toArray 66 (0, 0))) := hid (by rw [← fillZ_all b H41.out]; exact HQ.out)
              obtain ⟨s, hs⟩ : ∃ s, ((n, true, b.drop 9) : Zst) = s := ⟨_, rfl⟩
              rw [hs] at HQ2 HSO
              have hokS := stepOfZ_ok b s HSO.out
              have HISS := hid (isStep hokS)
              have HZL := hid (zc_length hokS)
              have HI6 := hid (HI.out.new HBQ.out)
              have hc63 := (proof_cells HI6.out.box).2.2.2
              have hbA := new_allocZ wr (.cells (zc s).toArray 66)
              have hnA := World.alloc_heap_new wr (.cells (zc s).toArray 66)
              have hrow7 := (HI6.out.new hbA).row
              have hnews : ∀ (j : Nat) (u : Value), (zc s)[j]? = some u → (wr.alloc (.cells (zc s).toArray 66)).cell? ((⟨wr.heap.size, 0, none⟩ : Addr).add j) = some u := by have := World.news_of_block hnA; simpa using this
              have hbx7 := (HI6.out.new hbA).box
              have hbig7 : pb + 1 ≤ (wr.alloc (.cells (zc s).toArray 66)).heap.size := block_lt hbx7
              obtain ⟨i0, hi, hz0, hzz1, hzz2⟩ := info_parts Tryd.infoStep
              have HBA := hid hbA
              have hkl : k ≤ 4096 := by have := HLT.out; omega
              clear hnA hbA HQ hs hokS hmi
              go_wp2_with (first
                | (refine wpList_load_z rfl 66 (.tmp 15) rfl ⟨wo.heap.size, 0, none⟩ rfl (zc s).toArray (load_row_step HQ2.out HISS.out.info) ?_)
                | (refine wpList_slice_agg rfl 27 66 #[(0, .tmp 134)] rfl (zc s).toArray i0 _ (by kernel_rfl) Tryd.underlying27 hi hz0 (by rw [hzz1, List.size_toArray, HZL.out]) (by rw [List.size_toArray, HZL.out]; decide) (by rw [List.size_toArray, HZL.out]; decide) ?_)
                | (at_builtin; refine wpList_append_lies _ rfl (.tmp 133) (.tmp 135) 27 rfl (pb + 1) 66 i0 _ 34 48 Tryd.underlying27 hi hz0 hzz1 hzz2 rfl (by decide) (.slice sa k sc) k (L.flatMap zc) rfl hrow7 ⟨wr.heap.size, 0, none⟩ 1 1 (zc s) rfl (by rw [HZL.out]) hnews (zc_one s) (by decide) (by unfold maxLen; omega) (by omega) hbig7 _ rfl ?_
                   intro g cap w8 hown8 hgrow8 hat8 hgl8
                   have hlow7 : ∀ i, Value.ownBlock (.slice sa k sc) = some i → pb + 1 ≤ i := fun i hi => (hrow7.lt i hi).1
                   have hbx8 : w8.heap[pb]? = some (.cells #[.bool false, (.slice (some ⟨gk, 0, none⟩) k1.length ck), (.slice (some ⟨gv, 0, none⟩) v1.length cv), .slice sa k sc] 29 (0, 0)) := (hgrow8.block _ hbig7 (fun e => by have := hlow7 _ e.symm; omega)).trans hbx7
                   have hc83 := (proof_cells hbx8).2.2.2
                   have hf83 : w8.frozen? ⟨pb, 3, none⟩ = false := by simp [World.frozen?, hbx8]
                   have HNX := hid (of_step HI6.out HLT.out (by rw [HBG.out]; exact HSO.out) HBA.out hgrow8 hown8 hat8 rfl)
                   have HNB := hid (of_step_below HI6.out HBA.out hgrow8 (cap := cap) (g := g) rfl)
                   clear hown8 hgrow8 hat8 hrow7 hnews hbx7 hbx8 hlow7))
              go_roundw
              case rel => exact ⟨q + 1, k + 1, _, _, _, hid (by rw [HQK.out]; omega), hlt, by go_num, HNX, hid ((HBW.out.trans (HBQ.out.mono HBW.out.size)).trans (by rw [HPB.out]; exact HNB.out))⟩
              case measure => simp [intOf]; omega
        · have HNO : Hid (stepsOfZ (rows.drop 3) = none) := hid (by rw [HI.out.told, stepsOfZ_split rows (3 + k) HLT.out, HBG.out, show stepOfZ b = none by unfold stepOfZ; rw [if_neg (by rw [hc8e]; omega)]]; rfl)
          have hg1 : (1 : Int) < (c8.toNat : Int) := by omega
          have hg2 : decide ((1 : Int) < (c8.toNat : Int)) = true := decide_eq_true hg1
          have hg3 : decide (1 < c8.toNat) = true := decide_eq_true hcv
          rw [h41] at hcw
          clear hob hsb hc8e h41
          go_wp2_with (first
            | (refine wpList_buildTo rfl 29 #[] rfl (some 98) rfl #[.bool false, .slice none 0 0, .slice none 0 0, .slice none 0 0] (by exact built_proofZ) ?_)
            | (refine wpList_store_row rfl 29 (.tmp 2) (.tmp 98) rfl w.heap.size #[.bool false, .slice none 0 0, .slice none 0 0, .slice none 0 0] rfl rfl 29 #[.bool false, .slice none 0 0, .slice none 0 0, .slice none 0 0] HI.out.res Tryd.infoProof rfl (one_fourZ _ _ _ _ _ _ _ _ _ _) ?_)
            | (refine bodyPost_ret (v := .tuple #[.agg #[.bool false, .slice none 0 0, .slice none 0 0, .slice none 0 0], .int .i64 4]) (results_agg_tmp (p := 2) (u := 3) (ty := 29) rfl _ _ w.heap.size #[.bool false, .slice none 0 0, .slice none 0 0, .slice none 0 0] rfl (load_row_proof (setRow_heap _ _ _ _ _ _ HI.out.res) rfl)) rfl (.inl ⟨rfl, .inl HNO.out, below_setRow HI.out.below (Nat.le_refl _) _⟩)))
      · have HNO : Hid (stepsOfZ (rows.drop 3) = none) := hid (by rw [HI.out.told, stepsOfZ_split rows (3 + k) HLT.out, HBG.out, show stepOfZ b = none by unfold stepOfZ; rw [if_neg (fun h => h41 h.1)]]; rfl)
        have h41b : ((b.length : Int) == 41) = false := by rw [beq_eq_false_iff_ne]; omega
        have h41i : ¬ (b.length : Int) = 41 := by omega
        clear hob hsb
        go_wp2_with (first
            | (refine wpList_buildTo rfl 29 #[] rfl (some 98) rfl #[.bool false, .slice none 0 0, .slice none 0 0, .slice none 0 0] (by exact built_proofZ) ?_)
            | (refine wpList_store_row rfl 29 (.tmp 2) (.tmp 98) rfl w.heap.size #[.bool false, .slice none 0 0, .slice none 0 0, .slice none 0 0] rfl rfl 29 #[.bool false, .slice none 0 0, .slice none 0 0, .slice none 0 0] HI.out.res Tryd.infoProof rfl (one_fourZ _ _ _ _ _ _ _ _ _ _) ?_)
            | (refine bodyPost_ret (v := .tuple #[.agg #[.bool false, .slice none 0 0, .slice none 0 0, .slice none 0 0], .int .i64 4]) (results_agg_tmp (p := 2) (u := 3) (ty := 29) rfl _ _ w.heap.size #[.bool false, .slice none 0 0, .slice none 0 0, .slice none 0 0] rfl (load_row_proof (setRow_heap _ _ _ _ _ _ HI.out.res) rfl)) rfl (.inl ⟨rfl, .inl HNO.out, below_setRow HI.out.below (Nat.le_refl _) _⟩)))
    · have hqi : (rows.length : Int) ≤ (q : Int) := by omega
      have HRL : Hid (stepsOfZ (rows.drop 3) = some L) := hid (by rw [HI.out.told, List.drop_eq_nil_of_le (by have := HQK.out; omega)]; simp [stepsOfZ])
      have HPO : Hid (POwn (w.heap.size + 1) wr ⟨false, k1, v1, L⟩ (.slice (some ⟨gk, 0, none⟩) k1.length ck) (.slice (some ⟨gv, 0, none⟩) v1.length cv) (.slice sa k sc)) := hid ⟨ownsRow_below HOK.out HBW.out, ownsRow_below HOV.out HBW.out, by
          have hl := HI.out.len
          have hlow := HI.out.low
          have := HI.out.row
          simp only
          rw [hl]
          exact owns_lower this (fun g hg => by have := (this.lt g hg).1; omega), HI.out.ok, fun g hg e => by
          simp only [Value.ownBlock, Option.some.injEq] at hg e
          exact hapk (hg.trans e.symm)⟩
      have HM := ymay_any wr.heap.size ⟨false, k1, v1, L⟩ _ _ _ wr (Nat.le_refl _) HPO.out.at
      cases hmay : (⟨false, k1, v1, L⟩ : Prf).may with
      | false =>
        rw [hmay] at HM
        go_wp2_with (first
            | (refine wpList_load_z rfl 29 (.tmp 10) rfl ⟨pb, 0, none⟩ rfl _ (load_row_proof HI.out.box rfl) ?_)
            | (go_at_call 34; refine HM.mono ?_; clear HM; rintro e w4 ⟨rfl, hb4⟩
               have HI4 := hid (HI.out.new hb4)
               clear hb4)
            | (refine wpList_buildTo rfl 29 #[] rfl (some 142) rfl #[.bool false, .slice none 0 0, .slice none 0 0, .slice none 0 0] (by exact built_proofZ) ?_)
            | (refine wpList_store_row rfl 29 (.tmp 2) (.tmp 142) rfl w.heap.size #[.bool false, .slice none 0 0, .slice none 0 0, .slice none 0 0] rfl rfl 29 #[.bool false, .slice none 0 0, .slice none 0 0, .slice none 0 0] HI4.out.res Tryd.infoProof rfl (one_fourZ _ _ _ _ _ _ _ _ _ _) ?_)
            | (refine bodyPost_ret (v := .tuple #[.agg #[.bool false, .slice none 0 0, .slice none 0 0, .slice none 0 0], .int .i64 4]) (results_agg_tmp (p := 2) (u := 3) (ty := 29) rfl _ _ w.heap.size #[.bool false, .slice none 0 0, .slice none 0 0, .slice none 0 0] rfl (load_row_proof (setRow_heap _ _ _ _ _ _ HI4.out.res) rfl)) rfl (.inl ⟨rfl, .inr ⟨L, HRL.out, hmay⟩, below_setRow HI4.out.below (Nat.le_refl _) _⟩)))
      | true =>
        rw [hmay] at HM
        go_wp2_with (first
            | (refine wpList_load_z rfl 29 (.tmp 10) rfl ⟨pb, 0, none⟩ rfl _ (load_row_proof HI.out.box rfl) ?_)
            | (go_at_call 34; refine HM.mono ?_; clear HM; rintro e w4 ⟨rfl, hb4⟩
               have HI4 := hid (HI.out.new hb4)
               have HPO4 := hid (HPO.out.new hb4)
               clear hb4)
            | (refine wpList_load_z rfl 29 (.tmp 10) rfl ⟨pb, 0, none⟩ rfl _ (load_row_proof HI4.out.box rfl) ?_)
            | (refine wpList_store_row rfl 29 (.tmp 2) (.tmp 143) rfl w.heap.size #[.bool false, (.slice (some ⟨gk, 0, none⟩) k1.length ck), (.slice (some ⟨gv, 0, none⟩) v1.length cv), .slice sa k sc] rfl rfl 29 #[.bool false, .slice none 0 0, .slice none 0 0, .slice none 0 0] HI4.out.res Tryd.infoProof rfl (one_fourZ _ _ _ _ _ _ _ _ _ _) ?_)
            | (refine bodyPost_ret (v := .tuple #[.agg #[.bool false, (.slice (some ⟨gk, 0, none⟩) k1.length ck), (.slice (some ⟨gv, 0, none⟩) v1.length cv), .slice sa k sc], .int .i64 0]) (results_agg_tmp (p := 2) (u := 3) (ty := 29) rfl _ _ w.heap.size #[.bool false, (.slice (some ⟨gk, 0, none⟩) k1.length ck), (.slice (some ⟨gv, 0, none⟩) v1.length cv), .slice sa k sc] rfl (load_row_proof (setRow_heap _ _ _ _ _ _ HI4.out.res) rfl)) rfl (.inr ⟨L, _, _, _, HRL.out, hmay, rfl, (HPO4.out.spares (spares_setRowZ _ w.heap.size #[.bool false, (.slice (some ⟨gk, 0, none⟩) k1.length ck), (.slice (some ⟨gv, 0, none⟩) v1.length cv), .slice sa k sc]) (fun i hi => by omega)).lower (by omega), below_setRow HI4.out.below (Nat.le_refl _) _⟩)))

/-- The document's Parse is the program's. -/
theorem yparse_any (B0 : Nat) (v : Value) (bs : List UInt8) (w : World) (hsh : Shows B0 w v bs) (hB : B0 ≤ w.heap.size) :
    Calls Tryd.prog 24 #[v] w fun e w' => ∃ kv vv sv, e = .returned (.tuple #[.agg #[.bool (parseZ bs).1.no, kv, vv, sv], .int .i64 (parseZ bs).2]) ∧ POwn w.heap.size w' (parseZ bs).1 kv vv sv ∧ Below w.heap.size w w' := by
  have hno : parseZ bs = (zeroP, 4) → ∀ e w', (e = Ending.returned (.tuple #[.agg #[.bool false, .slice none 0 0, .slice none 0 0, .slice none 0 0], .int .i64 4]) ∧ Below w.heap.size w w') → ∃ kv vv sv, e = .returned (.tuple #[.agg #[.bool (parseZ bs).1.no, kv, vv, sv], .int .i64 (parseZ bs).2]) ∧ POwn w.heap.size w' (parseZ bs).1 kv vv sv ∧ Below w.heap.size w w' := fun h e w' ⟨h1, h2⟩ => by
    rw [h]
    exact ⟨_, _, _, h1, powns_nil _ _ _, h2⟩
  by_cases hbad : (trow bs).1 ≠ 0 ∨ (trow bs).2.2 ≠ bs.length
  · exact (yparse_bad B0 v bs w hsh hB hbad).mono (hno (by unfold parseZ; rw [if_pos hbad]))
  · have h1 : (trow bs).1 = 0 := Decidable.byContradiction fun h => hbad (.inl h)
    have h2 : (trow bs).2.2 = bs.length := Decidable.byContradiction fun h => hbad (.inr h)
    have hl := trow_lenZ bs
    obtain ⟨rows, hrows⟩ : ∃ rows, (trow bs).2.1 = rows := ⟨_, rfl⟩
    have ht : trow bs = (0, rows, bs.length) := by rw [← h1, ← h2, ← hrows]
    rw [hrows] at hl
    have hz : ofRowZ rows = none → parseZ bs = (zeroP, 4) := fun h => by unfold parseZ; rw [if_neg hbad, hrows, h, if_pos (.inl rfl)]
    by_cases h0 : rows = []
    · subst h0
      exact (yparse_empty B0 v bs w hsh hB ht).mono (hno (hz (by unfold ofRowZ; rw [if_neg (by simp), if_pos (by simp)])))
    · obtain ⟨r, hr⟩ : ∃ r, rows[0]? = some r := ⟨_, List.getElem?_eq_getElem (List.length_pos_iff.2 h0)⟩
      have hg : rows[0]?.getD [] = r := by rw [hr]; rfl
      by_cases h8 : r.length = 8
      · have i1 := tnum_is r h8 1 (by decide)
        have i0 := tnum_is r h8 0 (by decide)
        by_cases hn1 : (tnum r 0).1 = 1 ∧ rows.length = 1
        · refine (yparse_none B0 v bs w rows hsh hB ht r hr h8 hn1.1 hn1.2).mono fun e w' ⟨h, hb⟩ => ?_
          have ho : ofRowZ rows = some ⟨true, [], [], []⟩ := by unfold ofRowZ; rw [if_pos ⟨hn1.2, hg.trans (i1.1 hn1.1)⟩]
          have hp : parseZ bs = (⟨true, [], [], []⟩, 0) := by unfold parseZ; rw [if_neg hbad, hrows, ho, if_neg (by simp [Prf.may])]; rfl
          rw [hp]
          exact ⟨_, _, _, h, powns_nil _ _ _, hb⟩
        · have hf1 : ¬ (rows.length = 1 ∧ rows[0]?.getD [] = be (u64of 1) 8) := fun h => hn1 ⟨i1.2 (hg.symm.trans h.2), h.1⟩
          by_cases hod : (tnum r 0).1 ≠ 0 ∨ rows.length < 3
          · refine (yparse_odd B0 v bs w rows hsh hB ht r hr h8 hn1 hod).mono (hno (hz ?_))
            unfold ofRowZ
            rw [if_neg hf1, if_pos]
            rcases hod with h | h
            · exact .inr fun e => h (i0.2 (hg.symm.trans e))
            · exact .inl h
          · have hn0 : (tnum r 0).1 = 0 := Decidable.byContradiction fun h => hod (.inl h)
            have h3 : 3 ≤ rows.length := Nat.le_of_not_lt fun h => hod (.inr h)
            obtain ⟨k1, hk1⟩ : ∃ k, rows[1]? = some k := ⟨_, List.getElem?_eq_getElem (by omega)⟩
            obtain ⟨v1, hv1⟩ : ∃ k, rows[2]? = some k := ⟨_, List.getElem?_eq_getElem (by omega)⟩
            have ho : ofRowZ rows = (stepsOfZ (rows.drop 3)).map fun st => ⟨false, k1, v1, st⟩ := by
              unfold ofRowZ
              rw [if_neg hf1, if_neg (by rw [hg]; intro h; rcases h with h | h; omega; exact h (i0.1 hn0)), hk1, hv1]
              rfl
            refine (yparse_many B0 v bs w rows hsh hB ht r hr h8 hn0 h3 hl k1 v1 hk1 hv1).mono fun e w' h => ?_
            rcases h with ⟨he, hor, hb⟩ | ⟨st, kv, vv, sv, hs, hm, he, hpo, hb⟩
            · refine hno ?_ e w' ⟨he, hb⟩
              rcases hor with h | ⟨st, h, hm⟩
              · exact hz (by rw [ho, h]; rfl)
              · unfold parseZ
                rw [if_neg hbad, hrows, ho, h, if_pos (.inr hm)]
            · have hp : parseZ bs = (⟨false, k1, v1, st⟩, 0) := by unfold parseZ; rw [if_neg hbad, hrows, ho, hs, if_neg (by simp [hm])]; rfl
              rw [hp]
              exact ⟨kv, vv, sv, he, hpo, hb⟩
      · refine (yparse_eight B0 v bs w rows hsh hB ht r hr h8).mono (hno (hz ?_))
        have hbl : ∀ n, (be n 8).length = 8 := fun n => be_length n 8
        unfold ofRowZ
        rw [if_neg (fun h => h8 (by rw [← hg, h.2]; exact hbl _)), if_pos (.inr fun e => h8 (by rw [← hg, e]; exact hbl _))]
end Go.Proofs.YtmafaioohiaenaaDoor

/- The walk of ProofCodes. -/

namespace Go.Proofs.YtmafaioohiaenaaDoor
open Go.RowKit Go.Shelf
set_option linter.unusedVariables false
set_option linter.unusedSimpArgs false
set_option maxRecDepth 20000

/-- Owned of one slice. -/
theorem own_oneZ (B : Nat) (W : World) (k : Value) (hB : B ≤ W.heap.size) (hk : ∃ ys, Full B W k ys) :
    Calls Tryd.prog 19 #[.slice (some ⟨W.heap.size, 0, none⟩) 1 1] (W.alloc (.cells #[k] 24)) fun e W' => e = .returned (.bool true) ∧ Spares (fun i => k.ownBlock = some i) W W' := by
  obtain ⟨ys, h1⟩ := hk
  have hb : Below W.heap.size W (W.alloc (.cells #[k] 24)) := Below.alloc (Below.refl _ _) (Nat.le_refl _) _
  have hrow : (W.alloc (.cells #[k] 24)).ownsRow B 24 1 (.slice (some ⟨W.heap.size, 0, none⟩) 1 1) 1 [k] :=
    ⟨rfl, .inr ⟨W.heap.size, 1, #[k], rfl, hB, heap_alloc_new W _, Nat.le_refl _, by unfold maxLen; omega, rfl, rfl⟩⟩
  have hap2 : Apart [k] := apart_consZ apart_nilZ (fun g hg u hu => by cases hu)
  refine (owned_keep B W.heap.size 1 [k] _ (Nat.le_trans hB hb.size) hrow (marked_consZ (h1.below hb) (marked_nilZ _ _)) hap2 (by simp)).mono ?_
  rintro e W' ⟨rfl, q1, q2⟩
  refine ⟨rfl, q1.os.trans hb.os, q1.tape.trans hb.tape, q1.output.trans hb.output, Nat.le_trans hb.size q1.size, fun i hi hS => (q2 i (fun u hu e => ?_)).trans (hb.block i hi)⟩
  simp only [List.mem_cons, List.not_mem_nil, or_false] at hu
  subst hu
  exact hS e

/-- What Bytes answers. -/
def Prf.bytesZ (p : Prf) : Int × List UInt8 := if p.may then (0, rowBytes p.blobs) else (5, [])

theorem pbytes_any (B : Nat) (p : Prf) (kv vv sv : Value) (w : World) (hB : B ≤ w.heap.size) (hp : PAt B w p kv vv sv) :
    Calls Tryd.prog 21 #[.agg #[.bool p.no, kv, vv, sv]] w fun e w' => ∃ v', e = .returned (.tuple #[v', .int .i64 p.bytesZ.1]) ∧ Copy w.heap.size w' v' p.bytesZ.2 ∧ Below w.heap.size w w' := by
  cases hm : p.may with
  | true =>
    rw [show p.bytesZ = (0, rowBytes p.blobs) by simp [Prf.bytesZ, hm]]
    exact bytes_in p kv vv sv w (hp.mono hB) hm
  | false =>
    rw [show p.bytesZ = (5, []) by simp [Prf.bytesZ, hm]]
    exact (bytes_no B p kv vv sv w hB hp hm).mono fun e w' ⟨h1, h2⟩ => ⟨_, h1, World.ownsRow_nil _ _ _ _, h2⟩

theorem ybytes_any (B : Nat) (p : Prf) (kv vv sv : Value) (w : World) (hB : B ≤ w.heap.size) (hp : PAt B w p kv vv sv) :
    Calls Tryd.prog 23 #[.agg #[.bool p.no, kv, vv, sv]] w fun e w' => ∃ v', e = .returned (.tuple #[v', .int .i64 p.bytesZ.1]) ∧ Copy w.heap.size w' v' p.bytesZ.2 ∧ Below w.heap.size w w' := by
  cases hm : p.may with
  | true =>
    rw [show p.bytesZ = (0, rowBytes p.blobs) by simp [Prf.bytesZ, hm]]
    exact ybytes_in p kv vv sv w (hp.mono hB) hm
  | false =>
    rw [show p.bytesZ = (5, []) by simp [Prf.bytesZ, hm]]
    exact (ybytes_no B p kv vv sv w hB hp hm).mono fun e w' ⟨h1, h2⟩ => ⟨_, h1, World.ownsRow_nil _ _ _ _, h2⟩

theorem POwn.forms {B : Nat} {w : World} {p : Prf} {kv vv sv : Value} (h : POwn B w p kv vv sv) : ∃ a1 c1 a2 c2 a3 c3, kv = .slice a1 p.k.length c1 ∧ vv = .slice a2 p.v.length c2 ∧ sv = .slice a3 p.st.length c3 := by
  obtain ⟨a1, c1, h1⟩ := row_form h.k
  obtain ⟨a2, c2, h2⟩ := row_form h.v
  obtain ⟨a3, c3, h3, _, _⟩ := h.at.hs.form
  exact ⟨a1, c1, a2, c2, a3, c3, h1, h2, h3⟩

set_option maxHeartbeats 4000000 in
theorem codes_law (p : Prf) (kv vv sv : Value) (b : Value) (bs : List UInt8) (w : World) (hp : PAt w.heap.size w p kv vv sv) (hb : Shows w.heap.size w b bs) (hbm : bs.length ≤ 140737488351232) (hT : Tables w) :
    Calls Tryd.prog 4 #[.agg #[.bool p.no, kv, vv, sv], b] w fun e w' => e = .returned (.bool true) ∧ Below w.heap.size w w' := by
  obtain ⟨ka, kc, rfl, hk1, hk2, _⟩ := id hp.hk
  obtain ⟨va, vc, rfl, hv1, hv2, _⟩ := id hp.hv
  obtain ⟨sa, sc, rfl, hs1, hs2⟩ := hp.hs.form
  obtain ⟨ya, yc, rfl, hy1, hy2, _⟩ := id hb
  have hlt := hT.lt
  have hbn : Below w.heap.size w (w.alloc (.cells #[.bool p.no, .slice ka p.k.length kc, .slice va p.v.length vc, .slice sa p.st.length sc] 29)) := (Below.refl _ _).alloc (Nat.le_refl _) _
  have hnew := World.alloc_heap_new w (.cells #[.bool p.no, .slice ka p.k.length kc, .slice va p.v.length vc, .slice sa p.st.length sc] 29)
  have hsn : (w.alloc (.cells #[.bool p.no, .slice ka p.k.length kc, .slice va p.v.length vc, .slice sa p.st.length sc] 29)).heap.size = w.heap.size + 1 := World.size_alloc _ _
  go_enter Tryd.func4, Tryd.ntmps4
  go_wp2_with fail
  generalize hw0 : w.alloc (.cells #[.bool p.no, .slice ka p.k.length kc, .slice va p.v.length vc, .slice sa p.st.length sc] 29) = w0 at *
  have FB : ∀ W, Below (w.heap.size + 1) w0 W → Below w.heap.size w W ∧ PAt w.heap.size W p (.slice ka p.k.length kc) (.slice va p.v.length vc) (.slice sa p.st.length sc) ∧ Shows w.heap.size W (.slice ya bs.length yc) bs ∧ w.heap.size + 1 ≤ W.heap.size ∧ Tables W ∧ W.heap[w.heap.size]? = some (.cells #[.bool p.no, .slice ka p.k.length kc, .slice va p.v.length vc, .slice sa p.st.length sc] 29 (0, 0)) := fun W h => by
    have hb' : Below w.heap.size w W := hbn.trans (h.mono (by omega))
    exact ⟨hb', hp.below hb', hb.below hb', by have := h.size; omega, hT.below hb' hT.lt, (h.block _ (by omega)).trans hnew⟩
  have b0 : Below (w.heap.size + 1) w0 w0 := Below.refl _ _
  have HSM := small5_any w0 (FB _ b0).2.2.2.2.1
  have HFB := hid FB
  clear FB hnew hw0 hp hb hT hk1 hk2 hv1 hv2 hs1 hs2 hy1 hy2
  refine HSM.mono ?_
  clear HSM
  rintro e w1 ⟨rfl, b1'⟩
  have b1 : Below (w.heap.size + 1) w0 w1 := b0.trans (b1'.mono (by omega))
  obtain ⟨r1, r2, r3, r4, r5, r6⟩ := HFB.out _ b1
  obtain ⟨c0, c1, c2, c3⟩ := proof_cells r6
  have HSH := short_any w.heap.size p _ _ _ w1 r2
  clear b1' r1 r2 r3 r4 r5 r6 hbn hsn
  by_cases hshort : p.k.length ≤ 4096 ∧ p.v.length ≤ 4096 ∧ p.st.length ≤ 2000
  · rw [decide_eq_true hshort] at HSH
    go_wp2_with fail
    refine HSH.mono ?_
    clear HSH c0 c1 c2 c3
    rintro e w2 ⟨rfl, b2'⟩
    have b2 : Below (w.heap.size + 1) w0 w2 := b1.trans (b2'.mono (HFB.out _ b1).2.2.2.1)
    clear b2'
    by_cases hyl : bs.length ≤ 65536
    · have hyi : (bs.length : Int) ≤ 65536 := by omega
      obtain ⟨r1, r2, r3, r4, r5, r6⟩ := HFB.out _ b2
      have HLE := lentZ_any w.heap.size _ bs w2 (by omega) r3 (by omega)
      clear r1 r2 r3 r5 r6
      go_wp2_with fail
      refine HLE.mono ?_
      clear HLE
      rintro e w3 ⟨vi, rfl, li, b3'⟩
      obtain ⟨gi, ei, _⟩ := id li
      subst ei
      have b3 : Below (w.heap.size + 1) w0 w3 := b2.trans (b3'.mono r4)
      have HL3 := hid li
      have HGI : Hid (w.heap.size + 1 ≤ gi ∧ gi < w3.heap.size) := hid ⟨Nat.le_trans r4 (li.block gi rfl).1, (li.block gi rfl).2⟩
      clear li b3' r4
      obtain ⟨⟨be1, bx⟩, hBZ⟩ : ∃ X, p.bytesZ = X := ⟨_, rfl⟩
      obtain ⟨⟨pq, fq⟩, hPZ⟩ : ∃ X, parseZ bs = X := ⟨_, rfl⟩
      -- Bytes
      obtain ⟨r1, r2, r3, r4, r5, r6⟩ := HFB.out _ b3
      obtain ⟨c0, c1, c2, c3⟩ := proof_cells r6
      have HBY := pbytes_any w.heap.size p _ _ _ w3 (by omega) r2
      rw [hBZ] at HBY
      clear r1 r2 r3 r5 r6
      go_wp2_with fail
      refine HBY.mono ?_
      clear HBY c0 c1 c2 c3
      rintro e w4 ⟨v1, rfl, hc4, b4'⟩
      obtain ⟨xa, xc, rfl⟩ := hc4.form
      have b4 : Below (w.heap.size + 1) w0 w4 := b3.trans (b4'.mono r4)
      have HX4 := hid hc4
      have HL4 := hid (HL3.out.newer b4')
      have HS4 := hid b4'.size
      clear hc4 b4' r4 HL3
      -- Parse
      have HPA := parse_any w4.heap.size _ bs w4 (HL4.out.shows (by unfold maxLen; omega)) (Nat.le_refl _)
      rw [hPZ] at HPA
      go_wp2_with fail
      refine HPA.mono ?_
      clear HPA
      rintro e w5 ⟨kq, vq, sq, rfl, hpo, b5'⟩
      obtain ⟨a1, n1, a2, n2, a3, n3, rfl, rfl, rfl⟩ := hpo.forms
      have b5 : Below (w.heap.size + 1) w0 w5 := b4.trans (b5'.mono (HFB.out _ b4).2.2.2.1)
      have HX5 := hid (HX4.out.new b5')
      have HL5 := hid (HL4.out.newer b5')
      have HS5 := hid b5'.size
      have HP5 := hid hpo
      have HFP := hid (fresh_proof w5 #[.bool pq.no, .slice a1 pq.k.length n1, .slice a2 pq.v.length n2, .slice a3 pq.st.length n3])
      clear hpo b5' HX4 HL4
      have b6 : Below (w.heap.size + 1) w0 ((w5.alloc (.cells #[.bool false, .slice none 0 0, .slice none 0 0, .slice none 0 0] 29)).setRow w5.heap.size #[.bool pq.no, .slice a1 pq.k.length n1, .slice a2 pq.v.length n2, .slice a3 pq.st.length n3]) := b5.trans (HFP.out.2.mono (HFB.out _ b5).2.2.2.1)
      obtain ⟨w6, hw6⟩ : ∃ w6, (w5.alloc (.cells #[.bool false, .slice none 0 0, .slice none 0 0, .slice none 0 0] 29)).setRow w5.heap.size #[.bool pq.no, .slice a1 pq.k.length n1, .slice a2 pq.v.length n2, .slice a3 pq.st.length n3] = w6 := ⟨_, rfl⟩
      rw [hw6] at HFP b6
      obtain ⟨r1, r2, r3, r4, r5, r6⟩ := HFB.out _ b6
      obtain ⟨c0, c1, c2, c3⟩ := proof_cells r6
      have HYB := ybytes_any w.heap.size p _ _ _ w6 (by omega) r2
      rw [hBZ] at HYB
      clear r1 r2 r3 r5 r6
      go_wp2_with (first
        | (refine wpList_store_row rfl 29 (.tmp 10) (.tmp 39) rfl w5.heap.size #[.bool pq.no, .slice a1 pq.k.length n1, .slice a2 pq.v.length n2, .slice a3 pq.st.length n3] rfl rfl 29 #[.bool false, .slice none 0 0, .slice none 0 0, .slice none 0 0] (heap_alloc_new w5 _) Tryd.infoProof rfl (one_fourZ _ _ _ _ _ _ _ _ _ _) ?_
           rw [hw6]
           clear hw6))
      refine HYB.mono ?_
      clear HYB c0 c1 c2 c3
      rintro e w7 ⟨v2, rfl, hc7, b7'⟩
      obtain ⟨za, zn, rfl⟩ := hc7.form
      have d57 : Below w5.heap.size w5 w7 := HFP.out.2.trans (b7'.mono HFP.out.2.size)
      have b7 : Below (w.heap.size + 1) w0 w7 := b6.trans (b7'.mono r4)
      have HQ7 := hid ((b7'.block _ (block_lt HFP.out.1)).trans HFP.out.1)
      have HU7 := hid hc7
      have HX7 := hid (HX5.out.new d57)
      have HL7 := hid (HL5.out.newer d57)
      have HP7 := hid (HP5.out.new d57)
      have HS7 := hid d57.size
      have HS67 := hid (Nat.lt_of_lt_of_le (block_lt HFP.out.1) b7'.size)
      have HS6 := hid (Nat.le_of_lt (block_lt HFP.out.1))
      clear hc7 b7' HX5 HL5 HP5 HFP d57 r4 b6
      -- the document's Parse
      have HYP := yparse_any w.heap.size _ bs w7 (HFB.out _ b7).2.2.1 (by have := (HFB.out _ b7).2.2.2.1; omega)
      rw [hPZ] at HYP
      go_wp2_with fail
      refine HYP.mono ?_
      clear HYP
      rintro e w8 ⟨kr, vr, sr, rfl, hpo, b8'⟩
      obtain ⟨a4, n4, a5, n5, a6, n6, rfl, rfl, rfl⟩ := hpo.forms
      have b8 : Below (w.heap.size + 1) w0 w8 := b7.trans (b8'.mono (HFB.out _ b7).2.2.2.1)
      have HFP := hid (fresh_proof w8 #[.bool pq.no, .slice a4 pq.k.length n4, .slice a5 pq.v.length n5, .slice a6 pq.st.length n6])
      have d79 : Below w7.heap.size w7 ((w8.alloc (.cells #[.bool false, .slice none 0 0, .slice none 0 0, .slice none 0 0] 29)).setRow w8.heap.size #[.bool pq.no, .slice a4 pq.k.length n4, .slice a5 pq.v.length n5, .slice a6 pq.st.length n6]) := b8'.trans (HFP.out.2.mono b8'.size)
      have HP8 := hid hpo
      have HS8 := hid b8'.size
      have b9 : Below (w.heap.size + 1) w0 ((w8.alloc (.cells #[.bool false, .slice none 0 0, .slice none 0 0, .slice none 0 0] 29)).setRow w8.heap.size #[.bool pq.no, .slice a4 pq.k.length n4, .slice a5 pq.v.length n5, .slice a6 pq.st.length n6]) := b8.trans (HFP.out.2.mono (HFB.out _ b8).2.2.2.1)
      obtain ⟨w9, hw9⟩ : ∃ w9, (w8.alloc (.cells #[.bool false, .slice none 0 0, .slice none 0 0, .slice none 0 0] 29)).setRow w8.heap.size #[.bool pq.no, .slice a4 pq.k.length n4, .slice a5 pq.v.length n5, .slice a6 pq.st.length n6] = w9 := ⟨_, rfl⟩
      rw [hw9] at HFP b9 d79
      have HR9 := hid HFP.out.1
      have HQ9 := hid ((d79.block _ (block_lt HQ7.out)).trans HQ7.out)
      have HU9 := hid (HU7.out.new d79)
      have HX9 := hid (HX7.out.new d79)
      have HL9 := hid (HL7.out.newer d79)
      have HP9 := hid (HP7.out.new d79)
      have HV9 := hid (HP8.out.new HFP.out.2)
      have HS9 := hid d79.size
      clear hpo b8' HFP HP8 HQ7 HU7 HX7 HL7 HP7 d79
      have HKE := kept_any w2.heap.size w.heap.size _ _ bs w9 HL9.out (HFB.out _ b9).2.2.1 (by omega)
      have HOW := own_oneZ w2.heap.size w9 _ (by have h1 := (HL9.out.block gi rfl); omega) (lends_fullZ HL9.out)
      go_wp2_with (first
        | (refine wpList_store_row rfl 29 (.tmp 14) (.tmp 49) rfl w8.heap.size #[.bool pq.no, .slice a4 pq.k.length n4, .slice a5 pq.v.length n5, .slice a6 pq.st.length n6] rfl rfl 29 #[.bool false, .slice none 0 0, .slice none 0 0, .slice none 0 0] (heap_alloc_new w8 _) Tryd.infoProof rfl (one_fourZ _ _ _ _ _ _ _ _ _ _) ?_
           rw [hw9]
           clear hw9)
        | (go_at_call 25; refine HKE.mono ?_; clear HKE; rintro e wk ⟨rfl, hwk⟩; obtain rfl : w9 = wk := hwk.symm)
        | (go_at_call 19; refine HOW.mono ?_; clear HOW; rintro e w10 ⟨rfl, s10⟩
           have hone : ∀ i, (Value.slice (some ⟨gi, 0, none⟩) bs.length (bs.length + 1)).ownBlock = some i → i = gi := fun i hi => by simpa [Value.ownBlock] using hi.symm
           have hgi := HGI.out
           have hle := HS4.out
           have hle5 := HS5.out
           have hle6 := HS6.out
           have hle67 := HS67.out
           have hle7 := HS7.out
           have hle8 := HS8.out
           have HU10 := hid (HU9.out.spares s10 (fun i hi => by rw [hone i hi]; omega) (Nat.le_refl _))
           have HX10 := hid (HX9.out.spares s10 (fun i hi => by rw [hone i hi]; omega) (Nat.le_refl _))
           have HP10 := hid (HP9.out.spares s10 (fun i hi => by rw [hone i hi]; omega))
           have HV10 := hid (HV9.out.spares s10 (fun i hi => by rw [hone i hi]; omega))
           have HQ10 := hid ((s10.block _ (block_lt HQ9.out) (fun e => by have := hone _ e; omega)).trans HQ9.out)
           have HR10 := hid ((s10.block _ (block_lt HR9.out) (fun e => by have := hone _ e; omega)).trans HR9.out)
           have b10 : Below (w.heap.size + 1) w0 w10 := b9.trans (s10.below (fun i hi => by rw [hone i hi]; omega) (HFB.out _ b9).2.2.2.1)
           have k1 := strsZ HX10.out.says
           have k2 := strsZ HU10.out.says
           have HSA := sameZ_any w10.heap.size w10.heap.size pq _ _ _ _ _ _ w10 HP10.out.at HV10.out.at (Nat.le_refl _) (Nat.le_refl _)
           clear hone hgi hle hle5 hle6 hle67 hle7 hle8 s10)
        | (refine wpList_load_z (by rfl) 29 (.tmp 10) rfl ⟨w5.heap.size, 0, none⟩ rfl #[.bool pq.no, .slice a1 pq.k.length n1, .slice a2 pq.v.length n2, .slice a3 pq.st.length n3] (load_row_proof HQ10.out rfl) ?_)
        | (refine wpList_load_z (by rfl) 29 (.tmp 14) rfl ⟨w8.heap.size, 0, none⟩ rfl #[.bool pq.no, .slice a4 pq.k.length n4, .slice a5 pq.v.length n5, .slice a6 pq.st.length n6] (load_row_proof HR10.out rfl) ?_)
        | (go_at_call 15; refine HSA.mono ?_; clear HSA; rintro e w11 ⟨rfl, b11'⟩
           have HE := hid (HFB.out _ (b10.trans (b11'.mono (HFB.out _ b10).2.2.2.1))).1
           clear b11' k1 k2))
      go_ret
      exact ⟨by simp, HE.out⟩
    · have hyi : (65536 : Int) < (bs.length : Int) := by omega
      have HE := hid (HFB.out _ b2).1
      clear HFB
      go_wp2
      go_ret
      exact ⟨rfl, HE.out⟩
  · rw [decide_eq_false hshort] at HSH
    go_wp2_with fail
    refine HSH.mono ?_
    clear HSH
    rintro e w2 ⟨rfl, b2'⟩
    have HE := hid (HFB.out _ (b1.trans (b2'.mono (HFB.out _ b1).2.2.2.1))).1
    clear HFB
    go_wp2
    go_ret
    exact ⟨rfl, HE.out⟩
end Go.Proofs.YtmafaioohiaenaaDoor
