/- Contract of the catalog's All again: the columns lie apart from the row itself. -/
import Derived.Test.YtaaggohjmhifbaaGreatDoorP38
namespace Go.Proofs.YtaaggohjmhifbaaGreatDoor
open Go.RowKit Go.Shelf Go.Lib Go.Maps Go.Sort
set_option linter.unusedVariables false
set_option linter.unusedSimpArgs false
set_option maxRecDepth 20000
def TbN (base : Nat) (l : Value) (_ : Nat → Prop) (w : World) (t : Tb) (cs : List Value) : Prop := TbS (fun b => base ≤ b ∧ l.ownBlock ≠ some b) w t cs
theorem Els.toP {α : Type} {z : Nat} {El El' : (Nat → Prop) → World → α → List Value → Prop} {S T : Nat → Prop} {w w' : World} {xs : List α} {css : List (List Value)} (h : Els z El S w xs css) (hE : ∀ x cs, El S w x cs → El' T w' x cs) : Els z El' T w' xs css :=
  ⟨h.1, fun j x cs hx hc => ⟨(h.2 j x cs hx hc).1, hE x cs (h.2 j x cs hx hc).2⟩⟩
theorem SlAt.chg {α : Type} {z : Nat} {El El' : (Nat → Prop) → World → α → List Value → Prop} {S T : Nat → Prop} {w : World} {xs : List α} {v : Value} (h : SlAt z El S w xs v) (hS : ∀ b, S b → T b) (hE : ∀ x cs, El S w x cs → El' T w x cs) : SlAt z El' T w xs v := by
  obtain ⟨a, c, css, h1, h2, h3, h4, h5⟩ := h
  exact ⟨a, c, css, h1, h2, h3, h4.toP hE, fun hne => by
    obtain ⟨b, off, ha, hb, hc⟩ := h5 hne
    exact ⟨b, off, ha, hS b hb, hc⟩⟩
theorem sorted_elsP (base : Nat) (l : Value) (G : List Tb) (css : List (List Value)) (w : World) (S : Nat → Prop) (h : w.ownsRow base 31 3 l G.length css.flatten) (hE : Els 3 TbS S w G css) (hS : ∀ b, S b → base ≤ b ∧ l.ownBlock ≠ some b) (h6 : G.length ≤ 6) :
    Calls Tryz.prog 43 #[l, .func (.func 44) #[] #[]] w fun e w' => e = .returned (.tuple #[]) ∧ ∃ T : List Tb, T.Perm G ∧ (∀ (i j : Nat) (a b : Tb), i < j → T[i]? = some a → T[j]? = some b → Op.bytesLess b.nm a.nm = false) ∧ SlAt 3 (TbN base l) (fun b => base ≤ b) w' T l ∧ Spares (fun k => l.ownBlock = some k) w w' := by
  rcases Nat.eq_zero_or_pos G.length with h0 | h0
  · obtain rfl : G = [] := List.eq_nil_of_length_eq_zero h0
    obtain ⟨p, cap, rfl⟩ : ∃ p cap, l = .slice p 0 cap := by
      rcases h.2 with ⟨rfl, _⟩ | ⟨g, cap, cur, rfl, _⟩
      · exact ⟨_, _, rfl⟩
      · exact ⟨_, _, rfl⟩
    refine (AnyF.slices_SortFunc_none laysSo p cap _ w).mono ?_
    rintro e w' ⟨rfl, rfl⟩
    exact ⟨rfl, [], List.Perm.refl _, fun i j a b _ hi => by simp at hi, SlAt.of_owns (El := TbN base _) (by decide) h (hE.toP (fun _ _ e => e.to (R := fun _ => False) (Spares.refl _ _) (fun b hb _ => ⟨id, hS b hb⟩))) (fun b hb => (h.lt b hb).1), Spares.refl _ _⟩
  · obtain ⟨g, cap, rfl, hb, hg, hnc, hcm⟩ : ∃ g cap, l = .slice (some ⟨g, 0, none⟩) G.length cap ∧ base ≤ g ∧ g < w.heap.size ∧ G.length ≤ cap ∧ cap ≤ maxLen := by
      rcases h.2 with ⟨_, h1⟩ | ⟨g, cap, cur, hv, hb, hg, h1, h2, _⟩
      · omega
      · exact ⟨g, cap, hv, hb, (Array.getElem?_eq_some_iff.1 hg).1, h1, h2⟩
    obtain ⟨D, hD1, hD2⟩ := els_rw G css hE
    have hl : D.length = G.length := by rw [← hD1]; simp
    have hH : HoldsK encR 3 w g 0 D.toArray := holds_of_owns (by rw [hD2]; exact h) hl
    have hs := sortT_any D.toArray g cap w hH hg (by simpa [hl] using h6)
    rw [show D.toArray.size = G.length by simpa using hl] at hs
    refine hs.mono ?_
    rintro e w' ⟨rfl, d', hp, hso, hH', hk⟩
    obtain ⟨D'⟩ := d'
    dsimp only at hp
    have hl' : D'.length = G.length := by rw [hp.length_eq, hl]
    refine ⟨rfl, D'.map tbR, by rw [← hD1]; exact hp.map tbR, fun i j a b hij hi hj => ?_, ?_, hk.mono (fun i hi => by subst hi; rfl)⟩
    · have hjl : j < D'.length := by have := (List.getElem?_eq_some_iff.1 hj).1; simpa using this
      have hil : i < D'.length := by omega
      have := hso i j hij (by simpa [hl] using (hl' ▸ hjl))
      simp only [List.getElem?_map, List.getElem?_eq_getElem hil, List.getElem?_eq_getElem hjl, Option.map_some, Option.some.injEq] at hi hj
      subst hi hj
      simpa [hil, hjl, tbR] using this
    · refine ⟨some ⟨g, 0, none⟩, cap, D'.map encR, by simp [hl'], by simpa [hl'] using hnc, hcm, ⟨by simp, fun j x cs hx hc => ?_⟩, fun _ => ⟨g, 0, rfl, hb, fun j cs hj i u hu => ?_⟩⟩
      · have hjl : j < D'.length := by have := (List.getElem?_eq_some_iff.1 hx).1; simpa using this
        simp only [List.getElem?_map, List.getElem?_eq_getElem hjl, Option.map_some, Option.some.injEq] at hx hc
        subst hx hc
        refine ⟨rfl, ?_⟩
        obtain ⟨q, hq, e⟩ := List.getElem_of_mem (hp.mem_iff.1 (List.getElem_mem hjl))
        have := (hE.2 q (tbR D'[j]) (encR D'[j]) (by rw [← hD1]; simp [hq, e]) (by rw [← hD2]; simp [hq, e])).2
        exact this.to hk (fun b hb2 _ => ⟨fun e2 => (hS b hb2).2 (by rw [e2]; rfl), hS b hb2⟩)
      · have hjl : j < D'.length := by have := (List.getElem?_eq_some_iff.1 hj).1; simpa using this
        simp only [List.getElem?_map, List.getElem?_eq_getElem hjl, Option.map_some, Option.some.injEq] at hj
        subst hj
        have hi3 : i < 3 := by have := (List.getElem?_eq_some_iff.1 hu).1; simpa [encR] using this
        have := (hH'.cell (i := j) (c := i) (by simpa using hjl) hi3).1
        rw [this]
        simp only [List.getElem!_toArray]
        rw [List.getElem!_eq_getElem?_getD (l := D'), List.getElem?_eq_getElem hjl, Option.getD_some, List.getElem!_eq_getElem?_getD, hu]
        rfl
set_option maxHeartbeats 4000000 in
theorem callP_any (sb mb : Nat) (E : DataW Value) (f : List UInt8 → Value) (L : List Tb) (S : Nat → Prop) (w : World) (h : CatAt w sb mb E f L S) :
    Calls Tryz.prog 27 #[.pointer (some ⟨sb, 0, none⟩)] w fun e w' => ∃ (v : Value) (T : List Tb), e = .returned v ∧ T.Perm L ∧ (∀ (i j : Nat) (a b : Tb), i < j → T[i]? = some a → T[j]? = some b → Op.bytesLess b.nm a.nm = false) ∧ SlAt 3 (TbN w.heap.size v) (fun b => w.heap.size ≤ b) w' T v ∧ Below w.heap.size w w' := by
  obtain ⟨i0, hi, hy0, hy1, hy2⟩ := info_parts Tryz.infoTb
  obtain ⟨w0, hrange, hrg, hg0, hz0⟩ := h.m.range lawS Tryz.underlying75
  have h0 : CatAt w0 sb mb E f L S := h.keeps (T := fun _ => False) (Spares.of_grown hg0 (fun k e => by cases e)) (fun _ _ => id)
  have hc := h.cell
  have hB0 : Below w.heap.size w w0 := (Spares.of_grown (S := fun _ => False) hg0 (fun k e => by cases e)).below (fun i hi => hi.elim) (Nat.le_refl _)
  have HC0 := hid h0
  have HLS := hid h.lt
  have HB0 := hid hB0
  have hmb : mb < w.heap.size := h.lt mb h.inS.2
  have hst : AlI w0 w0 mb w.heap.size E L (Maps.has E) (Maps.size E) (.slice none 0 0) [] [] := ⟨hrg, World.ownsRow_nil _ _ _ _, Els.nil, (fun t ht => by cases ht), fun t ht => .inr (by rw [h.has t.nm (by have := (may_short (h.ok t ht)).1.1; unfold maxLen; omega)]; exact decide_eq_true (List.mem_map.2 ⟨t, ht, rfl⟩)), List.nodup_nil, Spares.refl _ _⟩
  have HST := hid hst
  clear hg0 hrg h0 hB0 h hst
  go_enter Tryz.func27, Tryz.ntmps27
  go_wp2_with fail
  go_loopw [3] (fun l wr => ∃ left cnt G css, Hid (AlI w0 wr mb w.heap.size E L left cnt l G css)) (fun _ wr => wr.rangeLeft mb w.heap.size)
  case atStart => exact ⟨_, _, _, _, HST⟩
  case round =>
    clear HST
    obtain ⟨left, cnt, G, css, HA⟩ := hrel
    go_wp2_with (first | (at_next; refine wpList_next_ranges _ rfl _ rfl 9 lawS rawT Value.string (fun v : Value => v) (fun key kl hk => by obtain ⟨x, e, _⟩ := key_inv hk; exact ⟨x, e⟩) (fun v y _ => ⟨v, rfl⟩) mb w.heap.size L.length E left cnt rfl HA.out.rg ?_ ?_) | go_in)
    · intro _ hl0
      have hA := HA.out
      have hperm : G.Perm L := perm_of_all HC0.out.once hA.once (fun t ht => (hA.mem t ht).1) (fun t ht => by rcases hA.all t ht with h | h; exact h; rw [hl0] at h; cases h)
      have HSO := hid (sorted_elsP w0.heap.size u3 G css wr _ hA.own hA.els (fun b hb => hb) (by rw [hperm.length_eq]; exact HC0.out.six))
      have HK := hid hA.keep
      have HP := hid hperm
      have HOL := hid hA.own.lt
      clear hA hperm HA hl0
      go_wp2_with fail
      refine HSO.out.mono ?_
      rintro e w' ⟨rfl, T, h1, h2, h3, h4⟩
      go_wp2
      go_ret
      refine ⟨_, T, rfl, h1.trans HP.out, h2, h3.chg (fun b hb => by omega) (fun _ _ e => e.to (R := fun _ => False) (Spares.refl _ _) (fun b hb _ => ⟨id, by omega, hb.2⟩)), ?_⟩
      exact HB0.out.trans ((HK.out.below (B := w.heap.size) (fun i hi => by omega) (by omega)).trans (h4.below (B := w.heap.size) (fun i hi => by have := (HOL.out i hi).1; omega) (by have := HK.out.size; omega)))
    · intro x c kl y ps w1 cnt1 hkey hlk hv hat hrg1 hlt hg1 hs1 hen
      obtain ⟨s, hse, rfl, hsl⟩ := key_inv hkey
      injection hse with hse
      subst hse
      obtain ⟨nm, rfl⟩ : ∃ nm, x = str8 nm := ⟨x.data.toList, by simp [str8]⟩
      rw [show (str8 nm).data.toList = nm by simp [str8]] at hat hrg1 hlk
      rw [str8_size] at hsl
      have hyv := rawT_inv hv
      simp only [Prod.mk.injEq] at hyv
      have hcf : c = f nm := by
        have e1 := hat (.held zTV)
        rw [HC0.out.at' nm hsl, hyv.1] at e1
        injection e1 with e1
        exact e1.symm
      subst hcf
      have hhas : Maps.has E (.string nm) = true := Maps.has_true_of_atKey hat
      rw [HC0.out.has nm hsl] at hhas
      obtain ⟨t, ht, rfl⟩ := List.mem_map.1 (of_decide_eq_true hhas)
      obtain ⟨cs, hfc, hcs⟩ := HC0.out.val t ht
      have hA := HA.out
      have k1 : Spares (fun i => i = w.heap.size) wr w1 := Spares.of_grown hg1 (fun k e => by cases e; rfl)
      have k01 : Spares (fun i => i = w.heap.size) w0 w1 := hA.keep.then k1
      have hE1 : TbE S w1 t cs := hcs.to k01 (fun b hb _ => ⟨fun e => by have := HLS.out b hb; omega, hb⟩)
      have hms := may_short (HC0.out.ok t ht)
      obtain ⟨aa, nn, cc, rfl, _⟩ := id hE1
      rw [hfc] at hen
      rw [hfc]
      obtain ⟨U, hU, hbU, hzU, hcU⟩ := box8 w1 (.cells #[.string (str8 t.nm), .slice aa nn cc, .int .i64 t.pr] 31)
      have kU := cells3f hcU
      have HCL := hid (cloneC_any S t _ U (hE1.on hbU) hms.1 hms.2)
      have HBU := hid hbU
      have HK1 := hid k1
      have HK01 := hid k01
      have HR1 := hid hrg1
      have HLT := hid hlt
      have HLK := hid hlk
      have HT := hid ht
      have htG : t ∉ G := fun h => by have := (hA.mem t h).2; rw [hlk] at this; cases this
      have HNG := hid htG
      have HG6 : Hid (G.length ≤ 6) := hid (Nat.le_trans (le_of_mem HC0.out.once hA.once hA.mem) HC0.out.six)
      have hsz1 := k1.size
      have hszr := hA.keep.size
      have HS1 := hid hs1
      clear htG hA k1 k01 hE1 hms hcs hfc hrg1 hlt hlk ht hhas hat hv hyv hkey hg1 hs1 hbU hcU hsl
      go_wp2_with fail
      try rw [hU]
      refine HCL.out.mono ?_
      rintro e w2 ⟨ds, rfl, hds, hb2⟩
      have HDS := hid hds.s
      obtain ⟨a2, n2, c2, rfl, _⟩ := hds
      obtain ⟨V, hV, hbV, hzV, hcV⟩ := box8 w2 (.cells #[.string (str8 t.nm), .slice a2 n2 c2, .int .i64 t.pr] 31)
      have hs2 := hb2.size
      have hsU := HBU.out.size
      have hsV := hbV.size
      have hB1 : Below w1.heap.size w1 V := (HBU.out.trans (hb2.mono hsU)).trans (hbV.mono (by omega))
      have kV : Spares (fun i => i = w.heap.size) wr V := HK1.out.thenNew hB1
      have hown1 : V.ownsRow w0.heap.size 31 3 u3 G.length css.flatten := kV.row HA.out.own (fun b hb => by have := (HA.out.own.lt b hb).1; omega)
      have hnew : ∀ i u, [.string (str8 t.nm), .slice a2 n2 c2, .int .i64 t.pr][i]? = some u → V.cell? ((⟨w2.heap.size, 0, none⟩ : Addr).add i) = some u := fun i u hu => by
        rw [Addr.add_lit, Nat.zero_add, cell_of_row _ _ _ _ _ _ hcV]
        simpa using hu
      have hone : ∀ u ∈ ([.string (str8 t.nm), .slice a2 n2 c2, .int .i64 t.pr] : List Value), u.oneCell' = true := by intro u hu; simp at hu; rcases hu with rfl | rfl | rfl <;> rfl
      have hwV : w0.heap.size ≤ V.heap.size := by omega
      have hG6 : G.length ≤ 6 := HG6.out
      have HELV : Hid (Els 3 TbS (fun b => w0.heap.size ≤ b ∧ u3.ownBlock ≠ some b ∧ b < V.heap.size) V (G ++ [t]) (css ++ [[.string (str8 t.nm), .slice a2 n2 c2, .int .i64 t.pr]])) := hid (by
        refine Els.snoc ?_ rfl ?_
        · exact HA.out.els.to (fun z cs e => e.to kV (fun b hb hlt => ⟨by omega, hb.1, hb.2, by omega⟩))
        · refine HDS.out.to (R := fun _ => False) (Spares.of_new hbV) (fun b hb hlt => ⟨id, by omega, fun e => ?_, by omega⟩)
          have := (HA.out.own.lt b e).2
          omega)
      have HKV := hid kV
      have HB1 := hid hB1
      clear hb2 hbV hcV HCL hB1 kV hU kU
      go_wp2_with (first
        | (at_builtin; (try rw [hV]); refine wpList_append_where _ rfl (.tmp 15) (.tmp 18) 56 rfl w0.heap.size 31 i0 (.agg #[.string ⟨#[]⟩, .slice none 0 0, .int .i64 0]) 3 48 Tryz.underlying56 hi hy0 hy1 hy2 rfl (by decide) _ _ _ rfl hown1 ⟨w2.heap.size, 0, none⟩ 1 [.string (str8 t.nm), .slice a2 n2 c2, .int .i64 t.pr] rfl rfl hnew hone (by unfold maxLen; omega) (by omega) hwV ?_; intro v3 w3 hown3 hg3 hwh3
           have hSp : Spares (fun b => u3.ownBlock = some b) V w3 := Spares.of_grown hg3 (fun k hk => hk)
           have FIN : Hid (AlI w0 w3 mb w.heap.size E L (fun z => left z && !z.sameKey (.string t.nm)) cnt1 v3 (G ++ [t]) (css ++ [[.string (str8 t.nm), .slice a2 n2 c2, .int .i64 t.pr]])) := hid (HA.out.step HC0.out.once hmb hz0 HT.out HLK.out HR1.out HB1.out HKV.out hSp hown3 HELV.out hwh3)
           clear hown3 hg3 hwh3 hSp hown1 hnew hone)
        | fail)
      go_roundw
      case rel => exact ⟨_, _, _, _, FIN⟩
      case measure => rw [FIN.out.rg.left_eq, HA.out.rg.left_eq]; exact HLT.out
end Go.Proofs.YtaaggohjmhifbaaGreatDoor
