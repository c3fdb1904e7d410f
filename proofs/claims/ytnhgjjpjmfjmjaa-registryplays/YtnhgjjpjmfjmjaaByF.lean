/- Slices of bytes made out of strings; contracts of registry.By, Many, Text. -/
import Derived.Test.YtnhgjjpjmfjmjaaRegS
import Derived.Lib.ConvBytes
namespace Go.Proofs.Ytnhgjjpjmfjmjaa
open Go.RowKit Go.Maps
set_option linter.unusedVariables false

/-- A SLICE OF THE BYTES r IN A BLOCK OF ITS OWN, from block B on, none of whose cells is frozen. -/
def OwnF (B : Nat) (w : World) (v : Value) (r : List UInt8) : Prop :=
  ∃ g cap cur fr, v = .slice (some ⟨g, 0, none⟩) r.length cap ∧ B ≤ g ∧ w.heap[g]? = some (.cells cur 5 fr) ∧ r.length ≤ cap ∧ cap ≤ maxLen ∧ cur.size = cap ∧ cur.toList.take r.length = r.map by8 ∧ (fr = (0, 0) ∨ cap ≤ fr.1)

theorem OwnF.lt {B : Nat} {w : World} {v : Value} {r : List UInt8} (h : OwnF B w v r) : ∀ k, v.ownBlock = some k → B ≤ k ∧ k < w.heap.size := by
  obtain ⟨g, cap, cur, fr, rfl, hB, hg, _⟩ := h
  intro k hk
  simp only [Value.ownBlock, Option.some.injEq] at hk
  subst hk
  exact ⟨hB, (Array.getElem?_eq_some_iff.1 hg).1⟩

theorem OwnF.spares {S : Nat → Prop} {B : Nat} {w w' : World} {v : Value} {r : List UInt8} (h : OwnF B w v r) (hk : Spares S w w') (hS : ∀ g, v.ownBlock = some g → ¬ S g) : OwnF B w' v r := by
  obtain ⟨g, cap, cur, fr, rfl, hB, hg, rest⟩ := h
  exact ⟨g, cap, cur, fr, rfl, hB, (hk.block g (Array.getElem?_eq_some_iff.1 hg).1 (hS g rfl)).trans hg, rest⟩

theorem OwnF.new {B : Nat} {w w' : World} {v : Value} {r : List UInt8} (h : OwnF B w v r) (hb : Below w.heap.size w w') : OwnF B w' v r :=
  h.spares (S := fun _ => False) (Spares.of_new hb) (fun _ _ => id)

theorem OwnF.mono {B B' : Nat} {w : World} {v : Value} {r : List UInt8} (h : OwnF B w v r) (hB : B' ≤ B) : OwnF B' w v r := by
  obtain ⟨g, cap, cur, fr, rfl, hB2, rest⟩ := h
  exact ⟨g, cap, cur, fr, rfl, by omega, rest⟩

theorem OwnF.shows {B : Nat} {w : World} {v : Value} {r : List UInt8} (h : OwnF B w v r) : Shows w.heap.size w v r := by
  obtain ⟨g, cap, cur, fr, rfl, hB, hg, h1, h2, h3, h4, _⟩ := h
  refine ⟨_, cap, rfl, h1, h2, fun e => (by cases e), fun _ => ⟨g, 0, rfl, (Array.getElem?_eq_some_iff.1 hg).1, fun j hj => ?_⟩⟩
  rw [Nat.zero_add, cell_of_row _ _ _ _ _ _ hg]
  have e : (cur.toList.take r.length)[j]? = (r.map by8)[j]? := by rw [h4]
  rw [List.getElem?_take, if_pos hj, List.getElem?_map, List.getElem?_eq_getElem hj] at e
  rw [← Array.getElem?_toList, e, List.getElem?_eq_getElem hj]
  rfl

theorem new_allocR (w : World) (o : Obj) : Below w.heap.size w (w.alloc o) := (Below.refl _ w).alloc (Nat.le_refl _) _

/-- '[]byte(s)'. -/
theorem conv_fresh (w : World) (t : List UInt8) (ht : t.length ≤ maxLen) :
    ∃ cap w', (convert 9 28 (.string (str8 t))).run Try.prog w = .ok (.slice (some ⟨w.heap.size, 0, none⟩) t.length cap) w' ∧ OwnF w.heap.size w' (.slice (some ⟨w.heap.size, 0, none⟩) t.length cap) t ∧ w.grownBy w' none ∧ w'.heap.size = w.heap.size + 1 := by
  have hrun := Lib.run_convert_string_bytes (P := Try.prog) w 9 28 5 (str8 t) Try.underlying9 Try.underlying28 Try.underlying5
  rw [str8_size] at hrun
  have hcap := grownCap_ge w t.length 0 5
  refine ⟨_, _, hrun, ⟨w.heap.size, _, _, _, rfl, Nat.le_refl _, Lib.bytesWorld_at_new w _ _, hcap, grownCap_le_maxLen w _ _ _ ht, ?_, ?_, .inr ?_⟩, ⟨?_, ?_, ?_, by rw [Lib.bytesWorld_size]; omega, fun i hi _ => Lib.bytesWorld_at_old w _ _ i hi⟩, Lib.bytesWorld_size _ _ _⟩
  · simp [Lib.bytesCells, str8, ByteArray.size]
    omega
  · simp [Lib.bytesCells, str8]
    intro a _
    rfl
  · simp [Lib.bytesCells, str8, ByteArray.size]
    omega
  all_goals simp [Lib.bytesWorld, World.freeze, World.alloc, World.drew, -World.alloc_eq, -World.drew_eq]

/-- Slices of bytes, each in a block of its own. -/
structure RowsF (w : World) (B : Nat) (vs : List Value) (rows : List (List UInt8)) : Prop where
  len : vs.length = rows.length
  own : ∀ (j : Nat) (v : Value) (r : List UInt8), vs[j]? = some v → rows[j]? = some r → OwnF B w v r
  apart : ∀ (i j : Nat) (u v : Value), vs[i]? = some u → vs[j]? = some v → i ≠ j → u.ownBlock ≠ v.ownBlock

theorem RowsF.nil (w : World) (B : Nat) : RowsF w B [] [] := ⟨rfl, fun _ _ _ h => by simp at h, fun _ _ _ _ h => by simp at h⟩

theorem RowsF.lt {w : World} {B : Nat} {vs : List Value} {rows : List (List UInt8)} (h : RowsF w B vs rows) : ∀ u ∈ vs, ∀ g, u.ownBlock = some g → B ≤ g ∧ g < w.heap.size := by
  intro u hu g hg
  obtain ⟨j, hj⟩ := List.getElem?_of_mem hu
  have hjr : j < rows.length := by rw [← h.len]; exact (List.getElem?_eq_some_iff.1 hj).1
  exact (h.own j u rows[j] hj (List.getElem?_eq_getElem hjr)).lt g hg

theorem RowsF.spares {S : Nat → Prop} {w w' : World} {B : Nat} {vs : List Value} {rows : List (List UInt8)} (h : RowsF w B vs rows) (hk : Spares S w w') (hS : ∀ u ∈ vs, ∀ g, u.ownBlock = some g → ¬ S g) : RowsF w' B vs rows :=
  ⟨h.len, fun j v r hv hr => (h.own j v r hv hr).spares hk (hS v (List.mem_of_getElem? hv)), h.apart⟩

theorem RowsF.new {w w' : World} {B : Nat} {vs : List Value} {rows : List (List UInt8)} (h : RowsF w B vs rows) (hb : Below w.heap.size w w') : RowsF w' B vs rows :=
  h.spares (S := fun _ => False) (Spares.of_new hb) (fun _ _ _ _ => id)

theorem RowsF.snoc {w : World} {B C : Nat} {vs : List Value} {rows : List (List UInt8)} {v : Value} {r : List UInt8} (h : RowsF w B vs rows) (hBC : B ≤ C) (hv : OwnF C w v r) (hlt : ∀ u ∈ vs, ∀ g, u.ownBlock = some g → g < C) : RowsF w B (vs ++ [v]) (rows ++ [r]) := by
  have hnew : ∀ u ∈ vs, u.ownBlock ≠ v.ownBlock := by
    intro u hu e
    obtain ⟨g, cap, _, _, rfl, hC, _⟩ := hv
    have h1 := hlt u hu g (by rw [e]; rfl)
    omega
  refine ⟨by simp [h.len], fun j u q hu hq => ?_, fun i j u q hu hq hij => ?_⟩
  · rcases Nat.lt_or_ge j vs.length with hj | hj
    · rw [List.getElem?_append_left hj] at hu
      rw [List.getElem?_append_left (by rw [← h.len]; exact hj)] at hq
      exact h.own j u q hu hq
    · rw [List.getElem?_append_right hj] at hu
      rw [List.getElem?_append_right (by rw [← h.len]; exact hj), ← h.len] at hq
      cases e : j - vs.length with
      | zero =>
        rw [e] at hu hq
        simp at hu hq
        subst hu hq
        exact hv.mono hBC
      | succ m => rw [e] at hu; simp at hu
  · rcases Nat.lt_or_ge i vs.length with hi | hi <;> rcases Nat.lt_or_ge j vs.length with hj | hj
    · rw [List.getElem?_append_left hi] at hu
      rw [List.getElem?_append_left hj] at hq
      exact h.apart i j u q hu hq hij
    · rw [List.getElem?_append_left hi] at hu
      have hjl : j = vs.length := by
        have := (List.getElem?_eq_some_iff.1 hq).1
        simp at this
        omega
      subst hjl
      rw [List.getElem?_append_right (Nat.le_refl _)] at hq
      simp at hq
      subst hq
      exact hnew u (List.mem_of_getElem? hu)
    · rw [List.getElem?_append_left hj] at hq
      have hil : i = vs.length := by
        have := (List.getElem?_eq_some_iff.1 hu).1
        simp at this
        omega
      subst hil
      rw [List.getElem?_append_right (Nat.le_refl _)] at hu
      simp at hu
      subst hu
      exact fun e => hnew q (List.mem_of_getElem? hq) e.symm
    · have h1 := (List.getElem?_eq_some_iff.1 hu).1
      have h2 := (List.getElem?_eq_some_iff.1 hq).1
      simp at h1 h2
      omega

/-- A list of slices of bytes, all its own. -/
def RowsFAt (w : World) (B : Nat) (v : Value) (rows : List (List UInt8)) : Prop :=
  ∃ vs, w.ownsRow B 28 1 v rows.length vs ∧ RowsF w B vs rows

theorem Try.infoBytesR : (Try.prog.info? 28).map (fun i => (i.zero, i.size, i.bytes)) = some (some (.slice none 0 0), 1, 24) := by kernel_rfl

/-- A row of slices and a row of bytes lie in unlike blocks. -/
theorem rowsF_ne {w : World} {B n : Nat} {v : Value} {xs : List Value} (hv : w.ownsRow B 28 1 v n xs) {C : Nat} {u : Value} {r : List UInt8} (hu : OwnF C w u r) : ∀ g, u.ownBlock = some g → v.ownBlock ≠ some g := by
  obtain ⟨g, cap, cur, fr, rfl, hB, hg, _⟩ := hu
  intro g' e1 e2
  simp only [Value.ownBlock, Option.some.injEq] at e1
  subst e1
  rcases hv.2 with ⟨rfl, _⟩ | ⟨g2, cap2, cur2, rfl, _, hg2, _⟩
  · simp [Value.ownBlock] at e2
  · simp only [Value.ownBlock, Option.some.injEq] at e2
    subst e2
    rw [hg] at hg2
    simp at hg2

theorem own_formR {w : World} {B e n : Nat} {v : Value} {xs : List Value} (h : w.ownsRow B e 1 v n xs) : ∃ a c, v = .slice a n c ∧ n ≤ c ∧ c ≤ maxLen := by
  rcases h.2 with ⟨e, h0⟩ | ⟨g, cap, _, e, _, _, h1, h2, _⟩
  · exact ⟨none, 0, by rw [e, h0], by omega, by unfold maxLen; omega⟩
  · exact ⟨_, _, e, h1, h2⟩

/-- The cell of number k. -/
theorem own_cellR {w : World} {B e n c : Nat} {a : Option Addr} {xs : List Value} (h : w.ownsRow B e 1 (.slice a n c) n xs) (k : Nat) (hk : k < n) : ∃ g u, a = some ⟨g, 0, none⟩ ∧ xs[k]? = some u ∧ w.cell? ⟨g, k, none⟩ = some u ∧ g < w.heap.size := by
  have h0 := h
  rcases h.2 with ⟨e, h0⟩ | ⟨g, cap, cur, e, _, hg, h1, h2, h3, h4⟩
  · omega
  · simp only [Value.slice.injEq] at e
    obtain ⟨rfl, _, rfl⟩ := e
    have hl : k < xs.length := by have := h0.1; omega
    refine ⟨g, xs[k], rfl, List.getElem?_eq_getElem hl, ?_, (Array.getElem?_eq_some_iff.1 hg).1⟩
    rw [h0.cellAt k (by omega)]
    simp [List.getElem?_eq_getElem hl]

set_option maxHeartbeats 2000000 in
theorem by_any (v : Value) (who : Int) (L : List Pr) (S : Nat → Prop) (w : World) (hR : Reg w v L S) (hw : I64 who) (hL : L.length ≤ 100000) :
    Calls Try.prog 15 #[v, .int .i64 who] w fun e w' => ∃ v', e = .returned v' ∧ RowsFAt w' w.heap.size v' (textsOf L who) ∧ Below w.heap.size w w' := by
  obtain ⟨i0, hi, hz0, hz1, hz2⟩ := info_parts Try.infoBytesR
  obtain ⟨sb, bk, bs, D, E, f, rfl, h0⟩ := hR
  have hc := h0.cellS
  have hlk := look_signed h0.signed hw (h0.at' who hw)
  have hrow := h0.rows who
  have hlen := textsOf_le L who
  have hok : ∀ t ∈ textsOf L who, t.length ≤ 65536 := fun t ht => by
    simp only [textsOf, List.mem_map] at ht
    obtain ⟨p, hp, rfl⟩ := ht
    exact (h0.ok p (List.mem_filter.1 hp).1).2.2
  clear h0
  generalize textsOf L who = rows at *
  generalize f who = fw at *
  obtain ⟨a, c, rfl, hc1, hc2⟩ := own_formR hrow
  have hcm : c ≤ 9223372036854775807 := by unfold maxLen at hc2; exact hc2
  have HROW := hid hrow
  have HOK := hid hok
  clear hrow hok
  go_enter Try.func15, Try.ntmps15
  go_wp2_with fail
  go_loopw [5, 15] (fun u i wr => ∃ (k : Nat) (vs : List Value), k ≤ rows.length ∧ i = .int .i64 (k : Int) ∧ wr.ownsRow w.heap.size 28 1 u k vs ∧ Hid (RowsF wr w.heap.size vs (rows.take k)) ∧ Below w.heap.size w wr) (fun _ i _ => rows.length - (intOf i).toNat)
  case atStart => exact ⟨0, [], by omega, rfl, World.ownsRow_nil _ _ _ _, RowsF.nil _ _, Below.refl _ _⟩
  case round =>
    obtain ⟨k, vs, hk, rfl, hown, HF, hb⟩ := hrel
    have hszr := hb.size
    by_cases hlt : k < rows.length
    · obtain ⟨g, u, rfl, hu, hcell, hg⟩ := own_cellR HROW.out k hlt
      have hr := List.getElem?_eq_getElem hlt
      have hu2 : u = .string (str8 rows[k]) := by simp only [strCells, List.getElem?_map, hr, Option.map_some, Option.some.injEq] at hu; exact hu.symm
      subst hu2
      have hrl := HOK.out rows[k] (List.getElem_mem hlt)
      have hcell' : wr.cell? ⟨g, k, none⟩ = some (.string (str8 rows[k])) := by rw [hb.cell (p := ⟨g, k, none⟩) hg]; exact hcell
      obtain ⟨cap, w1, hcv, hof, hg1, hs1⟩ := conv_fresh wr rows[k] (by unfold maxLen; omega)
      have HT := hid (show rows.take (k + 1) = rows.take k ++ [rows[k]] from List.take_succ_eq_append_getElem hlt)
      have hown1 := hown.kept hg1 (Classical.em _)
      have hbn : Below wr.heap.size wr w1 := (Below.refl _ wr).grown hg1 (Nat.le_refl _) (fun k e => by cases e)
      have hF1 := HF.out.new hbn
      have hflt := HF.out.lt
      have hvb := fun (C : Nat) (u : Value) (r : List UInt8) (hu : OwnF C w1 u r) => rowsF_ne hown1 hu
      have hle1 : w.heap.size ≤ w1.heap.size := by omega
      have HFIN : Hid (∀ v' w2, w2.ownsRow w.heap.size 28 1 v' (k + 1) (vs ++ [.slice (some ⟨wr.heap.size, 0, none⟩) rows[k].length cap]) → (w1.alloc (.cells #[.slice (some ⟨wr.heap.size, 0, none⟩) rows[k].length cap] 28)).grownBy w2 u5.ownBlock →
          RowsF w2 w.heap.size (vs ++ [.slice (some ⟨wr.heap.size, 0, none⟩) rows[k].length cap]) (rows.take (k + 1)) ∧ Below w.heap.size w w2) := fun v' w2 ho2 hg2 => by
        have hx : Spares (fun i => u5.ownBlock = some i) w1 w2 := (Spares.of_new (new_allocR w1 _)).andThen (Spares.of_grown (S := fun i => u5.ownBlock = some i) hg2 (fun k e => e)) (fun i h => .inl h)
        refine ⟨?_, ?_⟩
        · rw [HT.out]
          refine (hF1.spares hx fun u hu g' e1 e2 => ?_).snoc hszr (hof.spares hx fun g' e1 e2 => hvb _ _ _ hof g' e1 e2) (fun u hu g' e => (hflt u hu g' e).2)
          obtain ⟨j, hj⟩ := List.getElem?_of_mem hu
          have hjr : j < (rows.take k).length := by rw [← hF1.len]; exact (List.getElem?_eq_some_iff.1 hj).1
          exact hvb _ _ _ (hF1.own j u _ hj (List.getElem?_eq_getElem hjr)) g' e1 e2
        · exact (hb.trans (hbn.mono hszr)).trans (hx.below (fun i e => (hown1.lt i e).1) hle1)
      clear hF1 hflt hvb hof hcell hu hr hs1
      generalize rows[k] = r at *
      generalize str8 r = s at *
      go_wp2_with (first | (at_builtin; refine wpList_append_own_at _ rfl _ _ 35 rfl w.heap.size 28 i0 (.slice none 0 0) 1 24 Try.underlying35 hi hz0 hz1 hz2 rfl (by decide) _ _ _ rfl (hown1.alloc _) ⟨w1.heap.size, 0, none⟩ 1 1 [.slice (some ⟨wr.heap.size, 0, none⟩) r.length cap] rfl rfl (one_cell w1 _ _) ?c1 ?c2 ?c3 ?c4 ?_) | go_in)
      case c1 => intro u hu; simp at hu; subst hu; rfl
      case c2 => unfold maxLen; omega
      case c3 => omega
      case c4 => simp; omega
      · intro v' w2 hown2 hg2 _ _
        obtain ⟨f1, f2⟩ := HFIN.out v' w2 hown2 hg2
        have F1 := hid f1
        clear f1
        go_wp2
        go_roundw
        case rel => exact ⟨k + 1, _, by omega, by go_num, hown2, F1, f2⟩
        case measure => simp [intOf]; omega
    · have hke : k = rows.length := by omega
      subst hke
      have HX := HF.out
      rw [List.take_length] at HX
      have HY := hid HX
      clear HX
      go_wp2
      go_ret
      exact ⟨_, rfl, ⟨vs, hown, HY.out⟩, hb⟩

set_option maxHeartbeats 1000000 in
theorem many_any (v : Value) (who : Int) (L : List Pr) (S : Nat → Prop) (w : World) (hR : Reg w v L S) (hw : I64 who) :
    Calls Try.prog 22 #[v, .int .i64 who] w fun e w' => e = .returned (.int .i64 ((textsOf L who).length : Int)) ∧ w' = w := by
  obtain ⟨sb, bk, bs, D, E, f, rfl, h0⟩ := hR
  have hc := h0.cellS
  have hlk := look_signed h0.signed hw (h0.at' who hw)
  have hrow := h0.rows who
  clear h0
  generalize textsOf L who = rows at *
  generalize f who = fw at *
  obtain ⟨a, c, rfl, hc1, hc2⟩ := own_formR hrow
  clear hrow
  go_enter Try.func22, Try.ntmps22
  go_wp2
  go_ret
  exact ⟨rfl, rfl⟩

/-- There is no text of that number. -/
def NoSuch (n : Int) (rows : List (List UInt8)) : Prop := ¬ (0 ≤ n ∧ n < (rows.length : Int))

/-- The text of that number. -/
def Such (n : Int) (rows : List (List UInt8)) (r : List UInt8) : Prop := 0 ≤ n ∧ rows[n.toNat]? = some r

set_option maxHeartbeats 2000000 in
theorem rtext_any (v : Value) (who n : Int) (L : List Pr) (S : Nat → Prop) (w : World) (hR : Reg w v L S) (hw : I64 who) (hn : I64 n) :
    Calls Try.prog 20 #[v, .int .i64 who, .int .i64 n] w fun e w' => (NoSuch n (textsOf L who) ∧ e = .returned (.tuple #[nilS, .bool false]) ∧ w' = w) ∨
      ∃ v' r, Such n (textsOf L who) r ∧ r.length ≤ 65536 ∧ e = .returned (.tuple #[v', .bool true]) ∧ OwnF w.heap.size w' v' r ∧ Below w.heap.size w w' := by
  obtain ⟨sb, bk, bs, D, E, f, rfl, h0⟩ := hR
  have hc := h0.cellS
  have hlk := look_signed h0.signed hw (h0.at' who hw)
  have hrow := h0.rows who
  have hok : ∀ t ∈ textsOf L who, t.length ≤ 65536 := fun t ht => by
    simp only [textsOf, List.mem_map] at ht
    obtain ⟨p, hp, rfl⟩ := ht
    exact (h0.ok p (List.mem_filter.1 hp).1).2.2
  clear h0
  generalize textsOf L who = rows at *
  generalize f who = fw at *
  obtain ⟨a, c, rfl, hc1, hc2⟩ := own_formR hrow
  have hcm : c ≤ 9223372036854775807 := by unfold maxLen at hc2; exact hc2
  by_cases h1 : 0 ≤ n
  · by_cases h2 : n < (rows.length : Int)
    · obtain ⟨k, rfl⟩ := Int.eq_ofNat_of_zero_le h1
      have hlt : k < rows.length := by omega
      obtain ⟨g, u, rfl, hu, hcell, hg⟩ := own_cellR hrow k hlt
      have hr := List.getElem?_eq_getElem hlt
      have hu2 : u = .string (str8 rows[k]) := by simp only [strCells, List.getElem?_map, hr, Option.map_some, Option.some.injEq] at hu; exact hu.symm
      subst hu2
      have hrl := hok rows[k] (List.getElem_mem hlt)
      obtain ⟨cap, w1, hcv, hof, hg1, _⟩ := conv_fresh w rows[k] (by unfold maxLen; omega)
      have hbn : Below w.heap.size w w1 := (Below.refl _ w).grown hg1 (Nat.le_refl _) (fun k e => by cases e)
      have HR := hid hr
      have HOF := hid hof
      clear hrow hok hu hr hof
      generalize rows[k] = r at *
      generalize str8 r = s at *
      go_enter Try.func20, Try.ntmps20
      go_wp2
      go_ret2
      exact .inr ⟨_, r, ⟨by omega, HR.out⟩, hrl, rfl, HOF.out, hbn⟩
    · have h3 : (rows.length : Int) ≤ n := by omega
      have h4 : ¬ n < 0 := by omega
      have HN := hid (show NoSuch n rows from fun h => by omega)
      clear hrow hok
      go_enter Try.func20, Try.ntmps20
      go_wp2
      go_ret2
      exact .inl ⟨HN.out, rfl, rfl⟩
  · have h3 : n < 0 := by omega
    have HN := hid (show NoSuch n rows from fun h => by omega)
    clear hrow hok
    go_enter Try.func20, Try.ntmps20
    go_wp2
    go_ret2
    exact .inl ⟨HN.out, rfl, rfl⟩
end Go.Proofs.Ytnhgjjpjmfjmjaa
