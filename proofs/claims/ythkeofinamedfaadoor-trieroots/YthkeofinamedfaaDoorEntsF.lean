/- Slices of entries that are read; contracts of bytes.Compare and sort.Search. -/
import Derived.Test.YthkeofinamedfaaDoorAllF
import Derived.Lib.Bytealg
import Derived.Lib.UnsafeStr
namespace Go.Proofs.YthkeofinamedfaaDoor
open Go.RowKit Go.Shelf
set_option linter.unusedVariables false
set_option linter.unusedSimpArgs false
set_option maxRecDepth 20000

/-- v IS A SLICE OF THE ENTRIES xs, below block B. -/
def Ents (B : Nat) (w : World) (v : Value) (xs : List EntV) : Prop :=
  ∃ a c, v = .slice a xs.length c ∧ xs.length ≤ c ∧ c ≤ maxLen ∧ (xs ≠ [] → ∃ b off, a = some ⟨b, off, none⟩ ∧ b < B ∧ ∀ j x, xs[j]? = some x →
    w.cell? ⟨b, off + j * 2, none⟩ = some x.kv ∧ w.cell? ⟨b, off + j * 2 + 1, none⟩ = some x.vv ∧ Shows B w x.kv x.k ∧ Shows B w x.vv x.v)

theorem Ents.below {B : Nat} {w w' : World} {v : Value} {xs : List EntV} (h : Ents B w v xs) (hb : Below B w w') : Ents B w' v xs := by
  obtain ⟨a, c, hv, h1, h2, h3⟩ := h
  refine ⟨a, c, hv, h1, h2, fun hne => ?_⟩
  obtain ⟨b, off, ha, hlt, hc⟩ := h3 hne
  refine ⟨b, off, ha, hlt, fun j x hx => ?_⟩
  obtain ⟨c0, c1, s1, s2⟩ := hc j x hx
  exact ⟨by rw [hb.cell (p := ⟨b, off + j * 2, none⟩) hlt]; exact c0, by rw [hb.cell (p := ⟨b, off + j * 2 + 1, none⟩) hlt]; exact c1, s1.below hb, s2.below hb⟩

theorem Ents.mono {B B' : Nat} {w : World} {v : Value} {xs : List EntV} (h : Ents B w v xs) (hB : B ≤ B') : Ents B' w v xs := by
  obtain ⟨a, c, hv, h1, h2, h3⟩ := h
  refine ⟨a, c, hv, h1, h2, fun hne => ?_⟩
  obtain ⟨b, off, ha, hlt, hc⟩ := h3 hne
  exact ⟨b, off, ha, by omega, fun j x hx => ⟨(hc j x hx).1, (hc j x hx).2.1, (hc j x hx).2.2.1.mono hB, (hc j x hx).2.2.2.mono hB⟩⟩

theorem Ents.new {w w' : World} {v : Value} {xs : List EntV} (h : Ents w.heap.size w v xs) (hb : Below w.heap.size w w') : Ents w'.heap.size w' v xs := (h.below hb).mono hb.size

theorem Ents.len {B : Nat} {w : World} {v : Value} {xs : List EntV} (h : Ents B w v xs) : xs.length ≤ maxLen := by
  obtain ⟨a, c, hv, h1, h2, h3⟩ := h
  omega

/-- One entry. -/
theorem Ents.at {B : Nat} {w : World} {a : Option Addr} {l c : Nat} {xs : List EntV} (h : Ents B w (.slice a l c) xs) (k : Nat) (hk : k < xs.length) :
    ∃ b off ka kc va vc kb vb, a = some ⟨b, off, none⟩ ∧ b < B ∧ xs[k]? = some ⟨.slice ka kb.length kc, .slice va vb.length vc, kb, vb⟩ ∧
    w.cell? ⟨b, off + k * 2, none⟩ = some (.slice ka kb.length kc) ∧ w.cell? ⟨b, off + k * 2 + 1, none⟩ = some (.slice va vb.length vc) ∧
    Shows B w (.slice ka kb.length kc) kb ∧ Shows B w (.slice va vb.length vc) vb := by
  obtain ⟨a', c', hv, h1, h2, h3⟩ := h
  simp only [Value.slice.injEq] at hv
  obtain ⟨rfl, rfl, rfl⟩ := hv
  obtain ⟨b, off, rfl, hlt, hc⟩ := h3 (by intro e; rw [e] at hk; simp at hk)
  obtain ⟨⟨kv, vv, k', v'⟩, hx⟩ : ∃ x, xs[k]? = some x := ⟨_, List.getElem?_eq_getElem hk⟩
  obtain ⟨c0, c1, s1, s2⟩ := hc k _ hx
  simp only at c0 c1 s1 s2
  obtain ⟨ka, kc, ek, _⟩ := id s1
  obtain ⟨va, vc, ev, _⟩ := id s2
  subst ek ev
  exact ⟨b, off, ka, kc, va, vc, k', v', rfl, hlt, hx, c0, c1, s1, s2⟩

/-- The first m entries. -/
theorem Ents.take {B : Nat} {w : World} {b off l c : Nat} {xs : List EntV} (h : Ents B w (.slice (some ⟨b, off, none⟩) l c) xs) (m : Nat) (hm : m ≤ xs.length) :
    Ents B w (.slice (some ⟨b, off, none⟩) m c) (xs.take m) := by
  obtain ⟨a', c', hv, h1, h2, h3⟩ := h
  simp only [Value.slice.injEq] at hv
  obtain ⟨rfl, rfl, rfl⟩ := hv
  have hl : (xs.take m).length = m := by simp; omega
  refine ⟨_, c, by rw [hl], by rw [hl]; omega, h2, fun hne => ?_⟩
  obtain ⟨b', off', ha, hlt, hc⟩ := h3 (by intro e; rw [e] at hne; simp at hne)
  refine ⟨b', off', ha, hlt, fun j x hx => hc j x ?_⟩
  rw [List.getElem?_take] at hx
  split at hx
  · exact hx
  · cases hx

/-- Those from m on. -/
theorem Ents.drop {B : Nat} {w : World} {b off l c : Nat} {xs : List EntV} (h : Ents B w (.slice (some ⟨b, off, none⟩) l c) xs) (m : Nat) (hm : m < xs.length) :
    Ents B w (.slice (some ⟨b, off + m * 2, none⟩) (xs.length - m) (c - m)) (xs.drop m) := by
  obtain ⟨a', c', hv, h1, h2, h3⟩ := h
  simp only [Value.slice.injEq] at hv
  obtain ⟨rfl, rfl, rfl⟩ := hv
  have hl : (xs.drop m).length = xs.length - m := by simp
  refine ⟨_, c - m, by rw [hl], by rw [hl]; omega, by omega, fun hne => ?_⟩
  obtain ⟨b', off', ha, hlt, hc⟩ := h3 (by intro e; rw [e] at hm; simp at hm)
  simp only [Option.some.injEq, Addr.mk.injEq] at ha
  obtain ⟨rfl, rfl, _⟩ := ha
  refine ⟨b, off + m * 2, rfl, hlt, fun j x hx => ?_⟩
  rw [List.getElem?_drop] at hx
  have := hc (m + j) x hx
  rw [show off + (m + j) * 2 = off + m * 2 + j * 2 by omega] at this
  exact this

theorem flat_two : ∀ (xs : List EntV) (j : Nat) (x : EntV), xs[j]? = some x → (xs.flatMap EntV.two)[j * 2]? = some x.kv ∧ (xs.flatMap EntV.two)[j * 2 + 1]? = some x.vv
  | [], j, x, h => by simp at h
  | y :: xs, 0, x, h => by simp at h; subst h; simp [EntV.two]
  | y :: xs, j + 1, x, h => by
    have := flat_two xs j x (by simpa using h)
    rw [show (j + 1) * 2 = j * 2 + 2 by omega]
    simpa [EntV.two] using this

theorem Rowed.ents {B : Nat} {W : World} {sv : Value} {xs : List EntV} (h : Rowed B W sv xs) : Ents W.heap.size W sv xs := by
  rcases h.row.2 with ⟨rfl, h0⟩ | ⟨g, cap, cur, rfl, hB, hg, hr⟩
  · have : xs = [] := List.eq_nil_of_length_eq_zero h0
    subst this
    exact ⟨none, 0, rfl, Nat.le_refl _, by unfold maxLen; omega, fun h => absurd rfl h⟩
  · obtain ⟨h1, h2, h3, h4⟩ := hr
    refine ⟨_, cap, rfl, h1, h2, fun hne => ⟨g, 0, rfl, (Array.getElem?_eq_some_iff.1 hg).1, fun j x hx => ?_⟩⟩
    have hj : j < xs.length := (List.getElem?_eq_some_iff.1 hx).1
    obtain ⟨f0, f1⟩ := flat_two xs j x hx
    rw [← h4, List.getElem?_take, if_pos (by omega), Array.getElem?_toList] at f0 f1
    have hm : x ∈ xs := List.mem_of_getElem? hx
    refine ⟨?_, ?_, (h.cps x hm).1.says, (h.cps x hm).2.says⟩
    · rw [cell_of_row _ _ _ _ _ _ hg, Nat.zero_add]; exact f0
    · rw [cell_of_row _ _ _ _ _ _ hg, Nat.zero_add]; exact f1

theorem run_load8 {P : Program} (w : World) : ∀ (l : List UInt8) (a : Addr) (acc : ByteArray), (∀ j x, l[j]? = some x → w.cell? (a.add j) = some (.int .u8 x.toNat)) →
    (Extern.Bytes.loadBytes a l.length acc).run P w = .ok ⟨acc.data ++ l.toArray⟩ w
  | [], a, acc, _ => by simp [Extern.Bytes.loadBytes]
  | x :: l, a, acc, h => by
    have h0 : w.cell? a = some (.int .u8 x.toNat) := by
      have := h 0 x rfl
      simpa [Addr.add] using this
    have ih := run_load8 (P := P) w l (a.add 1) (acc.push x) (fun j y hy => by
      have := h (j + 1) y (by simpa using hy)
      have e : (a.add 1).add j = a.add (j + 1) := by
        unfold Addr.add
        by_cases hj : j = 0
        · subst hj; simp
        · simp [hj]; omega
      rw [e]; exact this)
    have hx : ((x.toNat : Int).toNat).toUInt8 = x := by simp
    simp only [List.length_cons, Extern.Bytes.loadBytes, Sem.run_bind, run_load, h0, Result.andThen, Extern.Bytes.asByte, Sem.run_pure, hx]
    rw [ih]
    congr 1
    apply ByteArray.ext
    simp [ByteArray.push]

theorem run_bytes_shows {P : Program} {B : Nat} {w : World} {v : Value} {bs : List UInt8} (h : Shows B w v bs) : (Extern.Bytes.bytesOf v).run P w = .ok ⟨bs.toArray⟩ w := by
  obtain ⟨a, c, rfl, h1, h2, hn, h3⟩ := h
  cases a with
  | none =>
    have hb : bs = [] := List.eq_nil_of_length_eq_zero (by have := hn rfl; omega)
    subst hb
    rfl
  | some ad =>
    have := run_load8 (P := P) w bs ad .empty (fun j x hj => by
      have := (by8_cells (B := B) (w := w) (ad := ad) (l := bs.length) (c := c) (bs := bs) ⟨some ad, c, rfl, h1, h2, hn, h3⟩).2 j (by8 x) (by rw [List.getElem?_map, hj]; rfl)
      exact this)
    simp only [Extern.Bytes.bytesOf]
    rw [this]
    simp [ByteArray.empty, ByteArray.emptyWithCapacity]
    rfl

theorem cmp_less : ∀ a b : List UInt8, decide (0 ≤ Lib.compareBytes a b) = !Op.bytesLess a b
  | [], [] => rfl
  | [], _ :: _ => rfl
  | _ :: _, [] => rfl
  | x :: a, y :: b => by
    have ih := cmp_less a b
    simp only [Lib.compareBytes, Op.bytesLess]
    by_cases h1 : x < y
    · simp [h1]
    · by_cases h2 : y < x
      · have : (x == y) = false := by
          rw [beq_eq_false_iff_ne]; intro e; subst e; exact absurd h2 (UInt8.lt_irrefl _)
        simp [h1, h2, this]
      · have : x = y := UInt8.le_antisymm (UInt8.not_lt.1 h2) (UInt8.not_lt.1 h1)
        subst this
        simp [UInt8.lt_irrefl, ih]

theorem cmp_range : ∀ a b : List UInt8, -1 ≤ Lib.compareBytes a b ∧ Lib.compareBytes a b ≤ 1
  | [], [] => by simp [Lib.compareBytes]
  | [], _ :: _ => by simp [Lib.compareBytes]
  | _ :: _, [] => by simp [Lib.compareBytes]
  | x :: a, y :: b => by
    have ih := cmp_range a b
    simp only [Lib.compareBytes]
    repeat' split
    all_goals omega

set_option maxHeartbeats 1000000 in
theorem compare_any (B C : Nat) (v u : Value) (bs cs : List UInt8) (w : World) (hsh : Shows B w v bs) (hsu : Shows C w u cs) :
    Calls Tryd.prog 43 #[v, u] w fun e w' => e = .returned (.int .i64 (Lib.compareBytes bs cs)) ∧ w' = w := by
  have hrun : (Extern.BytealgCompare.compare #[v, u]).run Tryd.prog w = .ok (.int .i64 (Lib.compareBytes bs cs)) w := by
    change Sem.run Tryd.prog (do pure (goInt (Extern.BytealgCompare.cmp (← Extern.Bytes.bytesOf v) (← Extern.Bytes.bytesOf u)))) w = _
    rw [Sem.run_bind, run_bytes_shows hsh]
    simp only [Result.andThen]
    rw [Sem.run_bind, run_bytes_shows hsu]
    simp only [Result.andThen, Sem.run_pure, goInt, Lib.cmp_eq]
  obtain ⟨a, c, rfl, g1, g2, gn, g3⟩ := hsh
  obtain ⟨a', c', rfl, f1, f2, fn, f3⟩ := hsu
  go_enter Tryd.func43, Tryd.ntmps43
  go_wp2
  rw [run_callFunc_extern Tryd.func67 (by kernel_rfl) (by kernel_rfl) (by kernel_rfl) (e := Extern.BytealgCompare.compare) (by kernel_rfl), hrun]
  simp only [Result.andThen]
  rw [Oper.upon_value]
  go_wp2
  go_ret
  exact ⟨rfl, rfl⟩

set_option maxHeartbeats 4000000 in
theorem search_any (g : Nat) (cb : Array Value) (n cut : Nat) (w : World) (eg : ∀ args w, (callFunc g args).run Tryd.prog w = .ok (.enter g args) w) (hsz : n < 4611686018427387904) (hcut : cut ≤ n)
    (hf : ∀ (m : Nat) (i : Nat), i < n → Calls Tryd.prog g (#[.int .i64 i] ++ cb) (w.drewN m) fun e w' => e = .returned (.bool (decide (cut ≤ i))) ∧ ∃ q, w' = (w.drewN m).drewN q) :
    Calls Tryd.prog 68 #[.int .i64 n, .func (.func g) #[] cb] w fun e w' => e = .returned (.int .i64 cut) ∧ ∃ q, w' = w.drewN q := by
  have HF := hid hf
  clear hf
  go_enter Tryd.func68, Tryd.ntmps68
  go_wp2
  go_loopg [5, 6] n (fun kx s5 s6 wr => ∃ (lo hi q : Nat), s5 = .int .i64 lo ∧ s6 = .int .i64 hi ∧ lo ≤ cut ∧ cut ≤ hi ∧ hi ≤ n ∧ hi - lo ≤ kx ∧ wr = w.drewN q)
  case atStart => exact ⟨0, n, 0, rfl, rfl, Nat.zero_le _, hcut, Nat.le_refl _, by omega, rfl⟩
  case round =>
    obtain ⟨lo, hi, q, rfl, rfl, hl, hh, hin, hg, rfl⟩ := hrel
    by_cases hlt : lo < hi
    · have hc := HF.out q ((lo + hi) / 2) (by omega)
      rw [show (((lo + hi) / 2 : Nat) : Int) = ((lo : Int) + (hi : Int)) / 2 by omega] at hc
      by_cases hp : cut ≤ (lo + hi) / 2
      · rw [decide_eq_true hp] at hc
        go_wp2_with (go_at_fn g; refine hc.mono ?_; rintro e w' ⟨rfl, nq, rfl⟩)
        go_roundg ((lo + hi) / 2 - lo)
        case measure => omega
        case rel => exact ⟨lo, (lo + hi) / 2, q + nq, rfl, by rw [show ((lo : Int) + (hi : Int)) / 2 = (((lo + hi) / 2 : Nat) : Int) by omega], hl, hp, by omega, Nat.le_refl _, by first | rfl | rw [World.drewN_drewN]⟩
      · rw [decide_eq_false hp] at hc
        go_wp2_with (go_at_fn g; refine hc.mono ?_; rintro e w' ⟨rfl, nq, rfl⟩)
        go_roundg (hi - ((lo + hi) / 2 + 1))
        case measure => omega
        case rel => exact ⟨(lo + hi) / 2 + 1, hi, q + nq, by rw [show ((lo : Int) + (hi : Int)) / 2 + 1 = (((lo + hi) / 2 + 1 : Nat) : Int) by omega], rfl, by omega, hh, hin, Nat.le_refl _, by first | rfl | rw [World.drewN_drewN]⟩
    · obtain rfl : hi = lo := by omega
      obtain rfl : cut = hi := by omega
      go_wp2
      go_ret
      exact ⟨rfl, q, rfl⟩
end Go.Proofs.YthkeofinamedfaaDoor
