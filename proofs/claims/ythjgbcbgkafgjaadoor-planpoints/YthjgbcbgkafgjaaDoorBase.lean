/- Plain facts on bytes, for the walks over package plain: nothing of the program is named here. -/
import Derived.WalkKit
import Derived.WalkLawsBesides
import Derived.WalkSpells
import Derived.Handy
import Derived.Laws.AppendOwnNone
import Derived.Laws.BytesArg
import Derived.Test.YthjgbcbgkafgjaaDoorChecked
namespace Go.Proofs.YthjgbcbgkafgjaaDoor
open Go.RowKit
set_option linter.unusedVariables false
set_option maxRecDepth 20000

theorem hid {p : Prop} (h : p) : Hid p := h
theorem htr {w w1 w2 : World} (h : Hid (Below w.heap.size w w1)) (k : Below w1.heap.size w1 w2) : Hid (Below w.heap.size w w2) := hid (by exact h.out.trans (k.mono h.out.size))

/-- A byte as a cell. -/
def by8 (u : UInt8) : Value := .int .u8 (u.toNat : Int)

/-- The lowest s bytes of n, the highest first. -/
def be (n : Nat) : Nat → List UInt8
  | 0 => []
  | s + 1 => UInt8.ofNat (n / 256 ^ s) :: be n s

theorem be_length (n : Nat) : ∀ s, (be n s).length = s
  | 0 => rfl
  | s + 1 => by simp [be, be_length n s]

theorem be_at (n : Nat) : ∀ (s j : Nat), j < s → ((be n s)[j]?.getD 0).toNat = n / 256 ^ (s - 1 - j) % 256
  | s + 1, 0, _ => by simp [be, UInt8.toNat_ofNat']
  | s + 1, j + 1, h => by
    have := be_at n s j (by omega)
    rw [be, List.getElem?_cons_succ, this]
    congr 3
    omega

theorem by8_one (bs : List UInt8) : ∀ u ∈ bs.map by8, u.oneCell' = true := by
  intro u hu
  obtain ⟨x, _, rfl⟩ := List.mem_map.1 hu
  rfl

theorem by8_shr (n m : Nat) : Value.int .u8 ((n : Int) / 2 ^ (8 * m) % 256) = by8 (UInt8.ofNat (n / 256 ^ m)) := by
  have e3 : (256 : Nat) ^ m = 2 ^ (8 * m) := by rw [Nat.pow_mul]
  rw [by8, e3]
  refine congrArg (Value.int .u8) ?_
  rw [UInt8.toNat_ofNat', show ((n : Int) / 2 ^ (8 * m)) = ((n / 2 ^ (8 * m) : Nat) : Int) from by simp]
  omega

/-- The number that bytes are, the highest first. -/
def num (bs : List UInt8) : Nat := bs.foldl (fun n c => n * 256 + c.toNat) 0

theorem num_snoc (bs : List UInt8) (c : UInt8) : num (bs ++ [c]) = num bs * 256 + c.toNat := by simp [num]

theorem num_take (bs : List UInt8) (k : Nat) (h : k < bs.length) : num (bs.take (k + 1)) = num (bs.take k) * 256 + (bs[k]?.getD 0).toNat := by
  rw [List.take_succ_eq_append_getElem h, num_snoc]
  simp [List.getElem?_eq_getElem h]

theorem num_lt (bs : List UInt8) : num bs < 256 ^ bs.length := by
  have : ∀ (n m : Nat), n < 256 ^ m → ∀ l : List UInt8, l.foldl (fun n c => n * 256 + c.toNat) n < 256 ^ (m + l.length) := by
    intro n m h l
    induction l generalizing n m with
    | nil => simpa using h
    | cons c l ih =>
      have hc := c.toNat_lt
      have := ih (n * 256 + c.toNat) (m + 1) (by rw [Nat.pow_succ]; omega)
      rw [List.foldl_cons, List.length_cons, show m + (l.length + 1) = m + 1 + l.length by omega]
      exact this
  simpa [num] using this 0 0 (by simp) bs

theorem or_byte (n : Nat) (c : UInt8) (h : n * 256 + c.toNat < 18446744073709551616) :
    bits .or .u64 (IntKind.u64.wrap ((n : Int) * 256)) (IntKind.u64.wrap (c.toNat : Int)) = ((n * 256 + c.toNat : Nat) : Int) := by
  have hc := c.toNat_lt
  have h1 : n * 256 < 18446744073709551616 := Nat.lt_of_le_of_lt (Nat.le_add_right _ _) h
  have h2 : c.toNat < 18446744073709551616 := Nat.lt_of_le_of_lt (Nat.le_add_left _ _) h
  have e1 : IntKind.u64.wrap ((n : Int) * 256) = ((n * 256 : Nat) : Int) := by rw [IntKind.wrap_u64]; omega
  have e2 : IntKind.u64.wrap (c.toNat : Int) = (c.toNat : Int) := by rw [IntKind.wrap_u64]; omega
  have e4 := bits_or_u64_nat (n * 256) c.toNat h1 h2
  rw [e1, e2, e4]
  have e3 : n * 256 ||| c.toNat = n * 256 + c.toNat := by
    have := Nat.shiftLeft_add_eq_or_of_lt (i := 8) (b := c.toNat) (by omega) n
    rw [Nat.shiftLeft_eq] at this
    exact this.symm
  rw [e3]

theorem num_lt64 (bs : List UInt8) (h : bs.length ≤ 8) : num bs < 18446744073709551616 := by
  have h1 := num_lt bs
  have h2 : (256 : Nat) ^ bs.length ≤ 256 ^ 8 := Nat.pow_le_pow_right (by omega) h
  simp only [Nat.reducePow] at h2
  omega

/-- One step of highFirst's loop, as the walk writes it. -/
theorem num_step (bs : List UInt8) (k : Nat) (h : k < bs.length) (hl : bs.length ≤ 8) :
    bits .or .u64 (IntKind.u64.wrap ((num (bs.take k) : Int) * 256)) (IntKind.u64.wrap (bs[k].toNat : Int)) = ((num (bs.take (k + 1)) : Nat) : Int) := by
  have h1 := num_take bs k h
  have h2 := num_lt64 (bs.take (k + 1)) (by simp; omega)
  rw [List.getElem?_eq_getElem h, Option.getD_some] at h1
  rw [or_byte _ _ (by omega), h1]

/-- An int as a uint64. -/
def u64of (n : Int) : Nat := (n % 18446744073709551616).toNat

theorem wrap_u64of (n : Int) : IntKind.u64.wrap n = (u64of n : Int) := by
  have h := Int.emod_nonneg n (show (18446744073709551616 : Int) ≠ 0 by decide)
  rw [IntKind.wrap_u64, u64of, Int.toNat_of_nonneg h]

theorem u64of_lt (n : Int) : u64of n < 18446744073709551616 := by
  have h := Int.emod_nonneg n (show (18446744073709551616 : Int) ≠ 0 by decide)
  have h2 := Int.emod_lt_of_pos n (show (0 : Int) < 18446744073709551616 by decide)
  have h3 : (u64of n : Int) < 18446744073709551616 := by rw [u64of, Int.toNat_of_nonneg h]; exact h2
  omega

theorem wrap_u64of_add (n : Int) : IntKind.u64.wrap (IntKind.u64.wrap n + 9223372036854775808) = (u64of (n + 9223372036854775808) : Int) := by
  rw [← wrap_u64of, IntKind.wrap_u64, IntKind.wrap_u64, IntKind.wrap_u64, Int.emod_add_emod]

theorem wrap_u64_nat (n : Nat) (h : n < 18446744073709551616) : IntKind.u64.wrap (n : Int) = (n : Int) := by
  rw [IntKind.wrap_u64]
  omega

/-- WHAT A SLICE OF BYTES SHOWS: v's elements are bs; where there are some they lie in a block below B. -/
def Shows (B : Nat) (w : World) (v : Value) (bs : List UInt8) : Prop :=
  ∃ a c, v = .slice a bs.length c ∧ bs.length ≤ c ∧ c ≤ maxLen ∧ (a = none → c = 0) ∧
    (bs ≠ [] → ∃ b off, a = some ⟨b, off, none⟩ ∧ b < B ∧ ∀ j, j < bs.length → w.cell? ⟨b, off + j, none⟩ = some (.int .u8 ((bs[j]?.getD 0).toNat : Int)))

theorem Shows.below {B : Nat} {w w' : World} {v : Value} {bs : List UInt8} (h : Shows B w v bs) (hb : Below B w w') : Shows B w' v bs := by
  obtain ⟨a, c, hv, h1, h2, hn, h3⟩ := h
  refine ⟨a, c, hv, h1, h2, hn, fun hne => ?_⟩
  obtain ⟨b, off, ha, hlt, hc⟩ := h3 hne
  exact ⟨b, off, ha, hlt, fun j hj => by rw [hb.cell (p := ⟨b, off + j, none⟩) hlt]; exact hc j hj⟩

theorem Shows.mono {B B' : Nat} {w : World} {v : Value} {bs : List UInt8} (h : Shows B w v bs) (hB : B ≤ B') : Shows B' w v bs := by
  obtain ⟨a, c, hv, h1, h2, hn, h3⟩ := h
  refine ⟨a, c, hv, h1, h2, hn, fun hne => ?_⟩
  obtain ⟨b, off, ha, hlt, hc⟩ := h3 hne
  exact ⟨b, off, ha, by omega, hc⟩

theorem Shows.alloc {B : Nat} {w : World} {v : Value} {bs : List UInt8} (h : Shows B w v bs) (hB : B ≤ w.heap.size) (o : Obj) : Shows B (w.alloc o) v bs :=
  h.below ((Below.refl B w).alloc hB o)

theorem by8_cells {B : Nat} {w : World} {ad : Addr} {l c : Nat} {bs : List UInt8} (h : Shows B w (.slice (some ad) l c) bs) :
    l = bs.length ∧ ∀ j u, (bs.map by8)[j]? = some u → w.cell? (ad.add j) = some u := by
  obtain ⟨a, c', hv, h1, h2, hn, h3⟩ := h
  simp only [Value.slice.injEq] at hv
  obtain ⟨rfl, hl, rfl⟩ := hv
  refine ⟨hl, fun j u hu => ?_⟩
  have hj : j < bs.length := by
    rcases Nat.lt_or_ge j bs.length with h | h
    · exact h
    · rw [List.getElem?_eq_none (by simpa using h)] at hu; cases hu
  obtain ⟨b, off, ha, _, hc⟩ := h3 (by intro e; rw [e] at hj; simp at hj)
  simp only [Option.some.injEq] at ha
  subst ha
  have e : (⟨b, off, none⟩ : Addr).add j = ⟨b, off + j, none⟩ := by unfold Addr.add; split <;> simp_all
  rw [e, hc j hj]
  rw [List.getElem?_map, List.getElem?_eq_getElem hj] at hu
  simp only [Option.map_some, Option.some.injEq] at hu
  rw [← hu, List.getElem?_eq_getElem hj]
  rfl

/-- The first n bytes of what is shown. -/
theorem Shows.take {B : Nat} {w : World} {b off l c : Nat} {bs : List UInt8} (h : Shows B w (.slice (some ⟨b, off, none⟩) l c) bs) (n : Nat) (hn : n ≤ bs.length) :
    Shows B w (.slice (some ⟨b, off, none⟩) n c) (bs.take n) := by
  obtain ⟨a, c', hv, h1, h2, _, h3⟩ := h
  simp only [Value.slice.injEq] at hv
  obtain ⟨rfl, hl, rfl⟩ := hv
  have hlen : (bs.take n).length = n := by simp; omega
  refine ⟨_, c, by rw [hlen], by rw [hlen]; omega, h2, (fun e => by cases e), fun hne => ?_⟩
  obtain ⟨b', off', ha, hb, hc⟩ := h3 (by intro e; rw [e] at hne; simp at hne)
  refine ⟨b', off', ha, hb, fun j hj => ?_⟩
  rw [hc j (by rw [hlen] at hj; omega), List.getElem?_take, if_pos (by rw [hlen] at hj; exact hj)]

/-- What is shown from byte n on, as a slice expression writes it. -/
theorem Shows.drop {B : Nat} {w : World} {b off l c : Nat} {bs : List UInt8} (h : Shows B w (.slice (some ⟨b, off, none⟩) l c) bs) (n : Nat) (hn : n < bs.length) :
    Shows B w (.slice (some ⟨b, off + n, none⟩) (bs.length - n) (c - n)) (bs.drop n) := by
  obtain ⟨a, c', hv, h1, h2, _, h3⟩ := h
  simp only [Value.slice.injEq] at hv
  obtain ⟨rfl, hl, rfl⟩ := hv
  have hlen : (bs.drop n).length = bs.length - n := by simp
  refine ⟨_, c - n, by rw [hlen], by rw [hlen]; omega, by omega, (fun e => by cases e), fun hne => ?_⟩
  obtain ⟨b', off', ha, hb, hc⟩ := h3 (by intro e; rw [e] at hn; simp at hn)
  simp only [Option.some.injEq, Addr.mk.injEq] at ha
  obtain ⟨rfl, rfl, _⟩ := ha
  refine ⟨b, off + n, rfl, hb, fun j hj => ?_⟩
  rw [Nat.add_assoc, hc (n + j) (by rw [hlen] at hj; omega), List.getElem?_drop]

/-- A middle part of what is shown. -/
theorem Shows.mid {B : Nat} {w : World} {b off l c : Nat} {bs : List UInt8} (h : Shows B w (.slice (some ⟨b, off, none⟩) l c) bs) (lo n : Nat) (hn : lo + n ≤ bs.length) :
    Shows B w (.slice (some ⟨b, off + lo, none⟩) n (c - lo)) ((bs.drop lo).take n) := by
  obtain ⟨a, c', hv, h1, h2, _, h3⟩ := h
  simp only [Value.slice.injEq] at hv
  obtain ⟨rfl, hl, rfl⟩ := hv
  have hlen : ((bs.drop lo).take n).length = n := by simp; omega
  refine ⟨_, c - lo, by rw [hlen], by rw [hlen]; omega, by omega, (fun e => by cases e), fun hne => ?_⟩
  have hn0 : 0 < n := by rcases Nat.eq_zero_or_pos n with e | e; (rw [e] at hne; simp at hne); exact e
  obtain ⟨b', off', ha, hb, hc⟩ := h3 (by intro e; rw [e] at hn; simp at hn; omega)
  simp only [Option.some.injEq, Addr.mk.injEq] at ha
  obtain ⟨rfl, rfl, _⟩ := ha
  refine ⟨b, off + lo, rfl, hb, fun j hj => ?_⟩
  rw [hlen] at hj
  rw [Nat.add_assoc, hc (lo + j) (by omega), List.getElem?_take, if_pos hj, List.getElem?_drop]

/-- An empty slice that is not nil shows nothing. -/
theorem Shows.empty (B : Nat) (w : World) (ad : Addr) (c : Nat) (hc : c ≤ maxLen) : Shows B w (.slice (some ad) 0 c) [] :=
  ⟨some ad, c, rfl, Nat.zero_le _, hc, (fun e => by cases e), fun h => absurd rfl h⟩

/-- append(dst, src...): dst the call's own, src whatever slice of bytes that is shown. -/
theorem wpList_append_shows {P : Program} (w : World) {ops : Array Oper} {rest : List Oper} {o : Oper} {a : Act} {Q : Exit → Act → World → Prop} (hgd : o.guard = none) (s x : Operand) (t : TypeId)
    (ho : o.op = .call { callee := .builtin .append, args := #[s, x], argTypes := #[t, t] })
    (base : Nat) (e : TypeId) (i : TypeInfo) (ht : P.underlying t = some (.slice e)) (hi : P.info? e = some i) (hz : i.zero = some (.int .u8 0))
    (hsize : i.size = 1) (hby : i.bytes = 1)
    (v : Value) (n : Nat) (xs : List Value) (hs : a.eval s = v) (hown : w.ownsRow base e 1 v n xs)
    (B : Nat) (vx : Value) (bs : List UInt8) (hx : a.eval x = vx) (hsh : Shows B w vx bs)
    (hbytes : n + bs.length ≤ 140737488355328) (hbase : base ≤ w.heap.size)
    (h : ∀ v' w', w'.ownsRow base e 1 v' (n + bs.length) (xs ++ bs.map by8) → w.grownBy w' v.ownBlock → (v' = .slice none 0 0 → v = .slice none 0 0) → wpList P ops Q rest (a.put o.dst v') w') : wpList P ops Q (o :: rest) a w := by
  have hsh' := hsh
  obtain ⟨ao, c, rfl, h1, h2, hn, h3⟩ := hsh
  cases ao with
  | none =>
    have hc := hn rfl
    subst hc
    have hb : bs = [] := List.eq_nil_of_length_eq_zero (by omega)
    subst hb
    refine wpList_append_own_none hgd s x t ho base e i 1 ht hi v n xs hs hown hx ?_
    exact h v w (by simpa using hown) (World.grownBy.refl w _) id
  | some ad =>
    refine wpList_append_own w hgd s x t ho base e i (.int .u8 0) 1 1 ht hi hz hsize hby rfl (by decide) v n xs hs hown ad bs.length c (bs.map by8) hx (by simp) (by8_cells hsh').2 (by8_one bs) (by unfold maxLen; omega) (by omega) hbase ?_
    intro v' w' ho' hg hnil
    exact h v' w' ho' hg fun e => (hnil.1 e).1

/-- The string of bytes. -/
def str8 (bs : List UInt8) : ByteArray := ⟨bs.toArray⟩

theorem strOfNums_bytes (bs : List UInt8) : strOfNums (bs.map fun u => (u.toNat : Int)) = str8 bs := by
  unfold strOfNums str8
  congr 2
  rw [List.map_map]
  conv => rhs; rw [← List.map_id bs]
  exact List.map_congr_left fun u _ => by simp

/-- string(v) of what is shown. -/
theorem run_string_shows {P : Program} (t e d : TypeId) (ht : P.underlying t = some (.slice e)) (he : P.underlying e = some (.int .u8)) (hd : P.underlying d = some .string)
    {B : Nat} {w : World} {v : Value} {bs : List UInt8} (h : Shows B w v bs) : (convert t d v).run P w = .ok (.string (str8 bs)) w := by
  obtain ⟨a, c, rfl, h1, h2, hn, h3⟩ := h
  by_cases hb : bs = []
  · subst hb
    cases a with
    | none => exact run_convert_bytes_nil w t e ht he 0 c d hd
    | some ad =>
      rw [run_convert_bytes_string w t d e _ _ c ht he hd]
      simp [Conv.bytesToString, loadCells, loadCellsFrom]
      rfl
  · obtain ⟨b, off, rfl, hlt, hc⟩ := h3 hb
    have := run_convert_bytes_arg (P := P) w t e ht he b off bs.length c (bs.map fun u => (u.toNat : Int)) (by simp) (fun i hi => by rw [hc i hi]; simp [List.getElem?_eq_getElem hi]) d hd
    rw [this, strOfNums_bytes]

/-- What is owned is shown. -/
theorem shows_of_owns {w : World} {B : Nat} {e : TypeId} {v : Value} {n : Nat} {bs : List UInt8} (h : w.ownsRow B e 1 v n (bs.map by8)) : n = bs.length ∧ Shows w.heap.size w v bs := by
  have hl : n = bs.length := by simpa using h.1.symm
  subst hl
  refine ⟨rfl, ?_⟩
  have hc := h
  rcases h.2 with ⟨rfl, hn⟩ | ⟨g, cap, cur, rfl, hb, hg, hnc, hcm, hcs, ht⟩
  · exact ⟨none, 0, by rw [hn], by omega, by unfold maxLen; omega, fun _ => rfl, fun hne => absurd (List.eq_nil_of_length_eq_zero hn) hne⟩
  · refine ⟨_, cap, rfl, hnc, hcm, (fun e => by cases e), fun _ => ⟨g, 0, rfl, (Array.getElem?_eq_some_iff.1 hg).1, fun j hj => ?_⟩⟩
    have := hc.cellAt j (by omega)
    rw [Nat.zero_add, this, List.getElem?_map, List.getElem?_eq_getElem hj]
    rfl

theorem one_cell (w : World) (v : Value) (e : TypeId) : ∀ (j : Nat) (u : Value), [v][j]? = some u → (w.alloc (.cells #[v] e)).cell? ((⟨w.heap.size, 0, none⟩ : Addr).add j) = some u := by
  intro j u hj
  match j, hj with
  | 0, hj => simp at hj; subst hj; simp [Addr.add]

theorem two_cells (w : World) (v v' : Value) (e : TypeId) : ∀ (j : Nat) (u : Value), [v, v'][j]? = some u → (w.alloc (.cells #[v, v'] e)).cell? ((⟨w.heap.size, 0, none⟩ : Addr).add j) = some u := by
  intro j u hj
  match j, hj with
  | 0, hj => simp at hj; subst hj; simp [Addr.add]
  | 1, hj => simp at hj; subst hj; simp [Addr.add]

end Go.Proofs.YthjgbcbgkafgjaaDoor

/- Contract of plain.appendHighFirst: the bytes of n, the highest first, are put behind an owned row. -/

namespace Go.Proofs.YthjgbcbgkafgjaaDoor
open Go.RowKit
set_option linter.unusedVariables false
set_option maxRecDepth 20000

theorem Tryd.infoU8 : (Tryd.prog.info? 5).map (fun i => (i.zero, i.size, i.bytes)) = some (some (.int .u8 0), 1, 1) := by kernel_rfl

set_option maxHeartbeats 400000 in
theorem high_any (B : Nat) (v : Value) (k : Nat) (xs : List Value) (n s : Nat) (w : World) (hB : B ≤ w.heap.size)
    (hown : w.ownsRow B 5 1 v k xs) (hn : n < 18446744073709551616) (hs : s ≤ 8) (hk : k ≤ 70368744177664) :
    Calls Tryd.prog 48 #[v, .int .u64 n, .int .i64 s] w fun e w' => ∃ v', e = .returned v' ∧ w'.ownsRow B 5 1 v' (k + s) (xs ++ (be n s).map by8) ∧ Below B w w' := by
  obtain ⟨i0, hi, hz0, hz1, hz2⟩ := info_parts Tryd.infoU8
  go_enter Tryd.func48, Tryd.ntmps48
  go_wp2
  go_loopw [0, 7] (fun u i wr => ∃ (m : Nat) (pre : List UInt8), m ≤ s ∧ i = .int .i64 ((m : Int) - 1) ∧ pre ++ be n m = be n s ∧ pre.length + m = s ∧ wr.ownsRow B 5 1 u (k + pre.length) (xs ++ pre.map by8) ∧ Below B w wr) (fun _ i _ => (intOf i + 1).toNat)
  case atStart => exact ⟨s, [], Nat.le_refl _, rfl, rfl, by simp, by simpa using hown, Below.refl _ _⟩
  case round =>
    obtain ⟨m, pre, hm, rfl, hpre, hlen, hownr, hbel⟩ := hrel
    have hsz := hbel.size
    rcases m with _ | m
    · go_wp2
      go_ret
      refine ⟨_, rfl, ?_, hbel⟩
      have e1 : pre.length = s := by simpa using hlen
      have e2 : pre = be n s := by simpa [be] using hpre
      rw [e1, e2] at hownr
      exact hownr
    · have HP := hid hpre
      have HL := hid hlen
      clear hpre hlen
      have hb8 := hid (by8_shr n m)
      go_wp2_with (first
        | (at_builtin; refine wpList_append_own _ rfl _ _ 29 rfl B 5 i0 (.int .u8 0) 1 1 Tryd.underlying29 hi hz0 hz1 hz2 rfl (by decide) _ _ _ rfl (hownr.alloc _) ⟨wr.heap.size, 0, none⟩ 1 1 [.int .u8 ((n : Int) / 2 ^ (8 * m) % 256)] rfl rfl ?c1 ?c2 ?c3 ?c4 ?c5 ?_)
        | go_in)
      case c1 =>
        intro j u hj
        match j, hj with
        | 0, hj => simp at hj; subst hj; simp [Addr.add]
      case c2 => intro u hu; simp at hu; subst hu; rfl
      case c3 => have := HL.out; unfold maxLen; omega
      case c4 => have := HL.out; omega
      case c5 => simp; omega
      · intro v' w1 hown' hgrow _
        rw [hb8.out] at hown'
        have hb2 : Below B w w1 := (hbel.alloc (by omega) _).grown hgrow (by simp; omega) (fun q hq => (hownr.lt q hq).1)
        go_wp2
        go_roundw
        case rel =>
          refine ⟨m, pre ++ [UInt8.ofNat (n / 256 ^ m)], by omega, by go_num, by have := HP.out; rw [← this]; simp [be], by have := HL.out; simp; omega, ?_, hb2⟩
          have e : k + (pre ++ [UInt8.ofNat (n / 256 ^ m)]).length = k + pre.length + 1 := by simp; omega
          rw [e]
          simpa using hown'
        case measure => simp [intOf]

/-- The same, where the arguments are typed otherwise. -/
theorem high_at (B : Nat) (v : Value) (k : Nat) (xs : List Value) (nn si : Int) (n s : Nat) (w : World) (hnn : nn = (n : Int)) (hsi : si = (s : Int)) (hB : B ≤ w.heap.size)
    (hown : w.ownsRow B 5 1 v k xs) (hn : n < 18446744073709551616) (hs : s ≤ 8) (hk : k ≤ 70368744177664) :
    Calls Tryd.prog 48 #[v, .int .u64 nn, .int .i64 si] w fun e w' => ∃ v', e = .returned v' ∧ w'.ownsRow B 5 1 v' (k + s) (xs ++ (be n s).map by8) ∧ Below B w w' := by
  subst hnn hsi
  exact high_any B v k xs n s w hB hown hn hs hk
end Go.Proofs.YthjgbcbgkafgjaaDoor

/- Contract of plain.highFirst: the number that at most eight bytes are. -/

namespace Go.Proofs.YthjgbcbgkafgjaaDoor
open Go.RowKit
set_option linter.unusedVariables false
set_option maxRecDepth 20000

end Go.Proofs.YthjgbcbgkafgjaaDoor

/- Contracts of plain.Num, plain.NumKey, plain.appendBlob, plain.takeCount, bytes.Clone, plain.TakeBlob. -/

namespace Go.Proofs.YthjgbcbgkafgjaaDoor
open Go.RowKit
set_option linter.unusedVariables false
set_option maxRecDepth 20000

set_option maxHeartbeats 400000 in
theorem numKey_any (n : Int) (w : World) :
    Calls Tryd.prog 42 #[.int .i64 n] w fun e w' => ∃ v', e = .returned v' ∧ w'.ownsRow w.heap.size 5 1 v' 8 ((be (u64of (n + 9223372036854775808)) 8).map by8) ∧ Below w.heap.size w w' := by
  have HU := hid (wrap_u64of_add n)
  have hlt := u64of_lt (n + 9223372036854775808)
  go_enter Tryd.func42, Tryd.ntmps42
  go_wp2_with fail
  refine (high_at w.heap.size _ 0 [] _ _ (u64of (n + 9223372036854775808)) 8 w HU.out rfl (Nat.le_refl _) (World.ownsRow_nil _ _ _ _) hlt (by omega) (by omega)).mono ?_
  rintro e w' ⟨v', rfl, hown, hbel⟩
  go_wp2
  go_ret
  exact ⟨_, rfl, by simpa using hown, hbel⟩

/-- A blob's bytes. -/
def blob (bs : List UInt8) : List UInt8 := be bs.length 4 ++ bs

theorem blob_length (bs : List UInt8) : (blob bs).length = 4 + bs.length := by simp [blob, be_length]

end Go.Proofs.YthjgbcbgkafgjaaDoor

/- Contract of plain.Row. -/

namespace Go.Proofs.YthjgbcbgkafgjaaDoor
open Go.RowKit
set_option linter.unusedVariables false
set_option maxRecDepth 20000

/-- WHAT A SLICE OF SLICES OF BYTES SHOWS. -/
def Lists (B : Nat) (w : World) (v : Value) (rows : List (List UInt8)) : Prop :=
  ∃ (a : Option Addr) (c : Nat) (vs : List Value), v = .slice a rows.length c ∧ rows.length ≤ c ∧ c ≤ maxLen ∧ vs.length = rows.length ∧
    (rows ≠ [] → ∃ b off, a = some ⟨b, off, none⟩ ∧ b < B ∧ ∀ (j : Nat) (u : Value), vs[j]? = some u → w.cell? ⟨b, off + j, none⟩ = some u) ∧
    ∀ (j : Nat) (u : Value) (r : List UInt8), vs[j]? = some u → rows[j]? = some r → Shows B w u r

theorem Lists.below {B : Nat} {w w' : World} {v : Value} {rows : List (List UInt8)} (h : Lists B w v rows) (hb : Below B w w') : Lists B w' v rows := by
  obtain ⟨a, c, vs, hv, h1, h2, h3, h4, h5⟩ := h
  refine ⟨a, c, vs, hv, h1, h2, h3, fun hne => ?_, fun j u r hu hr => (h5 j u r hu hr).below hb⟩
  obtain ⟨b, off, ha, hlt, hc⟩ := h4 hne
  exact ⟨b, off, ha, hlt, fun j u hu => by rw [hb.cell (p := ⟨b, off + j, none⟩) hlt]; exact hc j u hu⟩

/-- One element, as a walk reads it. -/
theorem Lists.at {B : Nat} {w : World} {a : Option Addr} {l c : Nat} {rows : List (List UInt8)} (h : Lists B w (.slice a l c) rows) (k : Nat) (hk : k < rows.length) :
    ∃ b off ak ck, a = some ⟨b, off, none⟩ ∧ w.cell? ⟨b, off + k, none⟩ = some (.slice ak (rows[k]?.getD []).length ck) ∧ Shows B w (.slice ak (rows[k]?.getD []).length ck) (rows[k]?.getD []) := by
  obtain ⟨a', c', vs, hv, h1, h2, h3, h4, h5⟩ := h
  simp only [Value.slice.injEq] at hv
  obtain ⟨rfl, _, _⟩ := hv
  obtain ⟨b, off, ha, hlt, hc⟩ := h4 (by intro e; rw [e] at hk; simp at hk)
  have hv := hc k (vs[k]'(by omega)) (List.getElem?_eq_getElem _)
  have hs := h5 k (vs[k]'(by omega)) rows[k] (List.getElem?_eq_getElem _) (List.getElem?_eq_getElem _)
  have hs2 := hs
  obtain ⟨ak, ck, e, _⟩ := hs
  rw [e] at hv hs2
  refine ⟨b, off, ak, ck, ha, ?_, ?_⟩
  · simpa [List.getElem?_eq_getElem hk] using hv
  · simpa [List.getElem?_eq_getElem hk] using hs2

/-- How many bytes the first blobs have. -/
def wide (rows : List (List UInt8)) : Nat := (rows.map fun r => 4 + r.length).sum

theorem wide_snoc (rows : List (List UInt8)) (r : List UInt8) : wide (rows ++ [r]) = wide rows + (4 + r.length) := by simp [wide]

theorem wide_take (rows : List (List UInt8)) (k : Nat) (h : k < rows.length) : wide (rows.take (k + 1)) = wide (rows.take k) + (4 + (rows[k]?.getD []).length) := by
  rw [List.take_succ_eq_append_getElem h, wide_snoc]
  simp [List.getElem?_eq_getElem h]

/-- The blobs, one behind another. -/
def blobs (rows : List (List UInt8)) : List UInt8 := (rows.map blob).flatten

theorem blobs_take (rows : List (List UInt8)) (k : Nat) (h : k < rows.length) : blobs (rows.take (k + 1)) = blobs (rows.take k) ++ blob (rows[k]?.getD []) := by
  rw [List.take_succ_eq_append_getElem h, blobs, List.map_append, List.flatten_append, List.getElem?_eq_getElem h]
  simp only [blobs, List.map_cons, List.map_nil, List.flatten_cons, List.flatten_nil, List.append_nil, Option.getD_some]

theorem blobs_length (rows : List (List UInt8)) : (blobs rows).length = wide rows := by
  induction rows with
  | nil => rfl
  | cons r rows ih => simp [blobs, wide, blob_length] at ih ⊢; omega

/-- Are all blobs short enough? -/
def fits (rows : List (List UInt8)) : Prop := ∀ r ∈ rows, r.length ≤ 65536

theorem wide_le (rows : List (List UInt8)) (h : fits rows) : wide rows ≤ rows.length * 65540 := by
  induction rows with
  | nil => simp [wide]
  | cons r rows ih =>
    have h1 := h r (by simp)
    have h2 := ih fun x hx => h x (by simp [hx])
    simp [wide] at h2 ⊢
    omega

/-- The row's bytes. -/
def rowBytes (rows : List (List UInt8)) : List UInt8 := be rows.length 4 ++ blobs rows

/-- Row's answer: the error, the bytes. -/
def rowOf (rows : List (List UInt8)) : Nat × List UInt8 :=
  if 4096 < rows.length ∨ ∃ m, m < rows.length ∧ 65536 < (rows[m]?.getD []).length then (2, []) else (0, rowBytes rows)

theorem rowOf_ok (rows : List (List UInt8)) (h : (rowOf rows).1 = 0) : rows.length ≤ 4096 ∧ fits rows ∧ rowOf rows = (0, rowBytes rows) := by
  unfold rowOf at h ⊢
  split at h
  · simp at h
  · rename_i hn
    rw [if_neg hn]
    refine ⟨by omega, fun r hr => ?_, rfl⟩
    obtain ⟨j, hj, rfl⟩ := List.getElem_of_mem hr
    rcases Nat.lt_or_ge 65536 rows[j].length with h1 | h1
    · exact absurd (.inr ⟨j, hj, by rw [List.getElem?_eq_getElem hj]; exact h1⟩) hn
    · exact h1

end Go.Proofs.YthjgbcbgkafgjaaDoor

/- Contracts of plain.takeCount, bytes.Clone, plain.TakeBlob. -/

namespace Go.Proofs.YthjgbcbgkafgjaaDoor
open Go.RowKit
set_option linter.unusedVariables false
set_option maxRecDepth 20000

/-- takeCount's answer: the count, the error. -/
def tcount (bs : List UInt8) (most : Nat) : Nat × Nat :=
  if bs.length < 4 then (0, 3) else if most < num (bs.take 4) then (0, 2) else (num (bs.take 4), 0)

/-- TakeBlob's answer: the error, the blob's bytes, how many bytes it takes. -/
def tblob (bs : List UInt8) : Nat × List UInt8 × Nat :=
  if (tcount bs 65536).2 ≠ 0 then ((tcount bs 65536).2, [], 0)
  else if bs.length < 4 + (tcount bs 65536).1 then (3, [], 0)
  else (0, (bs.drop 4).take (tcount bs 65536).1, 4 + (tcount bs 65536).1)

theorem tcount_ok (bs : List UInt8) (most : Nat) (h : (tcount bs most).2 = 0) : 4 ≤ bs.length ∧ (tcount bs most).1 = num (bs.take 4) ∧ (tcount bs most).1 ≤ most := by
  unfold tcount at h ⊢
  split at h
  · simp at h
  · split at h
    · simp at h
    · rename_i h1 h2
      rw [if_neg h1, if_neg h2]
      exact ⟨by omega, rfl, by omega⟩

theorem tcount_err (bs : List UInt8) (most : Nat) : (tcount bs most).2 ≤ 3 := by
  unfold tcount
  split
  · simp
  · split <;> simp

end Go.Proofs.YthjgbcbgkafgjaaDoor
