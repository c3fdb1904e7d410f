/- For every two ints, two strings and two slices of bytes, PlainOrders returns true. -/
import Derived.Test.YtknanockidellaaSmall
import Derived.Test.YtknanockidellaaOrdF
import Derived.Deep.RegionWith
import Derived.Deep.DeepCutAuto
import Derived.Lib.Strings
namespace Go.Proofs.Ytknanockidellaa
open Go.RowKit
set_option linter.unusedVariables false

theorem Shows.drew {B : Nat} {w : World} {v : Value} {bs : List UInt8} (h : Shows B w v bs) : Shows B w.drew v bs :=
  h.below ((Below.refl B w).drew)

/-- string(v) of what is shown. -/
theorem strs {B : Nat} {v : Value} {bs : List UInt8} {w : World} (h : Shows B w v bs) : (convert 22 9 v).run Try.prog w = .ok (.string (str8 bs)) w :=
  run_string_shows (P := Try.prog) 22 5 9 Try.underlying22 Try.underlying5 Try.underlying9 h

/-- A number's key. -/
def keyBytes (n : Int) : List UInt8 := be (u64of (n + 9223372036854775808)) 8
theorem keyBytes_length (n : Int) : (keyBytes n).length = 8 := be_length _ 8
theorem numKey_key (n : Int) (w : World) :
    Calls Try.prog 12 #[.int .i64 n] w fun e w' => ∃ v', e = .returned v' ∧ w'.ownsRow w.heap.size 5 1 v' 8 ((keyBytes n).map by8) ∧ Below w.heap.size w w' := numKey_any n w

theorem str8_size (bs : List UInt8) : (str8 bs).size = bs.length := by simp [str8, ByteArray.size]
theorem str8_append (a b : List UInt8) : str8 a ++ str8 b = str8 (a ++ b) := by
  rw [str8, str8, ByteArray.mk_append_mk]
  rfl

theorem key_less (n m : Int) (la lb : List UInt8) (hn : -9223372036854775808 ≤ n ∧ n ≤ 9223372036854775807) (hm : -9223372036854775808 ≤ m ∧ m ≤ 9223372036854775807) (h : n ≠ m) :
    Op.bytesLess (str8 (keyBytes n) ++ str8 la).toList (str8 (keyBytes m) ++ str8 lb).toList = decide (n < m) := by
  have e1 : u64of (n + 9223372036854775808) = (n + 9223372036854775808).toNat := by
    unfold u64of; congr 1; exact Int.emod_eq_of_lt (by omega) (by omega)
  have e2 : u64of (m + 9223372036854775808) = (m + 9223372036854775808).toNat := by
    unfold u64of; congr 1; exact Int.emod_eq_of_lt (by omega) (by omega)
  rw [str8_append, str8_append, str8, str8, ByteArray.toList_mk, ByteArray.toList_mk, keyBytes, keyBytes, e1, e2]
  have p8 : (256 : Nat) ^ 8 = 18446744073709551616 := by simp only [Nat.reducePow]
  have l := less_be (n + 9223372036854775808).toNat (m + 9223372036854775808).toNat la lb 8
  rw [p8, Nat.mod_eq_of_lt (by omega), Nat.mod_eq_of_lt (by omega)] at l
  rw [l (by omega)]
  congr 1
  rw [eq_iff_iff]
  omega

theorem tkey_size (s : ByteArray) (h : s.size ≤ 65536) : (str8 (tkey s.data.toList)).size ≤ 131074 := by
  have h1 := escs_le s.data.toList
  have h2 : s.data.toList.length = s.size := by rw [Array.length_toList]; rfl
  rw [str8_size, tkey, List.length_append]
  simp only [List.length_cons, List.length_nil]
  omega

theorem text_less (s t : ByteArray) (la lb : List UInt8) (h : s.toList ≠ t.toList) :
    Op.bytesLess (str8 (tkey s.data.toList) ++ str8 la).toList (str8 (tkey t.data.toList) ++ str8 lb).toList = Op.bytesLess s.toList t.toList := by
  rw [str8_append, str8_append, str8, str8, ByteArray.toList_mk, ByteArray.toList_mk, ByteArray.toList_eq, ByteArray.toList_eq]
  rw [ByteArray.toList_eq, ByteArray.toList_eq] at h
  exact less_tkey' _ _ la lb h

/-- Where the keys' lengths let it be asked: does one begin with the other? -/
theorem text_begins (s t : ByteArray) :
    (s.toList = t.toList → (str8 (tkey s.data.toList)).size ≤ (str8 (tkey t.data.toList)).size ∧ (((str8 (tkey t.data.toList)).extract 0 (str8 (tkey s.data.toList)).size).toList == (str8 (tkey s.data.toList)).toList) = true) ∧
    (s.toList ≠ t.toList → (str8 (tkey s.data.toList)).size ≤ (str8 (tkey t.data.toList)).size → (((str8 (tkey t.data.toList)).extract 0 (str8 (tkey s.data.toList)).size).toList == (str8 (tkey s.data.toList)).toList) = false) := by
  rw [ByteArray.toList_eq s, ByteArray.toList_eq t]
  generalize s.data.toList = x
  generalize t.data.toList = y
  have e : ((str8 (tkey y)).extract 0 (str8 (tkey x)).size).toList = (tkey y).take (tkey x).length := by
    rw [Lib.extract_toList, str8_size]
    simp [str8]
  have e2 : (str8 (tkey x)).toList = tkey x := by rw [str8, ByteArray.toList_mk]
  rw [e, e2, str8_size, str8_size]
  constructor
  · intro h
    subst h
    exact ⟨Nat.le_refl _, by rw [List.take_length]; simp⟩
  · intro h hle
    rw [beq_eq_false_iff_ne]
    intro h2
    apply h
    refine tkey_begins x y ((tkey y).drop (tkey x).length) ?_
    conv => lhs; rw [← List.take_append_drop (tkey x).length (tkey y), h2]

set_option maxHeartbeats 2000000 in
theorem orders_long (n m : Int) (s t : ByteArray) (va vb : Value) (la lb : List UInt8) (w : World) (ha : Shows w.heap.size w va la) (hb : Shows w.heap.size w vb lb) (hs : s.size ≤ 9223372036854775807) (ht : t.size ≤ 9223372036854775807)
    (h : 65536 < s.size ∨ 65536 < t.size ∨ 65536 < la.length ∨ 65536 < lb.length) :
    Calls Try.prog 8 #[.int .i64 n, .int .i64 m, .string s, .string t, va, vb] w fun e w' => e = .returned (.bool true) ∧ Below w.heap.size w w' := by
  obtain ⟨aa, ca, rfl, a1, a2, an, a3⟩ := ha
  obtain ⟨ab, cb, rfl, b1, b2, bn, b3⟩ := hb
  unfold maxLen at a2 b2
  go_enter Try.func8, Try.ntmps8
  go_wp2_with fail
  refine (small_any w).mono ?_
  rintro e w1 ⟨rfl, hb1⟩
  by_cases h1 : 65536 < s.size
  · go_wp2
    go_ret
    exact ⟨rfl, hb1⟩
  · by_cases h2 : 65536 < t.size
    · go_wp2
      go_ret
      exact ⟨rfl, hb1⟩
    · by_cases h3 : 65536 < la.length
      · go_wp2
        go_ret
        exact ⟨rfl, hb1⟩
      · have h4 : 65536 < lb.length := by omega
        go_wp2
        go_ret
        exact ⟨rfl, hb1⟩

set_option maxRecDepth 100000 in
set_option maxHeartbeats 4000000 in
theorem orders_short (n m : Int) (s t : ByteArray) (aa ab : Option Addr) (ca cb : Nat) (la lb : List UInt8) (w : World) (ha : Shows w.heap.size w (.slice aa la.length ca) la) (hb : Shows w.heap.size w (.slice ab lb.length cb) lb) (hs : s.size ≤ 65536) (ht : t.size ≤ 65536)
    (hla : la.length ≤ 65536) (hlb : lb.length ≤ 65536) (hn : Hid (-9223372036854775808 ≤ n ∧ n ≤ 9223372036854775807)) (hm : Hid (-9223372036854775808 ≤ m ∧ m ≤ 9223372036854775807)) :
    Calls Try.prog 8 #[.int .i64 n, .int .i64 m, .string s, .string t, .slice aa la.length ca, .slice ab lb.length cb] w fun e w' => e = .returned (.bool true) ∧ Below w.heap.size w w' := by
  go_enter Try.func8, Try.ntmps8
  go_wp2_with fail
  refine (small_any w).mono ?_
  rintro e w1 ⟨rfl, hb1⟩
  have hsz1 := hb1.size
  have HA := hid ha
  have HB := hid hb
  clear ha hb
  go_wp2_with fail
  go_cut [14] (fun u wx => u = .string (str8 (keyBytes n) ++ str8 la) ∧ Below w.heap.size w wx)
  case first =>
    have hsA := strs (HA.out.below hb1).drew
    have hz1 : (str8 la).size = la.length := str8_size la
    have hz2 : (str8 (keyBytes n)).size = 8 := by rw [str8_size, keyBytes_length]
    go_region_with (first | (go_at_call 12; refine (numKey_key n _).mono ?_; rintro e w2 ⟨v2, rfl, hown2, hbel2⟩; have hsA2 := strs ((HA.out.below hb1).drew.below (hbel2.mono hsz1)); have hs2 := strs (shows_of_owns hown2).2; have hb2 := hb1.drew.trans (hbel2.mono hsz1)))
    all_goals (go_wp2_with fail; go_meet)
    all_goals exact ⟨rfl, hb2⟩
  case rest =>
    obtain ⟨rfl, hbc⟩ := hcut
    clear hb1 hsz1
    have hszc := hbc.size
    go_wp2_with fail
    go_cut [15] (fun u wx => u = .string (str8 (keyBytes m) ++ str8 lb) ∧ Below w.heap.size w wx)
    case first =>
      have hsB := strs (HB.out.below hbc).drew
      have hz1 : (str8 lb).size = lb.length := str8_size lb
      have hz2 : (str8 (keyBytes m)).size = 8 := by rw [str8_size, keyBytes_length]
      go_region_with (first | (go_at_call 12; refine (numKey_key m _).mono ?_; rintro e w2 ⟨v2, rfl, hown2, hbel2⟩; have hsA2 := strs ((HB.out.below hbc).drew.below (hbel2.mono hszc)); have hs2 := strs (shows_of_owns hown2).2; have hb2 := hbc.drew.trans (hbel2.mono hszc)))
      all_goals (go_wp2_with fail; go_meet)
      all_goals exact ⟨rfl, hb2⟩
    case rest =>
      obtain ⟨rfl, hbd⟩ := hcut
      clear hbc hszc
      have hsz2 := hbd.size
      go_upto_region 6 with fail
      go_cut [16] (fun u wx => u = .bool true ∧ wx = wc)
      case first =>
        by_cases hnm : n = m
        · have hnm' : (n == m) = true := by rw [beq_iff_eq]; exact hnm
          clear hnm
          go_wp2_with fail
          go_meet
          case rel => exact ⟨rfl, rfl⟩
        · have hnm' : (n == m) = false := by rw [beq_eq_false_iff_ne]; exact hnm
          have hl := key_less n m la lb hn.out hm.out hnm
          clear hnm
          go_wp2_with fail
          go_meet
          case rel => exact ⟨rfl, rfl⟩
      case rest =>
        obtain ⟨rfl, rfl⟩ := hcut
        go_wp2_with fail
        go_cut [17] (fun u wx => u = .string (str8 (tkey s.data.toList) ++ str8 la) ∧ Below w.heap.size w wx)
        case first =>
          have hsA := strs (HA.out.below hbd).drew
          have hz1 : (str8 la).size = la.length := str8_size la
          have hz2 := tkey_size s hs
          go_region_with (first | (go_at_call 21; refine (textKey_any s _ (by omega)).mono ?_; rintro e w2 ⟨v2, rfl, hown2, hbel2⟩; have hsA2 := strs ((HA.out.below hbd).drew.below (hbel2.mono hsz2)); have hs2 := strs (shows_of_owns hown2).2; have hb2 := hbd.drew.trans (hbel2.mono hsz2)))
          all_goals (go_wp2_with fail; go_meet)
          all_goals exact ⟨rfl, hb2⟩
        case rest =>
          obtain ⟨rfl, hbe⟩ := hcut
          clear hbd hsz2
          have hsz3 := hbe.size
          go_wp2_with fail
          go_cut [18] (fun u wx => u = .string (str8 (tkey t.data.toList) ++ str8 lb) ∧ Below w.heap.size w wx)
          case first =>
            have hsB := strs (HB.out.below hbe).drew
            have hz1 : (str8 lb).size = lb.length := str8_size lb
            have hz2 := tkey_size t ht
            go_region_with (first | (go_at_call 21; refine (textKey_any t _ (by omega)).mono ?_; rintro e w2 ⟨v2, rfl, hown2, hbel2⟩; have hsA2 := strs ((HB.out.below hbe).drew.below (hbel2.mono hsz3)); have hs2 := strs (shows_of_owns hown2).2; have hb2 := hbe.drew.trans (hbel2.mono hsz3)))
            all_goals (go_wp2_with fail; go_meet)
            all_goals exact ⟨rfl, hb2⟩
          case rest =>
            obtain ⟨rfl, hbf⟩ := hcut
            clear hbe hsz3
            have hsz4 := hbf.size
            go_upto_region 9 with fail
            go_cut [19] (fun u wx => u = .bool true ∧ wx = wc)
            case first =>
              by_cases hst : s.toList = t.toList
              · have hst' : (s.toList == t.toList) = true := by rw [beq_iff_eq]; exact hst
                clear hst
                go_wp2_with fail
                go_meet
                case rel => exact ⟨rfl, rfl⟩
              · have hst' : (s.toList == t.toList) = false := by rw [beq_eq_false_iff_ne]; exact hst
                have hl := text_less s t la lb hst
                clear hst
                go_wp2_with fail
                go_meet
                case rel => exact ⟨rfl, rfl⟩
            case rest =>
              obtain ⟨rfl, rfl⟩ := hcut
              go_wp2_with fail
              refine (textKey_any s _ (by omega)).mono ?_
              rintro e w2 ⟨v2, rfl, hown2, hbel2⟩
              have hb2 := hbf.trans (hbel2.mono hsz4)
              have hs2 := strs (shows_of_owns hown2).2
              have hsz5 := hb2.size
              clear hown2 hbel2 hbf hsz4
              go_wp2_with fail
              refine (textKey_any t _ (by omega)).mono ?_
              rintro e w3 ⟨v3, rfl, hown3, hbel3⟩
              have hb3 := hb2.trans (hbel3.mono hsz5)
              have hs3 := strs (shows_of_owns hown3).2
              clear hown3 hbel3 hb2 hsz5
              go_upto_region 12 with fail
              go_cut [22] (fun u wx => u = .bool (s.toList == t.toList) ∧ wx = w3)
              case first =>
                have hzs := tkey_size s hs
                have hzt := tkey_size t ht
                have HX := hid (text_begins s t)
                clear hs2 hs3 HA HB hn hm
                by_cases hst : s.toList = t.toList
                · have hst' : (s.toList == t.toList) = true := by rw [beq_iff_eq]; exact hst
                  obtain ⟨x1, x2⟩ := HX.out.1 hst
                  clear hst
                  generalize str8 (tkey s.data.toList) = P at *
                  generalize str8 (tkey t.data.toList) = Q at *
                  go_wp2_with fail
                  go_meet
                  case rel => exact ⟨by rw [hst'], rfl⟩
                · have hst' : (s.toList == t.toList) = false := by rw [beq_eq_false_iff_ne]; exact hst
                  have x := HX.out.2 hst
                  clear hst
                  generalize str8 (tkey s.data.toList) = P at *
                  generalize str8 (tkey t.data.toList) = Q at *
                  by_cases hle : P.size ≤ Q.size
                  · have x2 := x hle
                    clear x
                    go_wp2_with fail
                    go_meet
                    case rel => exact ⟨by rw [hst'], rfl⟩
                  · clear x
                    go_wp2_with fail
                    go_meet
                    case rel => exact ⟨by rw [hst'], rfl⟩
              case rest =>
                obtain ⟨rfl, rfl⟩ := hcut
                go_wp2
                go_ret
                exact ⟨by first | rfl | simp, hb3⟩

theorem orders_law (n m : Int) (s t : ByteArray) (va : Value) (la : List UInt8) (vb : Value) (lb : List UInt8) (w : World) (n0 : -9223372036854775808 ≤ n) (n1 : n ≤ 9223372036854775807) (m0 : -9223372036854775808 ≤ m) (m1 : m ≤ 9223372036854775807)
    (hs : s.size ≤ 9223372036854775807) (ht : t.size ≤ 9223372036854775807) (ha : Shows w.heap.size w va la) (hb : Shows w.heap.size w vb lb) :
    Calls Try.prog 8 #[.int .i64 n, .int .i64 m, .string s, .string t, va, vb] w fun e w' => e = .returned (.bool true) ∧ Below w.heap.size w w' := by
  by_cases h : 65536 < s.size ∨ 65536 < t.size ∨ 65536 < la.length ∨ 65536 < lb.length
  · exact orders_long n m s t va vb la lb w ha hb hs ht h
  · have ha0 := ha
    have hb0 := hb
    obtain ⟨aa, ca, rfl, _⟩ := ha
    obtain ⟨ab, cb, rfl, _⟩ := hb
    exact orders_short n m s t aa ab ca cb la lb w ha0 hb0 (by omega) (by omega) (by omega) (by omega) ⟨n0, n1⟩ ⟨m0, m1⟩
end Go.Proofs.Ytknanockidellaa
