/- Proofs as plain data, and as they lie in memory. -/
import Derived.Test.YtmafaioohiaenaaDoorPathF
import Derived.Deep.QuietTactic
import Derived.BigQuiet
namespace Go.Proofs.YtmafaioohiaenaaDoor
open Go.RowKit Go.Shelf
set_option linter.unusedVariables false
set_option linter.unusedSimpArgs false
set_option maxRecDepth 20000

/-- A step of a proof: its place (any number), its side, the other side's digest. -/
abbrev Zst := Int × Bool × List UInt8

/-- Its cells. -/
def zc (s : Zst) : List Value := .int .i64 s.1 :: .bool s.2.1 :: s.2.2.map by8

structure ZOk (s : Zst) : Prop where
  len : s.2.2.length = 32
  lo : -9223372036854775808 ≤ s.1
  hi : s.1 ≤ 9223372036854775807

theorem zc_length {s : Zst} (h : ZOk s) : (zc s).length = 34 := by simp [zc, h.len]

theorem zc_one (s : Zst) : ∀ u ∈ zc s, u.oneCell' = true := fun u hu => by
  simp only [zc, List.mem_cons, List.mem_map] at hu
  rcases hu with rfl | rfl | ⟨c, _, rfl⟩ <;> rfl

theorem Tryd.infoStepZ : (Tryd.prog.info? 66).map (·.size) = some 34 := by kernel_rfl

/-- v IS A SLICE OF THE STEPS L, below block B. -/
def Stps (B : Nat) (w : World) (v : Value) (L : List Zst) : Prop :=
  ∃ a c, v = .slice a L.length c ∧ L.length ≤ c ∧ c ≤ maxLen ∧ (∀ s ∈ L, ZOk s) ∧ (L ≠ [] → ∃ b off, a = some ⟨b, off, none⟩ ∧ b < B ∧ ∀ j s, L[j]? = some s → ∀ i u, (zc s)[i]? = some u → w.cell? ⟨b, off + j * 34 + i, none⟩ = some u)

theorem Stps.below {B : Nat} {w w' : World} {v : Value} {L : List Zst} (h : Stps B w v L) (hb : Below B w w') : Stps B w' v L := by
  obtain ⟨a, c, rfl, h1, h2, h3, h4⟩ := h
  refine ⟨a, c, rfl, h1, h2, h3, fun hn => ?_⟩
  obtain ⟨b, off, rfl, hB, hc⟩ := h4 hn
  exact ⟨b, off, rfl, hB, fun j s hs i u hu => (hb.cell (p := ⟨b, off + j * 34 + i, none⟩) hB).trans (hc j s hs i u hu)⟩

theorem Stps.mono {B B' : Nat} {w : World} {v : Value} {L : List Zst} (h : Stps B w v L) (hB : B ≤ B') : Stps B' w v L := by
  obtain ⟨a, c, rfl, h1, h2, h3, h4⟩ := h
  refine ⟨a, c, rfl, h1, h2, h3, fun hn => ?_⟩
  obtain ⟨b, off, rfl, hb, hc⟩ := h4 hn
  exact ⟨b, off, rfl, by omega, hc⟩

theorem Stps.new {w w' : World} {v : Value} {L : List Zst} (h : Stps w.heap.size w v L) (hb : Below w.heap.size w w') : Stps w'.heap.size w' v L := (h.below hb).mono hb.size

theorem Stps.keeps {S : Nat → Prop} {B : Nat} {w w' : World} {v : Value} {L : List Zst} (h : Stps B w v L) (hk : Spares S w w') (hS : ∀ i, i < B → ¬ S i) : Stps B w' v L := by
  obtain ⟨a, c, rfl, h1, h2, h3, h4⟩ := h
  refine ⟨a, c, rfl, h1, h2, h3, fun hn => ?_⟩
  obtain ⟨b, off, rfl, hB, hc⟩ := h4 hn
  exact ⟨b, off, rfl, hB, fun j s hs i u hu => hk.cell (hc j s hs i u hu) (hS b hB)⟩

theorem Stps.len {B : Nat} {w : World} {v : Value} {L : List Zst} (h : Stps B w v L) : L.length ≤ maxLen := by
  obtain ⟨a, c, rfl, h1, h2, h3, h4⟩ := h
  omega

theorem Stps.ok {B : Nat} {w : World} {v : Value} {L : List Zst} (h : Stps B w v L) : ∀ s ∈ L, ZOk s := by
  obtain ⟨a, c, rfl, h1, h2, h3, h4⟩ := h
  exact h3

theorem Stps.form {B : Nat} {w : World} {v : Value} {L : List Zst} (h : Stps B w v L) : ∃ a c, v = .slice a L.length c ∧ L.length ≤ c ∧ c ≤ maxLen := by
  obtain ⟨a, c, rfl, h1, h2, h3, h4⟩ := h
  exact ⟨a, c, rfl, h1, h2⟩

theorem stps_nil (B : Nat) (w : World) : Stps B w (.slice none 0 0) [] := ⟨none, 0, rfl, by simp, by decide, fun s hs => (by cases hs), fun h => absurd rfl h⟩

theorem run_load_z (w : World) (g k : Nat) (ty : TypeId) (cs : List Value) (d : TypeDesc) (hc : ∀ j v, cs[j]? = some v → w.cell? ⟨g, k + j, none⟩ = some v)
    (hu : Tryd.prog.underlying ty = some d) (hd : (match d with | .struct _ | .array _ _ => true | _ => false) = true) (hi : (Tryd.prog.info? ty).map (·.size) = some cs.length) :
    (loadVar ty ⟨g, k, none⟩).run Tryd.prog w = .ok (.agg cs.toArray) w := by
  have hl : (loadCells ⟨g, k, none⟩ cs.length).run Tryd.prog w = .ok cs.toArray w :=
    run_loadCells_list (P := Tryd.prog) w ⟨g, k, none⟩ cs (fun j v hv => by
      have hadd : (⟨g, k, none⟩ : Addr).add j = ⟨g, k + j, none⟩ := by unfold Addr.add; split <;> simp_all
      rw [hadd]
      exact hc j v hv)
  cases hq : Tryd.prog.info? ty with
  | none => simp [hq] at hi
  | some i =>
    have hs : i.size = cs.length := by simpa [hq] using hi
    have hagg : (isAgg ty).run Tryd.prog w = .ok true w := by
      unfold isAgg
      rw [Sem.run_bind, run_underlying hu w]
      cases d <;> simp_all
    simp [loadVar, Sem.run_bind, hagg, sizeOf, typeInfo, hq, hs, hl]

theorem wpList_load_z {ops : Array Oper} {rest : List Oper} {o : Oper} {a : Act} {w : World} {Q : Exit → Act → World → Prop} (hw : Region.wanted o (yielded ops a.tmps) = true) (ty : TypeId) (x : Operand) (ho : o.op = .load ty x)
    (q : Addr) (hx : a.eval x = .pointer (some q)) (A : Array Value) (hr : (loadVar ty q).run Tryd.prog w = .ok (.agg A) w)
    (h : wpList Tryd.prog ops Q rest (a.put o.dst (.agg A)) w) : wpList Tryd.prog ops Q (o :: rest) a w := by
  unfold wpList
  rw [if_pos hw]
  refine Or.inl ?_
  unfold Oper.wp execOp
  simp only [ho, hx, Instr.loadAt, Instr.sureAddr, Sem.run_bind, Sem.run_pure, Result.andThen_ok, hr]
  exact h

/-- One step, as a walk reads it: in this world and in every one that keeps what lies below B. -/
theorem Stps.at {B : Nat} {w : World} {a : Option Addr} {l c : Nat} {L : List Zst} (h : Stps B w (.slice a l c) L) (k : Nat) (s : Zst) (hs : L[k]? = some s) :
    ∃ b off, a = some ⟨b, off, none⟩ ∧ b < B ∧ ZOk s ∧ ∀ w', Below B w w' → (loadVar 66 ⟨b, off + k * 34, none⟩).run Tryd.prog w' = .ok (.agg (zc s).toArray) w' := by
  obtain ⟨a', c', e, h1, h2, h3, h4⟩ := h
  simp only [Value.slice.injEq] at e
  obtain ⟨rfl, rfl, rfl⟩ := e
  obtain ⟨b, off, rfl, hB, hc⟩ := h4 (fun e => by rw [e] at hs; simp at hs)
  have hok := h3 s (List.mem_of_getElem? hs)
  exact ⟨b, off, rfl, hB, hok, fun w' hb => run_load_z w' b (off + k * 34) 66 (zc s) _ (fun j u hu => (hb.cell (p := ⟨b, off + k * 34 + j, none⟩) hB).trans (hc k s hs j u hu)) Tryd.underlying66 rfl (by rw [zc_length hok]; exact Tryd.infoStepZ)⟩

theorem flat_zc : ∀ (L : List Zst) (j : Nat) (s : Zst), (∀ s ∈ L, ZOk s) → L[j]? = some s → ∀ (i : Nat) (v : Value), (zc s)[i]? = some v → (L.flatMap zc)[j * 34 + i]? = some v
  | [], j, s, h, hj => by simp at hj
  | x :: r, 0, s, h, hj => by
    intro i v hv
    simp at hj
    subst hj
    have hi := (List.getElem?_eq_some_iff.1 hv).1
    simp only [List.flatMap_cons, Nat.zero_mul, Nat.zero_add]
    rw [List.getElem?_append_left hi]
    exact hv
  | x :: r, j + 1, s, h, hj => by
    intro i v hv
    have hx : (zc x).length = 34 := zc_length (h x (by simp))
    have ih := flat_zc r j s (fun y hy => h y (by simp [hy])) (by simpa using hj) i v hv
    simp only [List.flatMap_cons]
    rw [List.getElem?_append_right (by rw [hx]; omega), hx, show (j + 1) * 34 + i - 34 = j * 34 + i by omega]
    exact ih

theorem stps_of_row {B : Nat} {w : World} {v : Value} {L : List Zst} (h : w.ownsRow B 66 34 v L.length (L.flatMap zc)) (hok : ∀ s ∈ L, ZOk s) : Stps w.heap.size w v L := by
  rcases h.2 with ⟨rfl, h0⟩ | ⟨g, cap, cur, rfl, hB, hg, h1, h2, h3, h4⟩
  · have : L = [] := List.eq_nil_of_length_eq_zero h0
    subst this
    exact stps_nil _ _
  · refine ⟨_, cap, rfl, h1, h2, hok, fun hne => ⟨g, 0, rfl, (Array.getElem?_eq_some_iff.1 hg).1, fun j s hs i u hu => ?_⟩⟩
    have hj : j < L.length := (List.getElem?_eq_some_iff.1 hs).1
    have hi := (List.getElem?_eq_some_iff.1 hu).1
    rw [zc_length (hok s (List.mem_of_getElem? hs))] at hi
    have f := flat_zc L j s hok hs i u hu
    rw [← h4, List.getElem?_take, if_pos (by omega), Array.getElem?_toList] at f
    rw [cell_of_row _ _ _ _ _ _ hg, Nat.zero_add]
    exact f

/-- A PROOF, as plain data. -/
structure Prf where
  no : Bool
  k : List UInt8
  v : List UInt8
  st : List Zst

/-- Where it lies. -/
structure PAt (B : Nat) (w : World) (p : Prf) (kv vv sv : Value) : Prop where
  hk : Shows B w kv p.k
  hv : Shows B w vv p.v
  hs : Stps B w sv p.st

def pagg (p : Prf) (kv vv sv : Value) : Value := .agg #[.bool p.no, kv, vv, sv]

theorem PAt.below {B : Nat} {w w' : World} {p : Prf} {kv vv sv : Value} (h : PAt B w p kv vv sv) (hb : Below B w w') : PAt B w' p kv vv sv := ⟨h.hk.below hb, h.hv.below hb, h.hs.below hb⟩
theorem PAt.mono {B B' : Nat} {w : World} {p : Prf} {kv vv sv : Value} (h : PAt B w p kv vv sv) (hB : B ≤ B') : PAt B' w p kv vv sv := ⟨h.hk.mono hB, h.hv.mono hB, h.hs.mono hB⟩

/-- Do places rise, from m on, below e? -/
def risesZ (e : Int) : Int → List Zst → Bool
  | _, [] => true
  | m, s :: r => if s.1 < m ∨ e ≤ s.1 then false else risesZ e (s.1 + 1) r

/-- Do the steps go where a key's bits lead? -/
def leadsZ (key : List UInt8) (L : List Zst) : Bool := L.all fun s => s.2.1 == bitI key s.1

/-- May it be? -/
def Prf.may (p : Prf) : Bool :=
  if p.no then decide (p.k.length = 0 ∧ p.v.length = 0 ∧ p.st.length = 0)
  else decide (p.k.length ≤ 120) && (decide (p.v.length ≤ 1200) && (risesZ (9 * p.k.length + 1) 0 p.st && leadsZ p.k p.st))
end Go.Proofs.YtmafaioohiaenaaDoor
