/- The way to which a key leads, as steps; their cells. -/
import Derived.Test.YthkeofinamedfaaDoorRootF
import Derived.Test.YthkeofinamedfaaDoorHeld
import Derived.Test.YthkeofinamedfaaDoorBranchF
namespace Go.Proofs.YthkeofinamedfaaDoor
open Go.RowKit
set_option linter.unusedVariables false
set_option maxRecDepth 20000

/-- A step: the place, whether the key leads to the right, the root of the other side. -/
abbrev Stp := Nat × Bool × List UInt8

def Tri.steps : Tri → List UInt8 → List Stp
  | .leaf _ _, _ => []
  | .fork p l r, key => (p, bit key p, rootT (if bit key p then l else r)) :: (if bit key p then r.steps key else l.steps key)

def stepsO : Option Tri → List UInt8 → List Stp
  | none, _ => []
  | some t, key => t.steps key

def Nod.stp (key : List UInt8) : Nod → List Stp
  | leaf _ _ _ _ _ => []
  | fork _ p l r => [(p, bit key p, rootT (if bit key p then l.tri else r.tri))]

def Nod.ent : Nod → Option Ent
  | leaf _ _ _ k v => some (k, v)
  | fork _ _ _ _ => none

theorem Nod.way_steps : ∀ (x : Nod) (key : List UInt8), (x.way key).flatMap (Nod.stp key) = x.tri.steps key
  | leaf b kv vv k v, key => rfl
  | fork b p l r, key => by
    have hl := way_steps l key
    have hr := way_steps r key
    simp only [way, tri, Tri.steps, List.flatMap_cons, stp]
    cases bit key p with
    | true => simp [hr]
    | false => simp [hl]

theorem Nod.way_ents : ∀ (x : Nod) (key : List UInt8), (x.way key).filterMap Nod.ent = [x.tri.near key]
  | leaf b kv vv k v, key => rfl
  | fork b p l r, key => by
    have hl := way_ents l key
    have hr := way_ents r key
    simp only [way, tri, Tri.near, List.filterMap_cons, ent]
    cases bit key p with
    | true => simp [hr]
    | false => simp [hl]

theorem Nod.way_length : ∀ (x : Nod) (key : List UInt8), (x.way key).length ≤ x.tri.ents.length
  | leaf b kv vv k v, key => by simp [way, tri, Tri.ents]
  | fork b p l r, key => by
    have hl := way_length l key
    have hr := way_length r key
    have pl := Tri.ents_pos l.tri
    have pr := Tri.ents_pos r.tri
    simp only [way, tri, Tri.ents, List.length_cons, List.length_append]
    split <;> omega

theorem wayO_length (o : Option Nod) (key : List UInt8) : (wayO o key).length ≤ (Tri.entsO (triO o)).length := by
  cases o with
  | none => simp [wayO]
  | some x => exact Nod.way_length x key

theorem Tri.steps_length : ∀ (t : Tri) (key : List UInt8), (t.steps key).length < t.ents.length
  | .leaf k v, key => by simp [Tri.steps, Tri.ents]
  | .fork p l r, key => by
    have hl := steps_length l key
    have hr := steps_length r key
    have pl := ents_pos l
    have pr := ents_pos r
    simp only [Tri.steps, Tri.ents, List.length_cons, List.length_append]
    split <;> omega

/-- What has been told. -/
def seen {o : Option Nod} {key : List UInt8} (pre : List (Step o key)) : Option Ent := (pre.filterMap (fun x => x.1.ent)).getLast?
def walked {o : Option Nod} {key : List UInt8} (pre : List (Step o key)) : List Stp := pre.flatMap fun x => x.1.stp key

theorem seen_all {o : Option Nod} {key : List UInt8} (pre : List (Step o key)) (h : pre.map (·.1) = wayO o key) : seen pre = (triO o).map (·.near key) := by
  have e : pre.filterMap (fun x => x.1.ent) = (pre.map (·.1)).filterMap Nod.ent := by rw [List.filterMap_map]; rfl
  unfold seen
  rw [e, h]
  cases o with
  | none => rfl
  | some x => simp [wayO, Nod.way_ents, triO]

theorem walked_all {o : Option Nod} {key : List UInt8} (pre : List (Step o key)) (h : pre.map (·.1) = wayO o key) : walked pre = stepsO (triO o) key := by
  have e : pre.flatMap (fun x => x.1.stp key) = (pre.map (·.1)).flatMap (Nod.stp key) := by rw [List.flatMap_map]
  unfold walked
  rw [e, h]
  cases o with
  | none => rfl
  | some x => exact Nod.way_steps x key

theorem seen_leaf {o : Option Nod} {key : List UInt8} (pre : List (Step o key)) (x : Step o key) (e : Ent) (h : x.1.ent = some e) : seen (pre ++ [x]) = some e := by
  simp [seen, List.filterMap_append, h]

theorem seen_fork {o : Option Nod} {key : List UInt8} (pre : List (Step o key)) (x : Step o key) (h : x.1.ent = none) : seen (pre ++ [x]) = seen pre := by
  simp [seen, List.filterMap_append, h]

theorem walked_snoc {o : Option Nod} {key : List UInt8} (pre : List (Step o key)) (x : Step o key) : walked (pre ++ [x]) = walked pre ++ x.1.stp key := by simp [walked]

theorem walked_le {o : Option Nod} {key : List UInt8} : ∀ (pre : List (Step o key)), (walked pre).length ≤ pre.length
  | [] => by simp [walked]
  | x :: r => by
    have h := walked_le r
    have : (x.1.stp key).length ≤ 1 := by cases x.1 <;> simp [Nod.stp]
    simp only [walked, List.flatMap_cons, List.length_append, List.length_cons] at *
    omega

/-- A step's cells. -/
def stepC (s : Stp) : List Value := .int .i64 s.1 :: .bool s.2.1 :: s.2.2.map by8

theorem stepC_one (s : Stp) : ∀ u ∈ stepC s, u.oneCell' = true := by
  intro u hu
  simp only [stepC, List.mem_cons] at hu
  rcases hu with rfl | rfl | hu
  · rfl
  · rfl
  · exact by8_one _ u hu

def zeroStep : Array Value := (.int .i64 0 :: .bool false :: List.replicate 32 (.int .u8 0)).toArray

theorem Tryd.infoStep : (Tryd.prog.info? 62).map (fun i => (i.zero, i.size, i.bytes)) = some (some (.agg zeroStep), 34, 48) := by kernel_rfl
theorem Tryd.infoSteps : (Tryd.prog.info? 57).map (·.size) = some 1 := by kernel_rfl
theorem Tryd.infoProof : (Tryd.prog.info? 59).map (·.size) = some 4 := by kernel_rfl

theorem built_step' (p : Int) (b : Bool) (a0 a1 a2 a3 a4 a5 a6 a7 a8 a9 a10 a11 a12 a13 a14 a15 a16 a17 a18 a19 a20 a21 a22 a23 a24 a25 a26 a27 a28 a29 a30 a31 : Value) : Tryd.prog.built 62 [(0, .int .i64 p), (1, .bool b), (2, .agg #[a0, a1, a2, a3, a4, a5, a6, a7, a8, a9, a10, a11, a12, a13, a14, a15, a16, a17, a18, a19, a20, a21, a22, a23, a24, a25, a26, a27, a28, a29, a30, a31])] = some #[.int .i64 p, .bool b, a0, a1, a2, a3, a4, a5, a6, a7, a8, a9, a10, a11, a12, a13, a14, a15, a16, a17, a18, a19, a20, a21, a22, a23, a24, a25, a26, a27, a28, a29, a30, a31] := by kernel_rfl

theorem built_step (p : Int) (b : Bool) (A : List Value) (h : A.length = 32) : Tryd.prog.built 62 [(0, .int .i64 p), (1, .bool b), (2, .agg A.toArray)] = some (Value.int .i64 p :: .bool b :: A).toArray := by
  match A, h with
  | [a0, a1, a2, a3, a4, a5, a6, a7, a8, a9, a10, a11, a12, a13, a14, a15, a16, a17, a18, a19, a20, a21, a22, a23, a24, a25, a26, a27, a28, a29, a30, a31], _ => exact built_step' p b a0 a1 a2 a3 a4 a5 a6 a7 a8 a9 a10 a11 a12 a13 a14 a15 a16 a17 a18 a19 a20 a21 a22 a23 a24 a25 a26 a27 a28 a29 a30 a31

/-- A row of a call's own stands a loop's own changes. -/
theorem row_own {B B' e s n : Nat} {v : Value} {xs : List Value} {W W' : World} {row : Option Nat} (h : W.ownsRow B' e s v n xs) (hg : W.grownBy W' row) (hr : ∀ r, row = some r → B ≤ r ∧ ∃ o : Obj, W.heap[r]? = some o ∧ o.isCells = false) : W'.ownsRow B' e s v n xs := by
  refine (Spares.of_grown (S := fun i => row = some i) hg (fun k e => e)).row h fun g hv hs => ?_
  rcases h.2 with ⟨rfl, _⟩ | ⟨g', cap, cur, rfl, _, hg', _⟩
  · cases hv
  · have : g' = g := by simpa [Value.ownBlock] using hv
    subst this
    obtain ⟨_, o, ho, hc⟩ := hr g' hs
    rw [hg'] at ho
    cases ho
    cases hc

theorem row_cells {W : World} {B e s n : Nat} {v : Value} {xs : List Value} (h : W.ownsRow B e s v n xs) {g : Nat} (hg : v.ownBlock = some g) : ∃ cs t fr, W.heap[g]? = some (.cells cs t fr) := by
  rcases h.2 with ⟨rfl, _⟩ | ⟨g', cap, cur, rfl, _, hg', _⟩
  · cases hg
  · have : g' = g := by simpa [Value.ownBlock] using hg
    subst this
    exact ⟨_, _, _, hg'⟩

/-- Of blocks that hold cells alone some may turn: what a loop keeps there stays. -/
theorem keepsFrom_of {S : Nat → Prop} {B : Nat} {W W' : World} (h : Spares S W W') (hS : ∀ i, S i → ∃ cs t fr, W.heap[i]? = some (.cells cs t fr)) : KeepsFrom B W W' :=
  ⟨h.size, fun k o _ hk ho => (h.block k (Array.getElem?_eq_some_iff.1 hk).1 (fun hs => by
    obtain ⟨cs, t, fr, hc⟩ := hS k hs
    rw [hk] at hc
    cases hc
    cases ho)).trans hk⟩

theorem callsIn_round {l n : Nat} {P : Program} {f : FuncId} {args : Array Value} {w : World} {R : Ending → World → Prop} (h : Calls P f args w R) : CallsIn (Fence.wide.inRound l) n P f args w R := callsIn_wide.2 h

/-- Five new blocks. -/
theorem alloc5 (w : World) (o1 o2 o3 o4 o5 : Obj) : ∃ w5, ((((w.alloc o1).alloc o2).alloc o3).alloc o4).alloc o5 = w5 ∧ w5.heap[w.heap.size]? = some o1 ∧ w5.heap[w.heap.size + 1]? = some o2 ∧ w5.heap[w.heap.size + 2]? = some o3 ∧ w5.heap[w.heap.size + 3]? = some o4 ∧ w5.heap[w.heap.size + 4]? = some o5 ∧ Below w.heap.size w w5 ∧ w5.heap.size = w.heap.size + 5 := by
  obtain ⟨w4, he, h0, h1, h2, h3, hb, hz⟩ := alloc4 w o1 o2 o3 o4
  have hn := World.alloc_heap_new w4 o5
  have hb' := (Below.refl w4.heap.size w4).alloc (Nat.le_refl _) o5
  rw [hz] at hn
  exact ⟨_, by rw [he], (hb'.block _ (by omega)).trans h0, (hb'.block _ (by omega)).trans h1, (hb'.block _ (by omega)).trans h2, (hb'.block _ (by omega)).trans h3, hn, hb.trans (hb'.mono (by omega)), by rw [World.size_alloc, hz]⟩

/-- What a walk of a proof has in hand: the key's box, the result's, the proof's. -/
structure PathI (w : World) (kv : Value) (o : Option Nod) (key : List UInt8) (pre : List (Step o key)) (W : World) (ek ev sv : Value) : Prop where
  box : W.heap[w.heap.size]? = some (.cells #[kv] 28 (0, 0))
  out : W.heap[w.heap.size + 1]? = some (.cells #[.bool false, .slice none 0 0, .slice none 0 0, .slice none 0 0] 59 (0, 0))
  got : W.heap[w.heap.size + 2]? = some (.cells #[.bool (seen pre).isNone, ek, ev, sv] 59 (0, 0))
  ke : Copy (w.heap.size + 5) W ek (((seen pre).map (·.1)).getD [])
  ve : Copy (w.heap.size + 5) W ev (((seen pre).map (·.2)).getD [])
  st : W.ownsRow (w.heap.size + 5) 62 34 sv (walked pre).length ((walked pre).flatMap stepC)
  kva : ∀ g, ek.ownBlock = some g → ev.ownBlock ≠ some g
  ksa : ∀ g, ek.ownBlock = some g → sv.ownBlock ≠ some g
  vsa : ∀ g, ev.ownBlock = some g → sv.ownBlock ≠ some g
  below : Below w.heap.size w W
  big : w.heap.size + 5 ≤ W.heap.size

theorem pathI_own {w : World} {kv : Value} {o : Option Nod} {key : List UInt8} {B : Nat} (hB : w.heap.size ≤ B) : OwnFrom B (fun (pre : List (Step o key)) W => ∃ ek ev sv, PathI w kv o key pre W ek ev sv) := fun s W W' row hs hg hr => by
  obtain ⟨ek, ev, sv, h⟩ := hs
  exact ⟨ek, ev, sv, cells_own () W W' row h.box hg hr, cells_own () W W' row h.out hg hr, cells_own () W W' row h.got hg hr, row_own h.ke hg hr, row_own h.ve hg hr, row_own h.st hg hr, h.kva, h.ksa, h.vsa,
    (spares_own (S := fun _ => False) hB () W W' row (Spares.of_new h.below) hg hr).below (fun i hi => hi.elim) (Nat.le_refl _), Nat.le_trans h.big hg.size⟩

theorem path_fork {w W W2 W3 : World} {kv ek ev sv : Value} {o : Option Nod} {key : List UInt8} {pre : List (Step o key)} {B g cap : Nat} (hI : PathI w kv o key pre W ek ev sv) (x : Step o key) (s : Stp) (hx : x.1.stp key = [s]) (hxe : x.1.ent = none)
    (hb : Below W.heap.size W W2) (hg : W2.grownBy W3 sv.ownBlock)
    (hown : W3.ownsRow (w.heap.size + 5) 62 34 (.slice (some ⟨g, 0, none⟩) ((walked pre).length + 1) cap) ((walked pre).length + 1) ((walked pre).flatMap stepC ++ stepC s)) (hat : sv.ownBlock = some g ∨ g = W2.heap.size) :
    KeepsFrom B W (W3.setCell ⟨w.heap.size + 2, 3, none⟩ (.slice (some ⟨g, 0, none⟩) ((walked pre).length + 1) cap)) ∧ KpB w.heap.size (w.heap.size + 4) W (W3.setCell ⟨w.heap.size + 2, 3, none⟩ (.slice (some ⟨g, 0, none⟩) ((walked pre).length + 1) cap)) ∧
      ∃ ek ev sv, PathI w kv o key (pre ++ [x]) (W3.setCell ⟨w.heap.size + 2, 3, none⟩ (.slice (some ⟨g, 0, none⟩) ((walked pre).length + 1) cap)) ek ev sv := by
  have hbig := hI.big
  have hlow : ∀ i, sv.ownBlock = some i → w.heap.size + 5 ≤ i ∧ i < W.heap.size := fun i hi => hI.st.lt i hi
  have spg : Spares (fun i => sv.ownBlock = some i) W W3 := (Spares.of_new hb).andThen (Spares.of_grown (S := fun i => sv.ownBlock = some i) hg (fun k e => e)) (fun i hi => .inl hi)
  have sp : Spares (fun i => i = w.heap.size + 2 ∨ sv.ownBlock = some i) W (W3.setCell ⟨w.heap.size + 2, 3, none⟩ (.slice (some ⟨g, 0, none⟩) ((walked pre).length + 1) cap)) :=
    (spg.mono fun i hi => .inr hi).andThen (spares_set W3 ⟨w.heap.size + 2, 3, none⟩ _) (fun i hi => .inl (.inl hi))
  have hgot3 := (spg.block (w.heap.size + 2) (by omega) (fun e => by have := (hlow _ e).1; omega)).trans hI.got
  have hgge : w.heap.size + 5 ≤ g := by
    rcases hat with h | h
    · exact (hlow g h).1
    · have := hb.size; omega
  have hstp : walked (pre ++ [x]) = walked pre ++ [s] := by rw [walked_snoc, hx]
  have hnew : ∀ q : Value, (∀ i, q.ownBlock = some i → i < W.heap.size) → (∀ i, q.ownBlock = some i → sv.ownBlock ≠ some i) → ∀ i, q.ownBlock = some i → (Value.slice (some ⟨g, 0, none⟩) ((walked pre).length + 1) cap).ownBlock ≠ some i := fun q h1 h2 i hi e => by
    have : g = i := by simpa [Value.ownBlock] using e
    subst this
    rcases hat with h | h
    · exact h2 g hi h
    · have := h1 g hi; have := hb.size; omega
  refine ⟨keepsFrom_of sp ?_, ⟨sp.below ?_ (by omega), sp.block _ (by omega) ?_⟩, ek, ev, .slice (some ⟨g, 0, none⟩) ((walked pre).length + 1) cap, ?_⟩
  · rintro i (rfl | hi)
    · exact ⟨_, _, _, hI.got⟩
    · exact row_cells hI.st hi
  · rintro i (rfl | hi)
    · omega
    · have := (hlow i hi).1; omega
  · rintro (h | h)
    · omega
    · have := (hlow _ h).1; omega
  · refine ⟨(sp.block _ (by omega) ?_).trans hI.box, (sp.block _ (by omega) ?_).trans hI.out, ?_, ?_, ?_, ?_, hI.kva, ?_, ?_, hI.below.trans (sp.below ?_ hI.below.size), Nat.le_trans hbig sp.size⟩
    · rintro (h | h)
      · omega
      · have := (hlow _ h).1; omega
    · rintro (h | h)
      · omega
      · have := (hlow _ h).1; omega
    · rw [seen_fork pre x hxe]
      exact heap_setCell_same _ _ _ _ _ _ hgot3
    · rw [seen_fork pre x hxe]
      exact sp.row hI.ke (fun i hi h => by rcases h with rfl | h; (have := (hI.ke.lt _ hi).1; omega); exact hI.ksa i hi h)
    · rw [seen_fork pre x hxe]
      exact sp.row hI.ve (fun i hi h => by rcases h with rfl | h; (have := (hI.ve.lt _ hi).1; omega); exact hI.vsa i hi h)
    · rw [hstp]
      simp only [List.length_append, List.length_cons, List.length_nil, List.flatMap_append, List.flatMap_cons, List.flatMap_nil, List.append_nil, Nat.zero_add]
      exact (spares_set W3 ⟨w.heap.size + 2, 3, none⟩ _).row hown (fun i hi e => by
        have : g = i := by simpa [Value.ownBlock] using hi
        have e' : i = w.heap.size + 2 := e
        omega)
    · exact hnew ek (fun i hi => (hI.ke.lt i hi).2) hI.ksa
    · exact hnew ev (fun i hi => (hI.ve.lt i hi).2) hI.vsa
    · rintro i (rfl | hi)
      · omega
      · have := (hlow i hi).1; omega

theorem path_leaf {w W w3 : World} {kv ek ev sv kv' vv' : Value} {o : Option Nod} {key k v : List UInt8} {pre : List (Step o key)} {B : Nat} (hI : PathI w kv o key pre W ek ev sv) (x : Step o key) (hx : x.1.stp key = []) (hxe : x.1.ent = some (k, v))
    (hb : Below W.heap.size W w3) (hk : Copy W.heap.size w3 kv' k) (hv : Copy W.heap.size w3 vv' v) (hap : ∀ g, kv'.ownBlock = some g → vv'.ownBlock ≠ some g) :
    KeepsFrom B W (((w3.setCell ⟨w.heap.size + 2, 0, none⟩ (.bool false)).setCell ⟨w.heap.size + 2, 1, none⟩ kv').setCell ⟨w.heap.size + 2, 2, none⟩ vv') ∧ KpB w.heap.size (w.heap.size + 4) W (((w3.setCell ⟨w.heap.size + 2, 0, none⟩ (.bool false)).setCell ⟨w.heap.size + 2, 1, none⟩ kv').setCell ⟨w.heap.size + 2, 2, none⟩ vv') ∧
      ∃ ek ev sv, PathI w kv o key (pre ++ [x]) (((w3.setCell ⟨w.heap.size + 2, 0, none⟩ (.bool false)).setCell ⟨w.heap.size + 2, 1, none⟩ kv').setCell ⟨w.heap.size + 2, 2, none⟩ vv') ek ev sv := by
  have hbig := hI.big
  have sp3 : Spares (fun i => i = w.heap.size + 2) w3 (((w3.setCell ⟨w.heap.size + 2, 0, none⟩ (.bool false)).setCell ⟨w.heap.size + 2, 1, none⟩ kv').setCell ⟨w.heap.size + 2, 2, none⟩ vv') :=
    (spares_set2 w3 (w.heap.size + 2) 0 1 _ _).andThen (spares_set _ ⟨w.heap.size + 2, 2, none⟩ _) (fun i hi => .inl hi)
  have sp : Spares (fun i => i = w.heap.size + 2) W (((w3.setCell ⟨w.heap.size + 2, 0, none⟩ (.bool false)).setCell ⟨w.heap.size + 2, 1, none⟩ kv').setCell ⟨w.heap.size + 2, 2, none⟩ vv') :=
    (Spares.of_new hb).andThen sp3 (fun i hi => .inl hi)
  have hgot3 := (hb.block (w.heap.size + 2) (by omega)).trans hI.got
  refine ⟨keepsFrom_of sp ?_, ⟨sp.below ?_ (by omega), sp.block _ (by omega) (by omega)⟩, kv', vv', sv, ?_⟩
  · rintro i rfl
    exact ⟨_, _, _, hI.got⟩
  · rintro i rfl
    omega
  · refine ⟨(sp.block _ (by omega) (by omega)).trans hI.box, (sp.block _ (by omega) (by omega)).trans hI.out, ?_, ?_, ?_, ?_, hap, ?_, ?_, hI.below.trans (sp.below ?_ hI.below.size), Nat.le_trans hbig sp.size⟩
    · rw [seen_leaf pre x _ hxe]
      exact heap_setCell_same _ _ _ _ _ _ (heap_setCell_same _ _ _ _ _ _ (heap_setCell_same _ _ _ _ _ _ hgot3))
    · rw [seen_leaf pre x _ hxe]
      exact hk.spares sp3 (fun i hi => by omega) hbig
    · rw [seen_leaf pre x _ hxe]
      exact hv.spares sp3 (fun i hi => by omega) hbig
    · rw [walked_snoc, hx, List.append_nil]
      exact sp.row hI.st (fun i hi e => by have := (hI.st.lt i hi).1; omega)
    · intro i hi e
      have h1 := (hk.lt i hi).1
      have h2 := (hI.st.lt i e).2
      omega
    · intro i hi e
      have h1 := (hv.lt i hi).1
      have h2 := (hI.st.lt i e).2
      omega
    · rintro i rfl
      omega

theorem path_done {w W : World} {kv ek ev sv x0 : Value} {o : Option Nod} {key : List UInt8} {ys : List (Step o key)} {D : Nat} (hI : PathI w kv o key ys W ek ev sv) (hD : w.heap.size + 5 ≤ D) (hK : W.heap[D]? = some (.deferred (some []))) :
    ∀ W4, (((W.setCell ⟨w.heap.size + 1, 0, none⟩ x0).setCell ⟨w.heap.size + 1, 1, none⟩ ek).setCell ⟨w.heap.size + 1, 2, none⟩ ev).setCell ⟨w.heap.size + 1, 3, none⟩ sv = W4 →
      W4.heap[D]? = some (.deferred (some [])) ∧ (W4.putObj D (.deferred none)).heap[w.heap.size + 1]? = some (.cells #[x0, ek, ev, sv] 59 (0, 0)) ∧
      Copy w.heap.size (W4.putObj D (.deferred none)) ek (((seen ys).map (·.1)).getD []) ∧ Copy w.heap.size (W4.putObj D (.deferred none)) ev (((seen ys).map (·.2)).getD []) ∧
      (W4.putObj D (.deferred none)).ownsRow w.heap.size 62 34 sv (walked ys).length ((walked ys).flatMap stepC) ∧ Below w.heap.size w (W4.putObj D (.deferred none)) := by
  intro W4 h4
  have sp : Spares (fun i => i = w.heap.size + 1) W W4 := by
    rw [← h4]
    exact (spares_set2 W (w.heap.size + 1) 0 1 _ _).andThen (spares_set2 _ (w.heap.size + 1) 2 3 _ _) (fun i hi => .inl hi)
  have hbig := hI.big
  have hK4 : W4.heap[D]? = some (.deferred (some [])) := (sp.block D (Array.getElem?_eq_some_iff.1 hK).1 (by omega)).trans hK
  have ho4 : W4.heap[w.heap.size + 1]? = some (.cells #[x0, ek, ev, sv] 59 (0, 0)) := by
    rw [← h4]
    exact heap_setCell_same _ _ _ _ _ _ (heap_setCell_same _ _ _ _ _ _ (heap_setCell_same _ _ _ _ _ _ (heap_setCell_same _ _ _ _ _ _ hI.out)))
  have hg := grownBy_putObj' W4 D (.deferred none)
  have hr : ∀ r, some D = some r → w.heap.size + 5 ≤ r ∧ ∃ o : Obj, W4.heap[r]? = some o ∧ o.isCells = false := fun r e => by cases e; exact ⟨hD, _, hK4, rfl⟩
  have low : ∀ {e' s' n' : Nat} {v : Value} {xs : List Value}, W.ownsRow (w.heap.size + 5) e' s' v n' xs → (W4.putObj D (.deferred none)).ownsRow w.heap.size e' s' v n' xs := fun {e' s' n' v xs} h =>
    row_own (owns_lower (sp.row h (fun g hv e => by have := (h.lt g hv).1; omega)) (fun g hv => by have := (h.lt g hv).1; omega)) hg hr
  refine ⟨hK4, (World.putObj_heap_other (by omega)).trans ho4, low hI.ke, low hI.ve, low hI.st, hI.below.trans ((sp.below (fun i hi => by omega) hI.below.size).trans ?_)⟩
  exact ⟨rfl, rfl, rfl, by simp, fun k hk => World.putObj_heap_other (by omega)⟩
end Go.Proofs.YthkeofinamedfaaDoor
