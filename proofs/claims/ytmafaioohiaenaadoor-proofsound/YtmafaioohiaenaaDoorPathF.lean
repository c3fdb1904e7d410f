/- The way to which a key leads, as steps; their cells. -/
import Derived.Test.YtmafaioohiaenaaDoorRootF
import Derived.Test.YtmafaioohiaenaaDoorHeld
import Derived.Test.YtmafaioohiaenaaDoorPutF
namespace Go.Proofs.YtmafaioohiaenaaDoor
open Go.RowKit
set_option linter.unusedVariables false
set_option maxRecDepth 20000

/-- A step: the place, whether the key leads to the right, the root of the other side. -/
abbrev Stp := Nat × Bool × List UInt8

def Tri.steps : Tri → List UInt8 → List Stp
  | .leaf _ _, _ => []
  | .fork p l r, key => (p, bit key p, rootT (if bit key p then l else r)) :: (if bit key p then r.steps key else l.steps key)

def stepsO : Option Tri → List UInt8 → List Stp
  | none, _ => []
  | some t, key => t.steps key

def Nod.stp (key : List UInt8) : Nod → List Stp
  | leaf _ _ _ _ _ => []
  | fork _ p l r => [(p, bit key p, rootT (if bit key p then l.tri else r.tri))]

def Nod.ent : Nod → Option Ent
  | leaf _ _ _ k v => some (k, v)
  | fork _ _ _ _ => none

theorem Nod.way_steps : ∀ (x : Nod) (key : List UInt8), (x.way key).flatMap (Nod.stp key) = x.tri.steps key
  | leaf b kv vv k v, key => rfl
  | fork b p l r, key => by
    have hl := way_steps l key
    have hr := way_steps r key
    simp only [way, tri, Tri.steps, List.flatMap_cons, stp]
    cases bit key p with
    | true => simp [hr]
    | false => simp [hl]

theorem Nod.way_ents : ∀ (x : Nod) (key : List UInt8), (x.way key).filterMap Nod.ent = [x.tri.near key]
  | leaf b kv vv k v, key => rfl
  | fork b p l r, key => by
    have hl := way_ents l key
    have hr := way_ents r key
    simp only [way, tri, Tri.near, List.filterMap_cons, ent]
    cases bit key p with
    | true => simp [hr]
    | false => simp [hl]

theorem Nod.way_length : ∀ (x : Nod) (key : List UInt8), (x.way key).length ≤ x.tri.ents.length
  | leaf b kv vv k v, key => by simp [way, tri, Tri.ents]
  | fork b p l r, key => by
    have hl := way_length l key
    have hr := way_length r key
    have pl := Tri.ents_pos l.tri
    have pr := Tri.ents_pos r.tri
    simp only [way, tri, Tri.ents, List.length_cons, List.length_append]
    split <;> omega

theorem wayO_length (o : Option Nod) (key : List UInt8) : (wayO o key).length ≤ (Tri.entsO (triO o)).length := by
  cases o with
  | none => simp [wayO]
  | some x => exact Nod.way_length x key

theorem Tri.steps_length : ∀ (t : Tri) (key : List UInt8), (t.steps key).length < t.ents.length
  | .leaf k v, key => by simp [Tri.steps, Tri.ents]
  | .fork p l r, key => by
    have hl := steps_length l key
    have hr := steps_length r key
    have pl := ents_pos l
    have pr := ents_pos r
    simp only [Tri.steps, Tri.ents, List.length_cons, List.length_append]
    split <;> omega

/-- What has been told. -/
def seen {o : Option Nod} {key : List UInt8} (pre : List (Step o key)) : Option Ent := (pre.filterMap (fun x => x.1.ent)).getLast?
def walked {o : Option Nod} {key : List UInt8} (pre : List (Step o key)) : List Stp := pre.flatMap fun x => x.1.stp key

theorem seen_all {o : Option Nod} {key : List UInt8} (pre : List (Step o key)) (h : pre.map (·.1) = wayO o key) : seen pre = (triO o).map (·.near key) := by
  have e : pre.filterMap (fun x => x.1.ent) = (pre.map (·.1)).filterMap Nod.ent := by rw [List.filterMap_map]; rfl
  unfold seen
  rw [e, h]
  cases o with
  | none => rfl
  | some x => simp [wayO, Nod.way_ents, triO]

theorem walked_all {o : Option Nod} {key : List UInt8} (pre : List (Step o key)) (h : pre.map (·.1) = wayO o key) : walked pre = stepsO (triO o) key := by
  have e : pre.flatMap (fun x => x.1.stp key) = (pre.map (·.1)).flatMap (Nod.stp key) := by rw [List.flatMap_map]
  unfold walked
  rw [e, h]
  cases o with
  | none => rfl
  | some x => exact Nod.way_steps x key

theorem seen_leaf {o : Option Nod} {key : List UInt8} (pre : List (Step o key)) (x : Step o key) (e : Ent) (h : x.1.ent = some e) : seen (pre ++ [x]) = some e := by
  simp [seen, List.filterMap_append, h]

theorem seen_fork {o : Option Nod} {key : List UInt8} (pre : List (Step o key)) (x : Step o key) (h : x.1.ent = none) : seen (pre ++ [x]) = seen pre := by
  simp [seen, List.filterMap_append, h]

theorem walked_snoc {o : Option Nod} {key : List UInt8} (pre : List (Step o key)) (x : Step o key) : walked (pre ++ [x]) = walked pre ++ x.1.stp key := by simp [walked]

theorem walked_le {o : Option Nod} {key : List UInt8} : ∀ (pre : List (Step o key)), (walked pre).length ≤ pre.length
  | [] => by simp [walked]
  | x :: r => by
    have h := walked_le r
    have : (x.1.stp key).length ≤ 1 := by cases x.1 <;> simp [Nod.stp]
    simp only [walked, List.flatMap_cons, List.length_append, List.length_cons] at *
    omega

/-- A step's cells. -/
def stepC (s : Stp) : List Value := .int .i64 s.1 :: .bool s.2.1 :: s.2.2.map by8

theorem stepC_one (s : Stp) : ∀ u ∈ stepC s, u.oneCell' = true := by
  intro u hu
  simp only [stepC, List.mem_cons] at hu
  rcases hu with rfl | rfl | hu
  · rfl
  · rfl
  · exact by8_one _ u hu

def zeroStep : Array Value := (.int .i64 0 :: .bool false :: List.replicate 32 (.int .u8 0)).toArray

theorem Tryd.infoStep : (Tryd.prog.info? 66).map (fun i => (i.zero, i.size, i.bytes)) = some (some (.agg zeroStep), 34, 48) := by kernel_rfl
theorem Tryd.infoSteps : (Tryd.prog.info? 27).map (·.size) = some 1 := by kernel_rfl
theorem Tryd.infoProof : (Tryd.prog.info? 29).map (·.size) = some 4 := by kernel_rfl

theorem built_step' (p : Int) (b : Bool) (a0 a1 a2 a3 a4 a5 a6 a7 a8 a9 a10 a11 a12 a13 a14 a15 a16 a17 a18 a19 a20 a21 a22 a23 a24 a25 a26 a27 a28 a29 a30 a31 : Value) : Tryd.prog.built 66 [(0, .int .i64 p), (1, .bool b), (2, .agg #[a0, a1, a2, a3, a4, a5, a6, a7, a8, a9, a10, a11, a12, a13, a14, a15, a16, a17, a18, a19, a20, a21, a22, a23, a24, a25, a26, a27, a28, a29, a30, a31])] = some #[.int .i64 p, .bool b, a0, a1, a2, a3, a4, a5, a6, a7, a8, a9, a10, a11, a12, a13, a14, a15, a16, a17, a18, a19, a20, a21, a22, a23, a24, a25, a26, a27, a28, a29, a30, a31] := by kernel_rfl

theorem built_step (p : Int) (b : Bool) (A : List Value) (h : A.length = 32) : Tryd.prog.built 66 [(0, .int .i64 p), (1, .bool b), (2, .agg A.toArray)] = some (Value.int .i64 p :: .bool b :: A).toArray := by
  match A, h with
  | [a0, a1, a2, a3, a4, a5, a6, a7, a8, a9, a10, a11, a12, a13, a14, a15, a16, a17, a18, a19, a20, a21, a22, a23, a24, a25, a26, a27, a28, a29, a30, a31], _ => exact built_step' p b a0 a1 a2 a3 a4 a5 a6 a7 a8 a9 a10 a11 a12 a13 a14 a15 a16 a17 a18 a19 a20 a21 a22 a23 a24 a25 a26 a27 a28 a29 a30 a31

/-- A row of a call's own stands a loop's own changes. -/
theorem row_own {B B' e s n : Nat} {v : Value} {xs : List Value} {W W' : World} {row : Option Nat} (h : W.ownsRow B' e s v n xs) (hg : W.grownBy W' row) (hr : ∀ r, row = some r → B ≤ r ∧ ∃ o : Obj, W.heap[r]? = some o ∧ o.isCells = false) : W'.ownsRow B' e s v n xs := by
  refine (Spares.of_grown (S := fun i => row = some i) hg (fun k e => e)).row h fun g hv hs => ?_
  rcases h.2 with ⟨rfl, _⟩ | ⟨g', cap, cur, rfl, _, hg', _⟩
  · cases hv
  · have : g' = g := by simpa [Value.ownBlock] using hv
    subst this
    obtain ⟨_, o, ho, hc⟩ := hr g' hs
    rw [hg'] at ho
    cases ho
    cases hc

theorem row_cells {W : World} {B e s n : Nat} {v : Value} {xs : List Value} (h : W.ownsRow B e s v n xs) {g : Nat} (hg : v.ownBlock = some g) : ∃ cs t fr, W.heap[g]? = some (.cells cs t fr) := by
  rcases h.2 with ⟨rfl, _⟩ | ⟨g', cap, cur, rfl, _, hg', _⟩
  · cases hg
  · have : g' = g := by simpa [Value.ownBlock] using hg
    subst this
    exact ⟨_, _, _, hg'⟩

/-- Of blocks that hold cells alone some may turn: what a loop keeps there stays. -/
theorem keepsFrom_of {S : Nat → Prop} {B : Nat} {W W' : World} (h : Spares S W W') (hS : ∀ i, S i → ∃ cs t fr, W.heap[i]? = some (.cells cs t fr)) : KeepsFrom B W W' :=
  ⟨h.size, fun k o _ hk ho => (h.block k (Array.getElem?_eq_some_iff.1 hk).1 (fun hs => by
    obtain ⟨cs, t, fr, hc⟩ := hS k hs
    rw [hk] at hc
    cases hc
    cases ho)).trans hk⟩

theorem callsIn_round {l n : Nat} {P : Program} {f : FuncId} {args : Array Value} {w : World} {R : Ending → World → Prop} (h : Calls P f args w R) : CallsIn (Fence.wide.inRound l) n P f args w R := callsIn_wide.2 h

/-- Five new blocks. -/
theorem alloc5 (w : World) (o1 o2 o3 o4 o5 : Obj) : ∃ w5, ((((w.alloc o1).alloc o2).alloc o3).alloc o4).alloc o5 = w5 ∧ w5.heap[w.heap.size]? = some o1 ∧ w5.heap[w.heap.size + 1]? = some o2 ∧ w5.heap[w.heap.size + 2]? = some o3 ∧ w5.heap[w.heap.size + 3]? = some o4 ∧ w5.heap[w.heap.size + 4]? = some o5 ∧ Below w.heap.size w w5 ∧ w5.heap.size = w.heap.size + 5 := by
  obtain ⟨w4, he, h0, h1, h2, h3, hb, hz⟩ := alloc4 w o1 o2 o3 o4
  have hn := World.alloc_heap_new w4 o5
  have hb' := (Below.refl w4.heap.size w4).alloc (Nat.le_refl _) o5
  rw [hz] at hn
  exact ⟨_, by rw [he], (hb'.block _ (by omega)).trans h0, (hb'.block _ (by omega)).trans h1, (hb'.block _ (by omega)).trans h2, (hb'.block _ (by omega)).trans h3, hn, hb.trans (hb'.mono (by omega)), by rw [World.size_alloc, hz]⟩

/-- What a walk of a proof has in hand: the key's box, the result's, the proof's. -/
structure PathI (w : World) (kv : Value) (o : Option Nod) (key : List UInt8) (pre : List (Step o key)) (W : World) (ek ev sv : Value) : Prop where
  box : W.heap[w.heap.size]? = some (.cells #[kv] 24 (0, 0))
  out : W.heap[w.heap.size + 1]? = some (.cells #[.bool false, .slice none 0 0, .slice none 0 0, .slice none 0 0] 29 (0, 0))
  got : W.heap[w.heap.size + 2]? = some (.cells #[.bool (seen pre).isNone, ek, ev, sv] 29 (0, 0))
  ke : Copy (w.heap.size + 5) W ek (((seen pre).map (·.1)).getD [])
  ve : Copy (w.heap.size + 5) W ev (((seen pre).map (·.2)).getD [])
  st : W.ownsRow (w.heap.size + 5) 66 34 sv (walked pre).length ((walked pre).flatMap stepC)
  kva : ∀ g, ek.ownBlock = some g → ev.ownBlock ≠ some g
  ksa : ∀ g, ek.ownBlock = some g → sv.ownBlock ≠ some g
  vsa : ∀ g, ev.ownBlock = some g → sv.ownBlock ≠ some g
  below : Below w.heap.size w W
  big : w.heap.size + 5 ≤ W.heap.size

theorem pathI_own {w : World} {kv : Value} {o : Option Nod} {key : List UInt8} {B : Nat} (hB : w.heap.size ≤ B) : OwnFrom B (fun (pre : List (Step o key)) W => ∃ ek ev sv, PathI w kv o key pre W ek ev sv) := fun s W W' row hs hg hr => by
  obtain ⟨ek, ev, sv, h⟩ := hs
  exact ⟨ek, ev, sv, cells_own () W W' row h.box hg hr, cells_own () W W' row h.out hg hr, cells_own () W W' row h.got hg hr, row_own h.ke hg hr, row_own h.ve hg hr, row_own h.st hg hr, h.kva, h.ksa, h.vsa,
    (spares_own (S := fun _ => False) hB () W W' row (Spares.of_new h.below) hg hr).below (fun i hi => hi.elim) (Nat.le_refl _), Nat.le_trans h.big hg.size⟩

theorem path_fork {w W W2 W3 : World} {kv ek ev sv : Value} {o : Option Nod} {key : List UInt8} {pre : List (Step o key)} {B g cap : Nat} (hI : PathI w kv o key pre W ek ev sv) (x : Step o key) (s : Stp) (hx : x.1.stp key = [s]) (hxe : x.1.ent = none)
    (hb : Below W.heap.size W W2) (hg : W2.grownBy W3 sv.ownBlock)
    (hown : W3.ownsRow (w.heap.size + 5) 66 34 (.slice (some ⟨g, 0, none⟩) ((walked pre).length + 1) cap) ((walked pre).length + 1) ((walked pre).flatMap stepC ++ stepC s)) (hat : sv.ownBlock = some g ∨ g = W2.heap.size) :
    KeepsFrom B W (W3.setCell ⟨w.heap.size + 2, 3, none⟩ (.slice (some ⟨g, 0, none⟩) ((walked pre).length + 1) cap)) ∧ KpB w.heap.size (w.heap.size + 4) W (W3.setCell ⟨w.heap.size + 2, 3, none⟩ (.slice (some ⟨g, 0, none⟩) ((walked pre).length + 1) cap)) ∧
      ∃ ek ev sv, PathI w kv o key (pre ++ [x]) (W3.setCell ⟨w.heap.size + 2, 3, none⟩ (.slice (some ⟨g, 0, none⟩) ((walked pre).length + 1) cap)) ek ev sv := by
  have hbig := hI.big
  have hlow : ∀ i, sv.ownBlock = some i → w.heap.size + 5 ≤ i ∧ i < W.heap.size := fun i hi => hI.st.lt i hi
  have spg : Spares (fun i => sv.ownBlock = some i) W W3 := (Spares.of_new hb).andThen (Spares.of_grown (S := fun i => sv.ownBlock = some i) hg (fun k e => e)) (fun i hi => .inl hi)
  have sp : Spares (fun i => i = w.heap.size + 2 ∨ sv.ownBlock = some i) W (W3.setCell ⟨w.heap.size + 2, 3, none⟩ (.slice (some ⟨g, 0, none⟩) ((walked pre).length + 1) cap)) :=
    (spg.mono fun i hi => .inr hi).andThen (spares_set W3 ⟨w.heap.size + 2, 3, none⟩ _) (fun i hi => .inl (.inl hi))
  have hgot3 := (spg.block (w.heap.size + 2) (by omega) (fun e => by have := (hlow _ e).1; omega)).trans hI.got
  have hgge : w.heap.size + 5 ≤ g := by
    rcases hat with h | h
    · exact (hlow g h).1
    · have := hb.size; omega
  have hstp : walked (pre ++ [x]) = walked pre ++ [s] := by rw [walked_snoc, hx]
  have hnew : ∀ q : Value, (∀ i, q.ownBlock = some i → i < W.heap.size) → (∀ i, q.ownBlock = some i → sv.ownBlock ≠ some i) → ∀ i, q.ownBlock = some i → (Value.slice (some ⟨g, 0, none⟩) ((walked pre).length + 1) cap).ownBlock ≠ some i := fun q h1 h2 i hi e => by
    have : g = i := by simpa [Value.ownBlock] using e
    subst this
    rcases hat with h | h
    · exact h2 g hi h
    · have := h1 g hi; have := hb.size; omega
  refine ⟨keepsFrom_of sp ?_, ⟨sp.below ?_ (by omega), sp.block _ (by omega) ?_⟩, ek, ev, .slice (some ⟨g, 0, none⟩) ((walked pre).length + 1) cap, ?_⟩
  · rintro i (rfl | hi)
    · exact ⟨_, _, _, hI.got⟩
    · exact row_cells hI.st hi
  · rintro i (rfl | hi)
    · omega
    · have := (hlow i hi).1; omega
  · rintro (h | h)
    · omega
    · have := (hlow _ h).1; omega
  · refine ⟨(sp.block _ (by omega) ?_).trans hI.box, (sp.block _ (by omega) ?_).trans hI.out, ?_, ?_, ?_, ?_, hI.kva, ?_, ?_, hI.below.trans (sp.below ?_ hI.below.size), Nat.le_trans hbig sp.size⟩
    · rintro (h | h)
      · omega
      · have := (hlow _ h).1; omega
    · rintro (h | h)
      · omega
      · have := (hlow _ h).1; omega
    · rw [seen_fork pre x hxe]
      exact heap_setCell_same _ _ _ _ _ _ hgot3
    · rw [seen_fork pre x hxe]
      exact sp.row hI.ke (fun i hi h => by rcases h with rfl | h; (have := (hI.ke.lt _ hi).1; omega); exact hI.ksa i hi h)
    · rw [seen_fork pre x hxe]
      exact sp.row hI.ve (fun i hi h => by rcases h with rfl | h; (have := (hI.ve.lt _ hi).1; omega); exact hI.vsa i hi h)
    · rw [hstp]
      simp only [List.length_append, List.length_cons, List.length_nil, List.flatMap_append, List.flatMap_cons, List.flatMap_nil, List.append_nil, Nat.zero_add]
      exact (spares_set W3 ⟨w.heap.size + 2, 3, none⟩ _).row hown (fun i hi e => by
        have : g = i := by simpa [Value.ownBlock] using hi
        have e' : i = w.heap.size + 2 := e
        omega)
    · exact hnew ek (fun i hi => (hI.ke.lt i hi).2) hI.ksa
    · exact hnew ev (fun i hi => (hI.ve.lt i hi).2) hI.vsa
    · rintro i (rfl | hi)
      · omega
      · have := (hlow i hi).1; omega

theorem path_leaf {w W w3 : World} {kv ek ev sv kv' vv' : Value} {o : Option Nod} {key k v : List UInt8} {pre : List (Step o key)} {B : Nat} (hI : PathI w kv o key pre W ek ev sv) (x : Step o key) (hx : x.1.stp key = []) (hxe : x.1.ent = some (k, v))
    (hb : Below W.heap.size W w3) (hk : Copy W.heap.size w3 kv' k) (hv : Copy W.heap.size w3 vv' v) (hap : ∀ g, kv'.ownBlock = some g → vv'.ownBlock ≠ some g) :
    KeepsFrom B W (((w3.setCell ⟨w.heap.size + 2, 0, none⟩ (.bool false)).setCell ⟨w.heap.size + 2, 1, none⟩ kv').setCell ⟨w.heap.size + 2, 2, none⟩ vv') ∧ KpB w.heap.size (w.heap.size + 4) W (((w3.setCell ⟨w.heap.size + 2, 0, none⟩ (.bool false)).setCell ⟨w.heap.size + 2, 1, none⟩ kv').setCell ⟨w.heap.size + 2, 2, none⟩ vv') ∧
      ∃ ek ev sv, PathI w kv o key (pre ++ [x]) (((w3.setCell ⟨w.heap.size + 2, 0, none⟩ (.bool false)).setCell ⟨w.heap.size + 2, 1, none⟩ kv').setCell ⟨w.heap.size + 2, 2, none⟩ vv') ek ev sv := by
  have hbig := hI.big
  have sp3 : Spares (fun i => i = w.heap.size + 2) w3 (((w3.setCell ⟨w.heap.size + 2, 0, none⟩ (.bool false)).setCell ⟨w.heap.size + 2, 1, none⟩ kv').setCell ⟨w.heap.size + 2, 2, none⟩ vv') :=
    (spares_set2 w3 (w.heap.size + 2) 0 1 _ _).andThen (spares_set _ ⟨w.heap.size + 2, 2, none⟩ _) (fun i hi => .inl hi)
  have sp : Spares (fun i => i = w.heap.size + 2) W (((w3.setCell ⟨w.heap.size + 2, 0, none⟩ (.bool false)).setCell ⟨w.heap.size + 2, 1, none⟩ kv').setCell ⟨w.heap.size + 2, 2, none⟩ vv') :=
    (Spares.of_new hb).andThen sp3 (fun i hi => .inl hi)
  have hgot3 := (hb.block (w.heap.size + 2) (by omega)).trans hI.got
  refine ⟨keepsFrom_of sp ?_, ⟨sp.below ?_ (by omega), sp.block _ (by omega) (by omega)⟩, kv', vv', sv, ?_⟩
  · rintro i rfl
    exact ⟨_, _, _, hI.got⟩
  · rintro i rfl
    omega
  · refine ⟨(sp.block _ (by omega) (by omega)).trans hI.box, (sp.block _ (by omega) (by omega)).trans hI.out, ?_, ?_, ?_, ?_, hap, ?_, ?_, hI.below.trans (sp.below ?_ hI.below.size), Nat.le_trans hbig sp.size⟩
    · rw [seen_leaf pre x _ hxe]
      exact heap_setCell_same _ _ _ _ _ _ (heap_setCell_same _ _ _ _ _ _ (heap_setCell_same _ _ _ _ _ _ hgot3))
    · rw [seen_leaf pre x _ hxe]
      exact hk.spares sp3 (fun i hi => by omega) hbig
    · rw [seen_leaf pre x _ hxe]
      exact hv.spares sp3 (fun i hi => by omega) hbig
    · rw [walked_snoc, hx, List.append_nil]
      exact sp.row hI.st (fun i hi e => by have := (hI.st.lt i hi).1; omega)
    · intro i hi e
      have h1 := (hk.lt i hi).1
      have h2 := (hI.st.lt i e).2
      omega
    · intro i hi e
      have h1 := (hv.lt i hi).1
      have h2 := (hI.st.lt i e).2
      omega
    · rintro i rfl
      omega

theorem path_done {w W : World} {kv ek ev sv x0 : Value} {o : Option Nod} {key : List UInt8} {ys : List (Step o key)} {D : Nat} (hI : PathI w kv o key ys W ek ev sv) (hD : w.heap.size + 5 ≤ D) (hK : W.heap[D]? = some (.deferred (some []))) :
    ∀ W4, (((W.setCell ⟨w.heap.size + 1, 0, none⟩ x0).setCell ⟨w.heap.size + 1, 1, none⟩ ek).setCell ⟨w.heap.size + 1, 2, none⟩ ev).setCell ⟨w.heap.size + 1, 3, none⟩ sv = W4 →
      W4.heap[D]? = some (.deferred (some [])) ∧ (W4.putObj D (.deferred none)).heap[w.heap.size + 1]? = some (.cells #[x0, ek, ev, sv] 29 (0, 0)) ∧
      Copy w.heap.size (W4.putObj D (.deferred none)) ek (((seen ys).map (·.1)).getD []) ∧ Copy w.heap.size (W4.putObj D (.deferred none)) ev (((seen ys).map (·.2)).getD []) ∧
      (W4.putObj D (.deferred none)).ownsRow w.heap.size 66 34 sv (walked ys).length ((walked ys).flatMap stepC) ∧ Below w.heap.size w (W4.putObj D (.deferred none)) := by
  intro W4 h4
  have sp : Spares (fun i => i = w.heap.size + 1) W W4 := by
    rw [← h4]
    exact (spares_set2 W (w.heap.size + 1) 0 1 _ _).andThen (spares_set2 _ (w.heap.size + 1) 2 3 _ _) (fun i hi => .inl hi)
  have hbig := hI.big
  have hK4 : W4.heap[D]? = some (.deferred (some [])) := (sp.block D (Array.getElem?_eq_some_iff.1 hK).1 (by omega)).trans hK
  have ho4 : W4.heap[w.heap.size + 1]? = some (.cells #[x0, ek, ev, sv] 29 (0, 0)) := by
    rw [← h4]
    exact heap_setCell_same _ _ _ _ _ _ (heap_setCell_same _ _ _ _ _ _ (heap_setCell_same _ _ _ _ _ _ (heap_setCell_same _ _ _ _ _ _ hI.out)))
  have hg := grownBy_putObj' W4 D (.deferred none)
  have hr : ∀ r, some D = some r → w.heap.size + 5 ≤ r ∧ ∃ o : Obj, W4.heap[r]? = some o ∧ o.isCells = false := fun r e => by cases e; exact ⟨hD, _, hK4, rfl⟩
  have low : ∀ {e' s' n' : Nat} {v : Value} {xs : List Value}, W.ownsRow (w.heap.size + 5) e' s' v n' xs → (W4.putObj D (.deferred none)).ownsRow w.heap.size e' s' v n' xs := fun {e' s' n' v xs} h =>
    row_own (owns_lower (sp.row h (fun g hv e => by have := (h.lt g hv).1; omega)) (fun g hv => by have := (h.lt g hv).1; omega)) hg hr
  refine ⟨hK4, (World.putObj_heap_other (by omega)).trans ho4, low hI.ke, low hI.ve, low hI.st, hI.below.trans ((sp.below (fun i hi => by omega) hI.below.size).trans ?_)⟩
  exact ⟨rfl, rfl, rfl, by simp, fun k hk => World.putObj_heap_other (by omega)⟩
end Go.Proofs.YtmafaioohiaenaaDoor

/- Contract of trie.Tree.Path. -/

namespace Go.Proofs.YtmafaioohiaenaaDoor
open Go.RowKit Go.Shelf
set_option linter.unusedVariables false
set_option maxRecDepth 20000
attribute [local go_sem] Oper.semAt_some

set_option linter.unusedSimpArgs false
set_option maxHeartbeats 4000000 in
theorem path_any (tb : Nat) (o : Option Nod) (kv : Value) (key : List UInt8) (w : World) (ht : TreeAt w tb o) (hk : Says w kv key) (hT : Tables w) (hn : (Tri.entsO (triO o)).length < 1000000000) :
    Calls Tryd.prog 66 #[.pointer (some ⟨tb, 0, none⟩), kv] w fun e w' => ∃ ek ev sv, e = .returned (.agg #[.bool (triO o).isNone, ek, ev, sv]) ∧
      Copy w.heap.size w' ek ((((triO o).map (·.near key)).map (·.1)).getD []) ∧ Copy w.heap.size w' ev ((((triO o).map (·.near key)).map (·.2)).getD []) ∧
      w'.ownsRow w.heap.size 66 34 sv (stepsO (triO o) key).length ((stepsO (triO o) key).flatMap stepC) ∧ (∀ g, ek.ownBlock = some g → ev.ownBlock ≠ some g) ∧ Below w.heap.size w w' := by
  have hk0 := hk
  obtain ⟨a, c, rfl, g1, g2, gn, g3⟩ := hk
  clear g3 gn
  refine (callsIn_wide (n := 3)).1 ?_
  refine callsIn_of_wp_marks Tryd.func66 rfl trivial ?_ rfl
  simp only [Tryd.ntmps66, List.size_toArray, List.length_cons, List.length_nil, Nat.reduceAdd, Nat.reduceSub, Array.replicate_succ, Array.replicate_zero, List.push_toArray, List.append_toArray, List.nil_append, List.cons_append]
  gi_wp2_with (refine ⟨trivial, ?_⟩; gi_at_call 93; refine (callsIn_wide.2 (down_any _ _ _ _ _)).mono ?_; rintro e w' ⟨rfl, rfl⟩)
  obtain ⟨w5, hw5, c0, c1, c2, c3, c4, hB0, hsz⟩ := alloc5 w (.cells #[.slice a key.length c] 24) (.cells #[.bool false, .slice none 0 0, .slice none 0 0, .slice none 0 0] 29) (.cells #[.bool true, .slice none 0 0, .slice none 0 0, .slice none 0 0] 29) (.cells #[.pointer (some ⟨tb, 0, none⟩)] 52) (.cells #[.slice a key.length c] 24)
  rw [hw5]
  clear hw5
  have ht5 := ht.new hB0
  have hs5 : Shows w.heap.size w5 (.slice a key.length c) key := hk0.below hB0
  refine wpIn_rangeFunc_ownG rfl (by omega) (gf := 107) (lb := #[.pointer (some ⟨w.heap.size + 1 + 1 + 1, 0, none⟩), .pointer (some ⟨w.heap.size + 1 + 1 + 1 + 1, 0, none⟩)]) rfl trivial (enters_of Tryd.func107 (by kernel_rfl) rfl)
    (down_stops _ (w.heap.size + 1 + 1 + 1) (w.heap.size + 1 + 1 + 1 + 1) w.heap.size tb a key.length c key o w5 (by rw [cell_of_row _ _ _ _ _ _ c3]; rfl) c4 hs5 ht5 ht.lt (by omega)) kpB_t (kpB_b (by omega) (by omega)) (Below.refl _ _) (fun _ => rfl)
    (fun pre W => ∃ ek ev sv, PathI w (.slice a key.length c) o key pre W ek ev sv)
    (fun _ _ _ => False)
    (pathI_own (by omega))
    (fun _ _ _ _ _ hs _ _ => hs)
    ⟨.slice none 0 0, .slice none 0 0, .slice none 0 0, c0, c1, c2, World.ownsRow_nil _ _ _ _, World.ownsRow_nil _ _ _ _, World.ownsRow_nil _ _ _ _, fun g h => (by cases h), fun g h => (by cases h), fun g h => (by cases h), hB0, by omega⟩
    (fun y => { tmps := #[.pointer (some ⟨tb, 0, none⟩), .slice a key.length c, undef, .pointer (some ⟨w.heap.size, 0, none⟩), .pointer (some ⟨w.heap.size + 1, 0, none⟩), .pointer (some ⟨w.heap.size + 1 + 1, 0, none⟩), y.1.at', .agg #[.bool true, .slice none 0 0, .slice none 0 0, .slice none 0 0], .pointer (some ⟨tb, 0, none⟩), .slice a key.length c, .func (.func 107) #[] #[.pointer (some ⟨w.heap.size + 1 + 1 + 1, 0, none⟩), .pointer (some ⟨w.heap.size + 1 + 1 + 1 + 1, 0, none⟩)], y.1.at', undef, undef, undef, undef, undef, undef, undef, undef, undef, undef, undef, undef, undef, undef, undef, undef, undef, undef, undef, undef, undef, undef, undef, undef, undef, undef, undef, undef, undef, undef], defers := [] }) ?assign ?body ?done ?stop
  case assign =>
    intro l x W K hK
    gi_wp2
    exact hK
  case stop =>
    rintro D cd pre W _ _ h _
    exact h.elim
  case done =>
    rintro D ys W hD hS ⟨ek, ev, sv, hI⟩ hK
    have g0 : W.cell? ⟨w.heap.size + 1 + 1, 0, none⟩ = some (.bool (seen ys).isNone) := by rw [cell_of_row _ _ _ _ _ _ hI.got]; rfl
    have g1 : W.cell? ⟨w.heap.size + 1 + 1, 1, none⟩ = some ek := by rw [cell_of_row _ _ _ _ _ _ hI.got]; rfl
    have g2 : W.cell? ⟨w.heap.size + 1 + 1, 2, none⟩ = some ev := by rw [cell_of_row _ _ _ _ _ _ hI.got]; rfl
    have g3 : W.cell? ⟨w.heap.size + 1 + 1, 3, none⟩ = some sv := by rw [cell_of_row _ _ _ _ _ _ hI.got]; rfl
    have u0 : W.cell? ⟨w.heap.size + 1, 0, none⟩ = some (.bool false) := by rw [cell_of_row _ _ _ _ _ _ hI.out]; rfl
    have u1 : W.cell? ⟨w.heap.size + 1, 1, none⟩ = some (.slice none 0 0) := by rw [cell_of_row _ _ _ _ _ _ hI.out]; rfl
    have u2 : W.cell? ⟨w.heap.size + 1, 2, none⟩ = some (.slice none 0 0) := by rw [cell_of_row _ _ _ _ _ _ hI.out]; rfl
    have u3 : W.cell? ⟨w.heap.size + 1, 3, none⟩ = some (.slice none 0 0) := by rw [cell_of_row _ _ _ _ _ _ hI.out]; rfl
    have uf : ∀ j, W.frozen? ⟨w.heap.size + 1, j, none⟩ = false := fun j => by simp [World.frozen?, hI.out]
    obtain ⟨a3, c3', rfl⟩ := hI.ke.form
    obtain ⟨a4, c4', rfl⟩ := hI.ve.form
    obtain ⟨a5, n5, c5', rfl⟩ : ∃ a n c, sv = .slice a n c := by
      rcases hI.st.2 with ⟨rfl, _⟩ | ⟨g, cap, cur, rfl, _⟩
      · exact ⟨none, 0, 0, rfl⟩
      · exact ⟨_, _, _, rfl⟩
    have HI := hid hI
    clear hI
    gi_wp2
    generalize hW4 : (((W.setCell _ _).setCell _ _).setCell _ _).setCell _ _ = W4
    obtain ⟨d1, d2, d3, d4, d5, d6⟩ := path_done HI.out (by omega) hK W4 hW4
    have dk := HI.out.kva
    rw [seen_all ys hS] at d2 d3 d4 dk
    rw [walked_all ys hS] at d5
    refine ⟨by simp, .inl ⟨_, _, rfl, run_takeDeferred d1, ?_⟩⟩
    refine ⟨_, results_cell_row (p := 4) (ty := 29) rfl _ _ (w.heap.size + 1) 29 _ (0, 0) _ rfl d2 Tryd.underlying29 rfl Tryd.infoProof, _, _, _, ?_, d3, d4, d5, dk, d6⟩
    cases o <;> rfl
  case body =>
    rintro l pre ⟨x, hx⟩ W ⟨ek, ev, sv, hI⟩ hlt
    cases o with
    | none => cases hx
    | some X =>
    have hxl := (Nod.way_lies (ht.lies X rfl) x hx).new hI.below
    have hxw := Nod.ok_way (show X.tri.WF from ht.wf) x hx
    have hxb : x.blk < w.heap.size := ht.lt _ (.inr ⟨X, rfl, Nod.way_blks x hx _ x.blk_mem⟩)
    have HI := hid hI
    cases x with
    | leaf b lk lv k' v' =>
      have hsh : Tri.short (k', v') := Tri.short_of (.leaf k' v') hxw _ (by simp [Tri.ents])
      obtain ⟨ak, ck, rfl, _⟩ := id hxl.2.1
      obtain ⟨av, cv, rfl, _⟩ := id hxl.2.2
      have q0 : W.cell? ⟨b, 0, none⟩ = some (.slice ak k'.length ck) := by rw [cell_of_row _ _ _ _ _ _ hxl.1]; rfl
      have q1 : W.cell? ⟨b, 1, none⟩ = some (.slice av v'.length cv) := by rw [cell_of_row _ _ _ _ _ _ hxl.1]; rfl
      have hL := isLeaf_any b none W (by rw [cell_of_row _ _ _ _ _ _ hxl.1]; rfl)
      simp only [Option.isNone_none] at hL
      have HC := entry_any _ _ k' v' W hxl.2.1 hxl.2.2 (by have := hsh.1; simp at this; omega) (by have := hsh.2; simp at this; omega)
      have hbig := hI.big
      simp only [Nod.at']
      rw [show (Nod.leaf b (.slice ak k'.length ck) (.slice av v'.length cv) k' v').blk = b from rfl]
      clear hI hxl
      gi_wp2_with (refine ⟨trivial, ?_⟩; first
        | (gi_at_call 94; refine (callsIn_round hL).mono ?_; clear hL; rintro e W ⟨rfl, rfl⟩)
        | (gi_at_call 70; refine (callsIn_round HC).mono ?_; clear HC; rintro e w3 ⟨kv', vv', rfl, hk3, hv3, hap3, hb3⟩
           obtain ⟨a3, c3', rfl⟩ := hk3.form
           obtain ⟨a4, c4', rfl⟩ := hv3.form
           have hgot3 := (hb3.block (w.heap.size + 2) (by omega)).trans HI.out.got
           have r0 : w3.cell? ⟨w.heap.size + 1 + 1, 0, none⟩ = some (.bool (seen pre).isNone) := by rw [cell_of_row _ _ _ _ _ _ hgot3]; rfl
           have r1 : w3.cell? ⟨w.heap.size + 1 + 1, 1, none⟩ = some ek := by rw [cell_of_row _ _ _ _ _ _ hgot3]; rfl
           have r2 : w3.cell? ⟨w.heap.size + 1 + 1, 2, none⟩ = some ev := by rw [cell_of_row _ _ _ _ _ _ hgot3]; rfl
           have rf : ∀ j, w3.frozen? ⟨w.heap.size + 1 + 1, j, none⟩ = false := fun j => by simp [World.frozen?, hgot3]
           have HF := hid (fun B => path_leaf (B := B) HI.out ⟨.leaf b (.slice ak k'.length ck) (.slice av v'.length cv) k' v', hx⟩ rfl rfl hb3 hk3 hv3 hap3)
           clear hk3 hv3 hap3 hb3 hgot3))
      exact ⟨(HF.out _).1, (HF.out 0).2.1, (HF.out 0).2.2⟩
    | fork b p yl yr =>
      have HX := hid hxl
      have hp := Tri.place_bound p _ _ hxw
      have h2 : W.cell? ⟨b, 2, none⟩ = some (.int .i64 p) := by rw [cell_of_row _ _ _ _ _ _ hxl.1]; rfl
      have h3 : W.cell? ⟨b, 3, none⟩ = some yl.at' := by rw [cell_of_row _ _ _ _ _ _ hxl.1]; rfl
      have h4 : W.cell? ⟨b, 4, none⟩ = some yr.at' := by rw [cell_of_row _ _ _ _ _ _ hxl.1]; rfl
      have hL := isLeaf_any b (some ⟨yl.blk, 0, none⟩) W h3
      simp only [Option.isNone_some] at hL
      simp only [Nod.at']
      rw [show (Nod.fork b p yl yr).blk = b from rfl]
      have hS0 : (fun W' : World => W'.cell? ⟨w.heap.size + 1 + 1, 3, none⟩ = some sv ∧ W'.cell? ⟨b, 2, none⟩ = some (.int .i64 p) ∧ W'.cell? ⟨w.heap.size, 0, none⟩ = some (.slice a key.length c)) W.drew := ⟨by show W.cell? _ = _; rw [cell_of_row _ _ _ _ _ _ hI.got]; rfl, h2, by show W.cell? _ = _; rw [cell_of_row _ _ _ _ _ _ hI.box]; rfl⟩
      clear hI hxl
      gi_wp2_with (refine ⟨trivial, ?_⟩; gi_at_call 94; refine (callsIn_round hL).mono ?_; clear hL; rintro e W ⟨rfl, rfl⟩)
      refine last_in_round (fun W' : World => W'.cell? ⟨w.heap.size + 1 + 1, 3, none⟩ = some sv ∧ W'.cell? ⟨b, 2, none⟩ = some (.int .i64 p) ∧ W'.cell? ⟨w.heap.size, 0, none⟩ = some (.slice a key.length c)) 20 (by kernel_rfl) (by kernel_rfl) (by rintro ⟨_, _, h⟩; exact h) ?_
      refine wpAnyE_take (i := 0) (v := ?_) rfl (by kernel_rfl) (by kernel_rfl) (by kernel_rfl) (by kernel_rfl) (by kernel_rfl) (fun _ _ _ h => h) (Or.inl ⟨by rfl, ?_⟩) (by assumption) ?_; rotate_left; (focus (intro w hSw; (try dsimp only at hSw); (try obtain ⟨hSw1, hSw2, hSw3⟩ := hSw); go_simp <;> with_reducible rfl)); (try simp only [Act.put, List.getElem_toArray, List.getElem_cons_zero, List.getElem_cons_succ, List.setIfInBounds_toArray, List.set_cons_zero, List.set_cons_succ])
      refine wpAnyE_take (i := 1) (v := ?_) rfl (by kernel_rfl) (by kernel_rfl) (by kernel_rfl) (by kernel_rfl) (by kernel_rfl) (fun _ _ _ h => h) (Or.inl ⟨by rfl, ?_⟩) (by assumption) ?_; rotate_left; (focus (intro w hSw; (try dsimp only at hSw); (try obtain ⟨hSw1, hSw2, hSw3⟩ := hSw); go_simp <;> with_reducible rfl)); (try simp only [Act.put, List.getElem_toArray, List.getElem_cons_zero, List.getElem_cons_succ, List.setIfInBounds_toArray, List.set_cons_zero, List.set_cons_succ])
      refine wpAnyE_take (i := 2) (v := ?_) rfl (by kernel_rfl) (by kernel_rfl) (by kernel_rfl) (by kernel_rfl) (by kernel_rfl) (fun _ _ _ h => h) (Or.inl ⟨by rfl, ?_⟩) (by assumption) ?_; rotate_left; (focus (intro w hSw; (try dsimp only at hSw); (try obtain ⟨hSw1, hSw2, hSw3⟩ := hSw); go_simp <;> with_reducible rfl)); (try simp only [Act.put, List.getElem_toArray, List.getElem_cons_zero, List.getElem_cons_succ, List.setIfInBounds_toArray, List.set_cons_zero, List.set_cons_succ])
      refine wpAnyE_take (i := 3) (v := ?_) rfl (by kernel_rfl) (by kernel_rfl) (by kernel_rfl) (by kernel_rfl) (by kernel_rfl) (fun _ _ _ h => h) (Or.inl ⟨by rfl, ?_⟩) (by assumption) ?_; rotate_left; (focus (intro w hSw; (try dsimp only at hSw); (try obtain ⟨hSw1, hSw2, hSw3⟩ := hSw); go_simp <;> with_reducible rfl)); (try simp only [Act.put, List.getElem_toArray, List.getElem_cons_zero, List.getElem_cons_succ, List.setIfInBounds_toArray, List.set_cons_zero, List.set_cons_succ])
      refine wpAnyE_take (i := 4) (v := ?_) rfl (by kernel_rfl) (by kernel_rfl) (by kernel_rfl) (by kernel_rfl) (by kernel_rfl) (fun _ _ _ h => h) (Or.inl ⟨by rfl, ?_⟩) (by assumption) ?_; rotate_left; (focus (intro w hSw; (try dsimp only at hSw); (try obtain ⟨hSw1, hSw2, hSw3⟩ := hSw); go_simp <;> with_reducible rfl)); (try simp only [Act.put, List.getElem_toArray, List.getElem_cons_zero, List.getElem_cons_succ, List.setIfInBounds_toArray, List.set_cons_zero, List.set_cons_succ])
      refine wpAnyE_take (i := 5) (v := ?_) rfl (by kernel_rfl) (by kernel_rfl) (by kernel_rfl) (by kernel_rfl) (by kernel_rfl) (fun _ _ _ h => h) (Or.inl ⟨by rfl, ?_⟩) (by assumption) ?_; rotate_left; (focus (intro w hSw; (try dsimp only at hSw); (try obtain ⟨hSw1, hSw2, hSw3⟩ := hSw); go_simp <;> with_reducible rfl)); (try simp only [Act.put, List.getElem_toArray, List.getElem_cons_zero, List.getElem_cons_succ, List.setIfInBounds_toArray, List.set_cons_zero, List.set_cons_succ])
      refine wpAnyE_take (i := 6) (v := ?_) rfl (by kernel_rfl) (by kernel_rfl) (by kernel_rfl) (by kernel_rfl) (by kernel_rfl) (fun _ _ _ h => h) (Or.inl ⟨by rfl, ?_⟩) (by assumption) ?_; rotate_left; (focus (intro w hSw; (try dsimp only at hSw); (try obtain ⟨hSw1, hSw2, hSw3⟩ := hSw); go_simp <;> with_reducible rfl)); (try simp only [Act.put, List.getElem_toArray, List.getElem_cons_zero, List.getElem_cons_succ, List.setIfInBounds_toArray, List.set_cons_zero, List.set_cons_succ])
      refine wpAnyE_take (i := 7) (v := ?_) rfl (by kernel_rfl) (by kernel_rfl) (by kernel_rfl) (by kernel_rfl) (by kernel_rfl) (fun _ _ _ h => h) (Or.inl ⟨by rfl, ?_⟩) (by assumption) ?_; rotate_left; (focus (intro w hSw; (try dsimp only at hSw); (try obtain ⟨hSw1, hSw2, hSw3⟩ := hSw); go_simp <;> with_reducible rfl)); (try simp only [Act.put, List.getElem_toArray, List.getElem_cons_zero, List.getElem_cons_succ, List.setIfInBounds_toArray, List.set_cons_zero, List.set_cons_succ])
      refine wpAnyE_take (i := 8) (v := ?_) rfl (by kernel_rfl) (by kernel_rfl) (by kernel_rfl) (by kernel_rfl) (by kernel_rfl) (fun _ _ _ h => h) (Or.inl ⟨by rfl, ?_⟩) (by assumption) ?_; rotate_left; (focus (intro w hSw; (try dsimp only at hSw); (try obtain ⟨hSw1, hSw2, hSw3⟩ := hSw); go_simp <;> with_reducible rfl)); (try simp only [Act.put, List.getElem_toArray, List.getElem_cons_zero, List.getElem_cons_succ, List.setIfInBounds_toArray, List.set_cons_zero, List.set_cons_succ])
      refine wpAnyE_take (i := 9) (v := ?_) rfl (by kernel_rfl) (by kernel_rfl) (by kernel_rfl) (by kernel_rfl) (by kernel_rfl) (fun _ _ _ h => h) (Or.inl ⟨by rfl, ?_⟩) (by assumption) ?_; rotate_left; (focus (intro w hSw; (try dsimp only at hSw); (try obtain ⟨hSw1, hSw2, hSw3⟩ := hSw); go_simp <;> with_reducible rfl)); (try simp only [Act.put, List.getElem_toArray, List.getElem_cons_zero, List.getElem_cons_succ, List.setIfInBounds_toArray, List.set_cons_zero, List.set_cons_succ])
      refine wpAnyE_take (i := 10) (v := ?_) rfl (by kernel_rfl) (by kernel_rfl) (by kernel_rfl) (by kernel_rfl) (by kernel_rfl) (fun _ _ _ h => h) (Or.inl ⟨by rfl, ?_⟩) (by assumption) ?_; rotate_left; (focus (intro w hSw; (try dsimp only at hSw); (try obtain ⟨hSw1, hSw2, hSw3⟩ := hSw); go_simp <;> with_reducible rfl)); (try simp only [Act.put, List.getElem_toArray, List.getElem_cons_zero, List.getElem_cons_succ, List.setIfInBounds_toArray, List.set_cons_zero, List.set_cons_succ])
      refine wpAnyE_take (i := 12) (v := ?_) rfl (by kernel_rfl) (by kernel_rfl) (by kernel_rfl) (by kernel_rfl) (by kernel_rfl) (fun _ _ _ h => h) (Or.inl ⟨by rfl, ?_⟩) (by assumption) ?_; rotate_left; (focus (intro w hSw; (try dsimp only at hSw); (try obtain ⟨hSw1, hSw2, hSw3⟩ := hSw); go_simp <;> with_reducible rfl)); (try simp only [Act.put, List.getElem_toArray, List.getElem_cons_zero, List.getElem_cons_succ, List.setIfInBounds_toArray, List.set_cons_zero, List.set_cons_succ])
      refine wpAnyE_take (i := 13) (v := ?_) rfl (by kernel_rfl) (by kernel_rfl) (by kernel_rfl) (by kernel_rfl) (by kernel_rfl) (fun _ _ _ h => h) (Or.inl ⟨by rfl, ?_⟩) (by assumption) ?_; rotate_left; (focus (intro w hSw; (try dsimp only at hSw); (try obtain ⟨hSw1, hSw2, hSw3⟩ := hSw); go_simp <;> with_reducible rfl)); (try simp only [Act.put, List.getElem_toArray, List.getElem_cons_zero, List.getElem_cons_succ, List.setIfInBounds_toArray, List.set_cons_zero, List.set_cons_succ])
      have hkW : Says W.drew (.slice a key.length c) key := (hk0.new HI.out.below).new (below_drewN _ _ 1)
      have HBIT := bit_any _ _ key p W.drew hkW (by omega) (by omega)
      rw [bitI_nat] at HBIT
      refine takeE_call (i := 11) #[.slice a key.length c, .int .i64 p] (fun v w' => v = .bool (bit key p) ∧ w' = W.drew) (by kernel_rfl) rfl rfl rfl (by kernel_rfl) (enters_of Tryd.func80 (by kernel_rfl) rfl) (HBIT.mono fun e w' ⟨h1, h2⟩ => ⟨_, h1, rfl, h2⟩) ?_
      rintro _ _ ⟨rfl, rfl⟩
      refine ⟨hS0, ?_⟩
      simp only [Act.put, List.getElem_toArray, List.getElem_cons_zero, List.getElem_cons_succ, List.setIfInBounds_toArray, List.set_cons_zero, List.set_cons_succ]
      obtain ⟨y, e1, e2, e3, e4⟩ : ∃ y : Nod, (if bit key p then yl.at' else yr.at') = y.at' ∧ (if bit key p then yl.tri else yr.tri) = y.tri ∧ y.Lies W ∧ y.tri.WF := by
        obtain ⟨_, hll, hlr⟩ := HX.out
        obtain ⟨wl, wr, _⟩ := hxw
        cases bit key p with
        | true => exact ⟨yl, rfl, rfl, hll, wl⟩
        | false => exact ⟨yr, rfl, rfl, hlr, wr⟩
      have HOTH := other_any b p yl.at' yr.at' _ _ key W.drew hkW hp h2 h3 h4
      rw [e1] at HOTH
      refine takeE_call (i := 14) #[.pointer (some ⟨b, 0, none⟩), .slice a key.length c] (fun v w' => v = y.at' ∧ w' = W.drew) (by kernel_rfl) rfl rfl rfl (by kernel_rfl) (enters_of Tryd.func95 (by kernel_rfl) rfl) (HOTH.mono fun e w' ⟨h1, h2⟩ => ⟨_, h1, rfl, h2⟩) ?_
      rintro _ _ ⟨rfl, rfl⟩
      refine ⟨hS0, ?_⟩
      simp only [Act.put, List.getElem_toArray, List.getElem_cons_zero, List.getElem_cons_succ, List.setIfInBounds_toArray, List.set_cons_zero, List.set_cons_succ]
      have HROOT := nroot_any y W.drew (e3.new (below_drewN _ _ 1)) e4 (hT.below HI.out.below.drew (by have := hT.lt; omega))
      refine takeE_call (i := 15) #[y.at'] (fun v w' => v = .agg (sumV (rootT y.tri)) ∧ Below W.heap.size W w') (by kernel_rfl) rfl rfl rfl (by kernel_rfl) (enters_of Tryd.func68 (by kernel_rfl) rfl) (HROOT.mono fun e w' ⟨h1, h2⟩ => ⟨_, h1, rfl, (below_drewN _ _ 1).trans h2⟩) ?_
      rintro _ W1 ⟨rfl, hb1⟩
      have hbig := HI.out.big
      have hS1 : (fun W' : World => W'.cell? ⟨w.heap.size + 1 + 1, 3, none⟩ = some sv ∧ W'.cell? ⟨b, 2, none⟩ = some (.int .i64 p) ∧ W'.cell? ⟨w.heap.size, 0, none⟩ = some (.slice a key.length c)) W1 := ⟨(hb1.cell (p := ⟨w.heap.size + 1 + 1, 3, none⟩) (World.block_lt_of_cell? W _ hS0.1)).trans hS0.1, (hb1.cell (p := ⟨b, 2, none⟩) (World.block_lt_of_cell? W _ hS0.2.1)).trans hS0.2.1, (hb1.cell (p := ⟨w.heap.size, 0, none⟩) (World.block_lt_of_cell? W _ hS0.2.2)).trans hS0.2.2⟩
      refine ⟨hS1, ?_⟩
      simp only [Act.put, List.getElem_toArray, List.getElem_cons_zero, List.getElem_cons_succ, List.setIfInBounds_toArray, List.set_cons_zero, List.set_cons_succ]
      obtain ⟨i0, hi, hz0, hz1, hz2⟩ := info_parts Tryd.infoStep
      have hlen : (stepC (p, bit key p, rootT y.tri)).toArray.size = 34 := by simp [stepC, rootT_length]
      refine takeE_build (i := 16) [(0, .int .i64 p), (1, .bool (bit key p)), (2, .agg (sumV (rootT y.tri)))] (stepC (p, bit key p, rootT y.tri)).toArray (by kernel_rfl) rfl rfl rfl (by kernel_rfl) (built_step p _ _ (by simp [rootT_length])) hS1 ?_
      simp only [Act.put, List.getElem_toArray, List.getElem_cons_zero, List.getElem_cons_succ, List.setIfInBounds_toArray, List.set_cons_zero, List.set_cons_succ]
      have hbA : Below W1.heap.size W1 (W1.alloc (.cells (stepC (p, bit key p, rootT y.tri)).toArray 66)) := (Below.refl _ _).alloc (Nat.le_refl _) _
      have hnA := World.alloc_heap_new W1 (.cells (stepC (p, bit key p, rootT y.tri)).toArray 66)
      have hS2 : (fun W' : World => W'.cell? ⟨w.heap.size + 1 + 1, 3, none⟩ = some sv ∧ W'.cell? ⟨b, 2, none⟩ = some (.int .i64 p) ∧ W'.cell? ⟨w.heap.size, 0, none⟩ = some (.slice a key.length c)) (W1.alloc (.cells (stepC (p, bit key p, rootT y.tri)).toArray 66)) := ⟨(hbA.cell (p := ⟨w.heap.size + 1 + 1, 3, none⟩) (World.block_lt_of_cell? W1 _ hS1.1)).trans hS1.1, (hbA.cell (p := ⟨b, 2, none⟩) (World.block_lt_of_cell? W1 _ hS1.2.1)).trans hS1.2.1, (hbA.cell (p := ⟨w.heap.size, 0, none⟩) (World.block_lt_of_cell? W1 _ hS1.2.2)).trans hS1.2.2⟩
      refine takeE_slice (i := 17) (stepC (p, bit key p, rootT y.tri)).toArray i0 _ (by kernel_rfl) rfl rfl rfl (by kernel_rfl) Tryd.underlying27 hi hz0 (by rw [hz1, hlen]) (by rw [hlen]; omega) (by rw [hlen]; omega) hS2 ?_
      simp only [Act.put, List.getElem_toArray, List.getElem_cons_zero, List.getElem_cons_succ, List.setIfInBounds_toArray, List.set_cons_zero, List.set_cons_succ]
      have hb2 : Below W.heap.size W (W1.alloc (.cells (stepC (p, bit key p, rootT y.tri)).toArray 66)) := hb1.trans (hbA.mono hb1.size)
      generalize W1.alloc (.cells (stepC (p, bit key p, rootT y.tri)).toArray 66) = W2 at *
      have hown2 := (Spares.of_new (S := fun _ => False) hb2).row HI.out.st (fun _ _ => id)
      have hcnt : (walked pre).length + 1 < 1000000000 := by
        have q1 := walked_le pre
        have q2 := wayO_length (some X) key
        omega
      have hb2z := hb2.size
      refine takeE_append (i := 18) (s := .tmp 22) (x := .tmp 38) (t := 27) (by kernel_rfl) rfl rfl rfl (w.heap.size + 5) 66 i0 _ 34 48 Tryd.underlying27 hi hz0 hz1 hz2 rfl (by decide) sv (walked pre).length ((walked pre).flatMap stepC) (by kernel_rfl) hown2 ⟨W1.heap.size, 0, none⟩ 1 1 (stepC (p, bit key p, rootT y.tri)) (by kernel_rfl) (by simpa using hlen) (by have := World.news_of_block hnA; simpa using this) (stepC_one _) (by decide) (by unfold maxLen; omega) (by omega) (by omega) ?_
      intro g cap W3 hown3 hgrow hat hglt
      have hlow : ∀ i, sv.ownBlock = some i → w.heap.size + 5 ≤ i ∧ i < W.heap.size := fun i hi => HI.out.st.lt i hi
      have hS3 : (fun W' : World => W'.cell? ⟨w.heap.size + 1 + 1, 3, none⟩ = some sv ∧ W'.cell? ⟨b, 2, none⟩ = some (.int .i64 p) ∧ W'.cell? ⟨w.heap.size, 0, none⟩ = some (.slice a key.length c)) W3 := ⟨(hgrow.cell_far ⟨w.heap.size + 1 + 1, 3, none⟩ (World.block_lt_of_cell? W2 _ hS2.1) (fun e => by have h1 : w.heap.size + 5 ≤ w.heap.size + 1 + 1 := (hlow _ e.symm).1; omega)).trans hS2.1, (hgrow.cell_far ⟨b, 2, none⟩ (World.block_lt_of_cell? W2 _ hS2.2.1) (fun e => by have h1 : w.heap.size + 5 ≤ b := (hlow _ e.symm).1; have h2 : b < w.heap.size := hxb; omega)).trans hS2.2.1, (hgrow.cell_far ⟨w.heap.size, 0, none⟩ (World.block_lt_of_cell? W2 _ hS2.2.2) (fun e => by have h1 : w.heap.size + 5 ≤ w.heap.size := (hlow _ e.symm).1; omega)).trans hS2.2.2⟩
      have hfr : W3.frozen? ⟨w.heap.size + 1 + 1, 3, none⟩ = false := by
        rw [hgrow.frozen_far ⟨w.heap.size + 1 + 1, 3, none⟩ (World.block_lt_of_cell? W2 _ hS2.1) (fun e => by have h1 : w.heap.size + 5 ≤ w.heap.size + 1 + 1 := (hlow _ e.symm).1; omega)]
        have hgot2 := (hb2.block (w.heap.size + 2) (by omega)).trans HI.out.got
        simp [World.frozen?, hgot2]
      have HF := hid (fun B => path_fork (B := B) HI.out ⟨.fork b p yl yr, hx⟩ (p, bit key p, rootT y.tri) (by simp only [Nod.stp, e2]) rfl hb2 hgrow hown3 hat)
      refine ⟨hS3, ?_⟩
      simp only [Act.put, List.getElem_toArray, List.getElem_cons_zero, List.getElem_cons_succ, List.setIfInBounds_toArray, List.set_cons_zero, List.set_cons_succ]
      clear hown3 hgrow hat hlow hown2 hnA hS2 hS1 hb2 hb1 hbA HROOT HOTH HBIT
      refine wpAnyE_take (i := 19) (v := ?_) rfl (by kernel_rfl) (by kernel_rfl) (by kernel_rfl) (by kernel_rfl) (by kernel_rfl) (fun _ _ _ h => h) (Or.inl ⟨by rfl, ?_⟩) (by assumption) ?_; rotate_left; (focus (intro w hSw; (try dsimp only at hSw); (try obtain ⟨hSw1, hSw2, hSw3⟩ := hSw); go_simp <;> with_reducible rfl)); (try simp only [Act.put, List.getElem_toArray, List.getElem_cons_zero, List.getElem_cons_succ, List.setIfInBounds_toArray, List.set_cons_zero, List.set_cons_succ])
      refine takeE_store (i := 20) (pi := ⟨w.heap.size + 1 + 1, 3, none⟩) (v := .slice (some ⟨g, 0, none⟩) ((walked pre).length + 1) cap) Tryd.infoSteps (by kernel_rfl) rfl rfl rfl rfl (by kernel_rfl) (by kernel_rfl) rfl rfl hS3.1 hfr (.inr rfl) ?_
      refine wpAnyE_done (by kernel_rfl) ?_ _
      gi_wp2
      exact ⟨(HF.out _).1, (HF.out 0).2.1, (HF.out 0).2.2⟩
end Go.Proofs.YtmafaioohiaenaaDoor
