/- Contracts of trie.noneSum, leafSum, forkSum: the digests of none, of an entry, of a fork. -/
import Derived.Test.YtmafaioohiaenaaDoorGetF
import Derived.Test.YtmafaioohiaenaaDoorOfD
import Derived.Deep.Upon
namespace Go.Proofs.YtmafaioohiaenaaDoor
open Go.RowKit
set_option linter.unusedVariables false
set_option maxRecDepth 20000

/-- The digest of a named row. -/
def ofS (name : List UInt8) (rows : List (List UInt8)) : List UInt8 := (ofOf name rows).2

theorem ofS_length (name : List UInt8) (rows : List (List UInt8)) : (ofS name rows).length = 32 := by
  unfold ofS ofOf
  split
  · exact sha_length _
  · simp

def noneS : List UInt8 := ofS [110, 111, 110, 101] []
def leafS (e : Ent) : List UInt8 := ofS [108, 101, 97, 102] [e.1, e.2]
def forkS (p : Nat) (a b : List UInt8) : List UInt8 := ofS [102, 111, 114, 107] [be (u64of p) 8, a, b]

/-- The root of a tree. -/
def rootT : Tri → List UInt8
  | .leaf k v => leafS (k, v)
  | .fork p l r => forkS p (rootT l) (rootT r)

theorem rootT_length : ∀ t : Tri, (rootT t).length = 32
  | .leaf k v => ofS_length _ _
  | .fork p l r => ofS_length _ _

def rootO : Option Tri → List UInt8
  | none => noneS
  | some t => rootT t

theorem rootO_length (o : Option Tri) : (rootO o).length = 32 := by
  cases o with
  | none => exact ofS_length _ _
  | some t => exact rootT_length t

/-- A digest's cells. -/
def sumV (s : List UInt8) : Array Value := (s.map by8).toArray

structure IsSum (A : Array Value) : Prop where
  info : (Tryd.prog.info? 23).map (·.size) = some A.size
  one : A.all (·.oneCell') = true
  size : zero32.size = A.size

theorem isSum (s : List UInt8) (h : s.length = 32) : IsSum (sumV s) := by
  have e : (sumV s).size = 32 := by simp [sumV, h]
  exact ⟨by rw [e]; exact Tryd.infoSum, by simp [sumV, by8, Value.oneCell'], by rw [e]; rfl⟩

/-- One digest out of one block into another. -/
theorem set_row_two {w : World} {g : Nat} {old A : Array Value} {t : TypeId} (h : w.heap[g]? = some (.cells old t (0, 0))) : (w.setRow g A).heap[g]? = some (.cells A t (0, 0)) := setRow_heap _ _ _ _ _ _ h

theorem fresh_row (w : World) (A : Array Value) : ((w.alloc (.cells zero32 23)).setRow w.heap.size A).heap[w.heap.size]? = some (.cells A 23 (0, 0)) ∧ Below w.heap.size w ((w.alloc (.cells zero32 23)).setRow w.heap.size A) ∧ ((w.alloc (.cells zero32 23)).setRow w.heap.size A).heap.size = w.heap.size + 1 := by
  have h := World.alloc_heap_new w (.cells zero32 23)
  refine ⟨setRow_heap _ _ _ _ _ _ h, below_setRow ((Below.refl _ _).alloc (Nat.le_refl _) _) (Nat.le_refl _) _, ?_⟩
  simp [World.setRow]

set_option maxHeartbeats 4000000 in
theorem noneSum_any (w : World) (ht : Tables w) :
    Calls Tryd.prog 67 #[] w fun e w' => e = .returned (.agg (sumV noneS)) ∧ Below w.heap.size w w' := by
  have hw1 := ht.lt
  have hnew := World.alloc_heap_new w (.cells zero32 23)
  have hbn : Below w.heap.size w (w.alloc (.cells zero32 23)) := (Below.refl _ _).alloc (Nat.le_refl _) _
  have hsn : (w.alloc (.cells zero32 23)).heap.size = w.heap.size + 1 := World.size_alloc _ _
  have HOF := of_any 0 (⟨#[110, 111, 110, 101]⟩ : ByteArray) (.slice none 0 0) [] (w.alloc (.cells zero32 23)) (by decide) (Nat.zero_le _) ⟨none, 0, [], rfl, Nat.le_refl _, Nat.zero_le _, rfl, fun h => absurd rfl h, fun j u r hu => by simp at hu⟩ (fun l c e => by cases e; rfl) (by simp) (ht.below hbn (by omega))
  have HS := hid (isSum noneS (ofS_length _ _))
  replace HOF : Calls Tryd.prog 96 #[.string ⟨#[110, 111, 110, 101]⟩, .slice none 0 0] (w.alloc (.cells zero32 23)) fun e w' => e = .returned (.tuple #[.agg (sumV noneS), .int .i64 (ofOf [110, 111, 110, 101] []).1]) ∧ Below (w.heap.size + 1) (w.alloc (.cells zero32 23)) w' := HOF.mono fun e w' ⟨he, hb⟩ => ⟨he, by rw [← hsn]; exact hb⟩
  generalize sumV noneS = A at *
  generalize (ofOf [110, 111, 110, 101] []).1 = n at *
  have HN := hid hnew
  have HB := hid hbn
  have HSN := hid hsn
  clear hnew hbn hsn ht
  go_enter Tryd.func67, Tryd.ntmps67
  go_wp2_with fail
  refine HOF.mono ?_
  clear HOF
  rintro e w1 ⟨rfl, hb1⟩
  have H1 : Hid (w1.heap[w.heap.size]? = some (.cells zero32 23 (0, 0))) := hid ((hb1.block _ (by omega)).trans HN.out)
  have HB1 : Hid (Below w.heap.size w w1) := hid (HB.out.trans (hb1.mono (by omega)))
  have hz1 : w.heap.size < w1.heap.size := block_lt H1.out
  clear hb1
  go_wp2_with (first
    | (refine wpList_store_row rfl 23 (.tmp 1) (.tmp 5) rfl w1.heap.size A rfl rfl 23 zero32 (World.alloc_heap_new w1 _) HS.out.info HS.out.size HS.out.one ?_
       generalize hw2 : World.setRow _ w1.heap.size A = w2
       have R1 : Hid (w2.heap[w1.heap.size]? = some (.cells A 23 (0, 0))) := hid (by rw [← hw2]; exact (fresh_row w1 A).1)
       have R2 : Hid (Below w1.heap.size w1 w2) := hid (by rw [← hw2]; exact (fresh_row w1 A).2.1)
       have H2 := hid ((R2.out.block _ hz1).trans H1.out)
       have HB2 := hid (HB1.out.trans (R2.out.mono HB1.out.size))
       clear hw2)
    | (refine wpList_load_row rfl 23 (.tmp 1) rfl w1.heap.size rfl 23 A (0, 0) _ R1.out Tryd.underlying23 rfl HS.out.info ?_)
    | (refine wpList_store_row rfl 23 (.tmp 0) (.tmp 7) rfl (w.heap.size) A rfl rfl 23 zero32 H2.out HS.out.info HS.out.size HS.out.one ?_)
    | (refine bodyPost_ret (v := .agg A) (results_cell_row (p := 0) (ty := 23) rfl _ _ (w.heap.size) 23 A (0, 0) _ rfl (setRow_heap _ _ _ _ _ _ H2.out) Tryd.underlying23 rfl HS.out.info) rfl ⟨rfl, below_setRow HB2.out (by omega) _⟩))

/-- Rows of one slice of slices that a call has made. -/
theorem lists_two (w : World) (g B : Nat) (u v : Value) (a b : List UInt8) (hg : w.heap[g]? = some (.cells #[u, v] 24 (0, 0))) (hB : g < B) (hu : Shows B w u a) (hv : Shows B w v b) : Lists B w (.slice (some ⟨g, 0, none⟩) 2 2) [a, b] := by
  refine ⟨_, 2, [u, v], rfl, by simp, by decide, rfl, fun _ => ⟨g, 0, rfl, hB, fun j x hx => ?_⟩, fun j x r hx hr => ?_⟩
  · rw [Nat.zero_add, cell_of_row _ _ _ _ _ _ hg]
    match j, hx with
    | 0, hx => simpa using hx
    | 1, hx => simpa using hx
  · match j, hx, hr with
    | 0, hx, hr => simp at hx hr; subst hx hr; exact hu
    | 1, hx, hr => simp at hx hr; subst hx hr; exact hv

theorem lists_three (w : World) (g B : Nat) (u v x : Value) (a b c : List UInt8) (hg : w.heap[g]? = some (.cells #[u, v, x] 24 (0, 0))) (hB : g < B) (hu : Shows B w u a) (hv : Shows B w v b) (hx : Shows B w x c) : Lists B w (.slice (some ⟨g, 0, none⟩) 3 3) [a, b, c] := by
  refine ⟨_, 3, [u, v, x], rfl, by simp, by decide, rfl, fun _ => ⟨g, 0, rfl, hB, fun j y hy => ?_⟩, fun j y r hy hr => ?_⟩
  · rw [Nat.zero_add, cell_of_row _ _ _ _ _ _ hg]
    match j, hy with
    | 0, hy => simpa using hy
    | 1, hy => simpa using hy
    | 2, hy => simpa using hy
  · match j, hy, hr with
    | 0, hy, hr => simp at hy hr; subst hy hr; exact hu
    | 1, hy, hr => simp at hy hr; subst hy hr; exact hv
    | 2, hy, hr => simp at hy hr; subst hy hr; exact hx

set_option maxHeartbeats 4000000 in
theorem leafSum_any (kv vv : Value) (k v : List UInt8) (w : World) (hk : Says w kv k) (hv : Says w vv v) (ht : Tables w) :
    Calls Tryd.prog 97 #[.agg #[kv, vv]] w fun e w' => e = .returned (.agg (sumV (leafS (k, v)))) ∧ Below w.heap.size w w' := by
  have hw1 := ht.lt
  obtain ⟨a1, c1, rfl, _⟩ := id hk
  obtain ⟨a2, c2, rfl, _⟩ := id hv
  obtain ⟨n0, hnew, n2, hbn, hsn⟩ := alloc3 w (.cells #[.slice a1 k.length c1, .slice a2 v.length c2] 26) (.cells zero32 23) (.cells #[.slice a1 k.length c1, .slice a2 v.length c2] 24)
  have HOF := of_any (w.heap.size + 3) (⟨#[108, 101, 97, 102]⟩ : ByteArray) (.slice (some ⟨w.heap.size + 2, 0, none⟩) 2 2) [k, v] _ (by decide) (by omega) (lists_two _ (w.heap.size + 2) _ _ _ k v n2 (by omega) ((hk.new hbn).mono (by omega)) ((hv.new hbn).mono (by omega))) (fun l c e => by cases e) (by simp) (ht.below hbn (by omega))
  have HS := hid (isSum (leafS (k, v)) (ofS_length _ _))
  replace HOF : Calls Tryd.prog 96 #[.string ⟨#[108, 101, 97, 102]⟩, .slice (some ⟨w.heap.size + 2, 0, none⟩) 2 2] (((w.alloc (.cells #[.slice a1 k.length c1, .slice a2 v.length c2] 26)).alloc (.cells zero32 23)).alloc (.cells #[.slice a1 k.length c1, .slice a2 v.length c2] 24)) fun e w' => e = .returned (.tuple #[.agg (sumV (leafS (k, v))), .int .i64 (ofOf [108, 101, 97, 102] [k, v]).1]) ∧ Below (w.heap.size + 3) (((w.alloc (.cells #[.slice a1 k.length c1, .slice a2 v.length c2] 26)).alloc (.cells zero32 23)).alloc (.cells #[.slice a1 k.length c1, .slice a2 v.length c2] 24)) w' := HOF.mono fun e w' ⟨he, hb⟩ => ⟨he, by rw [← hsn]; exact hb⟩
  generalize sumV (leafS (k, v)) = A at *
  generalize (ofOf [108, 101, 97, 102] [k, v]).1 = n at *
  have HN := hid hnew
  have HB := hid hbn
  have HSN := hid hsn
  clear hnew hbn hsn ht hk hv n0 n2
  go_enter Tryd.func97, Tryd.ntmps97
  go_wp2_with fail
  refine HOF.mono ?_
  clear HOF
  rintro e w1 ⟨rfl, hb1⟩
  have H1 : Hid (w1.heap[w.heap.size + 1]? = some (.cells zero32 23 (0, 0))) := hid ((hb1.block _ (by omega)).trans HN.out)
  have HB1 : Hid (Below w.heap.size w w1) := hid (HB.out.trans (hb1.mono (by omega)))
  have hz1 : w.heap.size + 1 < w1.heap.size := block_lt H1.out
  clear hb1
  go_wp2_with (first
    | (refine wpList_store_row rfl 23 (.tmp 3) (.tmp 12) rfl w1.heap.size A rfl rfl 23 zero32 (World.alloc_heap_new w1 _) HS.out.info HS.out.size HS.out.one ?_
       generalize hw2 : World.setRow _ w1.heap.size A = w2
       have R1 : Hid (w2.heap[w1.heap.size]? = some (.cells A 23 (0, 0))) := hid (by rw [← hw2]; exact (fresh_row w1 A).1)
       have R2 : Hid (Below w1.heap.size w1 w2) := hid (by rw [← hw2]; exact (fresh_row w1 A).2.1)
       have H2 := hid ((R2.out.block _ hz1).trans H1.out)
       have HB2 := hid (HB1.out.trans (R2.out.mono HB1.out.size))
       clear hw2)
    | (refine wpList_load_row rfl 23 (.tmp 3) rfl w1.heap.size rfl 23 A (0, 0) _ R1.out Tryd.underlying23 rfl HS.out.info ?_)
    | (refine wpList_store_row rfl 23 (.tmp 2) (.tmp 14) rfl (w.heap.size + 1) A rfl rfl 23 zero32 H2.out HS.out.info HS.out.size HS.out.one ?_)
    | (refine bodyPost_ret (v := .agg A) (results_cell_row (p := 2) (ty := 23) rfl _ _ (w.heap.size + 1) 23 A (0, 0) _ rfl (setRow_heap _ _ _ _ _ _ H2.out) Tryd.underlying23 rfl HS.out.info) rfl ⟨rfl, below_setRow HB2.out (by omega) _⟩))
end Go.Proofs.YtmafaioohiaenaaDoor

/- Contract of trie.forkSum. -/

namespace Go.Proofs.YtmafaioohiaenaaDoor
open Go.RowKit
set_option linter.unusedVariables false
set_option maxRecDepth 20000

theorem shows_sum (w : World) (g B : Nat) (s : List UInt8) (h : s.length = 32) (hg : w.heap[g]? = some (.cells (sumV s) 23 (0, 0))) (hB : g < B) : Shows B w (.slice (some ⟨g, 0, none⟩) 32 32) s := by
  refine ⟨_, 32, by rw [h], by omega, by decide, fun e => (by cases e), fun _ => ⟨g, 0, rfl, hB, fun j hj => ?_⟩⟩
  rw [Nat.zero_add, cell_of_row _ _ _ _ _ _ hg]
  simp [sumV, List.getElem?_eq_getElem hj, by8]

theorem row_form {w : World} {B e n : Nat} {v : Value} {xs : List Value} (h : w.ownsRow B e 1 v n xs) : ∃ a c, v = .slice a n c := by
  rcases h.2 with ⟨rfl, hn⟩ | ⟨g, cap, cur, rfl, _⟩
  · exact ⟨none, 0, by rw [hn]⟩
  · exact ⟨_, _, rfl⟩

theorem alloc_second (w : World) (o o' : Obj) : ((w.alloc o).alloc o').heap[w.heap.size + 1]? = some o' := by
  have := World.alloc_heap_new (w.alloc o) o'
  rwa [World.size_alloc] at this

theorem below_setCells_w3 {B g : Nat} {w0 w : World} (h : Below B w0 w) (hg : B ≤ g) : ∀ (vs : List Value) (o : Nat), Below B w0 (w.setCells g o vs)
  | [], _ => h
  | v :: r, o => below_setCells_w3 (h.setCell (p := ⟨g, o, none⟩) hg v) hg r (o + 1)

theorem fork_end {Q : World → Prop} {w3 W : World} {B g : Nat} {cs : List Value} (ht : W.there g 0 cs.length) (hb : Below B w3 W) (hg : B ≤ g) (h : ∀ we, we.rangeAt g 0 cs → Below B w3 we → Q we) : Q (W.setCells g 0 cs) :=
  h _ (World.rangeAt_setCells_same W g 0 cs ht) (below_setCells_w3 hb hg cs 0)

set_option maxHeartbeats 8000000 in
theorem forkSum_any (p : Nat) (s t : List UInt8) (w : World) (hp : p < 1080) (hs : s.length = 32) (ht' : t.length = 32) (ht : Tables w) :
    Calls Tryd.prog 98 #[.int .i64 p, .agg (sumV s), .agg (sumV t)] w fun e w' => e = .returned (.agg (sumV (forkS p s t))) ∧ Below w.heap.size w w' := by
  have hw1 := ht.lt
  obtain ⟨n0, n1, n2, hbn, hsn⟩ := alloc3 w (.cells (sumV s) 23) (.cells (sumV t) 23) (.cells zero32 23)
  go_enter Tryd.func98, Tryd.ntmps98
  go_wp2_with fail
  generalize hw3 : ((w.alloc _).alloc _).alloc _ = w3
  have HN0 : Hid (w3.heap[w.heap.size]? = some (.cells (sumV s) 23 (0, 0))) := hid (by rw [← hw3]; exact n0)
  have HN1 : Hid (w3.heap[w.heap.size + 1]? = some (.cells (sumV t) 23 (0, 0))) := hid (by rw [← hw3]; exact n1)
  have HN2 : Hid (w3.heap[w.heap.size + 2]? = some (.cells zero32 23 (0, 0))) := hid (by rw [← hw3]; exact n2)
  have HBN : Hid (Below w.heap.size w w3) := hid (by rw [← hw3]; exact hbn)
  have HSN : Hid (w3.heap.size = w.heap.size + 3) := hid (by rw [← hw3]; exact hsn)
  clear n0 n1 n2 hbn hsn hw3
  have HT := hid ht
  -- what 'Of' answers, wherever the row lies
  have HOF : Hid (∀ (W : World) (g : Nat) (vn : Value), Below (w.heap.size + 3) w3 W → W.heap[g]? = some (.cells #[vn, .slice (some ⟨w.heap.size, 0, none⟩) 32 32, .slice (some ⟨w.heap.size + 1, 0, none⟩) 32 32] 24 (0, 0)) → Says W vn (be (u64of p) 8) →
      Calls Tryd.prog 96 #[.string ⟨#[102, 111, 114, 107]⟩, .slice (some ⟨g, 0, none⟩) 3 3] W fun e w' => e = .returned (.tuple #[.agg ((forkS p s t).map by8).toArray, .int .i64 (ofOf [102, 111, 114, 107] [be (u64of p) 8, s, t]).1]) ∧ Below W.heap.size W w') := hid (fun W g vn hb hg hv => by
    have e1 := HSN.out
    have hgl := (Array.getElem?_eq_some_iff.1 hg).1
    have hsz := hb.size
    have hbw : Below w.heap.size w W := HBN.out.trans (hb.mono (by omega))
    exact of_any W.heap.size (⟨#[102, 111, 114, 107]⟩ : ByteArray) (.slice (some ⟨g, 0, none⟩) 3 3) [be (u64of p) 8, s, t] W (by decide) (Nat.le_refl _)
      (lists_three W g _ _ _ _ _ s t hg hgl hv (shows_sum W w.heap.size _ s hs ((hb.block _ (by omega)).trans HN0.out) (by omega)) (shows_sum W (w.heap.size + 1) _ t ht' ((hb.block _ (by omega)).trans HN1.out) (by omega))) (fun l c e => by cases e) (by simp) (HT.out.below hbw (by omega)))
  have hI : (Tryd.prog.info? 23).map (·.size) = some ((forkS p s t).map by8).length := by rw [List.length_map, show (forkS p s t).length = 32 from ofS_length _ _]; exact Tryd.infoSum
  have h1 : ∀ v ∈ (forkS p s t).map by8, v.oneCell' = true := by8_one _
  have HL : Hid (((forkS p s t).map by8).length = 32) := hid (by rw [List.length_map]; exact ofS_length _ _)
  have HEQ : Hid (sumV (forkS p s t) = ((forkS p s t).map by8).toArray) := hid rfl
  generalize (forkS p s t).map by8 = cs at *
  generalize (ofOf [102, 111, 114, 107] [be (u64of p) 8, s, t]).1 = n at *
  have hb3 : Below (w.heap.size + 3) w3 w3.drew := (Below.refl _ _).drew
  have hS0 : w3.drew.heap.size = w.heap.size + 3 := HSN.out
  have HTH : Hid (∀ (W : World) (g : Nat), W.heap[g]? = some (.cells zero32 23 (0, 0)) → W.there g 0 cs.length) := hid (fun W g hg j hj => by
    rw [HL.out] at hj
    have : zero32[j]? = some (.int .u8 0) := by rw [zero32, List.getElem?_toArray, List.getElem?_replicate, if_pos hj]
    exact ⟨by rw [Nat.zero_add, cell_of_row _ _ _ _ _ _ hg, this]; rfl, by simp [World.frozen?, hg]⟩)
  have HS0 := hid hS0
  clear hS0
  have hz3 : w.heap.size + 3 ≤ w3.heap.size := by rw [HSN.out]; exact Nat.le_refl _
  have hz3' : w3.heap.size ≤ w.heap.size + 3 := by rw [HSN.out]; exact Nat.le_refl _
  go_region_held3 (fun w' => Below (w.heap.size + 3) w3 w')
    (first | assumption | exact Below.alloc (by assumption) (by first | omega | (simp; omega)) _ | exact below_setCells_w3 (by assumption) (by omega) _ _)
    (first
      | (go_at_call 55; refine (num_any _ _).mono ?_; rintro e wn ⟨vn, rfl, hon, hbn⟩
         obtain ⟨an, cn, rfl⟩ := row_form hon
         have hsay : Says wn (.slice an 8 cn) (be (u64of p) 8) := (shows_of_owns hon).2
         have hzn : w3.heap.size ≤ wn.heap.size := by have := hbn.size; simp at this; omega
         have hSn : Below (w.heap.size + 3) w3 wn := (fun h => Below.trans h (hbn.mono (by simp; omega))) (by assumption)
         first
           | (have hA : wn.heap[w3.heap.size]? = some (.cells zero32 23 (0, 0)) := (hbn.block _ (by show _ < (w3.alloc _).heap.size; rw [World.size_alloc]; exact Nat.lt_succ_self _)).trans (World.alloc_heap_new w3.drew _); have hzA : w3.heap.size < wn.heap.size := (Array.getElem?_eq_some_iff.1 hA).1)
           | skip
         have HON := hid hsay
         clear hon hbn hsay)
      | (go_at_call 96; refine (HOF.out _ _ _ (by assumption) (by first | exact World.alloc_heap_new _ _ | exact (Below.heap_alloc _ _ _ (by rw [World.size_alloc]; exact Nat.lt_succ_self _)).trans (World.alloc_heap_new wn _) | exact alloc_second wn _ _) (by first | exact HON.out.new ((Below.refl _ _).alloc (Nat.le_refl _) _) | exact (HON.out.new ((Below.refl _ _).alloc (Nat.le_refl _) _)).new ((Below.refl _ _).alloc (Nat.le_refl _) _))).mono ?_
         rintro e wo ⟨rfl, hbo⟩
         have hzo : wn.heap.size < wo.heap.size := by have := hbo.size; simp at this; omega
         have hSo : Below (w.heap.size + 3) w3 wo := (fun h => Below.trans h (hbo.mono (by simp; omega))) (by assumption)
         have hthD : (wo.alloc (.cells zero32 23)).there wo.heap.size 0 cs.length := HTH.out _ _ (World.alloc_heap_new wo _)
         first
           | (have hth : wo.there w3.heap.size 0 cs.length := HTH.out _ _ ((hbo.block _ (by rw [World.size_alloc]; omega)).trans ((Below.heap_alloc _ _ _ (by omega)).trans hA)))
           | (have hth : wo.there wn.heap.size 0 cs.length := HTH.out _ _ ((hbo.block _ (by rw [World.size_alloc, World.size_alloc]; omega)).trans ((Below.heap_alloc _ _ _ (by rw [World.size_alloc]; omega)).trans (World.alloc_heap_new wn (.cells zero32 23)))))
           | (have hth : wo.there (wn.heap.size + 1) 0 cs.length := HTH.out _ _ ((hbo.block _ (by rw [World.size_alloc, World.size_alloc]; omega)).trans (by have := World.alloc_heap_new (wn.alloc (.cells #[.slice an 8 cn, .slice (some ⟨w.heap.size, 0, none⟩) 32 32, .slice (some ⟨w.heap.size + 1, 0, none⟩) 32 32] 24)) (.cells zero32 23); rw [World.size_alloc] at this; exact this)))
           | skip
         clear hbo))
  all_goals
    refine fork_end (Q := Exit.then _ _ Exit.normal _) (by assumption) (by first | assumption | exact Below.alloc (by assumption) (by omega) _) (by omega) ?_
    intro we hr hbe
    have HM := hid ((hbe.block (w.heap.size + 2) (by omega)).trans HN2.out)
    have HBE := hid (HBN.out.trans (hbe.mono (by omega)))
    have HR := hid hr
    have HZS : Hid (zero32.size = cs.toArray.size) := hid (by rw [show cs.toArray.size = 32 from (by rw [List.size_toArray]; exact HL.out)]; rfl)
    have HI : Hid ((Tryd.prog.info? 23).map (·.size) = some cs.toArray.size) := hid (by rw [List.size_toArray]; exact hI)
    have H1 := hid (all_oneCell_toArray h1)
    clear hr hbe
    go_wp2_with (first
      | (refine wpList_load_mid rfl 23 (.tmp 7) rfl _ 0 rfl cs _ HR.out Tryd.underlying23 rfl hI ?_)
      | (refine wpList_store_row rfl 23 (.tmp 6) (.tmp 18) rfl (w.heap.size + 2) cs.toArray rfl rfl 23 zero32 HM.out HI.out HZS.out H1.out ?_)
      | (refine bodyPost_ret (v := .agg cs.toArray) (results_cell_row (p := 6) (ty := 23) rfl _ _ (w.heap.size + 2) 23 cs.toArray (0, 0) _ rfl (setRow_heap _ _ _ _ _ _ HM.out) Tryd.underlying23 rfl HI.out) rfl ⟨by rw [HEQ.out], below_setRow HBE.out (by omega) _⟩))
end Go.Proofs.YtmafaioohiaenaaDoor

/- Contracts of trie.node.root, trie.Tree.Root. -/

namespace Go.Proofs.YtmafaioohiaenaaDoor
open Go.RowKit
set_option linter.unusedVariables false
set_option maxRecDepth 20000

theorem there_zero (W : World) (g n : Nat) (hn : n = 32) (hg : W.heap[g]? = some (.cells zero32 23 (0, 0))) : W.there g 0 n := fun j hj => by
  have : zero32[j]? = some (.int .u8 0) := by rw [zero32, List.getElem?_toArray, List.getElem?_replicate, if_pos (by omega)]
  exact ⟨by rw [Nat.zero_add, cell_of_row _ _ _ _ _ _ hg, this]; rfl, by simp [World.frozen?, hg]⟩

/-- A row that lies there whole. -/
theorem setCells_row (W : World) (g : Nat) (old cs : Array Value) (t : TypeId) (h : W.heap[g]? = some (.cells old t (0, 0))) (hs : old.size = cs.size) : (W.setCells g 0 cs.toList).heap[g]? = some (.cells cs t (0, 0)) := by
  have key : ∀ (vs : List Value) (o : Nat) (W : World) (old : Array Value), W.heap[g]? = some (.cells old t (0, 0)) → o + vs.length = old.size → (W.setCells g o vs).heap[g]? = some (.cells (old.toList.take o ++ vs).toArray t (0, 0)) := by
    intro vs
    induction vs with
    | nil =>
      intro o W old h ho
      simp only [World.setCells]
      rw [h, List.append_nil, List.take_of_length_le (by simp at ho ⊢; omega)]
    | cons v r ih =>
      intro o W old h ho
      simp only [World.setCells]
      simp only [List.length_cons] at ho
      rw [ih (o + 1) _ (old.setIfInBounds o v) (heap_setCell_same W g o old t v h) (by simp; omega)]
      congr 3
      have hol : o < old.toList.length := by simp; omega
      rw [Array.toList_setIfInBounds, List.take_set, List.take_succ_eq_append_getElem hol, List.set_append_right _ _ (by simp; omega), List.length_take, Nat.min_eq_left (by omega), Nat.sub_self, List.set_cons_zero]
      simp
  have := key cs.toList 0 W old h (by simp [hs])
  simpa using this

set_option maxHeartbeats 8000000 in
theorem nroot_any : ∀ (x : Nod) (w : World), x.Lies w → x.tri.WF → Tables w →
    Calls Tryd.prog 68 #[x.at'] w fun e w' => e = .returned (.agg (sumV (rootT x.tri))) ∧ Below w.heap.size w w' := by
  intro x
  induction x with
  | leaf b kv vv k v =>
    intro w hl hwf ht
    obtain ⟨hblk, hk, hv⟩ := hl
    obtain ⟨a1, c1, rfl, _⟩ := id hk
    obtain ⟨a2, c2, rfl, _⟩ := id hv
    have hbl : b < w.heap.size := (Array.getElem?_eq_some_iff.1 hblk).1
    have hbn : Below w.heap.size w (w.alloc (.cells zero32 23)) := (Below.refl _ _).alloc (Nat.le_refl _) _
    have hnew := World.alloc_heap_new w (.cells zero32 23)
    simp only [Nod.at', Nod.blk, Nod.tri, rootT]
    have HS := hid (isSum (leafS (k, v)) (ofS_length _ _))
    go_enter Tryd.func68, Tryd.ntmps68
    go_wp2_with fail
    generalize hw1 : w.alloc _ = w1
    have hbn : Below w.heap.size w w1 := by rw [← hw1]; exact hbn
    have hnew : w1.heap[w.heap.size]? = some (.cells zero32 23 (0, 0)) := by rw [← hw1]; exact hnew
    clear hw1
    have h3 : w1.cell? ⟨b, 3, none⟩ = some (.pointer none) := by rw [hbn.cell (p := ⟨b, 3, none⟩) hbl, cell_of_row _ _ _ _ _ _ hblk]; rfl
    have h0 : w1.cell? ⟨b, 0, none⟩ = some (.slice a1 k.length c1) := by rw [hbn.cell (p := ⟨b, 0, none⟩) hbl, cell_of_row _ _ _ _ _ _ hblk]; rfl
    have h1 : w1.cell? ⟨b, 1, none⟩ = some (.slice a2 v.length c2) := by rw [hbn.cell (p := ⟨b, 1, none⟩) hbl, cell_of_row _ _ _ _ _ _ hblk]; rfl
    have HLS := leafSum_any _ _ k v w1 (hk.new hbn) (hv.new hbn) (ht.below hbn (by have := ht.lt; omega))
    obtain ⟨A, hA⟩ : ∃ A, sumV (leafS (k, v)) = A := ⟨_, rfl⟩
    rw [hA] at HLS HS
    have HA := hid hA
    clear hA
    have HN := hid hnew
    have HB := hid hbn
    clear hnew hbn hblk hk hv ht
    go_wp2_with (first
      | (go_at_call 94; refine (isLeaf_any b none _ h3).mono ?_; rintro e w2 ⟨rfl, rfl⟩)
      | (go_at_call 97; refine HLS.mono ?_; clear HLS; rintro e w2 ⟨rfl, hb2⟩
         have H2 := hid ((hb2.block _ (block_lt HN.out)).trans HN.out)
         have HB2 := hid (HB.out.trans (hb2.mono HB.out.size)))
      | (refine wpList_store_row rfl 23 (.tmp 2) (.tmp 9) rfl w.heap.size A rfl rfl 23 zero32 H2.out HS.out.info HS.out.size HS.out.one ?_)
      | (refine bodyPost_ret (v := .agg A) (results_cell_row (p := 2) (ty := 23) rfl _ _ w.heap.size 23 A (0, 0) _ rfl (setRow_heap _ _ _ _ _ _ H2.out) Tryd.underlying23 rfl HS.out.info) rfl ⟨by rw [HA.out], below_setRow HB2.out (Nat.le_refl _) _⟩))
  | fork b p l r ihl ihr =>
    intro w hl hwf ht
    obtain ⟨hblk, hll, hlr⟩ := hl
    have hp := Tri.place_bound p _ _ hwf
    obtain ⟨wl, wr', _⟩ := hwf
    have hbl : b < w.heap.size := (Array.getElem?_eq_some_iff.1 hblk).1
    have hbn : Below w.heap.size w (w.alloc (.cells zero32 23)) := (Below.refl _ _).alloc (Nat.le_refl _) _
    have hnew := World.alloc_heap_new w (.cells zero32 23)
    simp only [Nod.at'] at ihl ihr hblk
    simp only [Nod.at', Nod.tri, rootT]
    rw [show (Nod.fork b p l r).blk = b from rfl]
    have hlt := ht.lt
    obtain ⟨bl, hbl'⟩ : ∃ bl, l.blk = bl := ⟨_, rfl⟩
    obtain ⟨br, hbr'⟩ : ∃ br, r.blk = br := ⟨_, rfl⟩
    rw [hbl'] at ihl hblk
    rw [hbr'] at ihr hblk
    clear hbl' hbr'
    go_enter Tryd.func68, Tryd.ntmps68
    go_wp2_with fail
    generalize hw1 : w.alloc _ = w1
    replace hbn : Below w.heap.size w w1 := by rw [← hw1]; exact hbn
    replace hnew : w1.heap[w.heap.size]? = some (.cells zero32 23 (0, 0)) := by rw [← hw1]; exact hnew
    clear hw1
    have hcl : ∀ (W : World), Below w.heap.size w W → W.cell? ⟨b, 2, none⟩ = some (.int .i64 p) ∧ W.cell? ⟨b, 3, none⟩ = some (.pointer (some ⟨bl, 0, none⟩)) ∧ W.cell? ⟨b, 4, none⟩ = some (.pointer (some ⟨br, 0, none⟩)) := fun W hW => by
      refine ⟨?_, ?_, ?_⟩
      · rw [hW.cell (p := ⟨b, 2, none⟩) hbl, cell_of_row _ _ _ _ _ _ hblk]; rfl
      · rw [hW.cell (p := ⟨b, 3, none⟩) hbl, cell_of_row _ _ _ _ _ _ hblk]; rfl
      · rw [hW.cell (p := ⟨b, 4, none⟩) hbl, cell_of_row _ _ _ _ _ _ hblk]; rfl
    have HC := hid hcl
    have h1 := hcl w1 hbn
    have h1d := hcl w1.drew hbn.drew
    have hL := isLeaf_any b (some ⟨bl, 0, none⟩) w1 h1.2.1
    have HL1 := ihl w1.drew (hll.new hbn.drew) wl (ht.below hbn.drew (by omega))
    have HIR : Hid (∀ W, Below w.heap.size w W → Calls Tryd.prog 68 #[.pointer (some ⟨br, 0, none⟩)] W fun e w' => e = .returned (.agg (sumV (rootT r.tri))) ∧ Below W.heap.size W w') := hid (fun W hW => ihr W (hlr.new hW) wr' (ht.below hW (by omega)))
    have HIF : Hid (∀ W, Below w.heap.size w W → Calls Tryd.prog 98 #[.int .i64 p, .agg (sumV (rootT l.tri)), .agg (sumV (rootT r.tri))] W fun e w' => e = .returned (.agg ((forkS p (rootT l.tri) (rootT r.tri)).map by8).toArray) ∧ Below W.heap.size W w') := hid (fun W hW => forkSum_any p _ _ W hp (rootT_length _) (rootT_length _) (ht.below hW (by omega)))
    have hI : (Tryd.prog.info? 23).map (·.size) = some ((forkS p (rootT l.tri) (rootT r.tri)).map by8).length := by rw [List.length_map, show (forkS p (rootT l.tri) (rootT r.tri)).length = 32 from ofS_length _ _]; exact Tryd.infoSum
    have hone : ∀ v ∈ (forkS p (rootT l.tri) (rootT r.tri)).map by8, v.oneCell' = true := by8_one _
    have HLN : Hid (((forkS p (rootT l.tri) (rootT r.tri)).map by8).length = 32) := hid (by rw [List.length_map]; exact ofS_length _ _)
    have HEQ : Hid (sumV (forkS p (rootT l.tri) (rootT r.tri)) = ((forkS p (rootT l.tri) (rootT r.tri)).map by8).toArray) := hid rfl
    generalize (forkS p (rootT l.tri) (rootT r.tri)).map by8 = cs at *
    generalize sumV (rootT l.tri) = AL at *
    generalize sumV (rootT r.tri) = AR at *
    have HN := hid hnew
    have HB := hid hbn
    clear hnew hbn hblk ht ihl ihr hcl hll hlr
    go_wp2_with (go_at_call 94; refine hL.mono ?_; clear hL; rintro e w2 ⟨rfl, rfl⟩)
    go_region_held3 (fun w' => w'.cell? ⟨b, 2, none⟩ = some (.int .i64 p) ∧ w'.cell? ⟨b, 3, none⟩ = some (.pointer (some ⟨bl, 0, none⟩)) ∧ w'.cell? ⟨b, 4, none⟩ = some (.pointer (some ⟨br, 0, none⟩)))
      (first | assumption | exact HC.out _ (below_setCells_w3 (by assumption) (Nat.le_refl _) _ _))
      (first
        | (go_at_call 68; refine HL1.mono ?_; clear HL1; rintro e w3 ⟨rfl, hb3⟩
           have hB3 : Below w.heap.size w w3 := HB.out.drew.trans (hb3.mono HB.out.size)
           have hS3 := HC.out w3 hB3
           have HR1 := HIR.out w3 hB3)
        | (go_at_call 68; refine HR1.mono ?_; clear HR1; rintro e w4 ⟨rfl, hb4⟩
           have hB4 : Below w.heap.size w w4 := hB3.trans (hb4.mono hB3.size)
           have hS4 := HC.out w4 hB4
           have HF1 := HIF.out w4 hB4)
        | (go_at_call 98; refine HF1.mono ?_; clear HF1; rintro e w5 ⟨rfl, hb5⟩
           have hB5 : Below w.heap.size w w5 := hB4.trans (hb5.mono hB4.size)
           have hS5 := HC.out w5 hB5
           have HN5 := hid ((hb5.block _ (Nat.lt_of_lt_of_le (block_lt HN.out) (Nat.le_trans hb3.size hb4.size))).trans ((hb4.block _ (Nat.lt_of_lt_of_le (block_lt HN.out) hb3.size)).trans ((hb3.block _ (block_lt HN.out)).trans HN.out)))
           have hth : w5.there w.heap.size 0 cs.length := there_zero _ _ _ HLN.out HN5.out))
    have HFB : Hid (Below w.heap.size w (w5.setCells w.heap.size 0 cs)) := hid (below_setCells_w3 hB5 (Nat.le_refl _) cs 0)
    have HFH : Hid ((w5.setCells w.heap.size 0 cs).heap[w.heap.size]? = some (.cells cs.toArray 23 (0, 0))) := hid (by
      have := setCells_row w5 w.heap.size zero32 cs.toArray 23 HN5.out (by rw [show cs.toArray.size = 32 from (by rw [List.size_toArray]; exact HLN.out)]; rfl)
      simpa using this)
    have HI : Hid ((Tryd.prog.info? 23).map (·.size) = some cs.toArray.size) := hid (by rw [List.size_toArray]; exact hI)
    generalize w5.setCells w.heap.size 0 cs = we at *
    go_wp2_with (refine bodyPost_ret (v := .agg cs.toArray) (results_cell_row (p := 2) (ty := 23) rfl _ _ w.heap.size 23 cs.toArray (0, 0) _ rfl HFH.out Tryd.underlying23 rfl HI.out) rfl ⟨by rw [HEQ.out], HFB.out⟩)
set_option maxHeartbeats 8000000 in
theorem root_any (tb : Nat) (o : Option Nod) (w : World) (h : TreeAt w tb o) (ht : Tables w) :
    Calls Tryd.prog 29 #[.pointer (some ⟨tb, 0, none⟩)] w fun e w' => e = .returned (.agg (sumV (rootO (triO o)))) ∧ Below w.heap.size w w' := by
  have hbn : Below w.heap.size w (w.alloc (.cells zero32 23)) := (Below.refl _ _).alloc (Nat.le_refl _) _
  have hnew := World.alloc_heap_new w (.cells zero32 23)
  have hlt := ht.lt
  have htb : tb < w.heap.size := (Array.getElem?_eq_some_iff.1 h.head).1
  have HS := hid (isSum (rootO (triO o)) (rootO_length _))
  have h0 : w.cell? ⟨tb, 0, none⟩ = some (.pointer (topOf o)) := by rw [cell_of_row _ _ _ _ _ _ h.head]; rfl
  cases o with
  | none =>
    simp only [topOf] at h0
    go_enter Tryd.func29, Tryd.ntmps29
    go_wp2_with fail
    generalize hw1 : w.alloc _ = w1
    replace hbn : Below w.heap.size w w1 := by rw [← hw1]; exact hbn
    replace hnew : w1.heap[w.heap.size]? = some (.cells zero32 23 (0, 0)) := by rw [← hw1]; exact hnew
    clear hw1
    have htw := ht.below hbn (by omega)
    have HR := noneSum_any w1 htw
    clear h0
    obtain ⟨A, hA⟩ : ∃ A, sumV noneS = A := ⟨_, rfl⟩
    replace HS : Hid (IsSum (sumV noneS)) := HS
    rw [hA] at HR HS
    have HA := hid hA
    clear hA
    have HN := hid hnew
    have HB := hid hbn
    clear hnew hbn ht htw
    go_wp2_with (first
      | (go_at_call 67; refine HR.mono ?_; clear HR; rintro e w2 ⟨rfl, hb2⟩
         have H2 := hid ((hb2.block _ (block_lt HN.out)).trans HN.out)
         have HB2 := hid (HB.out.trans (hb2.mono HB.out.size)))
      | (refine wpList_store_row rfl 23 (.tmp 2) (.tmp 8) rfl w.heap.size A rfl rfl 23 zero32 H2.out HS.out.info HS.out.size HS.out.one ?_)
      | (refine bodyPost_ret (v := .agg A) (results_cell_row (p := 2) (ty := 23) rfl _ _ w.heap.size 23 A (0, 0) _ rfl (setRow_heap _ _ _ _ _ _ H2.out) Tryd.underlying23 rfl HS.out.info) rfl ⟨by rw [← HA.out]; rfl, below_setRow HB2.out (Nat.le_refl _) _⟩))
  | some x =>
    simp only [topOf] at h0
    obtain ⟨b, hb⟩ : ∃ b, x.blk = b := ⟨_, rfl⟩
    rw [hb] at h0
    go_enter Tryd.func29, Tryd.ntmps29
    go_wp2_with fail
    generalize hw1 : w.alloc _ = w1
    replace hbn : Below w.heap.size w w1 := by rw [← hw1]; exact hbn
    replace hnew : w1.heap[w.heap.size]? = some (.cells zero32 23 (0, 0)) := by rw [← hw1]; exact hnew
    clear hw1
    have htw := ht.below hbn (by omega)
    have HR := nroot_any x w1 ((h.lies x rfl).new hbn) h.wf htw
    simp only [Nod.at', hb] at HR
    clear h0
    obtain ⟨A, hA⟩ : ∃ A, sumV (rootT x.tri) = A := ⟨_, rfl⟩
    replace HS : Hid (IsSum (sumV (rootT x.tri))) := HS
    rw [hA] at HR HS
    have HA := hid hA
    clear hA hb
    have HN := hid hnew
    have HB := hid hbn
    clear hnew hbn ht htw
    go_wp2_with (first
      | (go_at_call 68; refine HR.mono ?_; clear HR; rintro e w2 ⟨rfl, hb2⟩
         have H2 := hid ((hb2.block _ (block_lt HN.out)).trans HN.out)
         have HB2 := hid (HB.out.trans (hb2.mono HB.out.size)))
      | (refine wpList_store_row rfl 23 (.tmp 2) (.tmp 13) rfl w.heap.size A rfl rfl 23 zero32 H2.out HS.out.info HS.out.size HS.out.one ?_)
      | (refine bodyPost_ret (v := .agg A) (results_cell_row (p := 2) (ty := 23) rfl _ _ w.heap.size 23 A (0, 0) _ rfl (setRow_heap _ _ _ _ _ _ H2.out) Tryd.underlying23 rfl HS.out.info) rfl ⟨by rw [← HA.out]; rfl, below_setRow HB2.out (Nat.le_refl _) _⟩))
end Go.Proofs.YtmafaioohiaenaaDoor
