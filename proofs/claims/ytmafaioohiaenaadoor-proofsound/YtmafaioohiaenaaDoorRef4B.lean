/- Contracts of the document's own text, ForkText, Texts, Root, RootOf. -/
import Derived.Test.YtmafaioohiaenaaDoorRef4A
import Derived.Test.YtmafaioohiaenaaDoorRefD
namespace Go.Proofs.YtmafaioohiaenaaDoor
open Go.RowKit Go.Shelf
set_option linter.unusedVariables false
set_option linter.unusedSimpArgs false
set_option maxRecDepth 20000

theorem wpList_append_rows4 {P : Program} (w : World) {ops : Array Oper} {rest : List Oper} {o : Oper} {a : Act} {Q : Exit → Act → World → Prop} (hgd : o.guard = none) (s x : Operand) (t : TypeId)
    (ho : o.op = .call { callee := .builtin .append, args := #[s, x], argTypes := #[t, t] })
    (base : Nat) (e : TypeId) (i : TypeInfo) (ht : P.underlying t = some (.slice e)) (hi : P.info? e = some i) (hz : i.zero = some (.slice none 0 0))
    (hsize : i.size = 1) (hby : i.bytes = 24)
    (v : Value) (n : Nat) (xs : List Value) (hs : a.eval s = v) (hown : w.ownsRow base e 1 v n xs)
    (B : Nat) (vx : Value) (m : Nat) (vs : List Value) (hx : a.eval x = vx) (hsrc : w.ownsRow B e 1 vx m vs) (h1 : ∀ u ∈ vs, u.oneCell' = true)
    (hbytes : (n + m) * 24 ≤ 140737488355328) (hbase : base ≤ w.heap.size)
    (h : ∀ v' w', w'.ownsRow base e 1 v' (n + m) (xs ++ vs) → w.grownBy w' v.ownBlock → (v' = .slice none 0 0 → v = .slice none 0 0) → wpList P ops Q rest (a.put o.dst v') w') : wpList P ops Q (o :: rest) a w := by
  have hl := hsrc.1
  rcases hsrc.2 with ⟨rfl, hm⟩ | ⟨g, cap, cur, rfl, hb, hg, hnc, hcm, hcs, htk⟩
  · subst hm
    have hv : vs = [] := List.eq_nil_of_length_eq_zero (by omega)
    subst hv
    refine wpList_append_own_none hgd s x t ho base e i 1 ht hi v n xs hs hown hx ?_
    exact h v w (by simpa using hown) (World.grownBy.refl w _) id
  · refine wpList_append_own w hgd s x t ho base e i (.slice none 0 0) 1 24 ht hi hz hsize hby rfl (by decide) v n xs hs hown ⟨g, 0, none⟩ m cap vs hx hl (hsrc.cells (g := g) rfl) h1 (by unfold maxLen; omega) hbytes hbase ?_
    intro v' w' ho' hg' hnil
    exact h v' w' ho' hg' fun e => (hnil.1 e).1

/-- The digest of a short named row is that of its text. -/
theorem ofS_sha (name : List UInt8) (rows : List (List UInt8)) (h1 : name.length ≤ 16) (h2 : rows.length < 4096) (h3 : ∀ r ∈ rows, r.length ≤ 65536) : ofS name rows = sha (textOf name rows).2 := by
  have h0 : textOf name rows = (0, rowBytes (name :: rows)) := by
    unfold textOf rowOf
    rw [if_neg (by omega), if_neg]
    rintro (h | ⟨m, hm, h⟩)
    · simp at h; omega
    · cases m with
      | zero => simp at h; omega
      | succ m =>
        simp only [List.length_cons, Nat.add_lt_add_iff_right] at hm
        simp only [List.getElem?_cons_succ, List.getElem?_eq_getElem hm, Option.getD_some] at h
        have := h3 _ (List.getElem_mem hm)
        omega
  unfold ofS ofOf
  rw [h0]
  simp

set_option maxHeartbeats 2000000 in
theorem xtext_any (B : Nat) (s : ByteArray) (v : Value) (rows : List (List UInt8)) (w : World) (hm : s.size ≤ maxLen) (hB : B ≤ w.heap.size) (hL : Lists B w v rows) (hnl : ∀ l c, v = .slice none l c → c = 0) (hr : rows.length * 24 ≤ 140737488351232) :
    Calls Tryd.prog 71 #[.string s, v] w fun e w' => ∃ v', e = .returned v' ∧ w'.ownsRow w.heap.size 5 1 v' (textOf s.data.toList rows).2.length ((textOf s.data.toList rows).2.map by8) ∧ Below w.heap.size w w' := by
  have HT := refText_any B s v rows w hm hB hL hnl hr
  obtain ⟨a, c, vs, rfl, _⟩ := id hL
  generalize textOf s.data.toList rows = T at *
  go_enter Tryd.func71, Tryd.ntmps71
  go_wp2_with fail
  refine HT.mono ?_
  rintro e w1 ⟨v1, rfl, ho, hb⟩
  obtain ⟨a1, c1, rfl⟩ := row_form ho
  have HO := hid ho
  have HB := hid hb
  clear ho hb HT
  go_wp2
  go_ret
  exact ⟨_, rfl, HO.out, HB.out⟩

/-- What is summed of a fork. -/
def forkTx (p : Nat) (s t : List UInt8) : List UInt8 := (textOf [102, 111, 114, 107] [be (u64of p) 8, s, t]).2

theorem forkS_sha (p : Nat) (s t : List UInt8) (hs : s.length = 32) (ht : t.length = 32) : forkS p s t = sha (forkTx p s t) :=
  ofS_sha _ _ (by decide) (by simp) (by intro r hr; simp at hr; rcases hr with rfl | rfl | rfl <;> simp [be_length, hs, ht])

theorem leafS_sha (k v : List UInt8) (h : Tri.short (k, v)) : leafS (k, v) = sha (textOf [108, 101, 97, 102] [k, v]).2 :=
  ofS_sha _ _ (by decide) (by simp) (by
    have h1 := h.1
    have h2 := h.2
    simp only at h1 h2
    intro r hr
    simp at hr
    rcases hr with rfl | rfl <;> omega)

theorem noneS_sha : noneS = sha (textOf [110, 111, 110, 101] []).2 := ofS_sha _ _ (by decide) (by simp) (by simp)

set_option maxHeartbeats 8000000 in
theorem forkText_any (p : Nat) (s t : List UInt8) (w : World) (hp : p < 1080) (hs : s.length = 32) (ht' : t.length = 32) :
    Calls Tryd.prog 37 #[.int .i64 p, .agg (sumV s), .agg (sumV t)] w fun e w' => ∃ v', e = .returned v' ∧ w'.ownsRow w.heap.size 5 1 v' (forkTx p s t).length ((forkTx p s t).map by8) ∧ Below w.heap.size w w' := by
  obtain ⟨n0, n1, hbn, hsn⟩ := alloc2 w (.cells (sumV s) 23) (.cells (sumV t) 23)
  go_enter Tryd.func37, Tryd.ntmps37
  go_wp2_with fail
  generalize hw3 : (w.alloc _).alloc _ = w3
  have HN0 : Hid (w3.heap[w.heap.size]? = some (.cells (sumV s) 23 (0, 0))) := hid (by rw [← hw3]; exact n0)
  have HN1 : Hid (w3.heap[w.heap.size + 1]? = some (.cells (sumV t) 23 (0, 0))) := hid (by rw [← hw3]; exact n1)
  have HBN : Hid (Below w.heap.size w w3) := hid (by rw [← hw3]; exact hbn)
  have HSN : Hid (w3.heap.size = w.heap.size + 2) := hid (by rw [← hw3]; exact hsn)
  clear n0 n1 hbn hsn hw3
  have HOF : Hid (∀ (W : World) (g : Nat) (vn : Value), Below (w.heap.size + 2) w3 W → W.heap[g]? = some (.cells #[vn, .slice (some ⟨w.heap.size, 0, none⟩) 32 32, .slice (some ⟨w.heap.size + 1, 0, none⟩) 32 32] 24 (0, 0)) → Says W vn (be (u64of p) 8) →
      Calls Tryd.prog 71 #[.string ⟨#[102, 111, 114, 107]⟩, .slice (some ⟨g, 0, none⟩) 3 3] W fun e w' => ∃ v', e = .returned v' ∧ w'.ownsRow W.heap.size 5 1 v' (forkTx p s t).length ((forkTx p s t).map by8) ∧ Below W.heap.size W w') := hid (fun W g vn hb hg hv => by
    have e1 := HSN.out
    have hgl := (Array.getElem?_eq_some_iff.1 hg).1
    have hsz := hb.size
    exact xtext_any W.heap.size (⟨#[102, 111, 114, 107]⟩ : ByteArray) (.slice (some ⟨g, 0, none⟩) 3 3) [be (u64of p) 8, s, t] W (by decide) (Nat.le_refl _)
      (lists_three W g _ _ _ _ _ s t hg hgl hv (shows_sum W w.heap.size _ s hs ((hb.block _ (by omega)).trans HN0.out) (by omega)) (shows_sum W (w.heap.size + 1) _ t ht' ((hb.block _ (by omega)).trans HN1.out) (by omega))) (fun l c e => by cases e) (by simp))
  have hb3 : Below (w.heap.size + 2) w3 w3.drew := (Below.refl _ _).drew
  obtain ⟨tx, htx⟩ : ∃ tx, forkTx p s t = tx := ⟨_, rfl⟩
  rw [htx] at HOF
  have HTX := hid htx
  clear htx
  have hz3 : w.heap.size + 2 ≤ w3.heap.size := by rw [HSN.out]; exact Nat.le_refl _
  have hz3' : w3.heap.size ≤ w.heap.size + 2 := by rw [HSN.out]; exact Nat.le_refl _
  go_region_held3 (fun w' => Below (w.heap.size + 2) w3 w')
    (first | assumption | exact Below.alloc (by assumption) (by first | omega | (simp; omega)) _)
    (first
      | (go_at_call 38; refine (refNum_any _ _ (by omega) (by omega)).mono ?_; rintro e wn ⟨gn, rfl, hon, hbn⟩
         have hsay : Says wn (.slice (some ⟨gn, 0, none⟩) 8 8) (be (u64of p) 8) := (shows_of_owns hon).2
         have hzn : w3.heap.size ≤ wn.heap.size := by have := hbn.size; simp at this; omega
         have hSn : Below (w.heap.size + 2) w3 wn := (fun h => Below.trans h (hbn.mono (by simp; omega))) (by assumption)
         have HON := hid hsay
         clear hon hbn hsay)
      | (go_at_call 71; refine (HOF.out _ _ _ (by assumption) (World.alloc_heap_new _ _) (HON.out.new ((Below.refl _ _).alloc (Nat.le_refl _) _))).mono ?_
         rintro e wo ⟨v', rfl, hoo, hbo⟩
         obtain ⟨a1, c1, rfl⟩ := row_form hoo
         have hSo : Below (w.heap.size + 2) w3 wo := (fun h => Below.trans h (hbo.mono (by simp; omega))) (by assumption)
         have HOO : Hid (wo.ownsRow w.heap.size 5 1 (.slice a1 tx.length c1) tx.length (tx.map by8)) := hid (owns_lower hoo (fun g hg => by have h1 := (hoo.lt g hg).1; simp at h1; omega))
         clear hbo hoo))
  have HBO := hid (HBN.out.trans (hSo.mono (by omega)))
  go_wp2
  go_ret
  exact ⟨.slice a1 tx.length c1, rfl, by rw [HTX.out]; exact HOO.out, HBO.out⟩
end Go.Proofs.YtmafaioohiaenaaDoor
