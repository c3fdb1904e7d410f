/- The document's Same of two rows of tokens that are one but for their places. -/
import Derived.Test.YtlbhaknceiehiaaDoorLSmall
import Derived.Deep.QuietTactic
import Derived.BigQuiet
namespace Go.Proofs.YtlbhaknceiehiaaDoor
open Go.RowKit Go.Shelf
set_option linter.unusedVariables false
set_option linter.unusedSimpArgs false
set_option maxRecDepth 20000

set_option maxHeartbeats 1000000 in
theorem sameT_any (B : Nat) (v u : Value) (xs ys : List Tk) (w : World) (hB : B ≤ w.heap.size) (hv : Toks B w v xs) (hu : Toks B w u ys) (hz : xs.map Tk.z = ys.map Tk.z) :
    Calls Tryd.prog 11 #[v, u, .bool false] w fun e w' => e = .returned (.bool true) ∧ Below w.heap.size w w' := by
  have hlen : ys.length = xs.length := by have := congrArg List.length hz; simpa using this.symm
  have HZ : Hid (∀ (j : Nat) (x y : Tk), xs[j]? = some x → ys[j]? = some y → x.k = y.k ∧ x.s = y.s ∧ x.n = y.n) := hid (fun j x y hx hy => by
    have := congrArg (fun l => l[j]?) hz
    simp only [List.getElem?_map, hx, hy, Option.map_some, Option.some.injEq, Tk.z, Tk.mk.injEq, and_true] at this
    exact this)
  have HV := hid hv
  have HU := hid hu
  obtain ⟨a, c, rfl, h1, h2, h3⟩ := id hv
  obtain ⟨a', c', rfl, k1, k2, k3⟩ := id hu
  rw [hlen] at k1 HU ⊢
  unfold maxLen at h2 k2
  have hg := Tryd.eqGuardTok
  by_cases hne : xs = []
  · subst hne
    clear h3 k3 hv hu HV HU HZ hz hlen
    go_enter Tryd.func11, Tryd.ntmps11
    go_wp2_with fail
    go_rounds 1
    go_ret
    exact ⟨rfl, Below.refl _ _⟩
  · have hne2 : ys ≠ [] := fun e => hne (by rw [e] at hlen; exact List.eq_nil_of_length_eq_zero hlen.symm)
    obtain ⟨b, off, rfl, hb, hcell⟩ := h3 hne
    obtain ⟨b', off', rfl, hb', hcell'⟩ := k3 hne2
    have HA : Hid (∀ V, Below w.heap.size w V → ∀ j x, xs[j]? = some x → V.cell? ⟨b, off + j * 4, none⟩ = some (.int .i64 x.k) ∧ V.cell? ⟨b, off + j * 4 + 1, none⟩ = some (.string (str8 x.s)) ∧ V.cell? ⟨b, off + j * 4 + 2, none⟩ = some (.int .i64 x.n) ∧ V.cell? ⟨b, off + j * 4 + 3, none⟩ = some (.int .i64 x.p)) := hid (fun V hV j x hx => by
      obtain ⟨c0, c1, c2, c3⟩ := hcell j x hx
      have hlt : b < w.heap.size := by omega
      exact ⟨(hV.cell (p := ⟨b, _, none⟩) hlt).trans c0, (hV.cell (p := ⟨b, _, none⟩) hlt).trans c1, (hV.cell (p := ⟨b, _, none⟩) hlt).trans c2, (hV.cell (p := ⟨b, _, none⟩) hlt).trans c3⟩)
    have HA' : Hid (∀ V, Below w.heap.size w V → ∀ j x, ys[j]? = some x → V.cell? ⟨b', off' + j * 4, none⟩ = some (.int .i64 x.k) ∧ V.cell? ⟨b', off' + j * 4 + 1, none⟩ = some (.string (str8 x.s)) ∧ V.cell? ⟨b', off' + j * 4 + 2, none⟩ = some (.int .i64 x.n) ∧ V.cell? ⟨b', off' + j * 4 + 3, none⟩ = some (.int .i64 x.p)) := hid (fun V hV j x hx => by
      obtain ⟨c0, c1, c2, c3⟩ := hcell' j x hx
      have hlt : b' < w.heap.size := by omega
      exact ⟨(hV.cell (p := ⟨b', _, none⟩) hlt).trans c0, (hV.cell (p := ⟨b', _, none⟩) hlt).trans c1, (hV.cell (p := ⟨b', _, none⟩) hlt).trans c2, (hV.cell (p := ⟨b', _, none⟩) hlt).trans c3⟩)
    have HLN := hid hlen
    clear hv hu h3 k3 hcell hcell' hz HV HU hlen
    go_enter Tryd.func11, Tryd.ntmps11
    go_wp2_with fail
    go_loopw [7] (fun i wr => ∃ k : Nat, k ≤ xs.length ∧ i = .int .i64 k ∧ Below w.heap.size w wr) (fun i _ => xs.length - (intOf i).toNat)
    case atStart => exact ⟨0, Nat.zero_le _, rfl, Below.refl _ _⟩
    case round =>
      obtain ⟨k, hk, rfl, hbel⟩ := hrel
      by_cases hlt : k < xs.length
      · obtain ⟨x, hx⟩ : ∃ x, xs[k]? = some x := ⟨_, List.getElem?_eq_getElem hlt⟩
        obtain ⟨y, hy⟩ : ∃ y, ys[k]? = some y := ⟨_, List.getElem?_eq_getElem (by rw [HLN.out]; exact hlt)⟩
        obtain ⟨e1, e2, e3⟩ := HZ.out k x y hx hy
        obtain ⟨xk, xt, xn, xp⟩ := x
        obtain ⟨yk, yt, yn, yp⟩ := y
        dsimp only at e1 e2 e3
        subst e1 e2 e3
        obtain ⟨c0, c1, c2, c3⟩ := HA.out wr hbel k _ hx
        have d := fun o => HA'.out (wr.alloc o) (hbel.alloc hbel.size o) k _ hy
        dsimp only at c0 c1 c2 c3 d
        have heq := run_net xk xn yp xt
        have HB2 : Hid (Below w.heap.size w (wr.alloc (.cells #[.int .i64 xk, .string (str8 xt), .int .i64 xn, .int .i64 yp] 33))) := hid (hbel.alloc hbel.size _)
        clear hx hy
        go_wp2_with fail
        go_quiet (fail)
        go_wp2
        go_roundw
        case rel => exact ⟨k + 1, by omega, by go_num, by first | exact below_drewN HB2.out nq | exact HB2.out⟩
        case measure => simp [intOf]; omega
      · go_wp2
        go_ret
        exact ⟨rfl, hbel⟩
end Go.Proofs.YtlbhaknceiehiaaDoor
