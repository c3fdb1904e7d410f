/- Packed for the hand-in: PSameS PSameA -/
import Derived.Test.YtfeglkleoijlaaaGreatDoorZ04
import Derived.Deep.QuietTactic
import Derived.BigQuiet
namespace Go.Proofs.YtfeglkleoijlaaaGreatDoor
open Go.RowKit Go.Shelf
set_option linter.unusedSimpArgs false
set_option linter.unusedVariables false
set_option maxRecDepth 20000
set_option maxHeartbeats 8000000
theorem aQ.opened {α:Type} {z:Nat} {El:(Nat→Prop)→World→α→List Value→Prop} {S:Nat→Prop} {w:World} {xs:List α} {v:Value} (hz:0<z) (h:aQ z El S w xs v) (hne:xs≠[]) :
  ∃(b off c:Nat),v = .slice (some ⟨b,off,none⟩) xs.length c∧xs.length≤c∧c≤maxLen∧∀(j:Nat) (x:α),xs[j]?=some x→∃cs:List Value,El S w x cs∧∀Z,Below w.heap.size w Z→∀(i:Nat) (u:Value),cs[i]?=some u→Z.cell? ⟨b,off+j*z+i,none⟩=some u:=by
 obtain⟨a,c,css,h1,h2,h3,h4,h5⟩:=h
 obtain⟨b,off,rfl,hb,hc⟩:=h5 hne
 have hlt:b<w.heap.size:=by
  cases xs with
  | nil=>exact absurd rfl hne
  |
   cons x l =>
   cases css with
   | nil=>have:=h4.1;simp at this
   |
    cons cs css =>
    have:=h4.2 0 x cs rfl rfl
    cases cs with
    | nil=>have:=this.1;simp at this;omega
    | cons u cs=>exact World.block_lt_of_cell? w _ (hc 0 (u::cs) rfl 0 u rfl)
 refine ⟨b,off,c,h1,h2,h3,fun j x hx=>?_⟩
 have hj:j<css.length:=by rw[h4.1];exact (List.getElem?_eq_some_iff.1 hx).1
 exact⟨css[j],(h4.2 j x _ hx (List.getElem?_eq_getElem hj)).2,fun Z hZ i u hu=>(hZ.cell (p:=⟨b,_,none⟩) hlt).trans (hc j _ (List.getElem?_eq_getElem hj) i u hu)⟩
theorem Tryz.Ad:Tryz.prog.underlying 60=some (.struct (Tryz.prog.fieldsOf 60)):=by kernel_rfl
theorem Tryz.Ct:Tryz.prog.stoodInHeld 60=false:=by kernel_rfl
theorem Tryz.oW:Tryz.prog.eqGuardType Tryz.prog.depth 60=false:=by kernel_rfl
theorem FU (e:Nat) (A B:Array Value) (a1 a2 a3 a4 b1 b2 b3 b4:Value) (p q r t:Bool) (w:World)
  (h1:(Go.part 9 A 0).run Tryz.prog w = .ok a1 w) (h2:(Go.part 3 A 1).run Tryz.prog w = .ok a2 w) (h3:(Go.part 4 A 2).run Tryz.prog w = .ok a3 w) (h4:(Go.part 4 A 3).run Tryz.prog w = .ok a4 w)
  (g1:(Go.part 9 B 0).run Tryz.prog w = .ok b1 w) (g2:(Go.part 3 B 1).run Tryz.prog w = .ok b2 w) (g3:(Go.part 4 B 2).run Tryz.prog w = .ok b3 w) (g4:(Go.part 4 B 3).run Tryz.prog w = .ok b4 w)
  (e1:(Op.equalIn e 9 a1 b1).run Tryz.prog w = .ok p w) (e2:(Op.equalIn e 3 a2 b2).run Tryz.prog w = .ok q w) (e3:(Op.equalIn e 4 a3 b3).run Tryz.prog w = .ok r w) (e4:(Op.equalIn e 4 a4 b4).run Tryz.prog w = .ok t w) :
  (Op.eqFields e A B (Tryz.prog.fieldsOf 60).toList).run Tryz.prog w = .ok (p&&(q&&(r&&t))) w:=by
 simp only[Program.fieldsOf,Tryz.underlying60]
 cases p<;>cases q<;>cases r<;>cases t<;>simp[Op.eqFields,h1,h2,h3,h4,g1,g2,g3,g4,e1,e2,e3,e4]
theorem ay {w:World} {g:Nat} {d0 d1 d2 d3 d4 d5 d6 d7 d8 d9 d10 d11 d12 d13:Value} {t:TypeId} (h:w.heap[g]?=some (.cells #[d0,d1,d2,d3,d4,d5,d6,d7,d8,d9,d10,d11,d12,d13] t)) :
  w.cell? ⟨g,0,none⟩=some d0∧w.cell? ⟨g,1,none⟩=some d1∧w.cell? ⟨g,2,none⟩=some d2∧w.cell? ⟨g,3,none⟩=some d3∧w.cell? ⟨g,4,none⟩=some d4∧w.cell? ⟨g,5,none⟩=some d5∧w.cell? ⟨g,6,none⟩=some d6∧w.cell? ⟨g,7,none⟩=some d7∧w.cell? ⟨g,8,none⟩=some d8∧w.cell? ⟨g,9,none⟩=some d9∧w.cell? ⟨g,10,none⟩=some d10∧w.cell? ⟨g,11,none⟩=some d11∧w.cell? ⟨g,12,none⟩=some d12∧w.cell? ⟨g,13,none⟩=some d13 :=
 ⟨by rw[aD _ _ _ _ _ _ h];rfl,by rw[aD _ _ _ _ _ _ h];rfl,by rw[aD _ _ _ _ _ _ h];rfl,by rw[aD _ _ _ _ _ _ h];rfl,by rw[aD _ _ _ _ _ _ h];rfl,by rw[aD _ _ _ _ _ _ h];rfl,by rw[aD _ _ _ _ _ _ h];rfl,by rw[aD _ _ _ _ _ _ h];rfl,by rw[aD _ _ _ _ _ _ h];rfl,by rw[aD _ _ _ _ _ _ h];rfl,by rw[aD _ _ _ _ _ _ h];rfl,by rw[aD _ _ _ _ _ _ h];rfl,by rw[aD _ _ _ _ _ _ h];rfl,by rw[aD _ _ _ _ _ _ h];rfl⟩
end Go.Proofs.YtfeglkleoijlaaaGreatDoor
