/- Packed for the hand-in: CCre CSrc CCat -/
import Derived.Test.YtfeglkleoijlaaaGreatDoorZ27
import Derived.Test.YtfeglkleoijlaaaGreatDoorZ06
import Derived.Test.YtfeglkleoijlaaaGreatDoorZ17
import Derived.Test.YtfeglkleoijlaaaGreatDoorZ28
import Derived.Test.YtfeglkleoijlaaaGreatDoorZ26
import Derived.Deep.Cut
import Derived.Deep.DeepCutAuto
import Derived.Maps.RangeWalk
import Derived.Maps.OwnSet
namespace Go.Proofs.YtfeglkleoijlaaaGreatDoor
open Go.RowKit Go.Shelf Go.Lib
set_option linter.unusedSimpArgs false
set_option linter.unusedVariables false
set_option maxRecDepth 20000
set_option maxHeartbeats 8000000
section
variable {P : Program} {md : Region.Mode} {ops : Array Oper} {Q : Exit → Act → World → Prop} {S : World → Prop} {fuel : Nat} {listed : Array Bool} {a : Act} {w : World} {i k0 : Nat} {oi : Oper}
theorem dU (hr:Region.ready md ops listed=[i]) (hi:ops[i]?=some oi) (gi:oi.guard=none) (ty:TypeId) (x y:Operand) (ki:oi.op = .store ty x y)
  (g:Nat) (cells:Array Value) (hx:a.eval x = .pointer (some ⟨g,0,none⟩)) (hy:a.eval y = .agg cells) (t:TypeId) (old:Array Value) (hg:w.heap[g]?=some (.cells old t (0,0))) (hs:(P.info? ty).map (·.size)=some cells.size)
  (hold:old.size=cells.size) (h1:cells.all (·.oneCell')=true) (hS:S (w.setRow g cells)∨i=k0)
  (h:cO P md ops Q S k0 fuel (listed.setIfInBounds i true) (a.put oi.dst undef) (w.setRow g cells)):cO P md ops Q S k0 (fuel+1) listed a w :=
 fZ hr hi gi (wp_store_row ty x y ki g cells hx hy t old hg hs hold h1 ⟨hS,h⟩)
end
abbrev uX (nm prim:List UInt8) (aa:Option Addr) (nn cc:Nat):Array Value:=#[.int .i64 1,.string (aj nm),.slice aa nn cc,.string (aj prim),.slice none 0 0,.slice none 0 0,.slice none 0 0,.string ⟨#[]⟩,.slice none 0 0,.slice none 0 0,.slice none 0 0,.slice none 0 0,.bool false,.int .i64 (-1)]
theorem Ca (nm prim:ByteArray) (aa:Option Addr) (nn cc:Nat):(#[.int .i64 1,.string nm,.slice aa nn cc,.string prim,.slice none 0 0,.slice none 0 0,.slice none 0 0,.string ⟨#[]⟩,.slice none 0 0,.slice none 0 0,.slice none 0 0,.slice none 0 0,.bool false,.int .i64 (-1)]:Array Value).all (·.oneCell')=true:=by
 simp[Value.oneCell']
theorem Tryz.oC:(Tryz.prog.info? 29).map (·.size)=some 14:=by kernel_rfl
theorem wM (S:Nat→Prop) (nm:List UInt8) (l:List Co) (aa:Option Addr) (nn cc:Nat) (p:Nat) (x:Co) (w:World) (h:aQ 4 gH S w l (.slice aa nn cc)) (hx:l[p]?=some x) :
  Calls Tryz.prog 78 #[.agg #[.string (aj nm),.slice aa nn cc,.int .i64 (p:Int)]] w fun e w'=>e = .returned (.agg (uX nm x.nm aa nn cc))∧Below w.heap.size w w':=by
 have hp:p<l.length:=(List.getElem?_eq_some_iff.1 hx).1
 obtain⟨b,off,c,hv,hlc,hcm,hS,hlt0,hel⟩:=fq h (fun e=>by rw[e] at hp;exact absurd hp (Nat.not_lt_zero _))
 simp only[Value.slice.injEq] at hv
 obtain⟨rfl,rfl,rfl⟩:=hv
 unfold maxLen at hcm
 obtain⟨W,hW,hbW,hzW,hcA,hcB⟩:=two w (.cells #[.string (aj nm),.slice (some ⟨b,off,none⟩) l.length cc,.int .i64 (p:Int)] 42) (.cells #[.int .i64 0,.string ⟨#[]⟩,.slice none 0 0,.string ⟨#[]⟩,.slice none 0 0,.slice none 0 0,.slice none 0 0,.string ⟨#[]⟩,.slice none 0 0,.slice none 0 0,.slice none 0 0,.slice none 0 0,.bool false,.int .i64 0] 29)
 have q0:=hel W.drew hbW.drew p x hx 0 _ rfl
 rw[Nat.add_zero] at q0
 have k0:=aH (w:=W.drew) hcA
 have hp':(p:Int)<(l.length:Int):=by omega
 have hp0:(0:Int)≤(p:Int):=by omega
 have HB:=hid hbW
 have HCB:=hid hcB
 clear hel hcA hcB hbW h hx
 go_enter Tryz.func78,Tryz.ntmps78
 go_wp2_with fail
 try rw[hW]
 clear hW
 have hS0:(fun W':World=>W'=W.drew) W.drew:=rfl
 refine iE (fun W':World=>W'=W.drew) 12 (by kernel_rfl) ?_
 refine aI (i:=0) (v:=?_) rfl (by kernel_rfl) (by kernel_rfl) (by kernel_rfl) (by kernel_rfl) (by kernel_rfl) (fun _ _ _ h=>h) (Or.inl ⟨by rfl,?_⟩) (by assumption) ?_;rotate_left;(focus (intro w hSw;(try dsimp only at hSw);(try obtain⟨hSw1,hSw2,hSw3⟩:=hSw);go_simp<;>with_reducible rfl));(try simp only[Act.put,List.getElem_toArray,List.getElem_cons_zero,List.getElem_cons_succ,List.setIfInBounds_toArray,List.set_cons_zero,List.set_cons_succ])
 refine aI (i:=1) (v:=?_) rfl (by kernel_rfl) (by kernel_rfl) (by kernel_rfl) (by kernel_rfl) (by kernel_rfl) (fun _ _ _ h=>h) (Or.inl ⟨by rfl,?_⟩) (by assumption) ?_;rotate_left;(focus (intro w hSw;(try dsimp only at hSw);(try obtain⟨hSw1,hSw2,hSw3⟩:=hSw);go_simp<;>with_reducible rfl));(try simp only[Act.put,List.getElem_toArray,List.getElem_cons_zero,List.getElem_cons_succ,List.setIfInBounds_toArray,List.set_cons_zero,List.set_cons_succ])
 refine aI (i:=2) (v:=?_) rfl (by kernel_rfl) (by kernel_rfl) (by kernel_rfl) (by kernel_rfl) (by kernel_rfl) (fun _ _ _ h=>h) (Or.inl ⟨by rfl,?_⟩) (by assumption) ?_;rotate_left;(focus (intro w hSw;(try dsimp only at hSw);(try obtain⟨hSw1,hSw2,hSw3⟩:=hSw);go_simp<;>with_reducible rfl));(try simp only[Act.put,List.getElem_toArray,List.getElem_cons_zero,List.getElem_cons_succ,List.setIfInBounds_toArray,List.set_cons_zero,List.set_cons_succ])
 refine aI (i:=3) (v:=?_) rfl (by kernel_rfl) (by kernel_rfl) (by kernel_rfl) (by kernel_rfl) (by kernel_rfl) (fun _ _ _ h=>h) (Or.inl ⟨by rfl,?_⟩) (by assumption) ?_;rotate_left;(focus (intro w hSw;(try dsimp only at hSw);(try obtain⟨hSw1,hSw2,hSw3⟩:=hSw);go_simp<;>with_reducible rfl));(try simp only[Act.put,List.getElem_toArray,List.getElem_cons_zero,List.getElem_cons_succ,List.setIfInBounds_toArray,List.set_cons_zero,List.set_cons_succ])
 refine aI (i:=4) (v:=?_) rfl (by kernel_rfl) (by kernel_rfl) (by kernel_rfl) (by kernel_rfl) (by kernel_rfl) (fun _ _ _ h=>h) (Or.inl ⟨by rfl,?_⟩) (by assumption) ?_;rotate_left;(focus (intro w hSw;(try dsimp only at hSw);(try obtain⟨hSw1,hSw2,hSw3⟩:=hSw);go_simp<;>with_reducible rfl));(try simp only[Act.put,List.getElem_toArray,List.getElem_cons_zero,List.getElem_cons_succ,List.setIfInBounds_toArray,List.set_cons_zero,List.set_cons_succ])
 refine aI (i:=5) (v:=?_) rfl (by kernel_rfl) (by kernel_rfl) (by kernel_rfl) (by kernel_rfl) (by kernel_rfl) (fun _ _ _ h=>h) (Or.inl ⟨by rfl,?_⟩) (by assumption) ?_;rotate_left;(focus (intro w hSw;(try dsimp only at hSw);(try obtain⟨hSw1,hSw2,hSw3⟩:=hSw);go_simp<;>with_reducible rfl));(try simp only[Act.put,List.getElem_toArray,List.getElem_cons_zero,List.getElem_cons_succ,List.setIfInBounds_toArray,List.set_cons_zero,List.set_cons_succ])
 refine aI (i:=6) (v:=?_) rfl (by kernel_rfl) (by kernel_rfl) (by kernel_rfl) (by kernel_rfl) (by kernel_rfl) (fun _ _ _ h=>h) (Or.inl ⟨by rfl,?_⟩) (by assumption) ?_;rotate_left;(focus (intro w hSw;(try dsimp only at hSw);(try obtain⟨hSw1,hSw2,hSw3⟩:=hSw);go_simp<;>with_reducible rfl));(try simp only[Act.put,List.getElem_toArray,List.getElem_cons_zero,List.getElem_cons_succ,List.setIfInBounds_toArray,List.set_cons_zero,List.set_cons_succ])
 refine aI (i:=7) (v:=?_) rfl (by kernel_rfl) (by kernel_rfl) (by kernel_rfl) (by kernel_rfl) (by kernel_rfl) (fun _ _ _ h=>h) (Or.inl ⟨by rfl,?_⟩) (by assumption) ?_;rotate_left;(focus (intro w hSw;(try dsimp only at hSw);(try obtain⟨hSw1,hSw2,hSw3⟩:=hSw);go_simp<;>with_reducible rfl));(try simp only[Act.put,List.getElem_toArray,List.getElem_cons_zero,List.getElem_cons_succ,List.setIfInBounds_toArray,List.set_cons_zero,List.set_cons_succ])
 refine aI (i:=8) (v:=?_) rfl (by kernel_rfl) (by kernel_rfl) (by kernel_rfl) (by kernel_rfl) (by kernel_rfl) (fun _ _ _ h=>h) (Or.inl ⟨by rfl,?_⟩) (by assumption) ?_;rotate_left;(focus (intro w hSw;(try dsimp only at hSw);(try obtain⟨hSw1,hSw2,hSw3⟩:=hSw);go_simp<;>with_reducible rfl));(try simp only[Act.put,List.getElem_toArray,List.getElem_cons_zero,List.getElem_cons_succ,List.setIfInBounds_toArray,List.set_cons_zero,List.set_cons_succ])
 refine aI (i:=9) (v:=?_) rfl (by kernel_rfl) (by kernel_rfl) (by kernel_rfl) (by kernel_rfl) (by kernel_rfl) (fun _ _ _ h=>h) (Or.inl ⟨by rfl,?_⟩) (by assumption) ?_;rotate_left;(focus (intro w hSw;(try dsimp only at hSw);(try obtain⟨hSw1,hSw2,hSw3⟩:=hSw);go_simp<;>with_reducible rfl));(try simp only[Act.put,List.getElem_toArray,List.getElem_cons_zero,List.getElem_cons_succ,List.setIfInBounds_toArray,List.set_cons_zero,List.set_cons_succ])
 refine aI (i:=10) (v:=?_) rfl (by kernel_rfl) (by kernel_rfl) (by kernel_rfl) (by kernel_rfl) (by kernel_rfl) (fun _ _ _ h=>h) (Or.inl ⟨by rfl,?_⟩) (by assumption) ?_;rotate_left;(focus (intro w hSw;(try dsimp only at hSw);(try obtain⟨hSw1,hSw2,hSw3⟩:=hSw);go_simp<;>with_reducible rfl));(try simp only[Act.put,List.getElem_toArray,List.getElem_cons_zero,List.getElem_cons_succ,List.setIfInBounds_toArray,List.set_cons_zero,List.set_cons_succ])
 refine aI (i:=11) (v:=?_) rfl (by kernel_rfl) (by kernel_rfl) (by kernel_rfl) (by kernel_rfl) (by kernel_rfl) (fun _ _ _ h=>h) (Or.inl ⟨by rfl,?_⟩) (by assumption) ?_;rotate_left;(focus (intro w hSw;(try dsimp only at hSw);(try obtain⟨hSw1,hSw2,hSw3⟩:=hSw);go_simp<;>with_reducible rfl));(try simp only[Act.put,List.getElem_toArray,List.getElem_cons_zero,List.getElem_cons_succ,List.setIfInBounds_toArray,List.set_cons_zero,List.set_cons_succ])
 refine dU (i:=12) (by kernel_rfl) rfl rfl 29 (.tmp 2) (.tmp 14) rfl (w.heap.size+1) (uX nm x.nm (some ⟨b,off,none⟩) l.length cc) (by rfl) (by rfl) 29 _ HCB.out Tryz.oC rfl (Ca _ _ _ _ _) (.inr rfl) ?_
 refine fC (by kernel_rfl) ?_ _
 show Only _ .normal _ _
 unfold Only
 have hZB:=setRow_heap W.drew (w.heap.size+1) _ (uX nm x.nm (some ⟨b,off,none⟩) l.length cc) _ _ HCB.out
 have hSp:aA (fun k=>k=w.heap.size+1) W.drew (W.drew.setRow (w.heap.size+1) (uX nm x.nm (some ⟨b,off,none⟩) l.length cc)):=aA.setRow (S:=fun k=>k=w.heap.size+1) (aA.refl _ W.drew) (p:=w.heap.size+1) (.inl rfl) _
 have HBF:Hid (Below w.heap.size w (W.drew.setRow (w.heap.size+1) (uX nm x.nm (some ⟨b,off,none⟩) l.length cc))):=hid (HB.out.drew.trans (hSp.below (fun i hi=>by omega) HB.out.drew.size))
 generalize W.drew.setRow (w.heap.size+1) (uX nm x.nm (some ⟨b,off,none⟩) l.length cc)=Z at hZB HBF ⊢
 have kZ:=ay hZB
 clear hSp hZB k0 q0 hS0
 go_wp2
 exact bodyPost_ret (v:=.agg (uX nm x.nm (some ⟨b,off,none⟩) l.length cc)) (by simp[results,Tryz.results78,go_sem,kZ]) rfl ⟨rfl,HBF.out⟩
theorem oQ {S:Nat→Prop} {w:World} {t:Tb} {aa:Option Addr} {nn cc:Nat} (h:aQ 4 gH S w t.cols (.slice aa nn cc)) {nm:List UInt8} (hx:uS t.cols t.pr.toNat=nm):eZ S w (bU t) [.int .i64 1,.string (aj t.nm),.slice aa nn cc,.string (aj nm),.slice none 0 0,.slice none 0 0,.slice none 0 0,.string ⟨#[]⟩,.slice none 0 0,.slice none 0 0,.slice none 0 0,.slice none 0 0,.bool false,.int .i64 (-1)]:=by
 have n:bF S w [] (.slice none 0 0):=.nil none 0 (by unfold maxLen;omega)
 refine ⟨aa,none,none,none,none,none,none,none,nn,0,0,0,0,0,0,0,cc,0,0,0,0,0,0,0,?_,h,aQ.nil,aQ.nil,aQ.nil,n,n,n,n⟩
 rw[← hx]
 rfl
def BA (t:Tb):Prop:=t.nm.length≤9223372036854775807∧∀c∈t.cols,c.nm.length≤9223372036854775807
theorem BA.s {t:Tb} (h:BA t):xH (bU t):=by
 refine ⟨h.1,?_,Nat.zero_le _,(by show (-1:Int)≤_;decide),h.2,(fun x hx=>by cases hx),(fun x hx=>by cases hx),(fun x hx=>by cases hx),(fun x hx=>by cases hx),(fun x hx=>by cases hx),(fun x hx=>by cases hx),(fun x hx=>by cases hx)⟩
 show (uS t.cols t.pr.toNat).length≤_
 unfold uS
 cases hc:t.cols[t.pr.toNat]? with
 | none=>simp
 | some c=>exact h.2 c (List.mem_of_getElem? hc)
theorem Bq (S T:Nat→Prop) (xs ys:List Co) (v u:Value) (w:World) (hv:aQ 4 gH S w xs v) (hu:aQ 4 gH T w ys u) (hx:xs≠[]) (hy:ys≠[]) :
  Calls Tryz.prog 79 #[v,u] w fun e w'=>e = .returned (.bool (Lib.allEq mU xs ys))∧Below w.heap.size w w':=by
 obtain⟨b1,o1,c1,rfl,h1,h2,_,_,hel1⟩:=fq hv hx
 obtain⟨b2,o2,c2,rfl,h3,h4,_,_,hel2⟩:=fq hu hy
 unfold maxLen at h2 h4
 refine (AnyQ.slices_Equal GZ 4 Tryz.isAgg60 Tryz.sizeOf60 iC (fun _=>rfl) mU EC b1 o1 xs.length c1 b2 o2 ys.length c2 xs ys w (Nat.le_refl _) (Nat.le_refl _) (by omega) (by omega) (fun j hj i u hu=>hel1 w (Below.refl _ _) j xs[j]! (by rw[getElem!_pos xs j hj];exact List.getElem?_eq_getElem hj) i u hu) (fun j hj i u hu=>hel2 w (Below.refl _ _) j ys[j]! (by rw[getElem!_pos ys j hj];exact List.getElem?_eq_getElem hj) i u hu)).mono ?_
 rintro e w' ⟨rfl,q,rfl⟩
 rw[List.take_length,List.take_length]
 exact⟨rfl,below_drewN (Below.refl _ _) q⟩
theorem sH {s:St} (h:(bP s).2=0):(bP s).1.cols≠[]:=by
 obtain⟨hk,hr,hn,hi,e⟩:=oz h
 rw[e]
 intro e2
 have:=fE s.cols (bO s.cols s.prim)
 dsimp only at e2
 rw[e2] at this
 simp at this
 omega
theorem Bt (S:Nat→Prop) (t:Tb) (cs:List Value) (w:World) (hT:eH w) (hR:BA t) (h:dK S w t cs) :
  Calls Tryz.prog 34 #[.agg cs.toArray] w fun e w'=>e = .returned (.bool (gI t))∧Below w.heap.size w w':=by
 obtain⟨aa,nn,cc,rfl,hsl⟩:=h
 have hnn:nn=t.cols.length:=by obtain⟨_,_,hf⟩:=hsl.form;simp only[Value.slice.injEq] at hf;exact hf.2.1
 obtain⟨W,hW,hbW,hzW,hcW⟩:=aL w (.cells #[.string (aj t.nm),.slice aa nn cc,.int .i64 t.pr] 42)
 have k0:=aH hcW
 have HB:=hid hbW
 have HCW:=hid hcW
 by_cases hp:0≤t.pr∧t.pr<t.cols.length
 ·obtain⟨p,hpp⟩:=Int.eq_ofNat_of_zero_le hp.1
  have hpl:p<t.cols.length:=by omega
  obtain⟨x,hx⟩:∃x,t.cols[p]?=some x:=⟨_,List.getElem?_eq_getElem hpl⟩
  have hslW:=hsl.to (T:=S) (by decide) (R:=fun _=>False) (aA.aC hbW) (fun b hb _=>⟨id,hb⟩) (fun _ _ e=>e)
  have HCR:=hid (wM S t.nm t.cols aa nn cc p x W hslW hx)
  have hnm:uS t.cols t.pr.toNat=x.nm:=by rw[hpp,Int.toNat_natCast,ug hpl,(List.getElem?_eq_some_iff.1 hx).2]
  have HMK:Hid (∀V,Below w.heap.size w V→Calls Tryz.prog 51 #[.agg (uX t.nm x.nm aa nn cc)] V fun e w'=>∃ds:List Value,e = .returned (.tuple #[.agg ds.toArray,.int .i64 (bP (bU t)).2])∧yR V.heap.size w' (bP (bU t)).1 ds∧Below V.heap.size V w'):=hid (fun V hV=>xu (fun _=>True) (bU t) _ V (hT.on hV) hR.s ((oQ hsl hnm).on hV))
  have hmay:gI t=(decide ((bP (bU t)).2=0)&&Lib.allEq mU (bP (bU t)).1.cols t.cols):=by unfold gI;rw[decide_eq_true hp,Bool.true_and]
  have hmc:=sH (s:=bU t)
  have HSL:=hid hsl
  have hne:t.cols≠[]:=fun e=>by rw[e] at hpl;exact absurd hpl (Nat.not_lt_zero _)
  have h1 : ¬(p:Int)<0:=by omega
  have h2:(p:Int)<(t.cols.length:Int):=by omega
  have h3 : ¬(t.cols.length:Int)≤(p:Int):=by omega
  rw[hmay]
  generalize bP (bU t)=M at HMK hmc ⊢
  obtain⟨N,e0⟩:=M
  dsimp only at HMK hmc ⊢
  obtain⟨R,hR0⟩:∃R,(decide (e0=0)&&Lib.allEq mU N.cols t.cols)=R:=⟨_,rfl⟩
  rw[hR0]
  have HR0:=hid hR0
  clear hR0
  rw[hpp] at hW HCW k0 ⊢
  clear hmay hnm hx hslW hT hR hbW hcW hp hpp hsl
  subst hnn
  go_enter Tryz.func34,Tryz.ntmps34
  go_wp2_with fail
  try rw[hW]
  refine HCR.out.mono ?_
  rintro e w1 ⟨rfl,hb1⟩
  have hB1:=HB.out.trans (hb1.mono HB.out.size)
  have HM1:=hid (HMK.out w1 hB1)
  have HB1:=hid hB1
  have hs1:=hb1.size
  have HC1:=hid ((hb1.block w.heap.size hzW).trans HCW.out)
  clear hb1 hB1 HCR HMK hW k0
  go_wp2_with fail
  refine HM1.out.mono ?_
  rintro e w2 ⟨ds,rfl,⟨a2,n2,c2,rfl,hown⟩,hb2⟩
  have hs2:=hb2.size
  obtain⟨U,hU,hbU,hzU,hcU⟩:=aL w2 (.cells #[.string (aj N.nm),.slice a2 n2 c2,.int .i64 N.pr] 42)
  have hBU:Below w.heap.size w U:=(HB1.out.trans (hb2.mono HB1.out.size)).trans (hbU.mono (HB1.out.trans (hb2.mono HB1.out.size)).size)
  have kU:=aH hcU
  have kT:=aH ((hbU.block w.heap.size (by omega)).trans ((hb2.block w.heap.size (by omega)).trans HC1.out))
  have HBU:=hid hBU
  have hownU:=(rF hown).to (T:=fun _=>True) (by decide) (R:=fun _=>False) (aA.aC hbU) (fun b hb _=>⟨id,trivial⟩) (fun _ _ e=>e)
  have hslU:=HSL.out.to (T:=S) (by decide) (R:=fun _=>False) (aA.aC hBU) (fun b hb _=>⟨id,hb⟩) (fun _ _ e=>e)
  by_cases he:e0=0
  ·subst he
   have HEQ:=hid (Bq _ S N.cols t.cols _ _ U hownU hslU (hmc rfl) hne)
   rw[decide_eq_true rfl,Bool.true_and] at HR0
   rw[HR0.out] at HEQ
   clear hownU hslU hbU hb2 hcU hBU hown HM1
   go_wp2_with fail
   try rw[hU]
   refine HEQ.out.mono ?_
   rintro e w3 ⟨rfl,hb3⟩
   have HB3:=hid (HBU.out.trans (hb3.mono HBU.out.size))
   clear hb3 HEQ
   go_wp2
   go_ret
   exact⟨rfl,HB3.out⟩
  ·have he':(e0==0)=false:=by simpa using he
   rw[decide_eq_false he,Bool.false_and] at HR0
   obtain rfl:=HR0.out
   clear hownU hslU hbU hb2 hcU hBU hown HM1 he
   go_wp2
   try rw[hU]
   go_ret
   exact⟨rfl,HBU.out⟩
 ·have hm:gI t=false:=by unfold gI;rw[decide_eq_false hp,Bool.false_and]
  rw[hm]
  subst hnn
  generalize t.cols.length=L at *
  generalize t.pr=q at *
  clear hm hT hR hsl hbW hcW HCW
  by_cases h1:q<0
  ·clear hp
   go_enter Tryz.func34,Tryz.ntmps34
   go_wp2
   try rw[hW]
   go_ret
   exact⟨rfl,HB.out⟩
  ·have h2 : ¬q<(L:Int):=fun h=>hp ⟨by omega,h⟩
   have h3:(L:Int)≤q:=by omega
   clear hp
   go_enter Tryz.func34,Tryz.ntmps34
   go_wp2
   try rw[hW]
   go_ret
   exact⟨rfl,HB.out⟩
theorem yj {s:St} (h:(bP s).2=0):ShT (bP s).1:=by
 obtain⟨hk,hr,hn,hi,e⟩:=oz h
 have:=(gF hk hr 0).1
 rw[e]
 refine ⟨this.1,by show (keyed _ _).length≤8;rw[fE];exact this.2.1,fun c hc=>?_⟩
 obtain⟨d,hd,e1,_⟩:=Aj hc
 rw[e1]
 exact this.2.2 d hd
end Go.Proofs.YtfeglkleoijlaaaGreatDoor
namespace Go.Proofs.YtfeglkleoijlaaaGreatDoor
open Go.RowKit Go.Shelf Go.Lib Go.Maps
set_option linter.unusedSimpArgs false
set_option linter.unusedVariables false
set_option maxRecDepth 20000
set_option maxHeartbeats 8000000
def nX (v:Value):Option (DataW Value × List MemPlace):=some (.held v,[])
theorem vw {v:Value} {z:DataW Value × List MemPlace} (h:nX v=some z):z=(.held v,[]):=(Option.some.inj h).symm
theorem FJ:Keyed Tryz.prog 9:=string_keyed Tryz.underlying9
abbrev EA:Value:=.agg #[.string ⟨#[]⟩,.slice none 0 0,.int .i64 0]
theorem Tryz.zh (w:World):(zeroValue 42).run Tryz.prog w = .ok EA w:=by kernel_rfl
theorem uw {t:List UInt8} (h:t.length≤maxLen):keyOf Tryz.prog 9 (.string (aj t))=some (.string t):=by
 have:=WideMaps.keyOf_string_mk (P:=Tryz.prog) Tryz.underlying9 (s:=aj t) (by rw[dz];exact h)
 rwa [show (aj t).data.toList=t by simp[aj]] at this
structure dY (w:World) (sb mb:Nat) (E:DataW Value) (f:List UInt8→Value) (L:List Tb) (S:Nat→Prop):Prop where
 cell:w.cell? ⟨sb,0,none⟩=some (.map (some mb))
 m:w.ownsMap Tryz.prog 9 nX mb L.length E
 at' : ∀nm:List UInt8,nm.length≤maxLen→E.atKey (.string nm) (.held EA) = .held (f nm)
 has : ∀nm:List UInt8,nm.length≤maxLen→Maps.has E (.string nm)=decide (nm∈L.map Tb.nm)
 size:Maps.size E=L.length
 val : ∀t∈L,∃cs:List Value,f t.nm = .agg cs.toArray∧dK S w t cs
 none : ∀nm,nm ∉ L.map Tb.nm→f nm=EA
 bT:S sb∧S mb
 lt : ∀i,S i→i<w.heap.size
 ne:sb≠mb
 ok : ∀t∈L,gI t=true
 six:L.length≤6
 once:(L.map Tb.nm).Nodup
def JO (w:World) (v:Value) (L:List Tb) (S:Nat→Prop):Prop:=∃sb mb E f,v = .pointer (some ⟨sb,0,none⟩)∧dY w sb mb E f L S
theorem xU {w w':World} {S:Nat→Prop} {b n:Nat} {D:DataW Value} (h:w.ownsMap Tryz.prog 9 nX b n D) (hk:aA S w w') (hS : ¬S b):w'.ownsMap Tryz.prog 9 nX b n D:=by
 have hlt:=h.lt
 obtain⟨es,clock,hb,F,hs,hD⟩:=h
 exact⟨es,clock,(hk.block b hlt hS).trans hb,F,hs,hD⟩
theorem yX {w:World} {b n:Nat} {D:DataW Value} (h:w.ownsMap Tryz.prog 9 nX b n D):w.ownsMap Tryz.prog 9 nX b (Maps.size D) D:=by
 obtain⟨es,clock,hb,F,hs,rfl⟩:=h
 exact⟨es,clock,hb,F,by simp[Maps.size,length_sorted],rfl⟩
theorem dY.keeps {w w':World} {sb mb:Nat} {E:DataW Value} {f:List UInt8→Value} {L:List Tb} {S T:Nat→Prop} (h:dY w sb mb E f L S) (hk:aA T w w') (hT : ∀i,S i→¬T i):dY w' sb mb E f L S :=
 ⟨hk.cell h.cell (hT _ h.bT.1),xU h.m hk (hT _ h.bT.2),h.at',h.has,h.size,fun t ht=>by
  obtain⟨cs,h1,h2⟩:=h.val t ht
  exact⟨cs,h1,h2.to hk (fun b hb _=>⟨hT b hb,hb⟩)⟩,h.none,h.bT,fun i hi=>Nat.lt_of_lt_of_le (h.lt i hi) hk.size,h.ne,h.ok,h.six,h.once⟩
theorem dY.new {w w':World} {sb mb:Nat} {E:DataW Value} {f:List UInt8→Value} {L:List Tb} {S:Nat→Prop} (h:dY w sb mb E f L S) (hb:Below w.heap.size w w'):dY w' sb mb E f L S :=
 h.keeps (T:=fun _=>False) (aA.aC hb) (fun _ _=>id)
theorem j3 {t:Tb} (h:gI t=true):ShT t∧t.cols≠[]:=by
 have hm:=qO h
 have h0:(bP (bU t)).2=0:=by rw[hm]
 have h1:=yj h0
 have h2:=sH h0
 rw[hm] at h1 h2
 exact⟨h1,h2⟩
theorem Dc (w:World):Calls Tryz.prog 15 #[] w fun e w'=>∃v,e = .returned v∧JO w' v [] (fun b=>w.heap.size≤b∧b<w'.heap.size)∧Below w.heap.size w w':=by
 obtain⟨W,hW,hbW,hzW,hcA,hcB⟩:=two w (.map #[] 0) (.cells #[.map (some w.heap.size)] 83)
 have HB:=hid hbW
 have HC:Hid (dY W (w.heap.size+1) w.heap.size (.map []) (fun _=>EA) [] (fun b=>w.heap.size≤b∧b<W.heap.size)):=hid (by
  have hm:=World.ownsMap_made w Tryz.prog 9 nX
  refine ⟨by rw[aD _ _ _ _ _ _ hcB];rfl,?_,fun nm _=>rfl,fun nm _=>rfl,rfl,(fun t ht=>by cases ht),fun nm _=>rfl,⟨⟨by omega,hzW⟩,Nat.le_refl _,by omega⟩,fun i hi=>hi.2,by omega,fun t ht=>(by cases ht),by decide,List.nodup_nil⟩
  rw[← hW]
  exact hm.alloc _)
 have hmm:=@run_makeMap Tryz.prog
 clear hbW hcA hcB
 go_enter Tryz.func15,Tryz.ntmps15
 go_wp2
 try rw[hW]
 go_ret
 exact⟨_,rfl,⟨_,_,_,_,rfl,HC.out⟩,HB.out⟩
theorem uP (sb mb:Nat) (E:DataW Value) (f:List UInt8→Value) (L:List Tb) (S:Nat→Prop) (nm:List UInt8) (w:World) (h:dY w sb mb E f L S) (hn:nm.length≤maxLen) :
  Calls Tryz.prog 35 #[.pointer (some ⟨sb,0,none⟩),.string (aj nm)] w fun e w'=>e = .returned (.bool (decide (nm∈L.map Tb.nm)))∧Below w.heap.size w w':=by
 obtain⟨v,ps,hlk,hv⟩:=h.m.look_ok FJ Tryz.underlying81 (Tryz.zh w) (zd:=.held EA) (zp:=[]) rfl (uw hn)
 have hv':=vw hv
 simp only[Prod.mk.injEq] at hv'
 rw[h.at' nm hn] at hv'
 injection hv'.1 with hvf
 subst hvf
 rw[h.has nm hn] at hlk
 have hc:=h.cell
 obtain⟨cs,hf,hl3⟩:∃cs:List Value,f nm = .agg cs.toArray∧∃(c0:ByteArray) (x1:Option Addr) (x2 x3:Nat) (c2:Int),cs=[.string c0,.slice x1 x2 x3,.int .i64 c2]:=by
  by_cases hm:nm∈L.map Tb.nm
  ·obtain⟨t,ht,rfl⟩:=List.mem_map.1 hm
   obtain⟨cs,h1,aa,nn,cc,h2,_⟩:=h.val t ht
   exact⟨cs,h1,_,aa,nn,cc,_,h2⟩
  ·exact⟨[.string ⟨#[]⟩,.slice none 0 0,.int .i64 0],h.none nm hm,⟨#[]⟩,none,0,0,0,rfl⟩
 obtain⟨c0,x1,x2,x3,c2,rfl⟩:=hl3
 rw[hf] at hlk
 obtain⟨b,hb⟩:∃b,decide (nm∈L.map Tb.nm)=b:=⟨_,rfl⟩
 rw[hb] at hlk ⊢
 clear h hb hf hv hv' hn
 go_enter Tryz.func35,Tryz.ntmps35
 go_wp2
 go_ret
 exact⟨rfl,by first | exact (Below.refl _ w).alloc (Nat.le_refl _) _ | exact ((((Below.refl _ w).alloc (Nat.le_refl _) _).setCell (Nat.le_refl _) _).setCell (Nat.le_refl _) _).setCell (Nat.le_refl _) _⟩
end Go.Proofs.YtfeglkleoijlaaaGreatDoor
