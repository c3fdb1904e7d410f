/- Packed for the hand-in: CCre CSrc -/
import Derived.Test.YtaaggohjmhifbaaGreatDoorY38
import Derived.Test.YtaaggohjmhifbaaGreatDoorY20
import Derived.Test.YtaaggohjmhifbaaGreatDoorY25
import Derived.Test.YtaaggohjmhifbaaGreatDoorY34
namespace Go.Proofs.YtaaggohjmhifbaaGreatDoor
open Go.RowKit Go.Shelf Go.Lib
set_option linter.unusedSimpArgs false
set_option linter.unusedVariables false
set_option maxRecDepth 20000
set_option maxHeartbeats 8000000
section
variable {P : Program} {md : Region.Mode} {ops : Array Oper} {Q : Exit → Act → World → Prop} {S : World → Prop} {fuel : Nat} {listed : Array Bool} {a : Act} {w : World} {i k0 : Nat} {oi : Oper}
theorem iK (hr:Region.ready md ops listed=[i]) (hi:ops[i]?=some oi) (gi:oi.guard=none) (ty:TypeId) (x y:Operand) (ki:oi.op = .store ty x y)
  (g:Nat) (cells:Array Value) (hx:a.eval x = .pointer (some ⟨g,0,none⟩)) (hy:a.eval y = .agg cells) (t:TypeId) (old:Array Value) (hg:w.heap[g]?=some (.cells old t (0,0))) (hs:(P.info? ty).map (·.size)=some cells.size)
  (hold:old.size=cells.size) (h1:cells.all (·.oneCell')=true) (hS:S (w.setRow g cells)∨i=k0)
  (h:eB P md ops Q S k0 fuel (listed.setIfInBounds i true) (a.put oi.dst undef) (w.setRow g cells)):eB P md ops Q S k0 (fuel+1) listed a w :=
 jZ hr hi gi (wp_store_row ty x y ki g cells hx hy t old hg hs hold h1 ⟨hS,h⟩)
end
abbrev Gv (nm prim:List UInt8) (aa:Option Addr) (nn cc:Nat):Array Value:=#[.int .i64 1,.string (ah nm),.slice aa nn cc,.string (ah prim),.slice none 0 0,.slice none 0 0,.slice none 0 0,.string ⟨#[]⟩,.slice none 0 0,.slice none 0 0,.slice none 0 0,.slice none 0 0,.bool false,.int .i64 (-1)]
theorem JQ (nm prim:ByteArray) (aa:Option Addr) (nn cc:Nat):(#[.int .i64 1,.string nm,.slice aa nn cc,.string prim,.slice none 0 0,.slice none 0 0,.slice none 0 0,.string ⟨#[]⟩,.slice none 0 0,.slice none 0 0,.slice none 0 0,.slice none 0 0,.bool false,.int .i64 (-1)]:Array Value).all (·.oneCell')=true:=by
 simp[Value.oneCell']
theorem Tryz.Jf:(Tryz.prog.info? 28).map (·.size)=some 14:=by kernel_rfl
theorem sJ (S:Nat→Prop) (nm:List UInt8) (l:List Co) (aa:Option Addr) (nn cc:Nat) (p:Nat) (x:Co) (w:World) (h:bP 4 iE S w l (.slice aa nn cc)) (hx:l[p]?=some x) :
  Calls Tryz.prog 35 #[.agg #[.string (ah nm),.slice aa nn cc,.int .i64 (p:Int)]] w fun e w'=>e = .returned (.agg (Gv nm x.nm aa nn cc))∧Below w.heap.size w w':=by
 have hp:p<l.length:=(List.getElem?_eq_some_iff.1 hx).1
 obtain⟨b,off,c,hv,hlc,hcm,hS,hlt0,hel⟩:=jH h (fun e=>by rw[e] at hp;exact absurd hp (Nat.not_lt_zero _))
 simp only[Value.slice.injEq] at hv
 obtain⟨rfl,rfl,rfl⟩:=hv
 unfold maxLen at hcm
 obtain⟨W,hW,hbW,hzW,hcA,hcB⟩:=two w (.cells #[.string (ah nm),.slice (some ⟨b,off,none⟩) l.length cc,.int .i64 (p:Int)] 31) (.cells #[.int .i64 0,.string ⟨#[]⟩,.slice none 0 0,.string ⟨#[]⟩,.slice none 0 0,.slice none 0 0,.slice none 0 0,.string ⟨#[]⟩,.slice none 0 0,.slice none 0 0,.slice none 0 0,.slice none 0 0,.bool false,.int .i64 0] 28)
 have q0:=hel W.drew hbW.drew p x hx 0 _ rfl
 rw[Nat.add_zero] at q0
 have k0:=aS (w:=W.drew) hcA
 have hp':(p:Int)<(l.length:Int):=by omega
 have hp0:(0:Int)≤(p:Int):=by omega
 have HB:=hid hbW
 have HCB:=hid hcB
 clear hel hcA hcB hbW h hx
 go_enter Tryz.func35,Tryz.ntmps35
 go_wp2_with fail
 try rw[hW]
 clear hW
 have hS0:(fun W':World=>W'=W.drew) W.drew:=rfl
 refine nO (fun W':World=>W'=W.drew) 12 (by kernel_rfl) ?_
 refine aI (i:=0) (v:=?_) rfl (by kernel_rfl) (by kernel_rfl) (by kernel_rfl) (by kernel_rfl) (by kernel_rfl) (fun _ _ _ h=>h) (Or.inl ⟨by rfl,?_⟩) (by assumption) ?_;rotate_left;(focus (intro w hSw;(try dsimp only at hSw);(try obtain⟨hSw1,hSw2,hSw3⟩:=hSw);go_simp<;>with_reducible rfl));(try simp only[Act.put,List.getElem_toArray,List.getElem_cons_zero,List.getElem_cons_succ,List.setIfInBounds_toArray,List.set_cons_zero,List.set_cons_succ])
 refine aI (i:=1) (v:=?_) rfl (by kernel_rfl) (by kernel_rfl) (by kernel_rfl) (by kernel_rfl) (by kernel_rfl) (fun _ _ _ h=>h) (Or.inl ⟨by rfl,?_⟩) (by assumption) ?_;rotate_left;(focus (intro w hSw;(try dsimp only at hSw);(try obtain⟨hSw1,hSw2,hSw3⟩:=hSw);go_simp<;>with_reducible rfl));(try simp only[Act.put,List.getElem_toArray,List.getElem_cons_zero,List.getElem_cons_succ,List.setIfInBounds_toArray,List.set_cons_zero,List.set_cons_succ])
 refine aI (i:=2) (v:=?_) rfl (by kernel_rfl) (by kernel_rfl) (by kernel_rfl) (by kernel_rfl) (by kernel_rfl) (fun _ _ _ h=>h) (Or.inl ⟨by rfl,?_⟩) (by assumption) ?_;rotate_left;(focus (intro w hSw;(try dsimp only at hSw);(try obtain⟨hSw1,hSw2,hSw3⟩:=hSw);go_simp<;>with_reducible rfl));(try simp only[Act.put,List.getElem_toArray,List.getElem_cons_zero,List.getElem_cons_succ,List.setIfInBounds_toArray,List.set_cons_zero,List.set_cons_succ])
 refine aI (i:=3) (v:=?_) rfl (by kernel_rfl) (by kernel_rfl) (by kernel_rfl) (by kernel_rfl) (by kernel_rfl) (fun _ _ _ h=>h) (Or.inl ⟨by rfl,?_⟩) (by assumption) ?_;rotate_left;(focus (intro w hSw;(try dsimp only at hSw);(try obtain⟨hSw1,hSw2,hSw3⟩:=hSw);go_simp<;>with_reducible rfl));(try simp only[Act.put,List.getElem_toArray,List.getElem_cons_zero,List.getElem_cons_succ,List.setIfInBounds_toArray,List.set_cons_zero,List.set_cons_succ])
 refine aI (i:=4) (v:=?_) rfl (by kernel_rfl) (by kernel_rfl) (by kernel_rfl) (by kernel_rfl) (by kernel_rfl) (fun _ _ _ h=>h) (Or.inl ⟨by rfl,?_⟩) (by assumption) ?_;rotate_left;(focus (intro w hSw;(try dsimp only at hSw);(try obtain⟨hSw1,hSw2,hSw3⟩:=hSw);go_simp<;>with_reducible rfl));(try simp only[Act.put,List.getElem_toArray,List.getElem_cons_zero,List.getElem_cons_succ,List.setIfInBounds_toArray,List.set_cons_zero,List.set_cons_succ])
 refine aI (i:=5) (v:=?_) rfl (by kernel_rfl) (by kernel_rfl) (by kernel_rfl) (by kernel_rfl) (by kernel_rfl) (fun _ _ _ h=>h) (Or.inl ⟨by rfl,?_⟩) (by assumption) ?_;rotate_left;(focus (intro w hSw;(try dsimp only at hSw);(try obtain⟨hSw1,hSw2,hSw3⟩:=hSw);go_simp<;>with_reducible rfl));(try simp only[Act.put,List.getElem_toArray,List.getElem_cons_zero,List.getElem_cons_succ,List.setIfInBounds_toArray,List.set_cons_zero,List.set_cons_succ])
 refine aI (i:=6) (v:=?_) rfl (by kernel_rfl) (by kernel_rfl) (by kernel_rfl) (by kernel_rfl) (by kernel_rfl) (fun _ _ _ h=>h) (Or.inl ⟨by rfl,?_⟩) (by assumption) ?_;rotate_left;(focus (intro w hSw;(try dsimp only at hSw);(try obtain⟨hSw1,hSw2,hSw3⟩:=hSw);go_simp<;>with_reducible rfl));(try simp only[Act.put,List.getElem_toArray,List.getElem_cons_zero,List.getElem_cons_succ,List.setIfInBounds_toArray,List.set_cons_zero,List.set_cons_succ])
 refine aI (i:=7) (v:=?_) rfl (by kernel_rfl) (by kernel_rfl) (by kernel_rfl) (by kernel_rfl) (by kernel_rfl) (fun _ _ _ h=>h) (Or.inl ⟨by rfl,?_⟩) (by assumption) ?_;rotate_left;(focus (intro w hSw;(try dsimp only at hSw);(try obtain⟨hSw1,hSw2,hSw3⟩:=hSw);go_simp<;>with_reducible rfl));(try simp only[Act.put,List.getElem_toArray,List.getElem_cons_zero,List.getElem_cons_succ,List.setIfInBounds_toArray,List.set_cons_zero,List.set_cons_succ])
 refine aI (i:=8) (v:=?_) rfl (by kernel_rfl) (by kernel_rfl) (by kernel_rfl) (by kernel_rfl) (by kernel_rfl) (fun _ _ _ h=>h) (Or.inl ⟨by rfl,?_⟩) (by assumption) ?_;rotate_left;(focus (intro w hSw;(try dsimp only at hSw);(try obtain⟨hSw1,hSw2,hSw3⟩:=hSw);go_simp<;>with_reducible rfl));(try simp only[Act.put,List.getElem_toArray,List.getElem_cons_zero,List.getElem_cons_succ,List.setIfInBounds_toArray,List.set_cons_zero,List.set_cons_succ])
 refine aI (i:=9) (v:=?_) rfl (by kernel_rfl) (by kernel_rfl) (by kernel_rfl) (by kernel_rfl) (by kernel_rfl) (fun _ _ _ h=>h) (Or.inl ⟨by rfl,?_⟩) (by assumption) ?_;rotate_left;(focus (intro w hSw;(try dsimp only at hSw);(try obtain⟨hSw1,hSw2,hSw3⟩:=hSw);go_simp<;>with_reducible rfl));(try simp only[Act.put,List.getElem_toArray,List.getElem_cons_zero,List.getElem_cons_succ,List.setIfInBounds_toArray,List.set_cons_zero,List.set_cons_succ])
 refine aI (i:=10) (v:=?_) rfl (by kernel_rfl) (by kernel_rfl) (by kernel_rfl) (by kernel_rfl) (by kernel_rfl) (fun _ _ _ h=>h) (Or.inl ⟨by rfl,?_⟩) (by assumption) ?_;rotate_left;(focus (intro w hSw;(try dsimp only at hSw);(try obtain⟨hSw1,hSw2,hSw3⟩:=hSw);go_simp<;>with_reducible rfl));(try simp only[Act.put,List.getElem_toArray,List.getElem_cons_zero,List.getElem_cons_succ,List.setIfInBounds_toArray,List.set_cons_zero,List.set_cons_succ])
 refine aI (i:=11) (v:=?_) rfl (by kernel_rfl) (by kernel_rfl) (by kernel_rfl) (by kernel_rfl) (by kernel_rfl) (fun _ _ _ h=>h) (Or.inl ⟨by rfl,?_⟩) (by assumption) ?_;rotate_left;(focus (intro w hSw;(try dsimp only at hSw);(try obtain⟨hSw1,hSw2,hSw3⟩:=hSw);go_simp<;>with_reducible rfl));(try simp only[Act.put,List.getElem_toArray,List.getElem_cons_zero,List.getElem_cons_succ,List.setIfInBounds_toArray,List.set_cons_zero,List.set_cons_succ])
 refine iK (i:=12) (by kernel_rfl) rfl rfl 28 (.tmp 2) (.tmp 14) rfl (w.heap.size+1) (Gv nm x.nm (some ⟨b,off,none⟩) l.length cc) (by rfl) (by rfl) 28 _ HCB.out Tryz.Jf rfl (JQ _ _ _ _ _) (.inr rfl) ?_
 refine jL (by kernel_rfl) ?_ _
 show Only _ .normal _ _
 unfold Only
 have hZB:=setRow_heap W.drew (w.heap.size+1) _ (Gv nm x.nm (some ⟨b,off,none⟩) l.length cc) _ _ HCB.out
 have hSp:aj (fun k=>k=w.heap.size+1) W.drew (W.drew.setRow (w.heap.size+1) (Gv nm x.nm (some ⟨b,off,none⟩) l.length cc)):=aj.setRow (S:=fun k=>k=w.heap.size+1) (aj.refl _ W.drew) (p:=w.heap.size+1) (.inl rfl) _
 have HBF:Hid (Below w.heap.size w (W.drew.setRow (w.heap.size+1) (Gv nm x.nm (some ⟨b,off,none⟩) l.length cc))):=hid (HB.out.drew.trans (hSp.below (fun i hi=>by omega) HB.out.drew.size))
 generalize W.drew.setRow (w.heap.size+1) (Gv nm x.nm (some ⟨b,off,none⟩) l.length cc)=Z at hZB HBF ⊢
 have kZ:=aG hZB
 clear hSp hZB k0 q0 hS0
 go_wp2
 exact bodyPost_ret (v:=.agg (Gv nm x.nm (some ⟨b,off,none⟩) l.length cc)) (by simp[results,Tryz.results35,go_sem,kZ]) rfl ⟨rfl,HBF.out⟩
theorem zD {S:Nat→Prop} {w:World} {t:Tb} {aa:Option Addr} {nn cc:Nat} (h:bP 4 iE S w t.cols (.slice aa nn cc)) {nm:List UInt8} (hx:qh t.cols t.pr.toNat=nm):jK S w (bT t) [.int .i64 1,.string (ah t.nm),.slice aa nn cc,.string (ah nm),.slice none 0 0,.slice none 0 0,.slice none 0 0,.string ⟨#[]⟩,.slice none 0 0,.slice none 0 0,.slice none 0 0,.slice none 0 0,.bool false,.int .i64 (-1)]:=by
 have n:bg S w [] (.slice none 0 0):=.nil none 0 (by unfold maxLen;omega)
 refine ⟨aa,none,none,none,none,none,none,none,nn,0,0,0,0,0,0,0,cc,0,0,0,0,0,0,0,?_,h,bP.nil,bP.nil,bP.nil,n,n,n,n⟩
 rw[← hx]
 rfl
def KQ (t:Tb):Prop:=t.nm.length≤9223372036854775807∧∀c∈t.cols,c.nm.length≤9223372036854775807
theorem KQ.s {t:Tb} (h:KQ t):yc (bT t):=by
 refine ⟨h.1,?_,Nat.zero_le _,(by show (-1:Int)≤_;decide),h.2,(fun x hx=>by cases hx),(fun x hx=>by cases hx),(fun x hx=>by cases hx),(fun x hx=>by cases hx),(fun x hx=>by cases hx),(fun x hx=>by cases hx),(fun x hx=>by cases hx)⟩
 show (qh t.cols t.pr.toNat).length≤_
 unfold qh
 cases hc:t.cols[t.pr.toNat]? with
 | none=>simp
 | some c=>exact h.2 c (List.mem_of_getElem? hc)
theorem ShT.rg {t:Tb} (h:ShT t):KQ t:=⟨by have:=h.1;omega,fun c hc=>by have:=h.2.2 c hc;omega⟩
theorem Du (S T:Nat→Prop) (xs ys:List Co) (v u:Value) (w:World) (hv:bP 4 iE S w xs v) (hu:bP 4 iE T w ys u) (hx:xs≠[]) (hy:ys≠[]) :
  Calls Tryz.prog 57 #[v,u] w fun e w'=>e = .returned (.bool (Lib.allEq qP xs ys))∧Below w.heap.size w w':=by
 obtain⟨b1,o1,c1,rfl,h1,h2,_,_,hel1⟩:=jH hv hx
 obtain⟨b2,o2,c2,rfl,h3,h4,_,_,hel2⟩:=jH hu hy
 unfold maxLen at h2 h4
 refine (AnyQ.slices_Equal JG 4 Tryz.isAgg37 Tryz.sizeOf37 lH (fun _=>rfl) qP I5 b1 o1 xs.length c1 b2 o2 ys.length c2 xs ys w (Nat.le_refl _) (Nat.le_refl _) (by omega) (by omega) (fun j hj i u hu=>hel1 w (Below.refl _ _) j xs[j]! (by rw[getElem!_pos xs j hj];exact List.getElem?_eq_getElem hj) i u hu) (fun j hj i u hu=>hel2 w (Below.refl _ _) j ys[j]! (by rw[getElem!_pos ys j hj];exact List.getElem?_eq_getElem hj) i u hu)).mono ?_
 rintro e w' ⟨rfl,q,rfl⟩
 rw[List.take_length,List.take_length]
 exact⟨rfl,below_drewN (Below.refl _ _) q⟩
theorem Ew {s:St} (h:(bY s).2=0):(bY s).1.cols≠[]:=by
 obtain⟨hk,hr,hn,hi,e⟩:=mH h
 rw[e]
 intro e2
 have:=fA s.cols (dQ s.cols s.prim)
 dsimp only at e2
 rw[e2] at this
 simp at this
 omega
theorem Dp (S:Nat→Prop) (t:Tb) (cs:List Value) (w:World) (hT:mh w) (hR:KQ t) (h:Aq S w t cs) :
  Calls Tryz.prog 33 #[.agg cs.toArray] w fun e w'=>e = .returned (.bool (pX t))∧Below w.heap.size w w':=by
 obtain⟨aa,nn,cc,rfl,hsl⟩:=h
 have hnn:nn=t.cols.length:=by obtain⟨_,_,hf⟩:=hsl.form;simp only[Value.slice.injEq] at hf;exact hf.2.1
 obtain⟨W,hW,hbW,hzW,hcW⟩:=bF w (.cells #[.string (ah t.nm),.slice aa nn cc,.int .i64 t.pr] 31)
 have k0:=aS hcW
 have HB:=hid hbW
 have HCW:=hid hcW
 by_cases hp:0≤t.pr∧t.pr<t.cols.length
 ·obtain⟨p,hpp⟩:=Int.eq_ofNat_of_zero_le hp.1
  have hpl:p<t.cols.length:=by omega
  obtain⟨x,hx⟩:∃x,t.cols[p]?=some x:=⟨_,List.getElem?_eq_getElem hpl⟩
  have hslW:=hsl.to (T:=S) (by decide) (R:=fun _=>False) (aj.aC hbW) (fun b hb _=>⟨id,hb⟩) (fun _ _ e=>e)
  have HCR:=hid (sJ S t.nm t.cols aa nn cc p x W hslW hx)
  have hnm:qh t.cols t.pr.toNat=x.nm:=by rw[hpp,Int.toNat_natCast,tT hpl,(List.getElem?_eq_some_iff.1 hx).2]
  have HMK:Hid (∀V,Below w.heap.size w V→Calls Tryz.prog 10 #[.agg (Gv t.nm x.nm aa nn cc)] V fun e w'=>∃ds:List Value,e = .returned (.tuple #[.agg ds.toArray,.int .i64 (bY (bT t)).2])∧E9 V.heap.size w' (bY (bT t)).1 ds∧Below V.heap.size V w'):=hid (fun V hV=>qK (fun _=>True) (bT t) _ V (hT.on hV) hR.s ((zD hsl hnm).on hV))
  have hmay:pX t=(decide ((bY (bT t)).2=0)&&Lib.allEq qP (bY (bT t)).1.cols t.cols):=by unfold pX;rw[decide_eq_true hp,Bool.true_and]
  have hmc:=Ew (s:=bT t)
  have HSL:=hid hsl
  have hne:t.cols≠[]:=fun e=>by rw[e] at hpl;exact absurd hpl (Nat.not_lt_zero _)
  have h1 : ¬(p:Int)<0:=by omega
  have h2:(p:Int)<(t.cols.length:Int):=by omega
  have h3 : ¬(t.cols.length:Int)≤(p:Int):=by omega
  rw[hmay]
  generalize bY (bT t)=M at HMK hmc ⊢
  obtain⟨N,e0⟩:=M
  dsimp only at HMK hmc ⊢
  obtain⟨R,hR0⟩:∃R,(decide (e0=0)&&Lib.allEq qP N.cols t.cols)=R:=⟨_,rfl⟩
  rw[hR0]
  have HR0:=hid hR0
  clear hR0
  rw[hpp] at hW HCW k0 ⊢
  clear hmay hnm hx hslW hT hR hbW hcW hp hpp hsl
  subst hnn
  go_enter Tryz.func33,Tryz.ntmps33
  go_wp2_with fail
  try rw[hW]
  refine HCR.out.mono ?_
  rintro e w1 ⟨rfl,hb1⟩
  have hB1:=HB.out.trans (hb1.mono HB.out.size)
  have HM1:=hid (HMK.out w1 hB1)
  have HB1:=hid hB1
  have hs1:=hb1.size
  have HC1:=hid ((hb1.block w.heap.size hzW).trans HCW.out)
  clear hb1 hB1 HCR HMK hW k0
  go_wp2_with fail
  refine HM1.out.mono ?_
  rintro e w2 ⟨ds,rfl,⟨a2,n2,c2,rfl,hown⟩,hb2⟩
  have hs2:=hb2.size
  obtain⟨U,hU,hbU,hzU,hcU⟩:=bF w2 (.cells #[.string (ah N.nm),.slice a2 n2 c2,.int .i64 N.pr] 31)
  have hBU:Below w.heap.size w U:=(HB1.out.trans (hb2.mono HB1.out.size)).trans (hbU.mono (HB1.out.trans (hb2.mono HB1.out.size)).size)
  have kU:=aS hcU
  have kT:=aS ((hbU.block w.heap.size (by omega)).trans ((hb2.block w.heap.size (by omega)).trans HC1.out))
  have HBU:=hid hBU
  have hownU:=(mq hown).to (T:=fun _=>True) (by decide) (R:=fun _=>False) (aj.aC hbU) (fun b hb _=>⟨id,trivial⟩) (fun _ _ e=>e)
  have hslU:=HSL.out.to (T:=S) (by decide) (R:=fun _=>False) (aj.aC hBU) (fun b hb _=>⟨id,hb⟩) (fun _ _ e=>e)
  by_cases he:e0=0
  ·subst he
   have HEQ:=hid (Du _ S N.cols t.cols _ _ U hownU hslU (hmc rfl) hne)
   rw[decide_eq_true rfl,Bool.true_and] at HR0
   rw[HR0.out] at HEQ
   clear hownU hslU hbU hb2 hcU hBU hown HM1
   go_wp2_with fail
   try rw[hU]
   refine HEQ.out.mono ?_
   rintro e w3 ⟨rfl,hb3⟩
   have HB3:=hid (HBU.out.trans (hb3.mono HBU.out.size))
   clear hb3 HEQ
   go_wp2
   go_ret
   exact⟨rfl,HB3.out⟩
  ·have he':(e0==0)=false:=by simpa using he
   rw[decide_eq_false he,Bool.false_and] at HR0
   obtain rfl:=HR0.out
   clear hownU hslU hbU hb2 hcU hBU hown HM1 he
   go_wp2
   try rw[hU]
   go_ret
   exact⟨rfl,HBU.out⟩
 ·have hm:pX t=false:=by unfold pX;rw[decide_eq_false hp,Bool.false_and]
  rw[hm]
  subst hnn
  generalize t.cols.length=L at *
  generalize t.pr=q at *
  clear hm hT hR hsl hbW hcW HCW
  by_cases h1:q<0
  ·clear hp
   go_enter Tryz.func33,Tryz.ntmps33
   go_wp2
   try rw[hW]
   go_ret
   exact⟨rfl,HB.out⟩
  ·have h2 : ¬q<(L:Int):=fun h=>hp ⟨by omega,h⟩
   have h3:(L:Int)≤q:=by omega
   clear hp
   go_enter Tryz.func33,Tryz.ntmps33
   go_wp2
   try rw[hW]
   go_ret
   exact⟨rfl,HB.out⟩
theorem Gw {t:Tb} (h:pX t=true):0≤t.pr∧t.pr<t.cols.length:=by
 unfold pX at h
 rw[Bool.and_eq_true,decide_eq_true_eq] at h
 exact h.1
theorem uR {s:St} (h:(bY s).2=0):ShT (bY s).1:=by
 obtain⟨hk,hr,hn,hi,e⟩:=mH h
 have:=(jJ hk hr 0).1
 rw[e]
 refine ⟨this.1,by show (keyed _ _).length≤8;rw[fA];exact this.2.1,fun c hc=>?_⟩
 obtain⟨d,hd,e1,_⟩:=wP hc
 rw[e1]
 exact this.2.2 d hd
theorem uE (S:Nat→Prop) (t:Tb) (cs:List Value) (w:World) (hT:mh w) (hR:KQ t) (h:Aq S w t cs) :
  Calls Tryz.prog 14 #[.agg cs.toArray] w fun e w'=>e = .returned (.tuple #[.string (ah (nD t).1),.int .i64 (nD t).2])∧Below w.heap.size w w':=by
 have hh:=h
 obtain⟨aa,nn,cc,rfl,hsl⟩:=h
 obtain⟨W,hW,hbW,hzW,hcW⟩:=bF w (.cells #[.string (ah t.nm),.slice aa nn cc,.int .i64 t.pr] 31)
 have k0:=aS hcW
 have HB:=hid hbW
 have HCW:=hid hcW
 have HMB:=hid (Dp S t _ W (hT.on hbW) hR (hh.on hbW))
 cases hm:pX t with
 |
  false =>
  have e:nD t=([],4):=by unfold nD;rw[hm];rfl
  rw[e]
  rw[hm] at HMB
  clear e hm hT hR hh hsl hbW hcW
  go_enter Tryz.func14,Tryz.ntmps14
  go_wp2_with fail
  try rw[hW]
  refine HMB.out.mono ?_
  rintro e w1 ⟨rfl,hb1⟩
  have HB1:=hid (HB.out.trans (hb1.mono HB.out.size))
  clear hb1 HMB
  go_wp2
  exact bodyPost_ret (v:=.tuple #[.string ⟨#[]⟩,.int .i64 4]) (by simp[results,Tryz.results14,go_sem]) rfl ⟨rfl,HB1.out⟩
 |
  true =>
  have e:nD t=jN [bT t]:=by unfold nD;rw[if_pos hm]
  rw[e]
  rw[hm] at HMB
  obtain⟨p,hpp⟩:=Int.eq_ofNat_of_zero_le (Gw hm).1
  have hpl:p<t.cols.length:=by have:=(Gw hm).2;omega
  obtain⟨x,hx⟩:∃x,t.cols[p]?=some x:=⟨_,List.getElem?_eq_getElem hpl⟩
  have hnm:qh t.cols t.pr.toNat=x.nm:=by rw[hpp,Int.toNat_natCast,tT hpl,(List.getElem?_eq_some_iff.1 hx).2]
  have hmk:=mH (s:=bT t) (by rw[yC hm])
  have HCR:Hid (∀V,Below w.heap.size w V→Calls Tryz.prog 35 #[.agg #[.string (ah t.nm),.slice aa nn cc,.int .i64 (p:Int)]] V fun e w'=>e = .returned (.agg (Gv t.nm x.nm aa nn cc))∧Below V.heap.size V w'):=hid (fun V hV=>sJ S t.nm t.cols aa nn cc p x V (hsl.to (T:=S) (by decide) (R:=fun _=>False) (aj.aC hV) (fun b hb _=>⟨id,hb⟩) (fun _ _ e=>e)) hx)
  have HPS:Hid (∀V,Below w.heap.size w V→Calls Tryz.prog 34 #[.slice (some ⟨V.heap.size,0,none⟩) 1 1] (V.alloc (.cells (Gv t.nm x.nm aa nn cc) 28)) fun e w'=>e = .returned (.tuple #[.string (ah (jN [bT t]).1),.int .i64 (jN [bT t]).2])∧Below w.heap.size w w'):=hid (fun V hV=>by
   obtain⟨U,hU,hbU,hzU,hcU⟩:=bF V (.cells (Gv t.nm x.nm aa nn cc) 28)
   rw[hU]
   have hBU:=hV.trans (hbU.mono hV.size)
   have hs1:=Cv (T:=fun _=>True) (g:=V.heap.size) hcU ((zD hsl hnm).on hBU) rfl trivial
   exact (mo (fun _=>True) [bT t] _ U (hT.on hBU) (fun y hy=>by rw[List.mem_singleton.1 hy];rfl) (fun y hy=>by rw[List.mem_singleton.1 hy];exact hR.s) hs1 (fun _ y hy hr e he=>by
    rw[List.mem_singleton.1 hy] at hr he
    rw[uJ rfl hr] at he
    cases he)).mono fun e w' ⟨h1,h2⟩=>⟨h1,hBU.trans (h2.mono hBU.size)⟩)
  generalize jN [bT t]=R at HPS ⊢
  obtain⟨r1,r2⟩:=R
  dsimp only at HPS ⊢
  rw[hpp] at hW HCW k0 HMB ⊢
  clear e hm hT hR hh hsl hbW hcW hmk hnm hx hpl hpp
  go_enter Tryz.func14,Tryz.ntmps14
  go_wp2_with fail
  try rw[hW]
  refine HMB.out.mono ?_
  rintro e w1 ⟨rfl,hb1⟩
  have hB1:=HB.out.trans (hb1.mono HB.out.size)
  have k1:=aS ((hb1.block w.heap.size hzW).trans HCW.out)
  have HC1:=hid (HCR.out w1 hB1)
  have HB1:=hid hB1
  clear hb1 hB1 HMB HCR hW k0
  go_wp2_with fail
  refine HC1.out.mono ?_
  rintro e w2 ⟨rfl,hb2⟩
  have hB2:=HB1.out.trans (hb2.mono HB1.out.size)
  have HP2:=hid (HPS.out w2 hB2)
  clear hb2 hB2 HC1 HPS
  go_wp2_with fail
  refine HP2.out.mono ?_
  rintro e w3 ⟨rfl,hb3⟩
  have HB3:=hid hb3
  clear hb3 HP2
  go_wp2
  exact bodyPost_ret (v:=.tuple #[.string (ah r1),.int .i64 r2]) (by simp[results,Tryz.results14,go_sem]) rfl ⟨rfl,HB3.out⟩
end Go.Proofs.YtaaggohjmhifbaaGreatDoor
