/- Packed for the hand-in: CRMay -/
import Derived.Test.YtfeglkleoijlaaaGreatDoorZ32
import Derived.Test.YtfeglkleoijlaaaGreatDoorZ29
import Derived.Test.YtfeglkleoijlaaaGreatDoorZ45
import Derived.Test.YtfeglkleoijlaaaGreatDoorZ46
namespace Go.Proofs.YtfeglkleoijlaaaGreatDoor
open Go.RowKit Go.Shelf Go.Lib
set_option linter.unusedSimpArgs false
set_option linter.unusedVariables false
set_option maxRecDepth 20000
set_option maxHeartbeats 8000000
theorem CY {t:Tb} (hp:0≤t.pr∧t.pr<t.cols.length):gI t=(decide ((bP (bU t)).2=0)&&qC t (bP (bU t)).1):=by
 by_cases h0:(bP (bU t)).2=0
 ·rw[decide_eq_true h0,Bool.true_and]
  by_cases hm:gI t=true
  ·rw[hm,qO hm,(sJ t t).2 rfl]
  ·have hm':gI t=false:=by simpa using hm
   rw[hm']
   cases hs:qC t (bP (bU t)).1 with
   | false=>rfl
   |
    true =>
    have e:=(sJ _ _).1 hs
    refine absurd ?_ hm
    unfold gI
    rw[decide_eq_true hp,decide_eq_true h0,← e,(gT _ _).2 rfl]
    rfl
 ·rw[decide_eq_false h0,Bool.false_and]
  unfold gI
  rw[decide_eq_false h0,Bool.false_and,Bool.and_false]
theorem Dq {P:Program} {a:Act} {oi:Oper} {x:Operand} {v:Value} (ki:oi.op = .assign x) (hx:a.eval x=v) (w:World):(execOp a.eval oi).run P w = .ok (.value v) w:=by
 unfold execOp
 simp only[ki,hx]
 rfl
abbrev EG:Array Value:=#[.int .i64 0,.string ⟨#[]⟩,.slice none 0 0,.string ⟨#[]⟩,.slice none 0 0,.slice none 0 0,.slice none 0 0,.string ⟨#[]⟩,.slice none 0 0,.slice none 0 0,.slice none 0 0,.slice none 0 0,.bool false,.int .i64 0]
theorem Br (S:Nat→Prop) (nm:List UInt8) (l:List Co) (aa:Option Addr) (nn cc:Nat) (p:Nat) (x:Co) (w:World) (h:aQ 4 gH S w l (.slice aa nn cc)) (hx:l[p]?=some x) :
  Calls Tryz.prog 86 #[.agg #[.string (aj nm),.slice aa nn cc,.int .i64 (p:Int)]] w fun e w'=>e = .returned (.tuple #[.agg (uX nm x.nm aa nn cc),.bool true])∧Below w.heap.size w w':=by
 have hp:p<l.length:=(List.getElem?_eq_some_iff.1 hx).1
 obtain⟨b,off,c,hv,hlc,hcm,hS,hlt0,hel⟩:=fq h (fun e=>by rw[e] at hp;exact absurd hp (Nat.not_lt_zero _))
 simp only[Value.slice.injEq] at hv
 obtain⟨rfl,rfl,rfl⟩:=hv
 unfold maxLen at hcm
 obtain⟨W,hW,hbW,hzW,hcA,hcB⟩:=two w (.cells #[.string (aj nm),.slice (some ⟨b,off,none⟩) l.length cc,.int .i64 (p:Int)] 42) (.cells #[.int .i64 0,.string ⟨#[]⟩,.slice none 0 0,.string ⟨#[]⟩,.slice none 0 0,.slice none 0 0,.slice none 0 0,.string ⟨#[]⟩,.slice none 0 0,.slice none 0 0,.slice none 0 0,.slice none 0 0,.bool false,.int .i64 0] 29)
 have kA:=aH (w:=W) hcA
 have HEL:=hid (hel W.drew hbW.drew p x hx 0 _ rfl)
 have hp':(p:Int)<(l.length:Int):=by omega
 have hp0 : ¬(p:Int)<0:=by omega
 have hp1 : ¬(l.length:Int)≤(p:Int):=by omega
 have hp2:(0:Int)≤(p:Int):=by omega
 have HB:=hid hbW
 have HCA:=hid hcA
 have HCB:=hid hcB
 clear hel hcA hcB hbW h hx
 go_enter Tryz.func86,Tryz.ntmps86
 go_wp2_with fail
 try rw[hW]
 clear hW kA
 have k0:=aH (w:=W.drew) HCA.out
 have q0:=HEL.out
 rw[Nat.add_zero] at q0
 have hZB:=setRow_heap W.drew (w.heap.size+1) _ (uX nm x.nm (some ⟨b,off,none⟩) l.length cc) _ _ HCB.out
 have hSp:aA (fun k=>k=w.heap.size+1) W.drew (W.drew.setRow (w.heap.size+1) (uX nm x.nm (some ⟨b,off,none⟩) l.length cc)):=aA.setRow (S:=fun k=>k=w.heap.size+1) (aA.refl _ W.drew) (p:=w.heap.size+1) (.inl rfl) _
 have HBF:Hid (Below w.heap.size w (W.drew.setRow (w.heap.size+1) (uX nm x.nm (some ⟨b,off,none⟩) l.length cc))):=hid (HB.out.drew.trans (hSp.below (fun i hi=>by omega) HB.out.drew.size))
 have hS0:(fun V:World=>V.cell? ⟨w.heap.size,0,none⟩=some (.string (aj nm))∧V.cell? ⟨w.heap.size,1,none⟩=some (.slice (some ⟨b,off,none⟩) l.length cc)∧V.cell? ⟨w.heap.size,2,none⟩=some (.int .i64 (p:Int))∧V.cell? ⟨b,off+p*4,none⟩=some (.string (aj x.nm))) W.drew:=⟨k0.1,k0.2.1,k0.2.2.1,q0⟩
 have hS1:(fun V:World=>V.cell? ⟨w.heap.size,0,none⟩=some (.string (aj nm))∧V.cell? ⟨w.heap.size,1,none⟩=some (.slice (some ⟨b,off,none⟩) l.length cc)∧V.cell? ⟨w.heap.size,2,none⟩=some (.int .i64 (p:Int))∧V.cell? ⟨b,off+p*4,none⟩=some (.string (aj x.nm))) (W.drew.setRow (w.heap.size+1) (uX nm x.nm (some ⟨b,off,none⟩) l.length cc)):=⟨hSp.cell k0.1 (fun e=>by have:w.heap.size=w.heap.size+1:=e;omega),hSp.cell k0.2.1 (fun e=>by have:w.heap.size=w.heap.size+1:=e;omega),hSp.cell k0.2.2.1 (fun e=>by have:w.heap.size=w.heap.size+1:=e;omega),hSp.cell q0 (fun e=>by have:b=w.heap.size+1:=e;omega)⟩
 clear k0 q0 hSp
 refine iE (fun V:World=>V.cell? ⟨w.heap.size,0,none⟩=some (.string (aj nm))∧V.cell? ⟨w.heap.size,1,none⟩=some (.slice (some ⟨b,off,none⟩) l.length cc)∧V.cell? ⟨w.heap.size,2,none⟩=some (.int .i64 (p:Int))∧V.cell? ⟨b,off+p*4,none⟩=some (.string (aj x.nm))) 12 (by kernel_rfl) ?_
 refine aI (i:=0) (v:=?_) rfl (by kernel_rfl) (by kernel_rfl) (by kernel_rfl) (by kernel_rfl) (by kernel_rfl) (fun _ _ _ h=>h) (Or.inl ⟨by rfl,?_⟩) (by assumption) ?_;rotate_left;(focus (intro w hSw;(try dsimp only at hSw);(try obtain⟨hSw1,hSw2,hSw3⟩:=hSw);go_simp<;>with_reducible rfl));(try simp only[Act.put,List.getElem_toArray,List.getElem_cons_zero,List.getElem_cons_succ,List.setIfInBounds_toArray,List.set_cons_zero,List.set_cons_succ])
 refine aI (i:=1) (v:=?_) rfl (by kernel_rfl) (by kernel_rfl) (by kernel_rfl) (by kernel_rfl) (by kernel_rfl) (fun _ _ _ h=>h) (Or.inl ⟨by rfl,?_⟩) (by assumption) ?_;rotate_left;(focus (intro w hSw;(try dsimp only at hSw);(try obtain⟨hSw1,hSw2,hSw3⟩:=hSw);go_simp<;>with_reducible rfl));(try simp only[Act.put,List.getElem_toArray,List.getElem_cons_zero,List.getElem_cons_succ,List.setIfInBounds_toArray,List.set_cons_zero,List.set_cons_succ])
 refine aI (i:=2) (v:=?_) rfl (by kernel_rfl) (by kernel_rfl) (by kernel_rfl) (by kernel_rfl) (by kernel_rfl) (fun _ _ _ h=>h) (Or.inl ⟨by rfl,?_⟩) (by assumption) ?_;rotate_left;(focus (intro w hSw;(try dsimp only at hSw);(try obtain⟨hSw1,hSw2,hSw3⟩:=hSw);go_simp<;>with_reducible rfl));(try simp only[Act.put,List.getElem_toArray,List.getElem_cons_zero,List.getElem_cons_succ,List.setIfInBounds_toArray,List.set_cons_zero,List.set_cons_succ])
 refine aI (i:=3) (v:=?_) rfl (by kernel_rfl) (by kernel_rfl) (by kernel_rfl) (by kernel_rfl) (by kernel_rfl) (fun _ _ _ h=>h) (Or.inl ⟨by rfl,?_⟩) (by assumption) ?_;rotate_left;(focus (intro w hSw;(try dsimp only at hSw);(try obtain⟨hSw1,hSw2,hSw3⟩:=hSw);go_simp<;>with_reducible rfl));(try simp only[Act.put,List.getElem_toArray,List.getElem_cons_zero,List.getElem_cons_succ,List.setIfInBounds_toArray,List.set_cons_zero,List.set_cons_succ])
 refine aI (i:=4) (v:=?_) rfl (by kernel_rfl) (by kernel_rfl) (by kernel_rfl) (by kernel_rfl) (by kernel_rfl) (fun _ _ _ h=>h) (Or.inl ⟨by rfl,?_⟩) (by assumption) ?_;rotate_left;(focus (intro w hSw;(try dsimp only at hSw);(try obtain⟨hSw1,hSw2,hSw3⟩:=hSw);go_simp<;>with_reducible rfl));(try simp only[Act.put,List.getElem_toArray,List.getElem_cons_zero,List.getElem_cons_succ,List.setIfInBounds_toArray,List.set_cons_zero,List.set_cons_succ])
 refine aI (i:=5) (v:=?_) rfl (by kernel_rfl) (by kernel_rfl) (by kernel_rfl) (by kernel_rfl) (by kernel_rfl) (fun _ _ _ h=>h) (Or.inl ⟨by rfl,?_⟩) (by assumption) ?_;rotate_left;(focus (intro w hSw;(try dsimp only at hSw);(try obtain⟨hSw1,hSw2,hSw3⟩:=hSw);go_simp<;>with_reducible rfl));(try simp only[Act.put,List.getElem_toArray,List.getElem_cons_zero,List.getElem_cons_succ,List.setIfInBounds_toArray,List.set_cons_zero,List.set_cons_succ])
 refine aI (i:=6) (v:=?_) rfl (by kernel_rfl) (by kernel_rfl) (by kernel_rfl) (by kernel_rfl) (by kernel_rfl) (fun _ _ _ h=>h) (Or.inl ⟨by rfl,?_⟩) (by assumption) ?_;rotate_left;(focus (intro w hSw;(try dsimp only at hSw);(try obtain⟨hSw1,hSw2,hSw3⟩:=hSw);go_simp<;>with_reducible rfl));(try simp only[Act.put,List.getElem_toArray,List.getElem_cons_zero,List.getElem_cons_succ,List.setIfInBounds_toArray,List.set_cons_zero,List.set_cons_succ])
 refine aI (i:=7) (v:=?_) rfl (by kernel_rfl) (by kernel_rfl) (by kernel_rfl) (by kernel_rfl) (by kernel_rfl) (fun _ _ _ h=>h) (Or.inl ⟨by rfl,?_⟩) (by assumption) ?_;rotate_left;(focus (intro w hSw;(try dsimp only at hSw);(try obtain⟨hSw1,hSw2,hSw3⟩:=hSw);go_simp<;>with_reducible rfl));(try simp only[Act.put,List.getElem_toArray,List.getElem_cons_zero,List.getElem_cons_succ,List.setIfInBounds_toArray,List.set_cons_zero,List.set_cons_succ])
 refine aI (i:=8) (v:=?_) rfl (by kernel_rfl) (by kernel_rfl) (by kernel_rfl) (by kernel_rfl) (by kernel_rfl) (fun _ _ _ h=>h) (Or.inl ⟨by rfl,?_⟩) (by assumption) ?_;rotate_left;(focus (intro w hSw;(try dsimp only at hSw);(try obtain⟨hSw1,hSw2,hSw3⟩:=hSw);go_simp<;>with_reducible rfl));(try simp only[Act.put,List.getElem_toArray,List.getElem_cons_zero,List.getElem_cons_succ,List.setIfInBounds_toArray,List.set_cons_zero,List.set_cons_succ])
 refine aI (i:=9) (v:=?_) rfl (by kernel_rfl) (by kernel_rfl) (by kernel_rfl) (by kernel_rfl) (by kernel_rfl) (fun _ _ _ h=>h) (Or.inl ⟨by rfl,?_⟩) (by assumption) ?_;rotate_left;(focus (intro w hSw;(try dsimp only at hSw);(try obtain⟨hSw1,hSw2,hSw3⟩:=hSw);go_simp<;>with_reducible rfl));(try simp only[Act.put,List.getElem_toArray,List.getElem_cons_zero,List.getElem_cons_succ,List.setIfInBounds_toArray,List.set_cons_zero,List.set_cons_succ])
 refine aI (i:=10) (v:=?_) rfl (by kernel_rfl) (by kernel_rfl) (by kernel_rfl) (by kernel_rfl) (by kernel_rfl) (fun _ _ _ h=>h) (Or.inl ⟨by rfl,?_⟩) (by assumption) ?_;rotate_left;(focus (intro w hSw;(try dsimp only at hSw);(try obtain⟨hSw1,hSw2,hSw3⟩:=hSw);go_simp<;>with_reducible rfl));(try simp only[Act.put,List.getElem_toArray,List.getElem_cons_zero,List.getElem_cons_succ,List.setIfInBounds_toArray,List.set_cons_zero,List.set_cons_succ])
 refine aI (i:=11) (v:=?_) rfl (by kernel_rfl) (by kernel_rfl) (by kernel_rfl) (by kernel_rfl) (by kernel_rfl) (fun _ _ _ h=>h) (Or.inl ⟨by rfl,?_⟩) (by assumption) ?_;rotate_left;(focus (intro w hSw;(try dsimp only at hSw);(try obtain⟨hSw1,hSw2,hSw3⟩:=hSw);go_simp<;>with_reducible rfl));(try simp only[Act.put,List.getElem_toArray,List.getElem_cons_zero,List.getElem_cons_succ,List.setIfInBounds_toArray,List.set_cons_zero,List.set_cons_succ])
 refine dU (i:=12) (by kernel_rfl) rfl rfl 29 (.tmp 2) (.tmp 27) rfl (w.heap.size+1) (uX nm x.nm (some ⟨b,off,none⟩) l.length cc) (by rfl) (by rfl) 29 _ HCB.out Tryz.oC rfl (Ca _ _ _ _ _) (.inr rfl) ?_
 simp only[Act.put,List.getElem_toArray,List.getElem_cons_zero,List.getElem_cons_succ,List.setIfInBounds_toArray,List.set_cons_zero,List.set_cons_succ]
 refine fZ (i:=13) (by kernel_rfl) rfl rfl (aT (Dq rfl (by rfl) _) ⟨.inl hS1,?_⟩)
 simp only[Act.put,List.getElem_toArray,List.getElem_cons_zero,List.getElem_cons_succ,List.setIfInBounds_toArray,List.set_cons_zero,List.set_cons_succ]
 refine fC (by kernel_rfl) ?_ _
 show Only _ .normal _ _
 unfold Only
 generalize W.drew.setRow (w.heap.size+1) (uX nm x.nm (some ⟨b,off,none⟩) l.length cc)=Z at hZB HBF ⊢
 have kZ:=ay hZB
 clear hZB hS0 hS1
 go_wp2
 exact bodyPost_ret (v:=.tuple #[.agg (uX nm x.nm (some ⟨b,off,none⟩) l.length cc),.bool true]) (by simp[results,Tryz.results86,go_sem,kZ]) rfl ⟨rfl,HBF.out⟩
theorem xP (nm:List UInt8) (aa:Option Addr) (L cc:Nat) (q:Int) (w:World) (h : ¬(0≤q∧q<(L:Int))) :
  Calls Tryz.prog 86 #[.agg #[.string (aj nm),.slice aa L cc,.int .i64 q]] w fun e w'=>e = .returned (.tuple #[.agg EG,.bool false])∧Below w.heap.size w w':=by
 obtain⟨W,hW,hbW,hzW,hcA,hcB⟩:=two w (.cells #[.string (aj nm),.slice aa L cc,.int .i64 q] 42) (.cells #[.int .i64 0,.string ⟨#[]⟩,.slice none 0 0,.string ⟨#[]⟩,.slice none 0 0,.slice none 0 0,.slice none 0 0,.string ⟨#[]⟩,.slice none 0 0,.slice none 0 0,.slice none 0 0,.slice none 0 0,.bool false,.int .i64 0] 29)
 have kA:=aH (w:=W) hcA
 have HCB:=hid hcB
 have hZB:=setRow_heap W (w.heap.size+1) _ EG _ _ hcB
 have hSp:aA (fun k=>k=w.heap.size+1) W (W.setRow (w.heap.size+1) EG):=aA.setRow (S:=fun k=>k=w.heap.size+1) (aA.refl _ W) (p:=w.heap.size+1) (.inl rfl) _
 have HBF:Hid (Below w.heap.size w (W.setRow (w.heap.size+1) EG)):=hid (hbW.trans (hSp.below (fun i hi=>by omega) hbW.size))
 have kZ:=ay hZB
 have hone:(EG:Array Value).all (·.oneCell')=true:=by simp[Value.oneCell']
 clear hbW hcA hcB hZB hSp
 by_cases h1:q<0
 ·clear h
  go_enter Tryz.func86,Tryz.ntmps86
  go_wp2_with (refine wpList_store_row rfl 29 (.tmp 2) (.tmp 15) rfl (w.heap.size+1) EG rfl rfl 29 _ HCB.out Tryz.oC rfl hone ?_)
  exact bodyPost_ret (v:=.tuple #[.agg EG,.bool false]) (by simp[results,Tryz.results86,go_sem,kZ]) rfl ⟨rfl,HBF.out⟩
 ·have h3:(L:Int)≤q:=by omega
  clear h
  go_enter Tryz.func86,Tryz.ntmps86
  go_wp2_with (refine wpList_store_row rfl 29 (.tmp 2) (.tmp 15) rfl (w.heap.size+1) EG rfl rfl 29 _ HCB.out Tryz.oC rfl hone ?_)
  exact bodyPost_ret (v:=.tuple #[.agg EG,.bool false]) (by simp[results,Tryz.results86,go_sem,kZ]) rfl ⟨rfl,HBF.out⟩
theorem DI (S:Nat→Prop) (t:Tb) (cs:List Value) (w:World) (hR:BA t) (h:dK S w t cs) :
  Calls Tryz.prog 43 #[.agg cs.toArray] w fun e w'=>e = .returned (.bool (gI t))∧Below w.heap.size w w':=by
 have hTE:=h
 obtain⟨aa,nn,cc,rfl,hsl⟩:=h
 have hnn:nn=t.cols.length:=by obtain⟨_,_,hf⟩:=hsl.form;simp only[Value.slice.injEq] at hf;exact hf.2.1
 obtain⟨W,hW,hbW,hzW,hcW⟩:=aL w (.cells #[.string (aj t.nm),.slice aa nn cc,.int .i64 t.pr] 42)
 have k0:=aH hcW
 have HB:=hid hbW
 have HCW:=hid hcW
 by_cases hp:0≤t.pr∧t.pr<t.cols.length
 ·obtain⟨p,hpp⟩:=Int.eq_ofNat_of_zero_le hp.1
  have hpl:p<t.cols.length:=by omega
  obtain⟨x,hx⟩:∃x,t.cols[p]?=some x:=⟨_,List.getElem?_eq_getElem hpl⟩
  have hslW:=hsl.to (T:=S) (by decide) (R:=fun _=>False) (aA.aC hbW) (fun b hb _=>⟨id,hb⟩) (fun _ _ e=>e)
  have HCR:=hid (Br S t.nm t.cols aa nn cc p x W hslW hx)
  have hnm:uS t.cols t.pr.toNat=x.nm:=by rw[hpp,Int.toNat_natCast,ug hpl,(List.getElem?_eq_some_iff.1 hx).2]
  have HMK:Hid (∀V,Below w.heap.size w V→Calls Tryz.prog 28 #[.agg (uX t.nm x.nm aa nn cc)] V fun e w'=>∃ds:List Value,e = .returned (.tuple #[.agg ds.toArray,.int .i64 (bP (bU t)).2])∧yR V.heap.size w' (bP (bU t)).1 ds∧Below V.heap.size V w'):=hid (fun V hV=>CZ (fun _=>True) (bU t) _ V (fun U hU=>Fv (fun _=>True) (bU t) _ U hR.s (((oQ hsl hnm).on hV).on hU) rfl) ((oQ hsl hnm).on hV))
  rw[CY hp]
  have HTE:=hid hTE
  generalize bP (bU t)=M at HMK ⊢
  obtain⟨N,e0⟩:=M
  dsimp only at HMK ⊢
  obtain⟨R,hR0⟩:∃R,(decide (e0=0)&&qC t N)=R:=⟨_,rfl⟩
  rw[hR0]
  have HR0:=hid hR0
  clear hR0
  rw[hpp] at hW HCW k0 HTE ⊢
  have hcr:=rfl (a:=uX t.nm x.nm aa nn cc)
  clear hnm hx hslW hR hbW hcW hp hsl hTE hcr
  subst hnn
  go_enter Tryz.func43,Tryz.ntmps43
  go_wp2_with fail
  try rw[hW]
  refine HCR.out.mono ?_
  rintro e w1 ⟨rfl,hb1⟩
  have hs1:=hb1.size
  obtain⟨Y,hY,hbY,hzY,hcY⟩:=aL w1 (.cells #[.int .i64 1,.string (aj t.nm),.slice aa t.cols.length cc,.string (aj x.nm),.slice none 0 0,.slice none 0 0,.slice none 0 0,.string ⟨#[]⟩,.slice none 0 0,.slice none 0 0,.slice none 0 0,.slice none 0 0,.bool false,.int .i64 (-1)] 29)
  have kY:=ay hcY
  have hB1:=HB.out.trans (hb1.mono HB.out.size)
  have hBY:=hB1.trans (hbY.mono hB1.size)
  have HM1:=hid (HMK.out Y hBY)
  have HBY:=hid hBY
  have HC1:=hid ((hbY.block w.heap.size (by omega)).trans ((hb1.block w.heap.size hzW).trans HCW.out))
  clear hb1 hB1 hBY hbY hcY HCR HMK hW k0
  go_wp2_with fail
  try rw[hY]
  refine HM1.out.mono ?_
  rintro e w2 ⟨ds,rfl,hds,hb2⟩
  have HDS:=hid hds
  obtain⟨a2,n2,c2,rfl,hown⟩:=hds
  have hs2:=hb2.size
  obtain⟨U,hU,hbU,hzU,hcU⟩:=aL w2 (.cells #[.string (aj N.nm),.slice a2 n2 c2,.int .i64 N.pr] 42)
  have hYU:=hb2.trans (hbU.mono hb2.size)
  have hBU:Below w.heap.size w U:=HBY.out.trans (hYU.mono HBY.out.size)
  have kU:=aH hcU
  have kT:=aH ((hYU.block w.heap.size (by omega)).trans HC1.out)
  have HBU:=hid hBU
  have HDU:=hid (HDS.out.e.on hbU)
  by_cases he:e0=0
  ·subst he
   have HEQ:=hid (vZ _ _ t N _ _ U (HTE.out.on hBU) HDU.out)
   rw[decide_eq_true rfl,Bool.true_and] at HR0
   rw[HR0.out] at HEQ
   try rw[hpp] at HEQ
   clear hbU hb2 hcU hBU hYU hown HM1 kY hY
   go_wp2_with fail
   try rw[hU]
   refine HEQ.out.mono ?_
   rintro e w3 ⟨rfl,hb3⟩
   have HB3:=hid (HBU.out.trans (hb3.mono HBU.out.size))
   clear hb3 HEQ
   go_wp2
   go_ret
   exact⟨rfl,HB3.out⟩
  ·have he':(e0==0)=false:=by simpa using he
   rw[decide_eq_false he,Bool.false_and] at HR0
   obtain rfl:=HR0.out
   clear hbU hb2 hcU hBU hYU hown HM1 kY hY he
   go_wp2
   try rw[hU]
   go_ret
   exact⟨rfl,HBU.out⟩
 ·have hm:gI t=false:=by unfold gI;rw[decide_eq_false hp,Bool.false_and]
  rw[hm]
  subst hnn
  have HST:=hid (xP t.nm aa t.cols.length cc t.pr W hp)
  generalize t.cols.length=L at *
  generalize t.pr=q at *
  clear hm hR hsl hbW hcW HCW hp hTE
  go_enter Tryz.func43,Tryz.ntmps43
  go_wp2_with fail
  try rw[hW]
  refine HST.out.mono ?_
  rintro e w1 ⟨rfl,hb1⟩
  have hB1:=HB.out.trans (hb1.mono HB.out.size)
  have HB1:=hid hB1
  clear hb1 HST hB1
  go_wp2
  go_ret
  exact⟨rfl,HB1.out.alloc HB1.out.size _⟩
end Go.Proofs.YtfeglkleoijlaaaGreatDoor
