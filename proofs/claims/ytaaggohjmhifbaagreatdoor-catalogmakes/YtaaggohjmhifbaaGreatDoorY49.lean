/- Packed for the hand-in: RefJM CMakesL OpenT -/
import Derived.Test.YtaaggohjmhifbaaGreatDoorY45
import Derived.Test.YtaaggohjmhifbaaGreatDoorY46
import Derived.Test.YtaaggohjmhifbaaGreatDoorY47
import Derived.Test.YtaaggohjmhifbaaGreatDoorY48
import Derived.Test.YtaaggohjmhifbaaGreatDoorY40
import Derived.Test.YtaaggohjmhifbaaGreatDoorY41
import Derived.Test.YtaaggohjmhifbaaGreatDoorRows
import Derived.Test.YtaaggohjmhifbaaGreatDoorY19
import Derived.Handed
import Derived.LaidLaws
import Derived.Lay
import Derived.Lib.LaidTab
import Derived.Shelf.Vars
import Derived.SizedLaws
import Derived.MakeChecks
import Derived.Stop.LaidErr
import Derived.OpenShut
import Derived.ChangeArms
namespace Go.Proofs.YtaaggohjmhifbaaGreatDoor
open Go.RowKit Go.Shelf
set_option linter.unusedSimpArgs false
set_option linter.unusedVariables false
set_option maxRecDepth 20000
set_option maxHeartbeats 8000000
theorem Fq (S:Nat→Prop) (s:St) (cs:List Value) (w:World) (hR:yc s) (hx:jK S w s cs) (hk:s.k<1∨6<s.k) :
  Calls Tryz.prog 32 #[.agg cs.toArray] w fun e w'=>e = .returned (.bool (aM s))∧Below w.heap.size w w':=by
 have hX:aM s=false:=by
  unfold aM lu
  rw[if_neg (by omega),if_neg (by omega),if_neg (by omega),if_neg (by omega),if_neg (by omega),if_neg (by omega)]
  rfl
 rw[hX]
 have hrt:=hR.tb
 clear hX hR
 obtain⟨a1,a2,a3,a4,a5,a6,a7,a8,n1,n2,n3,n4,n5,n6,n7,n8,c1,c2,c3,c4,c5,c6,c7,c8,rfl,_⟩:=hx
 obtain⟨k,tn,cols,prim,rows,sets,items,jn,on,wh,gr,od,desc,lim⟩:=s
 dsimp only at *
 obtain⟨W,hW,hbW,hzW,hcW⟩:=bF w (.cells #[.int .i64 k,.string (ah tn),.slice a1 n1 c1,.string (ah prim),.slice a2 n2 c2,.slice a3 n3 c3,.slice a4 n4 c4,.string (ah jn),.slice a5 n5 c5,.slice a6 n6 c6,.slice a7 n7 c7,.slice a8 n8 c8,.bool desc,.int .i64 lim] 28)
 have k0:=aG hcW
 have HC0:=hid hcW
 have HBW:=hid hbW
 have HNT:=hid (eT tn W hrt)
 generalize aQ tn=bn at HNT
 clear hbW hcW hrt
 have hkk:k<1∨(¬k<1∧6<k):=by omega
 clear hk
 rcases hkk with hk | ⟨hk,hk6⟩
 all_goals
  go_enter Tryz.func32,Tryz.ntmps32
  go_wp2_with fail
  try rw[hW]
  refine HNT.out.mono ?_
  rintro e w1 ⟨rfl,hb1⟩
  have HB1:=hid (HBW.out.trans (hb1.mono HBW.out.size))
  have kk:=aG ((hb1.block w.heap.size hzW).trans HC0.out)
  clear hb1 HNT k0
  cases bn with
  |
   false =>
   go_wp2
   go_ret
   exact⟨rfl,HB1.out⟩
  |
   true =>
   go_wp2
   go_ret
   exact⟨rfl,HB1.out⟩
theorem Dw (S:Nat→Prop) (s:St) (cs:List Value) (w:World) (hR:yc s) (hx:jK S w s cs) :
  Calls Tryz.prog 32 #[.agg cs.toArray] w fun e w'=>e = .returned (.bool (aM s))∧Below w.heap.size w w':=by
 by_cases h1:s.k=1
 ·exact H8 S s cs w hR hx h1
 by_cases h2:s.k=2
 ·exact IK S s cs w hR hx h2
 by_cases h3:s.k=3
 ·exact Ji S s cs w hR hx h3
 by_cases h4:s.k=4
 ·exact Ih S s cs w hR hx h4
 by_cases h5:s.k=5
 ·exact Jh S s cs w hR hx h5
 by_cases h6:s.k=6
 ·exact IG S s cs w hR hx h6
 exact Fq S s cs w hR hx (by omega)
end Go.Proofs.YtaaggohjmhifbaaGreatDoor
namespace Go.Proofs.YtaaggohjmhifbaaGreatDoor
open Go.RowKit Go.Shelf Go.Lib
set_option linter.unusedSimpArgs false
set_option linter.unusedVariables false
set_option maxRecDepth 20000
set_option maxHeartbeats 8000000
theorem FJ {w:World} {b:Nat} {d0 d1 d2 d3 d4 d5 d6 d7 d8 d9 d10 d11 d12 d13:Value} {t:TypeId} (h:w.heap[b]?=some (.cells #[d0,d1,d2,d3,d4,d5,d6,d7,d8,d9,d10,d11,d12,d13] t)) (v:Value) :
  ∃X,w.setCell ⟨b,2,none⟩ v=X∧X.heap[b]?=some (.cells #[d0,d1,v,d3,d4,d5,d6,d7,d8,d9,d10,d11,d12,d13] t)∧aj (fun k=>k=b) w X:=by
 refine ⟨_,rfl,?_,(aj.refl (fun k=>k=b) w).own _ _⟩
 rw[setCell_eq_setRow w b 2 _ t _ v h,setRow_heap w b _ _ t _ h]
 simp only[List.setIfInBounds_toArray,List.set_cons_zero,List.set_cons_succ]
theorem Je (s:St):(bY s).1.cols.length≤8:=by
 by_cases h:(bY s).2=0
 ·exact (uR h).2.1
 ·rw[EI h]
  decide
theorem rG (s:St) (v:Value) (w:World) (hx : ∃cs:List Value,v = .agg cs.toArray∧jK (fun b=>b<w.heap.size) w s cs) (hR:yc s) (hlen:s.cols.length*32≤140737488351232) (hL:kN w) (hT:mh w) :
  Calls Tryz.prog 3 #[v] w fun e w'=>e = .returned (.bool true)∧Below w.heap.size w w':=by
 obtain⟨cs,rfl,hxx⟩:=hx
 have hx:=hxx
 obtain⟨a1,a2,a3,a4,a5,a6,a7,a8,n1,n2,n3,n4,n5,n6,n7,n8,c1,c2,c3,c4,c5,c6,c7,c8,rfl,x1,x2,x3,x4,x5,x6,x7,x8⟩:=hx
 obtain⟨W,hW,hbW,hzW,hcW⟩:=bF w (.cells #[.int .i64 s.k,.string (ah s.tb),.slice a1 n1 c1,.string (ah s.prim),.slice a2 n2 c2,.slice a3 n3 c3,.slice a4 n4 c4,.string (ah s.jn),.slice a5 n5 c5,.slice a6 n6 c6,.slice a7 n7 c7,.slice a8 n8 c8,.bool s.desc,.int .i64 s.lim] 28)
 have HB:=hid hbW
 have HCW:=hid hcW
 have HSM:=hid (yS W (hT.on hbW) (hL.on hbW))
 have hto : ∀V,Below w.heap.size w V→∀{u:Value},bP 4 iE (fun _=>True) V s.cols u→∃aa nn cc,u = .slice aa nn cc∧jK (fun _=>True) V s [.int .i64 s.k,.string (ah s.tb),.slice aa nn cc,.string (ah s.prim),.slice a2 n2 c2,.slice a3 n3 c3,.slice a4 n4 c4,.string (ah s.jn),.slice a5 n5 c5,.slice a6 n6 c6,.slice a7 n7 c7,.slice a8 n8 c8,.bool s.desc,.int .i64 s.lim]:=fun V hV u hu=>by
  obtain⟨aa,cc,rfl⟩:=hu.form
  have hxV:=hxx.on hV
  obtain⟨b1,b2,b3,b4,b5,b6,b7,b8,m1,m2,m3,m4,m5,m6,m7,m8,d1,d2,d3,d4,d5,d6,d7,d8,e0,y1,y2,y3,y4,y5,y6,y7,y8⟩:=hxV
  simp only[List.cons.injEq,Value.slice.injEq,and_true,true_and] at e0
  obtain⟨_,⟨rfl,rfl,rfl⟩,⟨rfl,rfl,rfl⟩,⟨rfl,rfl,rfl⟩,⟨rfl,rfl,rfl⟩,⟨rfl,rfl,rfl⟩,⟨rfl,rfl,rfl⟩,⟨rfl,rfl,rfl⟩⟩:=e0
  exact⟨aa,_,cc,rfl,aa,_,_,_,_,_,_,_,_,_,_,_,_,_,_,_,cc,_,_,_,_,_,_,_,rfl,hu,y2,y3,y4,y5,y6,y7,y8⟩
 have HTO:=hid hto
 have HMK:=hid (fun V (hV:Below w.heap.size w V) cs (hc:jK (fun _=>True) V s cs)=>qK (fun _=>True) s cs V (hT.on hV) hR hc)
 have HRM:=hid (fun V (hV:Below w.heap.size w V) cs (hc:jK (fun _=>True) V s cs)=>FI (fun _=>True) s cs V (fun U hU=>Dw (fun _=>True) s cs U hR (hc.on hU)) hc)
 have HXX:=hid (fun V (hV:Below w.heap.size w V)=>hxx.on hV)
 have HX1:=hid (fun V (hV:Below w.heap.size w V)=>x1.to (T:=fun _=>True) (by decide) (R:=fun _=>False) (aj.aC hV) (fun b _ _=>⟨id,trivial⟩) (fun _ _ e=>e))
 have hM8:=Je s
 generalize bY s=M at HMK HRM hM8
 obtain⟨k,tb,l,prim,rows,sets,items,jn,on,wh,gr,od,desc,lim⟩:=s
 dsimp only at hW HCW HMK HRM HTO HX1 HXX hlen
 clear hxx hT hL hbW hcW hR x1 x2 x3 x4 x5 x6 x7 x8 hto
 go_enter Tryz.func3,Tryz.ntmps3
 go_wp2_with fail
 try rw[hW]
 refine HSM.out.mono ?_
 rintro e w1 ⟨rfl,hb1⟩
 have hB1:=HB.out.trans (hb1.mono HB.out.size)
 have hC1:=(hb1.block w.heap.size hzW).trans HCW.out
 have k1:=aG hC1
 have HB1:=hid hB1
 have HC1:=hid hC1
 have hz1:w.heap.size<w1.heap.size:=Nat.lt_of_lt_of_le hzW hb1.size
 clear hb1 hB1 hC1 HSM hW HCW HB
 go_upto_region 2 with fail
 go_cut [29] (fun u29 wx=>(∃c:Bool,u29 = .bool c)∧wx=w1)
 case first =>
  by_cases hk:k=1
  ·have hk':(k != 1)=false:=by simp[hk]
   clear hk
   go_wp2_with fail
   go_meet
   exact⟨⟨_,rfl⟩,rfl⟩
  ·have hk':(k != 1)=true:=by simpa using hk
   clear hk
   go_wp2_with fail
   go_meet
   exact⟨⟨_,rfl⟩,rfl⟩
 case rest =>
  obtain⟨⟨c,rfl⟩,rfl⟩:=hcut
  cases c with
  |
   true =>
   go_wp2
   go_ret
   exact⟨rfl,HB1.out⟩
  |
   false =>
   obtain⟨X,hX,hbX,hzX,hcX⟩:=bF wc (.cells #[.int .i64 k,.string (ah tb),.slice a1 n1 c1,.string (ah prim),.slice a2 n2 c2,.slice a3 n3 c3,.slice a4 n4 c4,.string (ah jn),.slice a5 n5 c5,.slice a6 n6 c6,.slice a7 n7 c7,.slice a8 n8 c8,.bool desc,.int .i64 lim] 28)
   obtain⟨E,hE,hbE,hzE,hcE⟩:=bF X (.cells #[] 37)
   have hBX:=HB1.out.trans (hbX.mono HB1.out.size)
   have hBE:=hBX.trans (hbE.mono hBX.size)
   obtain⟨ax,nx,cx,Y,hrun,hown,hsY⟩:=sP (HX1.out E hBE) (by omega) hcE X.heap.size (Nat.le_refl _) 22
   have HRUN:=hid hrun
   have hzY:=hsY.size
   have hBY:Below w.heap.size w Y:=hBE.trans (hsY.below (fun i hi=>by have:=hBX.size;omega) hBE.size)
   have hcXY:=(hsY.block wc.heap.size (by omega) (by omega)).trans ((hbE.block wc.heap.size hzX).trans hcX)
   obtain⟨V,hV,hcV,hspV⟩:=FJ hcXY (.slice ax nx cx)
   have hzV:=hspV.size
   have hownV:V.ownsRow X.heap.size 37 4 (.slice ax nx cx) l.length (fG l):=hspV.row hown (fun b hb=>by have:=(hown.lt b hb).1;omega)
   have hBV:Below w.heap.size w V:=hBY.trans (hspV.below (fun i hi=>by omega) hBY.size)
   have hslV:=(mq hownV).to (T:=fun _=>True) (by decide) (R:=fun _=>False) (aj.aC (Below.refl _ _)) (fun b _ _=>⟨id,trivial⟩) (fun _ _ e=>e)
   obtain⟨a9,n9,c9,e9,hst⟩:=HTO.out V hBV hslV
   simp only[Value.slice.injEq] at e9
   obtain⟨rfl,rfl,rfl⟩:=e9
   have HM1:=hid (HMK.out V hBV _ hst)
   have kX:=aG hcX
   have kE0:=aG ((hbE.block w.heap.size (by omega)).trans ((hbX.block w.heap.size hz1).trans HC1.out))
   have kY:=aG hcXY
   have kYf:=jd hcXY
   have kV:=aG hcV
   have HBV:=hid hBV
   have HOV:=hid hownV
   have HCS:=hid ((hspV.block w.heap.size (by omega) (by omega)).trans ((hsY.block w.heap.size (by omega) (by omega)).trans ((hbE.block w.heap.size (by omega)).trans ((hbX.block w.heap.size hz1).trans HC1.out))))
   have HCI:=hid hcV
   clear hbX hbE hBX hBE hrun hown hsY hBY hcXY hspV hownV hBV hslV hst hcX hcE hcV HMK
   go_wp2_with (first | (at_builtin;refine wpList_append_run _ rfl (.tmp 32) (.tmp 34) 22 rfl _ _ _ _ rfl rfl HRUN.out ?_))
   refine HM1.out.mono ?_
   rintro e w2 ⟨ds,rfl,hds,hb2⟩
   have hs2:=hb2.size
   obtain⟨⟨tn,tc,tp⟩,em⟩:=M
   dsimp only at hds HRM hM8
   have hdE:=hds.e
   obtain⟨a9,n9,c9,rfl,hown⟩:=hds
   dsimp only at hown
   have hn9:n9=tc.length:=by
    rcases hown.2 with⟨e,h⟩ | ⟨_,_,_,e,_⟩
    ·simp only[Value.slice.injEq] at e;omega
    ·simp only[Value.slice.injEq] at e;exact e.2.1
   subst hn9
   obtain⟨U,hU,hbU,hzU,hcU⟩:=bF w2 (.cells #[.string (ah tn),.slice a9 tc.length c9,.int .i64 tp] 31)
   have hVU:=hb2.trans (hbU.mono hb2.size)
   have hBU:=HBV.out.trans (hVU.mono HBV.out.size)
   have kU:=aS hcU
   have kUS:=aG ((hVU.block w.heap.size (by omega)).trans HCS.out)
   have HM2:=hid (HRM.out U hBU _ (HXX.out U hBU))
   have HDE:=hid (hdE.on hbU)
   have HOU:=hid (aj.row (aj.aC (S:=fun _=>False) hbU) hown (fun _ _=>id))
   have HVU:=hid hVU
   have HBU:=hid hBU
   have HCU:=hid hcU
   clear hb2 hdE hown hbU hVU hBU hcU HM1 HRM HXX kX kE0 kY kYf kV hX hE hV
   go_wp2_with fail
   try rw[hU]
   refine HM2.out.mono ?_
   rintro e w3 ⟨es,rfl,hes,hb3⟩
   have hs3:=hb3.size
   have heE:=hes.e
   obtain⟨a0,n0,c0,rfl,_⟩:=hes
   obtain⟨Z,hZ,hbZ,hzZ,hcZ⟩:=bF w3 (.cells #[.string (ah tn),.slice a0 n0 c0,.int .i64 tp] 31)
   have hUZ:=hb3.trans (hbZ.mono hb3.size)
   have hVZ:=HVU.out.trans (hUZ.mono HVU.out.size)
   have kZ:=aS hcZ
   have kZU:=aS ((hUZ.block w2.heap.size hzU).trans HCU.out)
   have HSA:=hid (ou _ _ ⟨tn,tc,tp⟩ ⟨tn,tc,tp⟩ _ _ Z (HDE.out.on hUZ) (heE.on hbZ))
   rw[(qY _ _).2 rfl] at HSA
   have HVZ:=hid hVZ
   have HUZ:=hid hUZ
   have HBZ:=hid (HBU.out.trans (hUZ.mono HBU.out.size))
   clear hb3 heE hbZ hUZ hVZ hcZ HM2 hU kU kUS
   go_wp2_with fail
   try rw[hZ]
   refine HSA.out.mono ?_
   rintro e w5 ⟨rfl,hb5⟩
   have hs5:=hb5.size
   have hU5:=HUZ.out.trans (hb5.mono HUZ.out.size)
   have hV5:=HVZ.out.trans (hb5.mono HVZ.out.size)
   have HO5:=hid (aj.row (aj.aC (S:=fun _=>False) hU5) HOU.out (fun _ _=>id))
   have HCT:=hid ((hU5.block w2.heap.size hzU).trans HCU.out)
   have HCI5:=hid ((hV5.block wc.heap.size (by omega)).trans HCI.out)
   have HCS5:=hid ((hV5.block w.heap.size (by omega)).trans HCS.out)
   have HB5:=hid (HBZ.out.trans (hb5.mono HBZ.out.size))
   have HI5:=hid (aj.row (aj.aC (S:=fun _=>False) hV5) HOV.out (fun _ _=>id))
   have HIB:Hid (∀b,(Value.slice ax nx cx).ownBlock=some b→b<V.heap.size):=hid (fun b hb=>(HOV.out.lt b hb).2)
   have hw25:w2.heap.size<w5.heap.size:=by omega
   clear hb5 hU5 hV5 HSA hZ kZ kZU
   go_wp2_with fail
   go_loopw [10] (fun i wr=>∃(j:Nat) (xs:List Value),j≤tc.length∧i = .int .i64 j∧wr.ownsRow V.heap.size 37 4 (.slice a9 tc.length c9) tc.length xs∧aj (fun k=>(Value.slice a9 tc.length c9).ownBlock=some k) w5 wr) (fun i _=>tc.length-(intOf i).toNat)
   case atStart=>exact⟨0,_,Nat.zero_le _,rfl,HO5.out,aj.refl _ _⟩
   case round =>
    obtain⟨j,xs,hj,rfl,hor,hsr⟩:=hrel
    have hzr:=hsr.size
    have hno : ∀(B:Nat) (cs:Array Value),w5.heap[B]?=some (.cells cs 31)→wr.heap[B]?=some (.cells cs 31):=fun B cs hc=>(hsr.block B (World.lt_of_block hc) (own_ne HO5.out hc)).trans hc
    have kT:=aS (hno _ _ HCT.out)
    by_cases hlt:j<tc.length
    ·have hlt':(j:Int)<(tc.length:Int):=by omega
     obtain⟨g,rfl,hg⟩:∃g,a9=some ⟨g,0,none⟩∧V.heap.size≤g:=by
      rcases hor.2 with⟨e,h⟩ | ⟨g,cap,cur,e,hg,_⟩
      ·omega
      ·simp only[Value.slice.injEq] at e;exact⟨g,e.1,hg⟩
     have hcell : ∀(Z:World) (ys:List Value),Z.ownsRow V.heap.size 37 4 (.slice (some ⟨g,0,none⟩) tc.length c9) tc.length ys→∀i,i<4→∃u,Z.cell? ⟨g,j*4+i,none⟩=some u:=fun Z ys ho i hi=>by
      rw[ho.cellAt (j*4+i) (by omega)]
      exact⟨_,List.getElem?_eq_getElem (by rw[ho.1];omega)⟩
     obtain⟨u0,h0⟩:=hcell wr xs hor 0 (by omega)
     rw[Nat.add_zero] at h0
     have f0:=fun i=>hor.frozenAt i
     obtain⟨X1,hX1⟩:∃X1,wr.setCell ⟨g,j*4,none⟩ (.string ⟨#[]⟩)=X1:=⟨_,rfl⟩
     have ho1:=hor.stored (j*4) (.string ⟨#[]⟩)
     rw[hX1] at ho1
     obtain⟨u1,h1⟩:=hcell X1 _ ho1.1 1 (by omega)
     have f1:=fun i=>ho1.1.frozenAt i
     obtain⟨X2,hX2⟩:∃X2,X1.setCell ⟨g,j*4+1,none⟩ (.int .i64 (-7))=X2:=⟨_,rfl⟩
     have ho2:=ho1.1.stored (j*4+1) (.int .i64 (-7))
     rw[hX2] at ho2
     obtain⟨u2,h2⟩:=hcell X2 _ ho2.1 2 (by omega)
     have f2:=fun i=>ho2.1.frozenAt i
     obtain⟨X3,hX3⟩:∃X3,X2.setCell ⟨g,j*4+2,none⟩ (.bool false)=X3:=⟨_,rfl⟩
     have ho3:=ho2.1.stored (j*4+2) (.bool false)
     rw[hX3] at ho3
     obtain⟨u3,h3⟩:=hcell X3 _ ho3.1 3 (by omega)
     have f3:=fun i=>ho3.1.frozenAt i
     obtain⟨X4,hX4⟩:∃X4,X3.setCell ⟨g,j*4+3,none⟩ (.bool false)=X4:=⟨_,rfl⟩
     have ho4:=ho3.1.stored (j*4+3) (.bool false)
     rw[hX4] at ho4
     have hgr : ∀{a b:World},a.grownBy b (some g)→aj (fun k=>(Value.slice (some ⟨g,0,none⟩) tc.length c9).ownBlock=some k) a b:=fun h=>aj.fO h (fun k e=>e)
     have HS4:=hid ((((hsr.andThen (hgr ho1.2) (fun i hi=>.inl hi)).andThen (hgr ho2.2) (fun i hi=>.inl hi)).andThen (hgr ho3.2) (fun i hi=>.inl hi)).andThen (hgr ho4.2) (fun i hi=>.inl hi))
     have HO4:=hid ho4.1
     clear hor hsr hno hcell ho1 ho2 ho3 ho4 hgr
     go_wp2
     go_roundw
     case rel=>exact⟨j+1,_,Nat.succ_le_of_lt hlt,by go_num,HO4.out,HS4.out⟩
     case measure=>simp[intOf];omega
    ·have hlt' : ¬(j:Int)<(tc.length:Int):=by omega
     have hlow : ∀b,(Value.slice a9 tc.length c9).ownBlock=some b→V.heap.size≤b:=fun b hb=>(HO5.out.lt b hb).1
     have hci:=(hsr.block wc.heap.size (by omega) (fun h=>by have:=hlow _ h;omega)).trans HCI5.out
     have hcs:=(hsr.block w.heap.size (by omega) (fun h=>by have:=hlow _ h;omega)).trans HCS5.out
     have kI:=aG hci
     have kS:=aG hcs
     have hBr:Below w.heap.size w wr:=HB5.out.trans (hsr.below (fun i hi=>by have:=hlow _ hi;omega) HB5.out.size)
     have hsa:Aq (fun _=>True) wr ⟨[],l,0⟩ [.string ⟨#[]⟩,.slice ax nx cx,.int .i64 0]:=⟨_,_,_,rfl,(mq (hsr.row HI5.out (fun b hb h=>by have:=hlow _ h;have:=HIB.out b hb;omega))).to (T:=fun _=>True) (by decide) (R:=fun _=>False) (aj.aC (Below.refl _ _)) (fun b _ _=>⟨id,trivial⟩) (fun _ _ e=>e)⟩
     have hsb:Aq (fun _=>True) wr ⟨[],l,0⟩ [.string ⟨#[]⟩,.slice a1 n1 c1,.int .i64 0]:=⟨_,_,_,rfl,HX1.out wr hBr⟩
     have HSB:=hid (ou _ _ _ _ _ _ wr hsa hsb)
     rw[(qY _ _).2 rfl] at HSB
     have HBr:=hid hBr
     clear hlow hci hcs hBr hsa hsb hor hsr hno
     go_wp2_with fail
     refine HSB.out.mono ?_
     rintro e w6 ⟨rfl,hb6⟩
     have HB6:=hid (HBr.out.trans (hb6.mono HBr.out.size))
     clear hb6 HSB
     go_wp2
     go_ret
     exact⟨by simp,HB6.out⟩
end Go.Proofs.YtaaggohjmhifbaaGreatDoor
namespace Go.Proofs.YtaaggohjmhifbaaGreatDoor
open Go.ChangeShapes Go.WideShapes Go.RowKit
set_option linter.unusedVariables false
set_option maxRecDepth 20000
set_option maxHeartbeats 8000000
abbrev mM:List (String × DataW Unit):=[("math/bits.deBruijn32tab", Rows.laid_math_bits_deBruijn32tab),("math/bits.deBruijn64tab", Rows.laid_math_bits_deBruijn64tab),("internal/strconv.uint64pow10", Rows.laid_internal_strconv_uint64pow10),("unicode/utf8.acceptRanges", Rows.laid_unicode_utf8_acceptRanges),("strconv.ErrRange", Rows.laid_strconv_ErrRange),("strconv.ErrSyntax", Rows.laid_strconv_ErrSyntax),("unicode.White_Space", Rows.laid_unicode_White_Space),("strings.asciiSpace", Rows.laid_strings_asciiSpace),("vestry/printer.operators", Rows.laid_vestry_printer_operators),("unicode/utf8.first", Rows.laid_unicode_utf8_first)]
theorem qx {W:World} (h:laidMetH Tryz.prog mM W):laidMet Tryz.prog mM W:=by
 rwa [MakeChecks.laidMetH_plain _ _ _ (by kernel_rfl)] at h
theorem Cw {W:World} {n:String} {d:DataW Unit} {r:List (String × DataW Unit)} {g:Nat} (h:laidMet Tryz.prog ((n,d)::r) W) (hg:Tryz.prog.globalNamed n=some g):g<W.heap.size:=by
 obtain⟨ps,⟨g1,t1,cs1,f1,p1,q1,hg1,ht1,hv1,hd1,_⟩,_⟩:=h
 obtain rfl:=Option.some.inj (hg.symm.trans hg1)
 unfold World.var? at hv1
 rw[hg1] at hv1
 simp only[Option.bind_some] at hv1
 rcases Nat.lt_or_ge g W.heap.size with h | h
 ·exact h
 ·rw[Array.getElem?_eq_none h] at hv1
  cases hv1
theorem zG {W:World} {r:List (String × DataW Unit)} (h:laidMet Tryz.prog (("internal/strconv.uint64pow10", Rows.laid_internal_strconv_uint64pow10)::r) W):Lib.TabIs Tryz.prog W "internal/strconv.uint64pow10" .u64 Lib.pow10Tab:=by
 obtain⟨ps,⟨g2,t2,cs2,f2,p2,q2,hg2,ht2,hv2,hd2,_⟩,_⟩:=h
 obtain rfl:=Option.some.inj ((show Tryz.prog.globalNamed "internal/strconv.uint64pow10" = some 4 by kernel_rfl).symm.trans hg2)
 obtain rfl:=Option.some.inj ((show (Tryz.prog.globals[4]?).map (·.type)=some 298 by kernel_rfl).symm.trans ht2)
 have e:=Lib.cells_of_tab (k:=.u64) (zs:=Lib.pow10Tab) Tryz.underlying298 Tryz.underlying185 (by kernel_rfl) (by kernel_rfl) hd2
 unfold Lib.TabIs
 rw[hv2]
 exact congrArg some (Array.ext' (by rw[e]))
theorem Gj {W:World} {r:List (String × DataW Unit)} (h:laidMet Tryz.prog (("strings.asciiSpace", Rows.laid_strings_asciiSpace)::r) W):Lib.TabIs Tryz.prog W "strings.asciiSpace" .u8 Lib.asciiSpaceTab:=by
 obtain⟨ps,⟨g2,t2,cs2,f2,p2,q2,hg2,ht2,hv2,hd2,_⟩,_⟩:=h
 obtain rfl:=Option.some.inj ((show Tryz.prog.globalNamed "strings.asciiSpace" = some 1 by kernel_rfl).symm.trans hg2)
 obtain rfl:=Option.some.inj ((show (Tryz.prog.globals[1]?).map (·.type)=some 276 by kernel_rfl).symm.trans ht2)
 have hdd:(Rows.laid_strings_asciiSpace:DataW Unit)=Lib.tabData .u8 Lib.asciiSpaceTab:=by kernel_rfl
 rw[hdd] at hd2
 have e:=Lib.cells_of_tab (k:=.u8) (zs:=Lib.asciiSpaceTab) Tryz.underlying276 Tryz.underlying5 (by kernel_rfl) (by kernel_rfl) hd2
 unfold Lib.TabIs
 rw[hv2]
 exact congrArg some (Array.ext' (by rw[e]))
theorem Tryz.star : "*" ++ "errors.errorString" = "*errors.errorString" := by decide
theorem Tryz.JV (u:TypeId) (h:Tryz.prog.typeName? 3 u=some "*errors.errorString"):u=320 :=
 typeName_ptr_named (nm := "errors.errorString") (by rw[Tryz.star];kernel_rfl) (by kernel_rfl) (by decide) u (by rw[Tryz.star];exact h)
theorem GV {W:World} {r:List (String × DataW Unit)} (h:laidMet Tryz.prog (("strconv.ErrRange", Rows.laid_strconv_ErrRange)::r) W):∃ev,W.cell? ⟨6,0,none⟩=some ev∧(ev = .nilIface∨∃te pe,ev = .iface te pe):=by
 have hg:Tryz.prog.globalNamed "strconv.ErrRange" = some 6:=by kernel_rfl
 obtain⟨a0,s0,hv0,-,-,-⟩:=laid_sentinel h hg (by kernel_rfl) Tryz.underlying241 Tryz.JV Tryz.underlying320 Tryz.underlying322 rfl rfl Tryz.underlying9 (by kernel_rfl) (by kernel_rfl)
 exact⟨_,by have h0:=World.var?_cell hg hv0 0;simpa using h0,.inr ⟨_,_,rfl⟩⟩
theorem uS {W:World} (hs:W.ShapedOpen Tryz.prog):∃m,W.cell? ⟨2,0,none⟩=some (.int .i64 m) :=
 cell_of_shapedOpen_int (P:=Tryz.prog) (zero:=#[.int .i64 0]) (t:=3) hs (by decide +kernel) (by kernel_rfl) rfl (by kernel_rfl) (by kernel_rfl) Tryz.underlying3
theorem Tryz.Js:Tryz.prog.cellsOf 233=2:=by kernel_rfl
theorem Tryz.KN:Tryz.prog.cellsOf 3=1:=by kernel_rfl
theorem Tryz.KV:Tryz.prog.cellsOf 9=1:=by kernel_rfl
theorem xO {H:Type} {enc:TypeId × Value→H} {W:World} {base:Nat} {spare:Nat→Bool} {held:Bool} {fuel:Nat} {cs:List Value} {ps:List MemPlace} {s:List UInt8} {n:Int} (h:DataW.trod enc Tryz.prog W base spare held fuel 233 cs=some (.agg [.lit (.string s),.lit (.int .i64 n)],ps)) :
  cs=[.string (ah s),.int .i64 n]:=by
 obtain⟨ys,m,_,hx,hl,hlen,hf⟩:=DataW.trod_struct Tryz.underlying233 h
 rw[Tryz.Js] at hl
 match cs,hl with
 |
  [c0,c1],_ =>
  match ys,hlen with
  |
   [y0,y1],_ =>
   have f0:DataW.trod enc Tryz.prog W base spare held m 9 [c0]=some y0:=by
    have g:=hf 0 _ rfl
    change DataW.trod enc Tryz.prog W base spare held m 9 (([c0,c1].drop 0).take (Tryz.prog.cellsOf 9))=some y0 at g
    rw[Tryz.KV] at g
    exact g
   have f1:DataW.trod enc Tryz.prog W base spare held m 3 [c1]=some y1:=by
    have g:=hf 1 _ rfl
    change DataW.trod enc Tryz.prog W base spare held m 3 (([c0,c1].drop 1).take (Tryz.prog.cellsOf 3))=some y1 at g
    rw[Tryz.KN] at g
    exact g
   obtain⟨s0,e0,d0,_⟩:=DataW.trod_string Tryz.underlying9 f0
   obtain⟨n0,e1,d1,_⟩:=DataW.trod_int Tryz.underlying3 f1
   subst d0 d1
   simp only[List.map_cons,List.map_nil,Prod.mk.injEq,DataW.agg.injEq,List.cons.injEq,DataW.lit.injEq,Lit.string.injEq,Lit.int.injEq,and_true,true_and] at hx
   obtain⟨⟨rfl,rfl⟩,_⟩:=hx
   simp only[List.cons.injEq,and_true] at e0 e1
   rw[e0,e1,jU]
def Li (t:List UInt8 × Nat):DataW Unit:=.agg [.lit (.string t.1),.lit (.int .i64 t.2)]
theorem EH {cs:List Value} {k:Nat} {a b:Value} (h:(cs.drop k).take 2=[a,b]):cs[k]?=some a∧cs[k+1]?=some b:=by
 have h0:((cs.drop k).take 2)[0]?=some a:=by rw[h];rfl
 have h1:((cs.drop k).take 2)[1]?=some b:=by rw[h];rfl
 rw[List.getElem?_take,if_pos (by decide),List.getElem?_drop] at h0 h1
 exact⟨by simpa using h0,h1⟩
theorem EJ {W:World} {r:List (String × DataW Unit)} (h:laidMet Tryz.prog (("vestry/printer.operators", Rows.laid_vestry_printer_operators)::r) W):Jp W:=by
 obtain⟨ps,⟨g2,t2,cs2,f2,p2,q2,hg2,ht2,hv2,hd2,_⟩,_⟩:=h
 have hg:Tryz.prog.globalNamed "vestry/printer.operators" = some 0:=by kernel_rfl
 obtain rfl:=Option.some.inj (hg.symm.trans hg2)
 obtain rfl:=Option.some.inj ((show (Tryz.prog.globals[0]?).map (·.type)=some 234 by kernel_rfl).symm.trans ht2)
 obtain⟨xs,m,_,hx,hl,hlen,hf⟩:=DataW.trod_array Tryz.underlying234 hd2
 have hdd:(Rows.laid_vestry_printer_operators:DataW Unit) = .agg (uN.map Li):=by kernel_rfl
 rw[hdd] at hx
 simp only[Prod.mk.injEq,DataW.agg.injEq] at hx
 intro o ho
 have hf':=hf o (by omega)
 rw[Tryz.Js] at hf'
 have hxo:(xs.map (·.1))[o]?=(uN.map Li)[o]?:=by rw[← hx.1]
 obtain⟨x,hxe⟩:∃x,xs[o]?=some x:=⟨_,List.getElem?_eq_getElem (by omega)⟩
 rw[hxe] at hf'
 rw[List.getElem?_map,hxe,List.getElem?_map] at hxo
 have hto:uN[o]?=some (oV (o:Int),dX (o:Int)):=by
  have : ∀o:Fin 14,uN[o.1]?=some (oV (o.1:Int),dX (o.1:Int)):=by decide
  exact this ⟨o,by omega⟩
 rw[hto] at hxo
 simp only[Option.map_some,Option.some.injEq] at hxo
 obtain⟨d,pl⟩:=x
 dsimp only at hxo
 subst hxo
 obtain⟨k0,k1⟩:=EH (xO hf')
 have c0:=World.var?_cell hg hv2 (o*2)
 have c1:=World.var?_cell hg hv2 (o*2+1)
 rw[Array.getElem?_toList] at k0 k1
 exact⟨c0.trans k0,c1.trans k1⟩
theorem JE {W:World} (h:laidMetH Tryz.prog mM W) (hs:W.ShapedOpen Tryz.prog):mh W:=by
 have h':=qx h
 have hlt:10<W.heap.size:=Cw (g:=10) h'.tail (by kernel_rfl)
 exact⟨⟨by omega,uS hs,zG h'.tail.tail⟩,EJ h'.tail.tail.tail.tail.tail.tail.tail.tail,hlt⟩
theorem Kj {W:World} (h:laidMetH Tryz.prog mM W) (hs:W.ShapedOpen Tryz.prog):kN W:=by
 have h':=qx h
 have hlt:10<W.heap.size:=Cw (g:=10) h'.tail (by kernel_rfl)
 exact⟨⟨by omega,uS hs,zG h'.tail.tail⟩,by omega,Gj h'.tail.tail.tail.tail.tail.tail.tail,GV h'.tail.tail.tail.tail⟩
end Go.Proofs.YtaaggohjmhifbaaGreatDoor
