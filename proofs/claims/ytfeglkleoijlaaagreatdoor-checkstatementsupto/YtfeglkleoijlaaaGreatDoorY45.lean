import Derived.Test.YtfeglkleoijlaaaGreatDoorY44
import Derived.Test.YtfeglkleoijlaaaGreatDoorY33
namespace Go.Proofs.YtfeglkleoijlaaaGreatDoor
open Go.RowKit Go.Shelf
set_option linter.unusedSimpArgs false
set_option linter.unusedVariables false
set_option maxRecDepth 20000
set_option maxHeartbeats 8000000
theorem MP (t:Tb) (nm:List UInt8):tJ [t] [] nm=if bF t.aC nm<t.aC.length then (((bF t.aC nm:Nat):Int),Af t.aC (bF t.aC nm),0) else (0,0,12):=by
 unfold tJ
 rw[jL]
 dsimp only
 rw[if_neg (show ¬(([]:List UInt8)≠[]∧t.nm=[]) from fun h=>h.1 rfl)]
 by_cases h:bF t.aC nm<t.aC.length
 ·rw[if_pos h,if_pos (show bF t.aC nm<t.aC.length∧(([]:List UInt8)=[]∨t.nm=[]) from ⟨h,.inl rfl⟩)]
  show rA (0+((bF t.aC nm:Nat):Int),Af t.aC (bF t.aC nm),0+1)=_
  rw[Int.zero_add]
  rfl
 ·rw[if_neg h,if_neg (fun e=>h e.1)]
  rfl
def iG (kd c want:Int):Int:=if c=0∧kd≠0∧kd≠want then 9 else c
theorem JQ {t:Tb} {ah:List Se} {s:Se} (h1:bF t.aC s.nm<t.aC.length) (h2 : ∀x∈ah,x.nm≠s.nm):qI t ah s=iG (aI [t] s.e).2.1 (aI [t] s.e).2.2 (Af t.aC (bF t.aC s.nm)):=by
 unfold qI
 rw[if_neg (by omega),if_neg (by
  intro h
  obtain⟨x,hx,e⟩:=List.any_eq_true.1 h
  exact h2 x hx (by simpa using e))]
 rfl
theorem Ja {t:Tb} {ah:List Se} {s:Se} (h1 : ¬bF t.aC s.nm<t.aC.length):qI t ah s=12:=by
 unfold qI
 rw[if_pos (by omega)]
theorem Lu {t:Tb} {ah:List Se} {s x:Se} (h1:bF t.aC s.nm<t.aC.length) (hx:x∈ah) (h:x.nm=s.nm):qI t ah s=13:=by
 unfold qI
 rw[if_neg (by omega),if_pos (List.any_eq_true.2 ⟨x,hx,aar h⟩)]
theorem Ep (S T:Nat→Prop) (t:Tb) (sets:List Se) (cs:List Value) (sv:Value) (w:World) (ht:fG S w t cs) (hs:aM 9 BM T w sets sv) (hK:mR t) (hr : ∀x∈sets,aF x.e=true) :
  Calls Tryz.prog 30 #[.agg cs.toArray,sv] w fun e w'=>e = .returned (.int .i64 (aO (iO t [] sets)))∧Below w.heap.size w w':=by
 have ht0:=ht
 obtain⟨a2,n2,c2,rfl,hsl⟩:=ht
 obtain⟨W,gI,hbW,aJ,hcW⟩:=aK w (.cells #[.string (aj t.nm),.slice a2 n2 c2,.int .i64 t.pr] 42)
 have k0:=aH hcW
 have Wj:Hid (∀V,Below W.heap.size W V→aM 9 BM T V sets sv):=hid (fun V hV=>hs.to (by decide) (R:=fun _=>False) (ak.aA (hbW.trans (hV.mono hbW.size))) (fun b hb _=>⟨id,hb⟩) (fun _ _ e=>e.to (R:=fun _=>False) (ak.aA (hbW.trans (hV.mono hbW.size))) (fun b hb _=>⟨id,hb⟩)))
 have mI:Hid (∀V,Below W.heap.size W V→fG S V t [.string (aj t.nm),.slice a2 n2 c2,.int .i64 t.pr]):=hid (fun V hV=>ht0.on (hbW.trans (hV.mono hbW.size)))
 have HB:=hid hbW
 have rJ:=hid hcW
 have KX:Hid (∀u∈[t],mR u):=hid (fun u hu=>by simp only[List.mem_singleton] at hu;rw[hu];exact hK)
 have O5:=hid hr
 have hrl:sets.length≤9223372036854775807:=by obtain⟨_,_,_,hf,h1,h2,_⟩:=id hs;unfold maxLen at h2;omega
 obtain⟨ra,rc,rfl⟩:=hs.form
 obtain⟨R,hR⟩:∃R,aO (iO t [] sets)=R:=⟨_,rfl⟩
 rw[hR]
 have HR:=hid hR
 have O4:=hid (uL t [] sets)
 clear hbW hcW ht0 hsl hs hR hK hr
 go_enter Tryz.func30,Tryz.ntmps30
 go_wp2_with fail
 try rw[gI]
 go_wp2_with fail
 go_loopw [5,6,7,8,9,10,11] (fun i _ _ _ _ _ _ wr=>∃(m:Nat),m≤sets.length∧i = .int .i64 m∧Hid (Below W.heap.size W wr)∧Hid (∀c∈(iO t [] sets).take m,c=0)) (fun i _ _ _ _ _ _ _=>sets.length-(intOf i).toNat)
 case atStart=>exact⟨0,aaV _,rfl,hid (Below.refl _ _),hid (by simp)⟩
 case round =>
  clear k0
  obtain⟨m,hm,rfl,iW,HZ⟩:=hrel
  by_cases hlt:m<sets.length
  ·obtain⟨s,hs⟩:∃s,sets[m]?=some s:=⟨_,aaf hlt⟩
   have hlt':((m:Int)<(sets.length:Int)):=by omega
   have hcx:=xI t [] sets m s hs
   rw[List.nil_append] at hcx
   obtain⟨wo,rfl⟩:∃wo,wo=wr:=⟨_,rfl⟩
   have Fv:=iW.out.size
   obtain⟨_,_,_,b,off,ds,rfl,_,hel,hcell⟩:=bC (Wj.out wo iW.out) hs
   have eO:=hel
   obtain⟨k1,op1,dN,fU,fJ,fI,vs1,ys1,eD,dF,eB,hse,rfl,hya⟩:=hel
   have hb0:b<wo.heap.size:=World.block_lt_of_cell? wo _ (hcell 0 _ rfl)
   have HS:Hid (∀V,Below wo.heap.size wo V→V.cell? ⟨w.heap.size,0,none⟩=some (.string (aj t.nm))∧V.cell? ⟨w.heap.size,1,none⟩=some (.slice a2 n2 c2)∧V.cell? ⟨w.heap.size,2,none⟩=some (.int .i64 t.pr)∧V.cell? ⟨b,off+m*9,none⟩=some (.string (aj s.nm))∧V.cell? ⟨b,off+m*9+1,none⟩=some (.int .i64 k1)∧V.cell? ⟨b,off+m*9+2,none⟩=some (.int .i64 op1)∧V.cell? ⟨b,off+m*9+3,none⟩=some (.string (aj dN))∧V.cell? ⟨b,off+m*9+4,none⟩=some (.string (aj fU))∧V.cell? ⟨b,off+m*9+5,none⟩=some (.int .i64 fJ)∧V.cell? ⟨b,off+m*9+6,none⟩=some (.int .i64 fI)∧V.cell? ⟨b,off+m*9+7,none⟩=some (.string (aj vs1))∧V.cell? ⟨b,off+m*9+8,none⟩=some (.slice eD dF eB)):=hid (fun V hV=>by
    have q:=aH (((iW.out.trans (hV.mono Fv)).block w.heap.size aJ).trans rJ.out)
    have g : ∀i u,([.string (aj s.nm),.int .i64 k1,.int .i64 op1,.string (aj dN),.string (aj fU),.int .i64 fJ,.int .i64 fI,.string (aj vs1),.slice eD dF eB]:List Value)[i]?=some u→V.cell? ⟨b,off+m*9+i,none⟩=some u:=fun i u hu=>(hV.cell (p:=⟨b,_,none⟩) hb0).trans (hcell i u hu)
    exact⟨q.1,q.2.1,q.2.2.1,g 0 _ rfl,g 1 _ rfl,g 2 _ rfl,g 3 _ rfl,g 4 _ rfl,g 5 _ rfl,g 6 _ rfl,g 7 _ rfl,g 8 _ rfl⟩)
   have Q6:Hid (∀V,Below wo.heap.size wo V→gH T V s.e (.agg #[.int .i64 k1,.int .i64 op1,.string (aj dN),.string (aj fU),.int .i64 fJ,.int .i64 fI,.string (aj vs1),.slice eD dF eB])):=hid (fun V hV=>⟨k1,op1,dN,fU,fJ,fI,vs1,ys1,eD,dF,eB,hse,rfl,hya.to (R:=fun _=>False) (ak.aA hV) (fun b hb _=>⟨id,hb⟩)⟩)
   have KZ:=hid (O5.out s (aaP hs))
   have HAH:Hid (∀(q:Nat) (x:Se),q<m→sets[q]?=some x→x∈sets.take m):=hid (fun q x hq hx=>by
    have:(sets.take m)[q]?=some x:=by rw[List.getElem?_take,if_pos hq];exact hx
    exact aaP this)
   have Vg:Hid (∀x∈sets.take m,∃q,q<m∧sets[q]?=some x):=hid (fun x hx=>by
    obtain⟨q,hq⟩:=List.mem_iff_getElem?.1 hx
    rw[List.getElem?_take] at hq
    split at hq
    ·rename_i h;exact⟨q,h,hq⟩
    ·cases hq)
   obtain⟨p,hp⟩:∃p,bF t.aC s.nm=p:=⟨_,rfl⟩
   have hd1:=MP t s.nm
   have HBAD:Hid (∀c,qI t (sets.take m) s=c→c≠0→R=c):=hid (fun c h1 h2=>by
    rw[h1] at hcx
    rw[← HR.out,iN HZ.out hcx h2])
   have qY:Hid (qI t (sets.take m) s=0→∀c∈(iO t [] sets).take (m+1),c=0):=hid (fun h=>zero_snoc HZ.out hcx h)
   have hS0:=HS.out wo.drew (Below.refl _ wo).drew
   obtain⟨Y,hY,bV,kL,dJ⟩:=aK wo.drew (.cells #[.string (aj t.nm),.slice a2 n2 c2,.int .i64 t.pr] 42)
   have nk:Below wo.heap.size wo Y:=((Below.refl _ wo).drew).trans bV
   have HC:=uX _ [t] _ [] s.nm Y (mX (cs:=[.string (aj t.nm),.slice a2 n2 c2,.int .i64 t.pr]) dJ (mI.out Y (iW.out.trans (nk.mono Fv)))) KX.out (by simp)
   have bZ:=hid nk
   clear hcell eO hse hya hs hcx HZ
   go_wp2_with fail
   refine dG (fun V:World=>V.cell? ⟨w.heap.size,0,none⟩=some (.string (aj t.nm))∧V.cell? ⟨w.heap.size,1,none⟩=some (.slice a2 n2 c2)∧V.cell? ⟨w.heap.size,2,none⟩=some (.int .i64 t.pr)∧V.cell? ⟨b,off+m*9,none⟩=some (.string (aj s.nm))∧V.cell? ⟨b,off+m*9+1,none⟩=some (.int .i64 k1)∧V.cell? ⟨b,off+m*9+2,none⟩=some (.int .i64 op1)∧V.cell? ⟨b,off+m*9+3,none⟩=some (.string (aj dN))∧V.cell? ⟨b,off+m*9+4,none⟩=some (.string (aj fU))∧V.cell? ⟨b,off+m*9+5,none⟩=some (.int .i64 fJ)∧V.cell? ⟨b,off+m*9+6,none⟩=some (.int .i64 fI)∧V.cell? ⟨b,off+m*9+7,none⟩=some (.string (aj vs1))∧V.cell? ⟨b,off+m*9+8,none⟩=some (.slice eD dF eB)) [] (by kernel_rfl) ?_
   refine fF (i:=0) rfl (by assumption) ?_
   refine fF (i:=2) rfl (by assumption) ?_
   refine fF (i:=3) rfl (by assumption) ?_
   refine fF (i:=4) rfl (by assumption) ?_
   refine fF (i:=5) rfl (by assumption) ?_
   refine fF (i:=6) rfl (by assumption) ?_
   refine bH (i:=1) (by kernel_rfl) rfl rfl (aW (ql rfl (by rfl) _) ?_)
   rw[hY]
   refine ⟨.inl (HS.out Y bZ.out),?_⟩
   simp only[Act.put,aas,aap,aaq,aag,aaw,aay]
   refine dM (i:=7) #[.slice (some ⟨wo.drew.heap.size,0,none⟩) 1 1,.string (aj []),.string (aj s.nm)] (fun v W=>v = .tuple #[.int .i64 (tJ [t] [] s.nm).1,.int .i64 (tJ [t] [] s.nm).2.1,.int .i64 (tJ [t] [] s.nm).2.2]∧W=Y) (by kernel_rfl) rfl rfl rfl (by kernel_rfl) (enters_of Tryz.func74 (by kernel_rfl) rfl) (HC.mono (fun e W h=>⟨_,h.1,rfl,h.2⟩)) ?_
   rintro _ W1 ⟨rfl,hW1⟩
   obtain rfl:Y=W1:=hW1.symm
   refine ⟨HS.out _ bZ.out,?_⟩
   simp only[Act.put,aas,aap,aaq,aag,aaw,aay]
   have hS1:=HS.out _ bZ.out
   rw[hp] at hd1
   by_cases hf:p<t.aC.length
   ·rw[if_pos hf] at hd1
    rw[hd1]
    dsimp only
    refine fF (i:=8) rfl (by assumption) ?_
    refine fF (i:=9) rfl (by assumption) ?_
    refine fF (i:=10) rfl (by assumption) ?_
    refine fF (i:=11) rfl (by assumption) ?_
    refine fF (i:=12) rfl (by assumption) ?_
    refine fF (i:=13) rfl (by assumption) ?_
    refine fF (i:=14) rfl (by assumption) ?_
    refine bN (by kernel_rfl) ?_ _
    show Only _ .normal _ _
    unfold Only
    have U0:Hid ((∀x∈sets.take m,x.nm≠s.nm)→qI t (sets.take m) s=iG (aI [t] s.e).2.1 (aI [t] s.e).2.2 (Af t.aC p)):=hid (fun h=>by rw[← hp];exact JQ (by rw[hp];exact hf) h)
    have HSD:Hid (∀x∈sets.take m,x.nm=s.nm→qI t (sets.take m) s=13):=hid (fun x hx e=>Lu (by rw[hp];exact hf) hx e)
    generalize Af t.aC p=want at U0 ⊢
    clear hS0 hS1 hd1 hp hf dJ bV nk HC hY
    go_wp2_with fail
    obtain⟨w5,XA⟩:∃w5,w5=Y:=⟨_,rfl⟩
    rw[← XA] at bZ ⊢
    go_loopw [9] (fun i wi=>∃(q:Nat),q≤m∧i = .int .i64 q∧Hid (Below wo.heap.size wo wi)∧Hid (∀(j:Nat) (x:Se),j<q→sets[j]?=some x→x.nm≠s.nm)) (fun i _=>m-(intOf i).toNat)
    case atStart=>exact⟨0,aaV _,rfl,bZ,hid (fun j x h=>absurd h (Nat.not_lt_zero _))⟩
    case round =>
     clear bZ XA
     obtain⟨q,hq,rfl,bZ,HQ⟩:=hrel
     by_cases hlq:q<m
     ·have Gh:((q:Int)<(m:Int)):=by omega
      have ags:((q:Int)<(sets.length:Int)):=by omega
      obtain⟨x,hx⟩:∃x,sets[q]?=some x:=⟨_,aaf (by omega)⟩
      obtain⟨_,_,_,b9,afH,ds9,e9,_,Z7,Me⟩:=bC (Wj.out wr (iW.out.trans (bZ.out.mono Fv))) hx
      simp only[abf,Addr.mk.injEq,and_true] at e9
      obtain⟨rfl,rfl⟩:=e9
      obtain⟨_,_,_,_,_,_,_,_,_,_,_,_,rfl,_⟩:=Z7
      have p0:=Me 0 _ rfl
      simp only[aa2] at p0
      have p1:=(HS.out wr bZ.out).2.2.2.1
      have ET:((aj x.nm).toList==(aj s.nm).toList)=decide (x.nm=s.nm):=by
       rw[aS,aS]
       by_cases h:x.nm=s.nm<;>simp[h]
      clear Me
      by_cases hxn:x.nm=s.nm
      ·rw[aar hxn] at ET
       have HE:Hid (R=13):=hid (HBAD.out 13 (HSD.out x (HAH.out q x hlq hx) hxn) (by decide))
       clear hx hxn HQ
       go_wp2_with fail
       go_quiet (fail)
       have iC:=hid (HB.out.trans ((iW.out.trans ((bZ.out.trans ((below_drewN (Below.refl _ wr) nq).mono bZ.out.size)).mono Fv)).mono HB.out.size))
       go_wp2
       go_ret
       exact⟨by rw[HE.out];try rfl,iC.out⟩
      ·rw[aaj hxn] at ET
       have dA:Hid (∀(j:Nat) (y:Se),j<q+1→sets[j]?=some y→y.nm≠s.nm):=hid (fun j y hj hy=>by
        rcases Nat.lt_or_ge j q with h | h
        ·exact HQ.out j y h hy
        ·obtain rfl:j=q:=by omega
         rw[hx] at hy
         rw[← Option.some.inj hy]
         exact hxn)
       clear hx hxn HQ
       go_wp2_with fail
       go_quiet (fail)
       have iC:=hid (bZ.out.trans ((below_drewN (Below.refl _ wr) nq).mono bZ.out.size))
       go_wp2
       go_roundw
       case rel=>exact⟨q+1,by omega,by go_num,iC,dA⟩
       case measure=>simp[intOf];omega
     ·have Gh : ¬((q:Int)<(m:Int)):=by omega
      have Jm:=hid (U0.out (fun x hx=>by
       obtain⟨j,hj,hxj⟩:=Vg.out x hx
       exact HQ.out j x (by omega) hxj))
      have hzy:=bZ.out.size
      have hS0:=HS.out wr.drew bZ.out.drew
      have MR:=hid (iW.out.trans (bZ.out.mono Fv))
      clear U0 HSD HQ HAH Vg
      go_wp2_with fail
      refine dG (fun V:World=>V.cell? ⟨w.heap.size,0,none⟩=some (.string (aj t.nm))∧V.cell? ⟨w.heap.size,1,none⟩=some (.slice a2 n2 c2)∧V.cell? ⟨w.heap.size,2,none⟩=some (.int .i64 t.pr)∧V.cell? ⟨b,off+m*9,none⟩=some (.string (aj s.nm))∧V.cell? ⟨b,off+m*9+1,none⟩=some (.int .i64 k1)∧V.cell? ⟨b,off+m*9+2,none⟩=some (.int .i64 op1)∧V.cell? ⟨b,off+m*9+3,none⟩=some (.string (aj dN))∧V.cell? ⟨b,off+m*9+4,none⟩=some (.string (aj fU))∧V.cell? ⟨b,off+m*9+5,none⟩=some (.int .i64 fJ)∧V.cell? ⟨b,off+m*9+6,none⟩=some (.int .i64 fI)∧V.cell? ⟨b,off+m*9+7,none⟩=some (.string (aj vs1))∧V.cell? ⟨b,off+m*9+8,none⟩=some (.slice eD dF eB)) [] (by kernel_rfl) ?_
      refine fF (i:=0) rfl (by assumption) ?_
      refine fF (i:=2) rfl (by assumption) ?_
      refine fF (i:=3) rfl (by assumption) ?_
      refine fF (i:=4) rfl (by assumption) ?_
      refine fF (i:=5) rfl (by assumption) ?_
      refine fF (i:=6) rfl (by assumption) ?_
      have kJ:Hid (∀(Y:World) (g:Nat),Below wr.heap.size wr Y→Y.heap[g]?=some (.cells #[.string (aj t.nm),.slice a2 n2 c2,.int .i64 t.pr] 42)→Calls Tryz.prog 75 #[.slice (some ⟨g,0,none⟩) 1 1,.agg #[.int .i64 k1,.int .i64 op1,.string (aj dN),.string (aj fU),.int .i64 fJ,.int .i64 fI,.string (aj vs1),.slice eD dF eB]] Y fun e w'=>∃u,e = .returned (.tuple #[u,.int .i64 (aI [t] s.e).2.1,.int .i64 (aI [t] s.e).2.2])∧gH (fun b=>Y.heap.size≤b) w' (aI [t] s.e).1 u∧Below Y.heap.size Y w'):=hid (fun Y g hY hc=>jU _ _ [t] s.e _ _ Y KZ.out (Q6.out Y (bZ.out.trans (hY.mono hzy))) (mX (cs:=[.string (aj t.nm),.slice a2 n2 c2,.int .i64 t.pr]) hc (mI.out Y (MR.out.trans (hY.mono MR.out.size)))) KX.out (by simp))
      have p8:Hid (∀V,Below wr.heap.size wr V→V.cell? ⟨w.heap.size,0,none⟩=some (.string (aj t.nm))∧V.cell? ⟨w.heap.size,1,none⟩=some (.slice a2 n2 c2)∧V.cell? ⟨w.heap.size,2,none⟩=some (.int .i64 t.pr)∧V.cell? ⟨b,off+m*9,none⟩=some (.string (aj s.nm))∧V.cell? ⟨b,off+m*9+1,none⟩=some (.int .i64 k1)∧V.cell? ⟨b,off+m*9+2,none⟩=some (.int .i64 op1)∧V.cell? ⟨b,off+m*9+3,none⟩=some (.string (aj dN))∧V.cell? ⟨b,off+m*9+4,none⟩=some (.string (aj fU))∧V.cell? ⟨b,off+m*9+5,none⟩=some (.int .i64 fJ)∧V.cell? ⟨b,off+m*9+6,none⟩=some (.int .i64 fI)∧V.cell? ⟨b,off+m*9+7,none⟩=some (.string (aj vs1))∧V.cell? ⟨b,off+m*9+8,none⟩=some (.slice eD dF eB)):=hid (fun V hV=>HS.out V (bZ.out.trans (hV.mono hzy)))
      generalize aI [t] s.e=XX at kJ Jm
      obtain⟨X,kd,c⟩:=XX
      dsimp only at kJ Jm
      have iT:Hid (iG kd c want≠0→R=iG kd c want):=hid (fun h=>HBAD.out _ Jm.out h)
      have nu:Hid (iG kd c want=0→∀c∈(iO t [] sets).take (m+1),c=0):=hid (fun h=>qY.out (Jm.out.trans h))
      have yE:Hid (∀V,Below wr.heap.size wr V→Below w.heap.size w V∧Below W.heap.size W V):=hid (fun V hV=>by
       have h2:=MR.out.trans (hV.mono MR.out.size)
       exact⟨HB.out.trans (h2.mono HB.out.size),h2⟩)
      clear Jm HBAD qY HS Q6 mI KZ bZ iW MR Wj rJ HB
      refine jS (i:=1) (j:=12) (by kernel_rfl) rfl rfl rfl rfl ?_ ?_
      ·obtain⟨Y,hY,bV,kL,dJ⟩:=aK wr.drew (.cells #[.string (aj t.nm),.slice a2 n2 c2,.int .i64 t.pr] 42)
       have nk:Below wr.heap.size wr Y:=(((Below.refl wr.heap.size wr).drew)).trans (bV.mono (((Below.refl wr.heap.size wr).drew)).size)
       refine aW (ql rfl (by rfl) _) ?_
       rw[hY]
       refine ⟨.inl (p8.out Y nk),?_⟩
       simp only[Act.put,aas,aap,aaq,aag,aaw,aay]
       refine jS (i:=7) (j:=12) (by kernel_rfl) rfl rfl rfl rfl ?_ ?_
       ·refine Ec #[.slice (some ⟨wr.drew.heap.size,0,none⟩) 1 1,.agg #[.int .i64 k1,.int .i64 op1,.string (aj dN),.string (aj fU),.int .i64 fJ,.int .i64 fI,.string (aj vs1),.slice eD dF eB]] (fun v W=>∃u,v = .tuple #[u,.int .i64 kd,.int .i64 c]∧gH (fun b=>Y.heap.size≤b) W X u∧Below Y.heap.size Y W) rfl (by kernel_rfl) (enters_of Tryz.func75 (by kernel_rfl) rfl) ((kJ.out Y wr.drew.heap.size nk dJ).mono (fun e W h=>by obtain⟨u,he,hx,hb⟩:=h;exact⟨_,he,u,rfl,hx,hb⟩)) ?_
        rintro _ W2 ⟨u,rfl,hxu,hb2⟩
        obtain⟨k2,op2,bX,eH,dS,dU,vs2,ys2,dR,dY,dP,_,rfl,_⟩:=hxu
        have hbW2:Below wr.heap.size wr W2:=(nk).trans (hb2.mono (nk).size)
        refine ⟨.inl (p8.out W2 hbW2),?_⟩
        simp only[Act.put,aas,aap,aaq,aag,aaw,aay]
        have hSe:=p8.out _ hbW2
        refine fF (i:=8) rfl (by assumption) ?_
        refine fF (i:=9) rfl (by assumption) ?_
        refine fF (i:=10) rfl (by assumption) ?_
        refine fF (i:=11) rfl (by assumption) ?_
        obtain⟨X1,hX1,pF,Oo,L9⟩:=aK W2 (.cells eT 48)
        have hbX:Below wr.heap.size wr X1:=(hbW2).trans (pF.mono (hbW2).size)
        refine bH (i:=12) (by kernel_rfl) rfl rfl (aW (xK _ _ rfl _) ?_)
        rw[hX1]
        refine ⟨.inl (p8.out X1 hbX),?_⟩
        simp only[Act.put,aas,aap,aaq,aag,aaw,aay]
        have R7:wr.heap.size≤W2.heap.size:=hbW2.size
        have YJ:=p8.out _ hbX
        have Dn:Below wr.heap.size wr (X1.setRow W2.heap.size #[.int .i64 k2,.int .i64 op2,.string (aj bX),.string (aj eH),.int .i64 dS,.int .i64 dU,.string (aj vs2),.slice dR dY dP]):=(hbX).trans ((ak.setRow (S:=fun k=>k=W2.heap.size) (ak.refl _ X1) (p:=W2.heap.size) (.inl rfl) _).below (fun i hi=>by have:=R7;omega) (hbX).size)
        refine jf (i:=13) (by kernel_rfl) rfl rfl 48 (.tmp 10) (.tmp 58) rfl W2.heap.size #[.int .i64 k2,.int .i64 op2,.string (aj bX),.string (aj eH),.int .i64 dS,.int .i64 dU,.string (aj vs2),.slice dR dY dP] (by rfl) (by rfl) 48 _ L9 Tryz.sizeEx rfl (iF _ _ _ _ _ _ _ _ _ _) (.inl (p8.out _ Dn)) ?_
        simp only[Act.put,aas,aap,aaq,aag,aaw,aay]
        refine fF (i:=14) rfl (p8.out _ Dn) ?_
        refine fF (i:=15) rfl (p8.out _ Dn) ?_
        refine bN (by kernel_rfl) ?_ _
        show Only _ .normal _ _
        unfold Only
        have lJ:=hid Dn
        clear hS0 YJ Dn R7
        generalize X1.setRow W2.heap.size #[.int .i64 k2,.int .i64 op2,.string (aj bX),.string (aj eH),.int .i64 dS,.int .i64 dU,.string (aj vs2),.slice dR dY dP]=Z at lJ ⊢
        by_cases hc:c=0
        ·subst hc
         by_cases hk0:kd=0
         ·have Hy:Hid (∀c∈(iO t [] sets).take (m+1),c=0):=hid (nu.out (by unfold iG;rw[if_neg (fun h=>h.2.1 hk0)]))
          have hk0':(kd != 0)=false:=by rw[bne_eq_false_iff_eq];exact hk0
          by_cases pY:kd=want
          ·have yc:(kd != want)=false:=by rw[bne_eq_false_iff_eq];exact pY
           have jE:=hid (yE.out Z lJ.out).2
           clear hk0 pY nu iT
           go_wp2
           go_roundw
           case rel=>exact⟨m+1,by omega,by go_num,jE,Hy⟩
           case measure=>simp[intOf];omega
          ·have yc:(kd != want)=true:=by rw[bne_iff_ne];exact pY
           have jE:=hid (yE.out Z lJ.out).2
           clear hk0 pY nu iT
           go_wp2
           go_roundw
           case rel=>exact⟨m+1,by omega,by go_num,jE,Hy⟩
           case measure=>simp[intOf];omega
         ·have hk0':(kd != 0)=true:=by rw[bne_iff_ne];exact hk0
          by_cases pY:kd=want
          ·have Hy:Hid (∀c∈(iO t [] sets).take (m+1),c=0):=hid (nu.out (by unfold iG;rw[if_neg (fun h=>h.2.2 pY)]))
           have yc:(kd != want)=false:=by rw[bne_eq_false_iff_eq];exact pY
           have jE:=hid (yE.out Z lJ.out).2
           clear hk0 pY nu iT
           go_wp2
           go_roundw
           case rel=>exact⟨m+1,by omega,by go_num,jE,Hy⟩
           case measure=>simp[intOf];omega
          ·have hls:iG kd 0 want=9:=by unfold iG;rw[if_pos ⟨rfl,hk0,pY⟩]
           have HE:Hid (R=9):=hid (by rw[← hls];exact iT.out (by rw[hls];decide))
           have yc:(kd != want)=true:=by rw[bne_iff_ne];exact pY
           have jE:=hid (yE.out Z lJ.out).1
           clear hk0 pY nu iT hls
           go_wp2
           go_ret
           exact⟨by rw[HE.out];try rfl,jE.out⟩
        ·have hls:iG kd c want=c:=by unfold iG;rw[if_neg (fun h=>hc h.1)]
         have HE:Hid (R=c):=hid (by have:=iT.out (by rw[hls];exact hc);rw[this,hls])
         have hc':(c != 0)=true:=by rw[bne_iff_ne];exact hc
         have jE:=hid (yE.out Z lJ.out).1
         clear hc nu iT hls
         go_wp2
         go_ret
         exact⟨by rw[HE.out];try rfl,jE.out⟩
       ·obtain⟨X1,hX1,pF,Oo,L9⟩:=aK Y (.cells eT 48)
        have hbX:Below wr.heap.size wr X1:=(nk).trans (pF.mono (nk).size)
        refine aW (xK _ _ rfl _) ?_
        rw[hX1]
        refine ⟨.inl (p8.out X1 hbX),?_⟩
        simp only[Act.put,aas,aap,aaq,aag,aaw,aay]
        refine dM (i:=7) #[.slice (some ⟨wr.drew.heap.size,0,none⟩) 1 1,.agg #[.int .i64 k1,.int .i64 op1,.string (aj dN),.string (aj fU),.int .i64 fJ,.int .i64 fI,.string (aj vs1),.slice eD dF eB]] (fun v W=>∃u,v = .tuple #[u,.int .i64 kd,.int .i64 c]∧gH (fun b=>X1.heap.size≤b) W X u∧Below X1.heap.size X1 W) (by kernel_rfl) rfl rfl rfl (by kernel_rfl) (enters_of Tryz.func75 (by kernel_rfl) rfl) ((kJ.out X1 wr.drew.heap.size hbX ((pF.block _ kL).trans dJ)).mono (fun e W h=>by obtain⟨u,he,hx,hb⟩:=h;exact⟨_,he,u,rfl,hx,hb⟩)) ?_
        rintro _ W2 ⟨u,rfl,hxu,hb2⟩
        obtain⟨k2,op2,bX,eH,dS,dU,vs2,ys2,dR,dY,dP,_,rfl,_⟩:=hxu
        have hbW2:Below wr.heap.size wr W2:=(hbX).trans (hb2.mono (hbX).size)
        refine ⟨p8.out W2 hbW2,?_⟩
        simp only[Act.put,aas,aap,aaq,aag,aaw,aay]
        have hSe:=p8.out _ hbW2
        refine fF (i:=8) rfl (by assumption) ?_
        refine fF (i:=9) rfl (by assumption) ?_
        refine fF (i:=10) rfl (by assumption) ?_
        refine fF (i:=11) rfl (by assumption) ?_
        have R7:wr.heap.size≤Y.heap.size:=nk.size
        have Ea:=(hb2.block _ Oo).trans L9
        clear hX1
        obtain⟨X1o,ahv⟩:∃X1o,X1o=X1:=⟨_,rfl⟩
        have YJ:=p8.out _ hbW2
        have Dn:Below wr.heap.size wr (W2.setRow Y.heap.size #[.int .i64 k2,.int .i64 op2,.string (aj bX),.string (aj eH),.int .i64 dS,.int .i64 dU,.string (aj vs2),.slice dR dY dP]):=(hbW2).trans ((ak.setRow (S:=fun k=>k=Y.heap.size) (ak.refl _ W2) (p:=Y.heap.size) (.inl rfl) _).below (fun i hi=>by have:=R7;omega) (hbW2).size)
        refine jf (i:=13) (by kernel_rfl) rfl rfl 48 (.tmp 10) (.tmp 58) rfl Y.heap.size #[.int .i64 k2,.int .i64 op2,.string (aj bX),.string (aj eH),.int .i64 dS,.int .i64 dU,.string (aj vs2),.slice dR dY dP] (by rfl) (by rfl) 48 _ Ea Tryz.sizeEx rfl (iF _ _ _ _ _ _ _ _ _ _) (.inl (p8.out _ Dn)) ?_
        simp only[Act.put,aas,aap,aaq,aag,aaw,aay]
        refine fF (i:=14) rfl (p8.out _ Dn) ?_
        refine fF (i:=15) rfl (p8.out _ Dn) ?_
        refine bN (by kernel_rfl) ?_ _
        show Only _ .normal _ _
        unfold Only
        have lJ:=hid Dn
        clear hS0 YJ Dn R7
        generalize W2.setRow Y.heap.size #[.int .i64 k2,.int .i64 op2,.string (aj bX),.string (aj eH),.int .i64 dS,.int .i64 dU,.string (aj vs2),.slice dR dY dP]=Z at lJ ⊢
        by_cases hc:c=0
        ·subst hc
         by_cases hk0:kd=0
         ·have Hy:Hid (∀c∈(iO t [] sets).take (m+1),c=0):=hid (nu.out (by unfold iG;rw[if_neg (fun h=>h.2.1 hk0)]))
          have hk0':(kd != 0)=false:=by rw[bne_eq_false_iff_eq];exact hk0
          by_cases pY:kd=want
          ·have yc:(kd != want)=false:=by rw[bne_eq_false_iff_eq];exact pY
           have jE:=hid (yE.out Z lJ.out).2
           clear hk0 pY nu iT
           go_wp2
           go_roundw
           case rel=>exact⟨m+1,by omega,by go_num,jE,Hy⟩
           case measure=>simp[intOf];omega
          ·have yc:(kd != want)=true:=by rw[bne_iff_ne];exact pY
           have jE:=hid (yE.out Z lJ.out).2
           clear hk0 pY nu iT
           go_wp2
           go_roundw
           case rel=>exact⟨m+1,by omega,by go_num,jE,Hy⟩
           case measure=>simp[intOf];omega
         ·have hk0':(kd != 0)=true:=by rw[bne_iff_ne];exact hk0
          by_cases pY:kd=want
          ·have Hy:Hid (∀c∈(iO t [] sets).take (m+1),c=0):=hid (nu.out (by unfold iG;rw[if_neg (fun h=>h.2.2 pY)]))
           have yc:(kd != want)=false:=by rw[bne_eq_false_iff_eq];exact pY
           have jE:=hid (yE.out Z lJ.out).2
           clear hk0 pY nu iT
           go_wp2
           go_roundw
           case rel=>exact⟨m+1,by omega,by go_num,jE,Hy⟩
           case measure=>simp[intOf];omega
          ·have hls:iG kd 0 want=9:=by unfold iG;rw[if_pos ⟨rfl,hk0,pY⟩]
           have HE:Hid (R=9):=hid (by rw[← hls];exact iT.out (by rw[hls];decide))
           have yc:(kd != want)=true:=by rw[bne_iff_ne];exact pY
           have jE:=hid (yE.out Z lJ.out).1
           clear hk0 pY nu iT hls
           go_wp2
           go_ret
           exact⟨by rw[HE.out];try rfl,jE.out⟩
        ·have hls:iG kd c want=c:=by unfold iG;rw[if_neg (fun h=>hc h.1)]
         have HE:Hid (R=c):=hid (by have:=iT.out (by rw[hls];exact hc);rw[this,hls])
         have hc':(c != 0)=true:=by rw[bne_iff_ne];exact hc
         have jE:=hid (yE.out Z lJ.out).1
         clear hc nu iT hls
         go_wp2
         go_ret
         exact⟨by rw[HE.out];try rfl,jE.out⟩
      ·obtain⟨X1,hX1,pF,Oo,L9⟩:=aK wr.drew (.cells eT 48)
       have hbX:Below wr.heap.size wr X1:=(((Below.refl wr.heap.size wr).drew)).trans (pF.mono (((Below.refl wr.heap.size wr).drew)).size)
       refine aW (xK _ _ rfl _) ?_
       rw[hX1]
       refine ⟨.inl (p8.out X1 hbX),?_⟩
       simp only[Act.put,aas,aap,aaq,aag,aaw,aay]
       refine bH (i:=1) (by kernel_rfl) rfl rfl ?_
       obtain⟨Y,hY,bV,kL,dJ⟩:=aK X1 (.cells #[.string (aj t.nm),.slice a2 n2 c2,.int .i64 t.pr] 42)
       have nk:Below wr.heap.size wr Y:=(hbX).trans (bV.mono (hbX).size)
       refine aW (ql rfl (by rfl) _) ?_
       rw[hY]
       refine ⟨.inl (p8.out Y nk),?_⟩
       simp only[Act.put,aas,aap,aaq,aag,aaw,aay]
       refine dM (i:=7) #[.slice (some ⟨X1.heap.size,0,none⟩) 1 1,.agg #[.int .i64 k1,.int .i64 op1,.string (aj dN),.string (aj fU),.int .i64 fJ,.int .i64 fI,.string (aj vs1),.slice eD dF eB]] (fun v W=>∃u,v = .tuple #[u,.int .i64 kd,.int .i64 c]∧gH (fun b=>Y.heap.size≤b) W X u∧Below Y.heap.size Y W) (by kernel_rfl) rfl rfl rfl (by kernel_rfl) (enters_of Tryz.func75 (by kernel_rfl) rfl) ((kJ.out Y X1.heap.size nk dJ).mono (fun e W h=>by obtain⟨u,he,hx,hb⟩:=h;exact⟨_,he,u,rfl,hx,hb⟩)) ?_
       rintro _ W2 ⟨u,rfl,hxu,hb2⟩
       obtain⟨k2,op2,bX,eH,dS,dU,vs2,ys2,dR,dY,dP,_,rfl,_⟩:=hxu
       have hbW2:Below wr.heap.size wr W2:=(nk).trans (hb2.mono (nk).size)
       refine ⟨p8.out W2 hbW2,?_⟩
       simp only[Act.put,aas,aap,aaq,aag,aaw,aay]
       have hSe:=p8.out _ hbW2
       refine fF (i:=8) rfl (by assumption) ?_
       refine fF (i:=9) rfl (by assumption) ?_
       refine fF (i:=10) rfl (by assumption) ?_
       refine fF (i:=11) rfl (by assumption) ?_
       have R7:wr.heap.size≤wr.drew.heap.size:=((Below.refl wr.heap.size wr).drew).size
       have Ea:=(hb2.block _ (aa7 Oo bV.size)).trans ((bV.block _ Oo).trans L9)
       have YJ:=p8.out _ hbW2
       have Dn:Below wr.heap.size wr (W2.setRow wr.drew.heap.size #[.int .i64 k2,.int .i64 op2,.string (aj bX),.string (aj eH),.int .i64 dS,.int .i64 dU,.string (aj vs2),.slice dR dY dP]):=(hbW2).trans ((ak.setRow (S:=fun k=>k=wr.drew.heap.size) (ak.refl _ W2) (p:=wr.drew.heap.size) (.inl rfl) _).below (fun i hi=>by have:=R7;omega) (hbW2).size)
       refine jf (i:=13) (by kernel_rfl) rfl rfl 48 (.tmp 10) (.tmp 58) rfl wr.drew.heap.size #[.int .i64 k2,.int .i64 op2,.string (aj bX),.string (aj eH),.int .i64 dS,.int .i64 dU,.string (aj vs2),.slice dR dY dP] (by rfl) (by rfl) 48 _ Ea Tryz.sizeEx rfl (iF _ _ _ _ _ _ _ _ _ _) (.inl (p8.out _ Dn)) ?_
       simp only[Act.put,aas,aap,aaq,aag,aaw,aay]
       refine fF (i:=14) rfl (p8.out _ Dn) ?_
       refine fF (i:=15) rfl (p8.out _ Dn) ?_
       refine bN (by kernel_rfl) ?_ _
       show Only _ .normal _ _
       unfold Only
       have lJ:=hid Dn
       clear hS0 YJ Dn R7
       generalize W2.setRow wr.drew.heap.size #[.int .i64 k2,.int .i64 op2,.string (aj bX),.string (aj eH),.int .i64 dS,.int .i64 dU,.string (aj vs2),.slice dR dY dP]=Z at lJ ⊢
       by_cases hc:c=0
       ·subst hc
        by_cases hk0:kd=0
        ·have Hy:Hid (∀c∈(iO t [] sets).take (m+1),c=0):=hid (nu.out (by unfold iG;rw[if_neg (fun h=>h.2.1 hk0)]))
         have hk0':(kd != 0)=false:=by rw[bne_eq_false_iff_eq];exact hk0
         by_cases pY:kd=want
         ·have yc:(kd != want)=false:=by rw[bne_eq_false_iff_eq];exact pY
          have jE:=hid (yE.out Z lJ.out).2
          clear hk0 pY nu iT
          go_wp2
          go_roundw
          case rel=>exact⟨m+1,by omega,by go_num,jE,Hy⟩
          case measure=>simp[intOf];omega
         ·have yc:(kd != want)=true:=by rw[bne_iff_ne];exact pY
          have jE:=hid (yE.out Z lJ.out).2
          clear hk0 pY nu iT
          go_wp2
          go_roundw
          case rel=>exact⟨m+1,by omega,by go_num,jE,Hy⟩
          case measure=>simp[intOf];omega
        ·have hk0':(kd != 0)=true:=by rw[bne_iff_ne];exact hk0
         by_cases pY:kd=want
         ·have Hy:Hid (∀c∈(iO t [] sets).take (m+1),c=0):=hid (nu.out (by unfold iG;rw[if_neg (fun h=>h.2.2 pY)]))
          have yc:(kd != want)=false:=by rw[bne_eq_false_iff_eq];exact pY
          have jE:=hid (yE.out Z lJ.out).2
          clear hk0 pY nu iT
          go_wp2
          go_roundw
          case rel=>exact⟨m+1,by omega,by go_num,jE,Hy⟩
          case measure=>simp[intOf];omega
         ·have hls:iG kd 0 want=9:=by unfold iG;rw[if_pos ⟨rfl,hk0,pY⟩]
          have HE:Hid (R=9):=hid (by rw[← hls];exact iT.out (by rw[hls];decide))
          have yc:(kd != want)=true:=by rw[bne_iff_ne];exact pY
          have jE:=hid (yE.out Z lJ.out).1
          clear hk0 pY nu iT hls
          go_wp2
          go_ret
          exact⟨by rw[HE.out];try rfl,jE.out⟩
       ·have hls:iG kd c want=c:=by unfold iG;rw[if_neg (fun h=>hc h.1)]
        have HE:Hid (R=c):=hid (by have:=iT.out (by rw[hls];exact hc);rw[this,hls])
        have hc':(c != 0)=true:=by rw[bne_iff_ne];exact hc
        have jE:=hid (yE.out Z lJ.out).1
        clear hc nu iT hls
        go_wp2
        go_ret
        exact⟨by rw[HE.out];try rfl,jE.out⟩
   ·rw[if_neg hf] at hd1
    rw[hd1]
    dsimp only
    refine fF (i:=8) rfl (by assumption) ?_
    refine fF (i:=9) rfl (by assumption) ?_
    refine fF (i:=10) rfl (by assumption) ?_
    refine fF (i:=11) rfl (by assumption) ?_
    refine fF (i:=12) rfl (by assumption) ?_
    refine fF (i:=13) rfl (by assumption) ?_
    refine fF (i:=14) rfl (by assumption) ?_
    refine bN (by kernel_rfl) ?_ _
    show Only _ .normal _ _
    unfold Only
    have HE:Hid (R=12):=hid (HBAD.out 12 (Ja (by rw[hp];exact hf)) (by decide))
    have iC:=hid (HB.out.trans ((iW.out.trans (bZ.out.mono Fv)).mono HB.out.size))
    clear hS0 hS1 hd1 hp hf dJ bV nk HC hY
    go_wp2
    go_ret
    exact⟨by rw[HE.out];try rfl,iC.out⟩
  ·have hlt' : ¬((m:Int)<(sets.length:Int)):=by omega
   have HE:Hid (R=0):=hid (by rw[← HR.out,fq];have:=HZ.out;rwa [aaU (by rw[O4.out];omega)] at this)
   have iC:=hid (HB.out.trans (iW.out.mono HB.out.size))
   clear HZ
   go_wp2
   go_ret
   exact⟨by rw[HE.out];try rfl,iC.out⟩
end Go.Proofs.YtfeglkleoijlaaaGreatDoor
