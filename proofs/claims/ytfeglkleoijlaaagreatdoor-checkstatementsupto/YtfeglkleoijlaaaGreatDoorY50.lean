import Derived.Test.YtfeglkleoijlaaaGreatDoorY39
import Derived.Test.YtfeglkleoijlaaaGreatDoorY48
import Derived.Test.YtfeglkleoijlaaaGreatDoorY49
import Derived.Test.YtfeglkleoijlaaaGreatDoorY44
import Derived.Test.YtfeglkleoijlaaaGreatDoorY45
import Derived.Test.YtfeglkleoijlaaaGreatDoorY47
import Derived.Test.YtfeglkleoijlaaaGreatDoorY26
import Derived.Test.YtfeglkleoijlaaaGreatDoorY41
import Derived.Deep.RegionHeld3
namespace Go.Proofs.YtfeglkleoijlaaaGreatDoor
open Go.RowKit Go.Shelf
set_option linter.unusedSimpArgs false
set_option linter.unusedVariables false
set_option maxRecDepth 20000
set_option maxHeartbeats 8000000
theorem Nt (S:Nat→Prop) (s:St) (cs:List Value) (w:World) (hR:vZ s) (hx:fD S w s cs) (hk:s.k<1∨6<s.k) :
  Calls Tryz.prog 26 #[.agg cs.toArray] w fun e w'=>e = .returned (.bool (aQ s))∧Below w.heap.size w w':=by
 have hX:aQ s=false:=by
  unfold aQ lY
  rw[if_neg (by omega),if_neg (by omega),if_neg (by omega),if_neg (by omega),if_neg (by omega),if_neg (by omega)]
  rfl
 rw[hX]
 have hrt:=hR.tb
 clear hX hR
 obtain⟨a1,a2,a3,a4,a5,a6,a7,a8,n1,n2,n3,n4,n5,n6,n7,n8,c1,c2,c3,c4,c5,c6,c7,c8,rfl,_⟩:=hx
 obtain⟨k,tn,aC,aD,rows,sets,items,jn,on,wh,gr,od,desc,lim⟩:=s
 dsimp only at *
 obtain⟨W,hW,hbW,aJ,hcW⟩:=aK w (.cells #[.int .i64 k,.string (aj tn),.slice a1 n1 c1,.string (aj aD),.slice a2 n2 c2,.slice a3 n3 c3,.slice a4 n4 c4,.string (aj jn),.slice a5 n5 c5,.slice a6 n6 c6,.slice a7 n7 c7,.slice a8 n8 c8,.bool desc,.int .i64 lim] 29)
 have k0:=au hcW
 have dI:=hid hcW
 have eF:=hid hbW
 have jI:=hid (fA tn W hrt)
 generalize aU tn=bn at jI
 clear hbW hcW hrt
 have hkk:k<1∨(¬k<1∧6<k):=by omega
 clear hk
 rcases hkk with hk | ⟨hk,IV⟩
 all_goals
  go_enter Tryz.func26,Tryz.ntmps26
  go_wp2_with fail
  try rw[hW]
  refine jI.out.mono ?_
  rintro e w1 ⟨rfl,hb1⟩
  have HB1:=htr eF hb1
  have kk:=au ((hb1.block w.heap.size aJ).trans dI.out)
  clear hb1 jI k0
  cases bn with
  |
   false =>
   go_wp2
   go_ret
   exact⟨rfl,HB1.out⟩
  |
   true =>
   go_wp2
   go_ret
   exact⟨rfl,HB1.out⟩
theorem zJ (S:Nat→Prop) (s:St) (cs:List Value) (w:World) (hR:vZ s) (hx:fD S w s cs) :
  Calls Tryz.prog 26 #[.agg cs.toArray] w fun e w'=>e = .returned (.bool (aQ s))∧Below w.heap.size w w':=by
 by_cases h1:s.k=1
 ·exact Im S s cs w hR hx h1
 by_cases h2:s.k=2
 ·exact Qj S s cs w hR hx h2
 by_cases h3:s.k=3
 ·exact Qs S s cs w hR hx h3
 by_cases h4:s.k=4
 ·exact Ql S s cs w hR hx h4
 by_cases h5:s.k=5
 ·exact Qy S s cs w hR hx h5
 by_cases h6:s.k=6
 ·exact Q0 S s cs w hR hx h6
 exact Nt S s cs w hR hx (by omega)
theorem fD.WO {S:Nat→Prop} {w:World} {s:St} {v0 v1 v3 v7 v12 v13:Value} {b1 b2 b3 b4 b5 b6 b7 b8:Option Addr} {m1 m2 m3 m4 m5 m6 m7 m8 d1 d2 d3 d4 d5 d6 d7 d8:Nat}
  (h:fD S w s [v0,v1,.slice b1 m1 d1,v3,.slice b2 m2 d2,.slice b3 m3 d3,.slice b4 m4 d4,v7,.slice b5 m5 d5,.slice b6 m6 d6,.slice b7 m7 d7,.slice b8 m8 d8,v12,v13]):aM 9 BM S w s.sets (.slice b3 m3 d3):=by
 obtain⟨e1,e2,e3,e4,e5,e6,e7,e8,f1,f2,f3,f4,f5,f6,f7,f8,g1,g2,g3,g4,g5,g6,g7,g8,he,_,_,h2,_⟩:=h
 simp only[List.cons.injEq,aah,and_true] at he
 obtain⟨_,_,_,_,_,⟨rfl,rfl,rfl⟩,_⟩:=he
 exact h2
theorem DI {s:St} (hr:aQ s=true):(s.wh.length≤1∧∀x∈s.wh,aF x=true)∧(∀x∈s.sets,aF x.e=true)∧(s.k=6→Rp s∧(s.on.length≤1∧∀x∈s.on,aF x=true)∧(s.jn=[]→s.on=[])):=by
 have hk0:=sI hr
 unfold aQ at hr
 simp only[aaC] at hr
 obtain⟨hk,hn,he⟩:=hr
 unfold oF yF at he
 unfold lY at hk
 have EW : ∀{x:Ex},dO x=true→aF x=true∧fV x=2:=fun h=>by
  unfold dO at h
  simp only[aaC,aaI] at h
  exact⟨h.2,h.1⟩
 have hset : ∀{x:Se},j6 x=true→aF x.e=true:=fun h=>by
  unfold j6 at h
  simp only[aaC] at h
  exact h.2
 have hnn : ∀{P:Se→Prop} {l:List Se},l.length=0→∀x∈l,P x:=fun h x hx=>by rw[aaR h] at hx;cases hx
 rcases hk0 with e | e | e | e | e | e
 all_goals simp only[e,if_true,if_false,Int.reduceEq,reduceIte,aaI] at he hk
 ·obtain⟨_,_,_,_,h5,h6,h7,h8,h9,h10,h11,h12,_⟩:=he
  exact⟨⟨by omega,bT h10⟩,hnn h6,fun h=>by omega⟩
 ·obtain⟨_,_,_,_,h5,h6,h7,h8,h9,h10,h11,h12,_⟩:=he
  exact⟨⟨by omega,bT h10⟩,hnn h6,fun h=>by omega⟩
 ·obtain⟨_,_,_,_,h5,h6,h7,h8,h9,h10,h11,h12,_⟩:=he
  exact⟨⟨by omega,bT h10⟩,hnn h6,fun h=>by omega⟩
 ·simp only[aaC] at hk
  have l2:=bG hk.2
  exact⟨⟨by omega,aP hk.2⟩,fun x hx=>hset (aP hk.1 x hx),fun h=>by omega⟩
 ·obtain⟨_,_,_,_,h5,h6,h7,h8,h9,h10,h11,h12,_⟩:=he
  have l2:=bG hk
  exact⟨⟨by omega,aP hk⟩,hnn h6,fun h=>by omega⟩
 ·obtain⟨_,_,_,_,h5,h6,_⟩:=he
  unfold yA at hk
  simp only[aaC] at hk
  obtain⟨k1,k2,k3,k4,k5,k6,_⟩:=hk
  have l1:=bG k1
  have l3:=bG k3
  have l4:=bG k4
  have l5:=bG k5
  have l6:=bG k6
  have hj1:gB s.jn≤1:=by unfold gB;split<;>omega
  refine ⟨⟨by omega,aP k4⟩,hnn h6,fun _=>⟨⟨by omega,aP k1,⟨by omega,aP k4⟩,⟨by omega,fun x hx=>EW (aP k5 x hx)⟩,⟨by omega,fun x hx=>(EW (aP k6 x hx)).1⟩⟩,⟨by omega,aP k3⟩,fun h=>?_⟩⟩
  have h0:gB s.jn=0:=by unfold gB;rw[if_pos h]
  exact aaR (by omega)
theorem MZ {C:List Tb} {t:Tb} {s:St} (hj:s.jn=[]→s.on=[]):mP C t s=if (mh C t s).2≠0 then (mh C t s).2 else Gg (mh C t s).1 s:=by
 unfold mP lu mh
 by_cases h1:s.jn=[]
 ·rw[if_pos h1,if_pos h1,if_neg (fun h=>h rfl),if_neg (fun h=>h rfl),MQ,hj h1]
  rw[if_neg (fun h=>h rfl)]
 ·rw[if_neg h1,if_neg h1]
  by_cases h2:s.jn ∉ C.map Tb.nm
  ·rw[if_pos h2,if_pos h2,if_pos (show (11:Int)≠0 by decide),if_pos (show (11:Int)≠0 by decide)]
  ·rw[if_neg h2,if_neg h2]
   simp only[Decidable.not_not] at h2
   rw[Qe h2]
   by_cases h3:s.jn=t.nm
   ·rw[if_pos h3,if_pos h3,if_pos (show (13:Int)≠0 by decide),if_pos (show (13:Int)≠0 by decide)]
   ·rw[if_neg h3,if_neg h3,if_neg (fun h=>h rfl),MQ]
theorem yg (rb:Nat) (v:Value) (css:List (List Value)) (T:List Tb) (D S2:Nat→Prop) (s:St) (sc:List Value) (w:World) (hC:fM w rb v css T D) (hs:fD S2 w s sc) (hR:vZ s) :
  Calls Tryz.prog 10 #[.pointer (some ⟨rb,0,none⟩),.agg sc.toArray] w fun e w'=>e = .returned (.int .i64 (l9 T s))∧Below w.heap.size w w':=by
 have hs0:=hs
 obtain⟨b1,b2,b3,b4,b5,b6,b7,b8,m1,m2,m3,m4,m5,m6,m7,m8,d1,d2,d3,d4,d5,d6,d7,d8,rfl,_⟩:=hs
 obtain⟨W,gI,hbW,aJ,hcA⟩:=aK w (.cells #[.int .i64 s.k,.string (aj s.tb),.slice b1 m1 d1,.string (aj s.aD),.slice b2 m2 d2,.slice b3 m3 d3,.slice b4 m4 d4,.string (aj s.jn),.slice b5 m5 d5,.slice b6 m6 d6,.slice b7 m7 d7,.slice b8 m8 d8,.bool s.desc,.int .i64 s.lim] 29)
 have kA:=au hcA
 have HST:Hid (∀V,Below w.heap.size w V→fD S2 V s [.int .i64 s.k,.string (aj s.tb),.slice b1 m1 d1,.string (aj s.aD),.slice b2 m2 d2,.slice b3 m3 d3,.slice b4 m4 d4,.string (aj s.jn),.slice b5 m5 d5,.slice b6 m6 d6,.slice b7 m7 d7,.slice b8 m8 d8,.bool s.desc,.int .i64 s.lim]):=hid (fun V hV=>hs0.to (R:=fun _=>False) (ak.aA hV) (fun b hb _=>⟨id,hb⟩))
 have dw:Hid (∀V,Below W.heap.size W V→V.heap[w.heap.size]?=some (.cells #[.int .i64 s.k,.string (aj s.tb),.slice b1 m1 d1,.string (aj s.aD),.slice b2 m2 d2,.slice b3 m3 d3,.slice b4 m4 d4,.string (aj s.jn),.slice b5 m5 d5,.slice b6 m6 d6,.slice b7 m7 d7,.slice b8 m8 d8,.bool s.desc,.int .i64 s.lim] 29)):=hid (fun V hV=>(hV.block w.heap.size aJ).trans hcA)
 have HD:Hid (∀V,Below w.heap.size w V→fM V rb v css T D):=hid (fun V hV=>hC.new hV)
 have HB:=hid hbW
 have Vv:=hid (zJ S2 s _ W hR (HST.out W hbW))
 have KX:Hid (∀u∈T,mR u):=hid (fun u hu=>RO (hC.ok u hu))
 have HR:=hid hR
 obtain⟨R,hRR⟩:∃R,l9 T s=R:=⟨_,rfl⟩
 rw[hRR]
 unfold l9 at hRR
 clear hbW hcA hC hs0 hR
 by_cases hrs:aQ s=true
 ·rw[if_pos hrs] at hRR
  have Vo:=hid (DI hrs)
  have KZ:=hid hrs
  rw[hrs] at Vv
  have HRR:=hid hRR
  clear hrs hRR
  go_enter Tryz.func10,Tryz.ntmps10
  go_wp2_with fail
  try rw[gI]
  go_wp2_with fail
  refine Vv.out.mono ?_
  rintro e w1 ⟨rfl,hb1⟩
  have HB1:=hid hb1
  have HW1:=htr HB hb1
  have k1:=au (dw.out w1 hb1)
  have HF:=hid (zS rb v css T D s.tb w1 (HD.out w1 HW1.out))
  obtain⟨u,hu⟩:∃u,fC T s.tb=u:=⟨_,rfl⟩
  obtain⟨ib,hib⟩:∃b,decide (s.tb∈T.map Tb.nm)=b:=⟨_,rfl⟩
  rw[hu,hib] at HF
  have HU:=hid hu
  have U5:=hid hib
  clear hb1 Vv hu hib kA
  go_wp2_with fail
  refine HF.out.mono ?_
  rintro e w2 ⟨ds,rfl,hto,hb2⟩
  have Mr:=hto.e
  obtain⟨a3,n3,c3,rfl,_⟩:=hto
  obtain⟨Y,hY,bV,kL,dJ⟩:=aK w2 (.cells #[.string (aj u.nm),.slice a3 n3 c3,.int .i64 u.pr] 42)
  have Ze:=hb2.trans (bV.mono hb2.size)
  have tT:=HB1.out.trans (Ze.mono HB1.out.size)
  have Rm:=hid tT
  have bZ:=htr HB tT
  have kS:=au (dw.out Y tT)
  have kY:=aH dJ
  have ZB:=hid (Mr.on bV)
  have Fy:=hid dJ
  have WQ:=hid kL
  clear hb2 bV dJ Ze tT Mr HF k1 kL
  by_cases hk1:s.k=1
  ·have Cc:(s.k==1)=true:=by rw[beq_iff_eq];exact hk1
   have hRR:=HRR.out
   rw[if_pos hk1] at hRR
   have HM:=hid (EG S2 s _ Y (fun V hV=>by have:=zJ S2 s _ V HR.out (HST.out V (bZ.out.trans (hV.mono bZ.out.size)));exact this) (HST.out Y bZ.out))
   have P5:(if (bU s).2=0∧ib=true then (13:Int) else (bU s).2)=R:=by
    rw[← hRR,← U5.out]
    by_cases h0:(bU s).2=0
    ·by_cases hi:s.tb∈T.map Tb.nm
     ·rw[if_pos ⟨h0,aar hi⟩,if_pos ⟨h0,hi⟩]
     ·rw[if_neg (fun h=>hi (of_decide_eq_true h.2)),if_neg (fun h=>hi h.2)]
    ·rw[if_neg (fun h=>h0 h.1),if_neg (fun h=>h0 h.1)]
   generalize bU s=M at HM P5
   obtain⟨mt,mc⟩:=M
   dsimp only at HM P5
   have HR2:=hid P5
   clear hk1 hRR P5
   go_wp2_with (first | (refine eX hY ?_;clear hY) | fail)
   refine HM.out.mono ?_
   rintro e w5 ⟨ms,rfl,hmo,hb5⟩
   obtain⟨a4,n4,c4,rfl,_⟩:=hmo
   obtain⟨Q,hQ,BK,hzQ,Pb⟩:=aK w5 (.cells #[.string (aj mt.nm),.slice a4 n4 c4,.int .i64 mt.pr] 42)
   have xC:=hid (bZ.out.trans ((hb5.trans (BK.mono hb5.size)).mono bZ.out.size))
   clear hb5 BK Pb HM kS kY
   by_cases hc:mc=0
   ·subst hc
    cases ib with
    |
     true =>
     have HE:Hid (R=13):=hid (by rw[← HR2.out,if_pos ⟨rfl,rfl⟩])
     clear HR2
     go_wp2_with (first | (refine eX hQ ?_;clear hQ) | fail)
     go_ret
     exact⟨by rw[HE.out];try rfl,xC.out⟩
    |
     false =>
     have HE:Hid (R=0):=hid (by rw[← HR2.out,if_neg (fun h=>by cases h.2)])
     clear HR2
     go_wp2_with (first | (refine eX hQ ?_;clear hQ) | fail)
     go_ret
     exact⟨by rw[HE.out];try rfl,xC.out⟩
   ·have hc':(mc==0)=false:=by rw[aai];exact hc
    have HE:Hid (R=mc):=hid (by rw[← HR2.out,if_neg (fun h=>hc h.1)])
    clear HR2 hc
    go_wp2_with (first | (refine eX hQ ?_;clear hQ) | fail)
    go_ret
    exact⟨by rw[HE.out];try rfl,xC.out⟩
  ·have Cc:(s.k==1)=false:=by rw[aai];exact hk1
   have hRR:=HRR.out
   rw[if_neg hk1,HU.out] at hRR
   clear hk1 HRR
   cases ib with
   |
    false =>
    have HE:Hid (R=11):=hid (by rw[← hRR,if_pos (of_decide_eq_false U5.out)])
    clear hRR
    go_wp2_with (first | (refine eX hY ?_;clear hY) | fail)
    go_ret
    exact⟨by rw[HE.out];try rfl,bZ.out⟩
   |
    true =>
    have YL:=hid (KX.out u (by rw[← HU.out];exact wT (of_decide_eq_true U5.out)))
    rw[if_neg (fun h=>h (of_decide_eq_true U5.out))] at hRR
    have H1:Hid (∀(V:World) (g:Nat),Below Y.heap.size Y V→V.heap[g]?=some (.cells #[.string (aj u.nm),.slice a3 n3 c3,.int .i64 u.pr] 42)→∃S3:Nat→Prop,aM 3 fG S3 V [u] (.slice (some ⟨g,0,none⟩) 1 1)):=hid (fun V g hV hc=>⟨_,mX (cs:=[.string (aj u.nm),.slice a3 n3 c3,.int .i64 u.pr]) hc (ZB.out.on hV)⟩)
    have HK1:Hid (∀x∈[u],mR x):=hid (fun x hx=>by simp only[List.mem_singleton] at hx;rw[hx];exact YL.out)
    by_cases hk3:s.k=3
    ·have LM:(s.k==3)=true:=by rw[beq_iff_eq];exact hk3
     rw[if_pos hk3] at hRR
     have HI:=hid (EF _ S2 u s.rows _ (.slice b2 m2 d2) Y ZB.out (fD.RA (HST.out Y bZ.out)) YL.out)
     rw[hRR] at HI
     clear hk3 hRR
     go_wp2_with (first | (refine eX hY ?_;clear hY) | fail)
     refine HI.out.mono ?_
     rintro e w5 ⟨rfl,hb5⟩
     have iC:=htr bZ hb5
     clear hb5 HI
     go_wp2_with fail
     go_ret
     exact⟨rfl,iC.out⟩
    ·have LM:(s.k==3)=false:=by rw[aai];exact hk3
     rw[if_neg hk3] at hRR
     by_cases hk4:s.k=4
     ·have abn:(s.k==4)=true:=by rw[beq_iff_eq];exact hk4
      rw[if_pos hk4] at hRR
      have HI:=hid (Ep _ S2 u s.sets _ (.slice b3 m3 d3) Y ZB.out (fD.WO (HST.out Y bZ.out)) YL.out Vo.out.2.1)
      unfold Je at hRR
      generalize aO (iO u [] s.sets)=cu at HI hRR
      by_cases U3:cu=0
      ·subst U3
       rw[if_neg (fun h=>h rfl)] at hRR
       have DC:=hid hRR
       clear hk3 hk4 hRR
       go_wp2_with (first | (refine eX hY ?_;clear hY) | fail)
       refine HI.out.mono ?_
       rintro e w5 ⟨rfl,hb5⟩
       obtain⟨Q,hQ,BK,hzQ,Pb⟩:=aK w5 (.cells #[.string (aj u.nm),.slice a3 n3 c3,.int .i64 u.pr] 42)
       have Zu:=hb5.trans (BK.mono hb5.size)
       have xC:=htr bZ Zu
       have kQ:=au (dw.out Q (Rm.out.trans (Zu.mono Rm.out.size)))
       have k5:=aH ((hb5.block _ WQ.out).trans Fy.out)
       have k5s:=au (dw.out w5 (Rm.out.trans (hb5.mono Rm.out.size)))
       obtain⟨S3,JE⟩:=H1.out Q _ Zu Pb
       have HW:=hid (ow S3 S2 [u] s.wh _ (.slice b6 m6 d6) Q Vo.out.1.1 Vo.out.1.2 (fD.slices (HST.out Q xC.out)).2.2.1 JE HK1.out (by simp))
       rw[DC.out] at HW
       clear hb5 BK Pb Zu JE HI kS kY
       go_wp2_with fail
       try rw[hQ]
       go_wp2_with fail
       refine HW.out.mono ?_
       rintro e w7 ⟨rfl,Bw⟩
       have iC:=htr xC Bw
       clear Bw HW
       go_wp2_with fail
       go_ret
       exact⟨rfl,iC.out⟩
      ·rw[if_pos U3] at hRR
       have HE:=hid hRR
       have ahN:(cu != 0)=true:=by simpa using U3
       clear hk3 hk4 hRR U3
       go_wp2_with (first | (refine eX hY ?_;clear hY) | fail)
       refine HI.out.mono ?_
       rintro e w5 ⟨rfl,hb5⟩
       have iC:=htr bZ hb5
       clear hb5 HI
       go_wp2_with fail
       go_ret
       exact⟨by rw[← HE.out];try rfl,iC.out⟩
     ·have abn:(s.k==4)=false:=by rw[aai];exact hk4
      rw[if_neg hk4] at hRR
      by_cases hk5:s.k=5
      ·have ab1:(s.k==5)=true:=by rw[beq_iff_eq];exact hk5
       rw[if_pos hk5] at hRR
       obtain⟨Q,hQ,BK,hzQ,Pb⟩:=aK Y (.cells #[.string (aj u.nm),.slice a3 n3 c3,.int .i64 u.pr] 42)
       have xC:=htr bZ BK
       have kQ:=au (dw.out Q (Rm.out.trans (BK.mono Rm.out.size)))
       obtain⟨S3,JE⟩:=H1.out Q _ BK Pb
       have HW:=hid (ow S3 S2 [u] s.wh _ (.slice b6 m6 d6) Q Vo.out.1.1 Vo.out.1.2 (fD.slices (HST.out Q xC.out)).2.2.1 JE HK1.out (by simp))
       rw[hRR] at HW
       clear hk3 hk4 hk5 hRR BK Pb JE
       go_wp2_with (first | (refine eX hY ?_;clear hY) | fail)
       try rw[hQ]
       go_wp2_with fail
       refine HW.out.mono ?_
       rintro e w7 ⟨rfl,Bw⟩
       have iC:=htr xC Bw
       clear Bw HW
       go_wp2_with fail
       go_ret
       exact⟨rfl,iC.out⟩
      ·have ab1:(s.k==5)=false:=by rw[aai];exact hk5
       rw[if_neg hk5] at hRR
       by_cases IV:s.k=6
       ·have aaO:(s.k==6)=true:=by rw[beq_iff_eq];exact IV
        have HSO:=hid (Vo.out.2.2 IV)
        rw[if_pos IV,MZ HSO.out.2.2] at hRR
        have IG:=hid (Hg rb v css T D (fun _=>True) u s _ [.int .i64 s.k,.string (aj s.tb),.slice b1 m1 d1,.string (aj s.aD),.slice b2 m2 d2,.slice b3 m3 d3,.slice b4 m4 d4,.string (aj s.jn),.slice b5 m5 d5,.slice b6 m6 d6,.slice b7 m7 d7,.slice b8 m8 d8,.bool s.desc,.int .i64 s.lim] Y (HD.out Y bZ.out) KX.out (ZB.out.to (T:=fun _=>True) (R:=fun _=>False) (ak.refl _ _) (fun b hb _=>⟨id,trivial⟩)) YL.out ((HST.out Y bZ.out).to (T:=fun _=>True) (R:=fun _=>False) (ak.refl _ _) (fun b hb _=>⟨id,trivial⟩)) HSO.out.2.1)
        have Zl:Hid ((∀x∈(mh T u s).1,mR x)∧(mh T u s).1.length≤2):=hid (by
         unfold mh
         split
         ·exact⟨HK1.out,by simp⟩
         ·split
          ·exact⟨fun x hx=>by (cases hx),by simp⟩
          ·rename_i hin
           simp only[Decidable.not_not] at hin
           split
           ·exact⟨fun x hx=>by (cases hx),by simp⟩
           ·refine ⟨fun x hx=>?_,by simp⟩
            simp only[abg,List.not_mem_nil,or_false] at hx
            rcases hx with rfl | rfl
            ·exact YL.out
            ·exact KX.out _ (wT hin))
        generalize mh T u s=SD at IG Zl hRR
        obtain⟨L,cq⟩:=SD
        dsimp only at IG Zl hRR
        by_cases hcq:cq=0
        ·subst hcq
         rw[if_neg (fun h=>h rfl)] at hRR
         have Wj:=hid hRR
         clear hk3 hk4 hk5 IV hRR
         go_wp2_with (first | (refine eX hY ?_;clear hY) | fail)
         refine IG.out.mono ?_
         rintro e w5 ⟨a9,n9,c9,rfl,ZL,hb5⟩
         have Xj:=htr bZ hb5
         have k5s:=au (dw.out w5 (Rm.out.trans (hb5.mono Rm.out.size)))
         have HCH:=hid (EH (fun _=>True) S2 L s _ [.int .i64 s.k,.string (aj s.tb),.slice b1 m1 d1,.string (aj s.aD),.slice b2 m2 d2,.slice b3 m3 d3,.slice b4 m4 d4,.string (aj s.jn),.slice b5 m5 d5,.slice b6 m6 d6,.slice b7 m7 d7,.slice b8 m8 d8,.bool s.desc,.int .i64 s.lim] w5 ZL (HST.out w5 Xj.out) Zl.out.1 (by have:=Zl.out.2;omega) HSO.out.1)
         rw[Wj.out] at HCH
         clear hb5 ZL IG kS kY
         go_wp2_with fail
         refine HCH.out.mono ?_
         rintro e w7 ⟨rfl,Bw⟩
         have iC:=htr Xj Bw
         clear Bw HCH
         go_wp2_with fail
         go_ret
         exact⟨rfl,iC.out⟩
        ·rw[if_pos hcq] at hRR
         have HE:=hid hRR
         have ahs:(cq != 0)=true:=by simpa using hcq
         clear hk3 hk4 hk5 IV hRR hcq
         go_wp2_with (first | (refine eX hY ?_;clear hY) | fail)
         refine IG.out.mono ?_
         rintro e w5 ⟨a9,n9,c9,rfl,ZL,hb5⟩
         have iC:=htr bZ hb5
         clear hb5 ZL IG
         go_wp2_with fail
         go_ret
         exact⟨by rw[← HE.out];try rfl,iC.out⟩
       ·have aaO:(s.k==6)=false:=by rw[aai];exact IV
        rw[if_neg IV] at hRR
        have HE:=hid hRR
        clear hk3 hk4 hk5 IV hRR
        go_wp2_with (first | (refine eX hY ?_;clear hY) | fail)
        go_ret
        exact⟨by rw[← HE.out];try rfl,bZ.out⟩
 ·have YB:aQ s=false:=by simpa using hrs
  rw[if_neg hrs] at hRR
  rw[YB] at Vv
  have HE:=hid hRR
  clear hrs YB hRR
  go_enter Tryz.func10,Tryz.ntmps10
  go_wp2_with fail
  try rw[gI]
  go_wp2_with fail
  refine Vv.out.mono ?_
  rintro e w1 ⟨rfl,hb1⟩
  have iC:=htr HB hb1
  clear hb1 Vv
  go_wp2_with fail
  go_ret
  exact⟨by rw[← HE.out];try rfl,iC.out⟩
theorem AV {w:World} {base:Nat} {v:Value} {n:Nat} {css:List (List Value)} (hown:w.ownsRow base 42 3 v n css.flatten) (a:Addr) (m c:Nat) (nY:List (List Value)) (hlen:nY.length=m) (h3 : ∀ds∈nY,ds.length=3∧∀u∈ds,u.oneCell'=true)
  (hcells : ∀(j:Nat) (u:Value),nY.flatten[j]?=some u→w.cell? (a.add j)=some u) (hn:n+m≤100000000) (hb:base≤w.heap.size) (ty:TypeId) :
  ∃a2 n2 c2 w',(Builtin.append_ #[22,22] ty #[v,.slice (some a) m c]).run Tryz.prog w = .ok (.slice a2 n2 c2) w'∧w'.ownsRow base 42 3 (.slice a2 n2 c2) (n+m) (css++nY).flatten∧ak (fun k=>v.ownBlock=some k) w w':=by
 obtain⟨i0,hi,hy0,hy1,hy2⟩:=info_parts Tryz.Bb
 have hfl:nY.flatten.length=m*3:=by
  rw[← hlen]
  clear hcells hlen
  induction nY with
  | nil=>rfl
  |
   cons d nY ih =>
   rw[List.flatten_cons,aaN,ih (fun x hx=>h3 x (by simp[hx])),(h3 d (by simp)).1,aa1]
   omega
 obtain⟨v',w',hr,ho,hg2,_⟩:=run_append_own (P:=Tryz.prog) w base 22 ty 42 i0 _ 3 48 Tryz.underlying22 hi hy0 hy1 hy2 rfl (by decide) v n _ hown a m c nY.flatten hfl hcells (fun u hu=>by
  obtain⟨ds,h1,h2⟩:=List.mem_flatten.1 hu
  exact (h3 ds h1).2 u h2) (by unfold maxLen;omega) (by omega) hb
 rw[← List.flatten_append] at ho
 obtain⟨a2,n2,c2,rfl⟩:∃a2 n2 c2,v' = .slice a2 n2 c2:=by
  rcases ho.2 with⟨rfl,_⟩ | ⟨_,_,_,rfl,_⟩<;>exact⟨_,_,_,rfl⟩
 exact⟨a2,n2,c2,w',hr,ho,ak.gU (S:=fun k=>v.ownBlock=some k) hg2 (fun k e=>e)⟩
theorem MW {w W:World} {l:List Tb} {a aa:Option Addr} {c nn cc g:Nat} {css:List (List Value)} (ho:W.ownsRow w.heap.size 42 3 (.slice a 2 c) 2 css.flatten) (he:lH 3 fG (fun b=>w.heap.size≤b∧b<g) W iw css) (hg:(Value.slice a 2 c).ownBlock=some g) (hB:Below w.heap.size w W) (hl:aM 3 fG (fun b=>b<w.heap.size) W l (.slice aa nn cc)) (hn:l.length≤90000000) (ty:TypeId) :
  ∃a2 n2 c2 W',(Builtin.append_ #[22,22] ty #[.slice a 2 c,.slice aa nn cc]).run Tryz.prog W = .ok (.slice a2 n2 c2) W'∧aM 3 fG (fun b=>b<W'.heap.size) W' (iw++l) (.slice a2 n2 c2)∧Below w.heap.size w W'∧W.heap.size≤W'.heap.size:=by
 obtain⟨a',c',nY,hv,h1,h2,h4,h5⟩:=hl
 simp only[aah] at hv
 obtain⟨rfl,rfl,rfl⟩:=hv
 have hin : ∀{V:World} {S:Nat→Prop} {xs:List Tb} {v:Value},aM 3 fG S V xs v→aM 3 fG (fun b=>b<V.heap.size) V xs v:=fun h=>h.to (by decide) (R:=fun _=>False) (ak.refl _ _) (fun b hb hlt=>⟨id,hlt⟩) (fun _ _ e=>e.to (R:=fun _=>False) (ak.refl _ _) (fun b hb hlt=>⟨id,hlt⟩))
 cases aa with
 |
  none =>
  have hn0:l=[]:=by
   by_cases e:l=[]
   ·exact e
   ·obtain⟨b,off,e2,_⟩:=h5 e
    cases e2
  subst hn0
  obtain⟨i0,hi,hy0,hy1,hy2⟩:=info_parts Tryz.Bb
  have hr:(Builtin.append_ #[22,22] ty #[.slice a 2 c,.slice none 0 cc]).run Tryz.prog W = .ok (.slice a 2 c) W:=by
   rcases ho.2 with⟨e,h0⟩ | ⟨g,cap,cur,e,hg0,hgg,hgc,_⟩
   ·simp only[aah] at e
    omega
   ·simp only[aah] at e
    obtain⟨rfl,_,rfl⟩:=e
    simp[Builtin.append_,run_underlying Tryz.underlying22,sizeOf,typeInfo,hi,Builtin.lenOf,Builtin.firstCells,storeCells,hgc]
  exact⟨_,_,_,W,hr,hin (by rw[List.append_nil];exact aM.iM (S:=fun _=>True) (by decide) ho (he.to (fun x cs e=>e.to (R:=fun _=>False) (ak.refl _ _) (fun b hb _=>⟨id,trivial⟩))) (fun b hb=>trivial)),hB,aaF _⟩
 |
  some p =>
  have hl3:=BF h4
  have hcells : ∀j u,nY.flatten[j]?=some u→W.cell? (p.add j)=some u:=fun j u hu=>by
   obtain⟨cs,e1,e2⟩:=pE nY (fun cs hc=>(hl3 cs hc).1) j u hu
   have hne:l≠[]:=fun e=>by
    subst e
    have:nY=[]:=aaR h4.1
    subst this
    simp at e1
   obtain⟨b,off,hp,_,hc⟩:=h5 hne
   injection hp with hp
   subst hp
   have:=hc (j / 3) cs e1 (j % 3) u e2
   rw[show off+j / 3*3+j % 3=off+j by omega] at this
   rw[Addr.add_lit]
   exact this
  obtain⟨a2,n2,c2,W',hr,ho2,hsp⟩:=AV ho p l.length cc nY h4.1 hl3 hcells (by omega) hB.size ty
  have hlow : ∀b,(Value.slice a 2 c).ownBlock=some b→w.heap.size≤b:=fun b hb=>(ho.lt b hb).1
  have hbb:Below w.heap.size W W':=hsp.below (fun i hi=>hlow i hi) hB.size
  have hg1:=(ho.lt g hg).1
  refine ⟨a2,n2,c2,W',hr,hin (aM.iM (S:=fun _=>True) (xs:=iw++l) (by decide) (by rw[aaN];exact ho2) (lH.append' (he.to (fun x cs e=>e.to hsp (fun b hb _=>⟨fun e=>by rw[hg] at e;injection e with e;have:=hb.2;omega,trivial⟩))) (h4.to (fun x cs e=>e.to hsp (fun b hb _=>⟨fun e=>by have:=hlow b e;have:b<w.heap.size:=hb;omega,trivial⟩)))) (fun b hb=>trivial)),hB.trans hbb,hsp.size⟩
theorem Dy {T L:List Tb} (h:T.Perm L) (hT:(T.map Tb.nm).Nodup) (hL:(L.map Tb.nm).Nodup) (s:St):l9 T s=l9 L s:=by
 have hm : ∀nm,(nm∈T.map Tb.nm)=(nm∈L.map Tb.nm):=fun nm=>propext ((h.map Tb.nm).mem_iff)
 have hf : ∀nm,fC T nm=fC L nm:=fun nm=>F7 h hT hL nm
 unfold l9 mP lu
 simp only[hm,hf]
theorem qF (l:List Tb) (s:St) (lv:Value) (sc:List Value) (w:World) (hV:zm w) (hO:Ak w) (h6:6<w.heap.size) (hl:aM 3 fG (fun b=>b<w.heap.size) w l lv) (hR : ∀t∈l,NG t) (hs:fD (fun b=>b<w.heap.size) w s sc) (hRs:vZ s)
  (hN:(gJ s).length≤100000000) (ZA:s.sets.length≤100000000∧s.items.length≤1000000000000) (hLn:l.length≤90000000) :
  Calls Tryz.prog 3 #[lv,.agg sc.toArray] w fun e w'=>e = .returned (.bool true)∧Below w.heap.size w w':=by
 obtain⟨la,lc,rfl⟩:∃a c,lv = .slice a l.length c:=hl.form
 have hs0:=hs
 obtain⟨b1,b2,b3,b4,b5,b6,b7,b8,m1,m2,m3,m4,m5,m6,m7,m8,d1,d2,d3,d4,d5,d6,d7,d8,rfl,_⟩:=hs
 obtain⟨W,gI,hbW,aJ,hcA⟩:=aK w (.cells #[.int .i64 s.k,.string (aj s.tb),.slice b1 m1 d1,.string (aj s.aD),.slice b2 m2 d2,.slice b3 m3 d3,.slice b4 m4 d4,.string (aj s.jn),.slice b5 m5 d5,.slice b6 m6 d6,.slice b7 m7 d7,.slice b8 m8 d8,.bool s.desc,.int .i64 s.lim] 29)
 have HT:Hid (∀V,Below w.heap.size w V→10<V.heap.size→iL V):=hid (fun V hb hz=>⟨hV.below hb (by omega),fun o ho=>⟨(hb.cell (p:=⟨0,o*2,none⟩) (by show 0<w.heap.size;omega)).trans (hO o ho).1,(hb.cell (p:=⟨0,o*2+1,none⟩) (by show 0<w.heap.size;omega)).trans (hO o ho).2⟩,hz⟩)
 have IC:=hid (Eh W (hV.below hbW (by omega)) (fun o ho=>⟨(hbW.cell (p:=⟨0,o*2,none⟩) (by show 0<w.heap.size;omega)).trans (hO o ho).1,(hbW.cell (p:=⟨0,o*2+1,none⟩) (by show 0<w.heap.size;omega)).trans (hO o ho).2⟩) (by omega))
 have HB:=hid hbW
 have dw:Hid (∀V,Below W.heap.size W V→V.heap[w.heap.size]?=some (.cells #[.int .i64 s.k,.string (aj s.tb),.slice b1 m1 d1,.string (aj s.aD),.slice b2 m2 d2,.slice b3 m3 d3,.slice b4 m4 d4,.string (aj s.jn),.slice b5 m5 d5,.slice b6 m6 d6,.slice b7 m7 d7,.slice b8 m8 d8,.bool s.desc,.int .i64 s.lim] 29)):=hid (fun V hV=>(hV.block w.heap.size aJ).trans hcA)
 have HST:Hid (∀V,Below w.heap.size w V→fD (fun b=>b<V.heap.size) V s [.int .i64 s.k,.string (aj s.tb),.slice b1 m1 d1,.string (aj s.aD),.slice b2 m2 d2,.slice b3 m3 d3,.slice b4 m4 d4,.string (aj s.jn),.slice b5 m5 d5,.slice b6 m6 d6,.slice b7 m7 d7,.slice b8 m8 d8,.bool s.desc,.int .i64 s.lim]):=hid (fun V hV=>hs0.to (R:=fun _=>False) (ak.aA hV) (fun b hb hlt=>⟨id,aa7 hb hV.size⟩))
 have HL:=hid hl
 have HR:=hid hR
 have KZ:=hid hRs
 have HN:=hid hN
 have Ud:=hid ZA
 have O4:=hid hLn
 clear hbW hcA hs0 hl hR hRs hN ZA hV hO hLn
 go_enter Tryz.func3,Tryz.ntmps3
 go_wp2_with fail
 try rw[gI]
 go_wp2_with fail
 refine IC.out.mono ?_
 rintro e w1 ⟨rfl,hb1⟩
 have HW1:=hid hb1
 have HB1:=htr HB hb1
 have kS:=au (dw.out w1 hb1)
 have hs1:=hb1.size
 have Qk:=hid (J6 s _ w1 KZ.out (HST.out w1 HB1.out) HN.out Ud.out)
 clear hb1 IC
 go_wp2_with fail
 refine Qk.out.mono ?_
 rintro e w2 ⟨fb,rfl,hfo,hb2⟩
 have HFO:=hid hfo
 have HW2:=htr HW1 hb2
 have HB2:=htr HB1 hb2
 have hs2:=hb2.size
 clear hb2 hfo Qk kS
 cases fb with
 |
  false =>
  go_wp2_with fail
  go_ret
  exact⟨rfl,HB2.out⟩
 |
  true =>
  have HFK:=hid (HFO.out rfl)
  clear HFO
  go_wp2_with fail
  refine (tH w2).mono ?_
  rintro e w3 ⟨ta,tc,css,rfl,ho,_,hown,he,hz3,hb3⟩
  obtain⟨a2,n2,c2,w4,hrun,hsl,hb4,hz4⟩:=MW ho he hown hb3 (HL.out.to (T:=fun b=>b<w2.heap.size) (by decide) (R:=fun _=>False) (ak.aA (HB2.out.trans (hb3.mono HB2.out.size))) (fun b hb hlt=>⟨id,aa7 hb HB2.out.size⟩) (fun _ _ e=>e.to (R:=fun _=>False) (ak.aA (HB2.out.trans (hb3.mono HB2.out.size))) (fun b hb hlt=>⟨id,aa7 hb HB2.out.size⟩))) O4.out 22
  have rQ:=hid hrun
  have HSL:=hid hsl
  have XH:=htr HB2 hb4
  have Ci:=htr HW2 hb4
  have hs4:=hb4.size
  have Cg:10<w4.heap.size:=by omega
  clear ho he hown hb3 hrun hsl hb4
  go_wp2_with (first | (at_builtin;refine wpList_append_run _ rfl (.tmp 16) (.tmp 17) 22 rfl _ _ _ _ rfl rfl rQ.out ?_) | fail)
  refine (BX (iw++l) _ w4 (HT.out w4 XH.out Cg) HSL.out (fun t ht=>(List.mem_append.1 ht).elim (K9 t) (HR.out t))).mono ?_
  rintro e w5 ⟨sb,mb,rb,L,T,rfl,hpm,X4⟩
  obtain⟨E,f,S,v9,Z8,D9,hc,hd,hS,_⟩:=hpm.both
  have hb5:=hpm.below
  have Xj:=htr XH hb5
  have Cz:=htr Ci hb5
  have hs5:=hb5.size
  have hz5:10<w5.heap.size:=by omega
  obtain⟨r,hr⟩:∃r,l9 L s=r:=⟨_,rfl⟩
  have hrT:l9 T s=r:=(Dy X4 hd.VZ.once hc.once s).trans hr
  have p8:Hid (∀V,Below w5.drew.heap.size w5.drew V→V.cell? ⟨w.heap.size,0,none⟩=some (.int .i64 s.k)∧V.cell? ⟨w.heap.size,1,none⟩=some (.string (aj s.tb))∧V.cell? ⟨w.heap.size,2,none⟩=some (.slice b1 m1 d1)∧V.cell? ⟨w.heap.size,3,none⟩=some (.string (aj s.aD))∧V.cell? ⟨w.heap.size,4,none⟩=some (.slice b2 m2 d2)∧V.cell? ⟨w.heap.size,5,none⟩=some (.slice b3 m3 d3)∧V.cell? ⟨w.heap.size,6,none⟩=some (.slice b4 m4 d4)∧V.cell? ⟨w.heap.size,7,none⟩=some (.string (aj s.jn))∧V.cell? ⟨w.heap.size,8,none⟩=some (.slice b5 m5 d5)∧V.cell? ⟨w.heap.size,9,none⟩=some (.slice b6 m6 d6)∧V.cell? ⟨w.heap.size,10,none⟩=some (.slice b7 m7 d7)∧V.cell? ⟨w.heap.size,11,none⟩=some (.slice b8 m8 d8)∧V.cell? ⟨w.heap.size,12,none⟩=some (.bool s.desc)∧V.cell? ⟨w.heap.size,13,none⟩=some (.int .i64 s.lim)):=hid (fun V hV=>au (dw.out V (Cz.out.drew.trans (hV.mono (by have:=Cz.out.size;exact this)))))
  have Ke:Hid (∀V,Below w5.drew.heap.size w5.drew V→Below w.heap.size w V):=hid (fun V hV=>Xj.out.drew.trans (hV.mono (by have:=Xj.out.size;exact this)))
  have RY:=hid (fun (V:World) (hV:Below w5.drew.heap.size w5.drew V)=>yC sb mb E f L S s _ V (HT.out V (Ke.out V hV) (by have:=hV.size;exact aa7 hz5 this)) ((hc.new (Below.refl _ w5).drew).new hV) (fun u hu=>RO (hc.ok u hu)) (HST.out V (Ke.out V hV)) KZ.out (Qv HFK.out))
  have jJ:=hid (fun (V:World) (hV:Below w5.drew.heap.size w5.drew V)=>yg rb v9 Z8 T D9 _ s _ V ((hd.new (Below.refl _ w5).drew).new hV) (HST.out V (Ke.out V hV)) KZ.out)
  rw[hr] at RY
  rw[hrT] at jJ
  have abB:=hid (p8.out w5.drew (Below.refl _ _))
  have Js:Hid (Below w5.drew.heap.size w5.drew w5.drew):=hid (Below.refl _ _)
  clear hpm X4 hS hb5 hr hrT hc hd HSL rQ
  go_wp2_with fail
  go_region_held3 (fun V:World=>V.cell? ⟨w.heap.size,0,none⟩=some (.int .i64 s.k)∧V.cell? ⟨w.heap.size,1,none⟩=some (.string (aj s.tb))∧V.cell? ⟨w.heap.size,2,none⟩=some (.slice b1 m1 d1)∧V.cell? ⟨w.heap.size,3,none⟩=some (.string (aj s.aD))∧V.cell? ⟨w.heap.size,4,none⟩=some (.slice b2 m2 d2)∧V.cell? ⟨w.heap.size,5,none⟩=some (.slice b3 m3 d3)∧V.cell? ⟨w.heap.size,6,none⟩=some (.slice b4 m4 d4)∧V.cell? ⟨w.heap.size,7,none⟩=some (.string (aj s.jn))∧V.cell? ⟨w.heap.size,8,none⟩=some (.slice b5 m5 d5)∧V.cell? ⟨w.heap.size,9,none⟩=some (.slice b6 m6 d6)∧V.cell? ⟨w.heap.size,10,none⟩=some (.slice b7 m7 d7)∧V.cell? ⟨w.heap.size,11,none⟩=some (.slice b8 m8 d8)∧V.cell? ⟨w.heap.size,12,none⟩=some (.bool s.desc)∧V.cell? ⟨w.heap.size,13,none⟩=some (.int .i64 s.lim))
   (first | exact abB.out | exact Gw.out | exact Bl.out)
   (first
    | (
     go_at_call 9;refine (RY.out _ (by first | exact Js.out | exact Ow.out)).mono ?_
     rintro e w7 ⟨rfl,Bw⟩
     have Lp:Hid (Below w5.drew.heap.size w5.drew w7):=hid (by first | exact Ow.out.trans (Bw.mono Ow.out.size) | exact Js.out.trans (Bw.mono Js.out.size))
     have Gw:=hid (p8.out w7 Lp.out)
     clear Bw)
    | (
     go_at_call 10;refine (jJ.out _ (by first | exact Js.out | exact Lp.out)).mono ?_
     rintro e w8 ⟨rfl,mg⟩
     have Ow:Hid (Below w5.drew.heap.size w5.drew w8):=hid (by first | exact Lp.out.trans (mg.mono Lp.out.size) | exact Js.out.trans (mg.mono Js.out.size))
     have Bl:=hid (p8.out w8 Ow.out)
     clear mg))
  all_goals go_wp2
  all_goals go_ret
  all_goals first
   | exact⟨by first | rfl | simp,Ke.out _ Ow.out⟩
   | exact⟨by first | rfl | simp,Ke.out _ Lp.out⟩
end Go.Proofs.YtfeglkleoijlaaaGreatDoor
