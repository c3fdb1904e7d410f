/- Packed for the hand-in: PTop PLaw WBackS -/
import Derived.Test.YtaaggohjmhifbaaGreatDoorY33
import Derived.Test.YtaaggohjmhifbaaGreatDoorY22
namespace Go.Proofs.YtaaggohjmhifbaaGreatDoor
open Go.RowKit Go.Shelf
set_option linter.unusedSimpArgs false
set_option linter.unusedVariables false
set_option maxRecDepth 20000
set_option maxHeartbeats 8000000
def dI (s:List UInt8):Rd:=⟨(tokens s).2.2,0,((tokens s).1:Int),(tokens s).2.1⟩
theorem qb (s:List UInt8):Good 2001 (dI s):=by
 by_cases h:(tokens s).1=0
 ·have hl : ¬2000<s.length:=fun hl=>by rw[tokens,if_pos hl] at h;exact absurd (show (2:Nat)=0 from h) (by decide)
  have e:tokens s=toks (s.length+1) s 0:=by rw[tokens,if_neg hl]
  have h':=h
  rw[e] at h'
  obtain⟨L,h1,h2,h3⟩:=qZ (s.length+1) s 0 (by omega) h'
  have hts:(dI s).ts=L++[⟨6,[],0,((0+s.length:Nat):Int)⟩]:=by unfold dI;rw[e];exact h1
  refine ⟨fun _=>⟨L,_,hts,rfl,fun x hx=>(h3 x hx).k6⟩,Int.le_refl _,by show (0:Int)≤11;decide,fun _=>by show (0:Int)≤10;decide,fun x hx=>?_,by rw[hts];simp;omega⟩
  rw[hts] at hx
  rcases List.mem_append.1 hx with hx | hx
  ·exact⟨(h3 x hx).n0,(h3 x hx).n1⟩
  ·rw[List.mem_singleton] at hx
   subst hx
   exact⟨Int.le_refl _,by show (0:Int)≤_;decide⟩
 ·have hts:(dI s).ts=[]:=by
   unfold dI tokens at *
   split
   ·rfl
   ·rename_i hl
    rw[if_neg hl] at h
    exact (lS _ _ _).1 h
  have hb:(dI s).bad≠0:=by show ((tokens s).1:Int)≠0;omega
  exact⟨fun e=>absurd e hb,Int.le_refl _,by show (0:Int)≤11;decide,fun e=>absurd e hb,(fun x hx=>by rw[hts] at hx;cases hx),by rw[hts];simp⟩
theorem vG (s:List UInt8) (w:World) (hT:kN w) (hs:s.length≤140737488351232) :
  Calls Tryz.prog 63 #[.string (ah s)] w fun e w'=>∃g,e = .returned (.pointer (some ⟨g,0,none⟩))∧w.heap.size≤g∧aA 2001 w' g (dI s)∧Below w.heap.size w w':=by
 have HK:=hid (Aa s w hT hs)
 have HG:=hid (qb s)
 have HST:Hid (dI s=⟨(tokens s).2.2,0,((tokens s).1:Int),(tokens s).2.1⟩):=hid rfl
 generalize dI s=r at HG HST ⊢
 generalize (tokens s).2.2=ts at HK HST
 generalize ((tokens s).1:Int)=e1 at HK HST
 generalize (tokens s).2.1=p1 at HK HST
 clear hT
 go_enter Tryz.func63,Tryz.ntmps63
 go_wp2_with fail
 refine HK.out.mono ?_
 rintro e w1 ⟨v,rfl,htk,hb1⟩
 have HTK:=hid htk
 obtain⟨va,vc,rfl,_⟩:=id htk
 have HB1:=hid hb1
 clear htk hb1 HK
 go_wp2
 obtain⟨W,hW,hbW,hzW,hcA,hcB⟩:=two w1 (.cells #[.int .i64 e1,.int .i64 p1] 69) (.cells #[.slice va ts.length vc,.int .i64 0,.int .i64 e1,.int .i64 p1] 151)
 rw[hW]
 refine bodyPost_ret (v:=.pointer (some ⟨w1.heap.size+1,0,none⟩)) (by simp[results,Tryz.results63,go_sem]) rfl ⟨w1.heap.size+1,rfl,by have:=HB1.out.size;omega,⟨HG.out,.slice va ts.length vc,?_,?_⟩,HB1.out.trans (hbW.mono HB1.out.size)⟩
 ·rw[HST.out]
  exact hcB
 ·rw[HST.out]
  exact (HTK.out.below hbW).mono (by omega)
def dM (s:List UInt8):List St × Int × Int:=if (iJ 2001 (dI s)).2.bad=0 then ((iJ 2001 (dI s)).1,0,0) else ([],(iJ 2001 (dI s)).2.bad,(iJ 2001 (dI s)).2.bp)
theorem Kz:iM 2001 D0 116 (dG 2001):=fun g r w h hD=>D9 2001 g r w h hD
theorem Ir:uz 2001 jK 65 (eH (dG 2001)):=CU 2001 (dG 2001) Kz oL
theorem BN (s:List UInt8) (w:World) (hT:kN w) (hs:s.length≤140737488351232) :
  Calls Tryz.prog 36 #[.string (ah s)] w fun e w'=>∃(aa:Option Addr) (nn cc:Nat),e = .returned (.tuple #[.slice aa nn cc,.agg #[.int .i64 (dM s).2.1,.int .i64 (dM s).2.2]])∧bP 14 jK (fun b=>w.heap.size≤b) w' (dM s).1 (.slice aa nn cc)∧Below w.heap.size w w':=by
 obtain⟨W,hW,hbW,hzW,hcW⟩:=bF w (.cells #[.int .i64 0,.int .i64 0] 69)
 have HCW:=hid hcW
 have HBW:=hid hbW
 have HNR:=hid (vG s W (hT.on hbW) hs)
 have hD:D0 (dI s):=fun _=>rfl
 have HL:Hid (∀g V,aA 2001 V g (dI s)→Calls Tryz.prog 64 #[.pointer (some ⟨g,0,none⟩),.int .i64 8,.func (.func 65) #[.pointer (some ⟨g,0,none⟩)] #[],.func (.func 66) #[.pointer (some ⟨g,0,none⟩)] #[]] V fun e w'=>∃(aa:Option Addr) (nn cc:Nat),e = .returned (.slice aa nn cc)∧bP 14 jK (fun b=>V.heap.size≤b) w' (aR (eH (dG 2001)) iG 8 [] (dI s)).1 (.slice aa nn cc)∧aA 2001 w' g (aR (eH (dG 2001)) iG 8 [] (dI s)).2∧Fr g V w') :=
  hid (fun g V hV=>BH 2001 _ _ (eH (dG 2001)) iG Ir (Jw 2001) (pI oL) rM (enters_of Tryz.func65 (by kernel_rfl) rfl) (enters_of Tryz.func66 (by kernel_rfl) rfl) 8 (by decide) g (dI s) V hV hD)
 obtain⟨⟨X,p,q⟩,hXA⟩:∃x,dM s=x:=⟨_,rfl⟩
 have hA:dM s=if (endP (aR (eH (dG 2001)) iG 8 [] (dI s)).2).2.bad=0 then ((aR (eH (dG 2001)) iG 8 [] (dI s)).1,0,0) else ([],(endP (aR (eH (dG 2001)) iG 8 [] (dI s)).2).2.bad,(endP (aR (eH (dG 2001)) iG 8 [] (dI s)).2).2.bp):=rfl
 rw[hXA] at hA ⊢
 generalize dI s=r0 at HNR HL hA
 generalize (aR (eH (dG 2001)) iG 8 [] r0).1=l1 at HL hA
 generalize (aR (eH (dG 2001)) iG 8 [] r0).2=r1 at HL hA
 have HE:=hid (fun g V (hV:aA 2001 V g r1)=>Io 2001 g r1 V hV)
 generalize (endP r1).2=r2 at HE hA
 dsimp only
 clear hXA hT hbW hcW hD
 by_cases hb:r2.bad=0
 ·rw[if_pos hb] at hA
  simp only[Prod.mk.injEq] at hA
  obtain⟨rfl,rfl,rfl⟩:=hA
  rw[hb] at HE
  clear hb
  go_enter Tryz.func36,Tryz.ntmps36
  go_wp2_with fail
  try rw[hW]
  clear hW
  refine HNR.out.mono ?_
  rintro e w1 ⟨g,rfl,hg,hr1,hb1⟩
  have hz1:=hb1.size
  have HB1:=hid (HBW.out.trans (hb1.mono HBW.out.size))
  have HL1:=hid (HL.out g w1 hr1)
  have HC1:=hid ((hb1.block w.heap.size hzW).trans HCW.out)
  have hgw1:=hr1.lt
  clear hr1 hb1 HNR HL
  go_wp2_with fail
  refine HL1.out.mono ?_
  rintro e w2 ⟨aa,nn,cc,rfl,hl2,hr2,hf2⟩
  have hz2:=hf2.size
  have HL2:=hid hl2
  have HE2:=hid (HE.out g w2 hr2)
  have HC2:=hid ((hf2.block w.heap.size (by omega) (by omega)).trans HC1.out)
  have HF2:=hid hf2
  clear hl2 hr2 hf2 HL1 HE
  go_wp2_with fail
  refine HE2.out.mono ?_
  rintro e w3 ⟨rfl,hr3,hf3⟩
  have hz3:=hf3.size
  obtain⟨U,hU,hbU,hzU,hcU⟩:=bF w3 (.cells #[.int .i64 0,.int .i64 r2.bp] 69)
  have hC3:=(hbU.block w.heap.size (by omega)).trans ((hf3.block w.heap.size (by omega) (by omega)).trans HC2.out)
  have kU:=dW hcU
  have kC:=dW hC3
  have HF3:=hid ((HF2.out.then hf3).aO hbU)
  have HSL:=hid ((HL2.out.to (by decide) (T:=fun b=>w.heap.size≤b∧b≠w.heap.size) hf3 (fun b hb _=>⟨by omega,by omega,by omega⟩) (fun _ _ e=>e.to hf3 (fun b hb _=>⟨by omega,by omega,by omega⟩))).to (by decide) (T:=fun b=>w.heap.size≤b∧b≠w.heap.size) (R:=fun _=>False) (aj.aC hbU) (fun b hb _=>⟨id,hb⟩) (fun _ _ e=>e.to (R:=fun _=>False) (aj.aC hbU) (fun b hb _=>⟨id,hb⟩)))
  have HC3:=hid hC3
  clear hr3 hf3 hbU hcU hC3 HF2
  go_wp2
  have hZs:aj (fun k=>k=w.heap.size) U ((U.setCell ⟨w.heap.size,0,none⟩ (.int .i64 0)).setCell ⟨w.heap.size,1,none⟩ (.int .i64 0)):=((aj.refl (fun k=>k=w.heap.size) U).own _ _).own _ _
  have hB:Below w.heap.size w U:=HB1.out.trans (HF3.out.below (fun i hi=>by omega) (by omega))
  refine bodyPost_ret (v:=.tuple #[.slice aa nn cc,.agg #[.int .i64 0,.int .i64 0]]) (by simp[results,Tryz.results36,go_sem,kC]) rfl ⟨aa,nn,cc,rfl,?_,(hB.setCell (Nat.le_refl _) _).setCell (Nat.le_refl _) _⟩
  exact HSL.out.to (by decide) hZs (fun b hb _=>⟨hb.2,hb.1⟩) (fun _ _ e=>e.to hZs (fun b hb _=>⟨hb.2,hb.1⟩))
 ·rw[if_neg hb] at hA
  simp only[Prod.mk.injEq] at hA
  obtain⟨rfl,hA2,hA3⟩:=hA
  have hb':(r2.bad != 0)=true:=by simpa using hb
  rw[← hA2] at HE hb'
  rw[← hA3] at HE
  clear hb hA2 hA3
  go_enter Tryz.func36,Tryz.ntmps36
  go_wp2_with fail
  try rw[hW]
  clear hW
  refine HNR.out.mono ?_
  rintro e w1 ⟨g,rfl,hg,hr1,hb1⟩
  have hz1:=hb1.size
  have HB1:=hid (HBW.out.trans (hb1.mono HBW.out.size))
  have HL1:=hid (HL.out g w1 hr1)
  have HC1:=hid ((hb1.block w.heap.size hzW).trans HCW.out)
  have hgw1:=hr1.lt
  clear hr1 hb1 HNR HL
  go_wp2_with fail
  refine HL1.out.mono ?_
  rintro e w2 ⟨aa,nn,cc,rfl,hl2,hr2,hf2⟩
  have hz2:=hf2.size
  have HL2:=hid hl2
  have HE2:=hid (HE.out g w2 hr2)
  have HC2:=hid ((hf2.block w.heap.size (by omega) (by omega)).trans HC1.out)
  have HF2:=hid hf2
  clear hl2 hr2 hf2 HL1 HE
  go_wp2_with fail
  refine HE2.out.mono ?_
  rintro e w3 ⟨rfl,hr3,hf3⟩
  have hz3:=hf3.size
  obtain⟨U,hU,hbU,hzU,hcU⟩:=bF w3 (.cells #[.int .i64 p,.int .i64 q] 69)
  have hC3:=(hbU.block w.heap.size (by omega)).trans ((hf3.block w.heap.size (by omega) (by omega)).trans HC2.out)
  have kU:=dW hcU
  have kC:=dW hC3
  have HF3:=hid ((HF2.out.then hf3).aO hbU)
  have HSL:Hid True:=hid trivial
  have HC3:=hid hC3
  clear hr3 hf3 hbU hcU hC3 HF2
  go_wp2_with fail
  go_region
  all_goals
   go_wp2
   have hB:Below w.heap.size w U:=HB1.out.trans (HF3.out.below (fun i hi=>by omega) (by omega))
   exact bodyPost_ret (v:=.tuple #[.slice none 0 0,.agg #[.int .i64 p,.int .i64 q]]) (by simp[results,Tryz.results36,go_sem,kC]) rfl ⟨none,0,0,rfl,bP.nil,((hB.setCell (Nat.le_refl _) _).setCell (Nat.le_refl _) _).drew⟩
end Go.Proofs.YtaaggohjmhifbaaGreatDoor
namespace Go.Proofs.YtaaggohjmhifbaaGreatDoor
set_option linter.unusedSimpArgs false
set_option linter.unusedVariables false
set_option maxHeartbeats 8000000
theorem Kl {r:Rd} (h:(endP r).2.bad=0):r.bad=0∧(bq r).k=6:=by
 rw[F3] at h
 split at h
 ·rename_i hk;exact⟨h,hk⟩
 ·by_cases e:r.bad=0
  ·rw[fZ e] at h;exact absurd h (by decide)
  ·rw[fP e] at h;exact absurd h e
def Hd (ts:List Tk) (S:List (List UInt8)):Prop:=∀s,iU (ts.headD jl) s=true→s∈S
theorem Hd.no {ts:List Tk} {S:List (List UInt8)} (h:Hd ts S) {s:List UInt8} (hs:s ∉ S):iU (ts.headD jl) s=false:=by
 cases e:iU (ts.headD jl) s with
 | false=>rfl
 | true=>exact absurd (h s e) hs
theorem Hd.stops {ts:List Tk} {S:List (List UInt8)} (h:Hd ts S) (hs : ∀s∈jP 0,s ∉ S):Stops 0 ts:=fun s hb=>h.no (hs s hb)
theorem Hd.cons (s:List UInt8) (ts:List Tk) (S:List (List UInt8)):Hd (aJ s::ts) (s::S):=fun u hu=>by
 have:=xq (jB s) hu
 subst this
 simp
theorem Hd.up {ts:List Tk} {S:List (List UInt8)} (h:Hd ts S) (s:List UInt8):Hd ts (s::S):=fun u hu=>List.mem_cons_of_mem _ (h u hu)
theorem Hd.part {xs:List Ex} {w:List UInt8} {ws:List (List UInt8)} {ts:List Tk} {S:List (List UInt8)} (hl:xs=[]∨∃x,xs=[x]) (h:Hd ts S):Hd (bX xs (w::ws)++ts) (w::S):=by
 rcases hl with rfl | ⟨x,rfl⟩
 ·exact h.up w
 ·have e:bX [x] (w::ws)++ts=aJ w::(au ws++(qg x++ts)):=by simp[bX,au]
  rw[e]
  exact Hd.cons _ _ _
theorem mX.hd {rest:List Tk} (h:mX rest):Hd rest [[59]]:=fun s hs=>by rw[h s hs];simp
theorem yK {F:Nat} {tb jn:List UInt8} {items:List It} {on wh gr od:List Ex} {desc:Bool} {lim:Int} (hi:aX items 1 8 rJ=true) (hj:qW jn=true) (ho:aX on (kF jn) (kF jn) aK=true) (hw:aX wh 0 1 aK=true) (hg:aX gr 0 1 fJ=true) (hod:aX od 0 1 fJ=true) (hde:(!desc||decide (od.length=1))=true)
  (hF1:(bL (aJ [44]) (items.map z8)).length≤F) (hF2:(bX on [[79,78]]).length≤F) (hF3:(bX wh [[87,72,69,82,69]]).length≤F) (hd1 : ∀i∈items,KA i≤10) (hd2:mY on≤10) (hd3:mY wh≤10) (bp:Int) (rest:List Tk) (hs:mX rest) :
  dY (dG F) (RR 0 bp (bL (aJ [44]) (items.map z8)++aJ [70,82,79,77]::cB tb::((if jn=[] then [] else [aJ [74,79,73,78],cB jn])++(bX on [[79,78]]++(bX wh [[87,72,69,82,69]]++(bX gr [[71,82,79,85,80],[66,89]]++(bX od [[79,82,68,69,82],[66,89]]++((if desc=true then [aJ [68,69,83,67]] else [])++((if lim = -1 then [] else [aJ [76,73,77,73,84],BZ lim])++rest))))))))) =
   ({ gZ 6 with tb:=tb,items:=items,jn:=jn,on:=on,wh:=wh,gr:=gr,od:=od,desc:=desc,lim:=lim },RR 0 bp rest):=by
 obtain⟨x,xs,rfl,hm,hp⟩:=gG hi
 have hlim:gI [76,73,77,73,84] iT (aT (-1)) (RR 0 bp ((if lim = -1 then [] else [aJ [76,73,77,73,84],BZ lim])++rest))=(lim,RR 0 bp rest):=by
  by_cases e:lim = -1
  ·subst e
   rw[if_pos rfl]
   exact jo _ _ (hs.no (by decide))
  ·rw[if_neg e]
   show gI _ _ _ (RR 0 bp (aJ [76,73,77,73,84]::BZ lim::rest))=_
   rw[jQ _ _ (jB _)]
   rfl
 have h5:Hd ((if lim = -1 then [] else [aJ [76,73,77,73,84],BZ lim])++rest) [[76,73,77,73,84],[59]]:=by
  split
  ·exact hs.hd.up _
  ·exact Hd.cons _ _ _
 generalize (if lim = -1 then [] else [aJ [76,73,77,73,84],BZ lim])++rest=T5 at hlim h5 ⊢
 have hdesc:(if od.length=0 then aT false else fD [68,69,83,67]) (RR 0 bp ((if desc=true then [aJ [68,69,83,67]] else [])++T5))=(desc,RR 0 bp T5):=by
  cases desc with
  |
   false =>
   show (if od.length=0 then aT false else fD [68,69,83,67]) (RR 0 bp T5)=(false,RR 0 bp T5)
   split
   ·rfl
   ·exact nH (h5.no (by decide))
  |
   true =>
   have:od.length=1:=by simpa using hde
   rw[if_neg (by omega),if_pos rfl]
   exact lU _
 have h4:Hd ((if desc=true then [aJ [68,69,83,67]] else [])++T5) [[68,69,83,67],[76,73,77,73,84],[59]]:=by
  split
  ·exact Hd.cons _ _ _
  ·exact h5.up _
 generalize (if desc=true then [aJ [68,69,83,67]] else [])++T5=T4 at hdesc h4 ⊢
 have hord:bI fq [79,82,68,69,82] [[66,89]] (RR 0 bp (bX od [[79,82,68,69,82],[66,89]]++T4))=(od,RR 0 bp T4) :=
  lN (iP hod) (fun y hy=>wu (bC hod y hy) bp T4 (h4.no (by decide))) (fun _=>h4.no (by decide))
 have h3:=h4.part (w:=[79,82,68,69,82]) (ws:=[[66,89]]) (iP hod)
 generalize bX od [[79,82,68,69,82],[66,89]]++T4=T3 at hord h3 ⊢
 have hgrp:bI fq [71,82,79,85,80] [[66,89]] (RR 0 bp (bX gr [[71,82,79,85,80],[66,89]]++T3))=(gr,RR 0 bp T3) :=
  lN (iP hg) (fun y hy=>wu (bC hg y hy) bp T3 (h3.no (by decide))) (fun _=>h3.no (by decide))
 have h2:=h3.part (w:=[71,82,79,85,80]) (ws:=[[66,89]]) (iP hg)
 generalize bX gr [[71,82,79,85,80],[66,89]]++T3=T2 at hgrp h2 ⊢
 have hwhe:bI (dG F) [87,72,69,82,69] [] (RR 0 bp (bX wh [[87,72,69,82,69]]++T2))=(wh,RR 0 bp T2) :=
  lN (iP hw) (fun y hy=>mF (bC hw y hy) (Nat.le_trans (oJ hy) hF3) (lg hd3 _ (List.mem_map.2 ⟨y,hy,rfl⟩)) bp (h2.stops (by decide))) (fun _=>h2.no (by decide))
 have h1:=h2.part (w:=[87,72,69,82,69]) (ws:=[]) (iP hw)
 generalize bX wh [[87,72,69,82,69]]++T2=T1 at hwhe h1 ⊢
 have hjoin:iA (dG F) (RR 0 bp ((if jn=[] then [] else [aJ [74,79,73,78],cB jn])++(bX on [[79,78]]++T1)))=((jn,on),RR 0 bp T1):=by
  unfold iA
  by_cases e:jn=[]
  ·subst e
   have:on=[]:=by
    have h0:=ho
    unfold aX at h0
    simp only[Bool.and_eq_true,decide_eq_true_eq] at h0
    exact List.eq_nil_of_length_eq_zero (Nat.le_zero.1 h0.1.2)
   subst this
   rw[if_pos rfl]
   exact jo _ _ (h1.no (by decide))
  ·have hj1:kF jn=1:=if_neg e
   rw[hj1] at ho
   obtain⟨y,l,rfl,hl,hy⟩:=gG ho
   obtain rfl:l=[]:=List.eq_nil_of_length_eq_zero (by omega)
   rw[if_neg e]
   rw[show [aJ [74,79,73,78],cB jn]++(bX [y] [[79,78]]++T1)=aJ [74,79,73,78]::cB jn::aJ [79,78]::(qg y++T1) by simp[bX,au]]
   rw[jQ _ _ (jB _),aH (fu 0 bp jn _),aH (jm _),aH (mF (hy y (by simp)) (Nat.le_trans (oJ (ws:=[[79,78]]) (List.mem_singleton.2 rfl)) hF2) (lg hd2 _ (by simp)) bp (h1.stops (by decide)))]
   rfl
 have hst:Stops 0 (aJ [70,82,79,77]::cB tb::((if jn=[] then [] else [aJ [74,79,73,78],cB jn])++(bX on [[79,78]]++T1))):=(Hd.cons [70,82,79,77] _ []).stops (by decide)
 generalize (if jn=[] then [] else [aJ [74,79,73,78],cB jn])++(bX on [[79,78]]++T1)=T0 at hjoin hst ⊢
 unfold dY
 rw[aH (kP (one:=dV (dG F)) (tk:=z8) (rest:=aJ [70,82,79,77]::cB tb::T0) (eP (by decide)) hm (fun y hy T hT=>Di (hp y hy) (Nat.le_trans (tZ (aJ [44]) z8 _ y hy) hF1) (hd1 y hy) bp T (by
  rcases hT with rfl | ⟨u,rfl⟩
  ·exact hst
  ·exact sI u))),aH (jm _),aH (fu 0 bp tb _),aH hjoin,aH hwhe,aH hgrp,aH hord,aH hdesc,aH hlim]
 rfl
theorem DI {tb:List UInt8} (bp:Int) (rest:List Tk):jR (RR 0 bp (aJ [84,65,66,76,69]::cB tb::rest))=({ gZ 2 with tb:=tb },RR 0 bp rest):=by
 unfold jR
 rw[aH (jm _),aH (fu 0 bp tb _)]
 rfl
theorem Ae {F:Nat} {s:St} (h:aM s=true) (hF:(kW s).length≤F) (hd:vJ s≤10) (bp:Int) (rest:List Tk) (hs:mX rest):eH (dG F) (RR 0 bp (kW s++rest))=(s,RR 0 bp rest):=by
 have hk0:s.k=1∨s.k=2∨s.k=3∨s.k=4∨s.k=5∨s.k=6:=by
  unfold aM lu at h
  simp only[Bool.and_eq_true] at h
  have hk:=h.1
  by_cases h1:s.k=1
  ·exact .inl h1
  by_cases h2:s.k=2
  ·exact .inr (.inl h2)
  by_cases h3:s.k=3
  ·exact .inr (.inr (.inl h3))
  by_cases h4:s.k=4
  ·exact .inr (.inr (.inr (.inl h4)))
  by_cases h5:s.k=5
  ·exact .inr (.inr (.inr (.inr (.inl h5))))
  by_cases h6:s.k=6
  ·exact .inr (.inr (.inr (.inr (.inr h6))))
  ·rw[if_neg h1,if_neg h2,if_neg h3,if_neg h4,if_neg h5,if_neg h6] at hk;cases hk
 unfold aM at h
 simp only[Bool.and_eq_true] at h
 obtain⟨hk,hn,he⟩:=h
 have hz:=vM he
 clear he hn
 obtain⟨k,tb,cols,prim,rows,sets,items,jn,on,wh,gr,od,desc,lim⟩:=s
 unfold lu at hk
 unfold vY gZ at hz
 dsimp only at hk hz hk0
 unfold eH
 rcases hk0 with rfl | rfl | rfl | rfl | rfl | rfl
 ·rw[if_pos rfl] at hk hz
  simp only[St.mk.injEq,true_and,and_true] at hz
  obtain⟨rfl,rfl,rfl,rfl,rfl,rfl,rfl,rfl,rfl,rfl⟩:=hz
  rw[Bool.and_eq_true] at hk
  have e:kW ⟨1,tb,cols,prim,[],[],[],[],[],[],[],[],false,-1⟩++rest=aJ [67,82,69,65,84,69]::aJ [84,65,66,76,69]::cB tb::aJ [40]::(bL (aJ [44]) (cols.map jD)++(au [[44],[80,82,73,77,65,82,89],[75,69,89],[40]]++cB prim::(au [[41],[41]]++rest))):=by
   unfold kW KF
   dsimp only
   rw[if_pos rfl]
   simp[au]
  rw[e,aH (show aF gK (RR 0 bp (aJ [67,82,69,65,84,69]::_))=(1,RR 0 bp _) from rfl),if_pos rfl]
  exact yH (F:=F) hk.1 bp rest (dG F)
 ·rw[if_neg (by decide),if_neg (by decide),if_neg (by decide),if_neg (by decide),if_neg (by decide)] at hz
  simp only[St.mk.injEq,true_and,and_true] at hz
  obtain⟨rfl,rfl,rfl,rfl,rfl,rfl,rfl,rfl,rfl,rfl,rfl,rfl⟩:=hz
  rw[show kW ⟨2,tb,[],[],[],[],[],[],[],[],[],[],false,-1⟩++rest=aJ [68,82,79,80]::aJ [84,65,66,76,69]::cB tb::rest from rfl,aH (show aF gK (RR 0 bp (aJ [68,82,79,80]::_))=(2,RR 0 bp _) from rfl),if_neg (by decide),if_pos rfl]
  exact DI bp rest
 ·rw[if_neg (by decide),if_neg (by decide),if_pos rfl] at hk
  rw[if_neg (by decide),if_pos rfl] at hz
  simp only[St.mk.injEq,true_and,and_true] at hz
  obtain⟨rfl,rfl,rfl,rfl,rfl,rfl,rfl,rfl,rfl,rfl,rfl⟩:=hz
  rw[show kW ⟨3,tb,[],[],rows,[],[],[],[],[],[],[],false,-1⟩++rest=aJ [73,78,83,69,82,84]::aJ [73,78,84,79]::cB tb::aJ [86,65,76,85,69,83]::(bL (aJ [44]) (rows.map qD)++rest) from rfl,aH (show aF gK (RR 0 bp (aJ [73,78,83,69,82,84]::_))=(3,RR 0 bp _) from rfl),if_neg (by decide),if_neg (by decide),if_pos rfl]
  exact yA hk bp rest hs
 ·rw[if_neg (by decide),if_neg (by decide),if_neg (by decide),if_pos rfl,Bool.and_eq_true] at hk
  rw[if_neg (by decide),if_neg (by decide),if_pos rfl] at hz
  simp only[St.mk.injEq,true_and,and_true] at hz
  obtain⟨rfl,rfl,rfl,rfl,rfl,rfl,rfl,rfl,rfl,rfl⟩:=hz
  have e0:kW ⟨4,tb,[],[],[],sets,[],[],[],wh,[],[],false,-1⟩=aJ [85,80,68,65,84,69]::cB tb::aJ [83,69,84]::(bL (aJ [44]) (sets.map qA)++bX wh [[87,72,69,82,69]]):=rfl
  have hl:=hF
  rw[e0] at hl ⊢
  simp only[List.length_cons,List.length_append] at hl
  have hd':max (dJ (sets.map fun x=>G6 x.e)) (mY wh)≤10:=hd
  rw[show aJ [85,80,68,65,84,69]::cB tb::aJ [83,69,84]::(bL (aJ [44]) (sets.map qA)++bX wh [[87,72,69,82,69]])++rest=aJ [85,80,68,65,84,69]::cB tb::aJ [83,69,84]::(bL (aJ [44]) (sets.map qA)++(bX wh [[87,72,69,82,69]]++rest)) by simp,aH (show aF gK (RR 0 bp (aJ [85,80,68,65,84,69]::_))=(4,RR 0 bp _) from rfl),if_neg (by decide),if_neg (by decide),if_neg (by decide),if_pos rfl]
  exact yR hk.1 hk.2 (by omega) (by omega) (fun x hx=>lg (show dJ (sets.map fun x=>G6 x.e)≤10 by omega) _ (List.mem_map.2 ⟨x,hx,rfl⟩)) (by omega) bp rest hs
 ·rw[if_neg (by decide),if_neg (by decide),if_neg (by decide),if_neg (by decide),if_pos rfl] at hk
  rw[if_neg (by decide),if_neg (by decide),if_neg (by decide),if_pos rfl] at hz
  simp only[St.mk.injEq,true_and,and_true] at hz
  obtain⟨rfl,rfl,rfl,rfl,rfl,rfl,rfl,rfl,rfl,rfl,rfl⟩:=hz
  have e0:kW ⟨5,tb,[],[],[],[],[],[],[],wh,[],[],false,-1⟩=aJ [68,69,76,69,84,69]::aJ [70,82,79,77]::cB tb::bX wh [[87,72,69,82,69]]:=rfl
  have hl:=hF
  rw[e0] at hl ⊢
  simp only[List.length_cons] at hl
  have hd':mY wh≤10:=hd
  rw[show aJ [68,69,76,69,84,69]::aJ [70,82,79,77]::cB tb::bX wh [[87,72,69,82,69]]++rest=aJ [68,69,76,69,84,69]::aJ [70,82,79,77]::cB tb::(bX wh [[87,72,69,82,69]]++rest) from rfl,aH (show aF gK (RR 0 bp (aJ [68,69,76,69,84,69]::_))=(5,RR 0 bp _) from rfl),if_neg (by decide),if_neg (by decide),if_neg (by decide),if_neg (by decide),if_pos rfl]
  exact zZ hk (by omega) hd' bp rest hs
 ·rw[if_neg (by decide),if_neg (by decide),if_neg (by decide),if_neg (by decide),if_neg (by decide),if_pos rfl] at hk
  rw[if_neg (by decide),if_neg (by decide),if_neg (by decide),if_neg (by decide),if_pos rfl] at hz
  simp only[St.mk.injEq,true_and,and_true] at hz
  obtain⟨rfl,rfl,rfl,rfl⟩:=hz
  unfold Af at hk
  simp only[Bool.and_eq_true] at hk
  obtain⟨q1,q2,q3,q4,q5,q6,q7,q8⟩:=hk
  have e0:kW ⟨6,tb,[],[],[],[],items,jn,on,wh,gr,od,desc,lim⟩=aJ [83,69,76,69,67,84]::(bL (aJ [44]) (items.map z8)++aJ [70,82,79,77]::cB tb::((if jn=[] then [] else [aJ [74,79,73,78],cB jn])++(bX on [[79,78]]++(bX wh [[87,72,69,82,69]]++(bX gr [[71,82,79,85,80],[66,89]]++(bX od [[79,82,68,69,82],[66,89]]++((if desc=true then [aJ [68,69,83,67]] else [])++(if lim = -1 then [] else [aJ [76,73,77,73,84],BZ lim])))))))):=rfl
  have hl:=hF
  rw[e0] at hl ⊢
  simp only[List.length_cons,List.length_append] at hl
  have hd':max (dJ (items.map KA)) (max (mY on) (max (mY wh) (max (mY gr) (mY od))))≤10:=hd
  simp only[List.cons_append,List.append_assoc]
  rw[aH (show aF gK (RR 0 bp (aJ [83,69,76,69,67,84]::_))=(6,RR 0 bp _) from rfl),if_neg (by decide),if_neg (by decide),if_neg (by decide),if_neg (by decide),if_neg (by decide),if_pos rfl]
  exact yK q1 q2 q3 q4 q5 q6 q7 (by omega) (by omega) (by omega) (fun x hx=>lg (show dJ (items.map KA)≤10 by omega) _ (List.mem_map.2 ⟨x,hx,rfl⟩)) (by omega) (by omega) bp rest hs
theorem A9 {L:List Tk} (hg:bA L) (hlen:(Lib.join (oh L) [32]).length≤2000):sS (dI (Lib.join (oh L) [32])) (RR 0 0 (L++[oW]))∧L.length≤2000:=by
 have hw:oh L=L.map wr:=by
  have h1:=EX hg oW rfl
  rw[vw,if_pos (show oW.k=6 from rfl)] at h1
  exact h1
 rw[hw] at hlen ⊢
 obtain⟨l',h1,h2⟩:=back L hg hlen
 have hm:=(qb (Lib.join (L.map wr) [32])).many
 unfold dI at hm ⊢
 rw[h1] at hm ⊢
 refine ⟨⟨?_,rfl,rfl⟩,?_⟩
 ·show l'.map Tk.z=(L++[oW]).map Tk.z
  rw[h2,List.map_append]
  rfl
 ·have:=congrArg List.length h2
  simp only[List.length_map,List.length_append,List.length_cons,List.length_nil] at this
  have hm':l'.length≤2001:=hm
  omega
theorem GI:mX [oW]:=fun s hs=>by
 have:iU oW s=false:=by unfold iU oW;rfl
 rw[show ([oW]:List Tk).headD jl=oW from rfl,this] at hs
 cases hs
theorem za {l:List St} (h:aX l 1 8 aM=true) (hd : ∀s∈l,vJ s≤10) (hg:bA (bL (aJ [59]) (l.map kW))) (hlen:(Lib.join (oh (bL (aJ [59]) (l.map kW))) [32]).length≤2000):dM (Lib.join (oh (bL (aJ [59]) (l.map kW))) [32])=(l,0,0):=by
 obtain⟨hs,hl⟩:=A9 hg hlen
 obtain⟨b1,b2⟩:=(zl (F:=2001)).simA _ _ hs
 have hr:iJ 2001 (RR 0 0 (bL (aJ [59]) (l.map kW)++[oW]))=(l,RR 0 0 [oW]):=by
  obtain⟨x,xs,rfl,hm,hp⟩:=gG h
  unfold iJ
  have hone : ∀y∈x::xs,∀ts,ts=[oW]∨(∃u,ts=aJ [59]::u)→eH (dG 2001) (RR 0 0 (kW y++ts))=(y,RR 0 0 ts):=fun y hy ts hts=>Ae (hp y hy) (Nat.le_trans (tZ (aJ [59]) kW _ y hy) (by omega)) (hd y hy) 0 ts (by
   rcases hts with rfl | ⟨u,rfl⟩
   ·exact GI
   ·exact fun s hs=>(xq (jB [59]) hs).symm)
  rw[aH (oD (one:=eH (dG 2001)) (more:=iG) (tk:=kW) (sep:=aJ [59]) (show iG (RR 0 0 [oW])=(false,RR 0 0 [oW]) from nH rfl) xs x 8 [] hm hone (fun y _ ts=>lU [59]))]
  rfl
 rw[hr] at b1 b2
 have hb:(iJ 2001 (dI (Lib.join (oh (bL (aJ [59]) (l.map kW))) [32]))).2.bad=0:=b2.2.2
 unfold dM
 rw[if_pos hb,b1]
end Go.Proofs.YtaaggohjmhifbaaGreatDoor
