/- Packed for the hand-in: PTop PLaw WBackS -/
import Derived.Test.YtaaggohjmhifbaaGreatDoorZ42
import Derived.Test.YtaaggohjmhifbaaGreatDoorZ24
namespace Go.Proofs.YtaaggohjmhifbaaGreatDoor
open Go.RowKit Go.Shelf
set_option linter.unusedSimpArgs false
set_option linter.unusedVariables false
set_option maxRecDepth 20000
set_option maxHeartbeats 8000000
def dV (s:List UInt8):Rd:=⟨(tokens s).2.2,0,((tokens s).1:Int),(tokens s).2.1⟩
theorem qB (s:List UInt8):Good 2001 (dV s):=by
 by_cases h:(tokens s).1=0
 ·have hl : ¬2000<s.length:=fun hl=>by rw[tokens,if_pos hl] at h;exact absurd (show (2:Nat)=0 from h) (by decide)
  have e:tokens s=toks (s.length+1) s 0:=by rw[tokens,if_neg hl]
  have h':=h
  rw[e] at h'
  obtain⟨L,h1,h2,h3⟩:=rX (s.length+1) s 0 (by omega) h'
  have hts:(dV s).ts=L++[⟨6,[],0,((0+s.length:Nat):Int)⟩]:=by unfold dV;rw[e];exact h1
  refine ⟨fun _=>⟨L,_,hts,rfl,fun x hx=>(h3 x hx).k6⟩,Int.le_refl _,by show (0:Int)≤11;decide,fun _=>by show (0:Int)≤10;decide,fun x hx=>?_,by rw[hts];simp;omega⟩
  rw[hts] at hx
  rcases List.mem_append.1 hx with hx | hx
  ·exact⟨(h3 x hx).n0,(h3 x hx).n1⟩
  ·rw[List.mem_singleton] at hx
   subst hx
   exact⟨Int.le_refl _,by show (0:Int)≤_;decide⟩
 ·have hts:(dV s).ts=[]:=by
   unfold dV tokens at *
   split
   ·rfl
   ·rename_i hl
    rw[if_neg hl] at h
    exact (mP _ _ _).1 h
  have hb:(dV s).bad≠0:=by show ((tokens s).1:Int)≠0;omega
  exact⟨fun e=>absurd e hb,Int.le_refl _,by show (0:Int)≤11;decide,fun e=>absurd e hb,(fun x hx=>by rw[hts] at hx;cases hx),by rw[hts];simp⟩
theorem wo (s:List UInt8) (w:World) (hT:lI w) (hs:s.length≤140737488351232) :
  Calls Tryz.prog 63 #[.string (aj s)] w fun e w'=>∃g,e = .returned (.pointer (some ⟨g,0,none⟩))∧w.heap.size≤g∧aB 2001 w' g (dV s)∧Below w.heap.size w w':=by
 have HK:=hid (Bl s w hT hs)
 have HG:=hid (qB s)
 have HST:Hid (dV s=⟨(tokens s).2.2,0,((tokens s).1:Int),(tokens s).2.1⟩):=hid rfl
 generalize dV s=r at HG HST ⊢
 generalize (tokens s).2.2=ts at HK HST
 generalize ((tokens s).1:Int)=e1 at HK HST
 generalize (tokens s).2.1=p1 at HK HST
 clear hT
 go_enter Tryz.func63,Tryz.ntmps63
 go_wp2_with fail
 refine HK.out.mono ?_
 rintro e w1 ⟨v,rfl,htk,hb1⟩
 have HTK:=hid htk
 obtain⟨va,vc,rfl,_⟩:=id htk
 have HB1:=hid hb1
 clear htk hb1 HK
 go_wp2
 obtain⟨W,hW,hbW,hzW,hcA,hcB⟩:=two w1 (.cells #[.int .i64 e1,.int .i64 p1] 69) (.cells #[.slice va ts.length vc,.int .i64 0,.int .i64 e1,.int .i64 p1] 151)
 rw[hW]
 refine bodyPost_ret (v:=.pointer (some ⟨w1.heap.size+1,0,none⟩)) (by simp[results,Tryz.results63,go_sem]) rfl ⟨w1.heap.size+1,rfl,by have:=HB1.out.size;omega,⟨HG.out,.slice va ts.length vc,?_,?_⟩,HB1.out.trans (hbW.mono HB1.out.size)⟩
 ·rw[HST.out]
  exact hcB
 ·rw[HST.out]
  exact (HTK.out.below hbW).mono (by omega)
def cu (s:List UInt8):List St × Int × Int:=if (iY 2001 (dV s)).2.bad=0 then ((iY 2001 (dV s)).1,0,0) else ([],(iY 2001 (dV s)).2.bad,(iY 2001 (dV s)).2.bp)
theorem KC:jd 2001 D0 116 (dU 2001):=fun g r w h hD=>D7 2001 g r w h hD
theorem Jb:vP 2001 mO 65 (eZ (dU 2001)):=Fp 2001 (dU 2001) KC oW
theorem CF (s:List UInt8) (w:World) (hT:lI w) (hs:s.length≤140737488351232) :
  Calls Tryz.prog 36 #[.string (aj s)] w fun e w'=>∃(aa:Option Addr) (nn cc:Nat),e = .returned (.tuple #[.slice aa nn cc,.agg #[.int .i64 (cu s).2.1,.int .i64 (cu s).2.2]])∧bT 14 mO (fun b=>w.heap.size≤b) w' (cu s).1 (.slice aa nn cc)∧Below w.heap.size w w':=by
 obtain⟨W,hW,hbW,hzW,hcW⟩:=aQ w (.cells #[.int .i64 0,.int .i64 0] 69)
 have HCW:=hid hcW
 have HBW:=hid hbW
 have HNR:=hid (wo s W (hT.on hbW) hs)
 have hD:D0 (dV s):=fun _=>rfl
 have HL:Hid (∀g V,aB 2001 V g (dV s)→Calls Tryz.prog 64 #[.pointer (some ⟨g,0,none⟩),.int .i64 8,.func (.func 65) #[.pointer (some ⟨g,0,none⟩)] #[],.func (.func 66) #[.pointer (some ⟨g,0,none⟩)] #[]] V fun e w'=>∃(aa:Option Addr) (nn cc:Nat),e = .returned (.slice aa nn cc)∧bT 14 mO (fun b=>V.heap.size≤b) w' (aU (eZ (dU 2001)) iV 8 [] (dV s)).1 (.slice aa nn cc)∧aB 2001 w' g (aU (eZ (dU 2001)) iV 8 [] (dV s)).2∧Fr g V w') :=
  hid (fun g V hV=>Bf 2001 _ _ (eZ (dU 2001)) iV Jb (Km 2001) (qp oW) sw (enters_of Tryz.func65 (by kernel_rfl) rfl) (enters_of Tryz.func66 (by kernel_rfl) rfl) 8 (by decide) g (dV s) V hV hD)
 obtain⟨⟨X,p,q⟩,hXA⟩:∃x,cu s=x:=⟨_,rfl⟩
 have hA:cu s=if (endP (aU (eZ (dU 2001)) iV 8 [] (dV s)).2).2.bad=0 then ((aU (eZ (dU 2001)) iV 8 [] (dV s)).1,0,0) else ([],(endP (aU (eZ (dU 2001)) iV 8 [] (dV s)).2).2.bad,(endP (aU (eZ (dU 2001)) iV 8 [] (dV s)).2).2.bp):=rfl
 rw[hXA] at hA ⊢
 generalize dV s=r0 at HNR HL hA
 generalize (aU (eZ (dU 2001)) iV 8 [] r0).1=l1 at HL hA
 generalize (aU (eZ (dU 2001)) iV 8 [] r0).2=r1 at HL hA
 have HE:=hid (fun g V (hV:aB 2001 V g r1)=>Jg 2001 g r1 V hV)
 generalize (endP r1).2=r2 at HE hA
 dsimp only
 clear hXA hT hbW hcW hD
 by_cases hb:r2.bad=0
 ·rw[if_pos hb] at hA
  simp only[Prod.mk.injEq] at hA
  obtain⟨rfl,rfl,rfl⟩:=hA
  rw[hb] at HE
  clear hb
  go_enter Tryz.func36,Tryz.ntmps36
  go_wp2_with fail
  try rw[hW]
  clear hW
  refine HNR.out.mono ?_
  rintro e w1 ⟨g,rfl,hg,hr1,hb1⟩
  have hz1:=hb1.size
  have HB1:=hid (HBW.out.trans (hb1.mono HBW.out.size))
  have HL1:=hid (HL.out g w1 hr1)
  have HC1:=hid ((hb1.block w.heap.size hzW).trans HCW.out)
  have hgw1:=hr1.lt
  clear hr1 hb1 HNR HL
  go_wp2_with fail
  refine HL1.out.mono ?_
  rintro e w2 ⟨aa,nn,cc,rfl,hl2,hr2,hf2⟩
  have hz2:=hf2.size
  have HL2:=hid hl2
  have HE2:=hid (HE.out g w2 hr2)
  have HC2:=hid ((hf2.block w.heap.size (by omega) (by omega)).trans HC1.out)
  have HF2:=hid hf2
  clear hl2 hr2 hf2 HL1 HE
  go_wp2_with fail
  refine HE2.out.mono ?_
  rintro e w3 ⟨rfl,hr3,hf3⟩
  have hz3:=hf3.size
  obtain⟨U,hU,hbU,hzU,hcU⟩:=aQ w3 (.cells #[.int .i64 0,.int .i64 r2.bp] 69)
  have hC3:=(hbU.block w.heap.size (by omega)).trans ((hf3.block w.heap.size (by omega) (by omega)).trans HC2.out)
  have kU:=dW hcU
  have kC:=dW hC3
  have HF3:=hid ((HF2.out.then hf3).aM hbU)
  have HSL:=hid ((HL2.out.to (by decide) (T:=fun b=>w.heap.size≤b∧b≠w.heap.size) hf3 (fun b hb _=>⟨by omega,by omega,by omega⟩) (fun _ _ e=>e.to hf3 (fun b hb _=>⟨by omega,by omega,by omega⟩))).to (by decide) (T:=fun b=>w.heap.size≤b∧b≠w.heap.size) (R:=fun _=>False) (ay.aI hbU) (fun b hb _=>⟨id,hb⟩) (fun _ _ e=>e.to (R:=fun _=>False) (ay.aI hbU) (fun b hb _=>⟨id,hb⟩)))
  have HC3:=hid hC3
  clear hr3 hf3 hbU hcU hC3 HF2
  go_wp2
  have hZs:ay (fun k=>k=w.heap.size) U ((U.setCell ⟨w.heap.size,0,none⟩ (.int .i64 0)).setCell ⟨w.heap.size,1,none⟩ (.int .i64 0)):=((ay.refl (fun k=>k=w.heap.size) U).own _ _).own _ _
  have hB:Below w.heap.size w U:=HB1.out.trans (HF3.out.below (fun i hi=>by omega) (by omega))
  refine bodyPost_ret (v:=.tuple #[.slice aa nn cc,.agg #[.int .i64 0,.int .i64 0]]) (by simp[results,Tryz.results36,go_sem,kC]) rfl ⟨aa,nn,cc,rfl,?_,(hB.setCell (Nat.le_refl _) _).setCell (Nat.le_refl _) _⟩
  exact HSL.out.to (by decide) hZs (fun b hb _=>⟨hb.2,hb.1⟩) (fun _ _ e=>e.to hZs (fun b hb _=>⟨hb.2,hb.1⟩))
 ·rw[if_neg hb] at hA
  simp only[Prod.mk.injEq] at hA
  obtain⟨rfl,hA2,hA3⟩:=hA
  have hb':(r2.bad != 0)=true:=by simpa using hb
  rw[← hA2] at HE hb'
  rw[← hA3] at HE
  clear hb hA2 hA3
  go_enter Tryz.func36,Tryz.ntmps36
  go_wp2_with fail
  try rw[hW]
  clear hW
  refine HNR.out.mono ?_
  rintro e w1 ⟨g,rfl,hg,hr1,hb1⟩
  have hz1:=hb1.size
  have HB1:=hid (HBW.out.trans (hb1.mono HBW.out.size))
  have HL1:=hid (HL.out g w1 hr1)
  have HC1:=hid ((hb1.block w.heap.size hzW).trans HCW.out)
  have hgw1:=hr1.lt
  clear hr1 hb1 HNR HL
  go_wp2_with fail
  refine HL1.out.mono ?_
  rintro e w2 ⟨aa,nn,cc,rfl,hl2,hr2,hf2⟩
  have hz2:=hf2.size
  have HL2:=hid hl2
  have HE2:=hid (HE.out g w2 hr2)
  have HC2:=hid ((hf2.block w.heap.size (by omega) (by omega)).trans HC1.out)
  have HF2:=hid hf2
  clear hl2 hr2 hf2 HL1 HE
  go_wp2_with fail
  refine HE2.out.mono ?_
  rintro e w3 ⟨rfl,hr3,hf3⟩
  have hz3:=hf3.size
  obtain⟨U,hU,hbU,hzU,hcU⟩:=aQ w3 (.cells #[.int .i64 p,.int .i64 q] 69)
  have hC3:=(hbU.block w.heap.size (by omega)).trans ((hf3.block w.heap.size (by omega) (by omega)).trans HC2.out)
  have kU:=dW hcU
  have kC:=dW hC3
  have HF3:=hid ((HF2.out.then hf3).aM hbU)
  have HSL:Hid True:=hid trivial
  have HC3:=hid hC3
  clear hr3 hf3 hbU hcU hC3 HF2
  go_wp2_with fail
  go_region
  all_goals
   go_wp2
   have hB:Below w.heap.size w U:=HB1.out.trans (HF3.out.below (fun i hi=>by omega) (by omega))
   exact bodyPost_ret (v:=.tuple #[.slice none 0 0,.agg #[.int .i64 p,.int .i64 q]]) (by simp[results,Tryz.results36,go_sem,kC]) rfl ⟨none,0,0,rfl,bT.nil,((hB.setCell (Nat.le_refl _) _).setCell (Nat.le_refl _) _).drew⟩
end Go.Proofs.YtaaggohjmhifbaaGreatDoor
namespace Go.Proofs.YtaaggohjmhifbaaGreatDoor
set_option linter.unusedSimpArgs false
set_option linter.unusedVariables false
set_option maxHeartbeats 8000000
theorem Kt {r:Rd} (h:(endP r).2.bad=0):r.bad=0∧(bH r).k=6:=by
 rw[Im] at h
 split at h
 ·rename_i hk;exact⟨h,hk⟩
 ·by_cases e:r.bad=0
  ·rw[gN e] at h;exact absurd h (by decide)
  ·rw[gy e] at h;exact absurd h e
def Hd (ts:List Tk) (S:List (List UInt8)):Prop:=∀s,jk (ts.headD jG) s=true→s∈S
theorem Hd.no {ts:List Tk} {S:List (List UInt8)} (h:Hd ts S) {s:List UInt8} (hs:s ∉ S):jk (ts.headD jG) s=false:=by
 cases e:jk (ts.headD jG) s with
 | false=>rfl
 | true=>exact absurd (h s e) hs
theorem Hd.stops {ts:List Tk} {S:List (List UInt8)} (h:Hd ts S) (hs : ∀s∈ko 0,s ∉ S):Stops 0 ts:=fun s hb=>h.no (hs s hb)
theorem Hd.cons (s:List UInt8) (ts:List Tk) (S:List (List UInt8)):Hd (aH s::ts) (s::S):=fun u hu=>by
 have:=xW (jN s) hu
 subst this
 simp
theorem Hd.up {ts:List Tk} {S:List (List UInt8)} (h:Hd ts S) (s:List UInt8):Hd ts (s::S):=fun u hu=>List.mem_cons_of_mem _ (h u hu)
theorem Hd.part {xs:List Ex} {w:List UInt8} {ws:List (List UInt8)} {ts:List Tk} {S:List (List UInt8)} (hl:xs=[]∨∃x,xs=[x]) (h:Hd ts S):Hd (aT xs (w::ws)++ts) (w::S):=by
 rcases hl with rfl | ⟨x,rfl⟩
 ·exact h.up w
 ·have e:aT [x] (w::ws)++ts=aH w::(ah ws++(jV x++ts)):=by simp[aT,ah]
  rw[e]
  exact Hd.cons _ _ _
theorem nO.hd {rest:List Tk} (h:nO rest):Hd rest [[59]]:=fun s hs=>by rw[h s hs];simp
theorem Aw {F:Nat} {tb jn:List UInt8} {items:List It} {on wh gr od:List Ex} {desc:Bool} {lim:Int} (hi:aZ items 1 8 uQ=true) (hj:mV jn=true) (ho:aZ on (gJ jn) (gJ jn) aP=true) (hw:aZ wh 0 1 aP=true) (hg:aZ gr 0 1 fq=true) (hod:aZ od 0 1 fq=true) (hde:(!desc||decide (od.length=1))=true)
  (hF1:(aN (aH [44]) (items.map tK)).length≤F) (hF2:(aT on [[79,78]]).length≤F) (hF3:(aT wh [[87,72,69,82,69]]).length≤F) (hd1 : ∀i∈items,zT i≤10) (hd2:dH on≤10) (hd3:dH wh≤10) (bp:Int) (rest:List Tk) (hs:nO rest) :
  eT (dU F) (RR 0 bp (aN (aH [44]) (items.map tK)++aH [70,82,79,77]::aR tb::((if jn=[] then [] else [aH [74,79,73,78],aR jn])++(aT on [[79,78]]++(aT wh [[87,72,69,82,69]]++(aT gr [[71,82,79,85,80],[66,89]]++(aT od [[79,82,68,69,82],[66,89]]++((if desc=true then [aH [68,69,83,67]] else [])++((if lim = -1 then [] else [aH [76,73,77,73,84],nP lim])++rest))))))))) =
   ({ gQ 6 with tb:=tb,items:=items,jn:=jn,on:=on,wh:=wh,gr:=gr,od:=od,desc:=desc,lim:=lim },RR 0 bp rest):=by
 obtain⟨x,xs,rfl,hm,hp⟩:=gq hi
 have hlim:gV [76,73,77,73,84] ji (bg (-1)) (RR 0 bp ((if lim = -1 then [] else [aH [76,73,77,73,84],nP lim])++rest))=(lim,RR 0 bp rest):=by
  by_cases e:lim = -1
  ·subst e
   rw[if_pos rfl]
   exact jM _ _ (hs.no (by decide))
  ·rw[if_neg e]
   show gV _ _ _ (RR 0 bp (aH [76,73,77,73,84]::nP lim::rest))=_
   rw[ku _ _ (jN _)]
   rfl
 have h5:Hd ((if lim = -1 then [] else [aH [76,73,77,73,84],nP lim])++rest) [[76,73,77,73,84],[59]]:=by
  split
  ·exact hs.hd.up _
  ·exact Hd.cons _ _ _
 generalize (if lim = -1 then [] else [aH [76,73,77,73,84],nP lim])++rest=T5 at hlim h5 ⊢
 have hdesc:(if od.length=0 then bg false else fI [68,69,83,67]) (RR 0 bp ((if desc=true then [aH [68,69,83,67]] else [])++T5))=(desc,RR 0 bp T5):=by
  cases desc with
  |
   false =>
   show (if od.length=0 then bg false else fI [68,69,83,67]) (RR 0 bp T5)=(false,RR 0 bp T5)
   split
   ·rfl
   ·exact oJ (h5.no (by decide))
  |
   true =>
   have:od.length=1:=by simpa using hde
   rw[if_neg (by omega),if_pos rfl]
   exact mU _
 have h4:Hd ((if desc=true then [aH [68,69,83,67]] else [])++T5) [[68,69,83,67],[76,73,77,73,84],[59]]:=by
  split
  ·exact Hd.cons _ _ _
  ·exact h5.up _
 generalize (if desc=true then [aH [68,69,83,67]] else [])++T5=T4 at hdesc h4 ⊢
 have hord:bQ fG [79,82,68,69,82] [[66,89]] (RR 0 bp (aT od [[79,82,68,69,82],[66,89]]++T4))=(od,RR 0 bp T4) :=
  mR (jf hod) (fun y hy=>wZ (aX hod y hy) bp T4 (h4.no (by decide))) (fun _=>h4.no (by decide))
 have h3:=h4.part (w:=[79,82,68,69,82]) (ws:=[[66,89]]) (jf hod)
 generalize aT od [[79,82,68,69,82],[66,89]]++T4=T3 at hord h3 ⊢
 have hgrp:bQ fG [71,82,79,85,80] [[66,89]] (RR 0 bp (aT gr [[71,82,79,85,80],[66,89]]++T3))=(gr,RR 0 bp T3) :=
  mR (jf hg) (fun y hy=>wZ (aX hg y hy) bp T3 (h3.no (by decide))) (fun _=>h3.no (by decide))
 have h2:=h3.part (w:=[71,82,79,85,80]) (ws:=[[66,89]]) (jf hg)
 generalize aT gr [[71,82,79,85,80],[66,89]]++T3=T2 at hgrp h2 ⊢
 have hwhe:bQ (dU F) [87,72,69,82,69] [] (RR 0 bp (aT wh [[87,72,69,82,69]]++T2))=(wh,RR 0 bp T2) :=
  mR (jf hw) (fun y hy=>nI (aX hw y hy) (Nat.le_trans (pJ hy) hF3) (mg hd3 _ (List.mem_map.2 ⟨y,hy,rfl⟩)) bp (h2.stops (by decide))) (fun _=>h2.no (by decide))
 have h1:=h2.part (w:=[87,72,69,82,69]) (ws:=[]) (jf hw)
 generalize aT wh [[87,72,69,82,69]]++T2=T1 at hwhe h1 ⊢
 have hjoin:iQ (dU F) (RR 0 bp ((if jn=[] then [] else [aH [74,79,73,78],aR jn])++(aT on [[79,78]]++T1)))=((jn,on),RR 0 bp T1):=by
  unfold iQ
  by_cases e:jn=[]
  ·subst e
   have:on=[]:=by
    have h0:=ho
    unfold aZ at h0
    simp only[Bool.and_eq_true,decide_eq_true_eq] at h0
    exact List.eq_nil_of_length_eq_zero (Nat.le_zero.1 h0.1.2)
   subst this
   rw[if_pos rfl]
   exact jM _ _ (h1.no (by decide))
  ·have hj1:gJ jn=1:=if_neg e
   rw[hj1] at ho
   obtain⟨y,l,rfl,hl,hy⟩:=gq ho
   obtain rfl:l=[]:=List.eq_nil_of_length_eq_zero (by omega)
   rw[if_neg e]
   rw[show [aH [74,79,73,78],aR jn]++(aT [y] [[79,78]]++T1)=aH [74,79,73,78]::aR jn::aH [79,78]::(jV y++T1) by simp[aT,ah]]
   rw[ku _ _ (jN _),aL (fH 0 bp jn _),aL (jJ _),aL (nI (hy y (by simp)) (Nat.le_trans (pJ (ws:=[[79,78]]) (List.mem_singleton.2 rfl)) hF2) (mg hd2 _ (by simp)) bp (h1.stops (by decide)))]
   rfl
 have hst:Stops 0 (aH [70,82,79,77]::aR tb::((if jn=[] then [] else [aH [74,79,73,78],aR jn])++(aT on [[79,78]]++T1))):=(Hd.cons [70,82,79,77] _ []).stops (by decide)
 generalize (if jn=[] then [] else [aH [74,79,73,78],aR jn])++(aT on [[79,78]]++T1)=T0 at hjoin hst ⊢
 unfold eT
 rw[aL (l7 (one:=eH (dU F)) (tk:=tK) (rest:=aH [70,82,79,77]::aR tb::T0) (fB (by decide)) hm (fun y hy T hT=>Eu (hp y hy) (Nat.le_trans (vE (aH [44]) tK _ y hy) hF1) (hd1 y hy) bp T (by
  rcases hT with rfl | ⟨u,rfl⟩
  ·exact hst
  ·exact tL u))),aL (jJ _),aL (fH 0 bp tb _),aL hjoin,aL hwhe,aL hgrp,aL hord,aL hdesc,aL hlim]
 rfl
theorem EP {tb:List UInt8} (bp:Int) (rest:List Tk):kE (RR 0 bp (aH [84,65,66,76,69]::aR tb::rest))=({ gQ 2 with tb:=tb },RR 0 bp rest):=by
 unfold kE
 rw[aL (jJ _),aL (fH 0 bp tb _)]
 rfl
theorem Cy {F:Nat} {s:St} (h:bP s=true) (hF:(lY s).length≤F) (hd:wH s≤10) (bp:Int) (rest:List Tk) (hs:nO rest):eZ (dU F) (RR 0 bp (lY s++rest))=(s,RR 0 bp rest):=by
 have hk0:s.k=1∨s.k=2∨s.k=3∨s.k=4∨s.k=5∨s.k=6:=by
  unfold bP mK at h
  simp only[Bool.and_eq_true] at h
  have hk:=h.1
  by_cases h1:s.k=1
  ·exact .inl h1
  by_cases h2:s.k=2
  ·exact .inr (.inl h2)
  by_cases h3:s.k=3
  ·exact .inr (.inr (.inl h3))
  by_cases h4:s.k=4
  ·exact .inr (.inr (.inr (.inl h4)))
  by_cases h5:s.k=5
  ·exact .inr (.inr (.inr (.inr (.inl h5))))
  by_cases h6:s.k=6
  ·exact .inr (.inr (.inr (.inr (.inr h6))))
  ·rw[if_neg h1,if_neg h2,if_neg h3,if_neg h4,if_neg h5,if_neg h6] at hk;cases hk
 unfold bP at h
 simp only[Bool.and_eq_true] at h
 obtain⟨hk,hn,he⟩:=h
 have hz:=xI he
 clear he hn
 obtain⟨k,tb,cols,prim,rows,sets,items,jn,on,wh,gr,od,desc,lim⟩:=s
 unfold mK at hk
 unfold xQ gQ at hz
 dsimp only at hk hz hk0
 unfold eZ
 rcases hk0 with rfl | rfl | rfl | rfl | rfl | rfl
 ·rw[if_pos rfl] at hk hz
  simp only[St.mk.injEq,true_and,and_true] at hz
  obtain⟨rfl,rfl,rfl,rfl,rfl,rfl,rfl,rfl,rfl,rfl⟩:=hz
  rw[Bool.and_eq_true] at hk
  have e:lY ⟨1,tb,cols,prim,[],[],[],[],[],[],[],[],false,-1⟩++rest=aH [67,82,69,65,84,69]::aH [84,65,66,76,69]::aR tb::aH [40]::(aN (aH [44]) (cols.map jQ)++(ah [[44],[80,82,73,77,65,82,89],[75,69,89],[40]]++aR prim::(ah [[41],[41]]++rest))):=by
   unfold lY KZ
   dsimp only
   rw[if_pos rfl]
   simp[ah]
  rw[e,aL (show aK ig (RR 0 bp (aH [67,82,69,65,84,69]::_))=(1,RR 0 bp _) from rfl),if_pos rfl]
  exact zB (F:=F) hk.1 bp rest (dU F)
 ·rw[if_neg (by decide),if_neg (by decide),if_neg (by decide),if_neg (by decide),if_neg (by decide)] at hz
  simp only[St.mk.injEq,true_and,and_true] at hz
  obtain⟨rfl,rfl,rfl,rfl,rfl,rfl,rfl,rfl,rfl,rfl,rfl,rfl⟩:=hz
  rw[show lY ⟨2,tb,[],[],[],[],[],[],[],[],[],[],false,-1⟩++rest=aH [68,82,79,80]::aH [84,65,66,76,69]::aR tb::rest from rfl,aL (show aK ig (RR 0 bp (aH [68,82,79,80]::_))=(2,RR 0 bp _) from rfl),if_neg (by decide),if_pos rfl]
  exact EP bp rest
 ·rw[if_neg (by decide),if_neg (by decide),if_pos rfl] at hk
  rw[if_neg (by decide),if_pos rfl] at hz
  simp only[St.mk.injEq,true_and,and_true] at hz
  obtain⟨rfl,rfl,rfl,rfl,rfl,rfl,rfl,rfl,rfl,rfl,rfl⟩:=hz
  rw[show lY ⟨3,tb,[],[],rows,[],[],[],[],[],[],[],false,-1⟩++rest=aH [73,78,83,69,82,84]::aH [73,78,84,79]::aR tb::aH [86,65,76,85,69,83]::(aN (aH [44]) (rows.map jZ)++rest) from rfl,aL (show aK ig (RR 0 bp (aH [73,78,83,69,82,84]::_))=(3,RR 0 bp _) from rfl),if_neg (by decide),if_neg (by decide),if_pos rfl]
  exact zZ hk bp rest hs
 ·rw[if_neg (by decide),if_neg (by decide),if_neg (by decide),if_pos rfl,Bool.and_eq_true] at hk
  rw[if_neg (by decide),if_neg (by decide),if_pos rfl] at hz
  simp only[St.mk.injEq,true_and,and_true] at hz
  obtain⟨rfl,rfl,rfl,rfl,rfl,rfl,rfl,rfl,rfl,rfl⟩:=hz
  have e0:lY ⟨4,tb,[],[],[],sets,[],[],[],wh,[],[],false,-1⟩=aH [85,80,68,65,84,69]::aR tb::aH [83,69,84]::(aN (aH [44]) (sets.map lU)++aT wh [[87,72,69,82,69]]):=rfl
  have hl:=hF
  rw[e0] at hl ⊢
  simp only[List.length_cons,List.length_append] at hl
  have hd':max (bq (sets.map fun x=>iX x.e)) (dH wh)≤10:=hd
  rw[show aH [85,80,68,65,84,69]::aR tb::aH [83,69,84]::(aN (aH [44]) (sets.map lU)++aT wh [[87,72,69,82,69]])++rest=aH [85,80,68,65,84,69]::aR tb::aH [83,69,84]::(aN (aH [44]) (sets.map lU)++(aT wh [[87,72,69,82,69]]++rest)) by simp,aL (show aK ig (RR 0 bp (aH [85,80,68,65,84,69]::_))=(4,RR 0 bp _) from rfl),if_neg (by decide),if_neg (by decide),if_neg (by decide),if_pos rfl]
  exact zK hk.1 hk.2 (by omega) (by omega) (fun x hx=>mg (show bq (sets.map fun x=>iX x.e)≤10 by omega) _ (List.mem_map.2 ⟨x,hx,rfl⟩)) (by omega) bp rest hs
 ·rw[if_neg (by decide),if_neg (by decide),if_neg (by decide),if_neg (by decide),if_pos rfl] at hk
  rw[if_neg (by decide),if_neg (by decide),if_neg (by decide),if_pos rfl] at hz
  simp only[St.mk.injEq,true_and,and_true] at hz
  obtain⟨rfl,rfl,rfl,rfl,rfl,rfl,rfl,rfl,rfl,rfl,rfl⟩:=hz
  have e0:lY ⟨5,tb,[],[],[],[],[],[],[],wh,[],[],false,-1⟩=aH [68,69,76,69,84,69]::aH [70,82,79,77]::aR tb::aT wh [[87,72,69,82,69]]:=rfl
  have hl:=hF
  rw[e0] at hl ⊢
  simp only[List.length_cons] at hl
  have hd':dH wh≤10:=hd
  rw[show aH [68,69,76,69,84,69]::aH [70,82,79,77]::aR tb::aT wh [[87,72,69,82,69]]++rest=aH [68,69,76,69,84,69]::aH [70,82,79,77]::aR tb::(aT wh [[87,72,69,82,69]]++rest) from rfl,aL (show aK ig (RR 0 bp (aH [68,69,76,69,84,69]::_))=(5,RR 0 bp _) from rfl),if_neg (by decide),if_neg (by decide),if_neg (by decide),if_neg (by decide),if_pos rfl]
  exact za hk (by omega) hd' bp rest hs
 ·rw[if_neg (by decide),if_neg (by decide),if_neg (by decide),if_neg (by decide),if_neg (by decide),if_pos rfl] at hk
  rw[if_neg (by decide),if_neg (by decide),if_neg (by decide),if_neg (by decide),if_pos rfl] at hz
  simp only[St.mk.injEq,true_and,and_true] at hz
  obtain⟨rfl,rfl,rfl,rfl⟩:=hz
  unfold Ag at hk
  simp only[Bool.and_eq_true] at hk
  obtain⟨q1,q2,q3,q4,q5,q6,q7,q8⟩:=hk
  have e0:lY ⟨6,tb,[],[],[],[],items,jn,on,wh,gr,od,desc,lim⟩=aH [83,69,76,69,67,84]::(aN (aH [44]) (items.map tK)++aH [70,82,79,77]::aR tb::((if jn=[] then [] else [aH [74,79,73,78],aR jn])++(aT on [[79,78]]++(aT wh [[87,72,69,82,69]]++(aT gr [[71,82,79,85,80],[66,89]]++(aT od [[79,82,68,69,82],[66,89]]++((if desc=true then [aH [68,69,83,67]] else [])++(if lim = -1 then [] else [aH [76,73,77,73,84],nP lim])))))))):=rfl
  have hl:=hF
  rw[e0] at hl ⊢
  simp only[List.length_cons,List.length_append] at hl
  have hd':max (bq (items.map zT)) (max (dH on) (max (dH wh) (max (dH gr) (dH od))))≤10:=hd
  simp only[List.cons_append,List.append_assoc]
  rw[aL (show aK ig (RR 0 bp (aH [83,69,76,69,67,84]::_))=(6,RR 0 bp _) from rfl),if_neg (by decide),if_neg (by decide),if_neg (by decide),if_neg (by decide),if_neg (by decide),if_pos rfl]
  exact Aw q1 q2 q3 q4 q5 q6 q7 (by omega) (by omega) (by omega) (fun x hx=>mg (show bq (items.map zT)≤10 by omega) _ (List.mem_map.2 ⟨x,hx,rfl⟩)) (by omega) (by omega) bp rest hs
theorem Bj {L:List Tk} (hg:bJ L) (hlen:(Lib.join (oD L) [32]).length≤2000):uf (dV (Lib.join (oD L) [32])) (RR 0 0 (L++[pY]))∧L.length≤2000:=by
 have hw:oD L=L.map wr:=by
  have h1:=GD hg pY rfl
  rw[uY,if_pos (show pY.k=6 from rfl)] at h1
  exact h1
 rw[hw] at hlen ⊢
 obtain⟨l',h1,h2⟩:=back L hg hlen
 have hm:=(qB (Lib.join (L.map wr) [32])).many
 unfold dV at hm ⊢
 rw[h1] at hm ⊢
 refine ⟨⟨?_,rfl,rfl⟩,?_⟩
 ·show l'.map Tk.z=(L++[pY]).map Tk.z
  rw[h2,List.map_append]
  rfl
 ·have:=congrArg List.length h2
  simp only[List.length_map,List.length_append,List.length_cons,List.length_nil] at this
  have hm':l'.length≤2001:=hm
  omega
theorem GH:nO [pY]:=fun s hs=>by
 have:jk pY s=false:=by unfold jk pY;rfl
 rw[show ([pY]:List Tk).headD jG=pY from rfl,this] at hs
 cases hs
theorem Ad {l:List St} (h:aZ l 1 8 bP=true) (hd : ∀s∈l,wH s≤10) (hg:bJ (aN (aH [59]) (l.map lY))) (hlen:(Lib.join (oD (aN (aH [59]) (l.map lY))) [32]).length≤2000):cu (Lib.join (oD (aN (aH [59]) (l.map lY))) [32])=(l,0,0):=by
 obtain⟨hs,hl⟩:=Bj hg hlen
 obtain⟨b1,b2⟩:=(zH (F:=2001)).simA _ _ hs
 have hr:iY 2001 (RR 0 0 (aN (aH [59]) (l.map lY)++[pY]))=(l,RR 0 0 [pY]):=by
  obtain⟨x,xs,rfl,hm,hp⟩:=gq h
  unfold iY
  have hone : ∀y∈x::xs,∀ts,ts=[pY]∨(∃u,ts=aH [59]::u)→eZ (dU 2001) (RR 0 0 (lY y++ts))=(y,RR 0 0 ts):=fun y hy ts hts=>Cy (hp y hy) (Nat.le_trans (vE (aH [59]) lY _ y hy) (by omega)) (hd y hy) 0 ts (by
   rcases hts with rfl | ⟨u,rfl⟩
   ·exact GH
   ·exact fun s hs=>(xW (jN [59]) hs).symm)
  rw[aL (oQ (one:=eZ (dU 2001)) (more:=iV) (tk:=lY) (sep:=aH [59]) (show iV (RR 0 0 [pY])=(false,RR 0 0 [pY]) from oJ rfl) xs x 8 [] hm hone (fun y _ ts=>mU [59]))]
  rfl
 rw[hr] at b1 b2
 have hb:(iY 2001 (dV (Lib.join (oD (aN (aH [59]) (l.map lY))) [32]))).2.bad=0:=b2.2.2
 unfold cu
 rw[if_pos hb,b1]
end Go.Proofs.YtaaggohjmhifbaaGreatDoor
