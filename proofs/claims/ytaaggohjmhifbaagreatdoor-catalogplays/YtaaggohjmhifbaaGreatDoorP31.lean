/- Packed for the hand-in: PTop PLaw WBackS -/
import Derived.Test.YtaaggohjmhifbaaGreatDoorP30
import Derived.Test.YtaaggohjmhifbaaGreatDoorP21
namespace Go.Proofs.YtaaggohjmhifbaaGreatDoor
open Go.RowKit Go.Shelf
set_option linter.unusedSimpArgs false
set_option linter.unusedVariables false
set_option maxRecDepth 20000
set_option maxHeartbeats 8000000
def startR (s:List UInt8):Rd:=⟨(tokens s).2.2,0,((tokens s).1:Int),(tokens s).2.1⟩
theorem start_good (s:List UInt8):Good 2001 (startR s):=by
 by_cases h:(tokens s).1=0
 ·have hl : ¬2000<s.length:=fun hl=>by rw[tokens,if_pos hl] at h;exact absurd (show (2:Nat)=0 from h) (by decide)
  have e:tokens s=toks (s.length+1) s 0:=by rw[tokens,if_neg hl]
  have h':=h
  rw[e] at h'
  obtain⟨L,h1,h2,h3⟩:=toks_good (s.length+1) s 0 (by omega) h'
  have hts:(startR s).ts=L++[⟨6,[],0,((0+s.length:Nat):Int)⟩]:=by unfold startR;rw[e];exact h1
  refine ⟨fun _=>⟨L,_,hts,rfl,fun x hx=>(h3 x hx).k6⟩,Int.le_refl _,by show (0:Int)≤11;decide,fun _=>by show (0:Int)≤10;decide,fun x hx=>?_,by rw[hts];simp;omega⟩
  rw[hts] at hx
  rcases List.mem_append.1 hx with hx | hx
  ·exact⟨(h3 x hx).n0,(h3 x hx).n1⟩
  ·rw[List.mem_singleton] at hx
   subst hx
   exact⟨Int.le_refl _,by show (0:Int)≤_;decide⟩
 ·have hts:(startR s).ts=[]:=by
   unfold startR tokens at *
   split
   ·rfl
   ·rename_i hl
    rw[if_neg hl] at h
    exact (toks_form _ _ _).1 h
  have hb:(startR s).bad≠0:=by show ((tokens s).1:Int)≠0;omega
  exact⟨fun e=>absurd e hb,Int.le_refl _,by show (0:Int)≤11;decide,fun e=>absurd e hb,(fun x hx=>by rw[hts] at hx;cases hx),by rw[hts];simp⟩
theorem newReader_any (s:List UInt8) (w:World) (hT:TabL w) (hs:s.length≤140737488351232) :
  Calls Tryz.prog 63 #[.string (str8 s)] w fun e w'=>∃g,e = .returned (.pointer (some ⟨g,0,none⟩))∧w.heap.size≤g∧RdAt 2001 w' g (startR s)∧Below w.heap.size w w':=by
 have HK:=hid (tokens_any s w hT hs)
 have HG:=hid (start_good s)
 have HST:Hid (startR s=⟨(tokens s).2.2,0,((tokens s).1:Int),(tokens s).2.1⟩):=hid rfl
 generalize startR s=r at HG HST ⊢
 generalize (tokens s).2.2=ts at HK HST
 generalize ((tokens s).1:Int)=e1 at HK HST
 generalize (tokens s).2.1=p1 at HK HST
 clear hT
 go_enter Tryz.func63,Tryz.ntmps63
 go_wp2_with fail
 refine HK.out.mono ?_
 rintro e w1 ⟨v,rfl,htk,hb1⟩
 have HTK:=hid htk
 obtain⟨va,vc,rfl,_⟩:=id htk
 have HB1:=hid hb1
 clear htk hb1 HK
 go_wp2
 obtain⟨W,hW,hbW,hzW,hcA,hcB⟩:=two w1 (.cells #[.int .i64 e1,.int .i64 p1] 69) (.cells #[.slice va ts.length vc,.int .i64 0,.int .i64 e1,.int .i64 p1] 151)
 rw[hW]
 refine bodyPost_ret (v:=.pointer (some ⟨w1.heap.size+1,0,none⟩)) (by simp[results,Tryz.results63,go_sem]) rfl ⟨w1.heap.size+1,rfl,by have:=HB1.out.size;omega,⟨HG.out,.slice va ts.length vc,?_,?_⟩,HB1.out.trans (hbW.mono HB1.out.size)⟩
 ·rw[HST.out]
  exact hcB
 ·rw[HST.out]
  exact (HTK.out.below hbW).mono (by omega)
def scriptA (s:List UInt8):List St × Int × Int:=if (scriptP 2001 (startR s)).2.bad=0 then ((scriptP 2001 (startR s)).1,0,0) else ([],(scriptP 2001 (startR s)).2.bad,(scriptP 2001 (startR s)).2.bp)
theorem expr_E:RdsE 2001 D0 116 (exprP 2001):=fun g r w h hD=>exprP_any 2001 g r w h hD
theorem state_X:RdsX 2001 StE 65 (stateP (exprP 2001)):=state_any 2001 (exprP 2001) expr_E nice_expr
theorem script_any (s:List UInt8) (w:World) (hT:TabL w) (hs:s.length≤140737488351232) :
  Calls Tryz.prog 36 #[.string (str8 s)] w fun e w'=>∃(aa:Option Addr) (nn cc:Nat),e = .returned (.tuple #[.slice aa nn cc,.agg #[.int .i64 (scriptA s).2.1,.int .i64 (scriptA s).2.2]])∧SlAt 14 StE (fun b=>w.heap.size≤b) w' (scriptA s).1 (.slice aa nn cc)∧Below w.heap.size w w':=by
 obtain⟨W,hW,hbW,hzW,hcW⟩:=box8 w (.cells #[.int .i64 0,.int .i64 0] 69)
 have HCW:=hid hcW
 have HBW:=hid hbW
 have HNR:=hid (newReader_any s W (hT.on hbW) hs)
 have hD:D0 (startR s):=fun _=>rfl
 have HL:Hid (∀g V,RdAt 2001 V g (startR s)→Calls Tryz.prog 64 #[.pointer (some ⟨g,0,none⟩),.int .i64 8,.func (.func 65) #[.pointer (some ⟨g,0,none⟩)] #[],.func (.func 66) #[.pointer (some ⟨g,0,none⟩)] #[]] V fun e w'=>∃(aa:Option Addr) (nn cc:Nat),e = .returned (.slice aa nn cc)∧SlAt 14 StE (fun b=>V.heap.size≤b) w' (listL (stateP (exprP 2001)) semiP 8 [] (startR s)).1 (.slice aa nn cc)∧RdAt 2001 w' g (listL (stateP (exprP 2001)) semiP 8 [] (startR s)).2∧Fr g V w') :=
  hid (fun g V hV=>listSt_any 2001 _ _ (stateP (exprP 2001)) semiP state_X (semi_B 2001) (nice_state nice_expr) nice_semi (enters_of Tryz.func65 (by kernel_rfl) rfl) (enters_of Tryz.func66 (by kernel_rfl) rfl) 8 (by decide) g (startR s) V hV hD)
 obtain⟨⟨X,p,q⟩,hXA⟩:∃x,scriptA s=x:=⟨_,rfl⟩
 have hA:scriptA s=if (endP (listL (stateP (exprP 2001)) semiP 8 [] (startR s)).2).2.bad=0 then ((listL (stateP (exprP 2001)) semiP 8 [] (startR s)).1,0,0) else ([],(endP (listL (stateP (exprP 2001)) semiP 8 [] (startR s)).2).2.bad,(endP (listL (stateP (exprP 2001)) semiP 8 [] (startR s)).2).2.bp):=rfl
 rw[hXA] at hA ⊢
 generalize startR s=r0 at HNR HL hA
 generalize (listL (stateP (exprP 2001)) semiP 8 [] r0).1=l1 at HL hA
 generalize (listL (stateP (exprP 2001)) semiP 8 [] r0).2=r1 at HL hA
 have HE:=hid (fun g V (hV:RdAt 2001 V g r1)=>end_any 2001 g r1 V hV)
 generalize (endP r1).2=r2 at HE hA
 dsimp only
 clear hXA hT hbW hcW hD
 by_cases hb:r2.bad=0
 ·rw[if_pos hb] at hA
  simp only[Prod.mk.injEq] at hA
  obtain⟨rfl,rfl,rfl⟩:=hA
  rw[hb] at HE
  clear hb
  go_enter Tryz.func36,Tryz.ntmps36
  go_wp2_with fail
  try rw[hW]
  clear hW
  refine HNR.out.mono ?_
  rintro e w1 ⟨g,rfl,hg,hr1,hb1⟩
  have hz1:=hb1.size
  have HB1:=hid (HBW.out.trans (hb1.mono HBW.out.size))
  have HL1:=hid (HL.out g w1 hr1)
  have HC1:=hid ((hb1.block w.heap.size hzW).trans HCW.out)
  have hgw1:=hr1.lt
  clear hr1 hb1 HNR HL
  go_wp2_with fail
  refine HL1.out.mono ?_
  rintro e w2 ⟨aa,nn,cc,rfl,hl2,hr2,hf2⟩
  have hz2:=hf2.size
  have HL2:=hid hl2
  have HE2:=hid (HE.out g w2 hr2)
  have HC2:=hid ((hf2.block w.heap.size (by omega) (by omega)).trans HC1.out)
  have HF2:=hid hf2
  clear hl2 hr2 hf2 HL1 HE
  go_wp2_with fail
  refine HE2.out.mono ?_
  rintro e w3 ⟨rfl,hr3,hf3⟩
  have hz3:=hf3.size
  obtain⟨U,hU,hbU,hzU,hcU⟩:=box8 w3 (.cells #[.int .i64 0,.int .i64 r2.bp] 69)
  have hC3:=(hbU.block w.heap.size (by omega)).trans ((hf3.block w.heap.size (by omega) (by omega)).trans HC2.out)
  have kU:=cells2 hcU
  have kC:=cells2 hC3
  have HF3:=hid ((HF2.out.then hf3).thenNew hbU)
  have HSL:=hid ((HL2.out.to (by decide) (T:=fun b=>w.heap.size≤b∧b≠w.heap.size) hf3 (fun b hb _=>⟨by omega,by omega,by omega⟩) (fun _ _ e=>e.to hf3 (fun b hb _=>⟨by omega,by omega,by omega⟩))).to (by decide) (T:=fun b=>w.heap.size≤b∧b≠w.heap.size) (R:=fun _=>False) (Spares.of_new hbU) (fun b hb _=>⟨id,hb⟩) (fun _ _ e=>e.to (R:=fun _=>False) (Spares.of_new hbU) (fun b hb _=>⟨id,hb⟩)))
  have HC3:=hid hC3
  clear hr3 hf3 hbU hcU hC3 HF2
  go_wp2
  have hZs:Spares (fun k=>k=w.heap.size) U ((U.setCell ⟨w.heap.size,0,none⟩ (.int .i64 0)).setCell ⟨w.heap.size,1,none⟩ (.int .i64 0)):=((Spares.refl (fun k=>k=w.heap.size) U).own _ _).own _ _
  have hB:Below w.heap.size w U:=HB1.out.trans (HF3.out.below (fun i hi=>by omega) (by omega))
  refine bodyPost_ret (v:=.tuple #[.slice aa nn cc,.agg #[.int .i64 0,.int .i64 0]]) (by simp[results,Tryz.results36,go_sem,kC]) rfl ⟨aa,nn,cc,rfl,?_,(hB.setCell (Nat.le_refl _) _).setCell (Nat.le_refl _) _⟩
  exact HSL.out.to (by decide) hZs (fun b hb _=>⟨hb.2,hb.1⟩) (fun _ _ e=>e.to hZs (fun b hb _=>⟨hb.2,hb.1⟩))
 ·rw[if_neg hb] at hA
  simp only[Prod.mk.injEq] at hA
  obtain⟨rfl,hA2,hA3⟩:=hA
  have hb':(r2.bad != 0)=true:=by simpa using hb
  rw[← hA2] at HE hb'
  rw[← hA3] at HE
  clear hb hA2 hA3
  go_enter Tryz.func36,Tryz.ntmps36
  go_wp2_with fail
  try rw[hW]
  clear hW
  refine HNR.out.mono ?_
  rintro e w1 ⟨g,rfl,hg,hr1,hb1⟩
  have hz1:=hb1.size
  have HB1:=hid (HBW.out.trans (hb1.mono HBW.out.size))
  have HL1:=hid (HL.out g w1 hr1)
  have HC1:=hid ((hb1.block w.heap.size hzW).trans HCW.out)
  have hgw1:=hr1.lt
  clear hr1 hb1 HNR HL
  go_wp2_with fail
  refine HL1.out.mono ?_
  rintro e w2 ⟨aa,nn,cc,rfl,hl2,hr2,hf2⟩
  have hz2:=hf2.size
  have HL2:=hid hl2
  have HE2:=hid (HE.out g w2 hr2)
  have HC2:=hid ((hf2.block w.heap.size (by omega) (by omega)).trans HC1.out)
  have HF2:=hid hf2
  clear hl2 hr2 hf2 HL1 HE
  go_wp2_with fail
  refine HE2.out.mono ?_
  rintro e w3 ⟨rfl,hr3,hf3⟩
  have hz3:=hf3.size
  obtain⟨U,hU,hbU,hzU,hcU⟩:=box8 w3 (.cells #[.int .i64 p,.int .i64 q] 69)
  have hC3:=(hbU.block w.heap.size (by omega)).trans ((hf3.block w.heap.size (by omega) (by omega)).trans HC2.out)
  have kU:=cells2 hcU
  have kC:=cells2 hC3
  have HF3:=hid ((HF2.out.then hf3).thenNew hbU)
  have HSL:Hid True:=hid trivial
  have HC3:=hid hC3
  clear hr3 hf3 hbU hcU hC3 HF2
  go_wp2_with fail
  go_region
  all_goals
   go_wp2
   have hB:Below w.heap.size w U:=HB1.out.trans (HF3.out.below (fun i hi=>by omega) (by omega))
   exact bodyPost_ret (v:=.tuple #[.slice none 0 0,.agg #[.int .i64 p,.int .i64 q]]) (by simp[results,Tryz.results36,go_sem,kC]) rfl ⟨none,0,0,rfl,SlAt.nil,((hB.setCell (Nat.le_refl _) _).setCell (Nat.le_refl _) _).drew⟩
end Go.Proofs.YtaaggohjmhifbaaGreatDoor
namespace Go.Proofs.YtaaggohjmhifbaaGreatDoor
set_option linter.unusedSimpArgs false
set_option linter.unusedVariables false
set_option maxHeartbeats 8000000
theorem end_ok {r:Rd} (h:(endP r).2.bad=0):r.bad=0∧(nowR r).k=6:=by
 rw[end_eq] at h
 split at h
 ·rename_i hk;exact⟨h,hk⟩
 ·by_cases e:r.bad=0
  ·rw[fail_ok e] at h;exact absurd h (by decide)
  ·rw[fail_bad e] at h;exact absurd h e
def Hd (ts:List Tk) (S:List (List UInt8)):Prop:=∀s,isT (ts.headD zTk) s=true→s∈S
theorem Hd.no {ts:List Tk} {S:List (List UInt8)} (h:Hd ts S) {s:List UInt8} (hs:s ∉ S):isT (ts.headD zTk) s=false:=by
 cases e:isT (ts.headD zTk) s with
 | false=>rfl
 | true=>exact absurd (h s e) hs
theorem Hd.stops {ts:List Tk} {S:List (List UInt8)} (h:Hd ts S) (hs : ∀s∈barred 0,s ∉ S):Stops 0 ts:=fun s hb=>h.no (hs s hb)
theorem Hd.cons (s:List UInt8) (ts:List Tk) (S:List (List UInt8)):Hd (fxT s::ts) (s::S):=fun u hu=>by
 have:=isT_eq (isT_fx s) hu
 subst this
 simp
theorem Hd.up {ts:List Tk} {S:List (List UInt8)} (h:Hd ts S) (s:List UInt8):Hd ts (s::S):=fun u hu=>List.mem_cons_of_mem _ (h u hu)
theorem Hd.part {xs:List Ex} {w:List UInt8} {ws:List (List UInt8)} {ts:List Tk} {S:List (List UInt8)} (hl:xs=[]∨∃x,xs=[x]) (h:Hd ts S):Hd (partK xs (w::ws)++ts) (w::S):=by
 rcases hl with rfl | ⟨x,rfl⟩
 ·exact h.up w
 ·have e:partK [x] (w::ws)++ts=fxT w::(wordsK ws++(exK x++ts)):=by simp[partK,wordsK]
  rw[e]
  exact Hd.cons _ _ _
theorem StopS.hd {rest:List Tk} (h:StopS rest):Hd rest [[59]]:=fun s hs=>by rw[h s hs];simp
theorem select_read {F:Nat} {tb jn:List UInt8} {items:List It} {on wh gr od:List Ex} {desc:Bool} {lim:Int} (hi:areB items 1 8 itB=true) (hj:noeB jn=true) (ho:areB on (joinN jn) (joinN jn) rightE=true) (hw:areB wh 0 1 rightE=true) (hg:areB gr 0 1 colEB=true) (hod:areB od 0 1 colEB=true) (hde:(!desc||decide (od.length=1))=true)
  (hF1:(sepK (fxT [44]) (items.map itK)).length≤F) (hF2:(partK on [[79,78]]).length≤F) (hF3:(partK wh [[87,72,69,82,69]]).length≤F) (hd1 : ∀i∈items,itD i≤10) (hd2:exDs on≤10) (hd3:exDs wh≤10) (bp:Int) (rest:List Tk) (hs:StopS rest) :
  selectP (exprP F) (RR 0 bp (sepK (fxT [44]) (items.map itK)++fxT [70,82,79,77]::nmT tb::((if jn=[] then [] else [fxT [74,79,73,78],nmT jn])++(partK on [[79,78]]++(partK wh [[87,72,69,82,69]]++(partK gr [[71,82,79,85,80],[66,89]]++(partK od [[79,82,68,69,82],[66,89]]++((if desc=true then [fxT [68,69,83,67]] else [])++((if lim = -1 then [] else [fxT [76,73,77,73,84],nuT lim])++rest))))))))) =
   ({ zSt 6 with tb:=tb,items:=items,jn:=jn,on:=on,wh:=wh,gr:=gr,od:=od,desc:=desc,lim:=lim },RR 0 bp rest):=by
 obtain⟨x,xs,rfl,hm,hp⟩:=areB_cons hi
 have hlim:ifP [76,73,77,73,84] numP (retP (-1)) (RR 0 bp ((if lim = -1 then [] else [fxT [76,73,77,73,84],nuT lim])++rest))=(lim,RR 0 bp rest):=by
  by_cases e:lim = -1
  ·subst e
   rw[if_pos rfl]
   exact if_no _ _ (hs.no (by decide))
  ·rw[if_neg e]
   show ifP _ _ _ (RR 0 bp (fxT [76,73,77,73,84]::nuT lim::rest))=_
   rw[if_yes _ _ (isT_fx _)]
   rfl
 have h5:Hd ((if lim = -1 then [] else [fxT [76,73,77,73,84],nuT lim])++rest) [[76,73,77,73,84],[59]]:=by
  split
  ·exact hs.hd.up _
  ·exact Hd.cons _ _ _
 generalize (if lim = -1 then [] else [fxT [76,73,77,73,84],nuT lim])++rest=T5 at hlim h5 ⊢
 have hdesc:(if od.length=0 then retP false else skipP [68,69,83,67]) (RR 0 bp ((if desc=true then [fxT [68,69,83,67]] else [])++T5))=(desc,RR 0 bp T5):=by
  cases desc with
  |
   false =>
   show (if od.length=0 then retP false else skipP [68,69,83,67]) (RR 0 bp T5)=(false,RR 0 bp T5)
   split
   ·rfl
   ·exact skipK_no (h5.no (by decide))
  |
   true =>
   have:od.length=1:=by simpa using hde
   rw[if_neg (by omega),if_pos rfl]
   exact skipK_yes _
 have h4:Hd ((if desc=true then [fxT [68,69,83,67]] else [])++T5) [[68,69,83,67],[76,73,77,73,84],[59]]:=by
  split
  ·exact Hd.cons _ _ _
  ·exact h5.up _
 generalize (if desc=true then [fxT [68,69,83,67]] else [])++T5=T4 at hdesc h4 ⊢
 have hord:partP colP [79,82,68,69,82] [[66,89]] (RR 0 bp (partK od [[79,82,68,69,82],[66,89]]++T4))=(od,RR 0 bp T4) :=
  part_read (areB_list hod) (fun y hy=>colE_read (areB_mem hod y hy) bp T4 (h4.no (by decide))) (fun _=>h4.no (by decide))
 have h3:=h4.part (w:=[79,82,68,69,82]) (ws:=[[66,89]]) (areB_list hod)
 generalize partK od [[79,82,68,69,82],[66,89]]++T4=T3 at hord h3 ⊢
 have hgrp:partP colP [71,82,79,85,80] [[66,89]] (RR 0 bp (partK gr [[71,82,79,85,80],[66,89]]++T3))=(gr,RR 0 bp T3) :=
  part_read (areB_list hg) (fun y hy=>colE_read (areB_mem hg y hy) bp T3 (h3.no (by decide))) (fun _=>h3.no (by decide))
 have h2:=h3.part (w:=[71,82,79,85,80]) (ws:=[[66,89]]) (areB_list hg)
 generalize partK gr [[71,82,79,85,80],[66,89]]++T3=T2 at hgrp h2 ⊢
 have hwhe:partP (exprP F) [87,72,69,82,69] [] (RR 0 bp (partK wh [[87,72,69,82,69]]++T2))=(wh,RR 0 bp T2) :=
  part_read (areB_list hw) (fun y hy=>ex_read (areB_mem hw y hy) (Nat.le_trans (partK_len hy) hF3) (maxL_le hd3 _ (List.mem_map.2 ⟨y,hy,rfl⟩)) bp (h2.stops (by decide))) (fun _=>h2.no (by decide))
 have h1:=h2.part (w:=[87,72,69,82,69]) (ws:=[]) (areB_list hw)
 generalize partK wh [[87,72,69,82,69]]++T2=T1 at hwhe h1 ⊢
 have hjoin:joinP (exprP F) (RR 0 bp ((if jn=[] then [] else [fxT [74,79,73,78],nmT jn])++(partK on [[79,78]]++T1)))=((jn,on),RR 0 bp T1):=by
  unfold joinP
  by_cases e:jn=[]
  ·subst e
   have:on=[]:=by
    have h0:=ho
    unfold areB at h0
    simp only[Bool.and_eq_true,decide_eq_true_eq] at h0
    exact List.eq_nil_of_length_eq_zero (Nat.le_zero.1 h0.1.2)
   subst this
   rw[if_pos rfl]
   exact if_no _ _ (h1.no (by decide))
  ·have hj1:joinN jn=1:=if_neg e
   rw[hj1] at ho
   obtain⟨y,l,rfl,hl,hy⟩:=areB_cons ho
   obtain rfl:l=[]:=List.eq_nil_of_length_eq_zero (by omega)
   rw[if_neg e]
   rw[show [fxT [74,79,73,78],nmT jn]++(partK [y] [[79,78]]++T1)=fxT [74,79,73,78]::nmT jn::fxT [79,78]::(exK y++T1) by simp[partK,wordsK]]
   rw[if_yes _ _ (isT_fx _),bind_at (name_read 0 bp jn _),bind_at (mustF _),bind_at (ex_read (hy y (by simp)) (Nat.le_trans (partK_len (ws:=[[79,78]]) (List.mem_singleton.2 rfl)) hF2) (maxL_le hd2 _ (by simp)) bp (h1.stops (by decide)))]
   rfl
 have hst:Stops 0 (fxT [70,82,79,77]::nmT tb::((if jn=[] then [] else [fxT [74,79,73,78],nmT jn])++(partK on [[79,78]]++T1))):=(Hd.cons [70,82,79,77] _ []).stops (by decide)
 generalize (if jn=[] then [] else [fxT [74,79,73,78],nmT jn])++(partK on [[79,78]]++T1)=T0 at hjoin hst ⊢
 unfold selectP
 rw[bind_at (commas_read (one:=itemP (exprP F)) (tk:=itK) (rest:=fxT [70,82,79,77]::nmT tb::T0) (isT_fx_no (by decide)) hm (fun y hy T hT=>item_read (hp y hy) (Nat.le_trans (sepK_len (fxT [44]) itK _ y hy) hF1) (hd1 y hy) bp T (by
  rcases hT with rfl | ⟨u,rfl⟩
  ·exact hst
  ·exact stops_comma u))),bind_at (mustF _),bind_at (name_read 0 bp tb _),bind_at hjoin,bind_at hwhe,bind_at hgrp,bind_at hord,bind_at hdesc,bind_at hlim]
 rfl
theorem drop_read {tb:List UInt8} (bp:Int) (rest:List Tk):dropP (RR 0 bp (fxT [84,65,66,76,69]::nmT tb::rest))=({ zSt 2 with tb:=tb },RR 0 bp rest):=by
 unfold dropP
 rw[bind_at (mustF _),bind_at (name_read 0 bp tb _)]
 rfl
theorem state_read {F:Nat} {s:St} (h:rightS s=true) (hF:(tkS s).length≤F) (hd:dpS s≤10) (bp:Int) (rest:List Tk) (hs:StopS rest):stateP (exprP F) (RR 0 bp (tkS s++rest))=(s,RR 0 bp rest):=by
 have hk0:s.k=1∨s.k=2∨s.k=3∨s.k=4∨s.k=5∨s.k=6:=by
  unfold rightS kindB at h
  simp only[Bool.and_eq_true] at h
  have hk:=h.1
  by_cases h1:s.k=1
  ·exact .inl h1
  by_cases h2:s.k=2
  ·exact .inr (.inl h2)
  by_cases h3:s.k=3
  ·exact .inr (.inr (.inl h3))
  by_cases h4:s.k=4
  ·exact .inr (.inr (.inr (.inl h4)))
  by_cases h5:s.k=5
  ·exact .inr (.inr (.inr (.inr (.inl h5))))
  by_cases h6:s.k=6
  ·exact .inr (.inr (.inr (.inr (.inr h6))))
  ·rw[if_neg h1,if_neg h2,if_neg h3,if_neg h4,if_neg h5,if_neg h6] at hk;cases hk
 unfold rightS at h
 simp only[Bool.and_eq_true] at h
 obtain⟨hk,hn,he⟩:=h
 have hz:=emp_parts he
 clear he hn
 obtain⟨k,tb,cols,prim,rows,sets,items,jn,on,wh,gr,od,desc,lim⟩:=s
 unfold kindB at hk
 unfold restS zSt at hz
 dsimp only at hk hz hk0
 unfold stateP
 rcases hk0 with rfl | rfl | rfl | rfl | rfl | rfl
 ·rw[if_pos rfl] at hk hz
  simp only[St.mk.injEq,true_and,and_true] at hz
  obtain⟨rfl,rfl,rfl,rfl,rfl,rfl,rfl,rfl,rfl,rfl⟩:=hz
  rw[Bool.and_eq_true] at hk
  have e:tkS ⟨1,tb,cols,prim,[],[],[],[],[],[],[],[],false,-1⟩++rest=fxT [67,82,69,65,84,69]::fxT [84,65,66,76,69]::nmT tb::fxT [40]::(sepK (fxT [44]) (cols.map colK)++(wordsK [[44],[80,82,73,77,65,82,89],[75,69,89],[40]]++nmT prim::(wordsK [[41],[41]]++rest))):=by
   unfold tkS crK
   dsimp only
   rw[if_pos rfl]
   simp[wordsK]
  rw[e,bind_at (show chooseP statesB (RR 0 bp (fxT [67,82,69,65,84,69]::_))=(1,RR 0 bp _) from rfl),if_pos rfl]
  exact create_read (F:=F) hk.1 bp rest (exprP F)
 ·rw[if_neg (by decide),if_neg (by decide),if_neg (by decide),if_neg (by decide),if_neg (by decide)] at hz
  simp only[St.mk.injEq,true_and,and_true] at hz
  obtain⟨rfl,rfl,rfl,rfl,rfl,rfl,rfl,rfl,rfl,rfl,rfl,rfl⟩:=hz
  rw[show tkS ⟨2,tb,[],[],[],[],[],[],[],[],[],[],false,-1⟩++rest=fxT [68,82,79,80]::fxT [84,65,66,76,69]::nmT tb::rest from rfl,bind_at (show chooseP statesB (RR 0 bp (fxT [68,82,79,80]::_))=(2,RR 0 bp _) from rfl),if_neg (by decide),if_pos rfl]
  exact drop_read bp rest
 ·rw[if_neg (by decide),if_neg (by decide),if_pos rfl] at hk
  rw[if_neg (by decide),if_pos rfl] at hz
  simp only[St.mk.injEq,true_and,and_true] at hz
  obtain⟨rfl,rfl,rfl,rfl,rfl,rfl,rfl,rfl,rfl,rfl,rfl⟩:=hz
  rw[show tkS ⟨3,tb,[],[],rows,[],[],[],[],[],[],[],false,-1⟩++rest=fxT [73,78,83,69,82,84]::fxT [73,78,84,79]::nmT tb::fxT [86,65,76,85,69,83]::(sepK (fxT [44]) (rows.map vrowK)++rest) from rfl,bind_at (show chooseP statesB (RR 0 bp (fxT [73,78,83,69,82,84]::_))=(3,RR 0 bp _) from rfl),if_neg (by decide),if_neg (by decide),if_pos rfl]
  exact insert_read hk bp rest hs
 ·rw[if_neg (by decide),if_neg (by decide),if_neg (by decide),if_pos rfl,Bool.and_eq_true] at hk
  rw[if_neg (by decide),if_neg (by decide),if_pos rfl] at hz
  simp only[St.mk.injEq,true_and,and_true] at hz
  obtain⟨rfl,rfl,rfl,rfl,rfl,rfl,rfl,rfl,rfl,rfl⟩:=hz
  have e0:tkS ⟨4,tb,[],[],[],sets,[],[],[],wh,[],[],false,-1⟩=fxT [85,80,68,65,84,69]::nmT tb::fxT [83,69,84]::(sepK (fxT [44]) (sets.map setK)++partK wh [[87,72,69,82,69]]):=rfl
  have hl:=hF
  rw[e0] at hl ⊢
  simp only[List.length_cons,List.length_append] at hl
  have hd':max (maxL (sets.map fun x=>exD x.e)) (exDs wh)≤10:=hd
  rw[show fxT [85,80,68,65,84,69]::nmT tb::fxT [83,69,84]::(sepK (fxT [44]) (sets.map setK)++partK wh [[87,72,69,82,69]])++rest=fxT [85,80,68,65,84,69]::nmT tb::fxT [83,69,84]::(sepK (fxT [44]) (sets.map setK)++(partK wh [[87,72,69,82,69]]++rest)) by simp,bind_at (show chooseP statesB (RR 0 bp (fxT [85,80,68,65,84,69]::_))=(4,RR 0 bp _) from rfl),if_neg (by decide),if_neg (by decide),if_neg (by decide),if_pos rfl]
  exact update_read hk.1 hk.2 (by omega) (by omega) (fun x hx=>maxL_le (show maxL (sets.map fun x=>exD x.e)≤10 by omega) _ (List.mem_map.2 ⟨x,hx,rfl⟩)) (by omega) bp rest hs
 ·rw[if_neg (by decide),if_neg (by decide),if_neg (by decide),if_neg (by decide),if_pos rfl] at hk
  rw[if_neg (by decide),if_neg (by decide),if_neg (by decide),if_pos rfl] at hz
  simp only[St.mk.injEq,true_and,and_true] at hz
  obtain⟨rfl,rfl,rfl,rfl,rfl,rfl,rfl,rfl,rfl,rfl,rfl⟩:=hz
  have e0:tkS ⟨5,tb,[],[],[],[],[],[],[],wh,[],[],false,-1⟩=fxT [68,69,76,69,84,69]::fxT [70,82,79,77]::nmT tb::partK wh [[87,72,69,82,69]]:=rfl
  have hl:=hF
  rw[e0] at hl ⊢
  simp only[List.length_cons] at hl
  have hd':exDs wh≤10:=hd
  rw[show fxT [68,69,76,69,84,69]::fxT [70,82,79,77]::nmT tb::partK wh [[87,72,69,82,69]]++rest=fxT [68,69,76,69,84,69]::fxT [70,82,79,77]::nmT tb::(partK wh [[87,72,69,82,69]]++rest) from rfl,bind_at (show chooseP statesB (RR 0 bp (fxT [68,69,76,69,84,69]::_))=(5,RR 0 bp _) from rfl),if_neg (by decide),if_neg (by decide),if_neg (by decide),if_neg (by decide),if_pos rfl]
  exact delete_read hk (by omega) hd' bp rest hs
 ·rw[if_neg (by decide),if_neg (by decide),if_neg (by decide),if_neg (by decide),if_neg (by decide),if_pos rfl] at hk
  rw[if_neg (by decide),if_neg (by decide),if_neg (by decide),if_neg (by decide),if_pos rfl] at hz
  simp only[St.mk.injEq,true_and,and_true] at hz
  obtain⟨rfl,rfl,rfl,rfl⟩:=hz
  unfold selB at hk
  simp only[Bool.and_eq_true] at hk
  obtain⟨q1,q2,q3,q4,q5,q6,q7,q8⟩:=hk
  have e0:tkS ⟨6,tb,[],[],[],[],items,jn,on,wh,gr,od,desc,lim⟩=fxT [83,69,76,69,67,84]::(sepK (fxT [44]) (items.map itK)++fxT [70,82,79,77]::nmT tb::((if jn=[] then [] else [fxT [74,79,73,78],nmT jn])++(partK on [[79,78]]++(partK wh [[87,72,69,82,69]]++(partK gr [[71,82,79,85,80],[66,89]]++(partK od [[79,82,68,69,82],[66,89]]++((if desc=true then [fxT [68,69,83,67]] else [])++(if lim = -1 then [] else [fxT [76,73,77,73,84],nuT lim])))))))):=rfl
  have hl:=hF
  rw[e0] at hl ⊢
  simp only[List.length_cons,List.length_append] at hl
  have hd':max (maxL (items.map itD)) (max (exDs on) (max (exDs wh) (max (exDs gr) (exDs od))))≤10:=hd
  simp only[List.cons_append,List.append_assoc]
  rw[bind_at (show chooseP statesB (RR 0 bp (fxT [83,69,76,69,67,84]::_))=(6,RR 0 bp _) from rfl),if_neg (by decide),if_neg (by decide),if_neg (by decide),if_neg (by decide),if_neg (by decide),if_pos rfl]
  exact select_read q1 q2 q3 q4 q5 q6 q7 (by omega) (by omega) (by omega) (fun x hx=>maxL_le (show maxL (items.map itD)≤10 by omega) _ (List.mem_map.2 ⟨x,hx,rfl⟩)) (by omega) (by omega) bp rest hs
theorem text_start {L:List Tk} (hg:AllG L) (hlen:(Lib.join (wrs L) [32]).length≤2000):SimA (startR (Lib.join (wrs L) [32])) (RR 0 0 (L++[endZ]))∧L.length≤2000:=by
 have hw:wrs L=L.map wr:=by
  have h1:=wrs_good hg endZ rfl
  rw[wrs_snoc,if_pos (show endZ.k=6 from rfl)] at h1
  exact h1
 rw[hw] at hlen ⊢
 obtain⟨l',h1,h2⟩:=back L hg hlen
 have hm:=(start_good (Lib.join (L.map wr) [32])).many
 unfold startR at hm ⊢
 rw[h1] at hm ⊢
 refine ⟨⟨?_,rfl,rfl⟩,?_⟩
 ·show l'.map Tk.z=(L++[endZ]).map Tk.z
  rw[h2,List.map_append]
  rfl
 ·have:=congrArg List.length h2
  simp only[List.length_map,List.length_append,List.length_cons,List.length_nil] at this
  have hm':l'.length≤2001:=hm
  omega
theorem stop_end:StopS [endZ]:=fun s hs=>by
 have:isT endZ s=false:=by unfold isT endZ;rfl
 rw[show ([endZ]:List Tk).headD zTk=endZ from rfl,this] at hs
 cases hs
theorem script_text {l:List St} (h:areB l 1 8 rightS=true) (hd : ∀s∈l,dpS s≤10) (hg:AllG (sepK (fxT [59]) (l.map tkS))) (hlen:(Lib.join (wrs (sepK (fxT [59]) (l.map tkS))) [32]).length≤2000):scriptA (Lib.join (wrs (sepK (fxT [59]) (l.map tkS))) [32])=(l,0,0):=by
 obtain⟨hs,hl⟩:=text_start hg hlen
 obtain⟨b1,b2⟩:=(nice_script (F:=2001)).simA _ _ hs
 have hr:scriptP 2001 (RR 0 0 (sepK (fxT [59]) (l.map tkS)++[endZ]))=(l,RR 0 0 [endZ]):=by
  obtain⟨x,xs,rfl,hm,hp⟩:=areB_cons h
  unfold scriptP
  have hone : ∀y∈x::xs,∀ts,ts=[endZ]∨(∃u,ts=fxT [59]::u)→stateP (exprP 2001) (RR 0 0 (tkS y++ts))=(y,RR 0 0 ts):=fun y hy ts hts=>state_read (hp y hy) (Nat.le_trans (sepK_len (fxT [59]) tkS _ y hy) (by omega)) (hd y hy) 0 ts (by
   rcases hts with rfl | ⟨u,rfl⟩
   ·exact stop_end
   ·exact fun s hs=>(isT_eq (isT_fx [59]) hs).symm)
  rw[bind_at (list_read (one:=stateP (exprP 2001)) (more:=semiP) (tk:=tkS) (sep:=fxT [59]) (show semiP (RR 0 0 [endZ])=(false,RR 0 0 [endZ]) from skipK_no rfl) xs x 8 [] hm hone (fun y _ ts=>skipK_yes [59]))]
  rfl
 rw[hr] at b1 b2
 have hb:(scriptP 2001 (startR (Lib.join (wrs (sepK (fxT [59]) (l.map tkS))) [32]))).2.bad=0:=b2.2.2
 unfold scriptA
 rw[if_pos hb,b1]
end Go.Proofs.YtaaggohjmhifbaaGreatDoor
