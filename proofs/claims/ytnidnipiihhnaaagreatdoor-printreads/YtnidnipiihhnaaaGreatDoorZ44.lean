/- Packed for the hand-in: PTop PLaw WBackS -/
import Derived.Test.YtnidnipiihhnaaaGreatDoorZ43
import Derived.Test.YtnidnipiihhnaaaGreatDoorZ24
namespace Go.Proofs.YtnidnipiihhnaaaGreatDoor
open Go.RowKit Go.Shelf
set_option linter.unusedSimpArgs false
set_option linter.unusedVariables false
set_option maxRecDepth 20000
set_option maxHeartbeats 8000000
def bV (s:List UInt8):Rd:=⟨(tokens s).2.2,0,((tokens s).1:Int),(tokens s).2.1⟩
theorem mQ (s:List UInt8):Good 2001 (bV s):=by
 by_cases h:(tokens s).1=0
 ·have hl : ¬2000<s.length:=fun hl=>by rw[tokens,if_pos hl] at h;exact absurd (show (2:Nat)=0 from h) (by decide)
  have e:tokens s=toks (s.length+1) s 0:=by rw[tokens,if_neg hl]
  have h':=h
  rw[e] at h'
  obtain⟨L,h1,h2,h3⟩:=rV (s.length+1) s 0 (by omega) h'
  have hts:(bV s).ts=L++[⟨6,[],0,((0+s.length:Nat):Int)⟩]:=by unfold bV;rw[e];exact h1
  refine ⟨fun _=>⟨L,_,hts,rfl,fun x hx=>(h3 x hx).k6⟩,Int.le_refl _,by show (0:Int)≤11;decide,fun _=>by show (0:Int)≤10;decide,fun x hx=>?_,by rw[hts];simp;omega⟩
  rw[hts] at hx
  rcases List.mem_append.1 hx with hx | hx
  ·exact⟨(h3 x hx).n0,(h3 x hx).n1⟩
  ·rw[List.mem_singleton] at hx
   subst hx
   exact⟨Int.le_refl _,by show (0:Int)≤_;decide⟩
 ·have hts:(bV s).ts=[]:=by
   unfold bV tokens at *
   split
   ·rfl
   ·rename_i hl
    rw[if_neg hl] at h
    exact (mh _ _ _).1 h
  have hb:(bV s).bad≠0:=by show ((tokens s).1:Int)≠0;omega
  exact⟨fun e=>absurd e hb,Int.le_refl _,by show (0:Int)≤11;decide,fun e=>absurd e hb,(fun x hx=>by rw[hts] at hx;cases hx),by rw[hts];simp⟩
theorem pQ (s:List UInt8) (w:World) (hT:jH w) (hs:s.length≤140737488351232) :
  Calls Tryz.prog 35 #[.string (aj s)] w fun e w'=>∃g,e = .returned (.pointer (some ⟨g,0,none⟩))∧w.heap.size≤g∧aC 2001 w' g (bV s)∧Below w.heap.size w w':=by
 have HK:=hid (AV s w hT hs)
 have HG:=hid (mQ s)
 have HST:Hid (bV s=⟨(tokens s).2.2,0,((tokens s).1:Int),(tokens s).2.1⟩):=hid rfl
 generalize bV s=r at HG HST ⊢
 generalize (tokens s).2.2=ts at HK HST
 generalize ((tokens s).1:Int)=e1 at HK HST
 generalize (tokens s).2.1=p1 at HK HST
 clear hT
 go_enter Tryz.func35,Tryz.ntmps35
 go_wp2_with fail
 refine HK.out.mono ?_
 rintro e w1 ⟨v,rfl,htk,hb1⟩
 have HTK:=hid htk
 obtain⟨va,vc,rfl,_⟩:=id htk
 have HB1:=hid hb1
 clear htk hb1 HK
 go_wp2
 obtain⟨W,hW,hbW,hzW,hcA,hcB⟩:=two w1 (.cells #[.int .i64 e1,.int .i64 p1] 47) (.cells #[.slice va ts.length vc,.int .i64 0,.int .i64 e1,.int .i64 p1] 126)
 rw[hW]
 refine bodyPost_ret (v:=.pointer (some ⟨w1.heap.size+1,0,none⟩)) (by simp[results,Tryz.results35,go_sem]) rfl ⟨w1.heap.size+1,rfl,by have:=HB1.out.size;omega,⟨HG.out,.slice va ts.length vc,?_,?_⟩,HB1.out.trans (hbW.mono HB1.out.size)⟩
 ·rw[HST.out]
  exact hcB
 ·rw[HST.out]
  exact (HTK.out.below hbW).mono (by omega)
def gT (s:List UInt8):List St × Int × Int:=if (iW 2001 (bV s)).2.bad=0 then ((iW 2001 (bV s)).1,0,0) else ([],(iW 2001 (bV s)).2.bad,(iW 2001 (bV s)).2.bp)
def qO (s:List UInt8):Ex × Int × Int:=if (sZ 2001 (bV s)).2.bad=0 then ((sZ 2001 (bV s)).1,0,0) else (Ag,(sZ 2001 (bV s)).2.bad,(sZ 2001 (bV s)).2.bp)
theorem Js:jc 2001 D0 36 (dn 2001):=fun g r w h hD=>wm 2001 g r w h hD
theorem GY:uK 2001 nE 39 (eO (dn 2001)):=DI 2001 (dn 2001) Js mg
theorem mV (s:List UInt8) (w:World) (hT:jH w) (hs:s.length≤140737488351232) :
  Calls Tryz.prog 18 #[.string (aj s)] w fun e w'=>∃(aa:Option Addr) (nn cc:Nat),e = .returned (.tuple #[.slice aa nn cc,.agg #[.int .i64 (gT s).2.1,.int .i64 (gT s).2.2]])∧bJ 14 nE (fun b=>w.heap.size≤b) w' (gT s).1 (.slice aa nn cc)∧Below w.heap.size w w':=by
 obtain⟨W,hW,hbW,hzW,hcW⟩:=aY w (.cells #[.int .i64 0,.int .i64 0] 47)
 have HCW:=hid hcW
 have HBW:=hid hbW
 have HNR:=hid (pQ s W (hT.on hbW) hs)
 have hD:D0 (bV s):=fun _=>rfl
 have HL:Hid (∀g V,aC 2001 V g (bV s)→Calls Tryz.prog 38 #[.pointer (some ⟨g,0,none⟩),.int .i64 8,.func (.func 39) #[.pointer (some ⟨g,0,none⟩)] #[],.func (.func 40) #[.pointer (some ⟨g,0,none⟩)] #[]] V fun e w'=>∃(aa:Option Addr) (nn cc:Nat),e = .returned (.slice aa nn cc)∧bJ 14 nE (fun b=>V.heap.size≤b) w' (aV (eO (dn 2001)) iU 8 [] (bV s)).1 (.slice aa nn cc)∧aC 2001 w' g (aV (eO (dn 2001)) iU 8 [] (bV s)).2∧Fr g V w') :=
  hid (fun g V hV=>Ak 2001 _ _ (eO (dn 2001)) iU GY (Jd 2001) (qx mg) rR (enters_of Tryz.func39 (by kernel_rfl) rfl) (enters_of Tryz.func40 (by kernel_rfl) rfl) 8 (by decide) g (bV s) V hV hD)
 obtain⟨⟨X,p,q⟩,hXA⟩:∃x,gT s=x:=⟨_,rfl⟩
 have hA:gT s=if (endP (aV (eO (dn 2001)) iU 8 [] (bV s)).2).2.bad=0 then ((aV (eO (dn 2001)) iU 8 [] (bV s)).1,0,0) else ([],(endP (aV (eO (dn 2001)) iU 8 [] (bV s)).2).2.bad,(endP (aV (eO (dn 2001)) iU 8 [] (bV s)).2).2.bp):=rfl
 rw[hXA] at hA ⊢
 generalize bV s=r0 at HNR HL hA
 generalize (aV (eO (dn 2001)) iU 8 [] r0).1=l1 at HL hA
 generalize (aV (eO (dn 2001)) iU 8 [] r0).2=r1 at HL hA
 have HE:=hid (fun g V (hV:aC 2001 V g r1)=>Ch 2001 g r1 V hV)
 generalize (endP r1).2=r2 at HE hA
 dsimp only
 clear hXA hT hbW hcW hD
 by_cases hb:r2.bad=0
 ·rw[if_pos hb] at hA
  simp only[Prod.mk.injEq] at hA
  obtain⟨rfl,rfl,rfl⟩:=hA
  rw[hb] at HE
  clear hb
  go_enter Tryz.func18,Tryz.ntmps18
  go_wp2_with fail
  try rw[hW]
  clear hW
  refine HNR.out.mono ?_
  rintro e w1 ⟨g,rfl,hg,hr1,hb1⟩
  have hz1:=hb1.size
  have HB1:=hid (HBW.out.trans (hb1.mono HBW.out.size))
  have HL1:=hid (HL.out g w1 hr1)
  have HC1:=hid ((hb1.block w.heap.size hzW).trans HCW.out)
  have hgw1:=hr1.lt
  clear hr1 hb1 HNR HL
  go_wp2_with fail
  refine HL1.out.mono ?_
  rintro e w2 ⟨aa,nn,cc,rfl,hl2,hr2,hf2⟩
  have hz2:=hf2.size
  have HL2:=hid hl2
  have HE2:=hid (HE.out g w2 hr2)
  have HC2:=hid ((hf2.block w.heap.size (by omega) (by omega)).trans HC1.out)
  have HF2:=hid hf2
  clear hl2 hr2 hf2 HL1 HE
  go_wp2_with fail
  refine HE2.out.mono ?_
  rintro e w3 ⟨rfl,hr3,hf3⟩
  have hz3:=hf3.size
  obtain⟨U,hU,hbU,hzU,hcU⟩:=aY w3 (.cells #[.int .i64 0,.int .i64 r2.bp] 47)
  have hC3:=(hbU.block w.heap.size (by omega)).trans ((hf3.block w.heap.size (by omega) (by omega)).trans HC2.out)
  have kU:=dh hcU
  have kC:=dh hC3
  have HF3:=hid ((HF2.out.then hf3).aM hbU)
  have HSL:=hid ((HL2.out.to (by decide) (T:=fun b=>w.heap.size≤b∧b≠w.heap.size) hf3 (fun b hb _=>⟨by omega,by omega,by omega⟩) (fun _ _ e=>e.to hf3 (fun b hb _=>⟨by omega,by omega,by omega⟩))).to (by decide) (T:=fun b=>w.heap.size≤b∧b≠w.heap.size) (R:=fun _=>False) (ay.aA hbU) (fun b hb _=>⟨id,hb⟩) (fun _ _ e=>e.to (R:=fun _=>False) (ay.aA hbU) (fun b hb _=>⟨id,hb⟩)))
  have HC3:=hid hC3
  clear hr3 hf3 hbU hcU hC3 HF2
  go_wp2
  have hZs:ay (fun k=>k=w.heap.size) U ((U.setCell ⟨w.heap.size,0,none⟩ (.int .i64 0)).setCell ⟨w.heap.size,1,none⟩ (.int .i64 0)):=((ay.refl (fun k=>k=w.heap.size) U).own _ _).own _ _
  have hB:Below w.heap.size w U:=HB1.out.trans (HF3.out.below (fun i hi=>by omega) (by omega))
  refine bodyPost_ret (v:=.tuple #[.slice aa nn cc,.agg #[.int .i64 0,.int .i64 0]]) (by simp[results,Tryz.results18,go_sem,kC]) rfl ⟨aa,nn,cc,rfl,?_,(hB.setCell (Nat.le_refl _) _).setCell (Nat.le_refl _) _⟩
  exact HSL.out.to (by decide) hZs (fun b hb _=>⟨hb.2,hb.1⟩) (fun _ _ e=>e.to hZs (fun b hb _=>⟨hb.2,hb.1⟩))
 ·rw[if_neg hb] at hA
  simp only[Prod.mk.injEq] at hA
  obtain⟨rfl,hA2,hA3⟩:=hA
  have hb':(r2.bad != 0)=true:=by simpa using hb
  rw[← hA2] at HE hb'
  rw[← hA3] at HE
  clear hb hA2 hA3
  go_enter Tryz.func18,Tryz.ntmps18
  go_wp2_with fail
  try rw[hW]
  clear hW
  refine HNR.out.mono ?_
  rintro e w1 ⟨g,rfl,hg,hr1,hb1⟩
  have hz1:=hb1.size
  have HB1:=hid (HBW.out.trans (hb1.mono HBW.out.size))
  have HL1:=hid (HL.out g w1 hr1)
  have HC1:=hid ((hb1.block w.heap.size hzW).trans HCW.out)
  have hgw1:=hr1.lt
  clear hr1 hb1 HNR HL
  go_wp2_with fail
  refine HL1.out.mono ?_
  rintro e w2 ⟨aa,nn,cc,rfl,hl2,hr2,hf2⟩
  have hz2:=hf2.size
  have HL2:=hid hl2
  have HE2:=hid (HE.out g w2 hr2)
  have HC2:=hid ((hf2.block w.heap.size (by omega) (by omega)).trans HC1.out)
  have HF2:=hid hf2
  clear hl2 hr2 hf2 HL1 HE
  go_wp2_with fail
  refine HE2.out.mono ?_
  rintro e w3 ⟨rfl,hr3,hf3⟩
  have hz3:=hf3.size
  obtain⟨U,hU,hbU,hzU,hcU⟩:=aY w3 (.cells #[.int .i64 p,.int .i64 q] 47)
  have hC3:=(hbU.block w.heap.size (by omega)).trans ((hf3.block w.heap.size (by omega) (by omega)).trans HC2.out)
  have kU:=dh hcU
  have kC:=dh hC3
  have HF3:=hid ((HF2.out.then hf3).aM hbU)
  have HSL:Hid True:=hid trivial
  have HC3:=hid hC3
  clear hr3 hf3 hbU hcU hC3 HF2
  go_wp2_with fail
  go_region
  all_goals
   go_wp2
   have hB:Below w.heap.size w U:=HB1.out.trans (HF3.out.below (fun i hi=>by omega) (by omega))
   exact bodyPost_ret (v:=.tuple #[.slice none 0 0,.agg #[.int .i64 p,.int .i64 q]]) (by simp[results,Tryz.results18,go_sem,kC]) rfl ⟨none,0,0,rfl,bJ.nil,((hB.setCell (Nat.le_refl _) _).setCell (Nat.le_refl _) _).drew⟩
theorem wR (s:List UInt8) (w:World) (hT:jH w) (hs:s.length≤140737488351232) :
  Calls Tryz.prog 17 #[.string (aj s)] w fun e w'=>∃u,e = .returned (.tuple #[u,.agg #[.int .i64 (qO s).2.1,.int .i64 (qO s).2.2]])∧iQ (fun b=>w.heap.size≤b) w' (qO s).1 u∧Below w.heap.size w w':=by
 obtain⟨W,hW,hbW,hzW,hcA,hcB⟩:=two w rW (.cells #[.int .i64 0,.int .i64 0] 47)
 have HCA:=hid hcA
 have HCB:=hid hcB
 have HBW:=hid hbW
 have HNR:=hid (pQ s W (hT.on hbW) hs)
 have HL:=hid (fun g V (hV:aC 2001 V g (bV s))=>wm 2001 g (bV s) V hV (fun _=>rfl))
 obtain⟨⟨X,p,q⟩,hXA⟩:∃x,qO s=x:=⟨_,rfl⟩
 have hA:qO s=if (endP (dn 2001 (bV s)).2).2.bad=0 then ((dn 2001 (bV s)).1,0,0) else (Ag,(endP (dn 2001 (bV s)).2).2.bad,(endP (dn 2001 (bV s)).2).2.bp):=rfl
 rw[hXA] at hA ⊢
 generalize bV s=r0 at HNR HL hA
 generalize (dn 2001 r0).1=l1 at HL hA
 generalize (dn 2001 r0).2=r1 at HL hA
 have HE:=hid (fun g V (hV:aC 2001 V g r1)=>Ch 2001 g r1 V hV)
 generalize (endP r1).2=r2 at HE hA
 dsimp only
 clear hXA hT hbW hcA hcB
 by_cases hb:r2.bad=0
 ·rw[if_pos hb] at hA
  simp only[Prod.mk.injEq] at hA
  obtain⟨rfl,rfl,rfl⟩:=hA
  rw[hb] at HE
  clear hb
  go_enter Tryz.func17,Tryz.ntmps17
  go_wp2_with fail
  try rw[hW]
  clear hW
  refine HNR.out.mono ?_
  rintro e w1 ⟨g,rfl,hg,hr1,hb1⟩
  have hz1:=hb1.size
  have HB1:=hid (HBW.out.trans (hb1.mono HBW.out.size))
  have HL1:=hid (HL.out g w1 hr1)
  have HA1:=hid ((hb1.block w.heap.size (by omega)).trans HCA.out)
  have HC1:=hid ((hb1.block (w.heap.size+1) (by omega)).trans HCB.out)
  have hgw1:=hr1.lt
  clear hr1 hb1 HNR HL
  go_wp2_with fail
  refine HL1.out.mono ?_
  rintro e w2 ⟨u,rfl,hu,hr2,hf2⟩
  have HU2:=hid hu
  obtain⟨k3,op3,tb3,nm3,vk3,vn3,vs3,ys3,aa3,nn3,cc3,_,rfl,_⟩:=hu
  have hz2:=hf2.size
  go_wp2_with fail
  obtain⟨V,hV,hbV,hzV,hcV⟩:=aY w2 (.cells #[.int .i64 k3,.int .i64 op3,.string (aj tb3),.string (aj nm3),.int .i64 vk3,.int .i64 vn3,.string (aj vs3),.slice aa3 nn3 cc3] 26)
  rw[hV]
  have HE2:=hid (HE.out g V (hr2.below hbV))
  have HA2:=hid ((hbV.block w.heap.size (by omega)).trans ((hf2.block w.heap.size (by omega) (by omega)).trans HA1.out))
  have HC2:=hid ((hbV.block (w.heap.size+1) (by omega)).trans ((hf2.block (w.heap.size+1) (by omega) (by omega)).trans HC1.out))
  have HV2:=hid hcV
  have HF2:=hid (hf2.aM hbV)
  have HUV:=hid (HU2.out.to (R:=fun _=>False) (T:=fun b=>w1.heap.size≤b∧b<V.heap.size) (ay.aA hbV) (fun b hb hlt=>⟨id,hb,by omega⟩))
  clear hV hr2 hf2 hbV hcV HL1 HE HU2
  refine HE2.out.mono ?_
  rintro e w3 ⟨rfl,hr3,hf3⟩
  have hz3:=hf3.size
  obtain⟨U,hU,hbU,hzU,hcU⟩:=aY w3 (.cells #[.int .i64 0,.int .i64 r2.bp] 47)
  have hA3:=(hbU.block w.heap.size (by omega)).trans ((hf3.block w.heap.size (by omega) (by omega)).trans HA2.out)
  have hC3:=(hbU.block (w.heap.size+1) (by omega)).trans ((hf3.block (w.heap.size+1) (by omega) (by omega)).trans HC2.out)
  have hV3:=(hbU.block w2.heap.size (by omega)).trans ((hf3.block w2.heap.size (by omega) (by omega)).trans HV2.out)
  have kU:=dh hcU
  have kC:=dh hC3
  have kA:=cZ hA3
  have kV:=cZ hV3
  have HA3:=hid hA3
  have HC3:=hid hC3
  have HF3:=hid ((HF2.out.then hf3).aM hbU)
  have HUU:=hid ((HUV.out.to (T:=fun b=>w1.heap.size≤b) hf3 (fun b hb _=>⟨by omega,hb.1⟩)).to (R:=fun _=>False) (T:=fun b=>w1.heap.size≤b) (ay.aA hbU) (fun b hb _=>⟨id,hb⟩))
  have HBU:Hid (Below w.heap.size w U):=hid (HB1.out.trans (HF3.out.below (fun i hi=>by omega) (by omega)))
  clear hr3 hf3 hbU hcU hC3 hA3 hV3 HF2 HF3 HE2 HUV
  go_wp2_with (first
   | (
    refine wpList_store_row rfl 26 (.tmp 2) (.tmp 18) rfl w.heap.size #[.int .i64 k3,.int .i64 op3,.string (aj tb3),.string (aj nm3),.int .i64 vk3,.int .i64 vn3,.string (aj vs3),.slice aa3 nn3 cc3] rfl rfl 26 _ HA3.out Tryz.yV rfl (JI _ _ _ _ _ _ _ _ _ _) ?_
    obtain⟨Z,hZ⟩:∃Z,U.setRow w.heap.size #[.int .i64 k3,.int .i64 op3,.string (aj tb3),.string (aj nm3),.int .i64 vk3,.int .i64 vn3,.string (aj vs3),.slice aa3 nn3 cc3]=Z:=⟨_,rfl⟩
    have hZs:ay (fun k=>k=w.heap.size) U Z:=by rw[← hZ];exact ay.setRow (S:=fun k=>k=w.heap.size) (ay.refl _ U) (p:=w.heap.size) (.inl rfl) _
    have hZB:Z.heap[w.heap.size]?=some (.cells #[.int .i64 k3,.int .i64 op3,.string (aj tb3),.string (aj nm3),.int .i64 vk3,.int .i64 vn3,.string (aj vs3),.slice aa3 nn3 cc3] 26):=by rw[← hZ];exact setRow_heap U w.heap.size _ _ _ _ HA3.out
    have kZ:=cZ hZB
    have kZC:=dh ((hZs.block (w.heap.size+1) (World.lt_of_block HC3.out) (by omega)).trans HC3.out)
    rw[hZ]
    clear hZ)
   | fail)
  have hB:Below w.heap.size w Z:=HBU.out.trans (hZs.below (fun i hi=>by omega) (by have:=HBU.out.size;omega))
  have hZ2:ay (fun k=>k=w.heap.size+1) Z ((Z.setCell ⟨w.heap.size+1,0,none⟩ (.int .i64 0)).setCell ⟨w.heap.size+1,1,none⟩ (.int .i64 0)):=((ay.refl (fun k=>k=w.heap.size+1) Z).own _ _).own _ _
  refine bodyPost_ret (v:=.tuple #[.agg #[.int .i64 k3,.int .i64 op3,.string (aj tb3),.string (aj nm3),.int .i64 vk3,.int .i64 vn3,.string (aj vs3),.slice aa3 nn3 cc3],.agg #[.int .i64 0,.int .i64 0]]) (by simp[results,Tryz.results17,go_sem,kZ,kZC]) rfl ⟨_,rfl,?_,(hB.setCell (show w.heap.size≤w.heap.size+1 by omega) _).setCell (show w.heap.size≤w.heap.size+1 by omega) _⟩
  exact (HUU.out.to (T:=fun b=>w1.heap.size≤b) hZs (fun b hb _=>⟨by omega,hb⟩)).to hZ2 (fun b hb _=>⟨by omega,by omega⟩)
 ·rw[if_neg hb] at hA
  simp only[Prod.mk.injEq] at hA
  obtain⟨rfl,hA2,hA3⟩:=hA
  have hb':(r2.bad != 0)=true:=by simpa using hb
  rw[← hA2] at HE hb'
  rw[← hA3] at HE
  clear hb hA2 hA3
  go_enter Tryz.func17,Tryz.ntmps17
  go_wp2_with fail
  try rw[hW]
  clear hW
  refine HNR.out.mono ?_
  rintro e w1 ⟨g,rfl,hg,hr1,hb1⟩
  have hz1:=hb1.size
  have HB1:=hid (HBW.out.trans (hb1.mono HBW.out.size))
  have HL1:=hid (HL.out g w1 hr1)
  have HA1:=hid ((hb1.block w.heap.size (by omega)).trans HCA.out)
  have HC1:=hid ((hb1.block (w.heap.size+1) (by omega)).trans HCB.out)
  have hgw1:=hr1.lt
  clear hr1 hb1 HNR HL
  go_wp2_with fail
  refine HL1.out.mono ?_
  rintro e w2 ⟨u,rfl,hu,hr2,hf2⟩
  have HU2:=hid hu
  obtain⟨k3,op3,tb3,nm3,vk3,vn3,vs3,ys3,aa3,nn3,cc3,_,rfl,_⟩:=hu
  have hz2:=hf2.size
  go_wp2_with fail
  obtain⟨V,hV,hbV,hzV,hcV⟩:=aY w2 (.cells #[.int .i64 k3,.int .i64 op3,.string (aj tb3),.string (aj nm3),.int .i64 vk3,.int .i64 vn3,.string (aj vs3),.slice aa3 nn3 cc3] 26)
  rw[hV]
  have HE2:=hid (HE.out g V (hr2.below hbV))
  have HA2:=hid ((hbV.block w.heap.size (by omega)).trans ((hf2.block w.heap.size (by omega) (by omega)).trans HA1.out))
  have HC2:=hid ((hbV.block (w.heap.size+1) (by omega)).trans ((hf2.block (w.heap.size+1) (by omega) (by omega)).trans HC1.out))
  have HV2:=hid hcV
  have HF2:=hid (hf2.aM hbV)
  have HUV:=hid (HU2.out.to (R:=fun _=>False) (T:=fun b=>w1.heap.size≤b∧b<V.heap.size) (ay.aA hbV) (fun b hb hlt=>⟨id,hb,by omega⟩))
  clear hV hr2 hf2 hbV hcV HL1 HE HU2
  refine HE2.out.mono ?_
  rintro e w3 ⟨rfl,hr3,hf3⟩
  have hz3:=hf3.size
  obtain⟨U,hU,hbU,hzU,hcU⟩:=aY w3 (.cells #[.int .i64 p,.int .i64 q] 47)
  have hA3:=(hbU.block w.heap.size (by omega)).trans ((hf3.block w.heap.size (by omega) (by omega)).trans HA2.out)
  have hC3:=(hbU.block (w.heap.size+1) (by omega)).trans ((hf3.block (w.heap.size+1) (by omega) (by omega)).trans HC2.out)
  have hV3:=(hbU.block w2.heap.size (by omega)).trans ((hf3.block w2.heap.size (by omega) (by omega)).trans HV2.out)
  have kU:=dh hcU
  have kC:=dh hC3
  have kA:=cZ hA3
  have kV:=cZ hV3
  have HA3:=hid hA3
  have HC3:=hid hC3
  have HF3:=hid ((HF2.out.then hf3).aM hbU)
  have HUU:=hid ((HUV.out.to (T:=fun b=>w1.heap.size≤b) hf3 (fun b hb _=>⟨by omega,hb.1⟩)).to (R:=fun _=>False) (T:=fun b=>w1.heap.size≤b) (ay.aA hbU) (fun b hb _=>⟨id,hb⟩))
  have HBU:Hid (Below w.heap.size w U):=hid (HB1.out.trans (HF3.out.below (fun i hi=>by omega) (by omega)))
  clear hr3 hf3 hbU hcU hC3 hA3 hV3 HF2 HF3 HE2 HUV
  go_wp2_with fail
  go_region
  all_goals
   rw[EO HA3.out]
   obtain⟨Z,hZ⟩:∃Z,U.setRow w.heap.size #[.int .i64 0,.int .i64 0,.string ⟨#[]⟩,.string ⟨#[]⟩,.int .i64 0,.int .i64 0,.string ⟨#[]⟩,.slice none 0 0]=Z:=⟨_,rfl⟩
   have hZs:ay (fun k=>k=w.heap.size) U Z:=by rw[← hZ];exact ay.setRow (S:=fun k=>k=w.heap.size) (ay.refl _ U) (p:=w.heap.size) (.inl rfl) _
   have hZB:Z.heap[w.heap.size]?=some (.cells #[.int .i64 0,.int .i64 0,.string ⟨#[]⟩,.string ⟨#[]⟩,.int .i64 0,.int .i64 0,.string ⟨#[]⟩,.slice none 0 0] 26):=by rw[← hZ];exact setRow_heap U w.heap.size _ _ _ _ HA3.out
   have kZ:=cZ hZB
   have kZC:=dh ((hZs.block (w.heap.size+1) (World.lt_of_block HC3.out) (by omega)).trans HC3.out)
   rw[hZ]
   clear hZ kA kV kC kU
   have hB:Below w.heap.size w Z:=HBU.out.trans (hZs.below (fun i hi=>by omega) (by have:=HBU.out.size;omega))
   go_wp2
   exact bodyPost_ret (v:=.tuple #[.agg #[.int .i64 0,.int .i64 0,.string ⟨#[]⟩,.string ⟨#[]⟩,.int .i64 0,.int .i64 0,.string ⟨#[]⟩,.slice none 0 0],.agg #[.int .i64 p,.int .i64 q]]) (by simp[results,Tryz.results17,go_sem,kZ,kZC]) rfl ⟨_,rfl,⟨0,0,[],[],0,0,[],[],_,_,_,rfl,rfl,.nil _ _ (by unfold maxLen;omega)⟩,((hB.setCell (show w.heap.size≤w.heap.size+1 by omega) _).setCell (show w.heap.size≤w.heap.size+1 by omega) _).drew⟩
end Go.Proofs.YtnidnipiihhnaaaGreatDoor
namespace Go.Proofs.YtnidnipiihhnaaaGreatDoor
set_option linter.unusedSimpArgs false
set_option linter.unusedVariables false
set_option maxHeartbeats 8000000
theorem FJ {r:Rd} (h:(endP r).2.bad=0):r.bad=0∧(bF r).k=6:=by
 rw[Gc] at h
 split at h
 ·rename_i hk;exact⟨h,hk⟩
 ·by_cases e:r.bad=0
  ·rw[gG e] at h;exact absurd h (by decide)
  ·rw[fU e] at h;exact absurd h e
def Hd (ts:List Tk) (S:List (List UInt8)):Prop:=∀s,jm (ts.headD jJ) s=true→s∈S
theorem Hd.no {ts:List Tk} {S:List (List UInt8)} (h:Hd ts S) {s:List UInt8} (hs:s ∉ S):jm (ts.headD jJ) s=false:=by
 cases e:jm (ts.headD jJ) s with
 | false=>rfl
 | true=>exact absurd (h s e) hs
theorem Hd.stops {ts:List Tk} {S:List (List UInt8)} (h:Hd ts S) (hs : ∀s∈j5 0,s ∉ S):Stops 0 ts:=fun s hb=>h.no (hs s hb)
theorem Hd.cons (s:List UInt8) (ts:List Tk) (S:List (List UInt8)):Hd (aI s::ts) (s::S):=fun u hu=>by
 have:=wV (jR s) hu
 subst this
 simp
theorem Hd.up {ts:List Tk} {S:List (List UInt8)} (h:Hd ts S) (s:List UInt8):Hd ts (s::S):=fun u hu=>List.mem_cons_of_mem _ (h u hu)
theorem Hd.part {xs:List Ex} {w:List UInt8} {ws:List (List UInt8)} {ts:List Tk} {S:List (List UInt8)} (hl:xs=[]∨∃x,xs=[x]) (h:Hd ts S):Hd (aW xs (w::ws)++ts) (w::S):=by
 rcases hl with rfl | ⟨x,rfl⟩
 ·exact h.up w
 ·have e:aW [x] (w::ws)++ts=aI w::(ah ws++(je x++ts)):=by simp[aW,ah]
  rw[e]
  exact Hd.cons _ _ _
theorem nu.hd {rest:List Tk} (h:nu rest):Hd rest [[59]]:=fun s hs=>by rw[h s hs];simp
theorem zq {F:Nat} {tb jn:List UInt8} {items:List It} {on wh gr od:List Ex} {desc:Bool} {lim:Int} (hi:bf items 1 8 tN=true) (hj:mD jn=true) (ho:bf on (fI jn) (fI jn) aN=true) (hw:bf wh 0 1 aN=true) (hg:bf gr 0 1 eu=true) (hod:bf od 0 1 eu=true) (hde:(!desc||decide (od.length=1))=true)
  (hF1:(aQ (aI [44]) (items.map sO)).length≤F) (hF2:(aW on [[79,78]]).length≤F) (hF3:(aW wh [[87,72,69,82,69]]).length≤F) (hd1 : ∀i∈items,yZ i≤10) (hd2:dG on≤10) (hd3:dG wh≤10) (bp:Int) (rest:List Tk) (hs:nu rest) :
  eB (dn F) (RR 0 bp (aQ (aI [44]) (items.map sO)++aI [70,82,79,77]::aT tb::((if jn=[] then [] else [aI [74,79,73,78],aT jn])++(aW on [[79,78]]++(aW wh [[87,72,69,82,69]]++(aW gr [[71,82,79,85,80],[66,89]]++(aW od [[79,82,68,69,82],[66,89]]++((if desc=true then [aI [68,69,83,67]] else [])++((if lim = -1 then [] else [aI [76,73,77,73,84],ny lim])++rest))))))))) =
   ({ iP 6 with tb:=tb,items:=items,jn:=jn,on:=on,wh:=wh,gr:=gr,od:=od,desc:=desc,lim:=lim },RR 0 bp rest):=by
 obtain⟨x,xs,rfl,hm,hp⟩:=fT hi
 have hlim:gP [76,73,77,73,84] jl (aZ (-1)) (RR 0 bp ((if lim = -1 then [] else [aI [76,73,77,73,84],ny lim])++rest))=(lim,RR 0 bp rest):=by
  by_cases e:lim = -1
  ·subst e
   rw[if_pos rfl]
   exact jO _ _ (hs.no (by decide))
  ·rw[if_neg e]
   show gP _ _ _ (RR 0 bp (aI [76,73,77,73,84]::ny lim::rest))=_
   rw[j3 _ _ (jR _)]
   rfl
 have h5:Hd ((if lim = -1 then [] else [aI [76,73,77,73,84],ny lim])++rest) [[76,73,77,73,84],[59]]:=by
  split
  ·exact hs.hd.up _
  ·exact Hd.cons _ _ _
 generalize (if lim = -1 then [] else [aI [76,73,77,73,84],ny lim])++rest=T5 at hlim h5 ⊢
 have hdesc:(if od.length=0 then aZ false else fF [68,69,83,67]) (RR 0 bp ((if desc=true then [aI [68,69,83,67]] else [])++T5))=(desc,RR 0 bp T5):=by
  cases desc with
  |
   false =>
   show (if od.length=0 then aZ false else fF [68,69,83,67]) (RR 0 bp T5)=(false,RR 0 bp T5)
   split
   ·rfl
   ·exact nH (h5.no (by decide))
  |
   true =>
   have:od.length=1:=by simpa using hde
   rw[if_neg (by omega),if_pos rfl]
   exact lW _
 have h4:Hd ((if desc=true then [aI [68,69,83,67]] else [])++T5) [[68,69,83,67],[76,73,77,73,84],[59]]:=by
  split
  ·exact Hd.cons _ _ _
  ·exact h5.up _
 generalize (if desc=true then [aI [68,69,83,67]] else [])++T5=T4 at hdesc h4 ⊢
 have hord:bN fu [79,82,68,69,82] [[66,89]] (RR 0 bp (aW od [[79,82,68,69,82],[66,89]]++T4))=(od,RR 0 bp T4) :=
  lZ (ji hod) (fun y hy=>vR (aS hod y hy) bp T4 (h4.no (by decide))) (fun _=>h4.no (by decide))
 have h3:=h4.part (w:=[79,82,68,69,82]) (ws:=[[66,89]]) (ji hod)
 generalize aW od [[79,82,68,69,82],[66,89]]++T4=T3 at hord h3 ⊢
 have hgrp:bN fu [71,82,79,85,80] [[66,89]] (RR 0 bp (aW gr [[71,82,79,85,80],[66,89]]++T3))=(gr,RR 0 bp T3) :=
  lZ (ji hg) (fun y hy=>vR (aS hg y hy) bp T3 (h3.no (by decide))) (fun _=>h3.no (by decide))
 have h2:=h3.part (w:=[71,82,79,85,80]) (ws:=[[66,89]]) (ji hg)
 generalize aW gr [[71,82,79,85,80],[66,89]]++T3=T2 at hgrp h2 ⊢
 have hwhe:bN (dn F) [87,72,69,82,69] [] (RR 0 bp (aW wh [[87,72,69,82,69]]++T2))=(wh,RR 0 bp T2) :=
  lZ (ji hw) (fun y hy=>lM (aS hw y hy) (Nat.le_trans (oO hy) hF3) (lK hd3 _ (List.mem_map.2 ⟨y,hy,rfl⟩)) bp (h2.stops (by decide))) (fun _=>h2.no (by decide))
 have h1:=h2.part (w:=[87,72,69,82,69]) (ws:=[]) (ji hw)
 generalize aW wh [[87,72,69,82,69]]++T2=T1 at hwhe h1 ⊢
 have hjoin:iL (dn F) (RR 0 bp ((if jn=[] then [] else [aI [74,79,73,78],aT jn])++(aW on [[79,78]]++T1)))=((jn,on),RR 0 bp T1):=by
  unfold iL
  by_cases e:jn=[]
  ·subst e
   have:on=[]:=by
    have h0:=ho
    unfold bf at h0
    simp only[Bool.and_eq_true,decide_eq_true_eq] at h0
    exact List.eq_nil_of_length_eq_zero (Nat.le_zero.1 h0.1.2)
   subst this
   rw[if_pos rfl]
   exact jO _ _ (h1.no (by decide))
  ·have hj1:fI jn=1:=if_neg e
   rw[hj1] at ho
   obtain⟨y,l,rfl,hl,hy⟩:=fT ho
   obtain rfl:l=[]:=List.eq_nil_of_length_eq_zero (by omega)
   rw[if_neg e]
   rw[show [aI [74,79,73,78],aT jn]++(aW [y] [[79,78]]++T1)=aI [74,79,73,78]::aT jn::aI [79,78]::(je y++T1) by simp[aW,ah]]
   rw[j3 _ _ (jR _),aL (fB 0 bp jn _),aL (jL _),aL (lM (hy y (by simp)) (Nat.le_trans (oO (ws:=[[79,78]]) (List.mem_singleton.2 rfl)) hF2) (lK hd2 _ (by simp)) bp (h1.stops (by decide)))]
   rfl
 have hst:Stops 0 (aI [70,82,79,77]::aT tb::((if jn=[] then [] else [aI [74,79,73,78],aT jn])++(aW on [[79,78]]++T1))):=(Hd.cons [70,82,79,77] _ []).stops (by decide)
 generalize (if jn=[] then [] else [aI [74,79,73,78],aT jn])++(aW on [[79,78]]++T1)=T0 at hjoin hst ⊢
 unfold eB
 rw[aL (lJ (one:=dY (dn F)) (tk:=sO) (rest:=aI [70,82,79,77]::aT tb::T0) (eX (by decide)) hm (fun y hy T hT=>D6 (hp y hy) (Nat.le_trans (uy (aI [44]) sO _ y hy) hF1) (hd1 y hy) bp T (by
  rcases hT with rfl | ⟨u,rfl⟩
  ·exact hst
  ·exact sj u))),aL (jL _),aL (fB 0 bp tb _),aL hjoin,aL hwhe,aL hgrp,aL hord,aL hdesc,aL hlim]
 rfl
theorem Dw {tb:List UInt8} (bp:Int) (rest:List Tk):ko (RR 0 bp (aI [84,65,66,76,69]::aT tb::rest))=({ iP 2 with tb:=tb },RR 0 bp rest):=by
 unfold ko
 rw[aL (jL _),aL (fB 0 bp tb _)]
 rfl
theorem BU {F:Nat} {s:St} (h:dQ s=true) (hF:(pI s).length≤F) (hd:x9 s≤10) (bp:Int) (rest:List Tk) (hs:nu rest):eO (dn F) (RR 0 bp (pI s++rest))=(s,RR 0 bp rest):=by
 have hk0:s.k=1∨s.k=2∨s.k=3∨s.k=4∨s.k=5∨s.k=6:=by
  unfold dQ nC at h
  simp only[Bool.and_eq_true] at h
  have hk:=h.1
  by_cases h1:s.k=1
  ·exact .inl h1
  by_cases h2:s.k=2
  ·exact .inr (.inl h2)
  by_cases h3:s.k=3
  ·exact .inr (.inr (.inl h3))
  by_cases h4:s.k=4
  ·exact .inr (.inr (.inr (.inl h4)))
  by_cases h5:s.k=5
  ·exact .inr (.inr (.inr (.inr (.inl h5))))
  by_cases h6:s.k=6
  ·exact .inr (.inr (.inr (.inr (.inr h6))))
  ·rw[if_neg h1,if_neg h2,if_neg h3,if_neg h4,if_neg h5,if_neg h6] at hk;cases hk
 unfold dQ at h
 simp only[Bool.and_eq_true] at h
 obtain⟨hk,hn,he⟩:=h
 have hz:=rD he
 clear he hn
 obtain⟨k,tb,cols,prim,rows,sets,items,jn,on,wh,gr,od,desc,lim⟩:=s
 unfold nC at hk
 unfold zu iP at hz
 dsimp only at hk hz hk0
 unfold eO
 rcases hk0 with rfl | rfl | rfl | rfl | rfl | rfl
 ·rw[if_pos rfl] at hk hz
  simp only[St.mk.injEq,true_and,and_true] at hz
  obtain⟨rfl,rfl,rfl,rfl,rfl,rfl,rfl,rfl,rfl,rfl⟩:=hz
  rw[Bool.and_eq_true] at hk
  have e:pI ⟨1,tb,cols,prim,[],[],[],[],[],[],[],[],false,-1⟩++rest=aI [67,82,69,65,84,69]::aI [84,65,66,76,69]::aT tb::aI [40]::(aQ (aI [44]) (cols.map kE)++(ah [[44],[80,82,73,77,65,82,89],[75,69,89],[40]]++aT prim::(ah [[41],[41]]++rest))):=by
   unfold pI J7
   dsimp only
   rw[if_pos rfl]
   simp[ah]
  rw[e,aL (show aK gQ (RR 0 bp (aI [67,82,69,65,84,69]::_))=(1,RR 0 bp _) from rfl),if_pos rfl]
  exact zh (F:=F) hk.1 bp rest (dn F)
 ·rw[if_neg (by decide),if_neg (by decide),if_neg (by decide),if_neg (by decide),if_neg (by decide)] at hz
  simp only[St.mk.injEq,true_and,and_true] at hz
  obtain⟨rfl,rfl,rfl,rfl,rfl,rfl,rfl,rfl,rfl,rfl,rfl,rfl⟩:=hz
  rw[show pI ⟨2,tb,[],[],[],[],[],[],[],[],[],[],false,-1⟩++rest=aI [68,82,79,80]::aI [84,65,66,76,69]::aT tb::rest from rfl,aL (show aK gQ (RR 0 bp (aI [68,82,79,80]::_))=(2,RR 0 bp _) from rfl),if_neg (by decide),if_pos rfl]
  exact Dw bp rest
 ·rw[if_neg (by decide),if_neg (by decide),if_pos rfl] at hk
  rw[if_neg (by decide),if_pos rfl] at hz
  simp only[St.mk.injEq,true_and,and_true] at hz
  obtain⟨rfl,rfl,rfl,rfl,rfl,rfl,rfl,rfl,rfl,rfl,rfl⟩:=hz
  rw[show pI ⟨3,tb,[],[],rows,[],[],[],[],[],[],[],false,-1⟩++rest=aI [73,78,83,69,82,84]::aI [73,78,84,79]::aT tb::aI [86,65,76,85,69,83]::(aQ (aI [44]) (rows.map jW)++rest) from rfl,aL (show aK gQ (RR 0 bp (aI [73,78,83,69,82,84]::_))=(3,RR 0 bp _) from rfl),if_neg (by decide),if_neg (by decide),if_pos rfl]
  exact zH hk bp rest hs
 ·rw[if_neg (by decide),if_neg (by decide),if_neg (by decide),if_pos rfl,Bool.and_eq_true] at hk
  rw[if_neg (by decide),if_neg (by decide),if_pos rfl] at hz
  simp only[St.mk.injEq,true_and,and_true] at hz
  obtain⟨rfl,rfl,rfl,rfl,rfl,rfl,rfl,rfl,rfl,rfl⟩:=hz
  have e0:pI ⟨4,tb,[],[],[],sets,[],[],[],wh,[],[],false,-1⟩=aI [85,80,68,65,84,69]::aT tb::aI [83,69,84]::(aQ (aI [44]) (sets.map lF)++aW wh [[87,72,69,82,69]]):=rfl
  have hl:=hF
  rw[e0] at hl ⊢
  simp only[List.length_cons,List.length_append] at hl
  have hd':max (bq (sets.map fun x=>iM x.e)) (dG wh)≤10:=hd
  rw[show aI [85,80,68,65,84,69]::aT tb::aI [83,69,84]::(aQ (aI [44]) (sets.map lF)++aW wh [[87,72,69,82,69]])++rest=aI [85,80,68,65,84,69]::aT tb::aI [83,69,84]::(aQ (aI [44]) (sets.map lF)++(aW wh [[87,72,69,82,69]]++rest)) by simp,aL (show aK gQ (RR 0 bp (aI [85,80,68,65,84,69]::_))=(4,RR 0 bp _) from rfl),if_neg (by decide),if_neg (by decide),if_neg (by decide),if_pos rfl]
  exact yJ hk.1 hk.2 (by omega) (by omega) (fun x hx=>lK (show bq (sets.map fun x=>iM x.e)≤10 by omega) _ (List.mem_map.2 ⟨x,hx,rfl⟩)) (by omega) bp rest hs
 ·rw[if_neg (by decide),if_neg (by decide),if_neg (by decide),if_neg (by decide),if_pos rfl] at hk
  rw[if_neg (by decide),if_neg (by decide),if_neg (by decide),if_pos rfl] at hz
  simp only[St.mk.injEq,true_and,and_true] at hz
  obtain⟨rfl,rfl,rfl,rfl,rfl,rfl,rfl,rfl,rfl,rfl,rfl⟩:=hz
  have e0:pI ⟨5,tb,[],[],[],[],[],[],[],wh,[],[],false,-1⟩=aI [68,69,76,69,84,69]::aI [70,82,79,77]::aT tb::aW wh [[87,72,69,82,69]]:=rfl
  have hl:=hF
  rw[e0] at hl ⊢
  simp only[List.length_cons] at hl
  have hd':dG wh≤10:=hd
  rw[show aI [68,69,76,69,84,69]::aI [70,82,79,77]::aT tb::aW wh [[87,72,69,82,69]]++rest=aI [68,69,76,69,84,69]::aI [70,82,79,77]::aT tb::(aW wh [[87,72,69,82,69]]++rest) from rfl,aL (show aK gQ (RR 0 bp (aI [68,69,76,69,84,69]::_))=(5,RR 0 bp _) from rfl),if_neg (by decide),if_neg (by decide),if_neg (by decide),if_neg (by decide),if_pos rfl]
  exact zQ hk (by omega) hd' bp rest hs
 ·rw[if_neg (by decide),if_neg (by decide),if_neg (by decide),if_neg (by decide),if_neg (by decide),if_pos rfl] at hk
  rw[if_neg (by decide),if_neg (by decide),if_neg (by decide),if_neg (by decide),if_pos rfl] at hz
  simp only[St.mk.injEq,true_and,and_true] at hz
  obtain⟨rfl,rfl,rfl,rfl⟩:=hz
  unfold xQ at hk
  simp only[Bool.and_eq_true] at hk
  obtain⟨q1,q2,q3,q4,q5,q6,q7,q8⟩:=hk
  have e0:pI ⟨6,tb,[],[],[],[],items,jn,on,wh,gr,od,desc,lim⟩=aI [83,69,76,69,67,84]::(aQ (aI [44]) (items.map sO)++aI [70,82,79,77]::aT tb::((if jn=[] then [] else [aI [74,79,73,78],aT jn])++(aW on [[79,78]]++(aW wh [[87,72,69,82,69]]++(aW gr [[71,82,79,85,80],[66,89]]++(aW od [[79,82,68,69,82],[66,89]]++((if desc=true then [aI [68,69,83,67]] else [])++(if lim = -1 then [] else [aI [76,73,77,73,84],ny lim])))))))):=rfl
  have hl:=hF
  rw[e0] at hl ⊢
  simp only[List.length_cons,List.length_append] at hl
  have hd':max (bq (items.map yZ)) (max (dG on) (max (dG wh) (max (dG gr) (dG od))))≤10:=hd
  simp only[List.cons_append,List.append_assoc]
  rw[aL (show aK gQ (RR 0 bp (aI [83,69,76,69,67,84]::_))=(6,RR 0 bp _) from rfl),if_neg (by decide),if_neg (by decide),if_neg (by decide),if_neg (by decide),if_neg (by decide),if_pos rfl]
  exact zq q1 q2 q3 q4 q5 q6 q7 (by omega) (by omega) (by omega) (fun x hx=>lK (show bq (items.map yZ)≤10 by omega) _ (List.mem_map.2 ⟨x,hx,rfl⟩)) (by omega) (by omega) bp rest hs
theorem uz {L:List Tk} (hg:bG L) (hlen:(Lib.join (pV L) [32]).length≤2000):sS (bV (Lib.join (pV L) [32])) (RR 0 0 (L++[nD]))∧L.length≤2000:=by
 have hw:pV L=L.map wr:=by
  have h1:=Gh hg nD rfl
  rw[uX,if_pos (show nD.k=6 from rfl)] at h1
  exact h1
 rw[hw] at hlen ⊢
 obtain⟨l',h1,h2⟩:=back L hg hlen
 have hm:=(mQ (Lib.join (L.map wr) [32])).many
 unfold bV at hm ⊢
 rw[h1] at hm ⊢
 refine ⟨⟨?_,rfl,rfl⟩,?_⟩
 ·show l'.map Tk.z=(L++[nD]).map Tk.z
  rw[h2,List.map_append]
  rfl
 ·have:=congrArg List.length h2
  simp only[List.length_map,List.length_append,List.length_cons,List.length_nil] at this
  have hm':l'.length≤2001:=hm
  omega
theorem zY:nu [nD]:=fun s hs=>by
 have:jm nD s=false:=by unfold jm nD;rfl
 rw[show ([nD]:List Tk).headD jJ=nD from rfl,this] at hs
 cases hs
theorem E5 {e:Ex} (h:aN e=true) (hd:iM e≤10) (hlen:(Lib.join (pV (je e)) [32]).length≤2000):qO (Lib.join (pV (je e)) [32])=(e,0,0):=by
 obtain⟨hs,hl⟩:=uz (tO h) hlen
 obtain⟨b1,b2⟩:=(Gi (F:=2001)).simA _ _ hs
 have hr:sZ 2001 (RR 0 0 (je e++[nD]))=(e,RR 0 0 [nD]):=by
  unfold sZ
  rw[aL (lM h (F:=2001) (by omega) hd 0 zY.stops)]
  rfl
 rw[hr] at b1 b2
 have hb:(sZ 2001 (bV (Lib.join (pV (je e)) [32]))).2.bad=0:=b2.2.2
 unfold qO
 rw[if_pos hb,b1]
theorem Af {l:List St} (h:bf l 1 8 dQ=true) (hd : ∀s∈l,x9 s≤10) (hg:bG (aQ (aI [59]) (l.map pI))) (hlen:(Lib.join (pV (aQ (aI [59]) (l.map pI))) [32]).length≤2000):gT (Lib.join (pV (aQ (aI [59]) (l.map pI))) [32])=(l,0,0):=by
 obtain⟨hs,hl⟩:=uz hg hlen
 obtain⟨b1,b2⟩:=(yF (F:=2001)).simA _ _ hs
 have hr:iW 2001 (RR 0 0 (aQ (aI [59]) (l.map pI)++[nD]))=(l,RR 0 0 [nD]):=by
  obtain⟨x,xs,rfl,hm,hp⟩:=fT h
  unfold iW
  have hone : ∀y∈x::xs,∀ts,ts=[nD]∨(∃u,ts=aI [59]::u)→eO (dn 2001) (RR 0 0 (pI y++ts))=(y,RR 0 0 ts):=fun y hy ts hts=>BU (hp y hy) (Nat.le_trans (uy (aI [59]) pI _ y hy) (by omega)) (hd y hy) 0 ts (by
   rcases hts with rfl | ⟨u,rfl⟩
   ·exact zY
   ·exact fun s hs=>(wV (jR [59]) hs).symm)
  rw[aL (oI (one:=eO (dn 2001)) (more:=iU) (tk:=pI) (sep:=aI [59]) (show iU (RR 0 0 [nD])=(false,RR 0 0 [nD]) from nH rfl) xs x 8 [] hm hone (fun y _ ts=>lW [59]))]
  rfl
 rw[hr] at b1 b2
 have hb:(iW 2001 (bV (Lib.join (pV (aQ (aI [59]) (l.map pI))) [32]))).2.bad=0:=b2.2.2
 unfold gT
 rw[if_pos hb,b1]
end Go.Proofs.YtnidnipiihhnaaaGreatDoor
