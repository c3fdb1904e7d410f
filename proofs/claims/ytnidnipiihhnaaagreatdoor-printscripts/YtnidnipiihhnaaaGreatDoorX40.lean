/- Packed for the hand-in: RefJO -/
import Derived.Test.YtnidnipiihhnaaaGreatDoorX39
import Derived.Test.YtnidnipiihhnaaaGreatDoorX19
import Derived.Test.YtnidnipiihhnaaaGreatDoorX26
namespace Go.Proofs.YtnidnipiihhnaaaGreatDoor
open Go.RowKit Go.Shelf
set_option linter.unusedSimpArgs false
set_option linter.unusedVariables false
set_option maxRecDepth 20000
set_option maxHeartbeats 8000000
theorem jitem_any (i:It) (hb:itB i=true) (cs:List Value) (g:Nat) (tb:Option Nat) (L:List Tk) (m:Int) (w:World) (h:JwAt w g tb L m) (hx:ItE (fun b=>b<g) w i cs) (hL:L.length+(itK i).length≤10000000) (hd:itD i≤100000) (hm0:0≤m) (hm:m≤1000000000) :
  Calls Tryz.prog 139 #[.pointer (some ⟨g,0,none⟩),.agg cs.toArray] w fun e w'=>e = .returned (.tuple #[])∧JWrote g tb w w' (L++itK i) (max m (itD i:Nat)):=by
 obtain⟨aa,nn,cc,rfl,ha⟩:=hx
 obtain⟨k,xs⟩:=i
 dsimp only at ha
 obtain⟨W,hW,hbW,hzW,hcW⟩:=box8 w (.cells #[.int .i64 k,.slice aa nn cc] 71)
 have kk:=cells2J hcW
 have HC0:=hid hcW
 have HBW:=hid hbW
 have HJ:=hid h
 have HJW:=hid (h.below hbW)
 have HS0:=hid ((h.below hbW).here)
 have HA:=hid (ha.new hbW)
 clear h hbW hcW ha
 by_cases hk13:k=1∨k=3
 ·have hxs:xs=[]:=by
   unfold itB at hb
   rw[if_pos hk13] at hb
   exact List.eq_nil_of_length_eq_zero (by simpa using hb)
  subst hxs
  have e0:max m ((itD ⟨k,[]⟩:Nat):Int)=m:=by show max m ((0:Nat):Int)=m;omega
  rw[e0]
  clear e0 hb hd HA
  by_cases hk1:k=1
  ·subst hk1
   have HTK:Hid (L++wordsK [[42]]=L++itK ⟨1,[]⟩):=hid (by unfold itK;simp[wordsK])
   generalize itK ⟨1,[]⟩=T at hL HTK ⊢
   have hLl:L.length+1≤10000000:=by have:=congrArg List.length HTK.out;simp[wordsK] at this;omega
   clear hk13 hL
   go_enter Tryz.func139,Tryz.ntmps139
   have HX0:=hid (HS0.out.next (fun tb' h'=>jwords_new g tb' _ _ [[42]] W h' (by simp) (by decide) (by simp[wordsK];omega)))
   go_wp2_with fail
   try rw[hW]
   refine HX0.out.mono ?_
   rintro e w1 ⟨rfl,hs1⟩
   have HS1:=hid hs1
   clear hs1 HX0
   have HQ:=hid (JWrote.new HBW.out HS1.out)
   clear HS1
   rw[HTK.out] at HQ
   go_wp2
   exact bodyPost_ret (v:=.tuple #[]) (by simp[results,Tryz.results139,go_sem]) rfl ⟨rfl,HQ.out⟩
  ·obtain rfl:k=3:=by omega
   have HTK:Hid (L++wordsK [[67,79,85,78,84],[40],[42],[41]]=L++itK ⟨3,[]⟩):=hid (by unfold itK;simp[wordsK])
   generalize itK ⟨3,[]⟩=T at hL HTK ⊢
   have hLl:L.length+4≤10000000:=by have:=congrArg List.length HTK.out;simp[wordsK] at this;omega
   clear hk13 hL hk1
   go_enter Tryz.func139,Tryz.ntmps139
   have HX0:=hid (HS0.out.next (fun tb' h'=>jwords_new g tb' _ _ [[67,79,85,78,84],[40],[42],[41]] W h' (by simp) (by decide) (by simp[wordsK];omega)))
   go_wp2_with fail
   try rw[hW]
   refine HX0.out.mono ?_
   rintro e w1 ⟨rfl,hs1⟩
   have HS1:=hid hs1
   clear hs1 HX0
   have HQ:=hid (JWrote.new HBW.out HS1.out)
   clear HS1
   rw[HTK.out] at HQ
   go_wp2
   exact bodyPost_ret (v:=.tuple #[]) (by simp[results,Tryz.results139,go_sem]) rfl ⟨rfl,HQ.out⟩
 ·have hk1 : ¬k=1:=fun e=>hk13 (.inl e)
  have hk3 : ¬k=3:=fun e=>hk13 (.inr e)
  have hit:(k=2∨k=4∨k=5∨k=6∨k=7)∧areB xs 1 1 rightE=true:=by
   unfold itB at hb
   rw[if_neg hk13] at hb
   by_cases h2:k=2∨k=4∨k=5∨k=6∨k=7
   ·rw[if_pos h2] at hb;exact⟨h2,hb⟩
   ·rw[if_neg h2] at hb;cases hb
  obtain⟨hkk,har⟩:=hit
  obtain⟨x,rfl⟩:∃x,xs=[x]:=by
   have:=areB_len har
   match xs,this with
   | [x],_=>exact⟨x,rfl⟩
   | [],h=>simp at h
   | _::_::_,h=>simp at h
  have hr:rightE x=true:=areB_mem har x (by simp)
  have eD:itD ⟨k,[x]⟩=exDs [x]:=rfl
  rw[eD] at hd ⊢
  have HAI:=hid (fun V tb' L' m' wv ts (h':JwAt V g tb' L' m') (hA:ArgsAt (fun b=>b<g) V [x] (.slice aa nn cc)) (hv:StrsW g tb' V wv ts) (hne : ∀t∈ts,t≠[]) (hl:L'.length+(partK [x] ts).length≤100000000) (hts:ts.length≤1000) (h0:0≤m') (h1:m'≤1000000000)=>jexprs_any (fun b=>b<g) [x] (by simp) (fun y hy=>by rw[List.mem_singleton.1 hy];exact hr) wv ts g tb' L' m' V _ h' h'.keeps hA hv hne hl hts (by omega) h0 (by omega))
  obtain⟨D,hD⟩:∃D:Int,((exDs [x]:Nat):Int)=D:=⟨_,rfl⟩
  rw[hD] at HAI ⊢
  have hkn:((exK x).length:Int) ≥ 0:=by omega
  have ep : ∀ts,partK [x] ts=wordsK ts++exK x:=fun ts=>by simp[partK]
  rw[show itK ⟨k,[x]⟩=(if k=2 then exK x else wordsK [itW k,[40]]++(exK x++[fxT [41]])) by unfold itK;rw[if_neg hk1];by_cases h2:k=2;rw[if_pos h2,if_pos h2];rfl;rw[if_neg h2,if_neg h2,if_neg hk3];rfl] at hL ⊢
  clear hb har eD hd hk13 hD
  by_cases hk2:k=2
  ·subst hk2
   rw[if_pos rfl] at hL ⊢
   have HTK:Hid (L++partK [x] []=L++exK x):=hid (by rw[ep];rfl)
   have HX0:=hid (HS0.out.next (fun tb' h'=>HAI.out W tb' _ _ _ [] h' HA.out (StrsW.nilJ g tb' W) (by simp) (by rw[ep];simp[wordsK];omega) (by simp) hm0 hm))
   generalize exK x=T at *
   clear hkk hk1 hk3 HAI hL
   go_enter Tryz.func139,Tryz.ntmps139
   go_wp2_with fail
   try rw[hW]
   refine HX0.out.mono ?_
   rintro e w1 ⟨rfl,hs1⟩
   have HS1:=hid hs1
   clear hs1 HX0 HS0
   have HQ:=hid (JWrote.new HBW.out HS1.out)
   clear HS1
   rw[HTK.out] at HQ
   go_wp2
   exact bodyPost_ret (v:=.tuple #[]) (by simp[results,Tryz.results139,go_sem]) rfl ⟨rfl,HQ.out⟩
  ·rw[if_neg hk2] at hL ⊢
   have hk47:k=4∨k=5∨k=6∨k=7:=by omega
   clear hkk hk1 hk3 hk2
   rcases hk47 with rfl | rfl | rfl | rfl
   ·have HTK:Hid (L++partK [x] [[67,79,85,78,84],[40]]++wordsK [[41]]=L++(wordsK [itW 4,[40]]++(exK x++[fxT [41]]))):=hid (by rw[ep];simp[wordsK,itW])
    have hLl:L.length+(exK x).length+3≤10000000:=by simp[wordsK] at hL;omega
    obtain⟨V,hV,hbV,hzV,hcV⟩:=box8 W (.cells #[.string ⟨#[67,79,85,78,84]⟩,.string ⟨#[83,85,77]⟩,.string ⟨#[77,73,78]⟩,.string ⟨#[77,65,88]⟩] 9)
    have hzw:w.heap.size<V.heap.size:=Nat.lt_trans hzW hzV
    have HSV:=hid (fun (Z:World) (hZ:Below V.heap.size V Z)=>(⟨(cells2J ((hZ.block w.heap.size hzw).trans ((hbV.block w.heap.size hzW).trans HC0.out))).1,(cells2J ((hZ.block w.heap.size hzw).trans ((hbV.block w.heap.size hzW).trans HC0.out))).2.1,by rw[cell_row _ _ _ _ _ _ ((hZ.block W.heap.size hzV).trans hcV)];rfl⟩:(fun V:World=>V.cell? ⟨w.heap.size,0,none⟩=some (.int .i64 4)∧V.cell? ⟨w.heap.size,1,none⟩=some (.slice aa nn cc)∧V.cell? ⟨W.heap.size,0,none⟩=some (.string ⟨#[67,79,85,78,84]⟩)) Z))
    have HJV:=hid (HJW.out.below hbV)
    have HAV:=hid (HA.out.new hbV)
    have HBV:=hid hbV
    have HVE:=hid hV
    clear hbV hcV hV kk
    go_enter Tryz.func139,Tryz.ntmps139
    have kk:=cells2J HC0.out
    go_wp2_with fail
    try rw[hW]
    try rw[HVE.out]
    have hS0:=HSV.out V.drew (Below.refl _ V).drew
    refine last_region (fun V:World=>V.cell? ⟨w.heap.size,0,none⟩=some (.int .i64 4)∧V.cell? ⟨w.heap.size,1,none⟩=some (.slice aa nn cc)∧V.cell? ⟨W.heap.size,0,none⟩=some (.string ⟨#[67,79,85,78,84]⟩)) 10 (by kernel_rfl) ?_
    refine wpAnyE_take (i:=0) (v:=?_) rfl (by kernel_rfl) (by kernel_rfl) (by kernel_rfl) (by kernel_rfl) (by kernel_rfl) (fun _ _ _ h=>h) (Or.inl ⟨by rfl,?_⟩) (by assumption) ?_;rotate_left;(focus (intro w hSw;(try dsimp only at hSw);(try obtain⟨hSw1,hSw2,hSw3⟩:=hSw);go_simp<;>with_reducible rfl));(try simp only[Act.put,List.getElem_toArray,List.getElem_cons_zero,List.getElem_cons_succ,List.setIfInBounds_toArray,List.set_cons_zero,List.set_cons_succ])
    refine wpAnyE_take (i:=1) (v:=?_) rfl (by kernel_rfl) (by kernel_rfl) (by kernel_rfl) (by kernel_rfl) (by kernel_rfl) (fun _ _ _ h=>h) (Or.inl ⟨by rfl,?_⟩) (by assumption) ?_;rotate_left;(focus (intro w hSw;(try dsimp only at hSw);(try obtain⟨hSw1,hSw2,hSw3⟩:=hSw);go_simp<;>with_reducible rfl));(try simp only[Act.put,List.getElem_toArray,List.getElem_cons_zero,List.getElem_cons_succ,List.setIfInBounds_toArray,List.set_cons_zero,List.set_cons_succ])
    refine wpAnyE_take (i:=2) (v:=?_) rfl (by kernel_rfl) (by kernel_rfl) (by kernel_rfl) (by kernel_rfl) (by kernel_rfl) (fun _ _ _ h=>h) (Or.inl ⟨by rfl,?_⟩) (by assumption) ?_;rotate_left;(focus (intro w hSw;(try dsimp only at hSw);(try obtain⟨hSw1,hSw2,hSw3⟩:=hSw);go_simp<;>with_reducible rfl));(try simp only[Act.put,List.getElem_toArray,List.getElem_cons_zero,List.getElem_cons_succ,List.setIfInBounds_toArray,List.set_cons_zero,List.set_cons_succ])
    refine wpAnyE_take (i:=3) (v:=?_) rfl (by kernel_rfl) (by kernel_rfl) (by kernel_rfl) (by kernel_rfl) (by kernel_rfl) (fun _ _ _ h=>h) (Or.inl ⟨by rfl,?_⟩) (by assumption) ?_;rotate_left;(focus (intro w hSw;(try dsimp only at hSw);(try obtain⟨hSw1,hSw2,hSw3⟩:=hSw);go_simp<;>with_reducible rfl));(try simp only[Act.put,List.getElem_toArray,List.getElem_cons_zero,List.getElem_cons_succ,List.setIfInBounds_toArray,List.set_cons_zero,List.set_cons_succ])
    refine wpAnyE_take (i:=4) (v:=.int .i64 0) rfl (by kernel_rfl) (by kernel_rfl) (by kernel_rfl) (by kernel_rfl) (by kernel_rfl) (fun _ _ _ h=>h) (Or.inl ⟨by rfl,fun W _=>by go_simp<;>rfl⟩) (by assumption) ?_
    simp only[Act.put,List.getElem_toArray,List.getElem_cons_zero,List.getElem_cons_succ,List.setIfInBounds_toArray,List.set_cons_zero,List.set_cons_succ]
    refine wpAnyE_take (i:=5) (v:=?_) rfl (by kernel_rfl) (by kernel_rfl) (by kernel_rfl) (by kernel_rfl) (by kernel_rfl) (fun _ _ _ h=>h) (Or.inl ⟨by rfl,?_⟩) (by assumption) ?_;rotate_left;(focus (intro w hSw;(try dsimp only at hSw);(try obtain⟨hSw1,hSw2,hSw3⟩:=hSw);go_simp<;>with_reducible rfl));(try simp only[Act.put,List.getElem_toArray,List.getElem_cons_zero,List.getElem_cons_succ,List.setIfInBounds_toArray,List.set_cons_zero,List.set_cons_succ])
    refine wpAnyE_take (i:=6) (v:=?_) rfl (by kernel_rfl) (by kernel_rfl) (by kernel_rfl) (by kernel_rfl) (by kernel_rfl) (fun _ _ _ h=>h) (Or.inl ⟨by rfl,?_⟩) (by assumption) ?_;rotate_left;(focus (intro w hSw;(try dsimp only at hSw);(try obtain⟨hSw1,hSw2,hSw3⟩:=hSw);go_simp<;>with_reducible rfl));(try simp only[Act.put,List.getElem_toArray,List.getElem_cons_zero,List.getElem_cons_succ,List.setIfInBounds_toArray,List.set_cons_zero,List.set_cons_succ])
    refine wpAnyE_take (i:=8) (v:=?_) rfl (by kernel_rfl) (by kernel_rfl) (by kernel_rfl) (by kernel_rfl) (by kernel_rfl) (fun _ _ _ h=>h) (Or.inl ⟨by rfl,?_⟩) (by assumption) ?_;rotate_left;(focus (intro w hSw;(try dsimp only at hSw);(try obtain⟨hSw1,hSw2,hSw3⟩:=hSw);go_simp<;>with_reducible rfl));(try simp only[Act.put,List.getElem_toArray,List.getElem_cons_zero,List.getElem_cons_succ,List.setIfInBounds_toArray,List.set_cons_zero,List.set_cons_succ])
    refine wpAnyE_take (i:=9) (v:=?_) rfl (by kernel_rfl) (by kernel_rfl) (by kernel_rfl) (by kernel_rfl) (by kernel_rfl) (fun _ _ _ h=>h) (Or.inl ⟨by rfl,?_⟩) (by assumption) ?_;rotate_left;(focus (intro w hSw;(try dsimp only at hSw);(try obtain⟨hSw1,hSw2,hSw3⟩:=hSw);go_simp<;>with_reducible rfl));(try simp only[Act.put,List.getElem_toArray,List.getElem_cons_zero,List.getElem_cons_succ,List.setIfInBounds_toArray,List.set_cons_zero,List.set_cons_succ])
    obtain⟨U,hU,hbU,hzU,hcU⟩:=box8 V.drew (.cells #[.string ⟨#[67,79,85,78,84]⟩,.string ⟨#[40]⟩] 9)
    have hbVU:Below V.heap.size V U:=(Below.refl _ V).drew.trans hbU
    refine takeE_value (i:=7) (v:=.slice (some ⟨V.heap.size,0,none⟩) 2 2) (w':=U) (by kernel_rfl) rfl rfl (by rw[← hU];go_simp<;>with_reducible rfl) (HSV.out U hbVU) ?_
    simp only[Act.put,List.getElem_toArray,List.getElem_cons_zero,List.getElem_cons_succ,List.setIfInBounds_toArray,List.set_cons_zero,List.set_cons_succ]
    have HST:StrsW g tb U (.slice (some ⟨V.heap.size,0,none⟩) 2 2) [[67,79,85,78,84],[40]]:=by
     have hd:JwAt V.drew g tb L m:=HJV.out.below (Below.refl _ V).drew
     exact StrsW.newJ hd [[67,79,85,78,84],[40]] (by simp) (by subst hU;exact Below.refl _ _)
    have HCC:=HAI.out U tb L m _ [[67,79,85,78,84],[40]] (HJV.out.below hbVU) (HAV.out.new hbVU) HST (by decide) (by rw[ep];simp[wordsK];omega) (by simp) hm0 hm
    refine takeE_call (i:=10) #[.pointer (some ⟨g,0,none⟩),.slice (some ⟨V.heap.size,0,none⟩) 2 2,.slice aa nn cc] (fun v w'=>v = .tuple #[]∧JWrote g tb U w' (L++partK [x] [[67,79,85,78,84],[40]]) (max m D)) (by kernel_rfl) rfl rfl rfl (by kernel_rfl) (enters_of Tryz.func24 (by kernel_rfl) rfl) (HCC.mono fun e w' ⟨h1,h2⟩=>⟨_,h1,rfl,h2⟩) ?_
    rintro _ w1 ⟨rfl,hs1⟩
    have HS1:=hid (JWrote.new HBV.out (JWrote.new hbVU hs1))
    refine ⟨⟨(cells2J ((HS1.out.box HJ.out (Nat.le_refl _) hzW).trans HC0.out)).1,(cells2J ((HS1.out.box HJ.out (Nat.le_refl _) hzW).trans HC0.out)).2.1,(hs1.fr.cell (HSV.out U hbVU).2.2 (fun e=>by
     rcases e with e | e
     ·have e':W.heap.size=g:=e
      have:=HJW.out.lt
      omega
     ·exact Nat.lt_irrefl _ (HJW.out.tbs W.heap.size e).2))⟩,?_⟩
    simp only[Act.put,List.getElem_toArray,List.getElem_cons_zero,List.getElem_cons_succ,List.setIfInBounds_toArray,List.set_cons_zero,List.set_cons_succ]
    refine wpAnyE_done (by kernel_rfl) ?_ _
    show Only _ .normal _ _
    unfold Only
    have hpl:(partK [x] [[67,79,85,78,84],[40]]).length=(exK x).length+2:=by rw[ep];simp[wordsK]<;>omega
    generalize partK [x] [[67,79,85,78,84],[40]]=P at *
    have HX1:=hid (HS1.out.next (fun tb' h'=>jwords_new g tb' _ _ [[41]] w1 h' (by simp) (by decide) (by simp;omega)))
    clear hs1 HCC HST hbU hcU hbVU hS0 HSV HJV HAV HBV HAI HVE kk
    go_wp2_with fail
    refine HX1.out.mono ?_
    rintro e w2 ⟨rfl,hs2⟩
    have HS2:=hid hs2
    clear hs2 HX1 HS1
    have HQ:=hid (JWrote.new HBW.out HS2.out)
    clear HS2
    rw[HTK.out] at HQ
    go_wp2
    exact bodyPost_end (v:=.tuple #[]) (by simp[results,Tryz.results139,go_sem]) rfl ⟨rfl,HQ.out⟩
   ·have HTK:Hid (L++partK [x] [[83,85,77],[40]]++wordsK [[41]]=L++(wordsK [itW 5,[40]]++(exK x++[fxT [41]]))):=hid (by rw[ep];simp[wordsK,itW])
    have hLl:L.length+(exK x).length+3≤10000000:=by simp[wordsK] at hL;omega
    obtain⟨V,hV,hbV,hzV,hcV⟩:=box8 W (.cells #[.string ⟨#[67,79,85,78,84]⟩,.string ⟨#[83,85,77]⟩,.string ⟨#[77,73,78]⟩,.string ⟨#[77,65,88]⟩] 9)
    have hzw:w.heap.size<V.heap.size:=Nat.lt_trans hzW hzV
    have HSV:=hid (fun (Z:World) (hZ:Below V.heap.size V Z)=>(⟨(cells2J ((hZ.block w.heap.size hzw).trans ((hbV.block w.heap.size hzW).trans HC0.out))).1,(cells2J ((hZ.block w.heap.size hzw).trans ((hbV.block w.heap.size hzW).trans HC0.out))).2.1,by rw[cell_row _ _ _ _ _ _ ((hZ.block W.heap.size hzV).trans hcV)];rfl⟩:(fun V:World=>V.cell? ⟨w.heap.size,0,none⟩=some (.int .i64 5)∧V.cell? ⟨w.heap.size,1,none⟩=some (.slice aa nn cc)∧V.cell? ⟨W.heap.size,1,none⟩=some (.string ⟨#[83,85,77]⟩)) Z))
    have HJV:=hid (HJW.out.below hbV)
    have HAV:=hid (HA.out.new hbV)
    have HBV:=hid hbV
    have HVE:=hid hV
    clear hbV hcV hV kk
    go_enter Tryz.func139,Tryz.ntmps139
    have kk:=cells2J HC0.out
    go_wp2_with fail
    try rw[hW]
    try rw[HVE.out]
    have hS0:=HSV.out V.drew (Below.refl _ V).drew
    refine last_region (fun V:World=>V.cell? ⟨w.heap.size,0,none⟩=some (.int .i64 5)∧V.cell? ⟨w.heap.size,1,none⟩=some (.slice aa nn cc)∧V.cell? ⟨W.heap.size,1,none⟩=some (.string ⟨#[83,85,77]⟩)) 10 (by kernel_rfl) ?_
    refine wpAnyE_take (i:=0) (v:=?_) rfl (by kernel_rfl) (by kernel_rfl) (by kernel_rfl) (by kernel_rfl) (by kernel_rfl) (fun _ _ _ h=>h) (Or.inl ⟨by rfl,?_⟩) (by assumption) ?_;rotate_left;(focus (intro w hSw;(try dsimp only at hSw);(try obtain⟨hSw1,hSw2,hSw3⟩:=hSw);go_simp<;>with_reducible rfl));(try simp only[Act.put,List.getElem_toArray,List.getElem_cons_zero,List.getElem_cons_succ,List.setIfInBounds_toArray,List.set_cons_zero,List.set_cons_succ])
    refine wpAnyE_take (i:=1) (v:=?_) rfl (by kernel_rfl) (by kernel_rfl) (by kernel_rfl) (by kernel_rfl) (by kernel_rfl) (fun _ _ _ h=>h) (Or.inl ⟨by rfl,?_⟩) (by assumption) ?_;rotate_left;(focus (intro w hSw;(try dsimp only at hSw);(try obtain⟨hSw1,hSw2,hSw3⟩:=hSw);go_simp<;>with_reducible rfl));(try simp only[Act.put,List.getElem_toArray,List.getElem_cons_zero,List.getElem_cons_succ,List.setIfInBounds_toArray,List.set_cons_zero,List.set_cons_succ])
    refine wpAnyE_take (i:=2) (v:=?_) rfl (by kernel_rfl) (by kernel_rfl) (by kernel_rfl) (by kernel_rfl) (by kernel_rfl) (fun _ _ _ h=>h) (Or.inl ⟨by rfl,?_⟩) (by assumption) ?_;rotate_left;(focus (intro w hSw;(try dsimp only at hSw);(try obtain⟨hSw1,hSw2,hSw3⟩:=hSw);go_simp<;>with_reducible rfl));(try simp only[Act.put,List.getElem_toArray,List.getElem_cons_zero,List.getElem_cons_succ,List.setIfInBounds_toArray,List.set_cons_zero,List.set_cons_succ])
    refine wpAnyE_take (i:=3) (v:=?_) rfl (by kernel_rfl) (by kernel_rfl) (by kernel_rfl) (by kernel_rfl) (by kernel_rfl) (fun _ _ _ h=>h) (Or.inl ⟨by rfl,?_⟩) (by assumption) ?_;rotate_left;(focus (intro w hSw;(try dsimp only at hSw);(try obtain⟨hSw1,hSw2,hSw3⟩:=hSw);go_simp<;>with_reducible rfl));(try simp only[Act.put,List.getElem_toArray,List.getElem_cons_zero,List.getElem_cons_succ,List.setIfInBounds_toArray,List.set_cons_zero,List.set_cons_succ])
    refine wpAnyE_take (i:=4) (v:=.int .i64 1) rfl (by kernel_rfl) (by kernel_rfl) (by kernel_rfl) (by kernel_rfl) (by kernel_rfl) (fun _ _ _ h=>h) (Or.inl ⟨by rfl,fun W _=>by go_simp<;>rfl⟩) (by assumption) ?_
    simp only[Act.put,List.getElem_toArray,List.getElem_cons_zero,List.getElem_cons_succ,List.setIfInBounds_toArray,List.set_cons_zero,List.set_cons_succ]
    refine wpAnyE_take (i:=5) (v:=?_) rfl (by kernel_rfl) (by kernel_rfl) (by kernel_rfl) (by kernel_rfl) (by kernel_rfl) (fun _ _ _ h=>h) (Or.inl ⟨by rfl,?_⟩) (by assumption) ?_;rotate_left;(focus (intro w hSw;(try dsimp only at hSw);(try obtain⟨hSw1,hSw2,hSw3⟩:=hSw);go_simp<;>with_reducible rfl));(try simp only[Act.put,List.getElem_toArray,List.getElem_cons_zero,List.getElem_cons_succ,List.setIfInBounds_toArray,List.set_cons_zero,List.set_cons_succ])
    refine wpAnyE_take (i:=6) (v:=?_) rfl (by kernel_rfl) (by kernel_rfl) (by kernel_rfl) (by kernel_rfl) (by kernel_rfl) (fun _ _ _ h=>h) (Or.inl ⟨by rfl,?_⟩) (by assumption) ?_;rotate_left;(focus (intro w hSw;(try dsimp only at hSw);(try obtain⟨hSw1,hSw2,hSw3⟩:=hSw);go_simp<;>with_reducible rfl));(try simp only[Act.put,List.getElem_toArray,List.getElem_cons_zero,List.getElem_cons_succ,List.setIfInBounds_toArray,List.set_cons_zero,List.set_cons_succ])
    refine wpAnyE_take (i:=8) (v:=?_) rfl (by kernel_rfl) (by kernel_rfl) (by kernel_rfl) (by kernel_rfl) (by kernel_rfl) (fun _ _ _ h=>h) (Or.inl ⟨by rfl,?_⟩) (by assumption) ?_;rotate_left;(focus (intro w hSw;(try dsimp only at hSw);(try obtain⟨hSw1,hSw2,hSw3⟩:=hSw);go_simp<;>with_reducible rfl));(try simp only[Act.put,List.getElem_toArray,List.getElem_cons_zero,List.getElem_cons_succ,List.setIfInBounds_toArray,List.set_cons_zero,List.set_cons_succ])
    refine wpAnyE_take (i:=9) (v:=?_) rfl (by kernel_rfl) (by kernel_rfl) (by kernel_rfl) (by kernel_rfl) (by kernel_rfl) (fun _ _ _ h=>h) (Or.inl ⟨by rfl,?_⟩) (by assumption) ?_;rotate_left;(focus (intro w hSw;(try dsimp only at hSw);(try obtain⟨hSw1,hSw2,hSw3⟩:=hSw);go_simp<;>with_reducible rfl));(try simp only[Act.put,List.getElem_toArray,List.getElem_cons_zero,List.getElem_cons_succ,List.setIfInBounds_toArray,List.set_cons_zero,List.set_cons_succ])
    obtain⟨U,hU,hbU,hzU,hcU⟩:=box8 V.drew (.cells #[.string ⟨#[83,85,77]⟩,.string ⟨#[40]⟩] 9)
    have hbVU:Below V.heap.size V U:=(Below.refl _ V).drew.trans hbU
    refine takeE_value (i:=7) (v:=.slice (some ⟨V.heap.size,0,none⟩) 2 2) (w':=U) (by kernel_rfl) rfl rfl (by rw[← hU];go_simp<;>with_reducible rfl) (HSV.out U hbVU) ?_
    simp only[Act.put,List.getElem_toArray,List.getElem_cons_zero,List.getElem_cons_succ,List.setIfInBounds_toArray,List.set_cons_zero,List.set_cons_succ]
    have HST:StrsW g tb U (.slice (some ⟨V.heap.size,0,none⟩) 2 2) [[83,85,77],[40]]:=by
     have hd:JwAt V.drew g tb L m:=HJV.out.below (Below.refl _ V).drew
     exact StrsW.newJ hd [[83,85,77],[40]] (by simp) (by subst hU;exact Below.refl _ _)
    have HCC:=HAI.out U tb L m _ [[83,85,77],[40]] (HJV.out.below hbVU) (HAV.out.new hbVU) HST (by decide) (by rw[ep];simp[wordsK];omega) (by simp) hm0 hm
    refine takeE_call (i:=10) #[.pointer (some ⟨g,0,none⟩),.slice (some ⟨V.heap.size,0,none⟩) 2 2,.slice aa nn cc] (fun v w'=>v = .tuple #[]∧JWrote g tb U w' (L++partK [x] [[83,85,77],[40]]) (max m D)) (by kernel_rfl) rfl rfl rfl (by kernel_rfl) (enters_of Tryz.func24 (by kernel_rfl) rfl) (HCC.mono fun e w' ⟨h1,h2⟩=>⟨_,h1,rfl,h2⟩) ?_
    rintro _ w1 ⟨rfl,hs1⟩
    have HS1:=hid (JWrote.new HBV.out (JWrote.new hbVU hs1))
    refine ⟨⟨(cells2J ((HS1.out.box HJ.out (Nat.le_refl _) hzW).trans HC0.out)).1,(cells2J ((HS1.out.box HJ.out (Nat.le_refl _) hzW).trans HC0.out)).2.1,(hs1.fr.cell (HSV.out U hbVU).2.2 (fun e=>by
     rcases e with e | e
     ·have e':W.heap.size=g:=e
      have:=HJW.out.lt
      omega
     ·exact Nat.lt_irrefl _ (HJW.out.tbs W.heap.size e).2))⟩,?_⟩
    simp only[Act.put,List.getElem_toArray,List.getElem_cons_zero,List.getElem_cons_succ,List.setIfInBounds_toArray,List.set_cons_zero,List.set_cons_succ]
    refine wpAnyE_done (by kernel_rfl) ?_ _
    show Only _ .normal _ _
    unfold Only
    have hpl:(partK [x] [[83,85,77],[40]]).length=(exK x).length+2:=by rw[ep];simp[wordsK]<;>omega
    generalize partK [x] [[83,85,77],[40]]=P at *
    have HX1:=hid (HS1.out.next (fun tb' h'=>jwords_new g tb' _ _ [[41]] w1 h' (by simp) (by decide) (by simp;omega)))
    clear hs1 HCC HST hbU hcU hbVU hS0 HSV HJV HAV HBV HAI HVE kk
    go_wp2_with fail
    refine HX1.out.mono ?_
    rintro e w2 ⟨rfl,hs2⟩
    have HS2:=hid hs2
    clear hs2 HX1 HS1
    have HQ:=hid (JWrote.new HBW.out HS2.out)
    clear HS2
    rw[HTK.out] at HQ
    go_wp2
    exact bodyPost_end (v:=.tuple #[]) (by simp[results,Tryz.results139,go_sem]) rfl ⟨rfl,HQ.out⟩
   ·have HTK:Hid (L++partK [x] [[77,73,78],[40]]++wordsK [[41]]=L++(wordsK [itW 6,[40]]++(exK x++[fxT [41]]))):=hid (by rw[ep];simp[wordsK,itW])
    have hLl:L.length+(exK x).length+3≤10000000:=by simp[wordsK] at hL;omega
    obtain⟨V,hV,hbV,hzV,hcV⟩:=box8 W (.cells #[.string ⟨#[67,79,85,78,84]⟩,.string ⟨#[83,85,77]⟩,.string ⟨#[77,73,78]⟩,.string ⟨#[77,65,88]⟩] 9)
    have hzw:w.heap.size<V.heap.size:=Nat.lt_trans hzW hzV
    have HSV:=hid (fun (Z:World) (hZ:Below V.heap.size V Z)=>(⟨(cells2J ((hZ.block w.heap.size hzw).trans ((hbV.block w.heap.size hzW).trans HC0.out))).1,(cells2J ((hZ.block w.heap.size hzw).trans ((hbV.block w.heap.size hzW).trans HC0.out))).2.1,by rw[cell_row _ _ _ _ _ _ ((hZ.block W.heap.size hzV).trans hcV)];rfl⟩:(fun V:World=>V.cell? ⟨w.heap.size,0,none⟩=some (.int .i64 6)∧V.cell? ⟨w.heap.size,1,none⟩=some (.slice aa nn cc)∧V.cell? ⟨W.heap.size,2,none⟩=some (.string ⟨#[77,73,78]⟩)) Z))
    have HJV:=hid (HJW.out.below hbV)
    have HAV:=hid (HA.out.new hbV)
    have HBV:=hid hbV
    have HVE:=hid hV
    clear hbV hcV hV kk
    go_enter Tryz.func139,Tryz.ntmps139
    have kk:=cells2J HC0.out
    go_wp2_with fail
    try rw[hW]
    try rw[HVE.out]
    have hS0:=HSV.out V.drew (Below.refl _ V).drew
    refine last_region (fun V:World=>V.cell? ⟨w.heap.size,0,none⟩=some (.int .i64 6)∧V.cell? ⟨w.heap.size,1,none⟩=some (.slice aa nn cc)∧V.cell? ⟨W.heap.size,2,none⟩=some (.string ⟨#[77,73,78]⟩)) 10 (by kernel_rfl) ?_
    refine wpAnyE_take (i:=0) (v:=?_) rfl (by kernel_rfl) (by kernel_rfl) (by kernel_rfl) (by kernel_rfl) (by kernel_rfl) (fun _ _ _ h=>h) (Or.inl ⟨by rfl,?_⟩) (by assumption) ?_;rotate_left;(focus (intro w hSw;(try dsimp only at hSw);(try obtain⟨hSw1,hSw2,hSw3⟩:=hSw);go_simp<;>with_reducible rfl));(try simp only[Act.put,List.getElem_toArray,List.getElem_cons_zero,List.getElem_cons_succ,List.setIfInBounds_toArray,List.set_cons_zero,List.set_cons_succ])
    refine wpAnyE_take (i:=1) (v:=?_) rfl (by kernel_rfl) (by kernel_rfl) (by kernel_rfl) (by kernel_rfl) (by kernel_rfl) (fun _ _ _ h=>h) (Or.inl ⟨by rfl,?_⟩) (by assumption) ?_;rotate_left;(focus (intro w hSw;(try dsimp only at hSw);(try obtain⟨hSw1,hSw2,hSw3⟩:=hSw);go_simp<;>with_reducible rfl));(try simp only[Act.put,List.getElem_toArray,List.getElem_cons_zero,List.getElem_cons_succ,List.setIfInBounds_toArray,List.set_cons_zero,List.set_cons_succ])
    refine wpAnyE_take (i:=2) (v:=?_) rfl (by kernel_rfl) (by kernel_rfl) (by kernel_rfl) (by kernel_rfl) (by kernel_rfl) (fun _ _ _ h=>h) (Or.inl ⟨by rfl,?_⟩) (by assumption) ?_;rotate_left;(focus (intro w hSw;(try dsimp only at hSw);(try obtain⟨hSw1,hSw2,hSw3⟩:=hSw);go_simp<;>with_reducible rfl));(try simp only[Act.put,List.getElem_toArray,List.getElem_cons_zero,List.getElem_cons_succ,List.setIfInBounds_toArray,List.set_cons_zero,List.set_cons_succ])
    refine wpAnyE_take (i:=3) (v:=?_) rfl (by kernel_rfl) (by kernel_rfl) (by kernel_rfl) (by kernel_rfl) (by kernel_rfl) (fun _ _ _ h=>h) (Or.inl ⟨by rfl,?_⟩) (by assumption) ?_;rotate_left;(focus (intro w hSw;(try dsimp only at hSw);(try obtain⟨hSw1,hSw2,hSw3⟩:=hSw);go_simp<;>with_reducible rfl));(try simp only[Act.put,List.getElem_toArray,List.getElem_cons_zero,List.getElem_cons_succ,List.setIfInBounds_toArray,List.set_cons_zero,List.set_cons_succ])
    refine wpAnyE_take (i:=4) (v:=.int .i64 2) rfl (by kernel_rfl) (by kernel_rfl) (by kernel_rfl) (by kernel_rfl) (by kernel_rfl) (fun _ _ _ h=>h) (Or.inl ⟨by rfl,fun W _=>by go_simp<;>rfl⟩) (by assumption) ?_
    simp only[Act.put,List.getElem_toArray,List.getElem_cons_zero,List.getElem_cons_succ,List.setIfInBounds_toArray,List.set_cons_zero,List.set_cons_succ]
    refine wpAnyE_take (i:=5) (v:=?_) rfl (by kernel_rfl) (by kernel_rfl) (by kernel_rfl) (by kernel_rfl) (by kernel_rfl) (fun _ _ _ h=>h) (Or.inl ⟨by rfl,?_⟩) (by assumption) ?_;rotate_left;(focus (intro w hSw;(try dsimp only at hSw);(try obtain⟨hSw1,hSw2,hSw3⟩:=hSw);go_simp<;>with_reducible rfl));(try simp only[Act.put,List.getElem_toArray,List.getElem_cons_zero,List.getElem_cons_succ,List.setIfInBounds_toArray,List.set_cons_zero,List.set_cons_succ])
    refine wpAnyE_take (i:=6) (v:=?_) rfl (by kernel_rfl) (by kernel_rfl) (by kernel_rfl) (by kernel_rfl) (by kernel_rfl) (fun _ _ _ h=>h) (Or.inl ⟨by rfl,?_⟩) (by assumption) ?_;rotate_left;(focus (intro w hSw;(try dsimp only at hSw);(try obtain⟨hSw1,hSw2,hSw3⟩:=hSw);go_simp<;>with_reducible rfl));(try simp only[Act.put,List.getElem_toArray,List.getElem_cons_zero,List.getElem_cons_succ,List.setIfInBounds_toArray,List.set_cons_zero,List.set_cons_succ])
    refine wpAnyE_take (i:=8) (v:=?_) rfl (by kernel_rfl) (by kernel_rfl) (by kernel_rfl) (by kernel_rfl) (by kernel_rfl) (fun _ _ _ h=>h) (Or.inl ⟨by rfl,?_⟩) (by assumption) ?_;rotate_left;(focus (intro w hSw;(try dsimp only at hSw);(try obtain⟨hSw1,hSw2,hSw3⟩:=hSw);go_simp<;>with_reducible rfl));(try simp only[Act.put,List.getElem_toArray,List.getElem_cons_zero,List.getElem_cons_succ,List.setIfInBounds_toArray,List.set_cons_zero,List.set_cons_succ])
    refine wpAnyE_take (i:=9) (v:=?_) rfl (by kernel_rfl) (by kernel_rfl) (by kernel_rfl) (by kernel_rfl) (by kernel_rfl) (fun _ _ _ h=>h) (Or.inl ⟨by rfl,?_⟩) (by assumption) ?_;rotate_left;(focus (intro w hSw;(try dsimp only at hSw);(try obtain⟨hSw1,hSw2,hSw3⟩:=hSw);go_simp<;>with_reducible rfl));(try simp only[Act.put,List.getElem_toArray,List.getElem_cons_zero,List.getElem_cons_succ,List.setIfInBounds_toArray,List.set_cons_zero,List.set_cons_succ])
    obtain⟨U,hU,hbU,hzU,hcU⟩:=box8 V.drew (.cells #[.string ⟨#[77,73,78]⟩,.string ⟨#[40]⟩] 9)
    have hbVU:Below V.heap.size V U:=(Below.refl _ V).drew.trans hbU
    refine takeE_value (i:=7) (v:=.slice (some ⟨V.heap.size,0,none⟩) 2 2) (w':=U) (by kernel_rfl) rfl rfl (by rw[← hU];go_simp<;>with_reducible rfl) (HSV.out U hbVU) ?_
    simp only[Act.put,List.getElem_toArray,List.getElem_cons_zero,List.getElem_cons_succ,List.setIfInBounds_toArray,List.set_cons_zero,List.set_cons_succ]
    have HST:StrsW g tb U (.slice (some ⟨V.heap.size,0,none⟩) 2 2) [[77,73,78],[40]]:=by
     have hd:JwAt V.drew g tb L m:=HJV.out.below (Below.refl _ V).drew
     exact StrsW.newJ hd [[77,73,78],[40]] (by simp) (by subst hU;exact Below.refl _ _)
    have HCC:=HAI.out U tb L m _ [[77,73,78],[40]] (HJV.out.below hbVU) (HAV.out.new hbVU) HST (by decide) (by rw[ep];simp[wordsK];omega) (by simp) hm0 hm
    refine takeE_call (i:=10) #[.pointer (some ⟨g,0,none⟩),.slice (some ⟨V.heap.size,0,none⟩) 2 2,.slice aa nn cc] (fun v w'=>v = .tuple #[]∧JWrote g tb U w' (L++partK [x] [[77,73,78],[40]]) (max m D)) (by kernel_rfl) rfl rfl rfl (by kernel_rfl) (enters_of Tryz.func24 (by kernel_rfl) rfl) (HCC.mono fun e w' ⟨h1,h2⟩=>⟨_,h1,rfl,h2⟩) ?_
    rintro _ w1 ⟨rfl,hs1⟩
    have HS1:=hid (JWrote.new HBV.out (JWrote.new hbVU hs1))
    refine ⟨⟨(cells2J ((HS1.out.box HJ.out (Nat.le_refl _) hzW).trans HC0.out)).1,(cells2J ((HS1.out.box HJ.out (Nat.le_refl _) hzW).trans HC0.out)).2.1,(hs1.fr.cell (HSV.out U hbVU).2.2 (fun e=>by
     rcases e with e | e
     ·have e':W.heap.size=g:=e
      have:=HJW.out.lt
      omega
     ·exact Nat.lt_irrefl _ (HJW.out.tbs W.heap.size e).2))⟩,?_⟩
    simp only[Act.put,List.getElem_toArray,List.getElem_cons_zero,List.getElem_cons_succ,List.setIfInBounds_toArray,List.set_cons_zero,List.set_cons_succ]
    refine wpAnyE_done (by kernel_rfl) ?_ _
    show Only _ .normal _ _
    unfold Only
    have hpl:(partK [x] [[77,73,78],[40]]).length=(exK x).length+2:=by rw[ep];simp[wordsK]<;>omega
    generalize partK [x] [[77,73,78],[40]]=P at *
    have HX1:=hid (HS1.out.next (fun tb' h'=>jwords_new g tb' _ _ [[41]] w1 h' (by simp) (by decide) (by simp;omega)))
    clear hs1 HCC HST hbU hcU hbVU hS0 HSV HJV HAV HBV HAI HVE kk
    go_wp2_with fail
    refine HX1.out.mono ?_
    rintro e w2 ⟨rfl,hs2⟩
    have HS2:=hid hs2
    clear hs2 HX1 HS1
    have HQ:=hid (JWrote.new HBW.out HS2.out)
    clear HS2
    rw[HTK.out] at HQ
    go_wp2
    exact bodyPost_end (v:=.tuple #[]) (by simp[results,Tryz.results139,go_sem]) rfl ⟨rfl,HQ.out⟩
   ·have HTK:Hid (L++partK [x] [[77,65,88],[40]]++wordsK [[41]]=L++(wordsK [itW 7,[40]]++(exK x++[fxT [41]]))):=hid (by rw[ep];simp[wordsK,itW])
    have hLl:L.length+(exK x).length+3≤10000000:=by simp[wordsK] at hL;omega
    obtain⟨V,hV,hbV,hzV,hcV⟩:=box8 W (.cells #[.string ⟨#[67,79,85,78,84]⟩,.string ⟨#[83,85,77]⟩,.string ⟨#[77,73,78]⟩,.string ⟨#[77,65,88]⟩] 9)
    have hzw:w.heap.size<V.heap.size:=Nat.lt_trans hzW hzV
    have HSV:=hid (fun (Z:World) (hZ:Below V.heap.size V Z)=>(⟨(cells2J ((hZ.block w.heap.size hzw).trans ((hbV.block w.heap.size hzW).trans HC0.out))).1,(cells2J ((hZ.block w.heap.size hzw).trans ((hbV.block w.heap.size hzW).trans HC0.out))).2.1,by rw[cell_row _ _ _ _ _ _ ((hZ.block W.heap.size hzV).trans hcV)];rfl⟩:(fun V:World=>V.cell? ⟨w.heap.size,0,none⟩=some (.int .i64 7)∧V.cell? ⟨w.heap.size,1,none⟩=some (.slice aa nn cc)∧V.cell? ⟨W.heap.size,3,none⟩=some (.string ⟨#[77,65,88]⟩)) Z))
    have HJV:=hid (HJW.out.below hbV)
    have HAV:=hid (HA.out.new hbV)
    have HBV:=hid hbV
    have HVE:=hid hV
    clear hbV hcV hV kk
    go_enter Tryz.func139,Tryz.ntmps139
    have kk:=cells2J HC0.out
    go_wp2_with fail
    try rw[hW]
    try rw[HVE.out]
    have hS0:=HSV.out V.drew (Below.refl _ V).drew
    refine last_region (fun V:World=>V.cell? ⟨w.heap.size,0,none⟩=some (.int .i64 7)∧V.cell? ⟨w.heap.size,1,none⟩=some (.slice aa nn cc)∧V.cell? ⟨W.heap.size,3,none⟩=some (.string ⟨#[77,65,88]⟩)) 10 (by kernel_rfl) ?_
    refine wpAnyE_take (i:=0) (v:=?_) rfl (by kernel_rfl) (by kernel_rfl) (by kernel_rfl) (by kernel_rfl) (by kernel_rfl) (fun _ _ _ h=>h) (Or.inl ⟨by rfl,?_⟩) (by assumption) ?_;rotate_left;(focus (intro w hSw;(try dsimp only at hSw);(try obtain⟨hSw1,hSw2,hSw3⟩:=hSw);go_simp<;>with_reducible rfl));(try simp only[Act.put,List.getElem_toArray,List.getElem_cons_zero,List.getElem_cons_succ,List.setIfInBounds_toArray,List.set_cons_zero,List.set_cons_succ])
    refine wpAnyE_take (i:=1) (v:=?_) rfl (by kernel_rfl) (by kernel_rfl) (by kernel_rfl) (by kernel_rfl) (by kernel_rfl) (fun _ _ _ h=>h) (Or.inl ⟨by rfl,?_⟩) (by assumption) ?_;rotate_left;(focus (intro w hSw;(try dsimp only at hSw);(try obtain⟨hSw1,hSw2,hSw3⟩:=hSw);go_simp<;>with_reducible rfl));(try simp only[Act.put,List.getElem_toArray,List.getElem_cons_zero,List.getElem_cons_succ,List.setIfInBounds_toArray,List.set_cons_zero,List.set_cons_succ])
    refine wpAnyE_take (i:=2) (v:=?_) rfl (by kernel_rfl) (by kernel_rfl) (by kernel_rfl) (by kernel_rfl) (by kernel_rfl) (fun _ _ _ h=>h) (Or.inl ⟨by rfl,?_⟩) (by assumption) ?_;rotate_left;(focus (intro w hSw;(try dsimp only at hSw);(try obtain⟨hSw1,hSw2,hSw3⟩:=hSw);go_simp<;>with_reducible rfl));(try simp only[Act.put,List.getElem_toArray,List.getElem_cons_zero,List.getElem_cons_succ,List.setIfInBounds_toArray,List.set_cons_zero,List.set_cons_succ])
    refine wpAnyE_take (i:=3) (v:=?_) rfl (by kernel_rfl) (by kernel_rfl) (by kernel_rfl) (by kernel_rfl) (by kernel_rfl) (fun _ _ _ h=>h) (Or.inl ⟨by rfl,?_⟩) (by assumption) ?_;rotate_left;(focus (intro w hSw;(try dsimp only at hSw);(try obtain⟨hSw1,hSw2,hSw3⟩:=hSw);go_simp<;>with_reducible rfl));(try simp only[Act.put,List.getElem_toArray,List.getElem_cons_zero,List.getElem_cons_succ,List.setIfInBounds_toArray,List.set_cons_zero,List.set_cons_succ])
    refine wpAnyE_take (i:=4) (v:=.int .i64 3) rfl (by kernel_rfl) (by kernel_rfl) (by kernel_rfl) (by kernel_rfl) (by kernel_rfl) (fun _ _ _ h=>h) (Or.inl ⟨by rfl,fun W _=>by go_simp<;>rfl⟩) (by assumption) ?_
    simp only[Act.put,List.getElem_toArray,List.getElem_cons_zero,List.getElem_cons_succ,List.setIfInBounds_toArray,List.set_cons_zero,List.set_cons_succ]
    refine wpAnyE_take (i:=5) (v:=?_) rfl (by kernel_rfl) (by kernel_rfl) (by kernel_rfl) (by kernel_rfl) (by kernel_rfl) (fun _ _ _ h=>h) (Or.inl ⟨by rfl,?_⟩) (by assumption) ?_;rotate_left;(focus (intro w hSw;(try dsimp only at hSw);(try obtain⟨hSw1,hSw2,hSw3⟩:=hSw);go_simp<;>with_reducible rfl));(try simp only[Act.put,List.getElem_toArray,List.getElem_cons_zero,List.getElem_cons_succ,List.setIfInBounds_toArray,List.set_cons_zero,List.set_cons_succ])
    refine wpAnyE_take (i:=6) (v:=?_) rfl (by kernel_rfl) (by kernel_rfl) (by kernel_rfl) (by kernel_rfl) (by kernel_rfl) (fun _ _ _ h=>h) (Or.inl ⟨by rfl,?_⟩) (by assumption) ?_;rotate_left;(focus (intro w hSw;(try dsimp only at hSw);(try obtain⟨hSw1,hSw2,hSw3⟩:=hSw);go_simp<;>with_reducible rfl));(try simp only[Act.put,List.getElem_toArray,List.getElem_cons_zero,List.getElem_cons_succ,List.setIfInBounds_toArray,List.set_cons_zero,List.set_cons_succ])
    refine wpAnyE_take (i:=8) (v:=?_) rfl (by kernel_rfl) (by kernel_rfl) (by kernel_rfl) (by kernel_rfl) (by kernel_rfl) (fun _ _ _ h=>h) (Or.inl ⟨by rfl,?_⟩) (by assumption) ?_;rotate_left;(focus (intro w hSw;(try dsimp only at hSw);(try obtain⟨hSw1,hSw2,hSw3⟩:=hSw);go_simp<;>with_reducible rfl));(try simp only[Act.put,List.getElem_toArray,List.getElem_cons_zero,List.getElem_cons_succ,List.setIfInBounds_toArray,List.set_cons_zero,List.set_cons_succ])
    refine wpAnyE_take (i:=9) (v:=?_) rfl (by kernel_rfl) (by kernel_rfl) (by kernel_rfl) (by kernel_rfl) (by kernel_rfl) (fun _ _ _ h=>h) (Or.inl ⟨by rfl,?_⟩) (by assumption) ?_;rotate_left;(focus (intro w hSw;(try dsimp only at hSw);(try obtain⟨hSw1,hSw2,hSw3⟩:=hSw);go_simp<;>with_reducible rfl));(try simp only[Act.put,List.getElem_toArray,List.getElem_cons_zero,List.getElem_cons_succ,List.setIfInBounds_toArray,List.set_cons_zero,List.set_cons_succ])
    obtain⟨U,hU,hbU,hzU,hcU⟩:=box8 V.drew (.cells #[.string ⟨#[77,65,88]⟩,.string ⟨#[40]⟩] 9)
    have hbVU:Below V.heap.size V U:=(Below.refl _ V).drew.trans hbU
    refine takeE_value (i:=7) (v:=.slice (some ⟨V.heap.size,0,none⟩) 2 2) (w':=U) (by kernel_rfl) rfl rfl (by rw[← hU];go_simp<;>with_reducible rfl) (HSV.out U hbVU) ?_
    simp only[Act.put,List.getElem_toArray,List.getElem_cons_zero,List.getElem_cons_succ,List.setIfInBounds_toArray,List.set_cons_zero,List.set_cons_succ]
    have HST:StrsW g tb U (.slice (some ⟨V.heap.size,0,none⟩) 2 2) [[77,65,88],[40]]:=by
     have hd:JwAt V.drew g tb L m:=HJV.out.below (Below.refl _ V).drew
     exact StrsW.newJ hd [[77,65,88],[40]] (by simp) (by subst hU;exact Below.refl _ _)
    have HCC:=HAI.out U tb L m _ [[77,65,88],[40]] (HJV.out.below hbVU) (HAV.out.new hbVU) HST (by decide) (by rw[ep];simp[wordsK];omega) (by simp) hm0 hm
    refine takeE_call (i:=10) #[.pointer (some ⟨g,0,none⟩),.slice (some ⟨V.heap.size,0,none⟩) 2 2,.slice aa nn cc] (fun v w'=>v = .tuple #[]∧JWrote g tb U w' (L++partK [x] [[77,65,88],[40]]) (max m D)) (by kernel_rfl) rfl rfl rfl (by kernel_rfl) (enters_of Tryz.func24 (by kernel_rfl) rfl) (HCC.mono fun e w' ⟨h1,h2⟩=>⟨_,h1,rfl,h2⟩) ?_
    rintro _ w1 ⟨rfl,hs1⟩
    have HS1:=hid (JWrote.new HBV.out (JWrote.new hbVU hs1))
    refine ⟨⟨(cells2J ((HS1.out.box HJ.out (Nat.le_refl _) hzW).trans HC0.out)).1,(cells2J ((HS1.out.box HJ.out (Nat.le_refl _) hzW).trans HC0.out)).2.1,(hs1.fr.cell (HSV.out U hbVU).2.2 (fun e=>by
     rcases e with e | e
     ·have e':W.heap.size=g:=e
      have:=HJW.out.lt
      omega
     ·exact Nat.lt_irrefl _ (HJW.out.tbs W.heap.size e).2))⟩,?_⟩
    simp only[Act.put,List.getElem_toArray,List.getElem_cons_zero,List.getElem_cons_succ,List.setIfInBounds_toArray,List.set_cons_zero,List.set_cons_succ]
    refine wpAnyE_done (by kernel_rfl) ?_ _
    show Only _ .normal _ _
    unfold Only
    have hpl:(partK [x] [[77,65,88],[40]]).length=(exK x).length+2:=by rw[ep];simp[wordsK]<;>omega
    generalize partK [x] [[77,65,88],[40]]=P at *
    have HX1:=hid (HS1.out.next (fun tb' h'=>jwords_new g tb' _ _ [[41]] w1 h' (by simp) (by decide) (by simp;omega)))
    clear hs1 HCC HST hbU hcU hbVU hS0 HSV HJV HAV HBV HAI HVE kk
    go_wp2_with fail
    refine HX1.out.mono ?_
    rintro e w2 ⟨rfl,hs2⟩
    have HS2:=hid hs2
    clear hs2 HX1 HS1
    have HQ:=hid (JWrote.new HBW.out HS2.out)
    clear HS2
    rw[HTK.out] at HQ
    go_wp2
    exact bodyPost_end (v:=.tuple #[]) (by simp[results,Tryz.results139,go_sem]) rfl ⟨rfl,HQ.out⟩
end Go.Proofs.YtnidnipiihhnaaaGreatDoor
