/- Packed for the hand-in: RefJP -/
import Derived.Test.YtnidnipiihhnaaaGreatDoorX40
namespace Go.Proofs.YtnidnipiihhnaaaGreatDoor
open Go.RowKit Go.Shelf
set_option linter.unusedSimpArgs false
set_option linter.unusedVariables false
set_option maxRecDepth 20000
set_option maxHeartbeats 8000000
theorem jexprs_new (xs:List Ex) (hx1:xs.length≤1) (hr : ∀x∈xs,rightE x=true) (ts:List (List UInt8)) (hts:ts.length≤1000) (hne : ∀t∈ts,t≠[]) (g:Nat) (tb:Option Nat) (L:List Tk) (m:Int) (w:World) (v:Value) (h:JwAt w g tb L m) (hx:ArgsAt (fun b=>b<g) w xs v)
  (hl:L.length+(partK xs ts).length≤100000000) (hd:exDs xs≤1000000) (hm0:0≤m) (hm1:m≤1000000000) :
  Calls Tryz.prog 24 #[.pointer (some ⟨g,0,none⟩),.slice (some ⟨w.heap.size,0,none⟩) ts.length ts.length,v] (w.alloc (.cells (ts.map fun t=>Value.string (str8 t)).toArray 9)) fun e w'=>e = .returned (.tuple #[])∧JWrote g tb w w' (L++partK xs ts) (max m (exDs xs:Nat)):=by
 have hb:Below w.heap.size w (w.alloc (.cells (ts.map fun t=>Value.string (str8 t)).toArray 9)):=(Below.refl _ _).alloc (Nat.le_refl _) _
 exact (jexprs_any (fun b=>b<g) xs hx1 hr _ ts g tb L m _ v (h.below hb) h.keeps (hx.new hb) (StrsW.newJ h ts hts (Below.refl _ _)) hne hl hts hd hm0 (by omega)).mono fun e w' ⟨h1,h2⟩=>⟨h1,h2.new hb⟩
theorem sepK_ge {α:Type} (f:α→List Tk) (xs:List α):xs.length≤(sepK (fxT [44]) (xs.map f)).length+1:=by
 cases xs with
 | nil=>simp
 |
  cons x l =>
  simp only[List.map_cons,sepK,List.length_append,List.length_cons]
  have : ∀l:List α,l.length≤((l.map f).flatMap fun y=>fxT [44]::y).length:=fun l=>by
   induction l with
   | nil=>simp
   | cons y l ih=>simp only[List.map_cons,List.flatMap_cons,List.length_append,List.length_cons];omega
  have:=this l
  omega
theorem jchoose_any (cols:List Co) (rows:List (List Vl)) (sets:List Se) (items:List It) (on wh gr od:List Ex) (tn prim jn:List UInt8) (desc:Bool) (lim:Int) (a1 a2 a3 a4 a5 a6 a7 a8:Option Addr) (n1 n2 n3 n4 n5 n6 n7 n8 c1 c2 c3 c4 c5 c6 c7 c8:Nat) (g:Nat) (tb:Option Nat) (L:List Tk) (m:Int) (w:World) (h:JwAt w g tb L m)
  (x4:SlAt 2 ItE (fun b=>b<g) w items (.slice a4 n4 c4)) (x5:ArgsAt (fun b=>b<g) w on (.slice a5 n5 c5)) (x6:ArgsAt (fun b=>b<g) w wh (.slice a6 n6 c6)) (x7:ArgsAt (fun b=>b<g) w gr (.slice a7 n7 c7)) (x8:ArgsAt (fun b=>b<g) w od (.slice a8 n8 c8))
  (hb : ∀i∈items,itB i=true) (hon:on.length=joinN jn) (h1on:on.length≤1∧∀x∈on,rightE x=true) (h1wh:wh.length≤1∧∀x∈wh,rightE x=true) (h1gr:gr.length≤1∧∀x∈gr,rightE x=true) (h1od:od.length≤1∧∀x∈od,rightE x=true) (hlim : -1≤lim)
  (hL:L.length+(sepK (fxT [44]) (items.map itK)).length+(partK on [[79,78]]).length+(partK wh [[87,72,69,82,69]]).length+(partK gr [[71,82,79,85,80],[66,89]]).length+(partK od [[79,82,68,69,82],[66,89]]).length+20≤10000000)
  (hdI : ∀i∈items,itD i≤100000) (hdo:exDs on≤100000) (hdw:exDs wh≤100000) (hdg:exDs gr≤100000) (hdd:exDs od≤100000) (hm0:0≤m) (hm:m≤1000000) :
  Calls Tryz.prog 89 #[.pointer (some ⟨g,0,none⟩),.agg #[.int .i64 6,.string (str8 tn),.slice a1 n1 c1,.string (str8 prim),.slice a2 n2 c2,.slice a3 n3 c3,.slice a4 n4 c4,.string (str8 jn),.slice a5 n5 c5,.slice a6 n6 c6,.slice a7 n7 c7,.slice a8 n8 c8,.bool desc,.int .i64 lim]] w fun e w'=>e = .returned (.tuple #[])∧JWrote g tb w w' (L++selK ⟨6,tn,cols,prim,rows,sets,items,jn,on,wh,gr,od,desc,lim⟩) (max m ((max (maxL (items.map itD)) (max (exDs on) (max (exDs wh) (max (exDs gr) (exDs od)))):Nat):Int)):=by
 obtain⟨W,hW,hbW,hzW,hcW⟩:=box8 w (.cells #[.int .i64 6,.string (str8 tn),.slice a1 n1 c1,.string (str8 prim),.slice a2 n2 c2,.slice a3 n3 c3,.slice a4 n4 c4,.string (str8 jn),.slice a5 n5 c5,.slice a6 n6 c6,.slice a7 n7 c7,.slice a8 n8 c8,.bool desc,.int .i64 lim] 42)
 have kk:=cells14 hcW
 have HC0:=hid hcW
 have HBW:=hid hbW
 have HJ:=hid h
 have HJW:=hid (h.below hbW)
 have HS0:=hid ((h.below hbW).here)
 have HSL:=hid (x4.to (by decide) (R:=fun _=>False) (T:=fun b=>b<g) (Spares.of_new hbW) (fun b hb _=>⟨id,hb⟩) (fun _ _ e=>e.to (R:=fun _=>False) (Spares.of_new hbW) (fun b hb _=>⟨id,hb⟩)))
 have HA5:=hid (x5.new hbW)
 have HA6:=hid (x6.new hbW)
 have HA7:=hid (x7.new hbW)
 have HA8:=hid (x8.new hbW)
 have hnl:n4=items.length∧n4≤9223372036854775807:=by
  obtain⟨_,_,_,hf,hl1,hl2,_⟩:=x4
  simp only[Value.slice.injEq] at hf
  unfold maxLen at hl2
  omega
 obtain⟨rfl,hnm⟩:=hnl
 have hdl : ∀k,maxL ((items.take k).map itD)≤100000:=fun k=>maxL_up (fun n hn=>by
  obtain⟨i,hi,rfl⟩:=List.mem_map.1 hn
  exact hdI i (List.mem_of_mem_take hi))
 have HDL:=hid hdl
 obtain⟨T,hT⟩:∃T,L++selK ⟨6,tn,cols,prim,rows,sets,items,jn,on,wh,gr,od,desc,lim⟩=T:=⟨_,rfl⟩
 obtain⟨M,hM⟩:∃M,max m ((max (maxL (items.map itD)) (max (exDs on) (max (exDs wh) (max (exDs gr) (exDs od)))):Nat):Int)=M:=⟨_,rfl⟩
 rw[hT,hM]
 have HT:=hid hT
 have HM0:=hid hM
 clear hT hM h hbW hcW x4 x5 x6 x7 x8 hdl
 go_enter Tryz.func89,Tryz.ntmps89
 have HX0:=hid (HS0.out.next (fun tb' h'=>jwords_new g tb' _ _ [[83,69,76,69,67,84]] W h' (by simp) (by decide) (by simp;omega)))
 go_wp2_with fail
 try rw[hW]
 clear hW kk
 refine HX0.out.mono ?_
 rintro e w1 ⟨rfl,hs1⟩
 have HS1:=hid hs1
 clear hs1 HX0 HS0
 obtain⟨LA,hLA⟩:∃LA,L++wordsK [[83,69,76,69,67,84]]=LA:=⟨_,rfl⟩
 rw[hLA] at HS1
 have hLAl:LA.length=L.length+1:=by rw[← hLA];simp[wordsK]
 have HLA:=hid hLA
 clear hLA
 go_wp2_with fail
 go_loopw [4] (fun i wr=>∃(k:Nat),k≤items.length∧i = .int .i64 k∧JWrote g tb W wr (LA++sepK (fxT [44]) ((items.take k).map itK)) (max m ((maxL ((items.take k).map itD):Nat):Int))) (fun i _=>items.length-(intOf i).toNat)
 case atStart =>
  refine ⟨0,Nat.zero_le _,rfl,?_⟩
  have e:max m ((maxL ((items.take 0).map itD):Nat):Int)=m:=by show max m ((0:Nat):Int)=m;omega
  rw[e]
  simpa [sepK] using HS1.out
 case round =>
  clear HS1
  obtain⟨k,hk,rfl,hq⟩:=hrel
  have kW:=cells14 ((hq.box HJ.out (Nat.le_refl _) hzW).trans HC0.out)
  by_cases hlt:k<items.length
  ·obtain⟨x,hx⟩:∃x,items[k]?=some x:=⟨_,List.getElem?_eq_getElem hlt⟩
   have hlt':((k:Int)<(items.length:Int)):=by omega
   have hxm:=List.mem_of_getElem? hx
   have hst:=sepK_take itK items k x hx
   have hsm:=sepK_mono itK items (k+1)
   have hmt:=maxL_take itD items k x hx
   have hdk:=HDL.out k
   have hdx:=hdI x hxm
   have hbx:=hb x hxm
   have hk8:k≤100000000:=by have:=sepK_ge itK items;omega
   rw[hst,List.length_append,List.length_append] at hsm
   have HST:Hid (LA++sepK (fxT [44]) ((items.take (k+1)).map itK)=LA++sepK (fxT [44]) ((items.take k).map itK)++(if k=0 then [] else [fxT [44]])++itK x):=hid (by rw[hst];simp)
   have HMT:Hid (max m ((maxL ((items.take (k+1)).map itD):Nat):Int)=max (max m ((maxL ((items.take k).map itD):Nat):Int)) ((itD x:Nat):Int)):=hid (by rw[hmt];omega)
   have hLL:(LA++sepK (fxT [44]) ((items.take k).map itK)).length+(if k=0 then ([]:List Tk) else [fxT [44]]).length+(itK x).length≤10000000:=by rw[List.length_append];omega
   have hif:(if k=0 then ([]:List Tk) else [fxT [44]]).length≤1:=by split<;>simp
   have hMMb:max m ((maxL ((items.take k).map itD):Nat):Int)≤1000000∧0≤max m ((maxL ((items.take k).map itD):Nat):Int):=by omega
   generalize LA++sepK (fxT [44]) ((items.take k).map itK)=LL at hq hLL HST
   generalize max m ((maxL ((items.take k).map itD):Nat):Int)=MM at hq HMT hMMb
   have hLL1:LL.length+1≤1000000000:=by omega
   have HS0:=hid hq
   have HX0:=hid (HS0.out.next (fun tb' h'=>jcomma_any g tb' _ _ k hk8 wr h' hLL1))
   have HXK:=hid hx
   clear hq hx hst hsm hmt hdk
   go_wp2_with fail
   refine HX0.out.mono ?_
   rintro e w1 ⟨rfl,hs1⟩
   have HS1:=hid hs1
   have kk:=cells14 ((hs1.box HJ.out (Nat.le_refl _) hzW).trans HC0.out)
   obtain⟨_,_,_,b,off,cs,rfl,_,hel,hcell⟩:=sl_get (HSL.out.to (T:=fun b=>b<g) (by decide) hs1.fr (fun b hb _=>⟨HJW.out.keeps b hb,hb⟩) (fun _ _ e=>e.to hs1.fr (fun b hb _=>⟨HJW.out.keeps b hb,hb⟩))) (show items[k]?=some x from HXK.out)
   have hel0:=hel
   obtain⟨aa1,nn1,cc1,rfl,_⟩:=hel
   have q0:=hcell 0 _ rfl
   have q1:=hcell 1 _ rfl
   simp only[Nat.add_zero] at q0
   have HX1:=hid (HS1.out.next (fun tb' h'=>jitem_any x hbx _ g tb' _ _ w1 h' hel0 (by rw[List.length_append];omega) hdx hMMb.2 (by omega)))
   clear hs1 HX0 HS0 hcell hel0
   go_wp2_with fail
   refine HX1.out.mono ?_
   rintro e w2 ⟨rfl,hs2⟩
   have HQ:=hid hs2
   rw[← HST.out,← HMT.out] at HQ
   clear hs2 HX1 HS1
   go_wp2
   go_roundw
   case rel=>exact⟨k+1,by omega,by go_num,HQ.out⟩
   case measure=>simp[intOf];omega
  ·have hlt' : ¬((k:Int)<(items.length:Int)):=by omega
   have HS1:Hid (JWrote g tb W wr (LA++sepK (fxT [44]) (items.map itK)) (max m ((maxL (items.map itD):Nat):Int))):=hid (by rw[List.take_of_length_le (by omega)] at hq;exact hq)
   have kk:=kW
   have hDIl:maxL (items.map itD)≤100000:=by have:=HDL.out items.length;rwa [List.take_of_length_le (Nat.le_refl _)] at this
   obtain⟨SI,hSI⟩:∃SI,sepK (fxT [44]) (items.map itK)=SI:=⟨_,rfl⟩
   obtain⟨DI,hDI⟩:∃DI,maxL (items.map itD)=DI:=⟨_,rfl⟩
   rw[hSI] at HS1 hL
   rw[hDI] at HS1 hDIl
   have HM:Hid (max m ((max DI (max (exDs on) (max (exDs wh) (max (exDs gr) (exDs od)))):Nat):Int)=M):=hid (by rw[← hDI];exact HM0.out)
   have HSI:=hid hSI
   clear hq hSI hDI HM0 HSL hdI hb HDL kW
   have HX1:=hid (HS1.out.next (fun tb' h'=>jwords_new g tb' _ _ [[70,82,79,77]] wr h' (by simp) (by decide) (by simp[wordsK];omega)))
   go_wp2_with fail
   refine HX1.out.mono ?_
   rintro e w2 ⟨rfl,hs2⟩
   have HS2:=hid hs2
   have kk:=cells14 ((HS2.out.box HJ.out (Nat.le_refl _) hzW).trans HC0.out)
   clear hs2 HX1
   have HX2:=hid (HS2.out.next (fun tb' h'=>jwname_any g tb' _ _ tn w2 h' (by simp[wordsK];omega)))
   go_wp2_with fail
   refine HX2.out.mono ?_
   rintro e w3 ⟨rfl,hs3⟩
   have HS3:=hid hs3
   have kk:=cells14 ((HS3.out.box HJ.out (Nat.le_refl _) hzW).trans HC0.out)
   clear hs3 HX2
   by_cases hj:jn=[]
   ·have hjb:(str8 jn).toList.isEmpty=true:=by rw[str8_empty,decide_eq_true hj]
    have hon0:on=[]:=List.eq_nil_of_length_eq_zero (by rw[hon];unfold joinN;rw[if_pos hj])
    subst hon0 hj
    clear hon
    have ka:=fun o=>cells14 ((((Below.refl _ w3).alloc (Nat.le_refl _) o).block w.heap.size (Nat.lt_of_lt_of_le hzW HS3.out.size)).trans ((HS3.out.box HJ.out (Nat.le_refl _) hzW).trans HC0.out))
    have HX3:=hid (HS3.out.next (fun tb' h'=>jexprs_new wh h1wh.1 h1wh.2 [[87,72,69,82,69]] (by simp) (by decide) g tb' _ _ w3 (.slice a6 n6 c6) h' (HA6.out.to HS3.out.fr (fun b hb _=>⟨HJW.out.keeps b hb,hb⟩)) (by simp[wordsK];omega) (by omega) (by omega) (by omega)))
    go_wp2_with fail
    refine HX3.out.mono ?_
    rintro e w4 ⟨rfl,hs4⟩
    have HS4:=hid hs4
    have kk:=cells14 ((HS4.out.box HJ.out (Nat.le_refl _) hzW).trans HC0.out)
    clear hs4 HX3 ka
    have ka:=fun o=>cells14 ((((Below.refl _ w4).alloc (Nat.le_refl _) o).block w.heap.size (Nat.lt_of_lt_of_le hzW HS4.out.size)).trans ((HS4.out.box HJ.out (Nat.le_refl _) hzW).trans HC0.out))
    have HX4:=hid (HS4.out.next (fun tb' h'=>jexprs_new gr h1gr.1 h1gr.2 [[71,82,79,85,80],[66,89]] (by simp) (by decide) g tb' _ _ w4 (.slice a7 n7 c7) h' (HA7.out.to HS4.out.fr (fun b hb _=>⟨HJW.out.keeps b hb,hb⟩)) (by simp[wordsK];omega) (by omega) (by omega) (by omega)))
    go_wp2_with fail
    refine HX4.out.mono ?_
    rintro e w5 ⟨rfl,hs5⟩
    have HS5:=hid hs5
    have kk:=cells14 ((HS5.out.box HJ.out (Nat.le_refl _) hzW).trans HC0.out)
    clear hs5 HX4 ka
    have ka:=fun o=>cells14 ((((Below.refl _ w5).alloc (Nat.le_refl _) o).block w.heap.size (Nat.lt_of_lt_of_le hzW HS5.out.size)).trans ((HS5.out.box HJ.out (Nat.le_refl _) hzW).trans HC0.out))
    have HX5:=hid (HS5.out.next (fun tb' h'=>jexprs_new od h1od.1 h1od.2 [[79,82,68,69,82],[66,89]] (by simp) (by decide) g tb' _ _ w5 (.slice a8 n8 c8) h' (HA8.out.to HS5.out.fr (fun b hb _=>⟨HJW.out.keeps b hb,hb⟩)) (by simp[wordsK];omega) (by omega) (by omega) (by omega)))
    go_wp2_with fail
    refine HX5.out.mono ?_
    rintro e w6 ⟨rfl,hs6⟩
    have HS6:=hid hs6
    have kk:=cells14 ((HS6.out.box HJ.out (Nat.le_refl _) hzW).trans HC0.out)
    clear hs6 HX5 ka
    cases desc with
    |
     true =>
     have HX6:=hid (HS6.out.next (fun tb' h'=>jwords_new g tb' _ _ [[68,69,83,67]] w6 h' (by simp) (by decide) (by simp[wordsK];omega)))
     go_wp2_with fail
     refine HX6.out.mono ?_
     rintro e w7 ⟨rfl,hs7⟩
     have HS7:=hid hs7
     have kk:=cells14 ((HS7.out.box HJ.out (Nat.le_refl _) hzW).trans HC0.out)
     clear hs7 HX6
     by_cases hl:0≤lim
     ·have hl1 : ¬lim = -1:=by omega
      have HX7:=hid (HS7.out.next (fun tb' h'=>jwords_new g tb' _ _ [[76,73,77,73,84]] w7 h' (by simp) (by decide) (by simp[wordsK];omega)))
      go_wp2_with fail
      refine HX7.out.mono ?_
      rintro e w8 ⟨rfl,hs8⟩
      have HS8:=hid hs8
      have kk:=cells14 ((HS8.out.box HJ.out (Nat.le_refl _) hzW).trans HC0.out)
      clear hs8 HX7
      obtain⟨tb1,hj1,ht1,hf1⟩:=HS8.out
      have HT1:=hid ht1
      have HF1:=hid hf1
      have hgW:g<w8.heap.size:=hj1.lt
      have HJ1:=hid hj1
      have hbx:=(HS8.out.box HJ.out (Nat.le_refl _) hzW).trans HC0.out
      have hbl:w.heap.size<w8.heap.size:=Nat.lt_of_lt_of_le hzW HS8.out.size
      obtain⟨lv,hlv,hlo,htb⟩:=id hj1
      obtain⟨la,lb,lc,rfl⟩:∃la lb lc,lv = .slice la lb lc:=by
       rcases hlo.2 with⟨rfl,_⟩ | ⟨_,_,_,rfl,_⟩
       ·exact⟨_,_,_,rfl⟩
       ·exact⟨_,_,_,rfl⟩
      obtain⟨LL,hLL⟩:∃LL,LA++SI++wordsK [[70,82,79,77]]++[nmT tn]++partK wh [[87,72,69,82,69]]++partK gr [[71,82,79,85,80],[66,89]]++partK od [[79,82,68,69,82],[66,89]]++wordsK [[68,69,83,67]]++wordsK [[76,73,77,73,84]]=LL:=⟨_,rfl⟩
      obtain⟨MM,hMM⟩:∃MM,max (max (max (max m ((DI:Nat):Int)) ((exDs wh:Nat):Int)) ((exDs gr:Nat):Int)) ((exDs od:Nat):Int)=MM:=⟨_,rfl⟩
      rw[hLL] at hlo HJ1
      rw[hMM] at hlv HJ1
      have hLLl:LL.length+1≤1000000000:=by rw[← hLL];simp[wordsK];omega
      have HLL:=hid hLL.symm
      have HMM:=hid hMM.symm
      clear hLL hMM
      have HGV:=hid hlv
      have HRW:Hid (Row (g+1) w8 (.slice la lb lc) LL):=hid hlo
      have HTB:=hid htb
      have htbb:tb1≠some w.heap.size:=fun e=>by
       rcases ht1 _ e with e | e
       ·exact Nat.lt_irrefl _ (HJ.out.tbs _ e).2
       ·omega
      have HSK:Hid (∀V,Below w8.heap.size w8 V→(fun V:World=>V.cell? ⟨g,0,none⟩=some (.slice la lb lc)∧V.cell? ⟨w.heap.size,13,none⟩=some (.int .i64 lim)∧True) V):=hid (fun V hV=>⟨(cells2J ((hV.block g hgW).trans HGV.out)).1,(cells14 ((hV.block w.heap.size hbl).trans hbx)).2.2.2.2.2.2.2.2.2.2.2.2.2,trivial⟩)
      have HS3:Hid (∀(V U:World),Below w8.heap.size w8 U→U.grownBy V (Value.slice la lb lc).ownBlock→V.heap[g]?=some (.cells #[.slice la lb lc,.int .i64 MM] 64)→(fun V:World=>V.cell? ⟨g,0,none⟩=some (.slice la lb lc)∧V.cell? ⟨w.heap.size,13,none⟩=some (.int .i64 lim)∧True) V):=hid (fun V U hU hg hV=>⟨(cells2J hV).1,(hg.cell_far ⟨w.heap.size,13,none⟩ (Nat.lt_of_lt_of_le hbl hU.size) (fun e=>htbb (HTB.out.symm.trans e.symm))).trans (HSK.out U hU).2.1,trivial⟩)
      clear ht1 hf1 hj1 hlv hlo htb hbx htbb
      have hS0:=HSK.out w8.drew (Below.refl _ w8).drew
      go_wp2_with fail
      refine last_region (fun V:World=>V.cell? ⟨g,0,none⟩=some (.slice la lb lc)∧V.cell? ⟨w.heap.size,13,none⟩=some (.int .i64 lim)∧True) 12 (by kernel_rfl) ?_
      refine wpAnyE_take (i:=0) (v:=?_) rfl (by kernel_rfl) (by kernel_rfl) (by kernel_rfl) (by kernel_rfl) (by kernel_rfl) (fun _ _ _ h=>h) (Or.inl ⟨by rfl,?_⟩) (by assumption) ?_;rotate_left;(focus (intro w hSw;(try dsimp only at hSw);(try obtain⟨hSw1,hSw2,hSw3⟩:=hSw);go_simp<;>with_reducible rfl));(try simp only[Act.put,List.getElem_toArray,List.getElem_cons_zero,List.getElem_cons_succ,List.setIfInBounds_toArray,List.set_cons_zero,List.set_cons_succ])
      refine wpAnyE_take (i:=1) (v:=?_) rfl (by kernel_rfl) (by kernel_rfl) (by kernel_rfl) (by kernel_rfl) (by kernel_rfl) (fun _ _ _ h=>h) (Or.inl ⟨by rfl,?_⟩) (by assumption) ?_;rotate_left;(focus (intro w hSw;(try dsimp only at hSw);(try obtain⟨hSw1,hSw2,hSw3⟩:=hSw);go_simp<;>with_reducible rfl));(try simp only[Act.put,List.getElem_toArray,List.getElem_cons_zero,List.getElem_cons_succ,List.setIfInBounds_toArray,List.set_cons_zero,List.set_cons_succ])
      refine wpAnyE_take (i:=2) (v:=?_) rfl (by kernel_rfl) (by kernel_rfl) (by kernel_rfl) (by kernel_rfl) (by kernel_rfl) (fun _ _ _ h=>h) (Or.inl ⟨by rfl,?_⟩) (by assumption) ?_;rotate_left;(focus (intro w hSw;(try dsimp only at hSw);(try obtain⟨hSw1,hSw2,hSw3⟩:=hSw);go_simp<;>with_reducible rfl));(try simp only[Act.put,List.getElem_toArray,List.getElem_cons_zero,List.getElem_cons_succ,List.setIfInBounds_toArray,List.set_cons_zero,List.set_cons_succ])
      refine wpAnyE_take (i:=3) (v:=?_) rfl (by kernel_rfl) (by kernel_rfl) (by kernel_rfl) (by kernel_rfl) (by kernel_rfl) (fun _ _ _ h=>h) (Or.inl ⟨by rfl,?_⟩) (by assumption) ?_;rotate_left;(focus (intro w hSw;(try dsimp only at hSw);(try obtain⟨hSw1,hSw2,hSw3⟩:=hSw);go_simp<;>with_reducible rfl));(try simp only[Act.put,List.getElem_toArray,List.getElem_cons_zero,List.getElem_cons_succ,List.setIfInBounds_toArray,List.set_cons_zero,List.set_cons_succ])
      refine wpAnyE_take (i:=4) (v:=?_) rfl (by kernel_rfl) (by kernel_rfl) (by kernel_rfl) (by kernel_rfl) (by kernel_rfl) (fun _ _ _ h=>h) (Or.inl ⟨by rfl,?_⟩) (by assumption) ?_;rotate_left;(focus (intro w hSw;(try dsimp only at hSw);(try obtain⟨hSw1,hSw2,hSw3⟩:=hSw);go_simp<;>with_reducible rfl));(try simp only[Act.put,List.getElem_toArray,List.getElem_cons_zero,List.getElem_cons_succ,List.setIfInBounds_toArray,List.set_cons_zero,List.set_cons_succ])
      refine wpAnyE_take (i:=5) (v:=?_) rfl (by kernel_rfl) (by kernel_rfl) (by kernel_rfl) (by kernel_rfl) (by kernel_rfl) (fun _ _ _ h=>h) (Or.inl ⟨by rfl,?_⟩) (by assumption) ?_;rotate_left;(focus (intro w hSw;(try dsimp only at hSw);(try obtain⟨hSw1,hSw2,hSw3⟩:=hSw);go_simp<;>with_reducible rfl));(try simp only[Act.put,List.getElem_toArray,List.getElem_cons_zero,List.getElem_cons_succ,List.setIfInBounds_toArray,List.set_cons_zero,List.set_cons_succ])
      refine wpAnyE_take (i:=6) (v:=?_) rfl (by kernel_rfl) (by kernel_rfl) (by kernel_rfl) (by kernel_rfl) (by kernel_rfl) (fun _ _ _ h=>h) (Or.inl ⟨by rfl,?_⟩) (by assumption) ?_;rotate_left;(focus (intro w hSw;(try dsimp only at hSw);(try obtain⟨hSw1,hSw2,hSw3⟩:=hSw);go_simp<;>with_reducible rfl));(try simp only[Act.put,List.getElem_toArray,List.getElem_cons_zero,List.getElem_cons_succ,List.setIfInBounds_toArray,List.set_cons_zero,List.set_cons_succ])
      refine takeE_build (i:=7) [(0,.int .i64 3),(2,.int .i64 lim)] #[.int .i64 3,.string ⟨#[]⟩,.int .i64 lim,.int .i64 0] (by kernel_rfl) rfl rfl rfl (by kernel_rfl) (by kernel_rfl) hS0 ?_
      simp only[Act.put,List.getElem_toArray,List.getElem_cons_zero,List.getElem_cons_succ,List.setIfInBounds_toArray,List.set_cons_zero,List.set_cons_succ]
      obtain⟨U,hU,hbU,hzU,_,htkU⟩:=new_toks w8.drew [nuT lim] #[.int .i64 3,.string ⟨#[]⟩,.int .i64 lim,.int .i64 0] (by rfl) (by simp)
      have hbWU:Below w8.heap.size w8 U:=(Below.refl _ w8).drew.trans hbU
      obtain⟨i0,hi,hz0,hz1,hz2⟩:=info_parts Tryz.infoTok
      refine takeE_slice (i:=8) #[.int .i64 3,.string ⟨#[]⟩,.int .i64 lim,.int .i64 0] i0 _ (by kernel_rfl) rfl rfl rfl (by kernel_rfl) Tryz.underlying55 hi hz0 (by rw[hz1];rfl) (by show 4≤2 ^ 24;decide) (by show 0<4;decide) (by rw[hU];exact HSK.out U hbWU) ?_
      simp only[Act.put,List.getElem_toArray,List.getElem_cons_zero,List.getElem_cons_succ,List.setIfInBounds_toArray,List.set_cons_zero,List.set_cons_succ]
      rw[hU]
      have hownU:U.ownsRow (g+1) 119 4 (.slice la lb lc) LL.length (tcs LL):=HRW.out.on hbWU
      have hgU:g+1≤U.heap.size:=by have:=hbWU.size;omega
      refine takeE_append (i:=9) (s:=.tmp 77) (x:=.tmp 81) (t:=55) (by kernel_rfl) rfl rfl rfl (g+1) 119 i0 _ 4 40 Tryz.underlying55 hi hz0 hz1 hz2 rfl (by decide) (.slice la lb lc) LL.length (tcs LL) (by kernel_rfl) hownU ⟨w8.heap.size,0,none⟩ 1 1 (tcs [nuT lim]) (by kernel_rfl) (by rw[tcs_length];rfl) htkU (tcs_one _) (by decide) (by unfold maxLen;omega) (by omega) hgU ?_
      intro gg cap W3 hown3 hgrow hat hgl3
      have hV3:W3.heap[g]?=some (.cells #[.slice la lb lc,.int .i64 MM] 64):=(hgrow.block g (by omega) (fun e=>by have:=(hownU.lt g e.symm).1;omega)).trans ((hbWU.block g hgW).trans HGV.out)
      have k3:=cells2J hV3
      have hS3:(fun V:World=>V.cell? ⟨g,0,none⟩=some (.slice la lb lc)∧V.cell? ⟨w.heap.size,13,none⟩=some (.int .i64 lim)∧True) W3:=HS3.out W3 U hbWU hgrow hV3
      have HZ:Hid (JWrote g tb1 w8 (W3.setCell ⟨g,0,none⟩ (.slice (some ⟨gg,0,none⟩) (LL.length+1) cap)) (LL++[nuT lim]) MM):=hid (jw_set0 HJ1.out hV3 (by
       show W3.ownsRow (g+1) 119 4 _ (LL++[nuT lim]).length (tcs (LL++[nuT lim]))
       rw[List.length_append,tcs_app]
       exact hown3) ((Spares.of_new hbWU).then (Spares.of_grown hgrow (fun k hk=>.inr (HTB.out ▸ hk)))) (by
       rcases hat with e | e
       ·exact .inl (e.symm.trans HTB.out)
       ·exact .inr ⟨gg,rfl,by rw[e];exact hbWU.size⟩))
      refine ⟨hS3,?_⟩
      simp only[Act.put,List.getElem_toArray,List.getElem_cons_zero,List.getElem_cons_succ,List.setIfInBounds_toArray,List.set_cons_zero,List.set_cons_succ]
      refine wpAnyE_take (i:=10) (v:=?_) rfl (by kernel_rfl) (by kernel_rfl) (by kernel_rfl) (by kernel_rfl) (by kernel_rfl) (fun _ _ _ h=>h) (Or.inl ⟨by rfl,?_⟩) (by assumption) ?_;rotate_left;(focus (intro w hSw;(try dsimp only at hSw);(try obtain⟨hSw1,hSw2,hSw3⟩:=hSw);go_simp<;>with_reducible rfl));(try simp only[Act.put,List.getElem_toArray,List.getElem_cons_zero,List.getElem_cons_succ,List.setIfInBounds_toArray,List.set_cons_zero,List.set_cons_succ])
      refine wpAnyE_take (i:=11) (v:=?_) rfl (by kernel_rfl) (by kernel_rfl) (by kernel_rfl) (by kernel_rfl) (by kernel_rfl) (fun _ _ _ h=>h) (Or.inl ⟨by rfl,?_⟩) (by assumption) ?_;rotate_left;(focus (intro w hSw;(try dsimp only at hSw);(try obtain⟨hSw1,hSw2,hSw3⟩:=hSw);go_simp<;>with_reducible rfl));(try simp only[Act.put,List.getElem_toArray,List.getElem_cons_zero,List.getElem_cons_succ,List.setIfInBounds_toArray,List.set_cons_zero,List.set_cons_succ])
      refine takeE_store (i:=12) (pi:=⟨g,0,none⟩) (v:=.slice (some ⟨gg,0,none⟩) (LL.length+1) cap) Tryz.infoToks (by kernel_rfl) rfl rfl rfl rfl (by kernel_rfl) (by kernel_rfl) rfl rfl k3.1 (k3.2.2 0) (.inr rfl) ?_
      refine wpAnyE_done (by kernel_rfl) ?_ _
      show Only _ .normal _ _
      unfold Only
      have HS9:=hid (JWrote.then HT1.out HF1.out HZ.out)
      generalize W3.setCell ⟨g,0,none⟩ (.slice (some ⟨gg,0,none⟩) (LL.length+1) cap)=w9 at HS9 ⊢
      rw[HLL.out,HMM.out] at HS9
      clear hown3 hgrow hat hownU hS3 hbU hbWU htkU k3 hV3 hi hz0 hz1 hz2 HZ HSK HS3 HRW HGV HTB HJ1 HT1 HF1
      have HQ:Hid (JWrote g tb w w9 T M):=hid (by
       have h9:=JWrote.new HBW.out HS9.out
       rw[← HT.out,← HM.out]
       have hmm:max (max (max (max m ((DI:Nat):Int)) ((exDs wh:Nat):Int)) ((exDs gr:Nat):Int)) ((exDs od:Nat):Int)=max m ((max DI (max (exDs []) (max (exDs wh) (max (exDs gr) (exDs od)))):Nat):Int):=by show _=max m ((max DI (max 0 (max (exDs wh) (max (exDs gr) (exDs od)))):Nat):Int);omega
       rw[hmm,← HLA.out,← HSI.out] at h9
       simpa [selK,wordsK,show partK ([]:List Ex) [[79,78]]=[] from rfl,hl1] using h9)
      clear HS9
      go_wp2
      exact bodyPost_end (v:=.tuple #[]) (by simp[results,Tryz.results89,go_sem]) rfl ⟨rfl,HQ.out⟩
     ·have hl1:lim = -1:=by omega
      subst hl1
      have HQ:Hid (JWrote g tb w w7 T M):=hid (by
       have h9:=JWrote.new HBW.out HS7.out
       rw[← HT.out,← HM.out]
       have hmm:max (max (max (max m ((DI:Nat):Int)) ((exDs wh:Nat):Int)) ((exDs gr:Nat):Int)) ((exDs od:Nat):Int)=max m ((max DI (max (exDs []) (max (exDs wh) (max (exDs gr) (exDs od)))):Nat):Int):=by show _=max m ((max DI (max 0 (max (exDs wh) (max (exDs gr) (exDs od)))):Nat):Int);omega
       rw[hmm,← HLA.out,← HSI.out] at h9
       simpa [selK,wordsK,show partK ([]:List Ex) [[79,78]]=[] from rfl] using h9)
      clear HS7
      go_wp2
      exact bodyPost_end (v:=.tuple #[]) (by simp[results,Tryz.results89,go_sem]) rfl ⟨rfl,HQ.out⟩
    |
     false =>
     by_cases hl:0≤lim
     ·have hl1 : ¬lim = -1:=by omega
      have HX6:=hid (HS6.out.next (fun tb' h'=>jwords_new g tb' _ _ [[76,73,77,73,84]] w6 h' (by simp) (by decide) (by simp[wordsK];omega)))
      go_wp2_with fail
      refine HX6.out.mono ?_
      rintro e w7 ⟨rfl,hs7⟩
      have HS7:=hid hs7
      have kk:=cells14 ((HS7.out.box HJ.out (Nat.le_refl _) hzW).trans HC0.out)
      clear hs7 HX6
      obtain⟨tb1,hj1,ht1,hf1⟩:=HS7.out
      have HT1:=hid ht1
      have HF1:=hid hf1
      have hgW:g<w7.heap.size:=hj1.lt
      have HJ1:=hid hj1
      have hbx:=(HS7.out.box HJ.out (Nat.le_refl _) hzW).trans HC0.out
      have hbl:w.heap.size<w7.heap.size:=Nat.lt_of_lt_of_le hzW HS7.out.size
      obtain⟨lv,hlv,hlo,htb⟩:=id hj1
      obtain⟨la,lb,lc,rfl⟩:∃la lb lc,lv = .slice la lb lc:=by
       rcases hlo.2 with⟨rfl,_⟩ | ⟨_,_,_,rfl,_⟩
       ·exact⟨_,_,_,rfl⟩
       ·exact⟨_,_,_,rfl⟩
      obtain⟨LL,hLL⟩:∃LL,LA++SI++wordsK [[70,82,79,77]]++[nmT tn]++partK wh [[87,72,69,82,69]]++partK gr [[71,82,79,85,80],[66,89]]++partK od [[79,82,68,69,82],[66,89]]++wordsK [[76,73,77,73,84]]=LL:=⟨_,rfl⟩
      obtain⟨MM,hMM⟩:∃MM,max (max (max (max m ((DI:Nat):Int)) ((exDs wh:Nat):Int)) ((exDs gr:Nat):Int)) ((exDs od:Nat):Int)=MM:=⟨_,rfl⟩
      rw[hLL] at hlo HJ1
      rw[hMM] at hlv HJ1
      have hLLl:LL.length+1≤1000000000:=by rw[← hLL];simp[wordsK];omega
      have HLL:=hid hLL.symm
      have HMM:=hid hMM.symm
      clear hLL hMM
      have HGV:=hid hlv
      have HRW:Hid (Row (g+1) w7 (.slice la lb lc) LL):=hid hlo
      have HTB:=hid htb
      have htbb:tb1≠some w.heap.size:=fun e=>by
       rcases ht1 _ e with e | e
       ·exact Nat.lt_irrefl _ (HJ.out.tbs _ e).2
       ·omega
      have HSK:Hid (∀V,Below w7.heap.size w7 V→(fun V:World=>V.cell? ⟨g,0,none⟩=some (.slice la lb lc)∧V.cell? ⟨w.heap.size,13,none⟩=some (.int .i64 lim)∧True) V):=hid (fun V hV=>⟨(cells2J ((hV.block g hgW).trans HGV.out)).1,(cells14 ((hV.block w.heap.size hbl).trans hbx)).2.2.2.2.2.2.2.2.2.2.2.2.2,trivial⟩)
      have HS3:Hid (∀(V U:World),Below w7.heap.size w7 U→U.grownBy V (Value.slice la lb lc).ownBlock→V.heap[g]?=some (.cells #[.slice la lb lc,.int .i64 MM] 64)→(fun V:World=>V.cell? ⟨g,0,none⟩=some (.slice la lb lc)∧V.cell? ⟨w.heap.size,13,none⟩=some (.int .i64 lim)∧True) V):=hid (fun V U hU hg hV=>⟨(cells2J hV).1,(hg.cell_far ⟨w.heap.size,13,none⟩ (Nat.lt_of_lt_of_le hbl hU.size) (fun e=>htbb (HTB.out.symm.trans e.symm))).trans (HSK.out U hU).2.1,trivial⟩)
      clear ht1 hf1 hj1 hlv hlo htb hbx htbb
      have hS0:=HSK.out w7.drew (Below.refl _ w7).drew
      go_wp2_with fail
      refine last_region (fun V:World=>V.cell? ⟨g,0,none⟩=some (.slice la lb lc)∧V.cell? ⟨w.heap.size,13,none⟩=some (.int .i64 lim)∧True) 12 (by kernel_rfl) ?_
      refine wpAnyE_take (i:=0) (v:=?_) rfl (by kernel_rfl) (by kernel_rfl) (by kernel_rfl) (by kernel_rfl) (by kernel_rfl) (fun _ _ _ h=>h) (Or.inl ⟨by rfl,?_⟩) (by assumption) ?_;rotate_left;(focus (intro w hSw;(try dsimp only at hSw);(try obtain⟨hSw1,hSw2,hSw3⟩:=hSw);go_simp<;>with_reducible rfl));(try simp only[Act.put,List.getElem_toArray,List.getElem_cons_zero,List.getElem_cons_succ,List.setIfInBounds_toArray,List.set_cons_zero,List.set_cons_succ])
      refine wpAnyE_take (i:=1) (v:=?_) rfl (by kernel_rfl) (by kernel_rfl) (by kernel_rfl) (by kernel_rfl) (by kernel_rfl) (fun _ _ _ h=>h) (Or.inl ⟨by rfl,?_⟩) (by assumption) ?_;rotate_left;(focus (intro w hSw;(try dsimp only at hSw);(try obtain⟨hSw1,hSw2,hSw3⟩:=hSw);go_simp<;>with_reducible rfl));(try simp only[Act.put,List.getElem_toArray,List.getElem_cons_zero,List.getElem_cons_succ,List.setIfInBounds_toArray,List.set_cons_zero,List.set_cons_succ])
      refine wpAnyE_take (i:=2) (v:=?_) rfl (by kernel_rfl) (by kernel_rfl) (by kernel_rfl) (by kernel_rfl) (by kernel_rfl) (fun _ _ _ h=>h) (Or.inl ⟨by rfl,?_⟩) (by assumption) ?_;rotate_left;(focus (intro w hSw;(try dsimp only at hSw);(try obtain⟨hSw1,hSw2,hSw3⟩:=hSw);go_simp<;>with_reducible rfl));(try simp only[Act.put,List.getElem_toArray,List.getElem_cons_zero,List.getElem_cons_succ,List.setIfInBounds_toArray,List.set_cons_zero,List.set_cons_succ])
      refine wpAnyE_take (i:=3) (v:=?_) rfl (by kernel_rfl) (by kernel_rfl) (by kernel_rfl) (by kernel_rfl) (by kernel_rfl) (fun _ _ _ h=>h) (Or.inl ⟨by rfl,?_⟩) (by assumption) ?_;rotate_left;(focus (intro w hSw;(try dsimp only at hSw);(try obtain⟨hSw1,hSw2,hSw3⟩:=hSw);go_simp<;>with_reducible rfl));(try simp only[Act.put,List.getElem_toArray,List.getElem_cons_zero,List.getElem_cons_succ,List.setIfInBounds_toArray,List.set_cons_zero,List.set_cons_succ])
      refine wpAnyE_take (i:=4) (v:=?_) rfl (by kernel_rfl) (by kernel_rfl) (by kernel_rfl) (by kernel_rfl) (by kernel_rfl) (fun _ _ _ h=>h) (Or.inl ⟨by rfl,?_⟩) (by assumption) ?_;rotate_left;(focus (intro w hSw;(try dsimp only at hSw);(try obtain⟨hSw1,hSw2,hSw3⟩:=hSw);go_simp<;>with_reducible rfl));(try simp only[Act.put,List.getElem_toArray,List.getElem_cons_zero,List.getElem_cons_succ,List.setIfInBounds_toArray,List.set_cons_zero,List.set_cons_succ])
      refine wpAnyE_take (i:=5) (v:=?_) rfl (by kernel_rfl) (by kernel_rfl) (by kernel_rfl) (by kernel_rfl) (by kernel_rfl) (fun _ _ _ h=>h) (Or.inl ⟨by rfl,?_⟩) (by assumption) ?_;rotate_left;(focus (intro w hSw;(try dsimp only at hSw);(try obtain⟨hSw1,hSw2,hSw3⟩:=hSw);go_simp<;>with_reducible rfl));(try simp only[Act.put,List.getElem_toArray,List.getElem_cons_zero,List.getElem_cons_succ,List.setIfInBounds_toArray,List.set_cons_zero,List.set_cons_succ])
      refine wpAnyE_take (i:=6) (v:=?_) rfl (by kernel_rfl) (by kernel_rfl) (by kernel_rfl) (by kernel_rfl) (by kernel_rfl) (fun _ _ _ h=>h) (Or.inl ⟨by rfl,?_⟩) (by assumption) ?_;rotate_left;(focus (intro w hSw;(try dsimp only at hSw);(try obtain⟨hSw1,hSw2,hSw3⟩:=hSw);go_simp<;>with_reducible rfl));(try simp only[Act.put,List.getElem_toArray,List.getElem_cons_zero,List.getElem_cons_succ,List.setIfInBounds_toArray,List.set_cons_zero,List.set_cons_succ])
      refine takeE_build (i:=7) [(0,.int .i64 3),(2,.int .i64 lim)] #[.int .i64 3,.string ⟨#[]⟩,.int .i64 lim,.int .i64 0] (by kernel_rfl) rfl rfl rfl (by kernel_rfl) (by kernel_rfl) hS0 ?_
      simp only[Act.put,List.getElem_toArray,List.getElem_cons_zero,List.getElem_cons_succ,List.setIfInBounds_toArray,List.set_cons_zero,List.set_cons_succ]
      obtain⟨U,hU,hbU,hzU,_,htkU⟩:=new_toks w7.drew [nuT lim] #[.int .i64 3,.string ⟨#[]⟩,.int .i64 lim,.int .i64 0] (by rfl) (by simp)
      have hbWU:Below w7.heap.size w7 U:=(Below.refl _ w7).drew.trans hbU
      obtain⟨i0,hi,hz0,hz1,hz2⟩:=info_parts Tryz.infoTok
      refine takeE_slice (i:=8) #[.int .i64 3,.string ⟨#[]⟩,.int .i64 lim,.int .i64 0] i0 _ (by kernel_rfl) rfl rfl rfl (by kernel_rfl) Tryz.underlying55 hi hz0 (by rw[hz1];rfl) (by show 4≤2 ^ 24;decide) (by show 0<4;decide) (by rw[hU];exact HSK.out U hbWU) ?_
      simp only[Act.put,List.getElem_toArray,List.getElem_cons_zero,List.getElem_cons_succ,List.setIfInBounds_toArray,List.set_cons_zero,List.set_cons_succ]
      rw[hU]
      have hownU:U.ownsRow (g+1) 119 4 (.slice la lb lc) LL.length (tcs LL):=HRW.out.on hbWU
      have hgU:g+1≤U.heap.size:=by have:=hbWU.size;omega
      refine takeE_append (i:=9) (s:=.tmp 77) (x:=.tmp 81) (t:=55) (by kernel_rfl) rfl rfl rfl (g+1) 119 i0 _ 4 40 Tryz.underlying55 hi hz0 hz1 hz2 rfl (by decide) (.slice la lb lc) LL.length (tcs LL) (by kernel_rfl) hownU ⟨w7.heap.size,0,none⟩ 1 1 (tcs [nuT lim]) (by kernel_rfl) (by rw[tcs_length];rfl) htkU (tcs_one _) (by decide) (by unfold maxLen;omega) (by omega) hgU ?_
      intro gg cap W3 hown3 hgrow hat hgl3
      have hV3:W3.heap[g]?=some (.cells #[.slice la lb lc,.int .i64 MM] 64):=(hgrow.block g (by omega) (fun e=>by have:=(hownU.lt g e.symm).1;omega)).trans ((hbWU.block g hgW).trans HGV.out)
      have k3:=cells2J hV3
      have hS3:(fun V:World=>V.cell? ⟨g,0,none⟩=some (.slice la lb lc)∧V.cell? ⟨w.heap.size,13,none⟩=some (.int .i64 lim)∧True) W3:=HS3.out W3 U hbWU hgrow hV3
      have HZ:Hid (JWrote g tb1 w7 (W3.setCell ⟨g,0,none⟩ (.slice (some ⟨gg,0,none⟩) (LL.length+1) cap)) (LL++[nuT lim]) MM):=hid (jw_set0 HJ1.out hV3 (by
       show W3.ownsRow (g+1) 119 4 _ (LL++[nuT lim]).length (tcs (LL++[nuT lim]))
       rw[List.length_append,tcs_app]
       exact hown3) ((Spares.of_new hbWU).then (Spares.of_grown hgrow (fun k hk=>.inr (HTB.out ▸ hk)))) (by
       rcases hat with e | e
       ·exact .inl (e.symm.trans HTB.out)
       ·exact .inr ⟨gg,rfl,by rw[e];exact hbWU.size⟩))
      refine ⟨hS3,?_⟩
      simp only[Act.put,List.getElem_toArray,List.getElem_cons_zero,List.getElem_cons_succ,List.setIfInBounds_toArray,List.set_cons_zero,List.set_cons_succ]
      refine wpAnyE_take (i:=10) (v:=?_) rfl (by kernel_rfl) (by kernel_rfl) (by kernel_rfl) (by kernel_rfl) (by kernel_rfl) (fun _ _ _ h=>h) (Or.inl ⟨by rfl,?_⟩) (by assumption) ?_;rotate_left;(focus (intro w hSw;(try dsimp only at hSw);(try obtain⟨hSw1,hSw2,hSw3⟩:=hSw);go_simp<;>with_reducible rfl));(try simp only[Act.put,List.getElem_toArray,List.getElem_cons_zero,List.getElem_cons_succ,List.setIfInBounds_toArray,List.set_cons_zero,List.set_cons_succ])
      refine wpAnyE_take (i:=11) (v:=?_) rfl (by kernel_rfl) (by kernel_rfl) (by kernel_rfl) (by kernel_rfl) (by kernel_rfl) (fun _ _ _ h=>h) (Or.inl ⟨by rfl,?_⟩) (by assumption) ?_;rotate_left;(focus (intro w hSw;(try dsimp only at hSw);(try obtain⟨hSw1,hSw2,hSw3⟩:=hSw);go_simp<;>with_reducible rfl));(try simp only[Act.put,List.getElem_toArray,List.getElem_cons_zero,List.getElem_cons_succ,List.setIfInBounds_toArray,List.set_cons_zero,List.set_cons_succ])
      refine takeE_store (i:=12) (pi:=⟨g,0,none⟩) (v:=.slice (some ⟨gg,0,none⟩) (LL.length+1) cap) Tryz.infoToks (by kernel_rfl) rfl rfl rfl rfl (by kernel_rfl) (by kernel_rfl) rfl rfl k3.1 (k3.2.2 0) (.inr rfl) ?_
      refine wpAnyE_done (by kernel_rfl) ?_ _
      show Only _ .normal _ _
      unfold Only
      have HS8:=hid (JWrote.then HT1.out HF1.out HZ.out)
      generalize W3.setCell ⟨g,0,none⟩ (.slice (some ⟨gg,0,none⟩) (LL.length+1) cap)=w8 at HS8 ⊢
      rw[HLL.out,HMM.out] at HS8
      clear hown3 hgrow hat hownU hS3 hbU hbWU htkU k3 hV3 hi hz0 hz1 hz2 HZ HSK HS3 HRW HGV HTB HJ1 HT1 HF1
      have HQ:Hid (JWrote g tb w w8 T M):=hid (by
       have h9:=JWrote.new HBW.out HS8.out
       rw[← HT.out,← HM.out]
       have hmm:max (max (max (max m ((DI:Nat):Int)) ((exDs wh:Nat):Int)) ((exDs gr:Nat):Int)) ((exDs od:Nat):Int)=max m ((max DI (max (exDs []) (max (exDs wh) (max (exDs gr) (exDs od)))):Nat):Int):=by show _=max m ((max DI (max 0 (max (exDs wh) (max (exDs gr) (exDs od)))):Nat):Int);omega
       rw[hmm,← HLA.out,← HSI.out] at h9
       simpa [selK,wordsK,show partK ([]:List Ex) [[79,78]]=[] from rfl,hl1] using h9)
      clear HS8
      go_wp2
      exact bodyPost_end (v:=.tuple #[]) (by simp[results,Tryz.results89,go_sem]) rfl ⟨rfl,HQ.out⟩
     ·have hl1:lim = -1:=by omega
      subst hl1
      have HQ:Hid (JWrote g tb w w6 T M):=hid (by
       have h9:=JWrote.new HBW.out HS6.out
       rw[← HT.out,← HM.out]
       have hmm:max (max (max (max m ((DI:Nat):Int)) ((exDs wh:Nat):Int)) ((exDs gr:Nat):Int)) ((exDs od:Nat):Int)=max m ((max DI (max (exDs []) (max (exDs wh) (max (exDs gr) (exDs od)))):Nat):Int):=by show _=max m ((max DI (max 0 (max (exDs wh) (max (exDs gr) (exDs od)))):Nat):Int);omega
       rw[hmm,← HLA.out,← HSI.out] at h9
       simpa [selK,wordsK,show partK ([]:List Ex) [[79,78]]=[] from rfl] using h9)
      clear HS6
      go_wp2
      exact bodyPost_end (v:=.tuple #[]) (by simp[results,Tryz.results89,go_sem]) rfl ⟨rfl,HQ.out⟩
   ·have hjb:(str8 jn).toList.isEmpty=false:=by rw[str8_empty,decide_eq_false hj]
    have HX3:=hid (HS3.out.next (fun tb' h'=>jwords_new g tb' _ _ [[74,79,73,78]] w3 h' (by simp) (by decide) (by simp[wordsK];omega)))
    go_wp2_with fail
    refine HX3.out.mono ?_
    rintro e w4 ⟨rfl,hs4⟩
    have HS4:=hid hs4
    have kk:=cells14 ((HS4.out.box HJ.out (Nat.le_refl _) hzW).trans HC0.out)
    clear hs4 HX3
    have HX4:=hid (HS4.out.next (fun tb' h'=>jwname_any g tb' _ _ jn w4 h' (by simp[wordsK];omega)))
    go_wp2_with fail
    refine HX4.out.mono ?_
    rintro e w5 ⟨rfl,hs5⟩
    have HS5:=hid hs5
    have kk:=cells14 ((HS5.out.box HJ.out (Nat.le_refl _) hzW).trans HC0.out)
    clear hs5 HX4
    have ka:=fun o=>cells14 ((((Below.refl _ w5).alloc (Nat.le_refl _) o).block w.heap.size (Nat.lt_of_lt_of_le hzW HS5.out.size)).trans ((HS5.out.box HJ.out (Nat.le_refl _) hzW).trans HC0.out))
    have HX5:=hid (HS5.out.next (fun tb' h'=>jexprs_new on h1on.1 h1on.2 [[79,78]] (by simp) (by decide) g tb' _ _ w5 (.slice a5 n5 c5) h' (HA5.out.to HS5.out.fr (fun b hb _=>⟨HJW.out.keeps b hb,hb⟩)) (by simp[wordsK];omega) (by omega) (by omega) (by omega)))
    go_wp2_with fail
    refine HX5.out.mono ?_
    rintro e w6 ⟨rfl,hs6⟩
    have HS6:=hid hs6
    have kk:=cells14 ((HS6.out.box HJ.out (Nat.le_refl _) hzW).trans HC0.out)
    clear hs6 HX5 ka
    have ka:=fun o=>cells14 ((((Below.refl _ w6).alloc (Nat.le_refl _) o).block w.heap.size (Nat.lt_of_lt_of_le hzW HS6.out.size)).trans ((HS6.out.box HJ.out (Nat.le_refl _) hzW).trans HC0.out))
    have HX6:=hid (HS6.out.next (fun tb' h'=>jexprs_new wh h1wh.1 h1wh.2 [[87,72,69,82,69]] (by simp) (by decide) g tb' _ _ w6 (.slice a6 n6 c6) h' (HA6.out.to HS6.out.fr (fun b hb _=>⟨HJW.out.keeps b hb,hb⟩)) (by simp[wordsK];omega) (by omega) (by omega) (by omega)))
    go_wp2_with fail
    refine HX6.out.mono ?_
    rintro e w7 ⟨rfl,hs7⟩
    have HS7:=hid hs7
    have kk:=cells14 ((HS7.out.box HJ.out (Nat.le_refl _) hzW).trans HC0.out)
    clear hs7 HX6 ka
    have ka:=fun o=>cells14 ((((Below.refl _ w7).alloc (Nat.le_refl _) o).block w.heap.size (Nat.lt_of_lt_of_le hzW HS7.out.size)).trans ((HS7.out.box HJ.out (Nat.le_refl _) hzW).trans HC0.out))
    have HX7:=hid (HS7.out.next (fun tb' h'=>jexprs_new gr h1gr.1 h1gr.2 [[71,82,79,85,80],[66,89]] (by simp) (by decide) g tb' _ _ w7 (.slice a7 n7 c7) h' (HA7.out.to HS7.out.fr (fun b hb _=>⟨HJW.out.keeps b hb,hb⟩)) (by simp[wordsK];omega) (by omega) (by omega) (by omega)))
    go_wp2_with fail
    refine HX7.out.mono ?_
    rintro e w8 ⟨rfl,hs8⟩
    have HS8:=hid hs8
    have kk:=cells14 ((HS8.out.box HJ.out (Nat.le_refl _) hzW).trans HC0.out)
    clear hs8 HX7 ka
    have ka:=fun o=>cells14 ((((Below.refl _ w8).alloc (Nat.le_refl _) o).block w.heap.size (Nat.lt_of_lt_of_le hzW HS8.out.size)).trans ((HS8.out.box HJ.out (Nat.le_refl _) hzW).trans HC0.out))
    have HX8:=hid (HS8.out.next (fun tb' h'=>jexprs_new od h1od.1 h1od.2 [[79,82,68,69,82],[66,89]] (by simp) (by decide) g tb' _ _ w8 (.slice a8 n8 c8) h' (HA8.out.to HS8.out.fr (fun b hb _=>⟨HJW.out.keeps b hb,hb⟩)) (by simp[wordsK];omega) (by omega) (by omega) (by omega)))
    go_wp2_with fail
    refine HX8.out.mono ?_
    rintro e w9 ⟨rfl,hs9⟩
    have HS9:=hid hs9
    have kk:=cells14 ((HS9.out.box HJ.out (Nat.le_refl _) hzW).trans HC0.out)
    clear hs9 HX8 ka
    cases desc with
    |
     true =>
     have HX9:=hid (HS9.out.next (fun tb' h'=>jwords_new g tb' _ _ [[68,69,83,67]] w9 h' (by simp) (by decide) (by simp[wordsK];omega)))
     go_wp2_with fail
     refine HX9.out.mono ?_
     rintro e w10 ⟨rfl,hs10⟩
     have HS10:=hid hs10
     have kk:=cells14 ((HS10.out.box HJ.out (Nat.le_refl _) hzW).trans HC0.out)
     clear hs10 HX9
     by_cases hl:0≤lim
     ·have hl1 : ¬lim = -1:=by omega
      have HX10:=hid (HS10.out.next (fun tb' h'=>jwords_new g tb' _ _ [[76,73,77,73,84]] w10 h' (by simp) (by decide) (by simp[wordsK];omega)))
      go_wp2_with fail
      refine HX10.out.mono ?_
      rintro e w11 ⟨rfl,hs11⟩
      have HS11:=hid hs11
      have kk:=cells14 ((HS11.out.box HJ.out (Nat.le_refl _) hzW).trans HC0.out)
      clear hs11 HX10
      obtain⟨tb1,hj1,ht1,hf1⟩:=HS11.out
      have HT1:=hid ht1
      have HF1:=hid hf1
      have hgW:g<w11.heap.size:=hj1.lt
      have HJ1:=hid hj1
      have hbx:=(HS11.out.box HJ.out (Nat.le_refl _) hzW).trans HC0.out
      have hbl:w.heap.size<w11.heap.size:=Nat.lt_of_lt_of_le hzW HS11.out.size
      obtain⟨lv,hlv,hlo,htb⟩:=id hj1
      obtain⟨la,lb,lc,rfl⟩:∃la lb lc,lv = .slice la lb lc:=by
       rcases hlo.2 with⟨rfl,_⟩ | ⟨_,_,_,rfl,_⟩
       ·exact⟨_,_,_,rfl⟩
       ·exact⟨_,_,_,rfl⟩
      obtain⟨LL,hLL⟩:∃LL,LA++SI++wordsK [[70,82,79,77]]++[nmT tn]++wordsK [[74,79,73,78]]++[nmT jn]++partK on [[79,78]]++partK wh [[87,72,69,82,69]]++partK gr [[71,82,79,85,80],[66,89]]++partK od [[79,82,68,69,82],[66,89]]++wordsK [[68,69,83,67]]++wordsK [[76,73,77,73,84]]=LL:=⟨_,rfl⟩
      obtain⟨MM,hMM⟩:∃MM,max (max (max (max (max m ((DI:Nat):Int)) ((exDs on:Nat):Int)) ((exDs wh:Nat):Int)) ((exDs gr:Nat):Int)) ((exDs od:Nat):Int)=MM:=⟨_,rfl⟩
      rw[hLL] at hlo HJ1
      rw[hMM] at hlv HJ1
      have hLLl:LL.length+1≤1000000000:=by rw[← hLL];simp[wordsK];omega
      have HLL:=hid hLL.symm
      have HMM:=hid hMM.symm
      clear hLL hMM
      have HGV:=hid hlv
      have HRW:Hid (Row (g+1) w11 (.slice la lb lc) LL):=hid hlo
      have HTB:=hid htb
      have htbb:tb1≠some w.heap.size:=fun e=>by
       rcases ht1 _ e with e | e
       ·exact Nat.lt_irrefl _ (HJ.out.tbs _ e).2
       ·omega
      have HSK:Hid (∀V,Below w11.heap.size w11 V→(fun V:World=>V.cell? ⟨g,0,none⟩=some (.slice la lb lc)∧V.cell? ⟨w.heap.size,13,none⟩=some (.int .i64 lim)∧True) V):=hid (fun V hV=>⟨(cells2J ((hV.block g hgW).trans HGV.out)).1,(cells14 ((hV.block w.heap.size hbl).trans hbx)).2.2.2.2.2.2.2.2.2.2.2.2.2,trivial⟩)
      have HS3:Hid (∀(V U:World),Below w11.heap.size w11 U→U.grownBy V (Value.slice la lb lc).ownBlock→V.heap[g]?=some (.cells #[.slice la lb lc,.int .i64 MM] 64)→(fun V:World=>V.cell? ⟨g,0,none⟩=some (.slice la lb lc)∧V.cell? ⟨w.heap.size,13,none⟩=some (.int .i64 lim)∧True) V):=hid (fun V U hU hg hV=>⟨(cells2J hV).1,(hg.cell_far ⟨w.heap.size,13,none⟩ (Nat.lt_of_lt_of_le hbl hU.size) (fun e=>htbb (HTB.out.symm.trans e.symm))).trans (HSK.out U hU).2.1,trivial⟩)
      clear ht1 hf1 hj1 hlv hlo htb hbx htbb
      have hS0:=HSK.out w11.drew (Below.refl _ w11).drew
      go_wp2_with fail
      refine last_region (fun V:World=>V.cell? ⟨g,0,none⟩=some (.slice la lb lc)∧V.cell? ⟨w.heap.size,13,none⟩=some (.int .i64 lim)∧True) 12 (by kernel_rfl) ?_
      refine wpAnyE_take (i:=0) (v:=?_) rfl (by kernel_rfl) (by kernel_rfl) (by kernel_rfl) (by kernel_rfl) (by kernel_rfl) (fun _ _ _ h=>h) (Or.inl ⟨by rfl,?_⟩) (by assumption) ?_;rotate_left;(focus (intro w hSw;(try dsimp only at hSw);(try obtain⟨hSw1,hSw2,hSw3⟩:=hSw);go_simp<;>with_reducible rfl));(try simp only[Act.put,List.getElem_toArray,List.getElem_cons_zero,List.getElem_cons_succ,List.setIfInBounds_toArray,List.set_cons_zero,List.set_cons_succ])
      refine wpAnyE_take (i:=1) (v:=?_) rfl (by kernel_rfl) (by kernel_rfl) (by kernel_rfl) (by kernel_rfl) (by kernel_rfl) (fun _ _ _ h=>h) (Or.inl ⟨by rfl,?_⟩) (by assumption) ?_;rotate_left;(focus (intro w hSw;(try dsimp only at hSw);(try obtain⟨hSw1,hSw2,hSw3⟩:=hSw);go_simp<;>with_reducible rfl));(try simp only[Act.put,List.getElem_toArray,List.getElem_cons_zero,List.getElem_cons_succ,List.setIfInBounds_toArray,List.set_cons_zero,List.set_cons_succ])
      refine wpAnyE_take (i:=2) (v:=?_) rfl (by kernel_rfl) (by kernel_rfl) (by kernel_rfl) (by kernel_rfl) (by kernel_rfl) (fun _ _ _ h=>h) (Or.inl ⟨by rfl,?_⟩) (by assumption) ?_;rotate_left;(focus (intro w hSw;(try dsimp only at hSw);(try obtain⟨hSw1,hSw2,hSw3⟩:=hSw);go_simp<;>with_reducible rfl));(try simp only[Act.put,List.getElem_toArray,List.getElem_cons_zero,List.getElem_cons_succ,List.setIfInBounds_toArray,List.set_cons_zero,List.set_cons_succ])
      refine wpAnyE_take (i:=3) (v:=?_) rfl (by kernel_rfl) (by kernel_rfl) (by kernel_rfl) (by kernel_rfl) (by kernel_rfl) (fun _ _ _ h=>h) (Or.inl ⟨by rfl,?_⟩) (by assumption) ?_;rotate_left;(focus (intro w hSw;(try dsimp only at hSw);(try obtain⟨hSw1,hSw2,hSw3⟩:=hSw);go_simp<;>with_reducible rfl));(try simp only[Act.put,List.getElem_toArray,List.getElem_cons_zero,List.getElem_cons_succ,List.setIfInBounds_toArray,List.set_cons_zero,List.set_cons_succ])
      refine wpAnyE_take (i:=4) (v:=?_) rfl (by kernel_rfl) (by kernel_rfl) (by kernel_rfl) (by kernel_rfl) (by kernel_rfl) (fun _ _ _ h=>h) (Or.inl ⟨by rfl,?_⟩) (by assumption) ?_;rotate_left;(focus (intro w hSw;(try dsimp only at hSw);(try obtain⟨hSw1,hSw2,hSw3⟩:=hSw);go_simp<;>with_reducible rfl));(try simp only[Act.put,List.getElem_toArray,List.getElem_cons_zero,List.getElem_cons_succ,List.setIfInBounds_toArray,List.set_cons_zero,List.set_cons_succ])
      refine wpAnyE_take (i:=5) (v:=?_) rfl (by kernel_rfl) (by kernel_rfl) (by kernel_rfl) (by kernel_rfl) (by kernel_rfl) (fun _ _ _ h=>h) (Or.inl ⟨by rfl,?_⟩) (by assumption) ?_;rotate_left;(focus (intro w hSw;(try dsimp only at hSw);(try obtain⟨hSw1,hSw2,hSw3⟩:=hSw);go_simp<;>with_reducible rfl));(try simp only[Act.put,List.getElem_toArray,List.getElem_cons_zero,List.getElem_cons_succ,List.setIfInBounds_toArray,List.set_cons_zero,List.set_cons_succ])
      refine wpAnyE_take (i:=6) (v:=?_) rfl (by kernel_rfl) (by kernel_rfl) (by kernel_rfl) (by kernel_rfl) (by kernel_rfl) (fun _ _ _ h=>h) (Or.inl ⟨by rfl,?_⟩) (by assumption) ?_;rotate_left;(focus (intro w hSw;(try dsimp only at hSw);(try obtain⟨hSw1,hSw2,hSw3⟩:=hSw);go_simp<;>with_reducible rfl));(try simp only[Act.put,List.getElem_toArray,List.getElem_cons_zero,List.getElem_cons_succ,List.setIfInBounds_toArray,List.set_cons_zero,List.set_cons_succ])
      refine takeE_build (i:=7) [(0,.int .i64 3),(2,.int .i64 lim)] #[.int .i64 3,.string ⟨#[]⟩,.int .i64 lim,.int .i64 0] (by kernel_rfl) rfl rfl rfl (by kernel_rfl) (by kernel_rfl) hS0 ?_
      simp only[Act.put,List.getElem_toArray,List.getElem_cons_zero,List.getElem_cons_succ,List.setIfInBounds_toArray,List.set_cons_zero,List.set_cons_succ]
      obtain⟨U,hU,hbU,hzU,_,htkU⟩:=new_toks w11.drew [nuT lim] #[.int .i64 3,.string ⟨#[]⟩,.int .i64 lim,.int .i64 0] (by rfl) (by simp)
      have hbWU:Below w11.heap.size w11 U:=(Below.refl _ w11).drew.trans hbU
      obtain⟨i0,hi,hz0,hz1,hz2⟩:=info_parts Tryz.infoTok
      refine takeE_slice (i:=8) #[.int .i64 3,.string ⟨#[]⟩,.int .i64 lim,.int .i64 0] i0 _ (by kernel_rfl) rfl rfl rfl (by kernel_rfl) Tryz.underlying55 hi hz0 (by rw[hz1];rfl) (by show 4≤2 ^ 24;decide) (by show 0<4;decide) (by rw[hU];exact HSK.out U hbWU) ?_
      simp only[Act.put,List.getElem_toArray,List.getElem_cons_zero,List.getElem_cons_succ,List.setIfInBounds_toArray,List.set_cons_zero,List.set_cons_succ]
      rw[hU]
      have hownU:U.ownsRow (g+1) 119 4 (.slice la lb lc) LL.length (tcs LL):=HRW.out.on hbWU
      have hgU:g+1≤U.heap.size:=by have:=hbWU.size;omega
      refine takeE_append (i:=9) (s:=.tmp 77) (x:=.tmp 81) (t:=55) (by kernel_rfl) rfl rfl rfl (g+1) 119 i0 _ 4 40 Tryz.underlying55 hi hz0 hz1 hz2 rfl (by decide) (.slice la lb lc) LL.length (tcs LL) (by kernel_rfl) hownU ⟨w11.heap.size,0,none⟩ 1 1 (tcs [nuT lim]) (by kernel_rfl) (by rw[tcs_length];rfl) htkU (tcs_one _) (by decide) (by unfold maxLen;omega) (by omega) hgU ?_
      intro gg cap W3 hown3 hgrow hat hgl3
      have hV3:W3.heap[g]?=some (.cells #[.slice la lb lc,.int .i64 MM] 64):=(hgrow.block g (by omega) (fun e=>by have:=(hownU.lt g e.symm).1;omega)).trans ((hbWU.block g hgW).trans HGV.out)
      have k3:=cells2J hV3
      have hS3:(fun V:World=>V.cell? ⟨g,0,none⟩=some (.slice la lb lc)∧V.cell? ⟨w.heap.size,13,none⟩=some (.int .i64 lim)∧True) W3:=HS3.out W3 U hbWU hgrow hV3
      have HZ:Hid (JWrote g tb1 w11 (W3.setCell ⟨g,0,none⟩ (.slice (some ⟨gg,0,none⟩) (LL.length+1) cap)) (LL++[nuT lim]) MM):=hid (jw_set0 HJ1.out hV3 (by
       show W3.ownsRow (g+1) 119 4 _ (LL++[nuT lim]).length (tcs (LL++[nuT lim]))
       rw[List.length_append,tcs_app]
       exact hown3) ((Spares.of_new hbWU).then (Spares.of_grown hgrow (fun k hk=>.inr (HTB.out ▸ hk)))) (by
       rcases hat with e | e
       ·exact .inl (e.symm.trans HTB.out)
       ·exact .inr ⟨gg,rfl,by rw[e];exact hbWU.size⟩))
      refine ⟨hS3,?_⟩
      simp only[Act.put,List.getElem_toArray,List.getElem_cons_zero,List.getElem_cons_succ,List.setIfInBounds_toArray,List.set_cons_zero,List.set_cons_succ]
      refine wpAnyE_take (i:=10) (v:=?_) rfl (by kernel_rfl) (by kernel_rfl) (by kernel_rfl) (by kernel_rfl) (by kernel_rfl) (fun _ _ _ h=>h) (Or.inl ⟨by rfl,?_⟩) (by assumption) ?_;rotate_left;(focus (intro w hSw;(try dsimp only at hSw);(try obtain⟨hSw1,hSw2,hSw3⟩:=hSw);go_simp<;>with_reducible rfl));(try simp only[Act.put,List.getElem_toArray,List.getElem_cons_zero,List.getElem_cons_succ,List.setIfInBounds_toArray,List.set_cons_zero,List.set_cons_succ])
      refine wpAnyE_take (i:=11) (v:=?_) rfl (by kernel_rfl) (by kernel_rfl) (by kernel_rfl) (by kernel_rfl) (by kernel_rfl) (fun _ _ _ h=>h) (Or.inl ⟨by rfl,?_⟩) (by assumption) ?_;rotate_left;(focus (intro w hSw;(try dsimp only at hSw);(try obtain⟨hSw1,hSw2,hSw3⟩:=hSw);go_simp<;>with_reducible rfl));(try simp only[Act.put,List.getElem_toArray,List.getElem_cons_zero,List.getElem_cons_succ,List.setIfInBounds_toArray,List.set_cons_zero,List.set_cons_succ])
      refine takeE_store (i:=12) (pi:=⟨g,0,none⟩) (v:=.slice (some ⟨gg,0,none⟩) (LL.length+1) cap) Tryz.infoToks (by kernel_rfl) rfl rfl rfl rfl (by kernel_rfl) (by kernel_rfl) rfl rfl k3.1 (k3.2.2 0) (.inr rfl) ?_
      refine wpAnyE_done (by kernel_rfl) ?_ _
      show Only _ .normal _ _
      unfold Only
      have HS12:=hid (JWrote.then HT1.out HF1.out HZ.out)
      generalize W3.setCell ⟨g,0,none⟩ (.slice (some ⟨gg,0,none⟩) (LL.length+1) cap)=w12 at HS12 ⊢
      rw[HLL.out,HMM.out] at HS12
      clear hown3 hgrow hat hownU hS3 hbU hbWU htkU k3 hV3 hi hz0 hz1 hz2 HZ HSK HS3 HRW HGV HTB HJ1 HT1 HF1
      have HQ:Hid (JWrote g tb w w12 T M):=hid (by
       have h9:=JWrote.new HBW.out HS12.out
       rw[← HT.out,← HM.out]
       have hmm:max (max (max (max (max m ((DI:Nat):Int)) ((exDs on:Nat):Int)) ((exDs wh:Nat):Int)) ((exDs gr:Nat):Int)) ((exDs od:Nat):Int)=max m ((max DI (max (exDs on) (max (exDs wh) (max (exDs gr) (exDs od)))):Nat):Int):=by omega
       rw[hmm,← HLA.out,← HSI.out] at h9
       simpa [selK,wordsK,hj,hl1] using h9)
      clear HS12
      go_wp2
      exact bodyPost_end (v:=.tuple #[]) (by simp[results,Tryz.results89,go_sem]) rfl ⟨rfl,HQ.out⟩
     ·have hl1:lim = -1:=by omega
      subst hl1
      have HQ:Hid (JWrote g tb w w10 T M):=hid (by
       have h9:=JWrote.new HBW.out HS10.out
       rw[← HT.out,← HM.out]
       have hmm:max (max (max (max (max m ((DI:Nat):Int)) ((exDs on:Nat):Int)) ((exDs wh:Nat):Int)) ((exDs gr:Nat):Int)) ((exDs od:Nat):Int)=max m ((max DI (max (exDs on) (max (exDs wh) (max (exDs gr) (exDs od)))):Nat):Int):=by omega
       rw[hmm,← HLA.out,← HSI.out] at h9
       simpa [selK,wordsK,hj] using h9)
      clear HS10
      go_wp2
      exact bodyPost_end (v:=.tuple #[]) (by simp[results,Tryz.results89,go_sem]) rfl ⟨rfl,HQ.out⟩
    |
     false =>
     by_cases hl:0≤lim
     ·have hl1 : ¬lim = -1:=by omega
      have HX9:=hid (HS9.out.next (fun tb' h'=>jwords_new g tb' _ _ [[76,73,77,73,84]] w9 h' (by simp) (by decide) (by simp[wordsK];omega)))
      go_wp2_with fail
      refine HX9.out.mono ?_
      rintro e w10 ⟨rfl,hs10⟩
      have HS10:=hid hs10
      have kk:=cells14 ((HS10.out.box HJ.out (Nat.le_refl _) hzW).trans HC0.out)
      clear hs10 HX9
      obtain⟨tb1,hj1,ht1,hf1⟩:=HS10.out
      have HT1:=hid ht1
      have HF1:=hid hf1
      have hgW:g<w10.heap.size:=hj1.lt
      have HJ1:=hid hj1
      have hbx:=(HS10.out.box HJ.out (Nat.le_refl _) hzW).trans HC0.out
      have hbl:w.heap.size<w10.heap.size:=Nat.lt_of_lt_of_le hzW HS10.out.size
      obtain⟨lv,hlv,hlo,htb⟩:=id hj1
      obtain⟨la,lb,lc,rfl⟩:∃la lb lc,lv = .slice la lb lc:=by
       rcases hlo.2 with⟨rfl,_⟩ | ⟨_,_,_,rfl,_⟩
       ·exact⟨_,_,_,rfl⟩
       ·exact⟨_,_,_,rfl⟩
      obtain⟨LL,hLL⟩:∃LL,LA++SI++wordsK [[70,82,79,77]]++[nmT tn]++wordsK [[74,79,73,78]]++[nmT jn]++partK on [[79,78]]++partK wh [[87,72,69,82,69]]++partK gr [[71,82,79,85,80],[66,89]]++partK od [[79,82,68,69,82],[66,89]]++wordsK [[76,73,77,73,84]]=LL:=⟨_,rfl⟩
      obtain⟨MM,hMM⟩:∃MM,max (max (max (max (max m ((DI:Nat):Int)) ((exDs on:Nat):Int)) ((exDs wh:Nat):Int)) ((exDs gr:Nat):Int)) ((exDs od:Nat):Int)=MM:=⟨_,rfl⟩
      rw[hLL] at hlo HJ1
      rw[hMM] at hlv HJ1
      have hLLl:LL.length+1≤1000000000:=by rw[← hLL];simp[wordsK];omega
      have HLL:=hid hLL.symm
      have HMM:=hid hMM.symm
      clear hLL hMM
      have HGV:=hid hlv
      have HRW:Hid (Row (g+1) w10 (.slice la lb lc) LL):=hid hlo
      have HTB:=hid htb
      have htbb:tb1≠some w.heap.size:=fun e=>by
       rcases ht1 _ e with e | e
       ·exact Nat.lt_irrefl _ (HJ.out.tbs _ e).2
       ·omega
      have HSK:Hid (∀V,Below w10.heap.size w10 V→(fun V:World=>V.cell? ⟨g,0,none⟩=some (.slice la lb lc)∧V.cell? ⟨w.heap.size,13,none⟩=some (.int .i64 lim)∧True) V):=hid (fun V hV=>⟨(cells2J ((hV.block g hgW).trans HGV.out)).1,(cells14 ((hV.block w.heap.size hbl).trans hbx)).2.2.2.2.2.2.2.2.2.2.2.2.2,trivial⟩)
      have HS3:Hid (∀(V U:World),Below w10.heap.size w10 U→U.grownBy V (Value.slice la lb lc).ownBlock→V.heap[g]?=some (.cells #[.slice la lb lc,.int .i64 MM] 64)→(fun V:World=>V.cell? ⟨g,0,none⟩=some (.slice la lb lc)∧V.cell? ⟨w.heap.size,13,none⟩=some (.int .i64 lim)∧True) V):=hid (fun V U hU hg hV=>⟨(cells2J hV).1,(hg.cell_far ⟨w.heap.size,13,none⟩ (Nat.lt_of_lt_of_le hbl hU.size) (fun e=>htbb (HTB.out.symm.trans e.symm))).trans (HSK.out U hU).2.1,trivial⟩)
      clear ht1 hf1 hj1 hlv hlo htb hbx htbb
      have hS0:=HSK.out w10.drew (Below.refl _ w10).drew
      go_wp2_with fail
      refine last_region (fun V:World=>V.cell? ⟨g,0,none⟩=some (.slice la lb lc)∧V.cell? ⟨w.heap.size,13,none⟩=some (.int .i64 lim)∧True) 12 (by kernel_rfl) ?_
      refine wpAnyE_take (i:=0) (v:=?_) rfl (by kernel_rfl) (by kernel_rfl) (by kernel_rfl) (by kernel_rfl) (by kernel_rfl) (fun _ _ _ h=>h) (Or.inl ⟨by rfl,?_⟩) (by assumption) ?_;rotate_left;(focus (intro w hSw;(try dsimp only at hSw);(try obtain⟨hSw1,hSw2,hSw3⟩:=hSw);go_simp<;>with_reducible rfl));(try simp only[Act.put,List.getElem_toArray,List.getElem_cons_zero,List.getElem_cons_succ,List.setIfInBounds_toArray,List.set_cons_zero,List.set_cons_succ])
      refine wpAnyE_take (i:=1) (v:=?_) rfl (by kernel_rfl) (by kernel_rfl) (by kernel_rfl) (by kernel_rfl) (by kernel_rfl) (fun _ _ _ h=>h) (Or.inl ⟨by rfl,?_⟩) (by assumption) ?_;rotate_left;(focus (intro w hSw;(try dsimp only at hSw);(try obtain⟨hSw1,hSw2,hSw3⟩:=hSw);go_simp<;>with_reducible rfl));(try simp only[Act.put,List.getElem_toArray,List.getElem_cons_zero,List.getElem_cons_succ,List.setIfInBounds_toArray,List.set_cons_zero,List.set_cons_succ])
      refine wpAnyE_take (i:=2) (v:=?_) rfl (by kernel_rfl) (by kernel_rfl) (by kernel_rfl) (by kernel_rfl) (by kernel_rfl) (fun _ _ _ h=>h) (Or.inl ⟨by rfl,?_⟩) (by assumption) ?_;rotate_left;(focus (intro w hSw;(try dsimp only at hSw);(try obtain⟨hSw1,hSw2,hSw3⟩:=hSw);go_simp<;>with_reducible rfl));(try simp only[Act.put,List.getElem_toArray,List.getElem_cons_zero,List.getElem_cons_succ,List.setIfInBounds_toArray,List.set_cons_zero,List.set_cons_succ])
      refine wpAnyE_take (i:=3) (v:=?_) rfl (by kernel_rfl) (by kernel_rfl) (by kernel_rfl) (by kernel_rfl) (by kernel_rfl) (fun _ _ _ h=>h) (Or.inl ⟨by rfl,?_⟩) (by assumption) ?_;rotate_left;(focus (intro w hSw;(try dsimp only at hSw);(try obtain⟨hSw1,hSw2,hSw3⟩:=hSw);go_simp<;>with_reducible rfl));(try simp only[Act.put,List.getElem_toArray,List.getElem_cons_zero,List.getElem_cons_succ,List.setIfInBounds_toArray,List.set_cons_zero,List.set_cons_succ])
      refine wpAnyE_take (i:=4) (v:=?_) rfl (by kernel_rfl) (by kernel_rfl) (by kernel_rfl) (by kernel_rfl) (by kernel_rfl) (fun _ _ _ h=>h) (Or.inl ⟨by rfl,?_⟩) (by assumption) ?_;rotate_left;(focus (intro w hSw;(try dsimp only at hSw);(try obtain⟨hSw1,hSw2,hSw3⟩:=hSw);go_simp<;>with_reducible rfl));(try simp only[Act.put,List.getElem_toArray,List.getElem_cons_zero,List.getElem_cons_succ,List.setIfInBounds_toArray,List.set_cons_zero,List.set_cons_succ])
      refine wpAnyE_take (i:=5) (v:=?_) rfl (by kernel_rfl) (by kernel_rfl) (by kernel_rfl) (by kernel_rfl) (by kernel_rfl) (fun _ _ _ h=>h) (Or.inl ⟨by rfl,?_⟩) (by assumption) ?_;rotate_left;(focus (intro w hSw;(try dsimp only at hSw);(try obtain⟨hSw1,hSw2,hSw3⟩:=hSw);go_simp<;>with_reducible rfl));(try simp only[Act.put,List.getElem_toArray,List.getElem_cons_zero,List.getElem_cons_succ,List.setIfInBounds_toArray,List.set_cons_zero,List.set_cons_succ])
      refine wpAnyE_take (i:=6) (v:=?_) rfl (by kernel_rfl) (by kernel_rfl) (by kernel_rfl) (by kernel_rfl) (by kernel_rfl) (fun _ _ _ h=>h) (Or.inl ⟨by rfl,?_⟩) (by assumption) ?_;rotate_left;(focus (intro w hSw;(try dsimp only at hSw);(try obtain⟨hSw1,hSw2,hSw3⟩:=hSw);go_simp<;>with_reducible rfl));(try simp only[Act.put,List.getElem_toArray,List.getElem_cons_zero,List.getElem_cons_succ,List.setIfInBounds_toArray,List.set_cons_zero,List.set_cons_succ])
      refine takeE_build (i:=7) [(0,.int .i64 3),(2,.int .i64 lim)] #[.int .i64 3,.string ⟨#[]⟩,.int .i64 lim,.int .i64 0] (by kernel_rfl) rfl rfl rfl (by kernel_rfl) (by kernel_rfl) hS0 ?_
      simp only[Act.put,List.getElem_toArray,List.getElem_cons_zero,List.getElem_cons_succ,List.setIfInBounds_toArray,List.set_cons_zero,List.set_cons_succ]
      obtain⟨U,hU,hbU,hzU,_,htkU⟩:=new_toks w10.drew [nuT lim] #[.int .i64 3,.string ⟨#[]⟩,.int .i64 lim,.int .i64 0] (by rfl) (by simp)
      have hbWU:Below w10.heap.size w10 U:=(Below.refl _ w10).drew.trans hbU
      obtain⟨i0,hi,hz0,hz1,hz2⟩:=info_parts Tryz.infoTok
      refine takeE_slice (i:=8) #[.int .i64 3,.string ⟨#[]⟩,.int .i64 lim,.int .i64 0] i0 _ (by kernel_rfl) rfl rfl rfl (by kernel_rfl) Tryz.underlying55 hi hz0 (by rw[hz1];rfl) (by show 4≤2 ^ 24;decide) (by show 0<4;decide) (by rw[hU];exact HSK.out U hbWU) ?_
      simp only[Act.put,List.getElem_toArray,List.getElem_cons_zero,List.getElem_cons_succ,List.setIfInBounds_toArray,List.set_cons_zero,List.set_cons_succ]
      rw[hU]
      have hownU:U.ownsRow (g+1) 119 4 (.slice la lb lc) LL.length (tcs LL):=HRW.out.on hbWU
      have hgU:g+1≤U.heap.size:=by have:=hbWU.size;omega
      refine takeE_append (i:=9) (s:=.tmp 77) (x:=.tmp 81) (t:=55) (by kernel_rfl) rfl rfl rfl (g+1) 119 i0 _ 4 40 Tryz.underlying55 hi hz0 hz1 hz2 rfl (by decide) (.slice la lb lc) LL.length (tcs LL) (by kernel_rfl) hownU ⟨w10.heap.size,0,none⟩ 1 1 (tcs [nuT lim]) (by kernel_rfl) (by rw[tcs_length];rfl) htkU (tcs_one _) (by decide) (by unfold maxLen;omega) (by omega) hgU ?_
      intro gg cap W3 hown3 hgrow hat hgl3
      have hV3:W3.heap[g]?=some (.cells #[.slice la lb lc,.int .i64 MM] 64):=(hgrow.block g (by omega) (fun e=>by have:=(hownU.lt g e.symm).1;omega)).trans ((hbWU.block g hgW).trans HGV.out)
      have k3:=cells2J hV3
      have hS3:(fun V:World=>V.cell? ⟨g,0,none⟩=some (.slice la lb lc)∧V.cell? ⟨w.heap.size,13,none⟩=some (.int .i64 lim)∧True) W3:=HS3.out W3 U hbWU hgrow hV3
      have HZ:Hid (JWrote g tb1 w10 (W3.setCell ⟨g,0,none⟩ (.slice (some ⟨gg,0,none⟩) (LL.length+1) cap)) (LL++[nuT lim]) MM):=hid (jw_set0 HJ1.out hV3 (by
       show W3.ownsRow (g+1) 119 4 _ (LL++[nuT lim]).length (tcs (LL++[nuT lim]))
       rw[List.length_append,tcs_app]
       exact hown3) ((Spares.of_new hbWU).then (Spares.of_grown hgrow (fun k hk=>.inr (HTB.out ▸ hk)))) (by
       rcases hat with e | e
       ·exact .inl (e.symm.trans HTB.out)
       ·exact .inr ⟨gg,rfl,by rw[e];exact hbWU.size⟩))
      refine ⟨hS3,?_⟩
      simp only[Act.put,List.getElem_toArray,List.getElem_cons_zero,List.getElem_cons_succ,List.setIfInBounds_toArray,List.set_cons_zero,List.set_cons_succ]
      refine wpAnyE_take (i:=10) (v:=?_) rfl (by kernel_rfl) (by kernel_rfl) (by kernel_rfl) (by kernel_rfl) (by kernel_rfl) (fun _ _ _ h=>h) (Or.inl ⟨by rfl,?_⟩) (by assumption) ?_;rotate_left;(focus (intro w hSw;(try dsimp only at hSw);(try obtain⟨hSw1,hSw2,hSw3⟩:=hSw);go_simp<;>with_reducible rfl));(try simp only[Act.put,List.getElem_toArray,List.getElem_cons_zero,List.getElem_cons_succ,List.setIfInBounds_toArray,List.set_cons_zero,List.set_cons_succ])
      refine wpAnyE_take (i:=11) (v:=?_) rfl (by kernel_rfl) (by kernel_rfl) (by kernel_rfl) (by kernel_rfl) (by kernel_rfl) (fun _ _ _ h=>h) (Or.inl ⟨by rfl,?_⟩) (by assumption) ?_;rotate_left;(focus (intro w hSw;(try dsimp only at hSw);(try obtain⟨hSw1,hSw2,hSw3⟩:=hSw);go_simp<;>with_reducible rfl));(try simp only[Act.put,List.getElem_toArray,List.getElem_cons_zero,List.getElem_cons_succ,List.setIfInBounds_toArray,List.set_cons_zero,List.set_cons_succ])
      refine takeE_store (i:=12) (pi:=⟨g,0,none⟩) (v:=.slice (some ⟨gg,0,none⟩) (LL.length+1) cap) Tryz.infoToks (by kernel_rfl) rfl rfl rfl rfl (by kernel_rfl) (by kernel_rfl) rfl rfl k3.1 (k3.2.2 0) (.inr rfl) ?_
      refine wpAnyE_done (by kernel_rfl) ?_ _
      show Only _ .normal _ _
      unfold Only
      have HS11:=hid (JWrote.then HT1.out HF1.out HZ.out)
      generalize W3.setCell ⟨g,0,none⟩ (.slice (some ⟨gg,0,none⟩) (LL.length+1) cap)=w11 at HS11 ⊢
      rw[HLL.out,HMM.out] at HS11
      clear hown3 hgrow hat hownU hS3 hbU hbWU htkU k3 hV3 hi hz0 hz1 hz2 HZ HSK HS3 HRW HGV HTB HJ1 HT1 HF1
      have HQ:Hid (JWrote g tb w w11 T M):=hid (by
       have h9:=JWrote.new HBW.out HS11.out
       rw[← HT.out,← HM.out]
       have hmm:max (max (max (max (max m ((DI:Nat):Int)) ((exDs on:Nat):Int)) ((exDs wh:Nat):Int)) ((exDs gr:Nat):Int)) ((exDs od:Nat):Int)=max m ((max DI (max (exDs on) (max (exDs wh) (max (exDs gr) (exDs od)))):Nat):Int):=by omega
       rw[hmm,← HLA.out,← HSI.out] at h9
       simpa [selK,wordsK,hj,hl1] using h9)
      clear HS11
      go_wp2
      exact bodyPost_end (v:=.tuple #[]) (by simp[results,Tryz.results89,go_sem]) rfl ⟨rfl,HQ.out⟩
     ·have hl1:lim = -1:=by omega
      subst hl1
      have HQ:Hid (JWrote g tb w w9 T M):=hid (by
       have h9:=JWrote.new HBW.out HS9.out
       rw[← HT.out,← HM.out]
       have hmm:max (max (max (max (max m ((DI:Nat):Int)) ((exDs on:Nat):Int)) ((exDs wh:Nat):Int)) ((exDs gr:Nat):Int)) ((exDs od:Nat):Int)=max m ((max DI (max (exDs on) (max (exDs wh) (max (exDs gr) (exDs od)))):Nat):Int):=by omega
       rw[hmm,← HLA.out,← HSI.out] at h9
       simpa [selK,wordsK,hj] using h9)
      clear HS9
      go_wp2
      exact bodyPost_end (v:=.tuple #[]) (by simp[results,Tryz.results89,go_sem]) rfl ⟨rfl,HQ.out⟩
end Go.Proofs.YtnidnipiihhnaaaGreatDoor
