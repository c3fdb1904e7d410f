/- Packed for the hand-in: RefJS -/
import Derived.Test.YtnidnipiihhnaaaGreatDoorX41
import Derived.Test.YtnidnipiihhnaaaGreatDoorX31
namespace Go.Proofs.YtnidnipiihhnaaaGreatDoor
open Go.RowKit Go.Shelf
set_option linter.unusedSimpArgs false
set_option linter.unusedVariables false
set_option maxRecDepth 20000
set_option maxHeartbeats 8000000
theorem jstate_3 (rows:List (List Vl)) (tn prim jn:List UInt8) (desc:Bool) (lim:Int) (a1 a2 a3 a4 a5 a6 a7 a8:Option Addr) (n1 n2 n3 n4 n5 n6 n7 n8 c1 c2 c3 c4 c5 c6 c7 c8:Nat) (g:Nat) (tb:Option Nat) (L:List Tk) (m:Int) (w:World) (h:JwAt w g tb L m) (x2:SlAt 1 VsE (fun b=>b<g) w rows (.slice a2 n2 c2)) (hb : ∀r∈rows,rowB r=true) (hL:L.length+(sepK (fxT [44]) (rows.map vrowK)).length+20≤10000000) :
  Calls Tryz.prog 34 #[.pointer (some ⟨g,0,none⟩),.agg #[.int .i64 3,.string (str8 tn),.slice a1 n1 c1,.string (str8 prim),.slice a2 n2 c2,.slice a3 n3 c3,.slice a4 n4 c4,.string (str8 jn),.slice a5 n5 c5,.slice a6 n6 c6,.slice a7 n7 c7,.slice a8 n8 c8,.bool desc,.int .i64 lim]] w fun e w'=>e = .returned (.tuple #[])∧JWrote g tb w w' (L++(wordsK [[73,78,83,69,82,84],[73,78,84,79]]++nmT tn::fxT [86,65,76,85,69,83]::sepK (fxT [44]) (rows.map vrowK))) (m):=by
 obtain⟨W,hW,hbW,hzW,hcW⟩:=box8 w (.cells #[.int .i64 3,.string (str8 tn),.slice a1 n1 c1,.string (str8 prim),.slice a2 n2 c2,.slice a3 n3 c3,.slice a4 n4 c4,.string (str8 jn),.slice a5 n5 c5,.slice a6 n6 c6,.slice a7 n7 c7,.slice a8 n8 c8,.bool desc,.int .i64 lim] 42)
 have kk:=cells14 hcW
 have HC0:=hid hcW
 have HBW:=hid hbW
 have HJ:=hid h
 have HJW:=hid (h.below hbW)
 have HS0:=hid ((h.below hbW).here)
 have HSL:=hid (x2.to (by decide) (R:=fun _=>False) (T:=fun b=>b<g) (Spares.of_new hbW) (fun b hb _=>⟨id,hb⟩) (fun _ _ e=>e.to (R:=fun _=>False) (Spares.of_new hbW) (fun b hb _=>⟨id,hb⟩)))
 have hnl:n2=rows.length∧n2≤9223372036854775807:=by
  obtain⟨_,_,_,hf,hl1,hl2,_⟩:=x2
  simp only[Value.slice.injEq] at hf
  unfold maxLen at hl2
  omega
 obtain⟨rfl,hnm⟩:=hnl
 have HRB:Hid (∀r∈rows,r.all valOk=true):=hid (fun r hr=>by have:=hb r hr;unfold rowB areB at this;simp only[Bool.and_eq_true] at this;exact this.2)
 obtain⟨T,hT⟩:∃T,L++(wordsK [[73,78,83,69,82,84],[73,78,84,79]]++nmT tn::fxT [86,65,76,85,69,83]::sepK (fxT [44]) (rows.map vrowK))=T:=⟨_,rfl⟩
 obtain⟨M,hM⟩:∃M,(m)=M:=⟨_,rfl⟩
 rw[hT,hM]
 have HT:=hid hT
 have HM:=hid hM
 clear hT hM h hbW hcW x2
 go_enter Tryz.func34,Tryz.ntmps34
 have HX0:=hid (HS0.out.next (fun tb' h'=>jwords_new g tb' _ _ [[73,78,83,69,82,84],[73,78,84,79]] W h' (by simp) (by decide) (by simp[wordsK];omega)))
 go_wp2_with fail
 try rw[hW]
 refine HX0.out.mono ?_
 rintro e w1 ⟨rfl,hs1⟩
 have HS1:=hid hs1
 have kk:=cells14 ((HS1.out.box HJ.out (Nat.le_refl _) hzW).trans HC0.out)
 clear hs1 HX0
 have HX1:=hid (HS1.out.next (fun tb' h'=>jwname_any g tb' _ _ tn w1 h' (by simp[wordsK];omega)))
 go_wp2_with fail
 refine HX1.out.mono ?_
 rintro e w2 ⟨rfl,hs2⟩
 have HS2:=hid hs2
 have kk:=cells14 ((HS2.out.box HJ.out (Nat.le_refl _) hzW).trans HC0.out)
 clear hs2 HX1
 have HX2:=hid (HS2.out.next (fun tb' h'=>jwords_new g tb' _ _ [[86,65,76,85,69,83]] w2 h' (by simp) (by decide) (by simp[wordsK];omega)))
 go_wp2_with fail
 refine HX2.out.mono ?_
 rintro e w3 ⟨rfl,hs3⟩
 have HS3:=hid hs3
 have kk:=cells14 ((HS3.out.box HJ.out (Nat.le_refl _) hzW).trans HC0.out)
 clear hs3 HX2
 obtain⟨LA,hLA⟩:∃LA,L++wordsK [[73,78,83,69,82,84],[73,78,84,79]]++[nmT tn]++wordsK [[86,65,76,85,69,83]]=LA:=⟨_,rfl⟩
 rw[hLA] at HS3
 have hLAl:LA.length≤L.length+10:=by rw[← hLA];simp[wordsK]
 have HLA:=hid hLA
 clear hLA
 go_wp2_with fail
 go_loopw [4,5] (fun i _ wr=>∃(k:Nat),k≤rows.length∧i = .int .i64 k∧JWrote g tb W wr (LA++sepK (fxT [44]) ((rows.take k).map vrowK)) m) (fun i _ _=>rows.length-(intOf i).toNat)
 case atStart =>
  refine ⟨0,Nat.zero_le _,rfl,?_⟩
  simpa [sepK] using HS3.out
 case round =>
  clear HS3 kk
  obtain⟨k,hk,rfl,hq⟩:=hrel
  have kW:=cells14 ((hq.box HJ.out (Nat.le_refl _) hzW).trans HC0.out)
  by_cases hlt:k<rows.length
  ·obtain⟨x,hx⟩:∃x,rows[k]?=some x:=⟨_,List.getElem?_eq_getElem hlt⟩
   have hlt':((k:Int)<(rows.length:Int)):=by omega
   have hxm:=List.mem_of_getElem? hx
   have hst:=sepK_take vrowK rows k x hx
   have hsm:=sepK_mono vrowK rows (k+1)
   have hk8:k≤100000000:=by have:=sepK_ge vrowK rows;omega
   rw[hst,List.length_append,List.length_append] at hsm
   have HST:Hid (LA++sepK (fxT [44]) ((rows.take (k+1)).map vrowK)=LA++sepK (fxT [44]) ((rows.take k).map vrowK)++(if k=0 then [] else [fxT [44]])++vrowK x):=hid (by rw[hst];simp)
   have hLL:(LA++sepK (fxT [44]) ((rows.take k).map vrowK)).length+(if k=0 then ([]:List Tk) else [fxT [44]]).length+(vrowK x).length≤20000000:=by rw[List.length_append];omega
   have hif:(if k=0 then ([]:List Tk) else [fxT [44]]).length≤1:=by split<;>simp
   generalize LA++sepK (fxT [44]) ((rows.take k).map vrowK)=LL at hq hLL HST
   have hLL1:LL.length+1≤1000000000:=by omega
   have HXK:=hid hx
   have HS0:=hid hq
   have HX0:=hid (HS0.out.next (fun tb' h'=>jcomma_any g tb' _ _ k hk8 wr h' hLL1))
   clear hq hx hst hsm
   go_wp2_with fail
   refine HX0.out.mono ?_
   rintro e w1 ⟨rfl,hs1⟩
   have HS1:=hid hs1
   have kk:=cells14 ((hs1.box HJ.out (Nat.le_refl _) hzW).trans HC0.out)
   generalize (if k=0 then ([]:List Tk) else [fxT [44]])=CC at HS1 hs1 hLL hif HST
   clear HX0 HS0 kW
   have HX1:=hid (HS1.out.next (fun tb' h'=>jwords_new g tb' _ _ [[40]] w1 h' (by simp) (by decide) (by simp;omega)))
   go_wp2_with fail
   refine HX1.out.mono ?_
   rintro e w2 ⟨rfl,hs2⟩
   obtain⟨_,_,_,b,off,cs,rfl,_,hel,hcell⟩:=sl_get (HSL.out.to (T:=fun b=>b<g) (by decide) hs2.fr (fun b hb _=>⟨HJW.out.keeps b hb,hb⟩) (fun _ _ e=>e.to hs2.fr (fun b hb _=>⟨HJW.out.keeps b hb,hb⟩))) (show rows[k]?=some x from HXK.out)
   obtain⟨aa1,nn1,cc1,rfl,hay⟩:=hel
   have q0:=hcell 0 _ rfl
   simp only[Nat.add_zero,Nat.mul_one] at q0
   have hbl:b<w2.heap.size:=World.block_lt_of_cell? w2 _ q0
   obtain⟨rfl,hnn⟩:nn1=x.length∧nn1≤9223372036854775807:=by
    obtain⟨_,_,_,hf,hl1,hl2,_⟩:=hay
    simp only[Value.slice.injEq] at hf
    unfold maxLen at hl2
    omega
   obtain⟨tbo,hjo,hto,hfo⟩:=id hs2
   have hbx2:=(hs2.box HJ.out (Nat.le_refl _) hzW).trans HC0.out
   have hbw2:w.heap.size<w2.heap.size:=Nat.lt_of_lt_of_le hzW hs2.size
   have htbo : ∀b',b'=w.heap.size∨b'<g→¬(b'=g∨tbo=some b'):=fun b' hb' e=>by
    rcases hb' with rfl | hb'
    ·rcases e with e | e
     ·have:=HJ.out.lt;omega
     ·rcases hto _ e with e | e
      ·exact Nat.lt_irrefl _ (HJ.out.tbs _ e).2
      ·omega
    ·exact hjo.keeps b' hb' e
   obtain⟨_,_,_,b9,off9,cs9,hbe,hbS,_,_⟩:=sl_get (HSL.out.to (T:=fun b=>b<g) (by decide) hs2.fr (fun b hb _=>⟨HJW.out.keeps b hb,hb⟩) (fun _ _ e=>e.to hs2.fr (fun b hb _=>⟨HJW.out.keeps b hb,hb⟩))) (show rows[k]?=some x from HXK.out)
   simp only[Option.some.injEq,Addr.mk.injEq,and_true] at hbe
   obtain⟨rfl,rfl⟩:=hbe
   have HTO:=hid hto
   have HFO:=hid hfo
   have HJO:=hid hjo
   have HAY:=hid hay
   have HBX:=hid hbx2
   have HTBO:=hid htbo
   have HQ0:=hid q0
   obtain⟨LB,hLB⟩:∃LB,LL++CC++wordsK [[40]]=LB:=⟨_,rfl⟩
   rw[hLB] at HJO
   have hLBl:LB.length=LL.length+CC.length+1:=by rw[← hLB];simp[wordsK];omega
   have hxl:=sepK_ge litK x
   have hvl:(vrowK x).length=(sepK (fxT [44]) (x.map litK)).length+2:=by simp[vrowK]
   have HST2:Hid (LA++sepK (fxT [44]) ((rows.take (k+1)).map vrowK)=LB++sepK (fxT [44]) (x.map litK)++wordsK [[41]]):=hid (by rw[HST.out,← hLB];simp[vrowK,wordsK])
   have HB0:Hid (JWrote g tbo w2 w2 LB m):=hid HJO.out.here
   have hrow:=HRB.out x hxm
   clear hs1 hs2 HX1 HS1 hcell hay hjo hto hfo hbx2 htbo q0 hLB kk
   go_wp2_with fail
   go_loopw [5] (fun i wr=>∃(j:Nat),j≤x.length∧i = .int .i64 j∧JWrote g tbo w2 wr (LB++sepK (fxT [44]) ((x.take j).map litK)) m) (fun i _=>x.length-(intOf i).toNat)
   case atStart=>exact⟨0,Nat.zero_le _,rfl,by simpa [sepK] using HB0.out⟩
   case round =>
    clear HB0
    obtain⟨j,hj,rfl,hq⟩:=hrel
    have kk:=cells14 ((hq.fr.block w.heap.size hbw2 (HTBO.out _ (.inl rfl))).trans HBX.out)
    have r0:=hq.fr.cell HQ0.out (HTBO.out b (.inr hbS))
    by_cases hjt:j<x.length
    ·obtain⟨y,hy⟩:∃y,x[j]?=some y:=⟨_,List.getElem?_eq_getElem hjt⟩
     have hjt':((j:Int)<(x.length:Int)):=by omega
     have hst:=sepK_take litK x j y hy
     have hsm:=sepK_mono litK x (j+1)
     have hj8:j≤100000000:=by omega
     have hyv:valOk y=true:=List.all_eq_true.1 hrow y (List.mem_of_getElem? hy)
     rw[hst,List.length_append,List.length_append] at hsm
     have HSJ:Hid (LB++sepK (fxT [44]) ((x.take (j+1)).map litK)=LB++sepK (fxT [44]) ((x.take j).map litK)++(if j=0 then [] else [fxT [44]])++litK y):=hid (by rw[hst];simp)
     have hLJ:(LB++sepK (fxT [44]) ((x.take j).map litK)).length+(if j=0 then ([]:List Tk) else [fxT [44]]).length+(litK y).length≤50000000:=by rw[List.length_append];omega
     have hjf:(if j=0 then ([]:List Tk) else [fxT [44]]).length≤1:=by split<;>simp
     generalize LB++sepK (fxT [44]) ((x.take j).map litK)=LJ at hq hLJ HSJ
     have hLJ1:LJ.length+1≤1000000000:=by omega
     have HYK:=hid hy
     have HS0:=hid hq
     have HX0:=hid (HS0.out.next (fun tb' h'=>jcomma_any g tb' _ _ j hj8 wr h' hLJ1))
     clear hq hy hst hsm
     go_wp2_with fail
     refine HX0.out.mono ?_
     rintro e w3 ⟨rfl,hs3⟩
     generalize (if j=0 then ([]:List Tk) else [fxT [44]])=CJ at hs3 hLJ hjf HSJ
     obtain⟨LL3,hLL3⟩:∃LL3,LJ++CJ=LL3:=⟨_,rfl⟩
     rw[hLL3] at hs3 HSJ
     have hL3l:LL3.length+(litK y).length≤50000000:=by rw[← hLL3,List.length_append];omega
     have HS3:=hid hs3
     have hbx3:=(hs3.fr.block w.heap.size hbw2 (HTBO.out _ (.inl rfl))).trans HBX.out
     have hbl3:w.heap.size<w3.heap.size:=Nat.lt_of_lt_of_le hbw2 hs3.size
     have hrc3:=hs3.fr.cell HQ0.out (HTBO.out b (.inr hbS))
     have hbb3:b<w3.heap.size:=Nat.lt_of_lt_of_le hbl hs3.size
     obtain⟨_,_,_,b2,off2,cs2,rfl,hb2S,hel2,hcell2⟩:=sl_get (HAY.out.to (T:=fun b=>b<g) (by decide) hs3.fr (fun b hb _=>⟨HTBO.out b (.inr hb),hb⟩) (fun _ _ e=>e)) (show x[j]?=some y from HYK.out)
     obtain rfl:=hel2
     have v0:=hcell2 0 _ rfl
     have v1:=hcell2 1 _ rfl
     have v2:=hcell2 2 _ rfl
     simp only[Nat.add_zero] at v0
     have hb23:b2<w3.heap.size:=World.block_lt_of_cell? w3 _ v0
     obtain⟨tb1,hj1,ht1,hf1⟩:=hs3
     have HT1:=hid ht1
     have HF1:=hid hf1
     have hgW:g<w3.heap.size:=hj1.lt
     have HJ1:=hid hj1
     obtain⟨lv,hlv,hlo,htb⟩:=id hj1
     obtain⟨la,lb,lc,rfl⟩:∃la lb lc,lv = .slice la lb lc:=by
      rcases hlo.2 with⟨rfl,_⟩ | ⟨_,_,_,rfl,_⟩
      ·exact⟨_,_,_,rfl⟩
      ·exact⟨_,_,_,rfl⟩
     have HGV:=hid hlv
     have HRW:Hid (Row (g+1) w3 (.slice la lb lc) LL3):=hid hlo
     have HTB:=hid htb
     have htbb : ∀b',b'=w.heap.size∨b'<g→tb1≠some b':=fun b' hb' e=>by
      rcases ht1 _ e with e | e
      ·exact HTBO.out b' hb' (.inr e)
      ·rcases hb' with rfl | hb'
       ·omega
       ·have:=(hj1.tbs _ (by assumption)).1;omega
     have HSK:Hid (∀V,Below w3.heap.size w3 V→(fun V:World=>V.cell? ⟨g,0,none⟩=some (.slice la lb lc)∧V.cell? ⟨w.heap.size,4,none⟩=some (.slice (some ⟨b,off,none⟩) rows.length c2)∧(V.cell? ⟨b,off+k,none⟩=some (.slice (some ⟨b2,off2,none⟩) x.length cc1)∧V.cell? ⟨b2,off2+j*3,none⟩=some (.int .i64 y.k)∧V.cell? ⟨b2,off2+j*3+1,none⟩=some (.int .i64 y.n)∧V.cell? ⟨b2,off2+j*3+2,none⟩=some (.string (str8 y.s)))) V):=hid (fun V hV=>⟨(cells2J ((hV.block g hgW).trans HGV.out)).1,(cells14 ((hV.block w.heap.size hbl3).trans hbx3)).2.2.2.2.1,(hV.cell (p:=⟨b,off+k,none⟩) hbb3).trans hrc3,(hV.cell (p:=⟨b2,off2+j*3,none⟩) hb23).trans v0,(hV.cell (p:=⟨b2,off2+j*3+1,none⟩) hb23).trans v1,(hV.cell (p:=⟨b2,off2+j*3+2,none⟩) hb23).trans v2⟩)
     have HS4:Hid (∀(V U:World),Below w3.heap.size w3 U→U.grownBy V (Value.slice la lb lc).ownBlock→V.heap[g]?=some (.cells #[.slice la lb lc,.int .i64 m] 64)→(fun V:World=>V.cell? ⟨g,0,none⟩=some (.slice la lb lc)∧V.cell? ⟨w.heap.size,4,none⟩=some (.slice (some ⟨b,off,none⟩) rows.length c2)∧(V.cell? ⟨b,off+k,none⟩=some (.slice (some ⟨b2,off2,none⟩) x.length cc1)∧V.cell? ⟨b2,off2+j*3,none⟩=some (.int .i64 y.k)∧V.cell? ⟨b2,off2+j*3+1,none⟩=some (.int .i64 y.n)∧V.cell? ⟨b2,off2+j*3+2,none⟩=some (.string (str8 y.s)))) V):=hid (fun V U hU hg hV=>by
      obtain⟨_,s2,s3,s4,s5,s6⟩:=HSK.out U hU
      have far : ∀(p:Addr),p.block<w3.heap.size→(p.block=w.heap.size∨p.block<g)→V.cell? p=U.cell? p:=fun p hp hb'=>hg.cell_far p (Nat.lt_of_lt_of_le hp hU.size) (fun e=>htbb _ hb' (HTB.out.symm.trans e.symm))
      exact⟨(cells2J hV).1,(far _ hbl3 (.inl rfl)).trans s2,(far _ hbb3 (.inr hbS)).trans s3,(far _ hb23 (.inr hb2S)).trans s4,(far _ hb23 (.inr hb2S)).trans s5,(far _ hb23 (.inr hb2S)).trans s6⟩)
     have HLT:=hid (jliteral_any y hyv w3.drew)
     have hlne:litK y≠[]:=by unfold litK;split;simp;split;simp;split<;>simp
     clear ht1 hf1 hj1 hlv hlo htb hbx3 htbb HX0 HS0 hcell2 v0 v1 v2 hLL3 hrc3 kk r0
     have hS0:=HSK.out w3.drew (Below.refl _ w3).drew
     go_wp2_with fail
     refine last_region (fun V:World=>V.cell? ⟨g,0,none⟩=some (.slice la lb lc)∧V.cell? ⟨w.heap.size,4,none⟩=some (.slice (some ⟨b,off,none⟩) rows.length c2)∧(V.cell? ⟨b,off+k,none⟩=some (.slice (some ⟨b2,off2,none⟩) x.length cc1)∧V.cell? ⟨b2,off2+j*3,none⟩=some (.int .i64 y.k)∧V.cell? ⟨b2,off2+j*3+1,none⟩=some (.int .i64 y.n)∧V.cell? ⟨b2,off2+j*3+2,none⟩=some (.string (str8 y.s)))) 17 (by kernel_rfl) ?_
     refine wpAnyE_take (i:=0) (v:=?_) rfl (by kernel_rfl) (by kernel_rfl) (by kernel_rfl) (by kernel_rfl) (by kernel_rfl) (fun _ _ _ h=>h) (Or.inl ⟨by rfl,?_⟩) (by assumption) ?_;rotate_left;(focus (intro w hSw;(try dsimp only at hSw);(try obtain⟨hSw1,hSw2,hSw3⟩:=hSw);go_simp<;>with_reducible rfl));(try simp only[Act.put,List.getElem_toArray,List.getElem_cons_zero,List.getElem_cons_succ,List.setIfInBounds_toArray,List.set_cons_zero,List.set_cons_succ])
     refine wpAnyE_take (i:=1) (v:=?_) rfl (by kernel_rfl) (by kernel_rfl) (by kernel_rfl) (by kernel_rfl) (by kernel_rfl) (fun _ _ _ h=>h) (Or.inl ⟨by rfl,?_⟩) (by assumption) ?_;rotate_left;(focus (intro w hSw;(try dsimp only at hSw);(try obtain⟨hSw1,hSw2,hSw3⟩:=hSw);go_simp<;>with_reducible rfl));(try simp only[Act.put,List.getElem_toArray,List.getElem_cons_zero,List.getElem_cons_succ,List.setIfInBounds_toArray,List.set_cons_zero,List.set_cons_succ])
     refine wpAnyE_take (i:=2) (v:=?_) rfl (by kernel_rfl) (by kernel_rfl) (by kernel_rfl) (by kernel_rfl) (by kernel_rfl) (fun _ _ _ h=>h) (Or.inl ⟨by rfl,?_⟩) (by assumption) ?_;rotate_left;(focus (intro w hSw;(try dsimp only at hSw);(try obtain⟨hSw1,hSw2,hSw3⟩:=hSw);go_simp<;>with_reducible rfl));(try simp only[Act.put,List.getElem_toArray,List.getElem_cons_zero,List.getElem_cons_succ,List.setIfInBounds_toArray,List.set_cons_zero,List.set_cons_succ])
     refine wpAnyE_take (i:=3) (v:=?_) rfl (by kernel_rfl) (by kernel_rfl) (by kernel_rfl) (by kernel_rfl) (by kernel_rfl) (fun _ _ _ h=>h) (Or.inl ⟨by rfl,?_⟩) (by assumption) ?_;rotate_left;(focus (intro w hSw;(try dsimp only at hSw);(try obtain⟨hSw1,hSw2,hSw3⟩:=hSw);go_simp<;>with_reducible rfl));(try simp only[Act.put,List.getElem_toArray,List.getElem_cons_zero,List.getElem_cons_succ,List.setIfInBounds_toArray,List.set_cons_zero,List.set_cons_succ])
     refine wpAnyE_take (i:=4) (v:=?_) rfl (by kernel_rfl) (by kernel_rfl) (by kernel_rfl) (by kernel_rfl) (by kernel_rfl) (fun _ _ _ h=>h) (Or.inl ⟨by rfl,?_⟩) (by assumption) ?_;rotate_left;(focus (intro w hSw;(try dsimp only at hSw);(try obtain⟨hSw1,hSw2,hSw3⟩:=hSw);go_simp<;>with_reducible rfl));(try simp only[Act.put,List.getElem_toArray,List.getElem_cons_zero,List.getElem_cons_succ,List.setIfInBounds_toArray,List.set_cons_zero,List.set_cons_succ])
     refine wpAnyE_take (i:=5) (v:=?_) rfl (by kernel_rfl) (by kernel_rfl) (by kernel_rfl) (by kernel_rfl) (by kernel_rfl) (fun _ _ _ h=>h) (Or.inl ⟨by rfl,?_⟩) (by assumption) ?_;rotate_left;(focus (intro w hSw;(try dsimp only at hSw);(try obtain⟨hSw1,hSw2,hSw3⟩:=hSw);go_simp<;>with_reducible rfl));(try simp only[Act.put,List.getElem_toArray,List.getElem_cons_zero,List.getElem_cons_succ,List.setIfInBounds_toArray,List.set_cons_zero,List.set_cons_succ])
     refine wpAnyE_take (i:=6) (v:=?_) rfl (by kernel_rfl) (by kernel_rfl) (by kernel_rfl) (by kernel_rfl) (by kernel_rfl) (fun _ _ _ h=>h) (Or.inl ⟨by rfl,?_⟩) (by assumption) ?_;rotate_left;(focus (intro w hSw;(try dsimp only at hSw);(try obtain⟨hSw1,hSw2,hSw3⟩:=hSw);go_simp<;>with_reducible rfl));(try simp only[Act.put,List.getElem_toArray,List.getElem_cons_zero,List.getElem_cons_succ,List.setIfInBounds_toArray,List.set_cons_zero,List.set_cons_succ])
     refine wpAnyE_take (i:=7) (v:=?_) rfl (by kernel_rfl) (by kernel_rfl) (by kernel_rfl) (by kernel_rfl) (by kernel_rfl) (fun _ _ _ h=>h) (Or.inl ⟨by rfl,?_⟩) (by assumption) ?_;rotate_left;(focus (intro w hSw;(try dsimp only at hSw);(try obtain⟨hSw1,hSw2,hSw3⟩:=hSw);go_simp<;>with_reducible rfl));(try simp only[Act.put,List.getElem_toArray,List.getElem_cons_zero,List.getElem_cons_succ,List.setIfInBounds_toArray,List.set_cons_zero,List.set_cons_succ])
     refine wpAnyE_take (i:=8) (v:=?_) rfl (by kernel_rfl) (by kernel_rfl) (by kernel_rfl) (by kernel_rfl) (by kernel_rfl) (fun _ _ _ h=>h) (Or.inl ⟨by rfl,?_⟩) (by assumption) ?_;rotate_left;(focus (intro w hSw;(try dsimp only at hSw);(try obtain⟨hSw1,hSw2,hSw3⟩:=hSw);go_simp<;>with_reducible rfl));(try simp only[Act.put,List.getElem_toArray,List.getElem_cons_zero,List.getElem_cons_succ,List.setIfInBounds_toArray,List.set_cons_zero,List.set_cons_succ])
     refine wpAnyE_take (i:=9) (v:=?_) rfl (by kernel_rfl) (by kernel_rfl) (by kernel_rfl) (by kernel_rfl) (by kernel_rfl) (fun _ _ _ h=>h) (Or.inl ⟨by rfl,?_⟩) (by assumption) ?_;rotate_left;(focus (intro w hSw;(try dsimp only at hSw);(try obtain⟨hSw1,hSw2,hSw3⟩:=hSw);go_simp<;>with_reducible rfl));(try simp only[Act.put,List.getElem_toArray,List.getElem_cons_zero,List.getElem_cons_succ,List.setIfInBounds_toArray,List.set_cons_zero,List.set_cons_succ])
     refine wpAnyE_take (i:=10) (v:=?_) rfl (by kernel_rfl) (by kernel_rfl) (by kernel_rfl) (by kernel_rfl) (by kernel_rfl) (fun _ _ _ h=>h) (Or.inl ⟨by rfl,?_⟩) (by assumption) ?_;rotate_left;(focus (intro w hSw;(try dsimp only at hSw);(try obtain⟨hSw1,hSw2,hSw3⟩:=hSw);go_simp<;>with_reducible rfl));(try simp only[Act.put,List.getElem_toArray,List.getElem_cons_zero,List.getElem_cons_succ,List.setIfInBounds_toArray,List.set_cons_zero,List.set_cons_succ])
     refine wpAnyE_take (i:=11) (v:=?_) rfl (by kernel_rfl) (by kernel_rfl) (by kernel_rfl) (by kernel_rfl) (by kernel_rfl) (fun _ _ _ h=>h) (Or.inl ⟨by rfl,?_⟩) (by assumption) ?_;rotate_left;(focus (intro w hSw;(try dsimp only at hSw);(try obtain⟨hSw1,hSw2,hSw3⟩:=hSw);go_simp<;>with_reducible rfl));(try simp only[Act.put,List.getElem_toArray,List.getElem_cons_zero,List.getElem_cons_succ,List.setIfInBounds_toArray,List.set_cons_zero,List.set_cons_succ])
     refine wpAnyE_take (i:=12) (v:=.agg #[.int .i64 y.k,.int .i64 y.n,.string (str8 y.s)]) rfl (by kernel_rfl) (by kernel_rfl) (by kernel_rfl) (by kernel_rfl) (by kernel_rfl) (fun _ _ _ h=>h) (Or.inl ⟨by rfl,fun V hV=>by obtain⟨_,_,_,s4,s5,s6⟩:=hV;go_simp<;>rfl⟩) (by assumption) ?_
     simp only[Act.put,List.getElem_toArray,List.getElem_cons_zero,List.getElem_cons_succ,List.setIfInBounds_toArray,List.set_cons_zero,List.set_cons_succ]
     refine takeE_call (i:=13) #[.agg #[.int .i64 y.k,.int .i64 y.n,.string (str8 y.s)]] (fun u w'=>w'.ownsRow w3.heap.size 119 4 u (litK y).length (tcs (litK y))∧Below w3.drew.heap.size w3.drew w') (by kernel_rfl) rfl rfl rfl (by kernel_rfl) (enters_of Tryz.func88 (by kernel_rfl) rfl) (HLT.out.mono fun e w' ⟨u,h1,h2,h3⟩=>⟨u,h1,h2,h3⟩) ?_
     rintro u U ⟨hou,hb1⟩
     have hbWU:Below w3.heap.size w3 U:=(Below.refl _ w3).drew.trans hb1
     refine ⟨HSK.out U hbWU,?_⟩
     obtain⟨gu,cu,hue,hgu1,hgu2,hcu⟩:=Row.some (L:=litK y) hou hlne
     subst hue
     simp only[Act.put,List.getElem_toArray,List.getElem_cons_zero,List.getElem_cons_succ,List.setIfInBounds_toArray,List.set_cons_zero,List.set_cons_succ]
     obtain⟨i0,hi,hz0,hz1,hz2⟩:=info_parts Tryz.infoTok
     have hownU:U.ownsRow (g+1) 119 4 (.slice la lb lc) LL3.length (tcs LL3):=HRW.out.on hbWU
     have hgU:g+1≤U.heap.size:=by have:=hbWU.size;omega
     have hlp:0<(litK y).length:=List.length_pos_iff.2 hlne
     refine takeE_append (i:=14) (s:=.tmp 72) (x:=.tmp 81) (t:=55) (by kernel_rfl) rfl rfl rfl (g+1) 119 i0 _ 4 40 Tryz.underlying55 hi hz0 hz1 hz2 rfl (by decide) (.slice la lb lc) LL3.length (tcs LL3) (by kernel_rfl) hownU ⟨gu,0,none⟩ (litK y).length cu (tcs (litK y)) (by kernel_rfl) (by rw[tcs_length]) hcu (tcs_one _) hlp (by unfold maxLen;omega) (by omega) hgU ?_
     intro gg cap W3 hown3 hgrow hat hgl3
     have hV3:W3.heap[g]?=some (.cells #[.slice la lb lc,.int .i64 m] 64):=(hgrow.block g (by omega) (fun e=>by have:=(hownU.lt g e.symm).1;omega)).trans ((hbWU.block g hgW).trans HGV.out)
     have k3:=cells2J hV3
     have hS3:(fun V:World=>V.cell? ⟨g,0,none⟩=some (.slice la lb lc)∧V.cell? ⟨w.heap.size,4,none⟩=some (.slice (some ⟨b,off,none⟩) rows.length c2)∧(V.cell? ⟨b,off+k,none⟩=some (.slice (some ⟨b2,off2,none⟩) x.length cc1)∧V.cell? ⟨b2,off2+j*3,none⟩=some (.int .i64 y.k)∧V.cell? ⟨b2,off2+j*3+1,none⟩=some (.int .i64 y.n)∧V.cell? ⟨b2,off2+j*3+2,none⟩=some (.string (str8 y.s)))) W3:=HS4.out W3 U hbWU hgrow hV3
     have HZ:Hid (JWrote g tb1 w3 (W3.setCell ⟨g,0,none⟩ (.slice (some ⟨gg,0,none⟩) (LL3.length+(litK y).length) cap)) (LL3++litK y) m):=hid (jw_set0 HJ1.out hV3 (by
      show W3.ownsRow (g+1) 119 4 _ (LL3++litK y).length (tcs (LL3++litK y))
      rw[List.length_append,tcs_app]
      exact hown3) ((Spares.of_new hbWU).then (Spares.of_grown hgrow (fun k hk=>.inr (HTB.out ▸ hk)))) (by
      rcases hat with e | e
      ·exact .inl (e.symm.trans HTB.out)
      ·exact .inr ⟨gg,rfl,by rw[e];exact hbWU.size⟩))
     refine ⟨hS3,?_⟩
     simp only[Act.put,List.getElem_toArray,List.getElem_cons_zero,List.getElem_cons_succ,List.setIfInBounds_toArray,List.set_cons_zero,List.set_cons_succ]
     refine wpAnyE_take (i:=15) (v:=?_) rfl (by kernel_rfl) (by kernel_rfl) (by kernel_rfl) (by kernel_rfl) (by kernel_rfl) (fun _ _ _ h=>h) (Or.inl ⟨by rfl,?_⟩) (by assumption) ?_;rotate_left;(focus (intro w hSw;(try dsimp only at hSw);(try obtain⟨hSw1,hSw2,hSw3⟩:=hSw);go_simp<;>with_reducible rfl));(try simp only[Act.put,List.getElem_toArray,List.getElem_cons_zero,List.getElem_cons_succ,List.setIfInBounds_toArray,List.set_cons_zero,List.set_cons_succ])
     refine wpAnyE_take (i:=16) (v:=?_) rfl (by kernel_rfl) (by kernel_rfl) (by kernel_rfl) (by kernel_rfl) (by kernel_rfl) (fun _ _ _ h=>h) (Or.inl ⟨by rfl,?_⟩) (by assumption) ?_;rotate_left;(focus (intro w hSw;(try dsimp only at hSw);(try obtain⟨hSw1,hSw2,hSw3⟩:=hSw);go_simp<;>with_reducible rfl));(try simp only[Act.put,List.getElem_toArray,List.getElem_cons_zero,List.getElem_cons_succ,List.setIfInBounds_toArray,List.set_cons_zero,List.set_cons_succ])
     refine takeE_store (i:=17) (pi:=⟨g,0,none⟩) (v:=.slice (some ⟨gg,0,none⟩) (LL3.length+(litK y).length) cap) Tryz.infoToks (by kernel_rfl) rfl rfl rfl rfl (by kernel_rfl) (by kernel_rfl) rfl rfl k3.1 (k3.2.2 0) (.inr rfl) ?_
     refine wpAnyE_done (by kernel_rfl) ?_ _
     show Only _ .normal _ _
     unfold Only
     have HQ:=hid (JWrote.then HT1.out HF1.out HZ.out)
     generalize W3.setCell ⟨g,0,none⟩ (.slice (some ⟨gg,0,none⟩) (LL3.length+(litK y).length) cap)=w4 at HQ ⊢
     rw[← HSJ.out] at HQ
     clear hown3 hgrow hat hownU hS3 hb1 hbWU hou hcu k3 hV3 hi hz0 hz1 hz2 HZ HSK HS4 HRW HGV HTB HJ1 HT1 HF1 hS0 HS3 HLT
     go_wp2
     go_roundw
     case rel=>exact⟨j+1,by omega,by go_num,HQ.out⟩
     case measure=>simp[intOf];omega
    ·have hjt' : ¬((j:Int)<(x.length:Int)):=by omega
     have HS1:Hid (JWrote g tb W wr (LB++sepK (fxT [44]) (x.map litK)) m):=hid (by rw[List.take_of_length_le (by omega)] at hq;exact JWrote.then HTO.out HFO.out hq)
     have hLE:LB.length+(sepK (fxT [44]) (x.map litK)).length+1≤1000000000:=by omega
     have HX1:=hid (HS1.out.next (fun tb' h'=>jwords_new g tb' _ _ [[41]] wr h' (by simp) (by decide) (by simp;omega)))
     clear hq
     go_wp2_with fail
     refine HX1.out.mono ?_
     rintro e w3 ⟨rfl,hs3⟩
     have HQ:=hid hs3
     rw[← HST2.out] at HQ
     clear hs3 HX1 HS1
     go_wp2
     go_roundw
     case rel=>exact⟨k+1,by omega,by go_num,HQ.out⟩
     case measure=>simp[intOf];omega
  ·have hlt' : ¬((k:Int)<(rows.length:Int)):=by omega
   have HS1:Hid (JWrote g tb W wr (LA++sepK (fxT [44]) (rows.map vrowK)) m):=hid (by rw[List.take_of_length_le (by omega)] at hq;exact hq)
   clear hq
   have HQ:Hid (JWrote g tb w wr T M):=hid (by
    have h9:=JWrote.new HBW.out HS1.out
    rw[← HT.out,← HM.out]
    rw[← HLA.out] at h9
    simpa [wordsK] using h9)
   clear HS1
   go_wp2
   exact bodyPost_end (v:=.tuple #[]) (by simp[results,Tryz.results34,go_sem]) rfl ⟨rfl,HQ.out⟩
end Go.Proofs.YtnidnipiihhnaaaGreatDoor
