/- Packed for the hand-in: WTopS WRgA WSmall -/
import Derived.Test.YtnidnipiihhnaaaGreatDoorX14
import Derived.Test.YtnidnipiihhnaaaGreatDoorX20
import Derived.Test.YtnidnipiihhnaaaGreatDoorX21
import Derived.Test.YtnidnipiihhnaaaGreatDoorX26
namespace Go.Proofs.YtnidnipiihhnaaaGreatDoor
open Go.RowKit Go.Shelf
set_option linter.unusedSimpArgs false
set_option linter.unusedVariables false
set_option maxRecDepth 20000
set_option maxHeartbeats 8000000
def scrA (l:List St):List UInt8 × Int:=if 8<l.length then ([],2) else if areB l 1 8 rightS=true then srcA (sepK (fxT [59]) (l.map tkS)) ((maxL (l.map dpS):Nat):Int) else ([],4)
theorem printScript_any (S:Nat→Prop) (l:List St) (v:Value) (w:World) (hT:TabW w) (hR : ∀s∈l,RgS s) (hv:SlAt 14 StE S w l v) (hz:l.length≤8→∀s∈l,rightS s=true→∀e∈exsS s,exZ e≤5000) :
  Calls Tryz.prog 15 #[v] w fun e w'=>e = .returned (.tuple #[.string (str8 (scrA l).1),.int .i64 (scrA l).2])∧Below w.heap.size w w':=by
 have HV:=hid hv
 obtain⟨aa,cc,css,rfl,h1,h2,_⟩:=hv
 unfold maxLen at h2
 unfold scrA
 by_cases h8:8<l.length
 ·rw[if_pos h8]
  have h8':(8:Int)<(l.length:Int):=by omega
  clear hz hR HV hT
  go_enter Tryz.func15,Tryz.ntmps15
  go_wp2
  exact bodyPost_ret (v:=.tuple #[.string ⟨#[]⟩,.int .i64 2]) (by simp[results,Tryz.results15,go_sem]) rfl ⟨rfl,Below.refl _ _⟩
 ·rw[if_neg h8]
  have h8' : ¬(8:Int)<(l.length:Int):=by omega
  have HA:=hid (areSt_any S 29 (enters_of Tryz.func29 (by kernel_rfl) rfl) rightS l _ 1 8 w (by decide) (by decide) HV.out (hid (fun x hx V hb cs hcs=>rightStatement_any S x cs V (hR x hx) hcs)))
  have HTW:=hid hT
  clear hR hT
  cases ha:areB l 1 8 rightS with
  |
   false =>
   rw[ha] at HA
   rw[if_neg Bool.false_ne_true]
   clear ha hz HV HTW
   go_enter Tryz.func15,Tryz.ntmps15
   go_wp2_with fail
   refine HA.out.mono ?_
   rintro e w1 ⟨rfl,hb1⟩
   have HB1:=hid hb1
   clear hb1 HA
   go_wp2
   exact bodyPost_ret (v:=.tuple #[.string ⟨#[]⟩,.int .i64 4]) (by simp[results,Tryz.results15,go_sem]) rfl ⟨rfl,HB1.out⟩
  |
   true =>
   rw[ha] at HA
   rw[if_pos rfl]
   have hall:=areB_mem ha
   have hln:=(areB_len ha).2
   have hz2 : ∀s∈l,∀e∈exsS s,exZ e≤5000:=fun s hs=>hz hln s hs (hall s hs)
   have htl:=sepK_le (fxT [59]) tkS 501000 l (fun s hs=>tkS_le (hall s hs) (hz2 s hs))
   have hdl:maxL (l.map dpS)≤10000:=maxL_up (fun n hn=>by
    obtain⟨s,hs,rfl⟩:=List.mem_map.1 hn
    exact dpS_le (hz2 s hs))
   have htl2:(sepK (fxT [59]) (l.map tkS)).length≤4008008:=Nat.le_trans htl (Nat.mul_le_mul_right _ hln)
   have HDP:Hid (∀s∈l,dpS s≤10000):=hid (fun s hs=>dpS_le (hz2 s hs))
   have HOK:Hid (∀t∈sepK (fxT [59]) (l.map tkS),OkT t):=hid (fun t ht=>(AllG.sep (good_fx (by decide)) (fun x hx=>by
    obtain⟨s,hs,rfl⟩:=List.mem_map.1 hx
    exact state_good (hall s hs)) t ht).ok)
   have HAL:=hid hall
   have HSW:Hid (∀(V:World) (g:Nat),WrAt V g none [] 0 0→SlAt 14 StE (fun b=>b<g) V l (.slice aa l.length cc)→Calls Tryz.prog 30 #[.pointer (some ⟨g,0,none⟩),.string ⟨#[59]⟩,.slice aa l.length cc,.func (.func 31) #[.pointer (some ⟨g,0,none⟩)] #[]] V fun e w'=>e = .returned (.tuple #[])∧Wrote g none V w' ([]++sepK (fxT [59]) (l.map tkS)) 0 (max 0 (0+((maxL (l.map dpS):Nat):Int)))):=hid (fun V g hV hS=>listSt_w 31 (enters_of Tryz.func31 (by kernel_rfl) rfl) tkS dpS [59] (by decide) l _ g none [] 0 0 V hV hS (by decide) (by decide) (fun x hx=>by have:=HDP.out x hx;omega) (by show 0+_≤_;omega) (hid (fun x hxm U tb2 L2 m2 hU cs hcs hl2 h3 h4=>statement_w x (HAL.out x hxm) cs g tb2 L2 0 m2 U hU hcs hl2 (by decide) h3 h4 (by have:=HDP.out x hxm;omega))))
   obtain⟨R,hR⟩:∃R,srcA (sepK (fxT [59]) (l.map tkS)) ((maxL (l.map dpS):Nat):Int)=R:=⟨_,rfl⟩
   rw[hR]
   have HRR:=hid hR
   clear hR ha hall hz hz2 htl HAL HDP
   generalize sepK (fxT [59]) (l.map tkS)=T at HSW HOK HRR htl2
   generalize maxL (l.map dpS)=D at HSW HRR hdl
   go_enter Tryz.func15,Tryz.ntmps15
   go_wp2_with fail
   refine HA.out.mono ?_
   rintro e w1 ⟨rfl,hb1⟩
   obtain⟨V,hV,hbV,hzV,hwV⟩:=new_wr w1 (HTW.out.on hb1)
   have hB1:=hb1.trans (hbV.mono hb1.size)
   have hle1:w.heap.size≤w1.heap.size:=hb1.size
   have hsV:SlAt 14 StE (fun b=>b<w1.heap.size) V l (.slice aa l.length cc):=by
    have hk:=Spares.of_new (S:=fun _=>False) hb1
    have hk2:=Spares.of_new (S:=fun _=>False) hbV
    have a1:SlAt 14 StE (fun b=>b<w1.heap.size) w1 l (.slice aa l.length cc):=HV.out.to (by decide) hk (fun b _ hb=>⟨id,Nat.lt_of_lt_of_le hb hb1.size⟩) (fun _ _ e=>e.to hk (fun b _ hb=>⟨id,Nat.lt_of_lt_of_le hb hb1.size⟩))
    exact a1.to (by decide) hk2 (fun b hb _=>⟨id,hb⟩) (fun _ _ e=>e.to hk2 (fun b hb _=>⟨id,hb⟩))
   have HL:=hid (HSW.out V w1.heap.size hwV hsV)
   have HBV:=hid hB1
   clear hb1 hB1 HA hbV hwV hsV HSW
   go_wp2_with fail
   try rw[hV]
   refine HL.out.mono ?_
   rintro e w2 ⟨rfl,tb2,hw2,ht2,hf2⟩
   rw[List.nil_append] at hw2
   have e1:max (0:Int) (0+(D:Int))=(D:Int):=by omega
   rw[e1] at hw2
   have HS:=hid (source_w _ _ _ _ _ w2 hw2 HOK.out (by omega))
   have HB2:Hid (Below w.heap.size w w2):=hid (HBV.out.trans (hf2.below (fun i hi=>by
    rcases hi with rfl | e
    ·omega
    ·cases e) (by omega)))
   clear hw2 ht2 hf2 HL e1
   rw[HRR.out] at HS
   go_wp2_with fail
   refine HS.out.mono ?_
   rintro e w3 ⟨rfl,hb3⟩
   have HB3:=hid (HB2.out.trans (hb3.mono HB2.out.size))
   clear hb3 HS
   go_wp2
   exact bodyPost_ret (v:=.tuple #[.string (str8 R.1),.int .i64 R.2]) (by simp[results,Tryz.results15,go_sem]) rfl ⟨rfl,HB3.out⟩
end Go.Proofs.YtnidnipiihhnaaaGreatDoor
namespace Go.Proofs.YtnidnipiihhnaaaGreatDoor
set_option linter.unusedSimpArgs false
set_option linter.unusedVariables false
set_option maxHeartbeats 8000000
theorem nameOk_len {s:List UInt8} (h:nameOk s=true):s.length≤16:=by
 unfold nameOk at h
 simp only[Bool.and_eq_true,decide_eq_true_eq] at h
 exact h.2.1
theorem valOk_rg {v:Vl} (h:valOk v=true):RgV v:=by
 rcases val_kind h with⟨_,h2,h3⟩ | ⟨_,h2,h3⟩ | ⟨_,h2,h3,h4⟩
 ·refine ⟨by omega,by omega,by omega⟩
 ·refine ⟨by omega,by omega,by rw[h3];simp⟩
 ·refine ⟨by omega,by omega,by rw[h2];simp⟩
theorem tm_rg (t:Tm) (h:t.ok):RgE t.ex:=by
 have z:RgV zV:=⟨by decide,by decide,by decide⟩
 have one : ∀(k op:Int) (l:List Ex),(∀x∈l,RgE x)→RgE (.mk k op [] [] zV l):=fun k op l hl=>.mk k op _ _ _ _ z.1 z.2.1 z.2.2 (by simp) (by simp) hl
 induction t with
 |
  val v =>
  have hv:=valOk_rg (v:=v) h
  exact .mk 1 0 _ _ _ _ hv.1 hv.2.1 hv.2.2 (by simp) (by simp) (by simp)
 |
  col t n =>
  have hn:=nameOk_len h.1
  have ht:t.length≤16:=by
   rcases h.2 with e | e
   ·rw[e];simp
   ·exact nameOk_len e
  exact .mk 2 0 _ _ _ _ z.1 z.2.1 z.2.2 (by omega) (by omega) (by simp)
 |
  op o a b ha hb =>
  refine one 3 o _ (fun x hx=>?_)
  rcases List.mem_cons.1 hx with rfl | hx
  ·exact ha h.2.2.1
  ·rw[List.mem_singleton.1 hx];exact hb h.2.2.2
 | not a ha=>exact one 4 0 _ (fun x hx=>by rw[List.mem_singleton.1 hx];exact ha h.2)
 | neg a ha=>exact one 5 0 _ (fun x hx=>by rw[List.mem_singleton.1 hx];exact ha h)
 | nul a ha=>exact one 6 0 _ (fun x hx=>by rw[List.mem_singleton.1 hx];exact ha h)
 | nnul a ha=>exact one 4 0 _ (fun x hx=>by rw[List.mem_singleton.1 hx];exact one 6 0 _ (fun x hx=>by rw[List.mem_singleton.1 hx];exact ha h))
theorem right_rg {x:Ex} (h:rightE x=true):RgE x:=by
 obtain⟨h1,h2⟩:=right_ok h
 rw[← h2]
 exact tm_rg _ h1
theorem colE_rg {x:Ex} (h:colEB x=true):RgE x:=right_rg (colE_right h)
theorem right_rgS {s:St} (h:rightS s=true):RgS s:=by
 have hk0:=rightS_k h
 unfold rightS at h
 simp only[Bool.and_eq_true] at h
 obtain⟨hk,hn,he⟩:=h
 have hz:=emp_parts he
 have htb:s.tb.length≤9223372036854775807:=by have:=nameOk_len hn;omega
 clear he hn
 obtain⟨k,tb,cols,prim,rows,sets,items,jn,on,wh,gr,od,desc,lim⟩:=s
 unfold kindB at hk
 unfold restS zSt at hz
 dsimp only at hk hz hk0 htb
 rcases hk0 with rfl | rfl | rfl | rfl | rfl | rfl
 ·rw[if_pos rfl] at hk hz
  simp only[St.mk.injEq,true_and,and_true] at hz
  obtain⟨rfl,rfl,rfl,rfl,rfl,rfl,rfl,rfl,rfl,rfl⟩:=hz
  rw[Bool.and_eq_true] at hk
  refine ⟨htb,by have:=nameOk_len hk.2;show prim.length≤_;omega,by simp,by simp,fun c hc=>?_,by simp,by simp,by simp,by simp,by simp,by simp,by simp⟩
  have:=areB_mem hk.1 c hc
  unfold colB at this
  simp only[Bool.and_eq_true] at this
  have:=nameOk_len this.1
  omega
 ·rw[if_neg (by decide),if_neg (by decide),if_neg (by decide),if_neg (by decide),if_neg (by decide)] at hz
  simp only[St.mk.injEq,true_and,and_true] at hz
  obtain⟨rfl,rfl,rfl,rfl,rfl,rfl,rfl,rfl,rfl,rfl,rfl,rfl⟩:=hz
  exact⟨htb,by simp,by simp,by simp,by simp,by simp,by simp,by simp,by simp,by simp,by simp,by simp⟩
 ·rw[if_neg (by decide),if_neg (by decide),if_pos rfl] at hk
  rw[if_neg (by decide),if_pos rfl] at hz
  simp only[St.mk.injEq,true_and,and_true] at hz
  obtain⟨rfl,rfl,rfl,rfl,rfl,rfl,rfl,rfl,rfl,rfl,rfl⟩:=hz
  exact⟨htb,by simp,by simp,by simp,by simp,fun r hr v hv=>valOk_rg (areB_mem (areB_mem hk r hr) v hv),by simp,by simp,by simp,by simp,by simp,by simp⟩
 ·rw[if_neg (by decide),if_neg (by decide),if_neg (by decide),if_pos rfl,Bool.and_eq_true] at hk
  rw[if_neg (by decide),if_neg (by decide),if_pos rfl] at hz
  simp only[St.mk.injEq,true_and,and_true] at hz
  obtain⟨rfl,rfl,rfl,rfl,rfl,rfl,rfl,rfl,rfl,rfl⟩:=hz
  refine ⟨htb,by simp,by simp,by simp,by simp,by simp,fun x hx=>?_,by simp,by simp,fun x hx=>right_rg (areB_mem hk.2 x hx),by simp,by simp⟩
  have:=areB_mem hk.1 x hx
  unfold setB at this
  simp only[Bool.and_eq_true] at this
  have h1:=nameOk_len this.1
  exact⟨by omega,right_rg this.2⟩
 ·rw[if_neg (by decide),if_neg (by decide),if_neg (by decide),if_neg (by decide),if_pos rfl] at hk
  rw[if_neg (by decide),if_neg (by decide),if_neg (by decide),if_pos rfl] at hz
  simp only[St.mk.injEq,true_and,and_true] at hz
  obtain⟨rfl,rfl,rfl,rfl,rfl,rfl,rfl,rfl,rfl,rfl,rfl⟩:=hz
  exact⟨htb,by simp,by simp,by simp,by simp,by simp,by simp,by simp,by simp,fun x hx=>right_rg (areB_mem hk x hx),by simp,by simp⟩
 ·rw[if_neg (by decide),if_neg (by decide),if_neg (by decide),if_neg (by decide),if_neg (by decide),if_pos rfl] at hk
  rw[if_neg (by decide),if_neg (by decide),if_neg (by decide),if_neg (by decide),if_pos rfl] at hz
  simp only[St.mk.injEq,true_and,and_true] at hz
  obtain⟨rfl,rfl,rfl,rfl⟩:=hz
  unfold selB at hk
  simp only[Bool.and_eq_true,decide_eq_true_eq] at hk
  obtain⟨q1,q2,q3,q4,q5,q6,q7,q8⟩:=hk
  refine ⟨htb,by simp,?_,q8.2,by simp,by simp,by simp,fun i hi x hx=>?_,fun x hx=>right_rg (areB_mem q3 x hx),fun x hx=>right_rg (areB_mem q4 x hx),fun x hx=>colE_rg (areB_mem q5 x hx),fun x hx=>colE_rg (areB_mem q6 x hx)⟩
  ·unfold noeB at q2
   dsimp only at q2 ⊢
   rw[Bool.or_eq_true,decide_eq_true_eq] at q2
   rcases q2 with e | e
   ·rw[e];simp
   ·have:=nameOk_len e;omega
  ·have hb:=areB_mem q1 i hi
   unfold itB at hb
   split at hb
   ·have:i.xs=[]:=List.eq_nil_of_length_eq_zero (by simpa using hb)
    rw[this] at hx;cases hx
   ·split at hb
    ·exact right_rg (areB_mem hb x hx)
    ·cases hb
theorem exprA_tm (t:Tm) (h:t.ok):exprA t.ex=srcA t.tk t.dp:=by
 unfold exprA exK exD
 rw[if_pos (right_tm t h),tmE_ex t h]
end Go.Proofs.YtnidnipiihhnaaaGreatDoor
namespace Go.Proofs.YtnidnipiihhnaaaGreatDoor
open Go.RowKit Go.Shelf
set_option linter.unusedSimpArgs false
set_option linter.unusedVariables false
set_option maxRecDepth 20000
set_option maxHeartbeats 8000000
theorem small_neg:exprA (exOf 5 (exVal ⟨1,5,[]⟩))=([45,32,40,32,53,32,41],0) :=
 (exprA_tm (.neg (.val ⟨1,5,[]⟩)) (show valOk ⟨1,5,[]⟩=true by decide)).trans (show srcA (Tm.neg (.val ⟨1,5,[]⟩)).tk (((Tm.neg (.val ⟨1,5,[]⟩)).dp:Nat):Int)=([45,32,40,32,53,32,41],0) by first | kernel_rfl | rfl | decide +kernel)
theorem small_drop:scrA [{ zSt 2 with tb:=[116] }]=([68,82,79,80,32,84,65,66,76,69,32,116],0):=by kernel_rfl
theorem small10_any (w:World) (hT:TabW w):Calls Tryz.prog 8 #[] w fun e w'=>e = .returned (.bool true)∧Below w.heap.size w w':=by
 obtain⟨W,hW,hbW,hzW,hcW⟩:=box8 w (.cells #[.int .i64 1,.int .i64 0,.string ⟨#[]⟩,.string ⟨#[]⟩,.int .i64 1,.int .i64 5,.string ⟨#[]⟩,.slice none 0 0] 26)
 obtain⟨V,hV,hbV,hzV,hcV⟩:=box8 W (.cells #[.int .i64 1,.int .i64 0,.string ⟨#[]⟩,.string ⟨#[]⟩,.int .i64 1,.int .i64 5,.string ⟨#[]⟩,.slice none 0 0] 26)
 have k0:=cells8 hcW
 have hBV:Below w.heap.size w V:=hbW.trans (hbV.mono hbW.size)
 have hxa:ExE (fun _=>True) V (exVal ⟨1,5,[]⟩) [.int .i64 1,.int .i64 0,.string ⟨#[]⟩,.string ⟨#[]⟩,.int .i64 1,.int .i64 5,.string ⟨#[]⟩,.slice none 0 0]:=⟨1,0,[],[],1,5,[],[],none,0,0,rfl,rfl,.nil none 0 (by unfold maxLen;omega)⟩
 have kV:=cells8 hcV
 have hargs:ArgsAt (fun _=>True) V [exVal ⟨1,5,[]⟩] (.slice (some ⟨W.heap.size,0,none⟩) 1 1):=by
  refine .cons [exVal ⟨1,5,[]⟩] W.heap.size 0 1 (fun _=>.slice none 0 0) (by simp) trivial (by simp) (by unfold maxLen;omega) (fun j k op tb nm vk vn vs ys hx=>?_) (fun j k op tb nm vk vn vs ys hx=>?_)
  ·match j,hx with
   |
    0,hx =>
    simp only[exVal,List.getElem?_cons_zero,Option.some.injEq,Ex.mk.injEq,Vl.mk.injEq] at hx
    obtain⟨rfl,rfl,rfl,rfl,⟨rfl,rfl,rfl⟩,rfl⟩:=hx
    exact kV
  ·match j,hx with
   |
    0,hx =>
    simp only[exVal,List.getElem?_cons_zero,Option.some.injEq,Ex.mk.injEq,Vl.mk.injEq] at hx
    obtain⟨rfl,rfl,rfl,rfl,⟨rfl,rfl,rfl⟩,rfl⟩:=hx
    exact .nil none 0 (by unfold maxLen;omega)
 have hr5:rightE (exOf 5 (exVal ⟨1,5,[]⟩))=true:=right_tm (.neg (.val ⟨1,5,[]⟩)) (show valOk ⟨1,5,[]⟩=true by decide)
 have HE:Hid (Calls Tryz.prog 11 #[.agg #[.int .i64 5,.int .i64 0,.string ⟨#[]⟩,.string ⟨#[]⟩,.int .i64 0,.int .i64 0,.string ⟨#[]⟩,.slice (some ⟨W.heap.size,0,none⟩) 1 1]] V fun e w'=>e = .returned (.tuple #[.string ⟨#[45,32,40,32,53,32,41]⟩,.int .i64 0])∧Below V.heap.size V w'):=hid (by
  have:=printExpr_any (fun _=>True) (exOf 5 (exVal ⟨1,5,[]⟩)) (.agg #[.int .i64 5,.int .i64 0,.string ⟨#[]⟩,.string ⟨#[]⟩,.int .i64 0,.int .i64 0,.string ⟨#[]⟩,.slice (some ⟨W.heap.size,0,none⟩) 1 1]) V (hT.on hBV) (right_rg hr5) ⟨5,0,[],[],0,0,[],[exVal ⟨1,5,[]⟩],_,1,1,rfl,rfl,hargs⟩ (fun _=>by
   have e:exZ (exOf 5 (exVal ⟨1,5,[]⟩))=2:=by
    unfold exZ
    rw[show exOf 5 (exVal ⟨1,5,[]⟩)=(Tm.neg (.val ⟨1,5,[]⟩)).ex from rfl,tmE_ex (.neg (.val ⟨1,5,[]⟩)) (show valOk ⟨1,5,[]⟩=true by decide)]
    rfl
   rw[e]
   decide)
  rw[small_neg] at this
  exact this)
 have hst:StE (fun _=>True) w { zSt 2 with tb:=[116] } [.int .i64 2,.string ⟨#[116]⟩,.slice none 0 0,.string ⟨#[]⟩,.slice none 0 0,.slice none 0 0,.slice none 0 0,.string ⟨#[]⟩,.slice none 0 0,.slice none 0 0,.slice none 0 0,.slice none 0 0,.bool false,.int .i64 (-1)]:=by
  have n:ArgsAt (fun _=>True) w [] (.slice none 0 0):=.nil none 0 (by unfold maxLen;omega)
  exact⟨none,none,none,none,none,none,none,none,0,0,0,0,0,0,0,0,0,0,0,0,0,0,0,0,rfl,SlAt.nil,SlAt.nil,SlAt.nil,SlAt.nil,n,n,n,n⟩
 have HSc:Hid (∀Z,Below w.heap.size w Z→Calls Tryz.prog 15 #[.slice (some ⟨Z.heap.size,0,none⟩) 1 1] (Z.alloc (.cells #[.int .i64 2,.string ⟨#[116]⟩,.slice none 0 0,.string ⟨#[]⟩,.slice none 0 0,.slice none 0 0,.slice none 0 0,.string ⟨#[]⟩,.slice none 0 0,.slice none 0 0,.slice none 0 0,.slice none 0 0,.bool false,.int .i64 (-1)] 42)) fun e w'=>e = .returned (.tuple #[.string ⟨#[68,82,79,80,32,84,65,66,76,69,32,116]⟩,.int .i64 0])∧Below w.heap.size w w'):=hid (fun Z hZ=>by
  obtain⟨U,hU,hbU,hzU,hcU⟩:=box8 Z (.cells #[.int .i64 2,.string ⟨#[116]⟩,.slice none 0 0,.string ⟨#[]⟩,.slice none 0 0,.slice none 0 0,.slice none 0 0,.string ⟨#[]⟩,.slice none 0 0,.slice none 0 0,.slice none 0 0,.slice none 0 0,.bool false,.int .i64 (-1)] 42)
  rw[hU]
  have hBU:=hZ.trans (hbU.mono hZ.size)
  have hstU:=hst.to (R:=fun _=>False) (T:=fun _=>True) (Spares.of_new hBU) (fun b _ _=>⟨id,trivial⟩)
  have hsl:SlAt 14 StE (fun _=>True) U [{ zSt 2 with tb:=[116] }] (.slice (some ⟨Z.heap.size,0,none⟩) 1 1):=by
   refine ⟨_,1,[_],rfl,by simp,by unfold maxLen;omega,Els.nil.snoc (by rfl) hstU,fun _=>⟨Z.heap.size,0,rfl,trivial,fun j cs hj i u hu=>?_⟩⟩
   match j,hj with
   |
    0,hj =>
    simp only[List.nil_append,List.getElem?_cons_zero,Option.some.injEq] at hj
    subst hj
    rw[Nat.zero_mul,Nat.zero_add,cell_row _ _ _ _ _ _ hcU]
    rw[← List.getElem?_toArray] at hu
    exact hu
  have:=printScript_any (fun _=>True) [{ zSt 2 with tb:=[116] }] _ U (hT.on hBU) (fun s hs=>by rw[List.mem_singleton.1 hs];exact right_rgS (by decide)) hsl (fun _ s hs _ e he=>by rw[List.mem_singleton.1 hs] at he;cases he)
  rw[small_drop] at this
  exact this.mono fun e w' ⟨h1,h2⟩=>⟨h1,hBU.trans (h2.mono hBU.size)⟩)
 have HBV:=hid hBV
 have HWE:=hid hW
 have HVE:=hid hV
 have hWs:W.heap.size=w.heap.size+1:=by rw[← hW];simp
 rw[hWs] at HE
 clear hT hbW hcW hbV hcV hBV hxa kV hargs hr5 hst hW hV hWs hzV hzW k0
 go_enter Tryz.func8,Tryz.ntmps8
 go_wp2_with fail
 rw[HWE.out,HVE.out]
 refine HE.out.mono ?_
 rintro e w1 ⟨rfl,hb1⟩
 have HB1:=hid (HBV.out.trans (hb1.mono HBV.out.size))
 have HS1:=hid (HSc.out w1 HB1.out)
 clear hb1 HE HSc
 go_wp2_with fail
 refine HS1.out.mono ?_
 rintro e w2 ⟨rfl,hb2⟩
 have HB2:=hid hb2
 clear hb2 HS1
 go_wp2
 go_ret
 exact⟨by simp,HB2.out⟩
end Go.Proofs.YtnidnipiihhnaaaGreatDoor
