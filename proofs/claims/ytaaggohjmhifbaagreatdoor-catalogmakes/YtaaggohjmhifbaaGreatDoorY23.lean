/- Packed for the hand-in: WTop WList WRightS WStmA -/
import Derived.Test.YtaaggohjmhifbaaGreatDoorY20
import Derived.Deep.RegionHeld3
import Derived.Test.YtaaggohjmhifbaaGreatDoorY21
import Derived.Test.YtaaggohjmhifbaaGreatDoorY22
namespace Go.Proofs.YtaaggohjmhifbaaGreatDoor
open Go.RowKit Go.Shelf
set_option linter.unusedSimpArgs false
set_option linter.unusedVariables false
set_option maxRecDepth 20000
set_option maxHeartbeats 8000000
def vo (L:List Tk) (m:Int):List UInt8 × Int:=if 10<m then ([],10) else if 2000<(Lib.join (oh L) [32]).length then ([],2) else (Lib.join (oh L) [32],0)
theorem ED (g:Nat) (tb:Option Nat) (L:List Tk) (d m:Int) (w:World) (h:gN w g tb L d m) (hok : ∀t∈L,KS t) (hn:L.length≤10000000) :
  Calls Tryz.prog 62 #[.pointer (some ⟨g,0,none⟩)] w fun e w'=>e = .returned (.tuple #[.string (ah (vo L m).1),.int .i64 (vo L m).2])∧Below w.heap.size w w':=by
 obtain⟨v,hv,ho,_⟩:=h.lie
 have hT:=(qj ho).2
 obtain⟨va,vb,vc,rfl⟩:∃va vb vc,v = .slice va vb vc:=by
  rcases ho.2 with⟨rfl,_⟩ | ⟨_,_,_,rfl,_⟩
  ·exact⟨_,_,_,rfl⟩
  ·exact⟨_,_,_,rfl⟩
 have k:=mG hv
 have HW:=hid (AQ w.heap.size _ L w h.tab (Nat.le_refl _) hT hok hn)
 unfold vo
 generalize Lib.join (oh L) [32]=T at HW ⊢
 clear h hv ho hT hok hn
 by_cases hm:10<m
 ·rw[if_pos hm]
  clear HW
  go_enter Tryz.func62,Tryz.ntmps62
  go_wp2
  exact bodyPost_ret (v:=.tuple #[.string ⟨#[]⟩,.int .i64 10]) (by simp[results,Tryz.results62,go_sem]) rfl ⟨rfl,Below.refl _ _⟩
 ·rw[if_neg hm]
  have hsz:(ah T).size=T.length:=rfl
  by_cases hl:2000<T.length
  ·rw[if_pos hl]
   have hl':((2000:Int)<((ah T).size:Int)):=by rw[hsz];omega
   clear hl hsz
   generalize ah T=S at HW hl'
   go_enter Tryz.func62,Tryz.ntmps62
   go_wp2_with fail
   refine HW.out.mono ?_
   rintro e w1 ⟨rfl,hb1⟩
   have HB:=hid hb1
   clear hb1 HW
   go_wp2
   exact bodyPost_ret (v:=.tuple #[.string ⟨#[]⟩,.int .i64 2]) (by simp[results,Tryz.results62,go_sem]) rfl ⟨rfl,HB.out⟩
  ·rw[if_neg hl]
   have hl' : ¬((2000:Int)<((ah T).size:Int)):=by rw[hsz];omega
   clear hl hsz
   dsimp only
   generalize ah T=S at HW hl' ⊢
   go_enter Tryz.func62,Tryz.ntmps62
   go_wp2_with fail
   refine HW.out.mono ?_
   rintro e w1 ⟨rfl,hb1⟩
   have HB:=hid hb1
   clear hb1 HW
   go_wp2
   exact bodyPost_ret (v:=.tuple #[.string S,.int .i64 0]) (by simp[results,Tryz.results62,go_sem]) rfl ⟨rfl,HB.out⟩
theorem JW (w:World) (h:mh w):∃W,w.alloc (.cells #[.slice none 0 0,.int .i64 0,.int .i64 0] 98)=W∧Below w.heap.size w W∧w.heap.size<W.heap.size∧gN W w.heap.size none [] 0 0:=by
 obtain⟨W,hW,hbW,hzW,hcW⟩:=bF w (.cells #[.slice none 0 0,.int .i64 0,.int .i64 0] 98)
 exact⟨W,hW,hbW,hzW,⟨⟨_,hcW,World.ownsRow_nil _ _ _ _,rfl⟩,h.on hbW,h.lt⟩⟩
theorem EK (fr:Nat) (eg : ∀args w,(callFunc fr args).run Tryz.prog w = .ok (.enter fr args) w) (tk:Co→List Tk) (dp:Co→Nat) (sep:List UInt8) (hsep:sep≠[]) (xs:List (Co)) (v:Value)
  (g:Nat) (tb:Option Nat) (L:List Tk) (d m:Int) (w:World) (h:gN w g tb L d m) (hv:bP 4 iE (fun b=>b<g) w xs v) (hdm:d≤m) (hm:m≤1000000000) (hd : ∀x∈xs,d+dp x≤1000000000) (hL:L.length+(bL (aJ sep) (xs.map tk)).length≤1000000000)
  (HF:Hid (∀x∈xs,∀(V:World) (tb':Option Nat) (L':List Tk) (m':Int),gN V g tb' L' d m'→∀cs,iE (fun b=>b<g) V x cs→L'.length+(tk x).length≤1000000000→d≤m'→m'≤1000000000→Calls Tryz.prog fr #[.pointer (some ⟨g,0,none⟩),.agg cs.toArray] V fun e w'=>e = .returned (.tuple #[])∧Wrote g tb' V w' (L'++tk x) d (max m' (d+dp x)))) :
  Calls Tryz.prog 164 #[.pointer (some ⟨g,0,none⟩),.string (ah sep),v,.func (.func fr) #[.pointer (some ⟨g,0,none⟩)] #[]] w fun e w'=>e = .returned (.tuple #[])∧Wrote g tb w w' (L++bL (aJ sep) (xs.map tk)) d (max m (d+(dJ (xs.map dp):Nat))):=by
 have HV:=hid hv
 have HW:=hid h
 have hdl : ∀k,d+(dJ ((xs.take k).map dp):Nat)≤1000000000:=fun k=>by
  have : ∀l:List (Co),(∀x∈l,d+dp x≤1000000000)→d+(dJ (l.map dp):Nat)≤1000000000:=fun l=>by
   induction l with
   | nil=>intro _;show d+((0:Nat):Int)≤_;omega
   |
    cons x l ih =>
    intro hh
    have h1:=hh x (by simp)
    have h2:=ih (fun y hy=>hh y (by simp[hy]))
    show d+((max (dp x) (dJ (l.map dp)):Nat):Int)≤_
    omega
  exact this _ (fun x hx=>hd x (List.mem_of_mem_take hx))
 have HDL:=hid hdl
 have hsl : ∀k,(bL (aJ sep) ((xs.take k).map tk)).length≤(bL (aJ sep) (xs.map tk)).length:=fun k=>by
  have e:xs.map tk=(xs.take k).map tk++(xs.drop k).map tk:=by rw[← List.map_append,List.take_append_drop]
  rw[e]
  cases (xs.take k).map tk with
  | nil=>simp[bL]
  | cons a l=>simp[bL,List.flatMap_append]
 have HSL:=hid hsl
 have hsnoc : ∀k x,xs[k]?=some x→bL (aJ sep) ((xs.take (k+1)).map tk)=(if k=0 then tk x else bL (aJ sep) ((xs.take k).map tk)++aJ sep::tk x)∧dJ ((xs.take (k+1)).map dp)=max (dJ ((xs.take k).map dp)) (dp x):=fun k x hx=>by
  obtain⟨h1,h2⟩:=List.getElem?_eq_some_iff.1 hx
  rw[List.take_succ_eq_append_getElem h1,h2,List.map_append,List.map_append]
  refine ⟨?_,?_⟩
  ·rw[show [x].map tk=[tk x] from rfl,vT]
   by_cases e:k=0
   ·subst e;simp
   ·rw[if_neg e,if_neg (fun e2=>e (by have:=congrArg List.length e2;rw[List.length_map,List.length_take,List.length_nil] at this;omega))]
  ·have : ∀(l:List Nat) (n:Nat),dJ (l++[n])=max (dJ l) n:=fun l n=>by
    induction l with
    | nil=>show max n 0=max 0 n;omega
    | cons a l ih=>show max a (dJ (l++[n]))=max (max a (dJ l)) n;rw[ih];omega
   exact this _ _
 have HSN:=hid hsnoc
 obtain⟨aa,cc,css,rfl,h1,h2,_⟩:=hv
 unfold maxLen at h2
 clear h hdl hsl hsnoc hd
 go_enter Tryz.func164,Tryz.ntmps164
 go_wp2_with fail
 go_loopw [8,9,12] (fun _ _ i wr=>∃(k:Nat),k≤xs.length∧i = .int .i64 k∧Wrote g tb w wr (L++bL (aJ sep) ((xs.take k).map tk)) d (max m (d+(dJ ((xs.take k).map dp):Nat)))) (fun _ _ i _=>xs.length-(intOf i).toNat)
 case atStart =>
  refine ⟨0,Nat.zero_le _,rfl,?_⟩
  have e:max m (d+(dJ ((xs.take 0).map dp):Nat))=m:=by show max m (d+((0:Nat):Int))=m;omega
  rw[e]
  simpa [bL] using HW.out.here
 case round =>
  obtain⟨k,hk,rfl,hq⟩:=hrel
  by_cases hlt:k<xs.length
  ·obtain⟨x,hx⟩:∃x,xs[k]?=some x:=⟨_,List.getElem?_eq_getElem hlt⟩
   have hlt':((k:Int)<(xs.length:Int)):=by omega
   obtain⟨tw1,hw1,ht1,hf1⟩:=hq
   obtain⟨_,_,_,b,off,cs,rfl,_,hel,hcell⟩:=lD (HV.out.to (T:=fun b=>b<g) (by decide) hf1 (lZ.keeps HW.out hf1) (fun _ _ e=>e.to hf1 (lZ.keeps HW.out hf1))) hx
   obtain⟨hs1,hs2⟩:=HSN.out k x hx
   have hxm:=List.mem_of_getElem? hx
   have hll:=HSL.out (k+1)
   have hmm:=HDL.out k
   rw[hs1] at hll
   have HEL:=hid hel
   obtain rfl:=hel
   have q0:=hcell 0 _ rfl
   have q1:=hcell 1 _ rfl
   have q2:=hcell 2 _ rfl
   have q3:=hcell 3 _ rfl
   simp only[Nat.add_zero] at q0
   have hgt:g<wr.heap.size:=hw1.lt
   obtain⟨U,hU,hbU,hzU,hcU⟩:=bF wr (.cells #[.string (ah x.nm),.int .i64 x.k,.bool x.nn,.bool x.uq] 37)
   have kU:=fun i=>aN U wr.heap.size _ _ _ i hcU
   have kU':U.cell? ⟨wr.heap.size,0,none⟩=some (.string (ah x.nm))∧U.cell? ⟨wr.heap.size,1,none⟩=some (.int .i64 x.k)∧U.cell? ⟨wr.heap.size,2,none⟩=some (.bool x.nn)∧U.cell? ⟨wr.heap.size,3,none⟩=some (.bool x.uq):=⟨(kU 0).trans rfl,(kU 1).trans rfl,(kU 2).trans rfl,(kU 3).trans rfl⟩
   clear kU
   have hwU:=hw1.below hbU
   have HBX:=hid (lK.mk' hw1 hcU (Nat.le_refl _))
   have HELU:=hid (HEL.out.to (R:=fun _=>False) (T:=fun b=>b<g) (aj.aC hbU) (fun b hb _=>⟨id,hb⟩))
   have HT1:=hid ht1
   have HF1:=hid hf1
   have HBU:=hid hbU
   clear ht1 hf1 hbU hcU hw1 HEL
   generalize hPT:bL (aJ sep) ((xs.take k).map tk)=PT at *
   generalize hPD:dJ ((xs.take k).map dp)=PD at *
   by_cases hk0:k=0
   ·rw[if_pos hk0] at hs1 hll
    have hPT0:PT=[]:=by rw[← hPT,hk0];simp[bL]
    have hCA:=HF.out x hxm U tw1 (L++PT) (max m (d+(PD:Int))) hwU _ HELU.out (by rw[hPT0];simp;omega) (by omega) (by omega)
    have HC:Hid (Calls Tryz.prog fr #[.pointer (some ⟨g,0,none⟩),.agg #[.string (ah x.nm),.int .i64 x.k,.bool x.nn,.bool x.uq]] U fun e w'=>e = .returned (.tuple #[])∧Wrote g tw1 U w' (L++bL (aJ sep) ((xs.take (k+1)).map tk)) d (max m (d+(dJ ((xs.take (k+1)).map dp):Nat)))):=hid (by
     rw[hs1,hs2]
     rw[hPT0,List.append_nil] at hCA
     rw[show max m (d+((max PD (dp x):Nat):Int))=max (max m (d+(PD:Int))) (d+(dp x:Int)) by omega]
     exact hCA)
    have HQ0:Hid (lZ g tb w U):=hid (HF1.out.aO HBU.out)
    clear hCA hs1 hs2 hll hmm hxm hwU hPT hPD hPT0 hcell hx
    have hk0' : ¬((0:Int)<(k:Int)):=by omega
    clear hk0
    go_wp2_with (first | (refine wpList_store_row rfl 37 (.tmp 9) (.tmp 16) rfl wr.heap.size #[.string (ah x.nm),.int .i64 x.k,.bool x.nn,.bool x.uq] rfl rfl 37 #[.string ⟨#[]⟩,.int .i64 0,.bool false,.bool false] (heap_alloc_new wr _) Tryz.xI rfl rfl ?_;rw[eG,hU];clear hU) | fail)
    refine HC.out.mono ?_
    rintro e w2 ⟨rfl,h2⟩
    have HQ:=hid (Wrote.then HT1.out HQ0.out h2)
    clear h2 HC
    go_wp2
    go_roundw
    case rel=>exact⟨k+1,by omega,by go_num,HQ.out⟩
    case measure=>simp[intOf];omega
   ·rw[if_neg hk0] at hs1 hll
    have hk0':((0:Int)<(k:Int)):=by omega
    simp only[List.length_append,List.length_cons] at hll
    have HX:Hid (Calls Tryz.prog 97 #[.pointer (some ⟨g,0,none⟩),.slice (some ⟨U.heap.size,0,none⟩) 1 1] (U.alloc (.cells #[.string (ah sep)] 9)) fun e w'=>e = .returned (.tuple #[])∧Wrote g tw1 U w' (L++PT++au [sep]) d (max m (d+(PD:Int)))):=hid (bW g tw1 _ d _ [sep] U hwU (by simp) (by simpa using hsep) (by simp;omega))
    have HWU:=hid hwU
    have HQ0:Hid (lZ g tb w U):=hid (HF1.out.aO HBU.out)
    have HS1:=hid hs1
    have HS2:=hid hs2
    have HM:=hid hxm
    clear hs1 hs2 hxm hwU hPT hPD hcell hx
    go_wp2_with (first | (refine wpList_store_row rfl 37 (.tmp 9) (.tmp 16) rfl wr.heap.size #[.string (ah x.nm),.int .i64 x.k,.bool x.nn,.bool x.uq] rfl rfl 37 #[.string ⟨#[]⟩,.int .i64 0,.bool false,.bool false] (heap_alloc_new wr _) Tryz.xI rfl rfl ?_;rw[eG,hU];clear hU) | fail)
    refine HX.out.mono ?_
    rintro e w2 ⟨rfl,tw2,hw2,ht2,hf2⟩
    have hbx:=fun i=>aN w2 wr.heap.size _ _ _ i (HBX.out.on ht2 hf2).at'
    have kX:w2.cell? ⟨wr.heap.size,0,none⟩=some (.string (ah x.nm))∧w2.cell? ⟨wr.heap.size,1,none⟩=some (.int .i64 x.k)∧w2.cell? ⟨wr.heap.size,2,none⟩=some (.bool x.nn)∧w2.cell? ⟨wr.heap.size,3,none⟩=some (.bool x.uq):=⟨(hbx 0).trans rfl,(hbx 1).trans rfl,(hbx 2).trans rfl,(hbx 3).trans rfl⟩
    clear hbx
    have hCA:=HF.out x HM.out w2 tw2 _ (max m (d+(PD:Int))) hw2 _ (HELU.out.to hf2 (lZ.keeps HWU.out hf2)) (by simp[au];omega) (by omega) (by omega)
    have HC:Hid (Calls Tryz.prog fr #[.pointer (some ⟨g,0,none⟩),.agg #[.string (ah x.nm),.int .i64 x.k,.bool x.nn,.bool x.uq]] w2 fun e w'=>e = .returned (.tuple #[])∧Wrote g tw2 w2 w' (L++bL (aJ sep) ((xs.take (k+1)).map tk)) d (max m (d+(dJ ((xs.take (k+1)).map dp):Nat)))):=hid (by
     rw[HS1.out,HS2.out]
     rw[show max m (d+((max PD (dp x):Nat):Int))=max (max m (d+(PD:Int))) (d+(dp x:Int)) by omega]
     rw[show L++PT++au [sep]++tk x=L++(PT++aJ sep::tk x) by simp[au]] at hCA
     exact hCA)
    have HT2:=hid ht2
    have HF2:=hid hf2
    clear hCA ht2 hf2 hw2 HX
    go_wp2_with fail
    refine HC.out.mono ?_
    rintro e w3 ⟨rfl,h3⟩
    have HQ:=hid (Wrote.then HT1.out HQ0.out (Wrote.then HT2.out HF2.out h3))
    clear h3 HC
    go_wp2
    go_roundw
    case rel=>exact⟨k+1,by omega,by go_num,HQ.out⟩
    case measure=>simp[intOf];omega
  ·have hlt' : ¬((k:Int)<(xs.length:Int)):=by omega
   have HQ:Hid (Wrote g tb w wr (L++bL (aJ sep) (xs.map tk)) d (max m (d+(dJ (xs.map dp):Nat)))):=hid (by rw[List.take_of_length_le (by omega)] at hq;exact hq)
   clear hq
   go_wp2
   exact bodyPost_end (v:=.tuple #[]) (by simp[results,Tryz.results164,go_sem]) rfl ⟨rfl,HQ.out⟩
theorem bB {w:World} {g:Nat} {a b c d:Value} {t:TypeId} (h:w.heap[g]?=some (.cells #[a,b,c,d] t)):w.cell? ⟨g,0,none⟩=some a∧w.cell? ⟨g,1,none⟩=some b∧w.cell? ⟨g,2,none⟩=some c∧w.cell? ⟨g,3,none⟩=some d :=
 ⟨by rw[aN _ _ _ _ _ _ h];rfl,by rw[aN _ _ _ _ _ _ h];rfl,by rw[aN _ _ _ _ _ _ h];rfl,by rw[aN _ _ _ _ _ _ h];rfl⟩
theorem tu (c:Co) (w:World) (h1:c.nm.length≤9223372036854775807) :
  Calls Tryz.prog 87 #[.agg #[.string (ah c.nm),.int .i64 c.k,.bool c.nn,.bool c.uq]] w fun e w'=>e = .returned (.bool (gB c))∧Below w.heap.size w w':=by
 obtain⟨nm,k,nn,uq⟩:=c
 dsimp only at h1 ⊢
 have HN:=hid (fun V=>rA nm V h1)
 have hd:gB ⟨nm,k,nn,uq⟩=(aQ nm&&(decide (k=1)||decide (k=2))):=by unfold gB;simp
 rw[hd]
 clear hd h1
 obtain⟨W,hW,hbW,hzW,hcW⟩:=bF w (.cells #[.string (ah nm),.int .i64 k,.bool nn,.bool uq] 37)
 have k0:=bB hcW
 have HB:=hid hbW
 have HC:=hid hcW
 have HQ0:=hid (Below.refl W.heap.size W)
 clear hbW hcW
 cases hv0:aQ nm with
 |
  true =>
  rw[Bool.true_and]
  rw[hv0] at HN
  clear hv0
  cases hv1:decide (k=1) with
  |
   true =>
   rw[Bool.true_or]
   have g1:(k==1)=true:=by rw[of_decide_eq_true hv1];rfl
   clear hv1
   go_enter Tryz.func87,Tryz.ntmps87
   go_wp2_with fail
   refine (HN.out _).mono ?_
   rintro e v1 ⟨rfl,hb1⟩
   have HQ1:Hid (Below W.heap.size W v1):=hid (HQ0.out.trans (hb1.mono HQ0.out.size))
   have kk1:=bB ((HQ1.out.block w.heap.size hzW).trans HC.out)
   clear hb1
   go_wp2
   go_ret
   exact⟨rfl,HB.out.trans (HQ1.out.mono HB.out.size)⟩
  |
   false =>
   rw[Bool.false_or]
   have g1:(k==1)=false:=by rw[beq_eq_false_iff_ne];exact of_decide_eq_false hv1
   clear hv1
   cases hv2:decide (k=2) with
   |
    true =>
    have g2:(k==2)=true:=by rw[of_decide_eq_true hv2];rfl
    clear hv2
    go_enter Tryz.func87,Tryz.ntmps87
    go_wp2_with fail
    refine (HN.out _).mono ?_
    rintro e v1 ⟨rfl,hb1⟩
    have HQ1:Hid (Below W.heap.size W v1):=hid (HQ0.out.trans (hb1.mono HQ0.out.size))
    have kk1:=bB ((HQ1.out.block w.heap.size hzW).trans HC.out)
    clear hb1
    go_wp2
    go_ret
    exact⟨rfl,HB.out.trans (HQ1.out.mono HB.out.size)⟩
   |
    false =>
    have g2:(k==2)=false:=by rw[beq_eq_false_iff_ne];exact of_decide_eq_false hv2
    clear hv2
    go_enter Tryz.func87,Tryz.ntmps87
    go_wp2_with fail
    refine (HN.out _).mono ?_
    rintro e v1 ⟨rfl,hb1⟩
    have HQ1:Hid (Below W.heap.size W v1):=hid (HQ0.out.trans (hb1.mono HQ0.out.size))
    have kk1:=bB ((HQ1.out.block w.heap.size hzW).trans HC.out)
    clear hb1
    go_wp2
    go_ret
    exact⟨rfl,HB.out.trans (HQ1.out.mono HB.out.size)⟩
 |
  false =>
  rw[Bool.false_and]
  rw[hv0] at HN
  clear hv0
  go_enter Tryz.func87,Tryz.ntmps87
  go_wp2_with fail
  refine (HN.out _).mono ?_
  rintro e v1 ⟨rfl,hb1⟩
  have HQ1:Hid (Below W.heap.size W v1):=hid (HQ0.out.trans (hb1.mono HQ0.out.size))
  have kk1:=bB ((HQ1.out.block w.heap.size hzW).trans HC.out)
  clear hb1
  go_wp2
  go_ret
  exact⟨rfl,HB.out.trans (HQ1.out.mono HB.out.size)⟩
def KD (v:Vl):Prop:=-9223372036854775808≤v.n∧v.n≤9223372036854775807∧v.s.length≤9223372036854775807
theorem dN {g:Nat} {tb tb1 tb2:Option Nat} {W w1 w2:World} (h1 : ∀k,tb1=some k→tb=some k∨W.heap.size≤k) (hf:lZ g tb W w1) (h2 : ∀k,tb2=some k→tb1=some k∨w1.heap.size≤k) (hf2:lZ g tb1 w1 w2):(∀k,tb2=some k→tb=some k∨W.heap.size≤k)∧lZ g tb W w2:=by
 refine ⟨fun k hk=>?_,hf.andThen hf2 fun i hi=>?_⟩
 ·rcases h2 k hk with e | e
  ·exact h1 k e
  ·exact .inr (Nat.le_trans hf.size e)
 ·rcases hi with rfl | e
  ·exact .inl (.inl rfl)
  ·rcases h1 i e with e | e
   ·exact .inl (.inr e)
   ·exact .inr e
theorem jG {g:Nat} {tb tb1 tb2:Option Nat} {W w1 w2:World} (h1 : ∀k,tb1=some k→tb=some k∨W.heap.size≤k) (hf:lZ g tb W w1) (h2 : ∀k,tb2=some k→tb1=some k∨w1.drew.heap.size≤k) (hf2:lZ g tb1 w1.drew w2):(∀k,tb2=some k→tb=some k∨W.heap.size≤k)∧lZ g tb W w2 :=
 dN h1 hf h2 ((aj.aC (Below.refl _ w1).drew).then hf2)
end Go.Proofs.YtaaggohjmhifbaaGreatDoor
