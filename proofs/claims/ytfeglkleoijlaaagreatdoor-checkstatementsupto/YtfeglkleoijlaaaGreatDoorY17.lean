import Derived.Test.YtfeglkleoijlaaaGreatDoorY07
import Derived.Test.YtfeglkleoijlaaaGreatDoorY13
import Derived.Test.YtfeglkleoijlaaaGreatDoorY14
namespace Go.Proofs.YtfeglkleoijlaaaGreatDoor
open Go.RowKit Go.Shelf
set_option linter.unusedSimpArgs false
set_option linter.unusedVariables false
set_option maxRecDepth 20000
set_option maxHeartbeats 8000000
theorem Ab (S:Nat→Prop) (fr:Nat) (eg : ∀args w,(callFunc fr args).run Tryz.prog w = .ok (.enter fr args) w) (p:St→Bool) (xs:List (St)) (v:Value) (lo hi:Nat) (w:World) (hlo:lo≤100) (hhi:hi≤100) (hv:aM 14 fD S w xs v)
  (HF:Hid (∀x∈xs,∀V,Below w.heap.size w V→∀cs,fD S V x cs→Calls Tryz.prog fr #[.agg cs.toArray] V fun e w'=>e = .returned (.bool (p x))∧Below V.heap.size V w')) :
  Calls Tryz.prog 46 #[v,.int .i64 lo,.int .i64 hi,.func (.func fr) #[] #[]] w fun e w'=>e = .returned (.bool (aR xs lo hi p))∧Below w.heap.size w w':=by
 have HV:=hid hv
 obtain⟨aa,cc,css,rfl,h1,h2,_⟩:=hv
 unfold maxLen at h2
 by_cases hl:lo≤xs.length∧xs.length≤hi
 ·have hA:aR xs lo hi p=xs.all p:=by unfold aR;rw[aar hl,aaA]
  rw[hA]
  have hl1 : ¬((xs.length:Int)<(lo:Int)):=by omega
  have hl2 : ¬((hi:Int)<(xs.length:Int)):=by omega
  clear hA hl
  obtain⟨X,hX⟩:∃X,xs.all p=X:=⟨_,rfl⟩
  rw[hX]
  have HX:=hid hX
  clear hX
  generalize (lo:Int)=lo' at hl1 ⊢
  generalize (hi:Int)=hi' at hl2 ⊢
  go_enter Tryz.func46,Tryz.ntmps46
  go_wp2_with fail
  go_loopw [8,10,23] (fun _ _ i wr=>∃(k:Nat),k≤xs.length∧i = .int .i64 k∧Below w.heap.size w wr∧Hid ((xs.take k).all p=true)) (fun _ _ i _=>xs.length-(intOf i).toNat)
  case atStart=>exact⟨0,aaV _,rfl,Below.refl _ _,hid rfl⟩
  case round =>
   obtain⟨k,hk,rfl,hbel,HK⟩:=hrel
   have qH:=hbel.size
   by_cases hlt:k<xs.length
   ·obtain⟨x,hx⟩:∃x,xs[k]?=some x:=⟨_,aaf hlt⟩
    have hlt':((k:Int)<(xs.length:Int)):=by omega
    obtain⟨_,_,_,b,off,cs,rfl,_,hel,hcell⟩:=bC (HV.out.to (T:=S) (by decide) (R:=fun _=>False) (ak.of_below hbel (fun k h1 h2=>by omega)) (fun b hb _=>⟨id,hb⟩) (fun _ _ e=>e.to (R:=fun _=>False) (ak.of_below hbel (fun k h1 h2=>by omega)) (fun b hb _=>⟨id,hb⟩))) hx
    have htk:(xs.take (k+1)).all p=((xs.take k).all p&&p x):=by
     obtain⟨h1,h2⟩:=aam.1 hx
     rw[aaJ h1,h2,List.all_append]
     simp
    have HT:=hid htk
    have hxm:=aaP hx
    have eO:=hel
    obtain⟨a1,a2,a3,a4,a5,a6,a7,a8,n1,n2,n3,n4,n5,n6,n7,n8,c1,c2,c3,c4,c5,c6,c7,c8,rfl,_⟩:=hel
    have q0:=hcell 0 _ rfl
    have q1:=hcell 1 _ rfl
    have q2:=hcell 2 _ rfl
    have q3:=hcell 3 _ rfl
    have q4:=hcell 4 _ rfl
    have q5:=hcell 5 _ rfl
    have q6:=hcell 6 _ rfl
    have q7:=hcell 7 _ rfl
    have q8:=hcell 8 _ rfl
    have q9:=hcell 9 _ rfl
    have oP:=hcell 10 _ rfl
    have Il:=hcell 11 _ rfl
    have q12:=hcell 12 _ rfl
    have q13:=hcell 13 _ rfl
    simp only[aa2] at q0
    obtain⟨U,hU,bB,jc,eU⟩:=aK wr (.cells #[.int .i64 x.k,.string (aj x.tb),.slice a1 n1 c1,.string (aj x.aD),.slice a2 n2 c2,.slice a3 n3 c3,.slice a4 n4 c4,.string (aj x.jn),.slice a5 n5 c5,.slice a6 n6 c6,.slice a7 n7 c7,.slice a8 n8 c8,.bool x.desc,.int .i64 x.lim] 29)
    have kU:=fun i=>aB U wr.heap.size _ _ _ i eU
    have JZ:U.cell? ⟨wr.heap.size,0,none⟩=some (.int .i64 x.k)∧U.cell? ⟨wr.heap.size,1,none⟩=some (.string (aj x.tb))∧U.cell? ⟨wr.heap.size,2,none⟩=some (.slice a1 n1 c1)∧U.cell? ⟨wr.heap.size,3,none⟩=some (.string (aj x.aD))∧U.cell? ⟨wr.heap.size,4,none⟩=some (.slice a2 n2 c2)∧U.cell? ⟨wr.heap.size,5,none⟩=some (.slice a3 n3 c3)∧U.cell? ⟨wr.heap.size,6,none⟩=some (.slice a4 n4 c4)∧U.cell? ⟨wr.heap.size,7,none⟩=some (.string (aj x.jn))∧U.cell? ⟨wr.heap.size,8,none⟩=some (.slice a5 n5 c5)∧U.cell? ⟨wr.heap.size,9,none⟩=some (.slice a6 n6 c6)∧U.cell? ⟨wr.heap.size,10,none⟩=some (.slice a7 n7 c7)∧U.cell? ⟨wr.heap.size,11,none⟩=some (.slice a8 n8 c8)∧U.cell? ⟨wr.heap.size,12,none⟩=some (.bool x.desc)∧U.cell? ⟨wr.heap.size,13,none⟩=some (.int .i64 x.lim):=⟨(kU 0).trans rfl,(kU 1).trans rfl,(kU 2).trans rfl,(kU 3).trans rfl,(kU 4).trans rfl,(kU 5).trans rfl,(kU 6).trans rfl,(kU 7).trans rfl,(kU 8).trans rfl,(kU 9).trans rfl,(kU 10).trans rfl,(kU 11).trans rfl,(kU 12).trans rfl,(kU 13).trans rfl⟩
    clear kU
    have jm:=hbel.trans (bB.mono qH)
    have HC:=hid (HF.out x hxm U jm _ (eO.to (R:=fun _=>False) (ak.aA bB) (fun b hb _=>⟨id,hb⟩)))
    have HM:=hid hxm
    have bS:=hid jm
    clear jm bB eU hbel
    clear hcell hx htk eO hxm
    cases hp:p x with
    |
     true =>
     rw[hp] at HC
     have mE:Hid ((xs.take (k+1)).all p=true):=hid (by rw[HT.out,HK.out,hp];rfl)
     clear HK hp HT
     go_wp2_with (first | (refine eX hU ?_;clear hU) | fail)
     refine HC.out.mono ?_
     rintro e w2 ⟨rfl,hb2⟩
     have HB2:=htr bS hb2
     clear hb2 HC
     go_wp2
     go_roundw
     case rel=>exact⟨k+1,by omega,by go_num,HB2.out,mE⟩
     case measure=>simp[intOf];omega
    |
     false =>
     rw[hp] at HC
     have bE:Hid (X=false):=hid (by
      rw[← HX.out,Bool.eq_false_iff]
      intro h
      have:=List.all_eq_true.1 h x HM.out
      rw[hp] at this
      cases this)
     clear HK hp HT
     go_wp2_with (first | (refine eX hU ?_;clear hU) | fail)
     refine HC.out.mono ?_
     rintro e w2 ⟨rfl,hb2⟩
     have HB2:=htr bS hb2
     clear hb2 HC
     go_wp2
     go_ret
     exact⟨by rw[bE.out];rfl,HB2.out⟩
   ·have hlt' : ¬((k:Int)<(xs.length:Int)):=by omega
    have dz:Hid (X=true):=hid (by rw[← HX.out];have:=HK.out;rw[aaU (by omega)] at this;exact this)
    have HB2:=hid hbel
    clear hbel HK
    go_wp2
    go_ret
    exact⟨by rw[dz.out];rfl,HB2.out⟩
 ·have hA:aR xs lo hi p=false:=by unfold aR;rw[aaj hl,aaz]
  rw[hA]
  clear hA
  by_cases hl1:xs.length<lo
  ·have jN:((xs.length:Int)<(lo:Int)):=by omega
   clear hl hl1
   generalize (lo:Int)=lo' at jN ⊢
   go_enter Tryz.func46,Tryz.ntmps46
   go_wp2
   go_ret
   exact⟨rfl,Below.refl _ _⟩
  ·have jN : ¬((xs.length:Int)<(lo:Int)):=by omega
   have uJ:((hi:Int)<(xs.length:Int)):=by omega
   clear hl hl1
   generalize (lo:Int)=lo' at jN ⊢
   generalize (hi:Int)=hi' at uJ ⊢
   go_enter Tryz.func46,Tryz.ntmps46
   go_wp2
   go_ret
   exact⟨rfl,Below.refl _ _⟩
theorem Dj (fr:Nat) (eg : ∀args w,(callFunc fr args).run Tryz.prog w = .ok (.enter fr args) w) (tk:St→List Tk) (dp:St→Nat) (sep:List UInt8) (hsep:sep≠[]) (xs:List (St)) (v:Value)
  (g:Nat) (tb:Option Nat) (L:List Tk) (d m:Int) (w:World) (h:bO w g tb L d m) (hv:aM 14 fD (fun b=>b<g) w xs v) (jy:d≤m) (hm:m≤1000000000) (hd : ∀x∈xs,d+dp x≤1000000000) (hL:L.length+(aV (bg sep) (xs.map tk)).length≤1000000000)
  (HF:Hid (∀x∈xs,∀(V:World) (tb':Option Nat) (L':List Tk) (m':Int),bO V g tb' L' d m'→∀cs,fD (fun b=>b<g) V x cs→L'.length+(tk x).length≤1000000000→d≤m'→m'≤1000000000→Calls Tryz.prog fr #[.pointer (some ⟨g,0,none⟩),.agg cs.toArray] V fun e w'=>e = .returned (.tuple #[])∧Wrote g tb' V w' (L'++tk x) d (max m' (d+dp x)))) :
  Calls Tryz.prog 48 #[.pointer (some ⟨g,0,none⟩),.string (aj sep),v,.func (.func fr) #[.pointer (some ⟨g,0,none⟩)] #[]] w fun e w'=>e = .returned (.tuple #[])∧Wrote g tb w w' (L++aV (bg sep) (xs.map tk)) d (max m (d+(aZ (xs.map dp):Nat))):=by
 have HV:=hid hv
 have HW:=hid h
 have hdl : ∀k,d+(aZ ((xs.take k).map dp):Nat)≤1000000000:=fun k=>by
  have : ∀l:List (St),(∀x∈l,d+dp x≤1000000000)→d+(aZ (l.map dp):Nat)≤1000000000:=fun l=>by
   induction l with
   | nil=>intro _;show d+((0:Nat):Int)≤_;omega
   |
    cons x l ih =>
    intro hh
    have h1:=hh x (by simp)
    have h2:=ih (fun y hy=>hh y (by simp[hy]))
    show d+((max (dp x) (aZ (l.map dp)):Nat):Int)≤_
    omega
  exact this _ (fun x hx=>hd x (List.mem_of_mem_take hx))
 have Ko:=hid hdl
 have hsl : ∀k,(aV (bg sep) ((xs.take k).map tk)).length≤(aV (bg sep) (xs.map tk)).length:=fun k=>by
  have e:xs.map tk=(xs.take k).map tk++(xs.drop k).map tk:=by rw[← List.map_append,List.take_append_drop]
  rw[e]
  cases (xs.take k).map tk with
  | nil=>simp[aV]
  | cons a l=>simp[aV,List.flatMap_append]
 have HSL:=hid hsl
 have j5 : ∀k x,xs[k]?=some x→aV (bg sep) ((xs.take (k+1)).map tk)=(if k=0 then tk x else aV (bg sep) ((xs.take k).map tk)++bg sep::tk x)∧aZ ((xs.take (k+1)).map dp)=max (aZ ((xs.take k).map dp)) (dp x):=fun k x hx=>by
  obtain⟨h1,h2⟩:=aam.1 hx
  rw[aaJ h1,h2,List.map_append,List.map_append]
  refine ⟨?_,?_⟩
  ·rw[show [x].map tk=[tk x] from rfl,lV]
   by_cases e:k=0
   ·subst e;simp
   ·rw[if_neg e,if_neg (fun e2=>e (by have:=congrArg List.length e2;rw[List.length_map,List.length_take,List.length_nil] at this;omega))]
  ·have : ∀(l:List Nat) (n:Nat),aZ (l++[n])=max (aZ l) n:=fun l n=>by
    induction l with
    | nil=>show max n 0=max 0 n;omega
    | cons a l ih=>show max a (aZ (l++[n]))=max (max a (aZ l)) n;rw[ih];omega
   exact this _ _
 have Jc:=hid j5
 obtain⟨aa,cc,css,rfl,h1,h2,_⟩:=hv
 unfold maxLen at h2
 clear h hdl hsl j5 hd
 go_enter Tryz.func48,Tryz.ntmps48
 go_wp2_with fail
 go_loopw [8,9,12] (fun _ _ i wr=>∃(k:Nat),k≤xs.length∧i = .int .i64 k∧Wrote g tb w wr (L++aV (bg sep) ((xs.take k).map tk)) d (max m (d+(aZ ((xs.take k).map dp):Nat)))) (fun _ _ i _=>xs.length-(intOf i).toNat)
 case atStart =>
  refine ⟨0,aaV _,rfl,?_⟩
  have e:max m (d+(aZ ((xs.take 0).map dp):Nat))=m:=by show max m (d+((0:Nat):Int))=m;omega
  rw[e]
  simpa [aV] using HW.out.here
 case round =>
  obtain⟨k,hk,rfl,hq⟩:=hrel
  by_cases hlt:k<xs.length
  ·obtain⟨x,hx⟩:∃x,xs[k]?=some x:=⟨_,aaf hlt⟩
   have hlt':((k:Int)<(xs.length:Int)):=by omega
   obtain⟨kK,hw1,ht1,hf1⟩:=hq
   obtain⟨_,_,_,b,off,cs,rfl,_,hel,hcell⟩:=bC (HV.out.to (T:=fun b=>b<g) (by decide) hf1 (eP.keeps HW.out hf1) (fun _ _ e=>e.to hf1 (eP.keeps HW.out hf1))) hx
   obtain⟨hs1,hs2⟩:=Jc.out k x hx
   have hxm:=aaP hx
   have hll:=HSL.out (k+1)
   have hmm:=Ko.out k
   rw[hs1] at hll
   have vP:=hid hel
   obtain⟨a1,a2,a3,a4,a5,a6,a7,a8,n1,n2,n3,n4,n5,n6,n7,n8,c1,c2,c3,c4,c5,c6,c7,c8,rfl,_⟩:=hel
   have q0:=hcell 0 _ rfl
   have q1:=hcell 1 _ rfl
   have q2:=hcell 2 _ rfl
   have q3:=hcell 3 _ rfl
   have q4:=hcell 4 _ rfl
   have q5:=hcell 5 _ rfl
   have q6:=hcell 6 _ rfl
   have q7:=hcell 7 _ rfl
   have q8:=hcell 8 _ rfl
   have q9:=hcell 9 _ rfl
   have oP:=hcell 10 _ rfl
   have Il:=hcell 11 _ rfl
   have q12:=hcell 12 _ rfl
   have q13:=hcell 13 _ rfl
   simp only[aa2] at q0
   have hgt:g<wr.heap.size:=hw1.lt
   obtain⟨U,hU,bB,jc,eU⟩:=aK wr (.cells #[.int .i64 x.k,.string (aj x.tb),.slice a1 n1 c1,.string (aj x.aD),.slice a2 n2 c2,.slice a3 n3 c3,.slice a4 n4 c4,.string (aj x.jn),.slice a5 n5 c5,.slice a6 n6 c6,.slice a7 n7 c7,.slice a8 n8 c8,.bool x.desc,.int .i64 x.lim] 29)
   have kU:=fun i=>aB U wr.heap.size _ _ _ i eU
   have JZ:U.cell? ⟨wr.heap.size,0,none⟩=some (.int .i64 x.k)∧U.cell? ⟨wr.heap.size,1,none⟩=some (.string (aj x.tb))∧U.cell? ⟨wr.heap.size,2,none⟩=some (.slice a1 n1 c1)∧U.cell? ⟨wr.heap.size,3,none⟩=some (.string (aj x.aD))∧U.cell? ⟨wr.heap.size,4,none⟩=some (.slice a2 n2 c2)∧U.cell? ⟨wr.heap.size,5,none⟩=some (.slice a3 n3 c3)∧U.cell? ⟨wr.heap.size,6,none⟩=some (.slice a4 n4 c4)∧U.cell? ⟨wr.heap.size,7,none⟩=some (.string (aj x.jn))∧U.cell? ⟨wr.heap.size,8,none⟩=some (.slice a5 n5 c5)∧U.cell? ⟨wr.heap.size,9,none⟩=some (.slice a6 n6 c6)∧U.cell? ⟨wr.heap.size,10,none⟩=some (.slice a7 n7 c7)∧U.cell? ⟨wr.heap.size,11,none⟩=some (.slice a8 n8 c8)∧U.cell? ⟨wr.heap.size,12,none⟩=some (.bool x.desc)∧U.cell? ⟨wr.heap.size,13,none⟩=some (.int .i64 x.lim):=⟨(kU 0).trans rfl,(kU 1).trans rfl,(kU 2).trans rfl,(kU 3).trans rfl,(kU 4).trans rfl,(kU 5).trans rfl,(kU 6).trans rfl,(kU 7).trans rfl,(kU 8).trans rfl,(kU 9).trans rfl,(kU 10).trans rfl,(kU 11).trans rfl,(kU 12).trans rfl,(kU 13).trans rfl⟩
   clear kU
   have oK:=hw1.below bB
   have iq:=hid (fP.mk' hw1 eU (aaF _))
   have qm:=hid (vP.out.to (R:=fun _=>False) (T:=fun b=>b<g) (ak.aA bB) (fun b hb _=>⟨id,hb⟩))
   have HT1:=hid ht1
   have jG:=hid hf1
   have bS:=hid bB
   clear ht1 hf1 bB eU hw1 vP
   generalize vR:aV (bg sep) ((xs.take k).map tk)=PT at *
   generalize AO:aZ ((xs.take k).map dp)=PD at *
   by_cases hk0:k=0
   ·rw[if_pos hk0] at hs1 hll
    have mF:PT=[]:=by rw[← vR,hk0];simp[aV]
    have lg:=HF.out x hxm U kK (L++PT) (max m (d+(PD:Int))) oK _ qm.out (by rw[mF];simp;omega) (by omega) (by omega)
    have HC:Hid (Calls Tryz.prog fr #[.pointer (some ⟨g,0,none⟩),.agg #[.int .i64 x.k,.string (aj x.tb),.slice a1 n1 c1,.string (aj x.aD),.slice a2 n2 c2,.slice a3 n3 c3,.slice a4 n4 c4,.string (aj x.jn),.slice a5 n5 c5,.slice a6 n6 c6,.slice a7 n7 c7,.slice a8 n8 c8,.bool x.desc,.int .i64 x.lim]] U fun e w'=>e = .returned (.tuple #[])∧Wrote g kK U w' (L++aV (bg sep) ((xs.take (k+1)).map tk)) d (max m (d+(aZ ((xs.take (k+1)).map dp):Nat)))):=hid (by
     rw[hs1,hs2]
     rw[mF,List.append_nil] at lg
     rw[show max m (d+((max PD (dp x):Nat):Int))=max (max m (d+(PD:Int))) (d+(dp x:Int)) by omega]
     exact lg)
    have dn:Hid (eP g tb w U):=hid (jG.out.iI bS.out)
    clear lg hs1 hs2 hll hmm hxm oK vR AO mF hcell hx
    have hk0' : ¬((0:Int)<(k:Int)):=by omega
    clear hk0
    go_wp2_with (first | (refine eX hU ?_;clear hU) | fail)
    refine HC.out.mono ?_
    rintro e w2 ⟨rfl,h2⟩
    have HQ:=hid (Wrote.then HT1.out dn.out h2)
    clear h2 HC
    go_wp2
    go_roundw
    case rel=>exact⟨k+1,by omega,by go_num,HQ.out⟩
    case measure=>simp[intOf];omega
   ·rw[if_neg hk0] at hs1 hll
    have hk0':((0:Int)<(k:Int)):=by omega
    simp only[aaN,aa1] at hll
    have HX:Hid (Calls Tryz.prog 98 #[.pointer (some ⟨g,0,none⟩),.slice (some ⟨U.heap.size,0,none⟩) 1 1] (U.alloc (.cells #[.string (aj sep)] 9)) fun e w'=>e = .returned (.tuple #[])∧Wrote g kK U w' (L++PT++ay [sep]) d (max m (d+(PD:Int)))):=hid (aX g kK _ d _ [sep] U oK (by simp) (by simpa using hsep) (by simp;omega))
    have Gs:=hid oK
    have dn:Hid (eP g tb w U):=hid (jG.out.iI bS.out)
    have iY:=hid hs1
    have HS2:=hid hs2
    have HM:=hid hxm
    clear hs1 hs2 hxm oK vR AO hcell hx
    go_wp2_with (first | (refine eX hU ?_;clear hU) | fail)
    refine HX.out.mono ?_
    rintro e w2 ⟨rfl,nH,hw2,ht2,hf2⟩
    have hbx:=fun i=>aB w2 wr.heap.size _ _ _ i (iq.out.on ht2 hf2).at'
    have kX:w2.cell? ⟨wr.heap.size,0,none⟩=some (.int .i64 x.k)∧w2.cell? ⟨wr.heap.size,1,none⟩=some (.string (aj x.tb))∧w2.cell? ⟨wr.heap.size,2,none⟩=some (.slice a1 n1 c1)∧w2.cell? ⟨wr.heap.size,3,none⟩=some (.string (aj x.aD))∧w2.cell? ⟨wr.heap.size,4,none⟩=some (.slice a2 n2 c2)∧w2.cell? ⟨wr.heap.size,5,none⟩=some (.slice a3 n3 c3)∧w2.cell? ⟨wr.heap.size,6,none⟩=some (.slice a4 n4 c4)∧w2.cell? ⟨wr.heap.size,7,none⟩=some (.string (aj x.jn))∧w2.cell? ⟨wr.heap.size,8,none⟩=some (.slice a5 n5 c5)∧w2.cell? ⟨wr.heap.size,9,none⟩=some (.slice a6 n6 c6)∧w2.cell? ⟨wr.heap.size,10,none⟩=some (.slice a7 n7 c7)∧w2.cell? ⟨wr.heap.size,11,none⟩=some (.slice a8 n8 c8)∧w2.cell? ⟨wr.heap.size,12,none⟩=some (.bool x.desc)∧w2.cell? ⟨wr.heap.size,13,none⟩=some (.int .i64 x.lim):=⟨(hbx 0).trans rfl,(hbx 1).trans rfl,(hbx 2).trans rfl,(hbx 3).trans rfl,(hbx 4).trans rfl,(hbx 5).trans rfl,(hbx 6).trans rfl,(hbx 7).trans rfl,(hbx 8).trans rfl,(hbx 9).trans rfl,(hbx 10).trans rfl,(hbx 11).trans rfl,(hbx 12).trans rfl,(hbx 13).trans rfl⟩
    clear hbx
    have lg:=HF.out x HM.out w2 nH _ (max m (d+(PD:Int))) hw2 _ (qm.out.to hf2 (eP.keeps Gs.out hf2)) (by simp[ay];omega) (by omega) (by omega)
    have HC:Hid (Calls Tryz.prog fr #[.pointer (some ⟨g,0,none⟩),.agg #[.int .i64 x.k,.string (aj x.tb),.slice a1 n1 c1,.string (aj x.aD),.slice a2 n2 c2,.slice a3 n3 c3,.slice a4 n4 c4,.string (aj x.jn),.slice a5 n5 c5,.slice a6 n6 c6,.slice a7 n7 c7,.slice a8 n8 c8,.bool x.desc,.int .i64 x.lim]] w2 fun e w'=>e = .returned (.tuple #[])∧Wrote g nH w2 w' (L++aV (bg sep) ((xs.take (k+1)).map tk)) d (max m (d+(aZ ((xs.take (k+1)).map dp):Nat)))):=hid (by
     rw[iY.out,HS2.out]
     rw[show max m (d+((max PD (dp x):Nat):Int))=max (max m (d+(PD:Int))) (d+(dp x:Int)) by omega]
     rw[show L++PT++ay [sep]++tk x=L++(PT++bg sep::tk x) by simp[ay]] at lg
     exact lg)
    have HT2:=hid ht2
    have jW:=hid hf2
    clear lg ht2 hf2 hw2 HX
    go_wp2_with fail
    refine HC.out.mono ?_
    rintro e w3 ⟨rfl,h3⟩
    have HQ:=hid (Wrote.then HT1.out dn.out (Wrote.then HT2.out jW.out h3))
    clear h3 HC
    go_wp2
    go_roundw
    case rel=>exact⟨k+1,by omega,by go_num,HQ.out⟩
    case measure=>simp[intOf];omega
  ·have hlt' : ¬((k:Int)<(xs.length:Int)):=by omega
   have HQ:Hid (Wrote g tb w wr (L++aV (bg sep) (xs.map tk)) d (max m (d+(aZ (xs.map dp):Nat)))):=hid (by rw[aaU (by omega)] at hq;exact hq)
   clear hq
   go_wp2
   exact bodyPost_end (v:=.tuple #[]) (by simp[results,Tryz.results48,go_sem]) rfl ⟨rfl,HQ.out⟩
def qj (n1:Nat) (aD:List UInt8) (n2 n3 n4:Nat) (jn:List UInt8) (n5 n6 n7 n8:Nat) (desc:Bool) (lim:Int):Bool:=decide (n1=0)&&(decide (aD=[])&&(decide (n2=0)&&(decide (n3=0)&&(decide (n4=0)&&(decide (jn=[])&&(decide (n5=0)&&(decide (n6=0)&&(decide (n7=0)&&(decide (n8=0)&&((!desc)&&decide (lim = -1)))))))))))
theorem dL (aD jn:List UInt8) (desc:Bool) (lim:Int) (a1 a2 a3 a4 a5 a6 a7 a8:Option Addr) (n1 n2 n3 n4 n5 n6 n7 n8 c1 c2 c3 c4 c5 c6 c7 c8:Nat) (w:World) :
  Calls Tryz.prog 97 #[.agg #[.int .i64 0,.string ⟨#[]⟩,.slice a1 n1 c1,.string (aj aD),.slice a2 n2 c2,.slice a3 n3 c3,.slice a4 n4 c4,.string (aj jn),.slice a5 n5 c5,.slice a6 n6 c6,.slice a7 n7 c7,.slice a8 n8 c8,.bool desc,.int .i64 lim]] w fun e w'=>e = .returned (.bool (qj n1 aD n2 n3 n4 jn n5 n6 n7 n8 desc lim))∧Below w.heap.size w w':=by
 have Ol:=bf aD
 have YS:=bf jn
 unfold qj
 obtain⟨W,hW,hbW,aJ,hcW⟩:=aK w (.cells #[.int .i64 0,.string ⟨#[]⟩,.slice a1 n1 c1,.string (aj aD),.slice a2 n2 c2,.slice a3 n3 c3,.slice a4 n4 c4,.string (aj jn),.slice a5 n5 c5,.slice a6 n6 c6,.slice a7 n7 c7,.slice a8 n8 c8,.bool desc,.int .i64 lim] 29)
 have k0:=au hcW
 have HB:=hid hbW
 have HC:=hid hcW
 have dn:=hid (Below.refl W.heap.size W)
 clear hbW hcW
 cases hv0:decide (n1=0) with
 |
  true =>
  rw[aaA]
  have gn1:((n1:Int)==0)=true:=by rw[of_decide_eq_true hv0];rfl
  clear hv0
  cases hv1:decide (aD=[]) with
  |
   true =>
   rw[aaA]
   rw[hv1] at Ol
   clear hv1
   cases hv2:decide (n2=0) with
   |
    true =>
    rw[aaA]
    have gn2:((n2:Int)==0)=true:=by rw[of_decide_eq_true hv2];rfl
    clear hv2
    cases hv3:decide (n3=0) with
    |
     true =>
     rw[aaA]
     have gn3:((n3:Int)==0)=true:=by rw[of_decide_eq_true hv3];rfl
     clear hv3
     cases hv4:decide (n4=0) with
     |
      true =>
      rw[aaA]
      have gn4:((n4:Int)==0)=true:=by rw[of_decide_eq_true hv4];rfl
      clear hv4
      cases hv5:decide (jn=[]) with
      |
       true =>
       rw[aaA]
       rw[hv5] at YS
       clear hv5
       cases hv6:decide (n5=0) with
       |
        true =>
        rw[aaA]
        have gn5:((n5:Int)==0)=true:=by rw[of_decide_eq_true hv6];rfl
        clear hv6
        cases hv7:decide (n6=0) with
        |
         true =>
         rw[aaA]
         have gn6:((n6:Int)==0)=true:=by rw[of_decide_eq_true hv7];rfl
         clear hv7
         cases U7:decide (n7=0) with
         |
          true =>
          rw[aaA]
          have gn7:((n7:Int)==0)=true:=by rw[of_decide_eq_true U7];rfl
          clear U7
          cases ZF:decide (n8=0) with
          |
           true =>
           rw[aaA]
           have gn8:((n8:Int)==0)=true:=by rw[of_decide_eq_true ZF];rfl
           clear ZF
           cases P9:(!desc) with
           |
            true =>
            rw[aaA]
            obtain hde:desc=false:=by simpa using P9
            subst hde
            clear P9
            cases Qo:decide (lim = -1) with
            |
             true =>
             have aaB:(lim==-1)=true:=by rw[of_decide_eq_true Qo];rfl
             clear Qo
             go_enter Tryz.func97,Tryz.ntmps97
             go_wp2
             go_ret
             exact⟨rfl,HB.out.trans (dn.out.mono HB.out.size)⟩
            |
             false =>
             have aaB:(lim==-1)=false:=by rw[aai];exact of_decide_eq_false Qo
             clear Qo
             go_enter Tryz.func97,Tryz.ntmps97
             go_wp2
             go_ret
             exact⟨rfl,HB.out.trans (dn.out.mono HB.out.size)⟩
           |
            false =>
            rw[aaz]
            obtain hde:desc=true:=by simpa using P9
            subst hde
            clear P9
            go_enter Tryz.func97,Tryz.ntmps97
            go_wp2
            go_ret
            exact⟨rfl,HB.out.trans (dn.out.mono HB.out.size)⟩
          |
           false =>
           rw[aaz]
           have gn8:((n8:Int)==0)=false:=by have:=of_decide_eq_false ZF;rw[aai];omega
           clear ZF
           go_enter Tryz.func97,Tryz.ntmps97
           go_wp2
           go_ret
           exact⟨rfl,HB.out.trans (dn.out.mono HB.out.size)⟩
         |
          false =>
          rw[aaz]
          have gn7:((n7:Int)==0)=false:=by have:=of_decide_eq_false U7;rw[aai];omega
          clear U7
          go_enter Tryz.func97,Tryz.ntmps97
          go_wp2
          go_ret
          exact⟨rfl,HB.out.trans (dn.out.mono HB.out.size)⟩
        |
         false =>
         rw[aaz]
         have gn6:((n6:Int)==0)=false:=by have:=of_decide_eq_false hv7;rw[aai];omega
         clear hv7
         go_enter Tryz.func97,Tryz.ntmps97
         go_wp2
         go_ret
         exact⟨rfl,HB.out.trans (dn.out.mono HB.out.size)⟩
       |
        false =>
        rw[aaz]
        have gn5:((n5:Int)==0)=false:=by have:=of_decide_eq_false hv6;rw[aai];omega
        clear hv6
        go_enter Tryz.func97,Tryz.ntmps97
        go_wp2
        go_ret
        exact⟨rfl,HB.out.trans (dn.out.mono HB.out.size)⟩
      |
       false =>
       rw[aaz]
       rw[hv5] at YS
       clear hv5
       go_enter Tryz.func97,Tryz.ntmps97
       go_wp2
       go_ret
       exact⟨rfl,HB.out.trans (dn.out.mono HB.out.size)⟩
     |
      false =>
      rw[aaz]
      have gn4:((n4:Int)==0)=false:=by have:=of_decide_eq_false hv4;rw[aai];omega
      clear hv4
      go_enter Tryz.func97,Tryz.ntmps97
      go_wp2
      go_ret
      exact⟨rfl,HB.out.trans (dn.out.mono HB.out.size)⟩
    |
     false =>
     rw[aaz]
     have gn3:((n3:Int)==0)=false:=by have:=of_decide_eq_false hv3;rw[aai];omega
     clear hv3
     go_enter Tryz.func97,Tryz.ntmps97
     go_wp2
     go_ret
     exact⟨rfl,HB.out.trans (dn.out.mono HB.out.size)⟩
   |
    false =>
    rw[aaz]
    have gn2:((n2:Int)==0)=false:=by have:=of_decide_eq_false hv2;rw[aai];omega
    clear hv2
    go_enter Tryz.func97,Tryz.ntmps97
    go_wp2
    go_ret
    exact⟨rfl,HB.out.trans (dn.out.mono HB.out.size)⟩
  |
   false =>
   rw[aaz]
   rw[hv1] at Ol
   clear hv1
   go_enter Tryz.func97,Tryz.ntmps97
   go_wp2
   go_ret
   exact⟨rfl,HB.out.trans (dn.out.mono HB.out.size)⟩
 |
  false =>
  rw[aaz]
  have gn1:((n1:Int)==0)=false:=by have:=of_decide_eq_false hv0;rw[aai];omega
  clear hv0
  go_enter Tryz.func97,Tryz.ntmps97
  go_wp2
  go_ret
  exact⟨rfl,HB.out.trans (dn.out.mono HB.out.size)⟩
end Go.Proofs.YtfeglkleoijlaaaGreatDoor
