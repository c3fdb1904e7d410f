import Derived.Test.YtfeglkleoijlaaaGreatDoorY07
namespace Go.Proofs.YtfeglkleoijlaaaGreatDoor
open Go.RowKit Go.Shelf
set_option linter.unusedSimpArgs false
set_option linter.unusedVariables false
set_option maxRecDepth 20000
set_option maxHeartbeats 8000000
theorem Li (fr:Nat) (eg : ∀args w,(callFunc fr args).run Tryz.prog w = .ok (.enter fr args) w) (tk:Co→List Tk) (dp:Co→Nat) (sep:List UInt8) (hsep:sep≠[]) (xs:List (Co)) (v:Value)
  (g:Nat) (tb:Option Nat) (L:List Tk) (d m:Int) (w:World) (h:bO w g tb L d m) (hv:aM 4 ku (fun b=>b<g) w xs v) (jy:d≤m) (hm:m≤1000000000) (hd : ∀x∈xs,d+dp x≤1000000000) (hL:L.length+(aV (bg sep) (xs.map tk)).length≤1000000000)
  (HF:Hid (∀x∈xs,∀(V:World) (tb':Option Nat) (L':List Tk) (m':Int),bO V g tb' L' d m'→∀cs,ku (fun b=>b<g) V x cs→L'.length+(tk x).length≤1000000000→d≤m'→m'≤1000000000→Calls Tryz.prog fr #[.pointer (some ⟨g,0,none⟩),.agg cs.toArray] V fun e w'=>e = .returned (.tuple #[])∧Wrote g tb' V w' (L'++tk x) d (max m' (d+dp x)))) :
  Calls Tryz.prog 145 #[.pointer (some ⟨g,0,none⟩),.string (aj sep),v,.func (.func fr) #[.pointer (some ⟨g,0,none⟩)] #[]] w fun e w'=>e = .returned (.tuple #[])∧Wrote g tb w w' (L++aV (bg sep) (xs.map tk)) d (max m (d+(aZ (xs.map dp):Nat))):=by
 have HV:=hid hv
 have HW:=hid h
 have hdl : ∀k,d+(aZ ((xs.take k).map dp):Nat)≤1000000000:=fun k=>by
  have : ∀l:List (Co),(∀x∈l,d+dp x≤1000000000)→d+(aZ (l.map dp):Nat)≤1000000000:=fun l=>by
   induction l with
   | nil=>intro _;show d+((0:Nat):Int)≤_;omega
   |
    cons x l ih =>
    intro hh
    have h1:=hh x (by simp)
    have h2:=ih (fun y hy=>hh y (by simp[hy]))
    show d+((max (dp x) (aZ (l.map dp)):Nat):Int)≤_
    omega
  exact this _ (fun x hx=>hd x (List.mem_of_mem_take hx))
 have Ko:=hid hdl
 have hsl : ∀k,(aV (bg sep) ((xs.take k).map tk)).length≤(aV (bg sep) (xs.map tk)).length:=fun k=>by
  have e:xs.map tk=(xs.take k).map tk++(xs.drop k).map tk:=by rw[← List.map_append,List.take_append_drop]
  rw[e]
  cases (xs.take k).map tk with
  | nil=>simp[aV]
  | cons a l=>simp[aV,List.flatMap_append]
 have HSL:=hid hsl
 have j5 : ∀k x,xs[k]?=some x→aV (bg sep) ((xs.take (k+1)).map tk)=(if k=0 then tk x else aV (bg sep) ((xs.take k).map tk)++bg sep::tk x)∧aZ ((xs.take (k+1)).map dp)=max (aZ ((xs.take k).map dp)) (dp x):=fun k x hx=>by
  obtain⟨h1,h2⟩:=aam.1 hx
  rw[aaJ h1,h2,List.map_append,List.map_append]
  refine ⟨?_,?_⟩
  ·rw[show [x].map tk=[tk x] from rfl,lV]
   by_cases e:k=0
   ·subst e;simp
   ·rw[if_neg e,if_neg (fun e2=>e (by have:=congrArg List.length e2;rw[List.length_map,List.length_take,List.length_nil] at this;omega))]
  ·have : ∀(l:List Nat) (n:Nat),aZ (l++[n])=max (aZ l) n:=fun l n=>by
    induction l with
    | nil=>show max n 0=max 0 n;omega
    | cons a l ih=>show max a (aZ (l++[n]))=max (max a (aZ l)) n;rw[ih];omega
   exact this _ _
 have Jc:=hid j5
 obtain⟨aa,cc,css,rfl,h1,h2,_⟩:=hv
 unfold maxLen at h2
 clear h hdl hsl j5 hd
 go_enter Tryz.func145,Tryz.ntmps145
 go_wp2_with fail
 go_loopw [8,9,12] (fun _ _ i wr=>∃(k:Nat),k≤xs.length∧i = .int .i64 k∧Wrote g tb w wr (L++aV (bg sep) ((xs.take k).map tk)) d (max m (d+(aZ ((xs.take k).map dp):Nat)))) (fun _ _ i _=>xs.length-(intOf i).toNat)
 case atStart =>
  refine ⟨0,aaV _,rfl,?_⟩
  have e:max m (d+(aZ ((xs.take 0).map dp):Nat))=m:=by show max m (d+((0:Nat):Int))=m;omega
  rw[e]
  simpa [aV] using HW.out.here
 case round =>
  obtain⟨k,hk,rfl,hq⟩:=hrel
  by_cases hlt:k<xs.length
  ·obtain⟨x,hx⟩:∃x,xs[k]?=some x:=⟨_,aaf hlt⟩
   have hlt':((k:Int)<(xs.length:Int)):=by omega
   obtain⟨kK,hw1,ht1,hf1⟩:=hq
   obtain⟨_,_,_,b,off,cs,rfl,_,hel,hcell⟩:=bC (HV.out.to (T:=fun b=>b<g) (by decide) hf1 (eP.keeps HW.out hf1) (fun _ _ e=>e.to hf1 (eP.keeps HW.out hf1))) hx
   obtain⟨hs1,hs2⟩:=Jc.out k x hx
   have hxm:=aaP hx
   have hll:=HSL.out (k+1)
   have hmm:=Ko.out k
   rw[hs1] at hll
   have vP:=hid hel
   obtain rfl:=hel
   have q0:=hcell 0 _ rfl
   have q1:=hcell 1 _ rfl
   have q2:=hcell 2 _ rfl
   have q3:=hcell 3 _ rfl
   simp only[aa2] at q0
   have hgt:g<wr.heap.size:=hw1.lt
   obtain⟨U,hU,bB,jc,eU⟩:=aK wr (.cells #[.string (aj x.nm),.int .i64 x.k,.bool x.nn,.bool x.uq] 60)
   have kU:=fun i=>aB U wr.heap.size _ _ _ i eU
   have JZ:U.cell? ⟨wr.heap.size,0,none⟩=some (.string (aj x.nm))∧U.cell? ⟨wr.heap.size,1,none⟩=some (.int .i64 x.k)∧U.cell? ⟨wr.heap.size,2,none⟩=some (.bool x.nn)∧U.cell? ⟨wr.heap.size,3,none⟩=some (.bool x.uq):=⟨(kU 0).trans rfl,(kU 1).trans rfl,(kU 2).trans rfl,(kU 3).trans rfl⟩
   clear kU
   have oK:=hw1.below bB
   have iq:=hid (fP.mk' hw1 eU (aaF _))
   have qm:=hid (vP.out.to (R:=fun _=>False) (T:=fun b=>b<g) (ak.aA bB) (fun b hb _=>⟨id,hb⟩))
   have HT1:=hid ht1
   have jG:=hid hf1
   have bS:=hid bB
   clear ht1 hf1 bB eU hw1 vP
   generalize vR:aV (bg sep) ((xs.take k).map tk)=PT at *
   generalize AO:aZ ((xs.take k).map dp)=PD at *
   by_cases hk0:k=0
   ·rw[if_pos hk0] at hs1 hll
    have mF:PT=[]:=by rw[← vR,hk0];simp[aV]
    have lg:=HF.out x hxm U kK (L++PT) (max m (d+(PD:Int))) oK _ qm.out (by rw[mF];simp;omega) (by omega) (by omega)
    have HC:Hid (Calls Tryz.prog fr #[.pointer (some ⟨g,0,none⟩),.agg #[.string (aj x.nm),.int .i64 x.k,.bool x.nn,.bool x.uq]] U fun e w'=>e = .returned (.tuple #[])∧Wrote g kK U w' (L++aV (bg sep) ((xs.take (k+1)).map tk)) d (max m (d+(aZ ((xs.take (k+1)).map dp):Nat)))):=hid (by
     rw[hs1,hs2]
     rw[mF,List.append_nil] at lg
     rw[show max m (d+((max PD (dp x):Nat):Int))=max (max m (d+(PD:Int))) (d+(dp x:Int)) by omega]
     exact lg)
    have dn:Hid (eP g tb w U):=hid (jG.out.iI bS.out)
    clear lg hs1 hs2 hll hmm hxm oK vR AO mF hcell hx
    have hk0' : ¬((0:Int)<(k:Int)):=by omega
    clear hk0
    go_wp2_with (first | (refine eX hU ?_;clear hU) | fail)
    refine HC.out.mono ?_
    rintro e w2 ⟨rfl,h2⟩
    have HQ:=hid (Wrote.then HT1.out dn.out h2)
    clear h2 HC
    go_wp2
    go_roundw
    case rel=>exact⟨k+1,by omega,by go_num,HQ.out⟩
    case measure=>simp[intOf];omega
   ·rw[if_neg hk0] at hs1 hll
    have hk0':((0:Int)<(k:Int)):=by omega
    simp only[aaN,aa1] at hll
    have HX:Hid (Calls Tryz.prog 98 #[.pointer (some ⟨g,0,none⟩),.slice (some ⟨U.heap.size,0,none⟩) 1 1] (U.alloc (.cells #[.string (aj sep)] 9)) fun e w'=>e = .returned (.tuple #[])∧Wrote g kK U w' (L++PT++ay [sep]) d (max m (d+(PD:Int)))):=hid (aX g kK _ d _ [sep] U oK (by simp) (by simpa using hsep) (by simp;omega))
    have Gs:=hid oK
    have dn:Hid (eP g tb w U):=hid (jG.out.iI bS.out)
    have iY:=hid hs1
    have HS2:=hid hs2
    have HM:=hid hxm
    clear hs1 hs2 hxm oK vR AO hcell hx
    go_wp2_with (first | (refine eX hU ?_;clear hU) | fail)
    refine HX.out.mono ?_
    rintro e w2 ⟨rfl,nH,hw2,ht2,hf2⟩
    have hbx:=fun i=>aB w2 wr.heap.size _ _ _ i (iq.out.on ht2 hf2).at'
    have kX:w2.cell? ⟨wr.heap.size,0,none⟩=some (.string (aj x.nm))∧w2.cell? ⟨wr.heap.size,1,none⟩=some (.int .i64 x.k)∧w2.cell? ⟨wr.heap.size,2,none⟩=some (.bool x.nn)∧w2.cell? ⟨wr.heap.size,3,none⟩=some (.bool x.uq):=⟨(hbx 0).trans rfl,(hbx 1).trans rfl,(hbx 2).trans rfl,(hbx 3).trans rfl⟩
    clear hbx
    have lg:=HF.out x HM.out w2 nH _ (max m (d+(PD:Int))) hw2 _ (qm.out.to hf2 (eP.keeps Gs.out hf2)) (by simp[ay];omega) (by omega) (by omega)
    have HC:Hid (Calls Tryz.prog fr #[.pointer (some ⟨g,0,none⟩),.agg #[.string (aj x.nm),.int .i64 x.k,.bool x.nn,.bool x.uq]] w2 fun e w'=>e = .returned (.tuple #[])∧Wrote g nH w2 w' (L++aV (bg sep) ((xs.take (k+1)).map tk)) d (max m (d+(aZ ((xs.take (k+1)).map dp):Nat)))):=hid (by
     rw[iY.out,HS2.out]
     rw[show max m (d+((max PD (dp x):Nat):Int))=max (max m (d+(PD:Int))) (d+(dp x:Int)) by omega]
     rw[show L++PT++ay [sep]++tk x=L++(PT++bg sep::tk x) by simp[ay]] at lg
     exact lg)
    have HT2:=hid ht2
    have jW:=hid hf2
    clear lg ht2 hf2 hw2 HX
    go_wp2_with fail
    refine HC.out.mono ?_
    rintro e w3 ⟨rfl,h3⟩
    have HQ:=hid (Wrote.then HT1.out dn.out (Wrote.then HT2.out jW.out h3))
    clear h3 HC
    go_wp2
    go_roundw
    case rel=>exact⟨k+1,by omega,by go_num,HQ.out⟩
    case measure=>simp[intOf];omega
  ·have hlt' : ¬((k:Int)<(xs.length:Int)):=by omega
   have HQ:Hid (Wrote g tb w wr (L++aV (bg sep) (xs.map tk)) d (max m (d+(aZ (xs.map dp):Nat)))):=hid (by rw[aaU (by omega)] at hq;exact hq)
   clear hq
   go_wp2
   exact bodyPost_end (v:=.tuple #[]) (by simp[results,Tryz.results145,go_sem]) rfl ⟨rfl,HQ.out⟩
theorem LK (fr:Nat) (eg : ∀args w,(callFunc fr args).run Tryz.prog w = .ok (.enter fr args) w) (tk:Vl→List Tk) (dp:Vl→Nat) (sep:List UInt8) (hsep:sep≠[]) (xs:List (Vl)) (v:Value)
  (g:Nat) (tb:Option Nat) (L:List Tk) (d m:Int) (w:World) (h:bO w g tb L d m) (hv:aM 3 Ib (fun b=>b<g) w xs v) (jy:d≤m) (hm:m≤1000000000) (hd : ∀x∈xs,d+dp x≤1000000000) (hL:L.length+(aV (bg sep) (xs.map tk)).length≤1000000000)
  (HF:Hid (∀x∈xs,∀(V:World) (tb':Option Nat) (L':List Tk) (m':Int),bO V g tb' L' d m'→∀cs,Ib (fun b=>b<g) V x cs→L'.length+(tk x).length≤1000000000→d≤m'→m'≤1000000000→Calls Tryz.prog fr #[.pointer (some ⟨g,0,none⟩),.agg cs.toArray] V fun e w'=>e = .returned (.tuple #[])∧Wrote g tb' V w' (L'++tk x) d (max m' (d+dp x)))) :
  Calls Tryz.prog 147 #[.pointer (some ⟨g,0,none⟩),.string (aj sep),v,.func (.func fr) #[.pointer (some ⟨g,0,none⟩)] #[]] w fun e w'=>e = .returned (.tuple #[])∧Wrote g tb w w' (L++aV (bg sep) (xs.map tk)) d (max m (d+(aZ (xs.map dp):Nat))):=by
 have HV:=hid hv
 have HW:=hid h
 have hdl : ∀k,d+(aZ ((xs.take k).map dp):Nat)≤1000000000:=fun k=>by
  have : ∀l:List (Vl),(∀x∈l,d+dp x≤1000000000)→d+(aZ (l.map dp):Nat)≤1000000000:=fun l=>by
   induction l with
   | nil=>intro _;show d+((0:Nat):Int)≤_;omega
   |
    cons x l ih =>
    intro hh
    have h1:=hh x (by simp)
    have h2:=ih (fun y hy=>hh y (by simp[hy]))
    show d+((max (dp x) (aZ (l.map dp)):Nat):Int)≤_
    omega
  exact this _ (fun x hx=>hd x (List.mem_of_mem_take hx))
 have Ko:=hid hdl
 have hsl : ∀k,(aV (bg sep) ((xs.take k).map tk)).length≤(aV (bg sep) (xs.map tk)).length:=fun k=>by
  have e:xs.map tk=(xs.take k).map tk++(xs.drop k).map tk:=by rw[← List.map_append,List.take_append_drop]
  rw[e]
  cases (xs.take k).map tk with
  | nil=>simp[aV]
  | cons a l=>simp[aV,List.flatMap_append]
 have HSL:=hid hsl
 have j5 : ∀k x,xs[k]?=some x→aV (bg sep) ((xs.take (k+1)).map tk)=(if k=0 then tk x else aV (bg sep) ((xs.take k).map tk)++bg sep::tk x)∧aZ ((xs.take (k+1)).map dp)=max (aZ ((xs.take k).map dp)) (dp x):=fun k x hx=>by
  obtain⟨h1,h2⟩:=aam.1 hx
  rw[aaJ h1,h2,List.map_append,List.map_append]
  refine ⟨?_,?_⟩
  ·rw[show [x].map tk=[tk x] from rfl,lV]
   by_cases e:k=0
   ·subst e;simp
   ·rw[if_neg e,if_neg (fun e2=>e (by have:=congrArg List.length e2;rw[List.length_map,List.length_take,List.length_nil] at this;omega))]
  ·have : ∀(l:List Nat) (n:Nat),aZ (l++[n])=max (aZ l) n:=fun l n=>by
    induction l with
    | nil=>show max n 0=max 0 n;omega
    | cons a l ih=>show max a (aZ (l++[n]))=max (max a (aZ l)) n;rw[ih];omega
   exact this _ _
 have Jc:=hid j5
 obtain⟨aa,cc,css,rfl,h1,h2,_⟩:=hv
 unfold maxLen at h2
 clear h hdl hsl j5 hd
 go_enter Tryz.func147,Tryz.ntmps147
 go_wp2_with fail
 go_loopw [8,9,12] (fun _ _ i wr=>∃(k:Nat),k≤xs.length∧i = .int .i64 k∧Wrote g tb w wr (L++aV (bg sep) ((xs.take k).map tk)) d (max m (d+(aZ ((xs.take k).map dp):Nat)))) (fun _ _ i _=>xs.length-(intOf i).toNat)
 case atStart =>
  refine ⟨0,aaV _,rfl,?_⟩
  have e:max m (d+(aZ ((xs.take 0).map dp):Nat))=m:=by show max m (d+((0:Nat):Int))=m;omega
  rw[e]
  simpa [aV] using HW.out.here
 case round =>
  obtain⟨k,hk,rfl,hq⟩:=hrel
  by_cases hlt:k<xs.length
  ·obtain⟨x,hx⟩:∃x,xs[k]?=some x:=⟨_,aaf hlt⟩
   have hlt':((k:Int)<(xs.length:Int)):=by omega
   obtain⟨kK,hw1,ht1,hf1⟩:=hq
   obtain⟨_,_,_,b,off,cs,rfl,_,hel,hcell⟩:=bC (HV.out.to (T:=fun b=>b<g) (by decide) hf1 (eP.keeps HW.out hf1) (fun _ _ e=>e.to hf1 (eP.keeps HW.out hf1))) hx
   obtain⟨hs1,hs2⟩:=Jc.out k x hx
   have hxm:=aaP hx
   have hll:=HSL.out (k+1)
   have hmm:=Ko.out k
   rw[hs1] at hll
   have vP:=hid hel
   obtain rfl:=hel
   have q0:=hcell 0 _ rfl
   have q1:=hcell 1 _ rfl
   have q2:=hcell 2 _ rfl
   simp only[aa2] at q0
   have hgt:g<wr.heap.size:=hw1.lt
   obtain⟨U,hU,bB,jc,eU⟩:=aK wr (.cells #[.int .i64 x.k,.int .i64 x.n,.string (aj x.s)] 46)
   have kU:=fun i=>aB U wr.heap.size _ _ _ i eU
   have JZ:U.cell? ⟨wr.heap.size,0,none⟩=some (.int .i64 x.k)∧U.cell? ⟨wr.heap.size,1,none⟩=some (.int .i64 x.n)∧U.cell? ⟨wr.heap.size,2,none⟩=some (.string (aj x.s)):=⟨(kU 0).trans rfl,(kU 1).trans rfl,(kU 2).trans rfl⟩
   clear kU
   have oK:=hw1.below bB
   have iq:=hid (fP.mk' hw1 eU (aaF _))
   have qm:=hid (vP.out.to (R:=fun _=>False) (T:=fun b=>b<g) (ak.aA bB) (fun b hb _=>⟨id,hb⟩))
   have HT1:=hid ht1
   have jG:=hid hf1
   have bS:=hid bB
   clear ht1 hf1 bB eU hw1 vP
   generalize vR:aV (bg sep) ((xs.take k).map tk)=PT at *
   generalize AO:aZ ((xs.take k).map dp)=PD at *
   by_cases hk0:k=0
   ·rw[if_pos hk0] at hs1 hll
    have mF:PT=[]:=by rw[← vR,hk0];simp[aV]
    have lg:=HF.out x hxm U kK (L++PT) (max m (d+(PD:Int))) oK _ qm.out (by rw[mF];simp;omega) (by omega) (by omega)
    have HC:Hid (Calls Tryz.prog fr #[.pointer (some ⟨g,0,none⟩),.agg #[.int .i64 x.k,.int .i64 x.n,.string (aj x.s)]] U fun e w'=>e = .returned (.tuple #[])∧Wrote g kK U w' (L++aV (bg sep) ((xs.take (k+1)).map tk)) d (max m (d+(aZ ((xs.take (k+1)).map dp):Nat)))):=hid (by
     rw[hs1,hs2]
     rw[mF,List.append_nil] at lg
     rw[show max m (d+((max PD (dp x):Nat):Int))=max (max m (d+(PD:Int))) (d+(dp x:Int)) by omega]
     exact lg)
    have dn:Hid (eP g tb w U):=hid (jG.out.iI bS.out)
    clear lg hs1 hs2 hll hmm hxm oK vR AO mF hcell hx
    have hk0' : ¬((0:Int)<(k:Int)):=by omega
    clear hk0
    go_wp2_with (first | (refine eX hU ?_;clear hU) | fail)
    refine HC.out.mono ?_
    rintro e w2 ⟨rfl,h2⟩
    have HQ:=hid (Wrote.then HT1.out dn.out h2)
    clear h2 HC
    go_wp2
    go_roundw
    case rel=>exact⟨k+1,by omega,by go_num,HQ.out⟩
    case measure=>simp[intOf];omega
   ·rw[if_neg hk0] at hs1 hll
    have hk0':((0:Int)<(k:Int)):=by omega
    simp only[aaN,aa1] at hll
    have HX:Hid (Calls Tryz.prog 98 #[.pointer (some ⟨g,0,none⟩),.slice (some ⟨U.heap.size,0,none⟩) 1 1] (U.alloc (.cells #[.string (aj sep)] 9)) fun e w'=>e = .returned (.tuple #[])∧Wrote g kK U w' (L++PT++ay [sep]) d (max m (d+(PD:Int)))):=hid (aX g kK _ d _ [sep] U oK (by simp) (by simpa using hsep) (by simp;omega))
    have Gs:=hid oK
    have dn:Hid (eP g tb w U):=hid (jG.out.iI bS.out)
    have iY:=hid hs1
    have HS2:=hid hs2
    have HM:=hid hxm
    clear hs1 hs2 hxm oK vR AO hcell hx
    go_wp2_with (first | (refine eX hU ?_;clear hU) | fail)
    refine HX.out.mono ?_
    rintro e w2 ⟨rfl,nH,hw2,ht2,hf2⟩
    have hbx:=fun i=>aB w2 wr.heap.size _ _ _ i (iq.out.on ht2 hf2).at'
    have kX:w2.cell? ⟨wr.heap.size,0,none⟩=some (.int .i64 x.k)∧w2.cell? ⟨wr.heap.size,1,none⟩=some (.int .i64 x.n)∧w2.cell? ⟨wr.heap.size,2,none⟩=some (.string (aj x.s)):=⟨(hbx 0).trans rfl,(hbx 1).trans rfl,(hbx 2).trans rfl⟩
    clear hbx
    have lg:=HF.out x HM.out w2 nH _ (max m (d+(PD:Int))) hw2 _ (qm.out.to hf2 (eP.keeps Gs.out hf2)) (by simp[ay];omega) (by omega) (by omega)
    have HC:Hid (Calls Tryz.prog fr #[.pointer (some ⟨g,0,none⟩),.agg #[.int .i64 x.k,.int .i64 x.n,.string (aj x.s)]] w2 fun e w'=>e = .returned (.tuple #[])∧Wrote g nH w2 w' (L++aV (bg sep) ((xs.take (k+1)).map tk)) d (max m (d+(aZ ((xs.take (k+1)).map dp):Nat)))):=hid (by
     rw[iY.out,HS2.out]
     rw[show max m (d+((max PD (dp x):Nat):Int))=max (max m (d+(PD:Int))) (d+(dp x:Int)) by omega]
     rw[show L++PT++ay [sep]++tk x=L++(PT++bg sep::tk x) by simp[ay]] at lg
     exact lg)
    have HT2:=hid ht2
    have jW:=hid hf2
    clear lg ht2 hf2 hw2 HX
    go_wp2_with fail
    refine HC.out.mono ?_
    rintro e w3 ⟨rfl,h3⟩
    have HQ:=hid (Wrote.then HT1.out dn.out (Wrote.then HT2.out jW.out h3))
    clear h3 HC
    go_wp2
    go_roundw
    case rel=>exact⟨k+1,by omega,by go_num,HQ.out⟩
    case measure=>simp[intOf];omega
  ·have hlt' : ¬((k:Int)<(xs.length:Int)):=by omega
   have HQ:Hid (Wrote g tb w wr (L++aV (bg sep) (xs.map tk)) d (max m (d+(aZ (xs.map dp):Nat)))):=hid (by rw[aaU (by omega)] at hq;exact hq)
   clear hq
   go_wp2
   exact bodyPost_end (v:=.tuple #[]) (by simp[results,Tryz.results147,go_sem]) rfl ⟨rfl,HQ.out⟩
theorem NV (fr:Nat) (eg : ∀args w,(callFunc fr args).run Tryz.prog w = .ok (.enter fr args) w) (tk:Se→List Tk) (dp:Se→Nat) (sep:List UInt8) (hsep:sep≠[]) (xs:List (Se)) (v:Value)
  (g:Nat) (tb:Option Nat) (L:List Tk) (d m:Int) (w:World) (h:bO w g tb L d m) (hv:aM 9 BM (fun b=>b<g) w xs v) (jy:d≤m) (hm:m≤1000000000) (hd : ∀x∈xs,d+dp x≤1000000000) (hL:L.length+(aV (bg sep) (xs.map tk)).length≤1000000000)
  (HF:Hid (∀x∈xs,∀(V:World) (tb':Option Nat) (L':List Tk) (m':Int),bO V g tb' L' d m'→∀cs,BM (fun b=>b<g) V x cs→L'.length+(tk x).length≤1000000000→d≤m'→m'≤1000000000→Calls Tryz.prog fr #[.pointer (some ⟨g,0,none⟩),.agg cs.toArray] V fun e w'=>e = .returned (.tuple #[])∧Wrote g tb' V w' (L'++tk x) d (max m' (d+dp x)))) :
  Calls Tryz.prog 103 #[.pointer (some ⟨g,0,none⟩),.string (aj sep),v,.func (.func fr) #[.pointer (some ⟨g,0,none⟩)] #[]] w fun e w'=>e = .returned (.tuple #[])∧Wrote g tb w w' (L++aV (bg sep) (xs.map tk)) d (max m (d+(aZ (xs.map dp):Nat))):=by
 have HV:=hid hv
 have HW:=hid h
 have hdl : ∀k,d+(aZ ((xs.take k).map dp):Nat)≤1000000000:=fun k=>by
  have : ∀l:List (Se),(∀x∈l,d+dp x≤1000000000)→d+(aZ (l.map dp):Nat)≤1000000000:=fun l=>by
   induction l with
   | nil=>intro _;show d+((0:Nat):Int)≤_;omega
   |
    cons x l ih =>
    intro hh
    have h1:=hh x (by simp)
    have h2:=ih (fun y hy=>hh y (by simp[hy]))
    show d+((max (dp x) (aZ (l.map dp)):Nat):Int)≤_
    omega
  exact this _ (fun x hx=>hd x (List.mem_of_mem_take hx))
 have Ko:=hid hdl
 have hsl : ∀k,(aV (bg sep) ((xs.take k).map tk)).length≤(aV (bg sep) (xs.map tk)).length:=fun k=>by
  have e:xs.map tk=(xs.take k).map tk++(xs.drop k).map tk:=by rw[← List.map_append,List.take_append_drop]
  rw[e]
  cases (xs.take k).map tk with
  | nil=>simp[aV]
  | cons a l=>simp[aV,List.flatMap_append]
 have HSL:=hid hsl
 have j5 : ∀k x,xs[k]?=some x→aV (bg sep) ((xs.take (k+1)).map tk)=(if k=0 then tk x else aV (bg sep) ((xs.take k).map tk)++bg sep::tk x)∧aZ ((xs.take (k+1)).map dp)=max (aZ ((xs.take k).map dp)) (dp x):=fun k x hx=>by
  obtain⟨h1,h2⟩:=aam.1 hx
  rw[aaJ h1,h2,List.map_append,List.map_append]
  refine ⟨?_,?_⟩
  ·rw[show [x].map tk=[tk x] from rfl,lV]
   by_cases e:k=0
   ·subst e;simp
   ·rw[if_neg e,if_neg (fun e2=>e (by have:=congrArg List.length e2;rw[List.length_map,List.length_take,List.length_nil] at this;omega))]
  ·have : ∀(l:List Nat) (n:Nat),aZ (l++[n])=max (aZ l) n:=fun l n=>by
    induction l with
    | nil=>show max n 0=max 0 n;omega
    | cons a l ih=>show max a (aZ (l++[n]))=max (max a (aZ l)) n;rw[ih];omega
   exact this _ _
 have Jc:=hid j5
 obtain⟨aa,cc,css,rfl,h1,h2,_⟩:=hv
 unfold maxLen at h2
 clear h hdl hsl j5 hd
 go_enter Tryz.func103,Tryz.ntmps103
 go_wp2_with fail
 go_loopw [8,9,12] (fun _ _ i wr=>∃(k:Nat),k≤xs.length∧i = .int .i64 k∧Wrote g tb w wr (L++aV (bg sep) ((xs.take k).map tk)) d (max m (d+(aZ ((xs.take k).map dp):Nat)))) (fun _ _ i _=>xs.length-(intOf i).toNat)
 case atStart =>
  refine ⟨0,aaV _,rfl,?_⟩
  have e:max m (d+(aZ ((xs.take 0).map dp):Nat))=m:=by show max m (d+((0:Nat):Int))=m;omega
  rw[e]
  simpa [aV] using HW.out.here
 case round =>
  obtain⟨k,hk,rfl,hq⟩:=hrel
  by_cases hlt:k<xs.length
  ·obtain⟨x,hx⟩:∃x,xs[k]?=some x:=⟨_,aaf hlt⟩
   have hlt':((k:Int)<(xs.length:Int)):=by omega
   obtain⟨kK,hw1,ht1,hf1⟩:=hq
   obtain⟨_,_,_,b,off,cs,rfl,_,hel,hcell⟩:=bC (HV.out.to (T:=fun b=>b<g) (by decide) hf1 (eP.keeps HW.out hf1) (fun _ _ e=>e.to hf1 (eP.keeps HW.out hf1))) hx
   obtain⟨hs1,hs2⟩:=Jc.out k x hx
   have hxm:=aaP hx
   have hll:=HSL.out (k+1)
   have hmm:=Ko.out k
   rw[hs1] at hll
   have vP:=hid hel
   obtain⟨k1,op1,dN,fU,fJ,fI,vs1,ys1,eD,dF,eB,_,rfl,_⟩:=hel
   have q0:=hcell 0 _ rfl
   have q1:=hcell 1 _ rfl
   have q2:=hcell 2 _ rfl
   have q3:=hcell 3 _ rfl
   have q4:=hcell 4 _ rfl
   have q5:=hcell 5 _ rfl
   have q6:=hcell 6 _ rfl
   have q7:=hcell 7 _ rfl
   have q8:=hcell 8 _ rfl
   simp only[aa2] at q0
   have hgt:g<wr.heap.size:=hw1.lt
   obtain⟨U,hU,bB,jc,eU⟩:=aK wr (.cells #[.string (aj x.nm),.int .i64 k1,.int .i64 op1,.string (aj dN),.string (aj fU),.int .i64 fJ,.int .i64 fI,.string (aj vs1),.slice eD dF eB] 53)
   have kU:=fun i=>aB U wr.heap.size _ _ _ i eU
   have JZ:U.cell? ⟨wr.heap.size,0,none⟩=some (.string (aj x.nm))∧U.cell? ⟨wr.heap.size,1,none⟩=some (.int .i64 k1)∧U.cell? ⟨wr.heap.size,2,none⟩=some (.int .i64 op1)∧U.cell? ⟨wr.heap.size,3,none⟩=some (.string (aj dN))∧U.cell? ⟨wr.heap.size,4,none⟩=some (.string (aj fU))∧U.cell? ⟨wr.heap.size,5,none⟩=some (.int .i64 fJ)∧U.cell? ⟨wr.heap.size,6,none⟩=some (.int .i64 fI)∧U.cell? ⟨wr.heap.size,7,none⟩=some (.string (aj vs1))∧U.cell? ⟨wr.heap.size,8,none⟩=some (.slice eD dF eB):=⟨(kU 0).trans rfl,(kU 1).trans rfl,(kU 2).trans rfl,(kU 3).trans rfl,(kU 4).trans rfl,(kU 5).trans rfl,(kU 6).trans rfl,(kU 7).trans rfl,(kU 8).trans rfl⟩
   clear kU
   have oK:=hw1.below bB
   have iq:=hid (fP.mk' hw1 eU (aaF _))
   have qm:=hid (vP.out.to (R:=fun _=>False) (T:=fun b=>b<g) (ak.aA bB) (fun b hb _=>⟨id,hb⟩))
   have HT1:=hid ht1
   have jG:=hid hf1
   have bS:=hid bB
   clear ht1 hf1 bB eU hw1 vP
   generalize vR:aV (bg sep) ((xs.take k).map tk)=PT at *
   generalize AO:aZ ((xs.take k).map dp)=PD at *
   by_cases hk0:k=0
   ·rw[if_pos hk0] at hs1 hll
    have mF:PT=[]:=by rw[← vR,hk0];simp[aV]
    have lg:=HF.out x hxm U kK (L++PT) (max m (d+(PD:Int))) oK _ qm.out (by rw[mF];simp;omega) (by omega) (by omega)
    have HC:Hid (Calls Tryz.prog fr #[.pointer (some ⟨g,0,none⟩),.agg #[.string (aj x.nm),.int .i64 k1,.int .i64 op1,.string (aj dN),.string (aj fU),.int .i64 fJ,.int .i64 fI,.string (aj vs1),.slice eD dF eB]] U fun e w'=>e = .returned (.tuple #[])∧Wrote g kK U w' (L++aV (bg sep) ((xs.take (k+1)).map tk)) d (max m (d+(aZ ((xs.take (k+1)).map dp):Nat)))):=hid (by
     rw[hs1,hs2]
     rw[mF,List.append_nil] at lg
     rw[show max m (d+((max PD (dp x):Nat):Int))=max (max m (d+(PD:Int))) (d+(dp x:Int)) by omega]
     exact lg)
    have dn:Hid (eP g tb w U):=hid (jG.out.iI bS.out)
    clear lg hs1 hs2 hll hmm hxm oK vR AO mF hcell hx
    have hk0' : ¬((0:Int)<(k:Int)):=by omega
    clear hk0
    go_wp2_with (first | (refine eX hU ?_;clear hU) | fail)
    refine HC.out.mono ?_
    rintro e w2 ⟨rfl,h2⟩
    have HQ:=hid (Wrote.then HT1.out dn.out h2)
    clear h2 HC
    go_wp2
    go_roundw
    case rel=>exact⟨k+1,by omega,by go_num,HQ.out⟩
    case measure=>simp[intOf];omega
   ·rw[if_neg hk0] at hs1 hll
    have hk0':((0:Int)<(k:Int)):=by omega
    simp only[aaN,aa1] at hll
    have HX:Hid (Calls Tryz.prog 98 #[.pointer (some ⟨g,0,none⟩),.slice (some ⟨U.heap.size,0,none⟩) 1 1] (U.alloc (.cells #[.string (aj sep)] 9)) fun e w'=>e = .returned (.tuple #[])∧Wrote g kK U w' (L++PT++ay [sep]) d (max m (d+(PD:Int)))):=hid (aX g kK _ d _ [sep] U oK (by simp) (by simpa using hsep) (by simp;omega))
    have Gs:=hid oK
    have dn:Hid (eP g tb w U):=hid (jG.out.iI bS.out)
    have iY:=hid hs1
    have HS2:=hid hs2
    have HM:=hid hxm
    clear hs1 hs2 hxm oK vR AO hcell hx
    go_wp2_with (first | (refine eX hU ?_;clear hU) | fail)
    refine HX.out.mono ?_
    rintro e w2 ⟨rfl,nH,hw2,ht2,hf2⟩
    have hbx:=fun i=>aB w2 wr.heap.size _ _ _ i (iq.out.on ht2 hf2).at'
    have kX:w2.cell? ⟨wr.heap.size,0,none⟩=some (.string (aj x.nm))∧w2.cell? ⟨wr.heap.size,1,none⟩=some (.int .i64 k1)∧w2.cell? ⟨wr.heap.size,2,none⟩=some (.int .i64 op1)∧w2.cell? ⟨wr.heap.size,3,none⟩=some (.string (aj dN))∧w2.cell? ⟨wr.heap.size,4,none⟩=some (.string (aj fU))∧w2.cell? ⟨wr.heap.size,5,none⟩=some (.int .i64 fJ)∧w2.cell? ⟨wr.heap.size,6,none⟩=some (.int .i64 fI)∧w2.cell? ⟨wr.heap.size,7,none⟩=some (.string (aj vs1))∧w2.cell? ⟨wr.heap.size,8,none⟩=some (.slice eD dF eB):=⟨(hbx 0).trans rfl,(hbx 1).trans rfl,(hbx 2).trans rfl,(hbx 3).trans rfl,(hbx 4).trans rfl,(hbx 5).trans rfl,(hbx 6).trans rfl,(hbx 7).trans rfl,(hbx 8).trans rfl⟩
    clear hbx
    have lg:=HF.out x HM.out w2 nH _ (max m (d+(PD:Int))) hw2 _ (qm.out.to hf2 (eP.keeps Gs.out hf2)) (by simp[ay];omega) (by omega) (by omega)
    have HC:Hid (Calls Tryz.prog fr #[.pointer (some ⟨g,0,none⟩),.agg #[.string (aj x.nm),.int .i64 k1,.int .i64 op1,.string (aj dN),.string (aj fU),.int .i64 fJ,.int .i64 fI,.string (aj vs1),.slice eD dF eB]] w2 fun e w'=>e = .returned (.tuple #[])∧Wrote g nH w2 w' (L++aV (bg sep) ((xs.take (k+1)).map tk)) d (max m (d+(aZ ((xs.take (k+1)).map dp):Nat)))):=hid (by
     rw[iY.out,HS2.out]
     rw[show max m (d+((max PD (dp x):Nat):Int))=max (max m (d+(PD:Int))) (d+(dp x:Int)) by omega]
     rw[show L++PT++ay [sep]++tk x=L++(PT++bg sep::tk x) by simp[ay]] at lg
     exact lg)
    have HT2:=hid ht2
    have jW:=hid hf2
    clear lg ht2 hf2 hw2 HX
    go_wp2_with fail
    refine HC.out.mono ?_
    rintro e w3 ⟨rfl,h3⟩
    have HQ:=hid (Wrote.then HT1.out dn.out (Wrote.then HT2.out jW.out h3))
    clear h3 HC
    go_wp2
    go_roundw
    case rel=>exact⟨k+1,by omega,by go_num,HQ.out⟩
    case measure=>simp[intOf];omega
  ·have hlt' : ¬((k:Int)<(xs.length:Int)):=by omega
   have HQ:Hid (Wrote g tb w wr (L++aV (bg sep) (xs.map tk)) d (max m (d+(aZ (xs.map dp):Nat)))):=hid (by rw[aaU (by omega)] at hq;exact hq)
   clear hq
   go_wp2
   exact bodyPost_end (v:=.tuple #[]) (by simp[results,Tryz.results103,go_sem]) rfl ⟨rfl,HQ.out⟩
theorem Nu (fr:Nat) (eg : ∀args w,(callFunc fr args).run Tryz.prog w = .ok (.enter fr args) w) (tk:It→List Tk) (dp:It→Nat) (sep:List UInt8) (hsep:sep≠[]) (xs:List (It)) (v:Value)
  (g:Nat) (tb:Option Nat) (L:List Tk) (d m:Int) (w:World) (h:bO w g tb L d m) (hv:aM 2 vY (fun b=>b<g) w xs v) (jy:d≤m) (hm:m≤1000000000) (hd : ∀x∈xs,d+dp x≤1000000000) (hL:L.length+(aV (bg sep) (xs.map tk)).length≤1000000000)
  (HF:Hid (∀x∈xs,∀(V:World) (tb':Option Nat) (L':List Tk) (m':Int),bO V g tb' L' d m'→∀cs,vY (fun b=>b<g) V x cs→L'.length+(tk x).length≤1000000000→d≤m'→m'≤1000000000→Calls Tryz.prog fr #[.pointer (some ⟨g,0,none⟩),.agg cs.toArray] V fun e w'=>e = .returned (.tuple #[])∧Wrote g tb' V w' (L'++tk x) d (max m' (d+dp x)))) :
  Calls Tryz.prog 148 #[.pointer (some ⟨g,0,none⟩),.string (aj sep),v,.func (.func fr) #[.pointer (some ⟨g,0,none⟩)] #[]] w fun e w'=>e = .returned (.tuple #[])∧Wrote g tb w w' (L++aV (bg sep) (xs.map tk)) d (max m (d+(aZ (xs.map dp):Nat))):=by
 have HV:=hid hv
 have HW:=hid h
 have hdl : ∀k,d+(aZ ((xs.take k).map dp):Nat)≤1000000000:=fun k=>by
  have : ∀l:List (It),(∀x∈l,d+dp x≤1000000000)→d+(aZ (l.map dp):Nat)≤1000000000:=fun l=>by
   induction l with
   | nil=>intro _;show d+((0:Nat):Int)≤_;omega
   |
    cons x l ih =>
    intro hh
    have h1:=hh x (by simp)
    have h2:=ih (fun y hy=>hh y (by simp[hy]))
    show d+((max (dp x) (aZ (l.map dp)):Nat):Int)≤_
    omega
  exact this _ (fun x hx=>hd x (List.mem_of_mem_take hx))
 have Ko:=hid hdl
 have hsl : ∀k,(aV (bg sep) ((xs.take k).map tk)).length≤(aV (bg sep) (xs.map tk)).length:=fun k=>by
  have e:xs.map tk=(xs.take k).map tk++(xs.drop k).map tk:=by rw[← List.map_append,List.take_append_drop]
  rw[e]
  cases (xs.take k).map tk with
  | nil=>simp[aV]
  | cons a l=>simp[aV,List.flatMap_append]
 have HSL:=hid hsl
 have j5 : ∀k x,xs[k]?=some x→aV (bg sep) ((xs.take (k+1)).map tk)=(if k=0 then tk x else aV (bg sep) ((xs.take k).map tk)++bg sep::tk x)∧aZ ((xs.take (k+1)).map dp)=max (aZ ((xs.take k).map dp)) (dp x):=fun k x hx=>by
  obtain⟨h1,h2⟩:=aam.1 hx
  rw[aaJ h1,h2,List.map_append,List.map_append]
  refine ⟨?_,?_⟩
  ·rw[show [x].map tk=[tk x] from rfl,lV]
   by_cases e:k=0
   ·subst e;simp
   ·rw[if_neg e,if_neg (fun e2=>e (by have:=congrArg List.length e2;rw[List.length_map,List.length_take,List.length_nil] at this;omega))]
  ·have : ∀(l:List Nat) (n:Nat),aZ (l++[n])=max (aZ l) n:=fun l n=>by
    induction l with
    | nil=>show max n 0=max 0 n;omega
    | cons a l ih=>show max a (aZ (l++[n]))=max (max a (aZ l)) n;rw[ih];omega
   exact this _ _
 have Jc:=hid j5
 obtain⟨aa,cc,css,rfl,h1,h2,_⟩:=hv
 unfold maxLen at h2
 clear h hdl hsl j5 hd
 go_enter Tryz.func148,Tryz.ntmps148
 go_wp2_with fail
 go_loopw [8,9,12] (fun _ _ i wr=>∃(k:Nat),k≤xs.length∧i = .int .i64 k∧Wrote g tb w wr (L++aV (bg sep) ((xs.take k).map tk)) d (max m (d+(aZ ((xs.take k).map dp):Nat)))) (fun _ _ i _=>xs.length-(intOf i).toNat)
 case atStart =>
  refine ⟨0,aaV _,rfl,?_⟩
  have e:max m (d+(aZ ((xs.take 0).map dp):Nat))=m:=by show max m (d+((0:Nat):Int))=m;omega
  rw[e]
  simpa [aV] using HW.out.here
 case round =>
  obtain⟨k,hk,rfl,hq⟩:=hrel
  by_cases hlt:k<xs.length
  ·obtain⟨x,hx⟩:∃x,xs[k]?=some x:=⟨_,aaf hlt⟩
   have hlt':((k:Int)<(xs.length:Int)):=by omega
   obtain⟨kK,hw1,ht1,hf1⟩:=hq
   obtain⟨_,_,_,b,off,cs,rfl,_,hel,hcell⟩:=bC (HV.out.to (T:=fun b=>b<g) (by decide) hf1 (eP.keeps HW.out hf1) (fun _ _ e=>e.to hf1 (eP.keeps HW.out hf1))) hx
   obtain⟨hs1,hs2⟩:=Jc.out k x hx
   have hxm:=aaP hx
   have hll:=HSL.out (k+1)
   have hmm:=Ko.out k
   rw[hs1] at hll
   have vP:=hid hel
   obtain⟨eD,dF,eB,rfl,_⟩:=hel
   have q0:=hcell 0 _ rfl
   have q1:=hcell 1 _ rfl
   simp only[aa2] at q0
   have hgt:g<wr.heap.size:=hw1.lt
   obtain⟨U,hU,bB,jc,eU⟩:=aK wr (.cells #[.int .i64 x.k,.slice eD dF eB] 55)
   have kU:=fun i=>aB U wr.heap.size _ _ _ i eU
   have JZ:U.cell? ⟨wr.heap.size,0,none⟩=some (.int .i64 x.k)∧U.cell? ⟨wr.heap.size,1,none⟩=some (.slice eD dF eB):=⟨(kU 0).trans rfl,(kU 1).trans rfl⟩
   clear kU
   have oK:=hw1.below bB
   have iq:=hid (fP.mk' hw1 eU (aaF _))
   have qm:=hid (vP.out.to (R:=fun _=>False) (T:=fun b=>b<g) (ak.aA bB) (fun b hb _=>⟨id,hb⟩))
   have HT1:=hid ht1
   have jG:=hid hf1
   have bS:=hid bB
   clear ht1 hf1 bB eU hw1 vP
   generalize vR:aV (bg sep) ((xs.take k).map tk)=PT at *
   generalize AO:aZ ((xs.take k).map dp)=PD at *
   by_cases hk0:k=0
   ·rw[if_pos hk0] at hs1 hll
    have mF:PT=[]:=by rw[← vR,hk0];simp[aV]
    have lg:=HF.out x hxm U kK (L++PT) (max m (d+(PD:Int))) oK _ qm.out (by rw[mF];simp;omega) (by omega) (by omega)
    have HC:Hid (Calls Tryz.prog fr #[.pointer (some ⟨g,0,none⟩),.agg #[.int .i64 x.k,.slice eD dF eB]] U fun e w'=>e = .returned (.tuple #[])∧Wrote g kK U w' (L++aV (bg sep) ((xs.take (k+1)).map tk)) d (max m (d+(aZ ((xs.take (k+1)).map dp):Nat)))):=hid (by
     rw[hs1,hs2]
     rw[mF,List.append_nil] at lg
     rw[show max m (d+((max PD (dp x):Nat):Int))=max (max m (d+(PD:Int))) (d+(dp x:Int)) by omega]
     exact lg)
    have dn:Hid (eP g tb w U):=hid (jG.out.iI bS.out)
    clear lg hs1 hs2 hll hmm hxm oK vR AO mF hcell hx
    have hk0' : ¬((0:Int)<(k:Int)):=by omega
    clear hk0
    go_wp2_with (first | (refine eX hU ?_;clear hU) | fail)
    refine HC.out.mono ?_
    rintro e w2 ⟨rfl,h2⟩
    have HQ:=hid (Wrote.then HT1.out dn.out h2)
    clear h2 HC
    go_wp2
    go_roundw
    case rel=>exact⟨k+1,by omega,by go_num,HQ.out⟩
    case measure=>simp[intOf];omega
   ·rw[if_neg hk0] at hs1 hll
    have hk0':((0:Int)<(k:Int)):=by omega
    simp only[aaN,aa1] at hll
    have HX:Hid (Calls Tryz.prog 98 #[.pointer (some ⟨g,0,none⟩),.slice (some ⟨U.heap.size,0,none⟩) 1 1] (U.alloc (.cells #[.string (aj sep)] 9)) fun e w'=>e = .returned (.tuple #[])∧Wrote g kK U w' (L++PT++ay [sep]) d (max m (d+(PD:Int)))):=hid (aX g kK _ d _ [sep] U oK (by simp) (by simpa using hsep) (by simp;omega))
    have Gs:=hid oK
    have dn:Hid (eP g tb w U):=hid (jG.out.iI bS.out)
    have iY:=hid hs1
    have HS2:=hid hs2
    have HM:=hid hxm
    clear hs1 hs2 hxm oK vR AO hcell hx
    go_wp2_with (first | (refine eX hU ?_;clear hU) | fail)
    refine HX.out.mono ?_
    rintro e w2 ⟨rfl,nH,hw2,ht2,hf2⟩
    have hbx:=fun i=>aB w2 wr.heap.size _ _ _ i (iq.out.on ht2 hf2).at'
    have kX:w2.cell? ⟨wr.heap.size,0,none⟩=some (.int .i64 x.k)∧w2.cell? ⟨wr.heap.size,1,none⟩=some (.slice eD dF eB):=⟨(hbx 0).trans rfl,(hbx 1).trans rfl⟩
    clear hbx
    have lg:=HF.out x HM.out w2 nH _ (max m (d+(PD:Int))) hw2 _ (qm.out.to hf2 (eP.keeps Gs.out hf2)) (by simp[ay];omega) (by omega) (by omega)
    have HC:Hid (Calls Tryz.prog fr #[.pointer (some ⟨g,0,none⟩),.agg #[.int .i64 x.k,.slice eD dF eB]] w2 fun e w'=>e = .returned (.tuple #[])∧Wrote g nH w2 w' (L++aV (bg sep) ((xs.take (k+1)).map tk)) d (max m (d+(aZ ((xs.take (k+1)).map dp):Nat)))):=hid (by
     rw[iY.out,HS2.out]
     rw[show max m (d+((max PD (dp x):Nat):Int))=max (max m (d+(PD:Int))) (d+(dp x:Int)) by omega]
     rw[show L++PT++ay [sep]++tk x=L++(PT++bg sep::tk x) by simp[ay]] at lg
     exact lg)
    have HT2:=hid ht2
    have jW:=hid hf2
    clear lg ht2 hf2 hw2 HX
    go_wp2_with fail
    refine HC.out.mono ?_
    rintro e w3 ⟨rfl,h3⟩
    have HQ:=hid (Wrote.then HT1.out dn.out (Wrote.then HT2.out jW.out h3))
    clear h3 HC
    go_wp2
    go_roundw
    case rel=>exact⟨k+1,by omega,by go_num,HQ.out⟩
    case measure=>simp[intOf];omega
  ·have hlt' : ¬((k:Int)<(xs.length:Int)):=by omega
   have HQ:Hid (Wrote g tb w wr (L++aV (bg sep) (xs.map tk)) d (max m (d+(aZ (xs.map dp):Nat)))):=hid (by rw[aaU (by omega)] at hq;exact hq)
   clear hq
   go_wp2
   exact bodyPost_end (v:=.tuple #[]) (by simp[results,Tryz.results148,go_sem]) rfl ⟨rfl,HQ.out⟩
theorem LW (fr:Nat) (eg : ∀args w,(callFunc fr args).run Tryz.prog w = .ok (.enter fr args) w) (tk:List Vl→List Tk) (dp:List Vl→Nat) (sep:List UInt8) (hsep:sep≠[]) (xs:List (List Vl)) (v:Value)
  (g:Nat) (tb:Option Nat) (L:List Tk) (d m:Int) (w:World) (h:bO w g tb L d m) (hv:aM 1 Cw (fun b=>b<g) w xs v) (jy:d≤m) (hm:m≤1000000000) (hd : ∀x∈xs,d+dp x≤1000000000) (hL:L.length+(aV (bg sep) (xs.map tk)).length≤1000000000)
  (HF:Hid (∀x∈xs,∀(V:World) (tb':Option Nat) (L':List Tk) (m':Int),bO V g tb' L' d m'→∀cs,Cw (fun b=>b<g) V x cs→L'.length+(tk x).length≤1000000000→d≤m'→m'≤1000000000→Calls Tryz.prog fr #[.pointer (some ⟨g,0,none⟩),(cs.headD undef)] V fun e w'=>e = .returned (.tuple #[])∧Wrote g tb' V w' (L'++tk x) d (max m' (d+dp x)))) :
  Calls Tryz.prog 101 #[.pointer (some ⟨g,0,none⟩),.string (aj sep),v,.func (.func fr) #[.pointer (some ⟨g,0,none⟩)] #[]] w fun e w'=>e = .returned (.tuple #[])∧Wrote g tb w w' (L++aV (bg sep) (xs.map tk)) d (max m (d+(aZ (xs.map dp):Nat))):=by
 have HV:=hid hv
 have HW:=hid h
 have hdl : ∀k,d+(aZ ((xs.take k).map dp):Nat)≤1000000000:=fun k=>by
  have : ∀l:List (List Vl),(∀x∈l,d+dp x≤1000000000)→d+(aZ (l.map dp):Nat)≤1000000000:=fun l=>by
   induction l with
   | nil=>intro _;show d+((0:Nat):Int)≤_;omega
   |
    cons x l ih =>
    intro hh
    have h1:=hh x (by simp)
    have h2:=ih (fun y hy=>hh y (by simp[hy]))
    show d+((max (dp x) (aZ (l.map dp)):Nat):Int)≤_
    omega
  exact this _ (fun x hx=>hd x (List.mem_of_mem_take hx))
 have Ko:=hid hdl
 have hsl : ∀k,(aV (bg sep) ((xs.take k).map tk)).length≤(aV (bg sep) (xs.map tk)).length:=fun k=>by
  have e:xs.map tk=(xs.take k).map tk++(xs.drop k).map tk:=by rw[← List.map_append,List.take_append_drop]
  rw[e]
  cases (xs.take k).map tk with
  | nil=>simp[aV]
  | cons a l=>simp[aV,List.flatMap_append]
 have HSL:=hid hsl
 have j5 : ∀k x,xs[k]?=some x→aV (bg sep) ((xs.take (k+1)).map tk)=(if k=0 then tk x else aV (bg sep) ((xs.take k).map tk)++bg sep::tk x)∧aZ ((xs.take (k+1)).map dp)=max (aZ ((xs.take k).map dp)) (dp x):=fun k x hx=>by
  obtain⟨h1,h2⟩:=aam.1 hx
  rw[aaJ h1,h2,List.map_append,List.map_append]
  refine ⟨?_,?_⟩
  ·rw[show [x].map tk=[tk x] from rfl,lV]
   by_cases e:k=0
   ·subst e;simp
   ·rw[if_neg e,if_neg (fun e2=>e (by have:=congrArg List.length e2;rw[List.length_map,List.length_take,List.length_nil] at this;omega))]
  ·have : ∀(l:List Nat) (n:Nat),aZ (l++[n])=max (aZ l) n:=fun l n=>by
    induction l with
    | nil=>show max n 0=max 0 n;omega
    | cons a l ih=>show max a (aZ (l++[n]))=max (max a (aZ l)) n;rw[ih];omega
   exact this _ _
 have Jc:=hid j5
 obtain⟨aa,cc,css,rfl,h1,h2,_⟩:=hv
 unfold maxLen at h2
 clear h hdl hsl j5 hd
 go_enter Tryz.func101,Tryz.ntmps101
 go_wp2_with fail
 go_loopw [8,9,12] (fun _ _ i wr=>∃(k:Nat),k≤xs.length∧i = .int .i64 k∧Wrote g tb w wr (L++aV (bg sep) ((xs.take k).map tk)) d (max m (d+(aZ ((xs.take k).map dp):Nat)))) (fun _ _ i _=>xs.length-(intOf i).toNat)
 case atStart =>
  refine ⟨0,aaV _,rfl,?_⟩
  have e:max m (d+(aZ ((xs.take 0).map dp):Nat))=m:=by show max m (d+((0:Nat):Int))=m;omega
  rw[e]
  simpa [aV] using HW.out.here
 case round =>
  obtain⟨k,hk,rfl,hq⟩:=hrel
  by_cases hlt:k<xs.length
  ·obtain⟨x,hx⟩:∃x,xs[k]?=some x:=⟨_,aaf hlt⟩
   have hlt':((k:Int)<(xs.length:Int)):=by omega
   obtain⟨kK,hw1,ht1,hf1⟩:=hq
   obtain⟨_,_,_,b,off,cs,rfl,_,hel,hcell⟩:=bC (HV.out.to (T:=fun b=>b<g) (by decide) hf1 (eP.keeps HW.out hf1) (fun _ _ e=>e.to hf1 (eP.keeps HW.out hf1))) hx
   obtain⟨hs1,hs2⟩:=Jc.out k x hx
   have hxm:=aaP hx
   have hll:=HSL.out (k+1)
   have hmm:=Ko.out k
   rw[hs1] at hll
   have vP:=hid hel
   obtain⟨eD,dF,eB,rfl,_⟩:=hel
   have q0:=hcell 0 _ rfl
   simp only[aa2,Nat.mul_one] at q0
   have hgt:g<wr.heap.size:=hw1.lt
   obtain⟨U,hU⟩:∃U,U=wr:=⟨_,rfl⟩
   subst hU
   have oK:=hw1
   have qm:=vP
   have HT1:=hid ht1
   have jG:=hid hf1
   have bS:=hid (Below.refl U.heap.size U)
   clear ht1 hf1 hw1
   generalize vR:aV (bg sep) ((xs.take k).map tk)=PT at *
   generalize AO:aZ ((xs.take k).map dp)=PD at *
   by_cases hk0:k=0
   ·rw[if_pos hk0] at hs1 hll
    have mF:PT=[]:=by rw[← vR,hk0];simp[aV]
    have lg:=HF.out x hxm U kK (L++PT) (max m (d+(PD:Int))) oK _ qm.out (by rw[mF];simp;omega) (by omega) (by omega)
    have HC:Hid (Calls Tryz.prog fr #[.pointer (some ⟨g,0,none⟩),.slice eD dF eB] U fun e w'=>e = .returned (.tuple #[])∧Wrote g kK U w' (L++aV (bg sep) ((xs.take (k+1)).map tk)) d (max m (d+(aZ ((xs.take (k+1)).map dp):Nat)))):=hid (by
     rw[hs1,hs2]
     rw[mF,List.append_nil] at lg
     rw[show max m (d+((max PD (dp x):Nat):Int))=max (max m (d+(PD:Int))) (d+(dp x:Int)) by omega]
     exact lg)
    have dn:Hid (eP g tb w U):=hid (jG.out.iI bS.out)
    clear lg hs1 hs2 hll hmm hxm oK vR AO mF hcell hx
    have hk0' : ¬((0:Int)<(k:Int)):=by omega
    clear hk0
    go_wp2_with fail
    refine HC.out.mono ?_
    rintro e w2 ⟨rfl,h2⟩
    have HQ:=hid (Wrote.then HT1.out dn.out h2)
    clear h2 HC
    go_wp2
    go_roundw
    case rel=>exact⟨k+1,by omega,by go_num,HQ.out⟩
    case measure=>simp[intOf];omega
   ·rw[if_neg hk0] at hs1 hll
    have hk0':((0:Int)<(k:Int)):=by omega
    simp only[aaN,aa1] at hll
    have HX:Hid (Calls Tryz.prog 98 #[.pointer (some ⟨g,0,none⟩),.slice (some ⟨U.heap.size,0,none⟩) 1 1] (U.alloc (.cells #[.string (aj sep)] 9)) fun e w'=>e = .returned (.tuple #[])∧Wrote g kK U w' (L++PT++ay [sep]) d (max m (d+(PD:Int)))):=hid (aX g kK _ d _ [sep] U oK (by simp) (by simpa using hsep) (by simp;omega))
    have Gs:=hid oK
    have dn:Hid (eP g tb w U):=hid (jG.out.iI bS.out)
    have iY:=hid hs1
    have HS2:=hid hs2
    have HM:=hid hxm
    clear hs1 hs2 hxm oK vR AO hcell hx
    go_wp2_with fail
    refine HX.out.mono ?_
    rintro e w2 ⟨rfl,nH,hw2,ht2,hf2⟩
    have lg:=HF.out x HM.out w2 nH _ (max m (d+(PD:Int))) hw2 _ (qm.out.to hf2 (eP.keeps Gs.out hf2)) (by simp[ay];omega) (by omega) (by omega)
    have HC:Hid (Calls Tryz.prog fr #[.pointer (some ⟨g,0,none⟩),.slice eD dF eB] w2 fun e w'=>e = .returned (.tuple #[])∧Wrote g nH w2 w' (L++aV (bg sep) ((xs.take (k+1)).map tk)) d (max m (d+(aZ ((xs.take (k+1)).map dp):Nat)))):=hid (by
     rw[iY.out,HS2.out]
     rw[show max m (d+((max PD (dp x):Nat):Int))=max (max m (d+(PD:Int))) (d+(dp x:Int)) by omega]
     rw[show L++PT++ay [sep]++tk x=L++(PT++bg sep::tk x) by simp[ay]] at lg
     exact lg)
    have HT2:=hid ht2
    have jW:=hid hf2
    clear lg ht2 hf2 hw2 HX
    go_wp2_with fail
    refine HC.out.mono ?_
    rintro e w3 ⟨rfl,h3⟩
    have HQ:=hid (Wrote.then HT1.out dn.out (Wrote.then HT2.out jW.out h3))
    clear h3 HC
    go_wp2
    go_roundw
    case rel=>exact⟨k+1,by omega,by go_num,HQ.out⟩
    case measure=>simp[intOf];omega
  ·have hlt' : ¬((k:Int)<(xs.length:Int)):=by omega
   have HQ:Hid (Wrote g tb w wr (L++aV (bg sep) (xs.map tk)) d (max m (d+(aZ (xs.map dp):Nat)))):=hid (by rw[aaU (by omega)] at hq;exact hq)
   clear hq
   go_wp2
   exact bodyPost_end (v:=.tuple #[]) (by simp[results,Tryz.results101,go_sem]) rfl ⟨rfl,HQ.out⟩
end Go.Proofs.YtfeglkleoijlaaaGreatDoor
