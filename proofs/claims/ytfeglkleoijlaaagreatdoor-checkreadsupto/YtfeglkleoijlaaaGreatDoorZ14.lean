/- Packed for the hand-in: WList -/
import Derived.Test.YtfeglkleoijlaaaGreatDoorZ08
namespace Go.Proofs.YtfeglkleoijlaaaGreatDoor
open Go.RowKit Go.Shelf
set_option linter.unusedSimpArgs false
set_option linter.unusedVariables false
set_option maxRecDepth 20000
set_option maxHeartbeats 8000000
theorem Dj (fr:Nat) (eg : ∀args w,(callFunc fr args).run Tryz.prog w = .ok (.enter fr args) w) (tk:Co→List Tk) (dp:Co→Nat) (sep:List UInt8) (hsep:sep≠[]) (xs:List (Co)) (v:Value)
  (g:Nat) (tb:Option Nat) (L:List Tk) (d m:Int) (w:World) (h:bJ w g tb L d m) (hv:aQ 4 gH (fun b=>b<g) w xs v) (hdm:d≤m) (hm:m≤1000000000) (hd : ∀x∈xs,d+dp x≤1000000000) (hL:L.length+(aS (aK sep) (xs.map tk)).length≤1000000000)
  (HF:Hid (∀x∈xs,∀(V:World) (tb':Option Nat) (L':List Tk) (m':Int),bJ V g tb' L' d m'→∀cs,gH (fun b=>b<g) V x cs→L'.length+(tk x).length≤1000000000→d≤m'→m'≤1000000000→Calls Tryz.prog fr #[.pointer (some ⟨g,0,none⟩),.agg cs.toArray] V fun e w'=>e = .returned (.tuple #[])∧Wrote g tb' V w' (L'++tk x) d (max m' (d+dp x)))) :
  Calls Tryz.prog 145 #[.pointer (some ⟨g,0,none⟩),.string (aj sep),v,.func (.func fr) #[.pointer (some ⟨g,0,none⟩)] #[]] w fun e w'=>e = .returned (.tuple #[])∧Wrote g tb w w' (L++aS (aK sep) (xs.map tk)) d (max m (d+(aY (xs.map dp):Nat))):=by
 have HV:=hid hv
 have HW:=hid h
 have hdl : ∀k,d+(aY ((xs.take k).map dp):Nat)≤1000000000:=fun k=>by
  have : ∀l:List (Co),(∀x∈l,d+dp x≤1000000000)→d+(aY (l.map dp):Nat)≤1000000000:=fun l=>by
   induction l with
   | nil=>intro _;show d+((0:Nat):Int)≤_;omega
   |
    cons x l ih =>
    intro hh
    have h1:=hh x (by simp)
    have h2:=ih (fun y hy=>hh y (by simp[hy]))
    show d+((max (dp x) (aY (l.map dp)):Nat):Int)≤_
    omega
  exact this _ (fun x hx=>hd x (List.mem_of_mem_take hx))
 have HDL:=hid hdl
 have hsl : ∀k,(aS (aK sep) ((xs.take k).map tk)).length≤(aS (aK sep) (xs.map tk)).length:=fun k=>by
  have e:xs.map tk=(xs.take k).map tk++(xs.drop k).map tk:=by rw[← List.map_append,List.take_append_drop]
  rw[e]
  cases (xs.take k).map tk with
  | nil=>simp[aS]
  | cons a l=>simp[aS,List.flatMap_append]
 have HSL:=hid hsl
 have hsnoc : ∀k x,xs[k]?=some x→aS (aK sep) ((xs.take (k+1)).map tk)=(if k=0 then tk x else aS (aK sep) ((xs.take k).map tk)++aK sep::tk x)∧aY ((xs.take (k+1)).map dp)=max (aY ((xs.take k).map dp)) (dp x):=fun k x hx=>by
  obtain⟨h1,h2⟩:=List.getElem?_eq_some_iff.1 hx
  rw[List.take_succ_eq_append_getElem h1,h2,List.map_append,List.map_append]
  refine ⟨?_,?_⟩
  ·rw[show [x].map tk=[tk x] from rfl,gU]
   by_cases e:k=0
   ·subst e;simp
   ·rw[if_neg e,if_neg (fun e2=>e (by have:=congrArg List.length e2;rw[List.length_map,List.length_take,List.length_nil] at this;omega))]
  ·have : ∀(l:List Nat) (n:Nat),aY (l++[n])=max (aY l) n:=fun l n=>by
    induction l with
    | nil=>show max n 0=max 0 n;omega
    | cons a l ih=>show max a (aY (l++[n]))=max (max a (aY l)) n;rw[ih];omega
   exact this _ _
 have HSN:=hid hsnoc
 obtain⟨aa,cc,css,rfl,h1,h2,_⟩:=hv
 unfold maxLen at h2
 clear h hdl hsl hsnoc hd
 go_enter Tryz.func145,Tryz.ntmps145
 go_wp2_with fail
 go_loopw [8,9,12] (fun _ _ i wr=>∃(k:Nat),k≤xs.length∧i = .int .i64 k∧Wrote g tb w wr (L++aS (aK sep) ((xs.take k).map tk)) d (max m (d+(aY ((xs.take k).map dp):Nat)))) (fun _ _ i _=>xs.length-(intOf i).toNat)
 case atStart =>
  refine ⟨0,Nat.zero_le _,rfl,?_⟩
  have e:max m (d+(aY ((xs.take 0).map dp):Nat))=m:=by show max m (d+((0:Nat):Int))=m;omega
  rw[e]
  simpa [aS] using HW.out.here
 case round =>
  obtain⟨k,hk,rfl,hq⟩:=hrel
  by_cases hlt:k<xs.length
  ·obtain⟨x,hx⟩:∃x,xs[k]?=some x:=⟨_,List.getElem?_eq_getElem hlt⟩
   have hlt':((k:Int)<(xs.length:Int)):=by omega
   obtain⟨tw1,hw1,ht1,hf1⟩:=hq
   obtain⟨_,_,_,b,off,cs,rfl,_,hel,hcell⟩:=bN (HV.out.to (T:=fun b=>b<g) (by decide) hf1 (cB.keeps HW.out hf1) (fun _ _ e=>e.to hf1 (cB.keeps HW.out hf1))) hx
   obtain⟨hs1,hs2⟩:=HSN.out k x hx
   have hxm:=List.mem_of_getElem? hx
   have hll:=HSL.out (k+1)
   have hmm:=HDL.out k
   rw[hs1] at hll
   have HEL:=hid hel
   obtain rfl:=hel
   have q0:=hcell 0 _ rfl
   have q1:=hcell 1 _ rfl
   have q2:=hcell 2 _ rfl
   have q3:=hcell 3 _ rfl
   simp only[Nat.add_zero] at q0
   have hgt:g<wr.heap.size:=hw1.lt
   obtain⟨U,hU,hbU,hzU,hcU⟩:=aL wr (.cells #[.string (aj x.nm),.int .i64 x.k,.bool x.nn,.bool x.uq] 60)
   have kU:=fun i=>aD U wr.heap.size _ _ _ i hcU
   have kU':U.cell? ⟨wr.heap.size,0,none⟩=some (.string (aj x.nm))∧U.cell? ⟨wr.heap.size,1,none⟩=some (.int .i64 x.k)∧U.cell? ⟨wr.heap.size,2,none⟩=some (.bool x.nn)∧U.cell? ⟨wr.heap.size,3,none⟩=some (.bool x.uq):=⟨(kU 0).trans rfl,(kU 1).trans rfl,(kU 2).trans rfl,(kU 3).trans rfl⟩
   clear kU
   have hwU:=hw1.below hbU
   have HBX:=hid (dn.mk' hw1 hcU (Nat.le_refl _))
   have HELU:=hid (HEL.out.to (R:=fun _=>False) (T:=fun b=>b<g) (aA.aC hbU) (fun b hb _=>⟨id,hb⟩))
   have HT1:=hid ht1
   have HF1:=hid hf1
   have HBU:=hid hbU
   clear ht1 hf1 hbU hcU hw1 HEL
   generalize hPT:aS (aK sep) ((xs.take k).map tk)=PT at *
   generalize hPD:aY ((xs.take k).map dp)=PD at *
   by_cases hk0:k=0
   ·rw[if_pos hk0] at hs1 hll
    have hPT0:PT=[]:=by rw[← hPT,hk0];simp[aS]
    have hCA:=HF.out x hxm U tw1 (L++PT) (max m (d+(PD:Int))) hwU _ HELU.out (by rw[hPT0];simp;omega) (by omega) (by omega)
    have HC:Hid (Calls Tryz.prog fr #[.pointer (some ⟨g,0,none⟩),.agg #[.string (aj x.nm),.int .i64 x.k,.bool x.nn,.bool x.uq]] U fun e w'=>e = .returned (.tuple #[])∧Wrote g tw1 U w' (L++aS (aK sep) ((xs.take (k+1)).map tk)) d (max m (d+(aY ((xs.take (k+1)).map dp):Nat)))):=hid (by
     rw[hs1,hs2]
     rw[hPT0,List.append_nil] at hCA
     rw[show max m (d+((max PD (dp x):Nat):Int))=max (max m (d+(PD:Int))) (d+(dp x:Int)) by omega]
     exact hCA)
    have HQ0:Hid (cB g tb w U):=hid (HF1.out.eU HBU.out)
    clear hCA hs1 hs2 hll hmm hxm hwU hPT hPD hPT0 hcell hx
    have hk0' : ¬((0:Int)<(k:Int)):=by omega
    clear hk0
    go_wp2_with (first | (refine wpList_store_row rfl 60 (.tmp 9) (.tmp 16) rfl wr.heap.size #[.string (aj x.nm),.int .i64 x.k,.bool x.nn,.bool x.uq] rfl rfl 60 #[.string ⟨#[]⟩,.int .i64 0,.bool false,.bool false] (heap_alloc_new wr _) Tryz.uo rfl rfl ?_;rw[aB,hU];clear hU) | fail)
    refine HC.out.mono ?_
    rintro e w2 ⟨rfl,h2⟩
    have HQ:=hid (Wrote.then HT1.out HQ0.out h2)
    clear h2 HC
    go_wp2
    go_roundw
    case rel=>exact⟨k+1,by omega,by go_num,HQ.out⟩
    case measure=>simp[intOf];omega
   ·rw[if_neg hk0] at hs1 hll
    have hk0':((0:Int)<(k:Int)):=by omega
    simp only[List.length_append,List.length_cons] at hll
    have HX:Hid (Calls Tryz.prog 98 #[.pointer (some ⟨g,0,none⟩),.slice (some ⟨U.heap.size,0,none⟩) 1 1] (U.alloc (.cells #[.string (aj sep)] 9)) fun e w'=>e = .returned (.tuple #[])∧Wrote g tw1 U w' (L++PT++au [sep]) d (max m (d+(PD:Int)))):=hid (aG g tw1 _ d _ [sep] U hwU (by simp) (by simpa using hsep) (by simp;omega))
    have HWU:=hid hwU
    have HQ0:Hid (cB g tb w U):=hid (HF1.out.eU HBU.out)
    have HS1:=hid hs1
    have HS2:=hid hs2
    have HM:=hid hxm
    clear hs1 hs2 hxm hwU hPT hPD hcell hx
    go_wp2_with (first | (refine wpList_store_row rfl 60 (.tmp 9) (.tmp 16) rfl wr.heap.size #[.string (aj x.nm),.int .i64 x.k,.bool x.nn,.bool x.uq] rfl rfl 60 #[.string ⟨#[]⟩,.int .i64 0,.bool false,.bool false] (heap_alloc_new wr _) Tryz.uo rfl rfl ?_;rw[aB,hU];clear hU) | fail)
    refine HX.out.mono ?_
    rintro e w2 ⟨rfl,tw2,hw2,ht2,hf2⟩
    have hbx:=fun i=>aD w2 wr.heap.size _ _ _ i (HBX.out.on ht2 hf2).at'
    have kX:w2.cell? ⟨wr.heap.size,0,none⟩=some (.string (aj x.nm))∧w2.cell? ⟨wr.heap.size,1,none⟩=some (.int .i64 x.k)∧w2.cell? ⟨wr.heap.size,2,none⟩=some (.bool x.nn)∧w2.cell? ⟨wr.heap.size,3,none⟩=some (.bool x.uq):=⟨(hbx 0).trans rfl,(hbx 1).trans rfl,(hbx 2).trans rfl,(hbx 3).trans rfl⟩
    clear hbx
    have hCA:=HF.out x HM.out w2 tw2 _ (max m (d+(PD:Int))) hw2 _ (HELU.out.to hf2 (cB.keeps HWU.out hf2)) (by simp[au];omega) (by omega) (by omega)
    have HC:Hid (Calls Tryz.prog fr #[.pointer (some ⟨g,0,none⟩),.agg #[.string (aj x.nm),.int .i64 x.k,.bool x.nn,.bool x.uq]] w2 fun e w'=>e = .returned (.tuple #[])∧Wrote g tw2 w2 w' (L++aS (aK sep) ((xs.take (k+1)).map tk)) d (max m (d+(aY ((xs.take (k+1)).map dp):Nat)))):=hid (by
     rw[HS1.out,HS2.out]
     rw[show max m (d+((max PD (dp x):Nat):Int))=max (max m (d+(PD:Int))) (d+(dp x:Int)) by omega]
     rw[show L++PT++au [sep]++tk x=L++(PT++aK sep::tk x) by simp[au]] at hCA
     exact hCA)
    have HT2:=hid ht2
    have HF2:=hid hf2
    clear hCA ht2 hf2 hw2 HX
    go_wp2_with fail
    refine HC.out.mono ?_
    rintro e w3 ⟨rfl,h3⟩
    have HQ:=hid (Wrote.then HT1.out HQ0.out (Wrote.then HT2.out HF2.out h3))
    clear h3 HC
    go_wp2
    go_roundw
    case rel=>exact⟨k+1,by omega,by go_num,HQ.out⟩
    case measure=>simp[intOf];omega
  ·have hlt' : ¬((k:Int)<(xs.length:Int)):=by omega
   have HQ:Hid (Wrote g tb w wr (L++aS (aK sep) (xs.map tk)) d (max m (d+(aY (xs.map dp):Nat)))):=hid (by rw[List.take_of_length_le (by omega)] at hq;exact hq)
   clear hq
   go_wp2
   exact bodyPost_end (v:=.tuple #[]) (by simp[results,Tryz.results145,go_sem]) rfl ⟨rfl,HQ.out⟩
theorem Eb (fr:Nat) (eg : ∀args w,(callFunc fr args).run Tryz.prog w = .ok (.enter fr args) w) (tk:Vl→List Tk) (dp:Vl→Nat) (sep:List UInt8) (hsep:sep≠[]) (xs:List (Vl)) (v:Value)
  (g:Nat) (tb:Option Nat) (L:List Tk) (d m:Int) (w:World) (h:bJ w g tb L d m) (hv:aQ 3 Aq (fun b=>b<g) w xs v) (hdm:d≤m) (hm:m≤1000000000) (hd : ∀x∈xs,d+dp x≤1000000000) (hL:L.length+(aS (aK sep) (xs.map tk)).length≤1000000000)
  (HF:Hid (∀x∈xs,∀(V:World) (tb':Option Nat) (L':List Tk) (m':Int),bJ V g tb' L' d m'→∀cs,Aq (fun b=>b<g) V x cs→L'.length+(tk x).length≤1000000000→d≤m'→m'≤1000000000→Calls Tryz.prog fr #[.pointer (some ⟨g,0,none⟩),.agg cs.toArray] V fun e w'=>e = .returned (.tuple #[])∧Wrote g tb' V w' (L'++tk x) d (max m' (d+dp x)))) :
  Calls Tryz.prog 147 #[.pointer (some ⟨g,0,none⟩),.string (aj sep),v,.func (.func fr) #[.pointer (some ⟨g,0,none⟩)] #[]] w fun e w'=>e = .returned (.tuple #[])∧Wrote g tb w w' (L++aS (aK sep) (xs.map tk)) d (max m (d+(aY (xs.map dp):Nat))):=by
 have HV:=hid hv
 have HW:=hid h
 have hdl : ∀k,d+(aY ((xs.take k).map dp):Nat)≤1000000000:=fun k=>by
  have : ∀l:List (Vl),(∀x∈l,d+dp x≤1000000000)→d+(aY (l.map dp):Nat)≤1000000000:=fun l=>by
   induction l with
   | nil=>intro _;show d+((0:Nat):Int)≤_;omega
   |
    cons x l ih =>
    intro hh
    have h1:=hh x (by simp)
    have h2:=ih (fun y hy=>hh y (by simp[hy]))
    show d+((max (dp x) (aY (l.map dp)):Nat):Int)≤_
    omega
  exact this _ (fun x hx=>hd x (List.mem_of_mem_take hx))
 have HDL:=hid hdl
 have hsl : ∀k,(aS (aK sep) ((xs.take k).map tk)).length≤(aS (aK sep) (xs.map tk)).length:=fun k=>by
  have e:xs.map tk=(xs.take k).map tk++(xs.drop k).map tk:=by rw[← List.map_append,List.take_append_drop]
  rw[e]
  cases (xs.take k).map tk with
  | nil=>simp[aS]
  | cons a l=>simp[aS,List.flatMap_append]
 have HSL:=hid hsl
 have hsnoc : ∀k x,xs[k]?=some x→aS (aK sep) ((xs.take (k+1)).map tk)=(if k=0 then tk x else aS (aK sep) ((xs.take k).map tk)++aK sep::tk x)∧aY ((xs.take (k+1)).map dp)=max (aY ((xs.take k).map dp)) (dp x):=fun k x hx=>by
  obtain⟨h1,h2⟩:=List.getElem?_eq_some_iff.1 hx
  rw[List.take_succ_eq_append_getElem h1,h2,List.map_append,List.map_append]
  refine ⟨?_,?_⟩
  ·rw[show [x].map tk=[tk x] from rfl,gU]
   by_cases e:k=0
   ·subst e;simp
   ·rw[if_neg e,if_neg (fun e2=>e (by have:=congrArg List.length e2;rw[List.length_map,List.length_take,List.length_nil] at this;omega))]
  ·have : ∀(l:List Nat) (n:Nat),aY (l++[n])=max (aY l) n:=fun l n=>by
    induction l with
    | nil=>show max n 0=max 0 n;omega
    | cons a l ih=>show max a (aY (l++[n]))=max (max a (aY l)) n;rw[ih];omega
   exact this _ _
 have HSN:=hid hsnoc
 obtain⟨aa,cc,css,rfl,h1,h2,_⟩:=hv
 unfold maxLen at h2
 clear h hdl hsl hsnoc hd
 go_enter Tryz.func147,Tryz.ntmps147
 go_wp2_with fail
 go_loopw [8,9,12] (fun _ _ i wr=>∃(k:Nat),k≤xs.length∧i = .int .i64 k∧Wrote g tb w wr (L++aS (aK sep) ((xs.take k).map tk)) d (max m (d+(aY ((xs.take k).map dp):Nat)))) (fun _ _ i _=>xs.length-(intOf i).toNat)
 case atStart =>
  refine ⟨0,Nat.zero_le _,rfl,?_⟩
  have e:max m (d+(aY ((xs.take 0).map dp):Nat))=m:=by show max m (d+((0:Nat):Int))=m;omega
  rw[e]
  simpa [aS] using HW.out.here
 case round =>
  obtain⟨k,hk,rfl,hq⟩:=hrel
  by_cases hlt:k<xs.length
  ·obtain⟨x,hx⟩:∃x,xs[k]?=some x:=⟨_,List.getElem?_eq_getElem hlt⟩
   have hlt':((k:Int)<(xs.length:Int)):=by omega
   obtain⟨tw1,hw1,ht1,hf1⟩:=hq
   obtain⟨_,_,_,b,off,cs,rfl,_,hel,hcell⟩:=bN (HV.out.to (T:=fun b=>b<g) (by decide) hf1 (cB.keeps HW.out hf1) (fun _ _ e=>e.to hf1 (cB.keeps HW.out hf1))) hx
   obtain⟨hs1,hs2⟩:=HSN.out k x hx
   have hxm:=List.mem_of_getElem? hx
   have hll:=HSL.out (k+1)
   have hmm:=HDL.out k
   rw[hs1] at hll
   have HEL:=hid hel
   obtain rfl:=hel
   have q0:=hcell 0 _ rfl
   have q1:=hcell 1 _ rfl
   have q2:=hcell 2 _ rfl
   simp only[Nat.add_zero] at q0
   have hgt:g<wr.heap.size:=hw1.lt
   obtain⟨U,hU,hbU,hzU,hcU⟩:=aL wr (.cells #[.int .i64 x.k,.int .i64 x.n,.string (aj x.s)] 46)
   have kU:=fun i=>aD U wr.heap.size _ _ _ i hcU
   have kU':U.cell? ⟨wr.heap.size,0,none⟩=some (.int .i64 x.k)∧U.cell? ⟨wr.heap.size,1,none⟩=some (.int .i64 x.n)∧U.cell? ⟨wr.heap.size,2,none⟩=some (.string (aj x.s)):=⟨(kU 0).trans rfl,(kU 1).trans rfl,(kU 2).trans rfl⟩
   clear kU
   have hwU:=hw1.below hbU
   have HBX:=hid (dn.mk' hw1 hcU (Nat.le_refl _))
   have HELU:=hid (HEL.out.to (R:=fun _=>False) (T:=fun b=>b<g) (aA.aC hbU) (fun b hb _=>⟨id,hb⟩))
   have HT1:=hid ht1
   have HF1:=hid hf1
   have HBU:=hid hbU
   clear ht1 hf1 hbU hcU hw1 HEL
   generalize hPT:aS (aK sep) ((xs.take k).map tk)=PT at *
   generalize hPD:aY ((xs.take k).map dp)=PD at *
   by_cases hk0:k=0
   ·rw[if_pos hk0] at hs1 hll
    have hPT0:PT=[]:=by rw[← hPT,hk0];simp[aS]
    have hCA:=HF.out x hxm U tw1 (L++PT) (max m (d+(PD:Int))) hwU _ HELU.out (by rw[hPT0];simp;omega) (by omega) (by omega)
    have HC:Hid (Calls Tryz.prog fr #[.pointer (some ⟨g,0,none⟩),.agg #[.int .i64 x.k,.int .i64 x.n,.string (aj x.s)]] U fun e w'=>e = .returned (.tuple #[])∧Wrote g tw1 U w' (L++aS (aK sep) ((xs.take (k+1)).map tk)) d (max m (d+(aY ((xs.take (k+1)).map dp):Nat)))):=hid (by
     rw[hs1,hs2]
     rw[hPT0,List.append_nil] at hCA
     rw[show max m (d+((max PD (dp x):Nat):Int))=max (max m (d+(PD:Int))) (d+(dp x:Int)) by omega]
     exact hCA)
    have HQ0:Hid (cB g tb w U):=hid (HF1.out.eU HBU.out)
    clear hCA hs1 hs2 hll hmm hxm hwU hPT hPD hPT0 hcell hx
    have hk0' : ¬((0:Int)<(k:Int)):=by omega
    clear hk0
    go_wp2_with (first | (refine wpList_store_row rfl 46 (.tmp 9) (.tmp 16) rfl wr.heap.size #[.int .i64 x.k,.int .i64 x.n,.string (aj x.s)] rfl rfl 46 #[.int .i64 0,.int .i64 0,.string ⟨#[]⟩] (heap_alloc_new wr _) Tryz.tK rfl rfl ?_;rw[aB,hU];clear hU) | fail)
    refine HC.out.mono ?_
    rintro e w2 ⟨rfl,h2⟩
    have HQ:=hid (Wrote.then HT1.out HQ0.out h2)
    clear h2 HC
    go_wp2
    go_roundw
    case rel=>exact⟨k+1,by omega,by go_num,HQ.out⟩
    case measure=>simp[intOf];omega
   ·rw[if_neg hk0] at hs1 hll
    have hk0':((0:Int)<(k:Int)):=by omega
    simp only[List.length_append,List.length_cons] at hll
    have HX:Hid (Calls Tryz.prog 98 #[.pointer (some ⟨g,0,none⟩),.slice (some ⟨U.heap.size,0,none⟩) 1 1] (U.alloc (.cells #[.string (aj sep)] 9)) fun e w'=>e = .returned (.tuple #[])∧Wrote g tw1 U w' (L++PT++au [sep]) d (max m (d+(PD:Int)))):=hid (aG g tw1 _ d _ [sep] U hwU (by simp) (by simpa using hsep) (by simp;omega))
    have HWU:=hid hwU
    have HQ0:Hid (cB g tb w U):=hid (HF1.out.eU HBU.out)
    have HS1:=hid hs1
    have HS2:=hid hs2
    have HM:=hid hxm
    clear hs1 hs2 hxm hwU hPT hPD hcell hx
    go_wp2_with (first | (refine wpList_store_row rfl 46 (.tmp 9) (.tmp 16) rfl wr.heap.size #[.int .i64 x.k,.int .i64 x.n,.string (aj x.s)] rfl rfl 46 #[.int .i64 0,.int .i64 0,.string ⟨#[]⟩] (heap_alloc_new wr _) Tryz.tK rfl rfl ?_;rw[aB,hU];clear hU) | fail)
    refine HX.out.mono ?_
    rintro e w2 ⟨rfl,tw2,hw2,ht2,hf2⟩
    have hbx:=fun i=>aD w2 wr.heap.size _ _ _ i (HBX.out.on ht2 hf2).at'
    have kX:w2.cell? ⟨wr.heap.size,0,none⟩=some (.int .i64 x.k)∧w2.cell? ⟨wr.heap.size,1,none⟩=some (.int .i64 x.n)∧w2.cell? ⟨wr.heap.size,2,none⟩=some (.string (aj x.s)):=⟨(hbx 0).trans rfl,(hbx 1).trans rfl,(hbx 2).trans rfl⟩
    clear hbx
    have hCA:=HF.out x HM.out w2 tw2 _ (max m (d+(PD:Int))) hw2 _ (HELU.out.to hf2 (cB.keeps HWU.out hf2)) (by simp[au];omega) (by omega) (by omega)
    have HC:Hid (Calls Tryz.prog fr #[.pointer (some ⟨g,0,none⟩),.agg #[.int .i64 x.k,.int .i64 x.n,.string (aj x.s)]] w2 fun e w'=>e = .returned (.tuple #[])∧Wrote g tw2 w2 w' (L++aS (aK sep) ((xs.take (k+1)).map tk)) d (max m (d+(aY ((xs.take (k+1)).map dp):Nat)))):=hid (by
     rw[HS1.out,HS2.out]
     rw[show max m (d+((max PD (dp x):Nat):Int))=max (max m (d+(PD:Int))) (d+(dp x:Int)) by omega]
     rw[show L++PT++au [sep]++tk x=L++(PT++aK sep::tk x) by simp[au]] at hCA
     exact hCA)
    have HT2:=hid ht2
    have HF2:=hid hf2
    clear hCA ht2 hf2 hw2 HX
    go_wp2_with fail
    refine HC.out.mono ?_
    rintro e w3 ⟨rfl,h3⟩
    have HQ:=hid (Wrote.then HT1.out HQ0.out (Wrote.then HT2.out HF2.out h3))
    clear h3 HC
    go_wp2
    go_roundw
    case rel=>exact⟨k+1,by omega,by go_num,HQ.out⟩
    case measure=>simp[intOf];omega
  ·have hlt' : ¬((k:Int)<(xs.length:Int)):=by omega
   have HQ:Hid (Wrote g tb w wr (L++aS (aK sep) (xs.map tk)) d (max m (d+(aY (xs.map dp):Nat)))):=hid (by rw[List.take_of_length_le (by omega)] at hq;exact hq)
   clear hq
   go_wp2
   exact bodyPost_end (v:=.tuple #[]) (by simp[results,Tryz.results147,go_sem]) rfl ⟨rfl,HQ.out⟩
theorem Dw (fr:Nat) (eg : ∀args w,(callFunc fr args).run Tryz.prog w = .ok (.enter fr args) w) (tk:Se→List Tk) (dp:Se→Nat) (sep:List UInt8) (hsep:sep≠[]) (xs:List (Se)) (v:Value)
  (g:Nat) (tb:Option Nat) (L:List Tk) (d m:Int) (w:World) (h:bJ w g tb L d m) (hv:aQ 9 yx (fun b=>b<g) w xs v) (hdm:d≤m) (hm:m≤1000000000) (hd : ∀x∈xs,d+dp x≤1000000000) (hL:L.length+(aS (aK sep) (xs.map tk)).length≤1000000000)
  (HF:Hid (∀x∈xs,∀(V:World) (tb':Option Nat) (L':List Tk) (m':Int),bJ V g tb' L' d m'→∀cs,yx (fun b=>b<g) V x cs→L'.length+(tk x).length≤1000000000→d≤m'→m'≤1000000000→Calls Tryz.prog fr #[.pointer (some ⟨g,0,none⟩),.agg cs.toArray] V fun e w'=>e = .returned (.tuple #[])∧Wrote g tb' V w' (L'++tk x) d (max m' (d+dp x)))) :
  Calls Tryz.prog 103 #[.pointer (some ⟨g,0,none⟩),.string (aj sep),v,.func (.func fr) #[.pointer (some ⟨g,0,none⟩)] #[]] w fun e w'=>e = .returned (.tuple #[])∧Wrote g tb w w' (L++aS (aK sep) (xs.map tk)) d (max m (d+(aY (xs.map dp):Nat))):=by
 have HV:=hid hv
 have HW:=hid h
 have hdl : ∀k,d+(aY ((xs.take k).map dp):Nat)≤1000000000:=fun k=>by
  have : ∀l:List (Se),(∀x∈l,d+dp x≤1000000000)→d+(aY (l.map dp):Nat)≤1000000000:=fun l=>by
   induction l with
   | nil=>intro _;show d+((0:Nat):Int)≤_;omega
   |
    cons x l ih =>
    intro hh
    have h1:=hh x (by simp)
    have h2:=ih (fun y hy=>hh y (by simp[hy]))
    show d+((max (dp x) (aY (l.map dp)):Nat):Int)≤_
    omega
  exact this _ (fun x hx=>hd x (List.mem_of_mem_take hx))
 have HDL:=hid hdl
 have hsl : ∀k,(aS (aK sep) ((xs.take k).map tk)).length≤(aS (aK sep) (xs.map tk)).length:=fun k=>by
  have e:xs.map tk=(xs.take k).map tk++(xs.drop k).map tk:=by rw[← List.map_append,List.take_append_drop]
  rw[e]
  cases (xs.take k).map tk with
  | nil=>simp[aS]
  | cons a l=>simp[aS,List.flatMap_append]
 have HSL:=hid hsl
 have hsnoc : ∀k x,xs[k]?=some x→aS (aK sep) ((xs.take (k+1)).map tk)=(if k=0 then tk x else aS (aK sep) ((xs.take k).map tk)++aK sep::tk x)∧aY ((xs.take (k+1)).map dp)=max (aY ((xs.take k).map dp)) (dp x):=fun k x hx=>by
  obtain⟨h1,h2⟩:=List.getElem?_eq_some_iff.1 hx
  rw[List.take_succ_eq_append_getElem h1,h2,List.map_append,List.map_append]
  refine ⟨?_,?_⟩
  ·rw[show [x].map tk=[tk x] from rfl,gU]
   by_cases e:k=0
   ·subst e;simp
   ·rw[if_neg e,if_neg (fun e2=>e (by have:=congrArg List.length e2;rw[List.length_map,List.length_take,List.length_nil] at this;omega))]
  ·have : ∀(l:List Nat) (n:Nat),aY (l++[n])=max (aY l) n:=fun l n=>by
    induction l with
    | nil=>show max n 0=max 0 n;omega
    | cons a l ih=>show max a (aY (l++[n]))=max (max a (aY l)) n;rw[ih];omega
   exact this _ _
 have HSN:=hid hsnoc
 obtain⟨aa,cc,css,rfl,h1,h2,_⟩:=hv
 unfold maxLen at h2
 clear h hdl hsl hsnoc hd
 go_enter Tryz.func103,Tryz.ntmps103
 go_wp2_with fail
 go_loopw [8,9,12] (fun _ _ i wr=>∃(k:Nat),k≤xs.length∧i = .int .i64 k∧Wrote g tb w wr (L++aS (aK sep) ((xs.take k).map tk)) d (max m (d+(aY ((xs.take k).map dp):Nat)))) (fun _ _ i _=>xs.length-(intOf i).toNat)
 case atStart =>
  refine ⟨0,Nat.zero_le _,rfl,?_⟩
  have e:max m (d+(aY ((xs.take 0).map dp):Nat))=m:=by show max m (d+((0:Nat):Int))=m;omega
  rw[e]
  simpa [aS] using HW.out.here
 case round =>
  obtain⟨k,hk,rfl,hq⟩:=hrel
  by_cases hlt:k<xs.length
  ·obtain⟨x,hx⟩:∃x,xs[k]?=some x:=⟨_,List.getElem?_eq_getElem hlt⟩
   have hlt':((k:Int)<(xs.length:Int)):=by omega
   obtain⟨tw1,hw1,ht1,hf1⟩:=hq
   obtain⟨_,_,_,b,off,cs,rfl,_,hel,hcell⟩:=bN (HV.out.to (T:=fun b=>b<g) (by decide) hf1 (cB.keeps HW.out hf1) (fun _ _ e=>e.to hf1 (cB.keeps HW.out hf1))) hx
   obtain⟨hs1,hs2⟩:=HSN.out k x hx
   have hxm:=List.mem_of_getElem? hx
   have hll:=HSL.out (k+1)
   have hmm:=HDL.out k
   rw[hs1] at hll
   have HEL:=hid hel
   obtain⟨k1,op1,tb1,nm1,vk1,vn1,vs1,ys1,aa1,nn1,cc1,_,rfl,_⟩:=hel
   have q0:=hcell 0 _ rfl
   have q1:=hcell 1 _ rfl
   have q2:=hcell 2 _ rfl
   have q3:=hcell 3 _ rfl
   have q4:=hcell 4 _ rfl
   have q5:=hcell 5 _ rfl
   have q6:=hcell 6 _ rfl
   have q7:=hcell 7 _ rfl
   have q8:=hcell 8 _ rfl
   simp only[Nat.add_zero] at q0
   have hgt:g<wr.heap.size:=hw1.lt
   obtain⟨U,hU,hbU,hzU,hcU⟩:=aL wr (.cells #[.string (aj x.nm),.int .i64 k1,.int .i64 op1,.string (aj tb1),.string (aj nm1),.int .i64 vk1,.int .i64 vn1,.string (aj vs1),.slice aa1 nn1 cc1] 53)
   have kU:=fun i=>aD U wr.heap.size _ _ _ i hcU
   have kU':U.cell? ⟨wr.heap.size,0,none⟩=some (.string (aj x.nm))∧U.cell? ⟨wr.heap.size,1,none⟩=some (.int .i64 k1)∧U.cell? ⟨wr.heap.size,2,none⟩=some (.int .i64 op1)∧U.cell? ⟨wr.heap.size,3,none⟩=some (.string (aj tb1))∧U.cell? ⟨wr.heap.size,4,none⟩=some (.string (aj nm1))∧U.cell? ⟨wr.heap.size,5,none⟩=some (.int .i64 vk1)∧U.cell? ⟨wr.heap.size,6,none⟩=some (.int .i64 vn1)∧U.cell? ⟨wr.heap.size,7,none⟩=some (.string (aj vs1))∧U.cell? ⟨wr.heap.size,8,none⟩=some (.slice aa1 nn1 cc1):=⟨(kU 0).trans rfl,(kU 1).trans rfl,(kU 2).trans rfl,(kU 3).trans rfl,(kU 4).trans rfl,(kU 5).trans rfl,(kU 6).trans rfl,(kU 7).trans rfl,(kU 8).trans rfl⟩
   clear kU
   have hwU:=hw1.below hbU
   have HBX:=hid (dn.mk' hw1 hcU (Nat.le_refl _))
   have HELU:=hid (HEL.out.to (R:=fun _=>False) (T:=fun b=>b<g) (aA.aC hbU) (fun b hb _=>⟨id,hb⟩))
   have HT1:=hid ht1
   have HF1:=hid hf1
   have HBU:=hid hbU
   clear ht1 hf1 hbU hcU hw1 HEL
   generalize hPT:aS (aK sep) ((xs.take k).map tk)=PT at *
   generalize hPD:aY ((xs.take k).map dp)=PD at *
   by_cases hk0:k=0
   ·rw[if_pos hk0] at hs1 hll
    have hPT0:PT=[]:=by rw[← hPT,hk0];simp[aS]
    have hCA:=HF.out x hxm U tw1 (L++PT) (max m (d+(PD:Int))) hwU _ HELU.out (by rw[hPT0];simp;omega) (by omega) (by omega)
    have HC:Hid (Calls Tryz.prog fr #[.pointer (some ⟨g,0,none⟩),.agg #[.string (aj x.nm),.int .i64 k1,.int .i64 op1,.string (aj tb1),.string (aj nm1),.int .i64 vk1,.int .i64 vn1,.string (aj vs1),.slice aa1 nn1 cc1]] U fun e w'=>e = .returned (.tuple #[])∧Wrote g tw1 U w' (L++aS (aK sep) ((xs.take (k+1)).map tk)) d (max m (d+(aY ((xs.take (k+1)).map dp):Nat)))):=hid (by
     rw[hs1,hs2]
     rw[hPT0,List.append_nil] at hCA
     rw[show max m (d+((max PD (dp x):Nat):Int))=max (max m (d+(PD:Int))) (d+(dp x:Int)) by omega]
     exact hCA)
    have HQ0:Hid (cB g tb w U):=hid (HF1.out.eU HBU.out)
    clear hCA hs1 hs2 hll hmm hxm hwU hPT hPD hPT0 hcell hx
    have hk0' : ¬((0:Int)<(k:Int)):=by omega
    clear hk0
    go_wp2_with (first | (refine wpList_store_row rfl 53 (.tmp 9) (.tmp 16) rfl wr.heap.size #[.string (aj x.nm),.int .i64 k1,.int .i64 op1,.string (aj tb1),.string (aj nm1),.int .i64 vk1,.int .i64 vn1,.string (aj vs1),.slice aa1 nn1 cc1] rfl rfl 53 #[.string ⟨#[]⟩,.int .i64 0,.int .i64 0,.string ⟨#[]⟩,.string ⟨#[]⟩,.int .i64 0,.int .i64 0,.string ⟨#[]⟩,.slice none 0 0] (heap_alloc_new wr _) Tryz.tF rfl rfl ?_;rw[aB,hU];clear hU) | fail)
    refine HC.out.mono ?_
    rintro e w2 ⟨rfl,h2⟩
    have HQ:=hid (Wrote.then HT1.out HQ0.out h2)
    clear h2 HC
    go_wp2
    go_roundw
    case rel=>exact⟨k+1,by omega,by go_num,HQ.out⟩
    case measure=>simp[intOf];omega
   ·rw[if_neg hk0] at hs1 hll
    have hk0':((0:Int)<(k:Int)):=by omega
    simp only[List.length_append,List.length_cons] at hll
    have HX:Hid (Calls Tryz.prog 98 #[.pointer (some ⟨g,0,none⟩),.slice (some ⟨U.heap.size,0,none⟩) 1 1] (U.alloc (.cells #[.string (aj sep)] 9)) fun e w'=>e = .returned (.tuple #[])∧Wrote g tw1 U w' (L++PT++au [sep]) d (max m (d+(PD:Int)))):=hid (aG g tw1 _ d _ [sep] U hwU (by simp) (by simpa using hsep) (by simp;omega))
    have HWU:=hid hwU
    have HQ0:Hid (cB g tb w U):=hid (HF1.out.eU HBU.out)
    have HS1:=hid hs1
    have HS2:=hid hs2
    have HM:=hid hxm
    clear hs1 hs2 hxm hwU hPT hPD hcell hx
    go_wp2_with (first | (refine wpList_store_row rfl 53 (.tmp 9) (.tmp 16) rfl wr.heap.size #[.string (aj x.nm),.int .i64 k1,.int .i64 op1,.string (aj tb1),.string (aj nm1),.int .i64 vk1,.int .i64 vn1,.string (aj vs1),.slice aa1 nn1 cc1] rfl rfl 53 #[.string ⟨#[]⟩,.int .i64 0,.int .i64 0,.string ⟨#[]⟩,.string ⟨#[]⟩,.int .i64 0,.int .i64 0,.string ⟨#[]⟩,.slice none 0 0] (heap_alloc_new wr _) Tryz.tF rfl rfl ?_;rw[aB,hU];clear hU) | fail)
    refine HX.out.mono ?_
    rintro e w2 ⟨rfl,tw2,hw2,ht2,hf2⟩
    have hbx:=fun i=>aD w2 wr.heap.size _ _ _ i (HBX.out.on ht2 hf2).at'
    have kX:w2.cell? ⟨wr.heap.size,0,none⟩=some (.string (aj x.nm))∧w2.cell? ⟨wr.heap.size,1,none⟩=some (.int .i64 k1)∧w2.cell? ⟨wr.heap.size,2,none⟩=some (.int .i64 op1)∧w2.cell? ⟨wr.heap.size,3,none⟩=some (.string (aj tb1))∧w2.cell? ⟨wr.heap.size,4,none⟩=some (.string (aj nm1))∧w2.cell? ⟨wr.heap.size,5,none⟩=some (.int .i64 vk1)∧w2.cell? ⟨wr.heap.size,6,none⟩=some (.int .i64 vn1)∧w2.cell? ⟨wr.heap.size,7,none⟩=some (.string (aj vs1))∧w2.cell? ⟨wr.heap.size,8,none⟩=some (.slice aa1 nn1 cc1):=⟨(hbx 0).trans rfl,(hbx 1).trans rfl,(hbx 2).trans rfl,(hbx 3).trans rfl,(hbx 4).trans rfl,(hbx 5).trans rfl,(hbx 6).trans rfl,(hbx 7).trans rfl,(hbx 8).trans rfl⟩
    clear hbx
    have hCA:=HF.out x HM.out w2 tw2 _ (max m (d+(PD:Int))) hw2 _ (HELU.out.to hf2 (cB.keeps HWU.out hf2)) (by simp[au];omega) (by omega) (by omega)
    have HC:Hid (Calls Tryz.prog fr #[.pointer (some ⟨g,0,none⟩),.agg #[.string (aj x.nm),.int .i64 k1,.int .i64 op1,.string (aj tb1),.string (aj nm1),.int .i64 vk1,.int .i64 vn1,.string (aj vs1),.slice aa1 nn1 cc1]] w2 fun e w'=>e = .returned (.tuple #[])∧Wrote g tw2 w2 w' (L++aS (aK sep) ((xs.take (k+1)).map tk)) d (max m (d+(aY ((xs.take (k+1)).map dp):Nat)))):=hid (by
     rw[HS1.out,HS2.out]
     rw[show max m (d+((max PD (dp x):Nat):Int))=max (max m (d+(PD:Int))) (d+(dp x:Int)) by omega]
     rw[show L++PT++au [sep]++tk x=L++(PT++aK sep::tk x) by simp[au]] at hCA
     exact hCA)
    have HT2:=hid ht2
    have HF2:=hid hf2
    clear hCA ht2 hf2 hw2 HX
    go_wp2_with fail
    refine HC.out.mono ?_
    rintro e w3 ⟨rfl,h3⟩
    have HQ:=hid (Wrote.then HT1.out HQ0.out (Wrote.then HT2.out HF2.out h3))
    clear h3 HC
    go_wp2
    go_roundw
    case rel=>exact⟨k+1,by omega,by go_num,HQ.out⟩
    case measure=>simp[intOf];omega
  ·have hlt' : ¬((k:Int)<(xs.length:Int)):=by omega
   have HQ:Hid (Wrote g tb w wr (L++aS (aK sep) (xs.map tk)) d (max m (d+(aY (xs.map dp):Nat)))):=hid (by rw[List.take_of_length_le (by omega)] at hq;exact hq)
   clear hq
   go_wp2
   exact bodyPost_end (v:=.tuple #[]) (by simp[results,Tryz.results103,go_sem]) rfl ⟨rfl,HQ.out⟩
theorem DT (fr:Nat) (eg : ∀args w,(callFunc fr args).run Tryz.prog w = .ok (.enter fr args) w) (tk:It→List Tk) (dp:It→Nat) (sep:List UInt8) (hsep:sep≠[]) (xs:List (It)) (v:Value)
  (g:Nat) (tb:Option Nat) (L:List Tk) (d m:Int) (w:World) (h:bJ w g tb L d m) (hv:aQ 2 qo (fun b=>b<g) w xs v) (hdm:d≤m) (hm:m≤1000000000) (hd : ∀x∈xs,d+dp x≤1000000000) (hL:L.length+(aS (aK sep) (xs.map tk)).length≤1000000000)
  (HF:Hid (∀x∈xs,∀(V:World) (tb':Option Nat) (L':List Tk) (m':Int),bJ V g tb' L' d m'→∀cs,qo (fun b=>b<g) V x cs→L'.length+(tk x).length≤1000000000→d≤m'→m'≤1000000000→Calls Tryz.prog fr #[.pointer (some ⟨g,0,none⟩),.agg cs.toArray] V fun e w'=>e = .returned (.tuple #[])∧Wrote g tb' V w' (L'++tk x) d (max m' (d+dp x)))) :
  Calls Tryz.prog 148 #[.pointer (some ⟨g,0,none⟩),.string (aj sep),v,.func (.func fr) #[.pointer (some ⟨g,0,none⟩)] #[]] w fun e w'=>e = .returned (.tuple #[])∧Wrote g tb w w' (L++aS (aK sep) (xs.map tk)) d (max m (d+(aY (xs.map dp):Nat))):=by
 have HV:=hid hv
 have HW:=hid h
 have hdl : ∀k,d+(aY ((xs.take k).map dp):Nat)≤1000000000:=fun k=>by
  have : ∀l:List (It),(∀x∈l,d+dp x≤1000000000)→d+(aY (l.map dp):Nat)≤1000000000:=fun l=>by
   induction l with
   | nil=>intro _;show d+((0:Nat):Int)≤_;omega
   |
    cons x l ih =>
    intro hh
    have h1:=hh x (by simp)
    have h2:=ih (fun y hy=>hh y (by simp[hy]))
    show d+((max (dp x) (aY (l.map dp)):Nat):Int)≤_
    omega
  exact this _ (fun x hx=>hd x (List.mem_of_mem_take hx))
 have HDL:=hid hdl
 have hsl : ∀k,(aS (aK sep) ((xs.take k).map tk)).length≤(aS (aK sep) (xs.map tk)).length:=fun k=>by
  have e:xs.map tk=(xs.take k).map tk++(xs.drop k).map tk:=by rw[← List.map_append,List.take_append_drop]
  rw[e]
  cases (xs.take k).map tk with
  | nil=>simp[aS]
  | cons a l=>simp[aS,List.flatMap_append]
 have HSL:=hid hsl
 have hsnoc : ∀k x,xs[k]?=some x→aS (aK sep) ((xs.take (k+1)).map tk)=(if k=0 then tk x else aS (aK sep) ((xs.take k).map tk)++aK sep::tk x)∧aY ((xs.take (k+1)).map dp)=max (aY ((xs.take k).map dp)) (dp x):=fun k x hx=>by
  obtain⟨h1,h2⟩:=List.getElem?_eq_some_iff.1 hx
  rw[List.take_succ_eq_append_getElem h1,h2,List.map_append,List.map_append]
  refine ⟨?_,?_⟩
  ·rw[show [x].map tk=[tk x] from rfl,gU]
   by_cases e:k=0
   ·subst e;simp
   ·rw[if_neg e,if_neg (fun e2=>e (by have:=congrArg List.length e2;rw[List.length_map,List.length_take,List.length_nil] at this;omega))]
  ·have : ∀(l:List Nat) (n:Nat),aY (l++[n])=max (aY l) n:=fun l n=>by
    induction l with
    | nil=>show max n 0=max 0 n;omega
    | cons a l ih=>show max a (aY (l++[n]))=max (max a (aY l)) n;rw[ih];omega
   exact this _ _
 have HSN:=hid hsnoc
 obtain⟨aa,cc,css,rfl,h1,h2,_⟩:=hv
 unfold maxLen at h2
 clear h hdl hsl hsnoc hd
 go_enter Tryz.func148,Tryz.ntmps148
 go_wp2_with fail
 go_loopw [8,9,12] (fun _ _ i wr=>∃(k:Nat),k≤xs.length∧i = .int .i64 k∧Wrote g tb w wr (L++aS (aK sep) ((xs.take k).map tk)) d (max m (d+(aY ((xs.take k).map dp):Nat)))) (fun _ _ i _=>xs.length-(intOf i).toNat)
 case atStart =>
  refine ⟨0,Nat.zero_le _,rfl,?_⟩
  have e:max m (d+(aY ((xs.take 0).map dp):Nat))=m:=by show max m (d+((0:Nat):Int))=m;omega
  rw[e]
  simpa [aS] using HW.out.here
 case round =>
  obtain⟨k,hk,rfl,hq⟩:=hrel
  by_cases hlt:k<xs.length
  ·obtain⟨x,hx⟩:∃x,xs[k]?=some x:=⟨_,List.getElem?_eq_getElem hlt⟩
   have hlt':((k:Int)<(xs.length:Int)):=by omega
   obtain⟨tw1,hw1,ht1,hf1⟩:=hq
   obtain⟨_,_,_,b,off,cs,rfl,_,hel,hcell⟩:=bN (HV.out.to (T:=fun b=>b<g) (by decide) hf1 (cB.keeps HW.out hf1) (fun _ _ e=>e.to hf1 (cB.keeps HW.out hf1))) hx
   obtain⟨hs1,hs2⟩:=HSN.out k x hx
   have hxm:=List.mem_of_getElem? hx
   have hll:=HSL.out (k+1)
   have hmm:=HDL.out k
   rw[hs1] at hll
   have HEL:=hid hel
   obtain⟨aa1,nn1,cc1,rfl,_⟩:=hel
   have q0:=hcell 0 _ rfl
   have q1:=hcell 1 _ rfl
   simp only[Nat.add_zero] at q0
   have hgt:g<wr.heap.size:=hw1.lt
   obtain⟨U,hU,hbU,hzU,hcU⟩:=aL wr (.cells #[.int .i64 x.k,.slice aa1 nn1 cc1] 55)
   have kU:=fun i=>aD U wr.heap.size _ _ _ i hcU
   have kU':U.cell? ⟨wr.heap.size,0,none⟩=some (.int .i64 x.k)∧U.cell? ⟨wr.heap.size,1,none⟩=some (.slice aa1 nn1 cc1):=⟨(kU 0).trans rfl,(kU 1).trans rfl⟩
   clear kU
   have hwU:=hw1.below hbU
   have HBX:=hid (dn.mk' hw1 hcU (Nat.le_refl _))
   have HELU:=hid (HEL.out.to (R:=fun _=>False) (T:=fun b=>b<g) (aA.aC hbU) (fun b hb _=>⟨id,hb⟩))
   have HT1:=hid ht1
   have HF1:=hid hf1
   have HBU:=hid hbU
   clear ht1 hf1 hbU hcU hw1 HEL
   generalize hPT:aS (aK sep) ((xs.take k).map tk)=PT at *
   generalize hPD:aY ((xs.take k).map dp)=PD at *
   by_cases hk0:k=0
   ·rw[if_pos hk0] at hs1 hll
    have hPT0:PT=[]:=by rw[← hPT,hk0];simp[aS]
    have hCA:=HF.out x hxm U tw1 (L++PT) (max m (d+(PD:Int))) hwU _ HELU.out (by rw[hPT0];simp;omega) (by omega) (by omega)
    have HC:Hid (Calls Tryz.prog fr #[.pointer (some ⟨g,0,none⟩),.agg #[.int .i64 x.k,.slice aa1 nn1 cc1]] U fun e w'=>e = .returned (.tuple #[])∧Wrote g tw1 U w' (L++aS (aK sep) ((xs.take (k+1)).map tk)) d (max m (d+(aY ((xs.take (k+1)).map dp):Nat)))):=hid (by
     rw[hs1,hs2]
     rw[hPT0,List.append_nil] at hCA
     rw[show max m (d+((max PD (dp x):Nat):Int))=max (max m (d+(PD:Int))) (d+(dp x:Int)) by omega]
     exact hCA)
    have HQ0:Hid (cB g tb w U):=hid (HF1.out.eU HBU.out)
    clear hCA hs1 hs2 hll hmm hxm hwU hPT hPD hPT0 hcell hx
    have hk0' : ¬((0:Int)<(k:Int)):=by omega
    clear hk0
    go_wp2_with (first | (refine wpList_store_row rfl 55 (.tmp 9) (.tmp 16) rfl wr.heap.size #[.int .i64 x.k,.slice aa1 nn1 cc1] rfl rfl 55 #[.int .i64 0,.slice none 0 0] (heap_alloc_new wr _) Tryz.uH rfl rfl ?_;rw[aB,hU];clear hU) | fail)
    refine HC.out.mono ?_
    rintro e w2 ⟨rfl,h2⟩
    have HQ:=hid (Wrote.then HT1.out HQ0.out h2)
    clear h2 HC
    go_wp2
    go_roundw
    case rel=>exact⟨k+1,by omega,by go_num,HQ.out⟩
    case measure=>simp[intOf];omega
   ·rw[if_neg hk0] at hs1 hll
    have hk0':((0:Int)<(k:Int)):=by omega
    simp only[List.length_append,List.length_cons] at hll
    have HX:Hid (Calls Tryz.prog 98 #[.pointer (some ⟨g,0,none⟩),.slice (some ⟨U.heap.size,0,none⟩) 1 1] (U.alloc (.cells #[.string (aj sep)] 9)) fun e w'=>e = .returned (.tuple #[])∧Wrote g tw1 U w' (L++PT++au [sep]) d (max m (d+(PD:Int)))):=hid (aG g tw1 _ d _ [sep] U hwU (by simp) (by simpa using hsep) (by simp;omega))
    have HWU:=hid hwU
    have HQ0:Hid (cB g tb w U):=hid (HF1.out.eU HBU.out)
    have HS1:=hid hs1
    have HS2:=hid hs2
    have HM:=hid hxm
    clear hs1 hs2 hxm hwU hPT hPD hcell hx
    go_wp2_with (first | (refine wpList_store_row rfl 55 (.tmp 9) (.tmp 16) rfl wr.heap.size #[.int .i64 x.k,.slice aa1 nn1 cc1] rfl rfl 55 #[.int .i64 0,.slice none 0 0] (heap_alloc_new wr _) Tryz.uH rfl rfl ?_;rw[aB,hU];clear hU) | fail)
    refine HX.out.mono ?_
    rintro e w2 ⟨rfl,tw2,hw2,ht2,hf2⟩
    have hbx:=fun i=>aD w2 wr.heap.size _ _ _ i (HBX.out.on ht2 hf2).at'
    have kX:w2.cell? ⟨wr.heap.size,0,none⟩=some (.int .i64 x.k)∧w2.cell? ⟨wr.heap.size,1,none⟩=some (.slice aa1 nn1 cc1):=⟨(hbx 0).trans rfl,(hbx 1).trans rfl⟩
    clear hbx
    have hCA:=HF.out x HM.out w2 tw2 _ (max m (d+(PD:Int))) hw2 _ (HELU.out.to hf2 (cB.keeps HWU.out hf2)) (by simp[au];omega) (by omega) (by omega)
    have HC:Hid (Calls Tryz.prog fr #[.pointer (some ⟨g,0,none⟩),.agg #[.int .i64 x.k,.slice aa1 nn1 cc1]] w2 fun e w'=>e = .returned (.tuple #[])∧Wrote g tw2 w2 w' (L++aS (aK sep) ((xs.take (k+1)).map tk)) d (max m (d+(aY ((xs.take (k+1)).map dp):Nat)))):=hid (by
     rw[HS1.out,HS2.out]
     rw[show max m (d+((max PD (dp x):Nat):Int))=max (max m (d+(PD:Int))) (d+(dp x:Int)) by omega]
     rw[show L++PT++au [sep]++tk x=L++(PT++aK sep::tk x) by simp[au]] at hCA
     exact hCA)
    have HT2:=hid ht2
    have HF2:=hid hf2
    clear hCA ht2 hf2 hw2 HX
    go_wp2_with fail
    refine HC.out.mono ?_
    rintro e w3 ⟨rfl,h3⟩
    have HQ:=hid (Wrote.then HT1.out HQ0.out (Wrote.then HT2.out HF2.out h3))
    clear h3 HC
    go_wp2
    go_roundw
    case rel=>exact⟨k+1,by omega,by go_num,HQ.out⟩
    case measure=>simp[intOf];omega
  ·have hlt' : ¬((k:Int)<(xs.length:Int)):=by omega
   have HQ:Hid (Wrote g tb w wr (L++aS (aK sep) (xs.map tk)) d (max m (d+(aY (xs.map dp):Nat)))):=hid (by rw[List.take_of_length_le (by omega)] at hq;exact hq)
   clear hq
   go_wp2
   exact bodyPost_end (v:=.tuple #[]) (by simp[results,Tryz.results148,go_sem]) rfl ⟨rfl,HQ.out⟩
theorem Ch (fr:Nat) (eg : ∀args w,(callFunc fr args).run Tryz.prog w = .ok (.enter fr args) w) (tk:List Vl→List Tk) (dp:List Vl→Nat) (sep:List UInt8) (hsep:sep≠[]) (xs:List (List Vl)) (v:Value)
  (g:Nat) (tb:Option Nat) (L:List Tk) (d m:Int) (w:World) (h:bJ w g tb L d m) (hv:aQ 1 yV (fun b=>b<g) w xs v) (hdm:d≤m) (hm:m≤1000000000) (hd : ∀x∈xs,d+dp x≤1000000000) (hL:L.length+(aS (aK sep) (xs.map tk)).length≤1000000000)
  (HF:Hid (∀x∈xs,∀(V:World) (tb':Option Nat) (L':List Tk) (m':Int),bJ V g tb' L' d m'→∀cs,yV (fun b=>b<g) V x cs→L'.length+(tk x).length≤1000000000→d≤m'→m'≤1000000000→Calls Tryz.prog fr #[.pointer (some ⟨g,0,none⟩),(cs.headD undef)] V fun e w'=>e = .returned (.tuple #[])∧Wrote g tb' V w' (L'++tk x) d (max m' (d+dp x)))) :
  Calls Tryz.prog 101 #[.pointer (some ⟨g,0,none⟩),.string (aj sep),v,.func (.func fr) #[.pointer (some ⟨g,0,none⟩)] #[]] w fun e w'=>e = .returned (.tuple #[])∧Wrote g tb w w' (L++aS (aK sep) (xs.map tk)) d (max m (d+(aY (xs.map dp):Nat))):=by
 have HV:=hid hv
 have HW:=hid h
 have hdl : ∀k,d+(aY ((xs.take k).map dp):Nat)≤1000000000:=fun k=>by
  have : ∀l:List (List Vl),(∀x∈l,d+dp x≤1000000000)→d+(aY (l.map dp):Nat)≤1000000000:=fun l=>by
   induction l with
   | nil=>intro _;show d+((0:Nat):Int)≤_;omega
   |
    cons x l ih =>
    intro hh
    have h1:=hh x (by simp)
    have h2:=ih (fun y hy=>hh y (by simp[hy]))
    show d+((max (dp x) (aY (l.map dp)):Nat):Int)≤_
    omega
  exact this _ (fun x hx=>hd x (List.mem_of_mem_take hx))
 have HDL:=hid hdl
 have hsl : ∀k,(aS (aK sep) ((xs.take k).map tk)).length≤(aS (aK sep) (xs.map tk)).length:=fun k=>by
  have e:xs.map tk=(xs.take k).map tk++(xs.drop k).map tk:=by rw[← List.map_append,List.take_append_drop]
  rw[e]
  cases (xs.take k).map tk with
  | nil=>simp[aS]
  | cons a l=>simp[aS,List.flatMap_append]
 have HSL:=hid hsl
 have hsnoc : ∀k x,xs[k]?=some x→aS (aK sep) ((xs.take (k+1)).map tk)=(if k=0 then tk x else aS (aK sep) ((xs.take k).map tk)++aK sep::tk x)∧aY ((xs.take (k+1)).map dp)=max (aY ((xs.take k).map dp)) (dp x):=fun k x hx=>by
  obtain⟨h1,h2⟩:=List.getElem?_eq_some_iff.1 hx
  rw[List.take_succ_eq_append_getElem h1,h2,List.map_append,List.map_append]
  refine ⟨?_,?_⟩
  ·rw[show [x].map tk=[tk x] from rfl,gU]
   by_cases e:k=0
   ·subst e;simp
   ·rw[if_neg e,if_neg (fun e2=>e (by have:=congrArg List.length e2;rw[List.length_map,List.length_take,List.length_nil] at this;omega))]
  ·have : ∀(l:List Nat) (n:Nat),aY (l++[n])=max (aY l) n:=fun l n=>by
    induction l with
    | nil=>show max n 0=max 0 n;omega
    | cons a l ih=>show max a (aY (l++[n]))=max (max a (aY l)) n;rw[ih];omega
   exact this _ _
 have HSN:=hid hsnoc
 obtain⟨aa,cc,css,rfl,h1,h2,_⟩:=hv
 unfold maxLen at h2
 clear h hdl hsl hsnoc hd
 go_enter Tryz.func101,Tryz.ntmps101
 go_wp2_with fail
 go_loopw [8,9,12] (fun _ _ i wr=>∃(k:Nat),k≤xs.length∧i = .int .i64 k∧Wrote g tb w wr (L++aS (aK sep) ((xs.take k).map tk)) d (max m (d+(aY ((xs.take k).map dp):Nat)))) (fun _ _ i _=>xs.length-(intOf i).toNat)
 case atStart =>
  refine ⟨0,Nat.zero_le _,rfl,?_⟩
  have e:max m (d+(aY ((xs.take 0).map dp):Nat))=m:=by show max m (d+((0:Nat):Int))=m;omega
  rw[e]
  simpa [aS] using HW.out.here
 case round =>
  obtain⟨k,hk,rfl,hq⟩:=hrel
  by_cases hlt:k<xs.length
  ·obtain⟨x,hx⟩:∃x,xs[k]?=some x:=⟨_,List.getElem?_eq_getElem hlt⟩
   have hlt':((k:Int)<(xs.length:Int)):=by omega
   obtain⟨tw1,hw1,ht1,hf1⟩:=hq
   obtain⟨_,_,_,b,off,cs,rfl,_,hel,hcell⟩:=bN (HV.out.to (T:=fun b=>b<g) (by decide) hf1 (cB.keeps HW.out hf1) (fun _ _ e=>e.to hf1 (cB.keeps HW.out hf1))) hx
   obtain⟨hs1,hs2⟩:=HSN.out k x hx
   have hxm:=List.mem_of_getElem? hx
   have hll:=HSL.out (k+1)
   have hmm:=HDL.out k
   rw[hs1] at hll
   have HEL:=hid hel
   obtain⟨aa1,nn1,cc1,rfl,_⟩:=hel
   have q0:=hcell 0 _ rfl
   simp only[Nat.add_zero,Nat.mul_one] at q0
   have hgt:g<wr.heap.size:=hw1.lt
   obtain⟨U,hU⟩:∃U,U=wr:=⟨_,rfl⟩
   subst hU
   have hwU:=hw1
   have HELU:=HEL
   have HT1:=hid ht1
   have HF1:=hid hf1
   have HBU:=hid (Below.refl U.heap.size U)
   clear ht1 hf1 hw1
   generalize hPT:aS (aK sep) ((xs.take k).map tk)=PT at *
   generalize hPD:aY ((xs.take k).map dp)=PD at *
   by_cases hk0:k=0
   ·rw[if_pos hk0] at hs1 hll
    have hPT0:PT=[]:=by rw[← hPT,hk0];simp[aS]
    have hCA:=HF.out x hxm U tw1 (L++PT) (max m (d+(PD:Int))) hwU _ HELU.out (by rw[hPT0];simp;omega) (by omega) (by omega)
    have HC:Hid (Calls Tryz.prog fr #[.pointer (some ⟨g,0,none⟩),.slice aa1 nn1 cc1] U fun e w'=>e = .returned (.tuple #[])∧Wrote g tw1 U w' (L++aS (aK sep) ((xs.take (k+1)).map tk)) d (max m (d+(aY ((xs.take (k+1)).map dp):Nat)))):=hid (by
     rw[hs1,hs2]
     rw[hPT0,List.append_nil] at hCA
     rw[show max m (d+((max PD (dp x):Nat):Int))=max (max m (d+(PD:Int))) (d+(dp x:Int)) by omega]
     exact hCA)
    have HQ0:Hid (cB g tb w U):=hid (HF1.out.eU HBU.out)
    clear hCA hs1 hs2 hll hmm hxm hwU hPT hPD hPT0 hcell hx
    have hk0' : ¬((0:Int)<(k:Int)):=by omega
    clear hk0
    go_wp2_with fail
    refine HC.out.mono ?_
    rintro e w2 ⟨rfl,h2⟩
    have HQ:=hid (Wrote.then HT1.out HQ0.out h2)
    clear h2 HC
    go_wp2
    go_roundw
    case rel=>exact⟨k+1,by omega,by go_num,HQ.out⟩
    case measure=>simp[intOf];omega
   ·rw[if_neg hk0] at hs1 hll
    have hk0':((0:Int)<(k:Int)):=by omega
    simp only[List.length_append,List.length_cons] at hll
    have HX:Hid (Calls Tryz.prog 98 #[.pointer (some ⟨g,0,none⟩),.slice (some ⟨U.heap.size,0,none⟩) 1 1] (U.alloc (.cells #[.string (aj sep)] 9)) fun e w'=>e = .returned (.tuple #[])∧Wrote g tw1 U w' (L++PT++au [sep]) d (max m (d+(PD:Int)))):=hid (aG g tw1 _ d _ [sep] U hwU (by simp) (by simpa using hsep) (by simp;omega))
    have HWU:=hid hwU
    have HQ0:Hid (cB g tb w U):=hid (HF1.out.eU HBU.out)
    have HS1:=hid hs1
    have HS2:=hid hs2
    have HM:=hid hxm
    clear hs1 hs2 hxm hwU hPT hPD hcell hx
    go_wp2_with fail
    refine HX.out.mono ?_
    rintro e w2 ⟨rfl,tw2,hw2,ht2,hf2⟩
    have hCA:=HF.out x HM.out w2 tw2 _ (max m (d+(PD:Int))) hw2 _ (HELU.out.to hf2 (cB.keeps HWU.out hf2)) (by simp[au];omega) (by omega) (by omega)
    have HC:Hid (Calls Tryz.prog fr #[.pointer (some ⟨g,0,none⟩),.slice aa1 nn1 cc1] w2 fun e w'=>e = .returned (.tuple #[])∧Wrote g tw2 w2 w' (L++aS (aK sep) ((xs.take (k+1)).map tk)) d (max m (d+(aY ((xs.take (k+1)).map dp):Nat)))):=hid (by
     rw[HS1.out,HS2.out]
     rw[show max m (d+((max PD (dp x):Nat):Int))=max (max m (d+(PD:Int))) (d+(dp x:Int)) by omega]
     rw[show L++PT++au [sep]++tk x=L++(PT++aK sep::tk x) by simp[au]] at hCA
     exact hCA)
    have HT2:=hid ht2
    have HF2:=hid hf2
    clear hCA ht2 hf2 hw2 HX
    go_wp2_with fail
    refine HC.out.mono ?_
    rintro e w3 ⟨rfl,h3⟩
    have HQ:=hid (Wrote.then HT1.out HQ0.out (Wrote.then HT2.out HF2.out h3))
    clear h3 HC
    go_wp2
    go_roundw
    case rel=>exact⟨k+1,by omega,by go_num,HQ.out⟩
    case measure=>simp[intOf];omega
  ·have hlt' : ¬((k:Int)<(xs.length:Int)):=by omega
   have HQ:Hid (Wrote g tb w wr (L++aS (aK sep) (xs.map tk)) d (max m (d+(aY (xs.map dp):Nat)))):=hid (by rw[List.take_of_length_le (by omega)] at hq;exact hq)
   clear hq
   go_wp2
   exact bodyPost_end (v:=.tuple #[]) (by simp[results,Tryz.results101,go_sem]) rfl ⟨rfl,HQ.out⟩
end Go.Proofs.YtfeglkleoijlaaaGreatDoor
