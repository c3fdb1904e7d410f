/- Packed for the hand-in: KFirst KEach WExpr -/
import Derived.Test.YtfeglkleoijlaaaGreatDoorZ08
import Derived.Test.YtfeglkleoijlaaaGreatDoorZ06
namespace Go.Proofs.YtfeglkleoijlaaaGreatDoor
open Go.RowKit Go.Shelf
set_option linter.unusedSimpArgs false
set_option linter.unusedVariables false
set_option maxRecDepth 20000
set_option maxHeartbeats 8000000
def aX:List Int→Int
 | []=>0
 | c::l=>if c≠0 then c else aX l
theorem oU : ∀(a b:List Int),aX (a++b)=if aX a≠0 then aX a else aX b
 | [],b=>by simp[aX]
 |
  c::a,b=>by
  rw[List.cons_append,aX,aX,oU a b]
  by_cases h:c≠0
  ·rw[if_pos h,if_pos h,if_pos h]
  ·rw[if_neg h,if_neg h]
theorem gG {l:List Int}:aX l=0↔∀c∈l,c=0:=by
 induction l with
 | nil=>simp[aX]
 |
  cons c l ih =>
  rw[aX]
  by_cases h:c≠0
  ·rw[if_pos h]
   exact⟨fun e=>absurd e h,fun e=>absurd (e c (by simp)) h⟩
  ·rw[if_neg h,ih]
   simp only[ne_eq,Decidable.not_not] at h
   simp[h]
theorem j4 {l:List Int} {k:Nat} {c:Int} (hz : ∀x∈l.take k,x=0) (hk:l[k]?=some c) (hc:c≠0):aX l=c:=by
 have e:l=l.take k++c::l.drop (k+1):=by
  obtain⟨h1,h2⟩:=List.getElem?_eq_some_iff.1 hk
  rw[← h2,← List.drop_eq_getElem_cons h1,List.take_append_drop]
 rw[e,oU,gG.2 hz,if_neg (by simp),aX,if_pos hc]
theorem Tryz.zH:(Tryz.prog.info? 53).map (·.size)=some 9:=by kernel_rfl
theorem Tryz.ow:(Tryz.prog.info? 55).map (·.size)=some 2:=by kernel_rfl
theorem kK {cs:List Int} {k:Nat} {c:Int} (h : ∀x∈cs.take k,x=0) (hk:cs[k]?=some c) (hc:c=0):∀x∈cs.take (k+1),x=0:=fun x hx=>by
 obtain⟨h1,h2⟩:=List.getElem?_eq_some_iff.1 hk
 rw[List.take_succ_eq_append_getElem h1,List.mem_append] at hx
 rcases hx with hx | hx
 ·exact h x hx
 ·rw[h2] at hx
  simp only[List.mem_singleton] at hx
  rw[hx,hc]
theorem lM (S:Nat→Prop) (fr:Nat) (pre post:Array Value) (eg : ∀args w,(callFunc fr args).run Tryz.prog w = .ok (.enter fr args) w) (I:Nat→World→Prop) (K:World→Prop) (xs:List (Ex)) (cs:List Int) (v:Value) (w:World) (hc:cs.length=xs.length)
  (h0:I 0 w) (HS:Hid (∀i V,I i V→aQ 8 gu S V xs v)) (HB:Hid (∀i V U,I i V→Below V.heap.size V U→I i U))
  (HF:Hid (∀i x c,xs[i]?=some x→cs[i]?=some c→∀V,I i V→∀ds,gu S V x ds→Calls Tryz.prog fr (pre++#[.agg ds.toArray]++post) V fun e w'=>e = .returned (.int .i64 c)∧(c=0→I (i+1) w')∧(c≠0→K w'))) :
  Calls Tryz.prog 23 #[v,.func (.func fr) pre post] w fun e w'=>e = .returned (.int .i64 (aX cs))∧(aX cs=0→I xs.length w')∧(aX cs≠0→K w'):=by
 have hv:=HS.out 0 w h0
 obtain⟨aa,cc,css,rfl,h1,h2,_⟩:=hv
 unfold maxLen at h2
 obtain⟨X,hX⟩:∃X,aX cs=X:=⟨_,rfl⟩
 rw[hX]
 have HX:=hid hX
 have H0:=hid h0
 clear hX h0
 go_enter Tryz.func23,Tryz.ntmps23
 go_wp2_with fail
 go_loopw [6,7,10] (fun _ _ i wr=>∃(k:Nat),k≤xs.length∧i = .int .i64 k∧Hid (I k wr)∧Hid (∀x∈cs.take k,x=0)) (fun _ _ i _=>xs.length-(intOf i).toNat)
 case atStart=>exact⟨0,Nat.zero_le _,rfl,H0,hid (by simp)⟩
 case round =>
  obtain⟨k,hk,rfl,HI,HZ⟩:=hrel
  by_cases hlt:k<xs.length
  ·obtain⟨x,hx⟩:∃x,xs[k]?=some x:=⟨_,List.getElem?_eq_getElem hlt⟩
   obtain⟨c,hcx⟩:∃c,cs[k]?=some c:=⟨_,List.getElem?_eq_getElem (by omega)⟩
   have hlt':((k:Int)<(xs.length:Int)):=by omega
   obtain⟨_,_,_,b,off,ds,rfl,_,hel,hcell⟩:=bN (HS.out k wr HI.out) hx
   have hel0:=hel
   obtain⟨k1,op1,tb1,nm1,vk1,vn1,vs1,ys1,aa1,nn1,cc1,_,rfl,_⟩:=hel
   have q0:=hcell 0 _ rfl
   have q1:=hcell 1 _ rfl
   have q2:=hcell 2 _ rfl
   have q3:=hcell 3 _ rfl
   have q4:=hcell 4 _ rfl
   have q5:=hcell 5 _ rfl
   have q6:=hcell 6 _ rfl
   have q7:=hcell 7 _ rfl
   simp only[Nat.add_zero] at q0
   obtain⟨U,hU,hbU,hzU,hcU⟩:=aL wr (.cells #[.int .i64 k1,.int .i64 op1,.string (aj tb1),.string (aj nm1),.int .i64 vk1,.int .i64 vn1,.string (aj vs1),.slice aa1 nn1 cc1] 48)
   have kU:=fun i=>aD U wr.heap.size _ _ _ i hcU
   have kU':U.cell? ⟨wr.heap.size,0,none⟩=some (.int .i64 k1)∧U.cell? ⟨wr.heap.size,1,none⟩=some (.int .i64 op1)∧U.cell? ⟨wr.heap.size,2,none⟩=some (.string (aj tb1))∧U.cell? ⟨wr.heap.size,3,none⟩=some (.string (aj nm1))∧U.cell? ⟨wr.heap.size,4,none⟩=some (.int .i64 vk1)∧U.cell? ⟨wr.heap.size,5,none⟩=some (.int .i64 vn1)∧U.cell? ⟨wr.heap.size,6,none⟩=some (.string (aj vs1))∧U.cell? ⟨wr.heap.size,7,none⟩=some (.slice aa1 nn1 cc1):=⟨(kU 0).trans rfl,(kU 1).trans rfl,(kU 2).trans rfl,(kU 3).trans rfl,(kU 4).trans rfl,(kU 5).trans rfl,(kU 6).trans rfl,(kU 7).trans rfl⟩
   clear kU
   have HC:=hid (HF.out k x c hx hcx U (HB.out k wr U HI.out hbU) _ (hel0.to (R:=fun _=>False) (aA.aC hbU) (fun b hb _=>⟨id,hb⟩)))
   clear hbU hcU
   have HCX:=hid hcx
   clear hcell hx hel0 hcx HI
   by_cases hz:c=0
   ·subst hz
    have HZ2:=hid (kK HZ.out HCX.out rfl)
    clear HZ HCX
    go_wp2_with (first | (refine wpList_store_row rfl 48 (.tmp 6) (.tmp 13) rfl wr.heap.size #[.int .i64 k1,.int .i64 op1,.string (aj tb1),.string (aj nm1),.int .i64 vk1,.int .i64 vn1,.string (aj vs1),.slice aa1 nn1 cc1] rfl rfl 48 #[.int .i64 0,.int .i64 0,.string ⟨#[]⟩,.string ⟨#[]⟩,.int .i64 0,.int .i64 0,.string ⟨#[]⟩,.slice none 0 0] (heap_alloc_new wr _) Tryz.bA rfl rfl ?_;rw[aB,hU];clear hU) | fail)
    refine HC.out.mono ?_
    rintro e w2 ⟨rfl,hi2,_⟩
    have HI2:Hid (I (k+1) w2):=hid (by simpa using hi2)
    clear hi2 HC
    go_wp2
    go_roundw
    case rel=>exact⟨k+1,by omega,by go_num,HI2,HZ2⟩
    case measure=>simp[intOf];omega
   ·have HXF:Hid (X=c):=hid (by rw[← HX.out];exact j4 HZ.out HCX.out hz)
    have hcz:(c != 0)=true:=by simpa using hz
    have HNZ:=hid hz
    clear HZ HCX hz
    go_wp2_with (first | (refine wpList_store_row rfl 48 (.tmp 6) (.tmp 13) rfl wr.heap.size #[.int .i64 k1,.int .i64 op1,.string (aj tb1),.string (aj nm1),.int .i64 vk1,.int .i64 vn1,.string (aj vs1),.slice aa1 nn1 cc1] rfl rfl 48 #[.int .i64 0,.int .i64 0,.string ⟨#[]⟩,.string ⟨#[]⟩,.int .i64 0,.int .i64 0,.string ⟨#[]⟩,.slice none 0 0] (heap_alloc_new wr _) Tryz.bA rfl rfl ?_;rw[aB,hU];clear hU) | fail)
    refine HC.out.mono ?_
    rintro e w2 ⟨rfl,_,hk2⟩
    have HK2:=hid (hk2 HNZ.out)
    clear hk2 HC
    go_wp2
    go_ret
    exact⟨by rw[HXF.out];rfl,fun h=>absurd (HXF.out.symm.trans h) HNZ.out,fun _=>HK2.out⟩
  ·have hlt' : ¬((k:Int)<(xs.length:Int)):=by omega
   have hke:k=xs.length:=by omega
   have HXT:Hid (X=0):=hid (by rw[← HX.out,gG];have:=HZ.out;rwa [List.take_of_length_le (by omega)] at this)
   have HI2:Hid (I xs.length wr):=hid (hke ▸ HI.out)
   clear HI HZ hke
   go_wp2
   go_ret
   exact⟨by rw[HXT.out];rfl,fun _=>HI2.out,fun h=>absurd HXT.out h⟩
theorem xQ (S:Nat→Prop) (fr:Nat) (pre post:Array Value) (eg : ∀args w,(callFunc fr args).run Tryz.prog w = .ok (.enter fr args) w) (I:Nat→World→Prop) (K:World→Prop) (xs:List (Se)) (cs:List Int) (v:Value) (w:World) (hc:cs.length=xs.length)
  (h0:I 0 w) (HS:Hid (∀i V,I i V→aQ 9 yx S V xs v)) (HB:Hid (∀i V U,I i V→Below V.heap.size V U→I i U))
  (HF:Hid (∀i x c,xs[i]?=some x→cs[i]?=some c→∀V,I i V→∀ds,yx S V x ds→Calls Tryz.prog fr (pre++#[.agg ds.toArray]++post) V fun e w'=>e = .returned (.int .i64 c)∧(c=0→I (i+1) w')∧(c≠0→K w'))) :
  Calls Tryz.prog 54 #[v,.func (.func fr) pre post] w fun e w'=>e = .returned (.int .i64 (aX cs))∧(aX cs=0→I xs.length w')∧(aX cs≠0→K w'):=by
 have hv:=HS.out 0 w h0
 obtain⟨aa,cc,css,rfl,h1,h2,_⟩:=hv
 unfold maxLen at h2
 obtain⟨X,hX⟩:∃X,aX cs=X:=⟨_,rfl⟩
 rw[hX]
 have HX:=hid hX
 have H0:=hid h0
 clear hX h0
 go_enter Tryz.func54,Tryz.ntmps54
 go_wp2_with fail
 go_loopw [6,7,10] (fun _ _ i wr=>∃(k:Nat),k≤xs.length∧i = .int .i64 k∧Hid (I k wr)∧Hid (∀x∈cs.take k,x=0)) (fun _ _ i _=>xs.length-(intOf i).toNat)
 case atStart=>exact⟨0,Nat.zero_le _,rfl,H0,hid (by simp)⟩
 case round =>
  obtain⟨k,hk,rfl,HI,HZ⟩:=hrel
  by_cases hlt:k<xs.length
  ·obtain⟨x,hx⟩:∃x,xs[k]?=some x:=⟨_,List.getElem?_eq_getElem hlt⟩
   obtain⟨c,hcx⟩:∃c,cs[k]?=some c:=⟨_,List.getElem?_eq_getElem (by omega)⟩
   have hlt':((k:Int)<(xs.length:Int)):=by omega
   obtain⟨_,_,_,b,off,ds,rfl,_,hel,hcell⟩:=bN (HS.out k wr HI.out) hx
   have hel0:=hel
   obtain⟨k1,op1,tb1,nm1,vk1,vn1,vs1,ys1,aa1,nn1,cc1,_,rfl,_⟩:=hel
   have q0:=hcell 0 _ rfl
   have q1:=hcell 1 _ rfl
   have q2:=hcell 2 _ rfl
   have q3:=hcell 3 _ rfl
   have q4:=hcell 4 _ rfl
   have q5:=hcell 5 _ rfl
   have q6:=hcell 6 _ rfl
   have q7:=hcell 7 _ rfl
   have q8:=hcell 8 _ rfl
   simp only[Nat.add_zero] at q0
   obtain⟨U,hU,hbU,hzU,hcU⟩:=aL wr (.cells #[.string (aj x.nm),.int .i64 k1,.int .i64 op1,.string (aj tb1),.string (aj nm1),.int .i64 vk1,.int .i64 vn1,.string (aj vs1),.slice aa1 nn1 cc1] 53)
   have kU:=fun i=>aD U wr.heap.size _ _ _ i hcU
   have kU':U.cell? ⟨wr.heap.size,0,none⟩=some (.string (aj x.nm))∧U.cell? ⟨wr.heap.size,1,none⟩=some (.int .i64 k1)∧U.cell? ⟨wr.heap.size,2,none⟩=some (.int .i64 op1)∧U.cell? ⟨wr.heap.size,3,none⟩=some (.string (aj tb1))∧U.cell? ⟨wr.heap.size,4,none⟩=some (.string (aj nm1))∧U.cell? ⟨wr.heap.size,5,none⟩=some (.int .i64 vk1)∧U.cell? ⟨wr.heap.size,6,none⟩=some (.int .i64 vn1)∧U.cell? ⟨wr.heap.size,7,none⟩=some (.string (aj vs1))∧U.cell? ⟨wr.heap.size,8,none⟩=some (.slice aa1 nn1 cc1):=⟨(kU 0).trans rfl,(kU 1).trans rfl,(kU 2).trans rfl,(kU 3).trans rfl,(kU 4).trans rfl,(kU 5).trans rfl,(kU 6).trans rfl,(kU 7).trans rfl,(kU 8).trans rfl⟩
   clear kU
   have HC:=hid (HF.out k x c hx hcx U (HB.out k wr U HI.out hbU) _ (hel0.to (R:=fun _=>False) (aA.aC hbU) (fun b hb _=>⟨id,hb⟩)))
   clear hbU hcU
   have HCX:=hid hcx
   clear hcell hx hel0 hcx HI
   by_cases hz:c=0
   ·subst hz
    have HZ2:=hid (kK HZ.out HCX.out rfl)
    clear HZ HCX
    go_wp2_with (first | (refine wpList_store_row rfl 53 (.tmp 6) (.tmp 13) rfl wr.heap.size #[.string (aj x.nm),.int .i64 k1,.int .i64 op1,.string (aj tb1),.string (aj nm1),.int .i64 vk1,.int .i64 vn1,.string (aj vs1),.slice aa1 nn1 cc1] rfl rfl 53 #[.string ⟨#[]⟩,.int .i64 0,.int .i64 0,.string ⟨#[]⟩,.string ⟨#[]⟩,.int .i64 0,.int .i64 0,.string ⟨#[]⟩,.slice none 0 0] (heap_alloc_new wr _) Tryz.zH rfl rfl ?_;rw[aB,hU];clear hU) | fail)
    refine HC.out.mono ?_
    rintro e w2 ⟨rfl,hi2,_⟩
    have HI2:Hid (I (k+1) w2):=hid (by simpa using hi2)
    clear hi2 HC
    go_wp2
    go_roundw
    case rel=>exact⟨k+1,by omega,by go_num,HI2,HZ2⟩
    case measure=>simp[intOf];omega
   ·have HXF:Hid (X=c):=hid (by rw[← HX.out];exact j4 HZ.out HCX.out hz)
    have hcz:(c != 0)=true:=by simpa using hz
    have HNZ:=hid hz
    clear HZ HCX hz
    go_wp2_with (first | (refine wpList_store_row rfl 53 (.tmp 6) (.tmp 13) rfl wr.heap.size #[.string (aj x.nm),.int .i64 k1,.int .i64 op1,.string (aj tb1),.string (aj nm1),.int .i64 vk1,.int .i64 vn1,.string (aj vs1),.slice aa1 nn1 cc1] rfl rfl 53 #[.string ⟨#[]⟩,.int .i64 0,.int .i64 0,.string ⟨#[]⟩,.string ⟨#[]⟩,.int .i64 0,.int .i64 0,.string ⟨#[]⟩,.slice none 0 0] (heap_alloc_new wr _) Tryz.zH rfl rfl ?_;rw[aB,hU];clear hU) | fail)
    refine HC.out.mono ?_
    rintro e w2 ⟨rfl,_,hk2⟩
    have HK2:=hid (hk2 HNZ.out)
    clear hk2 HC
    go_wp2
    go_ret
    exact⟨by rw[HXF.out];rfl,fun h=>absurd (HXF.out.symm.trans h) HNZ.out,fun _=>HK2.out⟩
  ·have hlt' : ¬((k:Int)<(xs.length:Int)):=by omega
   have hke:k=xs.length:=by omega
   have HXT:Hid (X=0):=hid (by rw[← HX.out,gG];have:=HZ.out;rwa [List.take_of_length_le (by omega)] at this)
   have HI2:Hid (I xs.length wr):=hid (hke ▸ HI.out)
   clear HI HZ hke
   go_wp2
   go_ret
   exact⟨by rw[HXT.out];rfl,fun _=>HI2.out,fun h=>absurd HXT.out h⟩
theorem yK (S:Nat→Prop) (fr:Nat) (pre post:Array Value) (eg : ∀args w,(callFunc fr args).run Tryz.prog w = .ok (.enter fr args) w) (I:Nat→World→Prop) (K:World→Prop) (xs:List (It)) (cs:List Int) (v:Value) (w:World) (hc:cs.length=xs.length)
  (h0:I 0 w) (HS:Hid (∀i V,I i V→aQ 2 qo S V xs v)) (HB:Hid (∀i V U,I i V→Below V.heap.size V U→I i U))
  (HF:Hid (∀i x c,xs[i]?=some x→cs[i]?=some c→∀V,I i V→∀ds,qo S V x ds→Calls Tryz.prog fr (pre++#[.agg ds.toArray]++post) V fun e w'=>e = .returned (.int .i64 c)∧(c=0→I (i+1) w')∧(c≠0→K w'))) :
  Calls Tryz.prog 63 #[v,.func (.func fr) pre post] w fun e w'=>e = .returned (.int .i64 (aX cs))∧(aX cs=0→I xs.length w')∧(aX cs≠0→K w'):=by
 have hv:=HS.out 0 w h0
 obtain⟨aa,cc,css,rfl,h1,h2,_⟩:=hv
 unfold maxLen at h2
 obtain⟨X,hX⟩:∃X,aX cs=X:=⟨_,rfl⟩
 rw[hX]
 have HX:=hid hX
 have H0:=hid h0
 clear hX h0
 go_enter Tryz.func63,Tryz.ntmps63
 go_wp2_with fail
 go_loopw [6,7,10] (fun _ _ i wr=>∃(k:Nat),k≤xs.length∧i = .int .i64 k∧Hid (I k wr)∧Hid (∀x∈cs.take k,x=0)) (fun _ _ i _=>xs.length-(intOf i).toNat)
 case atStart=>exact⟨0,Nat.zero_le _,rfl,H0,hid (by simp)⟩
 case round =>
  obtain⟨k,hk,rfl,HI,HZ⟩:=hrel
  by_cases hlt:k<xs.length
  ·obtain⟨x,hx⟩:∃x,xs[k]?=some x:=⟨_,List.getElem?_eq_getElem hlt⟩
   obtain⟨c,hcx⟩:∃c,cs[k]?=some c:=⟨_,List.getElem?_eq_getElem (by omega)⟩
   have hlt':((k:Int)<(xs.length:Int)):=by omega
   obtain⟨_,_,_,b,off,ds,rfl,_,hel,hcell⟩:=bN (HS.out k wr HI.out) hx
   have hel0:=hel
   obtain⟨aa1,nn1,cc1,rfl,_⟩:=hel
   have q0:=hcell 0 _ rfl
   have q1:=hcell 1 _ rfl
   simp only[Nat.add_zero] at q0
   obtain⟨U,hU,hbU,hzU,hcU⟩:=aL wr (.cells #[.int .i64 x.k,.slice aa1 nn1 cc1] 55)
   have kU:=fun i=>aD U wr.heap.size _ _ _ i hcU
   have kU':U.cell? ⟨wr.heap.size,0,none⟩=some (.int .i64 x.k)∧U.cell? ⟨wr.heap.size,1,none⟩=some (.slice aa1 nn1 cc1):=⟨(kU 0).trans rfl,(kU 1).trans rfl⟩
   clear kU
   have HC:=hid (HF.out k x c hx hcx U (HB.out k wr U HI.out hbU) _ (hel0.to (R:=fun _=>False) (aA.aC hbU) (fun b hb _=>⟨id,hb⟩)))
   clear hbU hcU
   have HCX:=hid hcx
   clear hcell hx hel0 hcx HI
   by_cases hz:c=0
   ·subst hz
    have HZ2:=hid (kK HZ.out HCX.out rfl)
    clear HZ HCX
    go_wp2_with (first | (refine wpList_store_row rfl 55 (.tmp 6) (.tmp 13) rfl wr.heap.size #[.int .i64 x.k,.slice aa1 nn1 cc1] rfl rfl 55 #[.int .i64 0,.slice none 0 0] (heap_alloc_new wr _) Tryz.ow rfl rfl ?_;rw[aB,hU];clear hU) | fail)
    refine HC.out.mono ?_
    rintro e w2 ⟨rfl,hi2,_⟩
    have HI2:Hid (I (k+1) w2):=hid (by simpa using hi2)
    clear hi2 HC
    go_wp2
    go_roundw
    case rel=>exact⟨k+1,by omega,by go_num,HI2,HZ2⟩
    case measure=>simp[intOf];omega
   ·have HXF:Hid (X=c):=hid (by rw[← HX.out];exact j4 HZ.out HCX.out hz)
    have hcz:(c != 0)=true:=by simpa using hz
    have HNZ:=hid hz
    clear HZ HCX hz
    go_wp2_with (first | (refine wpList_store_row rfl 55 (.tmp 6) (.tmp 13) rfl wr.heap.size #[.int .i64 x.k,.slice aa1 nn1 cc1] rfl rfl 55 #[.int .i64 0,.slice none 0 0] (heap_alloc_new wr _) Tryz.ow rfl rfl ?_;rw[aB,hU];clear hU) | fail)
    refine HC.out.mono ?_
    rintro e w2 ⟨rfl,_,hk2⟩
    have HK2:=hid (hk2 HNZ.out)
    clear hk2 HC
    go_wp2
    go_ret
    exact⟨by rw[HXF.out];rfl,fun h=>absurd (HXF.out.symm.trans h) HNZ.out,fun _=>HK2.out⟩
  ·have hlt' : ¬((k:Int)<(xs.length:Int)):=by omega
   have hke:k=xs.length:=by omega
   have HXT:Hid (X=0):=hid (by rw[← HX.out,gG];have:=HZ.out;rwa [List.take_of_length_le (by omega)] at this)
   have HI2:Hid (I xs.length wr):=hid (hke ▸ HI.out)
   clear HI HZ hke
   go_wp2
   go_ret
   exact⟨by rw[HXT.out];rfl,fun _=>HI2.out,fun h=>absurd HXT.out h⟩
theorem xS (S:Nat→Prop) (fr:Nat) (pre post:Array Value) (eg : ∀args w,(callFunc fr args).run Tryz.prog w = .ok (.enter fr args) w) (I:Nat→World→Prop) (K:World→Prop) (xs:List (List Vl)) (cs:List Int) (v:Value) (w:World) (hc:cs.length=xs.length)
  (h0:I 0 w) (HS:Hid (∀i V,I i V→aQ 1 yV S V xs v)) (HB:Hid (∀i V U,I i V→Below V.heap.size V U→I i U))
  (HF:Hid (∀i x c,xs[i]?=some x→cs[i]?=some c→∀V,I i V→∀ds,yV S V x ds→Calls Tryz.prog fr (pre++#[(ds.headD undef)]++post) V fun e w'=>e = .returned (.int .i64 c)∧(c=0→I (i+1) w')∧(c≠0→K w'))) :
  Calls Tryz.prog 52 #[v,.func (.func fr) pre post] w fun e w'=>e = .returned (.int .i64 (aX cs))∧(aX cs=0→I xs.length w')∧(aX cs≠0→K w'):=by
 have hv:=HS.out 0 w h0
 obtain⟨aa,cc,css,rfl,h1,h2,_⟩:=hv
 unfold maxLen at h2
 obtain⟨X,hX⟩:∃X,aX cs=X:=⟨_,rfl⟩
 rw[hX]
 have HX:=hid hX
 have H0:=hid h0
 clear hX h0
 go_enter Tryz.func52,Tryz.ntmps52
 go_wp2_with fail
 go_loopw [6,7,10] (fun _ _ i wr=>∃(k:Nat),k≤xs.length∧i = .int .i64 k∧Hid (I k wr)∧Hid (∀x∈cs.take k,x=0)) (fun _ _ i _=>xs.length-(intOf i).toNat)
 case atStart=>exact⟨0,Nat.zero_le _,rfl,H0,hid (by simp)⟩
 case round =>
  obtain⟨k,hk,rfl,HI,HZ⟩:=hrel
  by_cases hlt:k<xs.length
  ·obtain⟨x,hx⟩:∃x,xs[k]?=some x:=⟨_,List.getElem?_eq_getElem hlt⟩
   obtain⟨c,hcx⟩:∃c,cs[k]?=some c:=⟨_,List.getElem?_eq_getElem (by omega)⟩
   have hlt':((k:Int)<(xs.length:Int)):=by omega
   obtain⟨_,_,_,b,off,ds,rfl,_,hel,hcell⟩:=bN (HS.out k wr HI.out) hx
   have hel0:=hel
   obtain⟨aa1,nn1,cc1,rfl,_⟩:=hel
   have q0:=hcell 0 _ rfl
   simp only[Nat.add_zero,Nat.mul_one] at q0
   have hq:=HF.out k x c hx hcx wr HI.out _ hel0
   rw[List.headD_cons] at hq
   have HC:=hid hq
   clear hq
   have HCX:=hid hcx
   clear hcell hx hel0 hcx HI
   by_cases hz:c=0
   ·subst hz
    have HZ2:=hid (kK HZ.out HCX.out rfl)
    clear HZ HCX
    go_wp2_with fail
    refine HC.out.mono ?_
    rintro e w2 ⟨rfl,hi2,_⟩
    have HI2:Hid (I (k+1) w2):=hid (by simpa using hi2)
    clear hi2 HC
    go_wp2
    go_roundw
    case rel=>exact⟨k+1,by omega,by go_num,HI2,HZ2⟩
    case measure=>simp[intOf];omega
   ·have HXF:Hid (X=c):=hid (by rw[← HX.out];exact j4 HZ.out HCX.out hz)
    have hcz:(c != 0)=true:=by simpa using hz
    have HNZ:=hid hz
    clear HZ HCX hz
    go_wp2_with fail
    refine HC.out.mono ?_
    rintro e w2 ⟨rfl,_,hk2⟩
    have HK2:=hid (hk2 HNZ.out)
    clear hk2 HC
    go_wp2
    go_ret
    exact⟨by rw[HXF.out];rfl,fun h=>absurd (HXF.out.symm.trans h) HNZ.out,fun _=>HK2.out⟩
  ·have hlt' : ¬((k:Int)<(xs.length:Int)):=by omega
   have hke:k=xs.length:=by omega
   have HXT:Hid (X=0):=hid (by rw[← HX.out,gG];have:=HZ.out;rwa [List.take_of_length_le (by omega)] at this)
   have HI2:Hid (I xs.length wr):=hid (hke ▸ HI.out)
   clear HI HZ hke
   go_wp2
   go_ret
   exact⟨by rw[HXT.out];rfl,fun _=>HI2.out,fun h=>absurd HXT.out h⟩
def H9 (f:Nat) (args:Value→Nat→Array Value) (t:Tm) (T:List Tk) (D:Nat):Prop :=
 ∀
  (g:Nat) (tb:Option Nat) (L:List Tk) (d m:Int) (w:World) (v:Value),bJ w g tb L d m→fB (fun b=>b<g) w t.ex v→L.length+T.length≤1000000000→0≤d→d≤m→d+D≤1000000000→m≤1000000000 →
  Calls Tryz.prog f (args v g) w fun e w'=>e = .returned (.tuple #[])∧Wrote g tb w w' (L++T) d (max m (d+D))
theorem bJ.IX {w:World} {g:Nat} {tb:Option Nat} {L:List Tk} {d m:Int} (h:bJ w g tb L d m) (d':Int):∃V,w.setCell ⟨g,1,none⟩ (.int .i64 d')=V∧bJ V g tb L d' m∧cB g tb w V:=by
 obtain⟨v,hv,ho,hb⟩:=h.lie
 have hf:cB g tb w (w.setCell ⟨g,1,none⟩ (.int .i64 d')):=aA.setCell (aA.refl _ _) (.inl (.inl rfl)) _
 refine ⟨_,rfl,⟨⟨v,?_,ownsRow_setCell_below ho (Nat.lt_succ_self g) _,hb⟩,h.tab.below (h.uJ hf) h.big,h.big⟩,hf⟩
 rw[setCell_eq_setRow w g 1 _ _ _ _ hv,setRow_heap w g _ _ _ _ hv]
 rfl
theorem bJ.Jj {w:World} {g:Nat} {tb:Option Nat} {L:List Tk} {d m:Int} (h:bJ w g tb L d m) (m':Int):∃V,w.setCell ⟨g,2,none⟩ (.int .i64 m')=V∧bJ V g tb L d m'∧cB g tb w V:=by
 obtain⟨v,hv,ho,hb⟩:=h.lie
 have hf:cB g tb w (w.setCell ⟨g,2,none⟩ (.int .i64 m')):=aA.setCell (aA.refl _ _) (.inl (.inl rfl)) _
 refine ⟨_,rfl,⟨⟨v,?_,ownsRow_setCell_below ho (Nat.lt_succ_self g) _,hb⟩,h.tab.below (h.uJ hf) h.big,h.big⟩,hf⟩
 rw[setCell_eq_setRow w g 2 _ _ _ _ hv,setRow_heap w g _ _ _ _ hv]
 rfl
theorem bJ.cells {w:World} {g:Nat} {tb:Option Nat} {L:List Tk} {d m:Int} (h:bJ w g tb L d m):∃va vb vc,w.cell? ⟨g,0,none⟩=some (.slice va vb vc)∧w.cell? ⟨g,1,none⟩=some (.int .i64 d)∧w.cell? ⟨g,2,none⟩=some (.int .i64 m)∧∀i,w.frozen? ⟨g,i,none⟩=false:=by
 obtain⟨v,hv,ho,_⟩:=h.lie
 obtain⟨va,vb,vc,rfl⟩:∃va vb vc,v = .slice va vb vc:=by
  rcases ho.2 with⟨rfl,_⟩ | ⟨_,_,_,rfl,_⟩
  ·exact⟨_,_,_,rfl⟩
  ·exact⟨_,_,_,rfl⟩
 exact⟨va,vb,vc,gN hv⟩
theorem fB.mk' {S:Nat→Prop} {w:World} {x:Ex} {k op:Int} {tb nm:List UInt8} {vk vn:Int} {vs:List UInt8} {ys:List Ex} {aa:Option Addr} {nn cc:Nat} (he:x = .mk k op tb nm ⟨vk,vn,vs⟩ ys) (ha:bF S w ys (.slice aa nn cc)):fB S w x (.agg #[.int .i64 k,.int .i64 op,.string (aj tb),.string (aj nm),.int .i64 vk,.int .i64 vn,.string (aj vs),.slice aa nn cc]) :=
 ⟨k,op,tb,nm,vk,vn,vs,ys,aa,nn,cc,he,rfl,ha⟩
theorem su (l:Int) (t:Tm) (T:List Tk) (D:Nat) (hf:H9 161 (fun v g=>#[.pointer (some ⟨g,0,none⟩),.int .i64 l,v]) t T D) :
  H9 163 (fun v g=>#[.pointer (some ⟨g,0,none⟩),.int .i64 l,v]) t T (D+1):=fun g tb L d m w v h hx hL h0 hdm hd hm=>by
 obtain⟨k,op,tbl,nm,vk,vn,vs,ys,aa,nn,cc,he,rfl,ha⟩:=hx
 obtain⟨W,hW,hbW,hzW,hcW⟩:=aL w (.cells #[.int .i64 k,.int .i64 op,.string (aj tbl),.string (aj nm),.int .i64 vk,.int .i64 vn,.string (aj vs),.slice aa nn cc] 48)
 have hg:=h.lt
 have hWW:=h.below hbW
 have HBX:=hid (dn.mk' h hcW (Nat.le_refl _))
 obtain⟨va,vb,vc,kW⟩:=hWW.cells
 have hd1:IntKind.i64.wrap (d+1)=d+1:=by rw[IntKind.wrap_i64];omega
 obtain⟨W1,hW1,hw1,hf1⟩:=hWW.IX (d+1)
 obtain⟨va1,vb1,vc1,kW1⟩:=hw1.cells
 have hw1d:=hw1.below (Below.refl _ W1).drew
 obtain⟨W2,hW2,hw2,hf2⟩:=hw1d.Jj (max m (d+1))
 have hF2:cB g tb w W2:=((aA.aC (S:=fun k=>k=g∨tb=some k) hbW).then hf1).then ((aA.aC (S:=fun k=>k=g∨tb=some k) (Below.refl _ W1).drew).then hf2)
 have hBX2:=HBX.out.on (fun k hk=>.inl hk) (hf1.then ((aA.aC (S:=fun k=>k=g∨tb=some k) (Below.refl _ W1).drew).then hf2))
 have kB2:=aN hBX2.at'
 have HBX2:=hid hBX2
 have HFR:=hid (hf g tb L (d+1) (max m (d+1)) W2 _ hw2 (fB.mk' he (ha.qV h hF2)) hL (by omega) (by omega) (by omega) (by omega))
 have HF2:=hid hF2
 clear hcW hbW h ha he hw1 hw1d hw2 hf1 hf2 hF2 hBX2 hWW hf
 have hmax:((if m<d+1 then d+1 else m):Int)=max m (d+1):=by omega
 go_enter Tryz.func163,Tryz.ntmps163
 go_wp2_with fail
 go_region
 clear hW hW1 hW2 kW kW1
 go_wp2_with fail
 refine HFR.out.mono ?_
 rintro e w3 ⟨rfl,tb3,hw3,ht3,hf3⟩
 obtain⟨va3,vb3,vc3,k3⟩:=hw3.cells
 have hd2:IntKind.i64.wrap (d+1-1)=d:=by rw[IntKind.wrap_i64];omega
 obtain⟨W4,hW4,hw4,hf4⟩:=hw3.IX d
 have HQ:Hid (Wrote g tb w W4 (L++T) d (max m (d+((D+1:Nat):Int)))):=hid (by
  rw[show max (max m (d+1)) (d+1+(D:Int))=max m (d+((D+1:Nat):Int)) by omega] at hw4
  exact Wrote.then (fun k hk=>.inl hk) HF2.out (Wrote.then ht3 hf3 ⟨tb3,hw4,fun k hk=>.inl hk,hf4⟩))
 clear hw3 ht3 hf3 hw4 hf4 HFR
 go_wp2
 exact bodyPost_end (v:=.tuple #[]) (by simp[results,Tryz.results163,go_sem]) rfl ⟨rfl,HQ.out⟩
theorem ES {l lv:Nat} {T:List Tk} (h:l≤lv):jw l lv T=T:=if_pos h
theorem FE {l lv:Nat} {T:List Tk} (h : ¬l≤lv):jw l lv T=aK [40]::(T++[aK [41]]):=if_neg h
theorem EK {l lv d:Nat} (h:l≤lv):jI l lv d=d:=if_pos h
theorem EO {l lv d:Nat} (h : ¬l≤lv):jI l lv d=d+1:=if_neg h
abbrev Ez (t:Tm):Prop:=H9 83 (fun v g=>#[.pointer (some ⟨g,0,none⟩),v]) t t.tk t.dp
abbrev Jk (l:Int) (t:Tm) (T:List Tk) (D:Nat):Prop:=H9 161 (fun v g=>#[.pointer (some ⟨g,0,none⟩),.int .i64 l,v]) t T D
abbrev Je (l:Int) (t:Tm) (T:List Tk) (D:Nat):Prop:=H9 163 (fun v g=>#[.pointer (some ⟨g,0,none⟩),.int .i64 l,v]) t T D
theorem qP (l:Nat) (t:Tm) (hok:t.ok) (hl:l≤t.lv) (hX:Ez t):Jk l t t.tk t.dp:=fun g tb L d m w v h hx hL h0 hdm hd hm=>by
 have hlvl:=hid (fun V (hb:Below w.heap.size w V)=>sW (fun b=>b<g) t hok v V (h.tab.on hb) (hx.new hb))
 have HXV:=hid hx
 obtain⟨k,op,tbl,nm,vk,vn,vs,ys,aa,nn,cc,he,rfl,ha⟩:=hx
 obtain⟨W,hW,hbW,hzW,hcW⟩:=aL w (.cells #[.int .i64 k,.int .i64 op,.string (aj tbl),.string (aj nm),.int .i64 vk,.int .i64 vn,.string (aj vs),.slice aa nn cc] 48)
 have k0:=aN hcW
 have HLV:=hid (hlvl.out W hbW)
 have HH:=hid h
 have HC:=hid hcW
 have HB:=hid hbW
 have hge:((l:Int)≤(t.lv:Int)):=by omega
 clear hcW hbW ha he h hlvl hok
 generalize hlv:(t.lv:Int)=lv at HLV hge
 clear hlv
 generalize hll:(l:Int)=li at hge ⊢
 clear hll
 go_enter Tryz.func161,Tryz.ntmps161
 go_wp2_with fail
 refine HLV.out.mono ?_
 rintro e w1 ⟨rfl,hb1⟩
 have k1:=aN ((hb1.block w.heap.size hzW).trans HC.out)
 have hB1:=HB.out.trans (hb1.mono HB.out.size)
 have HX1:=hid (hX g tb L d m w1 _ (HH.out.below hB1) (HXV.out.new hB1) hL h0 hdm hd hm)
 have HB1:=hid hB1
 clear hb1 hB1 HLV
 go_wp2_with fail
 refine HX1.out.mono ?_
 rintro e w2 ⟨rfl,h2⟩
 go_wp2
 exact bodyPost_ret (v:=.tuple #[]) (by simp[results,Tryz.results161,go_sem]) rfl ⟨rfl,h2.new HB1.out⟩
theorem tL (l:Nat) (t:Tm) (hok:t.ok) (hl : ¬l≤t.lv) (hD:Je 0 t t.tk (t.dp+1)):Jk l t (aK [40]::(t.tk++[aK [41]])) (t.dp+1):=fun g tb L d m w v h hx hL h0 hdm hd hm=>by
 simp only[List.length_cons,List.length_append,List.length_nil] at hL
 have hlvl:=hid (fun V (hb:Below w.heap.size w V)=>sW (fun b=>b<g) t hok v V (h.tab.on hb) (hx.new hb))
 have HXV:=hid hx
 obtain⟨k,op,tbl,nm,vk,vn,vs,ys,aa,nn,cc,he,rfl,ha⟩:=hx
 obtain⟨W,hW,hbW,hzW,hcW⟩:=aL w (.cells #[.int .i64 k,.int .i64 op,.string (aj tbl),.string (aj nm),.int .i64 vk,.int .i64 vn,.string (aj vs),.slice aa nn cc] 48)
 have k0:=aN hcW
 have HLV:=hid (hlvl.out W hbW)
 have HH:=hid h
 have HBX:=hid (dn.mk' h hcW (Nat.le_refl _))
 have HB:=hid hbW
 have hge : ¬((l:Int)≤(t.lv:Int)):=by omega
 clear hcW hbW ha he h hlvl hok
 generalize hlv:(t.lv:Int)=lv at HLV hge
 clear hlv
 generalize hll:(l:Int)=li at hge ⊢
 clear hll
 go_enter Tryz.func161,Tryz.ntmps161
 go_wp2_with fail
 refine HLV.out.mono ?_
 rintro e w1 ⟨rfl,hb1⟩
 have hbx1:=HBX.out.below hb1
 have k1:=aN hbx1.at'
 have hB1:=HB.out.trans (hb1.mono HB.out.size)
 have hw1:=HH.out.below hB1
 have HT:Hid (Calls Tryz.prog 98 #[.pointer (some ⟨g,0,none⟩),.slice (some ⟨w1.heap.size,0,none⟩) 1 1] (w1.alloc (.cells #[.string ⟨#[40]⟩] 9)) fun e w'=>e = .returned (.tuple #[])∧Wrote g tb w1 w' (L++au [[40]]) d m):=hid (aG g tb L d m [[40]] w1 hw1 (by decide) (by decide) (by simp;omega))
 have HX1:=hid (HXV.out.new hB1)
 have HW1:=hid hw1
 have HBX1:=hid hbx1
 have HB1:=hid hB1
 clear hb1 hB1 HLV hw1 hbx1
 go_wp2_with fail
 refine HT.out.mono ?_
 rintro e w2 ⟨rfl,tb2,hw2,ht2,hf2⟩
 have hbx2:=HBX1.out.on ht2 hf2
 have k2:=aN hbx2.at'
 have HD2:=hid (hD g tb2 (L++au [[40]]) d m w2 _ hw2 (HX1.out.qV HW1.out hf2) (by simp[au];omega) h0 hdm hd hm)
 have HT2:=hid ht2
 have HF2:=hid hf2
 clear hw2 ht2 hf2 hbx2 HT
 go_wp2_with fail
 refine HD2.out.mono ?_
 rintro e w3 ⟨rfl,tb3,hw3,ht3,hf3⟩
 have HE:Hid (Calls Tryz.prog 98 #[.pointer (some ⟨g,0,none⟩),.slice (some ⟨w3.heap.size,0,none⟩) 1 1] (w3.alloc (.cells #[.string ⟨#[41]⟩] 9)) fun e w'=>e = .returned (.tuple #[])∧Wrote g tb3 w3 w' (L++au [[40]]++t.tk++au [[41]]) d (max m (d+((t.dp+1:Nat):Int)))):=hid (aG g tb3 _ d _ [[41]] w3 hw3 (by decide) (by decide) (by simp[au];omega))
 have HT3:=hid ht3
 have HF3:=hid hf3
 clear hw3 ht3 hf3 HD2
 go_wp2_with fail
 refine HE.out.mono ?_
 rintro e w4 ⟨rfl,h4⟩
 have HQ:Hid (Wrote g tb w w4 (L++aK [40]::(t.tk++[aK [41]])) d (max m (d+((t.dp+1:Nat):Int)))):=hid (by
  have:=Wrote.new HB1.out (Wrote.then HT2.out HF2.out (Wrote.then HT3.out HF3.out h4))
  simpa [au] using this)
 clear h4 HE
 go_wp2
 exact bodyPost_end (v:=.tuple #[]) (by simp[results,Tryz.results161,go_sem]) rfl ⟨rfl,HQ.out⟩
theorem mJ (l:Nat) (t:Tm) (hok:t.ok) (hX:Ez t):Jk l t (jw l t.lv t.tk) (jI l t.lv t.dp):=by
 by_cases hl:l≤t.lv
 ·rw[ES hl,EK hl]
  exact qP l t hok hl hX
 ·rw[FE hl,EO hl]
  exact tL l t hok hl (su 0 t _ _ (qP 0 t hok (Nat.zero_le _) hX))
theorem nJ (l:Nat) (t:Tm) (hok:t.ok) (hX:Ez t):Je l t (jw l t.lv t.tk) (jI l t.lv t.dp+1):=su l t _ _ (mJ l t hok hX)
theorem Di (g:Nat) (tb:Option Nat) (L:List Tk) (d m:Int) (w:World) (h:bJ w g tb L d m) (tn nm:List UInt8) (k op vk vn:Int) (vs:List UInt8) (aa:Option Addr) (nn cc:Nat) (hL:L.length+(Tm.col tn nm).tk.length≤1000000000) :
  Calls Tryz.prog 132 #[.pointer (some ⟨g,0,none⟩),.agg #[.int .i64 k,.int .i64 op,.string (aj tn),.string (aj nm),.int .i64 vk,.int .i64 vn,.string (aj vs),.slice aa nn cc]] w fun e w'=>e = .returned (.tuple #[])∧Wrote g tb w w' (L++(Tm.col tn nm).tk) d m:=by
 obtain⟨W,hW,hbW,hzW,hcW⟩:=aL w (.cells #[.int .i64 k,.int .i64 op,.string (aj tn),.string (aj nm),.int .i64 vk,.int .i64 vn,.string (aj vs),.slice aa nn cc] 48)
 have k0:=aN hcW
 have hBX:=dn.mk' h hcW (Nat.le_refl _)
 have HBD:=hid hbW.drew
 show Calls Tryz.prog 132 _ _ fun e w'=>_∧Wrote g tb w w' (L++(if tn=[] then [aW nm] else [aW tn,aK [46],aW nm])) d m
 have hL:L.length+(if tn=[] then [aW nm] else [aW tn,aK [46],aW nm]).length≤1000000000:=hL
 by_cases ht:tn=[]
 ·rw[if_pos ht] at hL ⊢
  have hL:L.length+1≤1000000000:=hL
  have hte:((aj tn).toList.isEmpty)=true:=by rw[ht,bg];rfl
  have HN:=hid (bX g tb L d m W.drew (h.below hbW.drew) nm (by omega))
  clear hbW hcW h ht hBX
  generalize aj tn=tns at hte k0 hW ⊢
  go_enter Tryz.func132,Tryz.ntmps132
  go_wp2_with fail
  go_region_with (first
   | (
     go_at_call 100;refine HN.out.mono ?_
     rintro e w1 ⟨rfl,h1⟩)
   | fail)
  all_goals go_wp2
  all_goals exact bodyPost_end (v:=.tuple #[]) (by simp[results,Tryz.results132,go_sem]) rfl ⟨rfl,h1.new HBD.out⟩
 ·rw[if_neg ht] at hL ⊢
  have hL:L.length+3≤1000000000:=hL
  have hte:((aj tn).toList.isEmpty)=false:=by
   cases tn with
   | nil=>exact absurd rfl ht
   | cons x l=>rw[bg];rfl
  have HN:=hid (bX g tb L d m W.drew (h.below hbW.drew) tn (by omega))
  have HBX:=hid (hBX.below (Below.refl _ W).drew)
  clear hbW hcW h ht hBX
  generalize aj tn=tns at hte k0 hW HN HBX ⊢
  go_enter Tryz.func132,Tryz.ntmps132
  go_wp2_with fail
  go_region_with (first
   | (
     go_at_call 100;refine HN.out.mono ?_
     rintro e w1 ⟨rfl,tb1,hw1,ht1,hf1⟩)
   | fail)
  all_goals
   have HT:Hid (Calls Tryz.prog 98 #[.pointer (some ⟨g,0,none⟩),.slice (some ⟨w1.heap.size,0,none⟩) 1 1] (w1.alloc (.cells #[.string ⟨#[46]⟩] 9)) fun e w'=>e = .returned (.tuple #[])∧Wrote g tb1 w1 w' (L++[aW tn]++au [[46]]) d m):=hid (aG g tb1 _ d m [[46]] w1 hw1 (by decide) (by decide) (by simp;omega))
   have HBX1:=hid (HBX.out.on ht1 hf1)
   have HT1:=hid ht1
   have HF1:=hid hf1
   clear hw1 ht1 hf1 HN HBX
   go_wp2_with fail
   refine HT.out.mono ?_
   rintro e w2 ⟨rfl,tb2,hw2,ht2,hf2⟩
   have hbx2:=HBX1.out.on ht2 hf2
   have k2:=aN hbx2.at'
   have HN2:=hid (bX g tb2 _ d m w2.drew (hw2.below (Below.refl _ w2).drew) nm (by simp[au];omega))
   have HT2:=hid ht2
   have HF2:=hid hf2
   clear hw2 ht2 hf2 hbx2 HT
   go_wp2_with fail
   go_region_with (first
    | (
      go_at_call 100;refine HN2.out.mono ?_
      rintro e w3 ⟨rfl,h3⟩)
    | fail)
   all_goals go_wp2
   all_goals exact bodyPost_end (v:=.tuple #[]) (by simp[results,Tryz.results132,go_sem]) rfl ⟨rfl,by
    have:=Wrote.new HBD.out (Wrote.then HT1.out HF1.out (Wrote.then HT2.out HF2.out (h3.new (Below.refl _ w2).drew)))
    simpa [au] using this⟩
theorem D5 (a:Tm) (hok:a.ok) (hX:Ez a) (k op vk vn:Int) (tn nm vs:List UInt8) (aa:Option Addr) (nn cc:Nat) (ws:List (List UInt8)) (hws : ∀t∈ws,t≠[]) (hwl:ws.length≤10) (wv:Value)
  (g:Nat) (tb:Option Nat) (L:List Tk) (d m:Int) (w:World) (h:bJ w g tb L d m) (ha:bF (fun b=>b<g) w [a.ex] (.slice aa nn cc)) (hwv:rT g tb w wv ws) (hL:L.length+((jw 4 a.lv a.tk).length+ws.length)≤1000000000) (h0:0≤d) (hdm:d≤m) (hd:d+(jI 4 a.lv a.dp:Nat)≤1000000000) (hm:m≤1000000000) :
  Calls Tryz.prog 136 #[.pointer (some ⟨g,0,none⟩),.agg #[.int .i64 k,.int .i64 op,.string (aj tn),.string (aj nm),.int .i64 vk,.int .i64 vn,.string (aj vs),.slice aa nn cc],wv] w fun e w'=>e = .returned (.tuple #[])∧Wrote g tb w w' (L++(jw 4 a.lv a.tk++au ws)) d (max m (d+(jI 4 a.lv a.dp:Nat))):=by
 obtain⟨W,hW,hbW,hzW,hcW⟩:=aL w (.cells #[.int .i64 k,.int .i64 op,.string (aj tn),.string (aj nm),.int .i64 vk,.int .i64 vn,.string (aj vs),.slice aa nn cc] 48)
 have k0:=aN hcW
 have HB:=hid hbW
 have hla:=fG 4 a.lv a.tk
 have hda:=gY 4 a.lv a.dp
 obtain⟨h1,h2,h3,b,off,k1,op1,tb1,nm1,vk1,vn1,vs1,ys1,a1,n1,c1,hxe,rfl,_,h7,h8⟩:=dI (ha.new hbW)
 rw[List.length_nil,Nat.zero_add] at h1
 subst h1
 unfold maxLen at h3
 have HF:=hid (mJ 4 a hok hX g tb L d m W _ (h.below hbW) (fB.mk' hxe h8) (by omega) h0 hdm (by omega) hm)
 have HWV:=hid (hwv.on (fun k hk=>.inl hk) (aA.aC hbW))
 unfold Cells8 at h7
 clear hbW hcW h h8 ha hwv hxe
 generalize jw 4 a.lv a.tk=T at HF hla hL ⊢
 generalize jI 4 a.lv a.dp=D at HF hda hd ⊢
 obtain⟨wa,wc,rfl,_⟩:=id HWV.out
 go_enter Tryz.func136,Tryz.ntmps136
 go_wp2_with fail
 refine HF.out.mono ?_
 rintro e w1 ⟨rfl,tb2,hw1,ht1,hf1⟩
 have HX:=hid (nk g tb2 _ d _ w1 hw1 _ ws (HWV.out.on ht1 hf1) hws (by simp;omega))
 have HT1:=hid ht1
 have HF1:=hid hf1
 clear hw1 ht1 hf1 HF
 go_wp2_with fail
 refine HX.out.mono ?_
 rintro e w2 ⟨rfl,h2⟩
 have HQ:Hid (Wrote g tb w w2 (L++(T++au ws)) d (max m (d+(D:Int)))):=hid (by
  have:=Wrote.new HB.out (Wrote.then HT1.out HF1.out h2)
  rwa [List.append_assoc] at this)
 clear h2
 go_wp2
 exact bodyPost_end (v:=.tuple #[]) (by simp[results,Tryz.results136,go_sem]) rfl ⟨rfl,HQ.out⟩
end Go.Proofs.YtfeglkleoijlaaaGreatDoor
