import Derived.Test.YtfeglkleoijlaaaGreatDoorY07
import Derived.Test.YtfeglkleoijlaaaGreatDoorY06
import Derived.Test.YtfeglkleoijlaaaGreatDoorY05
namespace Go.Proofs.YtfeglkleoijlaaaGreatDoor
open Go.RowKit Go.Shelf
set_option linter.unusedSimpArgs false
set_option linter.unusedVariables false
set_option maxRecDepth 20000
set_option maxHeartbeats 8000000
def aO:List Int→Int
 | []=>0
 | c::l=>if c≠0 then c else aO l
theorem qQ : ∀(a b:List Int),aO (a++b)=if aO a≠0 then aO a else aO b
 | [],b=>by simp[aO]
 |
  c::a,b=>by
  rw[List.cons_append,aO,aO,qQ a b]
  by_cases h:c≠0
  ·rw[if_pos h,if_pos h,if_pos h]
  ·rw[if_neg h,if_neg h]
theorem fq {l:List Int}:aO l=0↔∀c∈l,c=0:=by
 induction l with
 | nil=>simp[aO]
 |
  cons c l ih =>
  rw[aO]
  by_cases h:c≠0
  ·rw[if_pos h]
   exact⟨fun e=>absurd e h,fun e=>absurd (e c (by simp)) h⟩
  ·rw[if_neg h,ih]
   simp only[ne_eq,Decidable.not_not] at h
   simp[h]
theorem iN {l:List Int} {k:Nat} {c:Int} (hz : ∀x∈l.take k,x=0) (hk:l[k]?=some c) (hc:c≠0):aO l=c:=by
 have e:l=l.take k++c::l.drop (k+1):=by
  obtain⟨h1,h2⟩:=aam.1 hk
  rw[← h2,← List.drop_eq_getElem_cons h1,List.take_append_drop]
 rw[e,qQ,fq.2 hz,if_neg (by simp),aO,if_pos hc]
theorem zero_snoc {cs:List Int} {k:Nat} {c:Int} (h : ∀x∈cs.take k,x=0) (hk:cs[k]?=some c) (hc:c=0):∀x∈cs.take (k+1),x=0:=fun x hx=>by
 obtain⟨h1,h2⟩:=aam.1 hk
 rw[aaJ h1,List.mem_append] at hx
 rcases hx with hx | hx
 ·exact h x hx
 ·rw[h2] at hx
  simp only[List.mem_singleton] at hx
  rw[hx,hc]
theorem rz (S:Nat→Prop) (fr:Nat) (pre post:Array Value) (eg : ∀args w,(callFunc fr args).run Tryz.prog w = .ok (.enter fr args) w) (I:Nat→World→Prop) (K:World→Prop) (xs:List (Ex)) (cs:List Int) (v:Value) (w:World) (hc:cs.length=xs.length)
  (h0:I 0 w) (HS:Hid (∀i V,I i V→aM 8 jl S V xs v)) (HB:Hid (∀i V U,I i V→Below V.heap.size V U→I i U))
  (HF:Hid (∀i x c,xs[i]?=some x→cs[i]?=some c→∀V,I i V→∀ds,jl S V x ds→Calls Tryz.prog fr (pre++#[.agg ds.toArray]++post) V fun e w'=>e = .returned (.int .i64 c)∧(c=0→I (i+1) w')∧(c≠0→K w'))) :
  Calls Tryz.prog 23 #[v,.func (.func fr) pre post] w fun e w'=>e = .returned (.int .i64 (aO cs))∧(aO cs=0→I xs.length w')∧(aO cs≠0→K w'):=by
 have hv:=HS.out 0 w h0
 obtain⟨aa,cc,css,rfl,h1,h2,_⟩:=hv
 unfold maxLen at h2
 obtain⟨X,hX⟩:∃X,aO cs=X:=⟨_,rfl⟩
 rw[hX]
 have HX:=hid hX
 have H0:=hid h0
 clear hX h0
 go_enter Tryz.func23,Tryz.ntmps23
 go_wp2_with fail
 go_loopw [6,7,10] (fun _ _ i wr=>∃(k:Nat),k≤xs.length∧i = .int .i64 k∧Hid (I k wr)∧Hid (∀x∈cs.take k,x=0)) (fun _ _ i _=>xs.length-(intOf i).toNat)
 case atStart=>exact⟨0,aaV _,rfl,H0,hid (by simp)⟩
 case round =>
  obtain⟨k,hk,rfl,HI,HZ⟩:=hrel
  by_cases hlt:k<xs.length
  ·obtain⟨x,hx⟩:∃x,xs[k]?=some x:=⟨_,aaf hlt⟩
   obtain⟨c,hcx⟩:∃c,cs[k]?=some c:=⟨_,aaf (by omega)⟩
   have hlt':((k:Int)<(xs.length:Int)):=by omega
   obtain⟨_,_,_,b,off,ds,rfl,_,hel,hcell⟩:=bC (HS.out k wr HI.out) hx
   have eO:=hel
   obtain⟨k1,op1,dN,fU,fJ,fI,vs1,ys1,eD,dF,eB,_,rfl,_⟩:=hel
   have q0:=hcell 0 _ rfl
   have q1:=hcell 1 _ rfl
   have q2:=hcell 2 _ rfl
   have q3:=hcell 3 _ rfl
   have q4:=hcell 4 _ rfl
   have q5:=hcell 5 _ rfl
   have q6:=hcell 6 _ rfl
   have q7:=hcell 7 _ rfl
   simp only[aa2] at q0
   obtain⟨U,hU,bB,jc,eU⟩:=aK wr (.cells #[.int .i64 k1,.int .i64 op1,.string (aj dN),.string (aj fU),.int .i64 fJ,.int .i64 fI,.string (aj vs1),.slice eD dF eB] 48)
   have kU:=fun i=>aB U wr.heap.size _ _ _ i eU
   have JZ:U.cell? ⟨wr.heap.size,0,none⟩=some (.int .i64 k1)∧U.cell? ⟨wr.heap.size,1,none⟩=some (.int .i64 op1)∧U.cell? ⟨wr.heap.size,2,none⟩=some (.string (aj dN))∧U.cell? ⟨wr.heap.size,3,none⟩=some (.string (aj fU))∧U.cell? ⟨wr.heap.size,4,none⟩=some (.int .i64 fJ)∧U.cell? ⟨wr.heap.size,5,none⟩=some (.int .i64 fI)∧U.cell? ⟨wr.heap.size,6,none⟩=some (.string (aj vs1))∧U.cell? ⟨wr.heap.size,7,none⟩=some (.slice eD dF eB):=⟨(kU 0).trans rfl,(kU 1).trans rfl,(kU 2).trans rfl,(kU 3).trans rfl,(kU 4).trans rfl,(kU 5).trans rfl,(kU 6).trans rfl,(kU 7).trans rfl⟩
   clear kU
   have HC:=hid (HF.out k x c hx hcx U (HB.out k wr U HI.out bB) _ (eO.to (R:=fun _=>False) (ak.aA bB) (fun b hb _=>⟨id,hb⟩)))
   clear bB eU
   have rO:=hid hcx
   clear hcell hx eO hcx HI
   by_cases hz:c=0
   ·subst hz
    have HZ2:=hid (zero_snoc HZ.out rO.out rfl)
    clear HZ rO
    go_wp2_with (first | (refine eX hU ?_;clear hU) | fail)
    refine HC.out.mono ?_
    rintro e w2 ⟨rfl,hi2,_⟩
    have HI2:Hid (I (k+1) w2):=hid (by simpa using hi2)
    clear hi2 HC
    go_wp2
    go_roundw
    case rel=>exact⟨k+1,by omega,by go_num,HI2,HZ2⟩
    case measure=>simp[intOf];omega
   ·have bE:Hid (X=c):=hid (by rw[← HX.out];exact iN HZ.out rO.out hz)
    have hcz:(c != 0)=true:=by simpa using hz
    have Md:=hid hz
    clear HZ rO hz
    go_wp2_with (first | (refine eX hU ?_;clear hU) | fail)
    refine HC.out.mono ?_
    rintro e w2 ⟨rfl,_,hk2⟩
    have mE:=hid (hk2 Md.out)
    clear hk2 HC
    go_wp2
    go_ret
    exact⟨by rw[bE.out];rfl,fun h=>absurd (bE.out.symm.trans h) Md.out,fun _=>mE.out⟩
  ·have hlt' : ¬((k:Int)<(xs.length:Int)):=by omega
   have hke:k=xs.length:=by omega
   have dz:Hid (X=0):=hid (by rw[← HX.out,fq];have:=HZ.out;rwa [aaU (by omega)] at this)
   have HI2:Hid (I xs.length wr):=hid (hke ▸ HI.out)
   clear HI HZ hke
   go_wp2
   go_ret
   exact⟨by rw[dz.out];rfl,fun _=>HI2.out,fun h=>absurd dz.out h⟩
theorem GA (S:Nat→Prop) (fr:Nat) (pre post:Array Value) (eg : ∀args w,(callFunc fr args).run Tryz.prog w = .ok (.enter fr args) w) (I:Nat→World→Prop) (K:World→Prop) (xs:List (Se)) (cs:List Int) (v:Value) (w:World) (hc:cs.length=xs.length)
  (h0:I 0 w) (HS:Hid (∀i V,I i V→aM 9 BM S V xs v)) (HB:Hid (∀i V U,I i V→Below V.heap.size V U→I i U))
  (HF:Hid (∀i x c,xs[i]?=some x→cs[i]?=some c→∀V,I i V→∀ds,BM S V x ds→Calls Tryz.prog fr (pre++#[.agg ds.toArray]++post) V fun e w'=>e = .returned (.int .i64 c)∧(c=0→I (i+1) w')∧(c≠0→K w'))) :
  Calls Tryz.prog 54 #[v,.func (.func fr) pre post] w fun e w'=>e = .returned (.int .i64 (aO cs))∧(aO cs=0→I xs.length w')∧(aO cs≠0→K w'):=by
 have hv:=HS.out 0 w h0
 obtain⟨aa,cc,css,rfl,h1,h2,_⟩:=hv
 unfold maxLen at h2
 obtain⟨X,hX⟩:∃X,aO cs=X:=⟨_,rfl⟩
 rw[hX]
 have HX:=hid hX
 have H0:=hid h0
 clear hX h0
 go_enter Tryz.func54,Tryz.ntmps54
 go_wp2_with fail
 go_loopw [6,7,10] (fun _ _ i wr=>∃(k:Nat),k≤xs.length∧i = .int .i64 k∧Hid (I k wr)∧Hid (∀x∈cs.take k,x=0)) (fun _ _ i _=>xs.length-(intOf i).toNat)
 case atStart=>exact⟨0,aaV _,rfl,H0,hid (by simp)⟩
 case round =>
  obtain⟨k,hk,rfl,HI,HZ⟩:=hrel
  by_cases hlt:k<xs.length
  ·obtain⟨x,hx⟩:∃x,xs[k]?=some x:=⟨_,aaf hlt⟩
   obtain⟨c,hcx⟩:∃c,cs[k]?=some c:=⟨_,aaf (by omega)⟩
   have hlt':((k:Int)<(xs.length:Int)):=by omega
   obtain⟨_,_,_,b,off,ds,rfl,_,hel,hcell⟩:=bC (HS.out k wr HI.out) hx
   have eO:=hel
   obtain⟨k1,op1,dN,fU,fJ,fI,vs1,ys1,eD,dF,eB,_,rfl,_⟩:=hel
   have q0:=hcell 0 _ rfl
   have q1:=hcell 1 _ rfl
   have q2:=hcell 2 _ rfl
   have q3:=hcell 3 _ rfl
   have q4:=hcell 4 _ rfl
   have q5:=hcell 5 _ rfl
   have q6:=hcell 6 _ rfl
   have q7:=hcell 7 _ rfl
   have q8:=hcell 8 _ rfl
   simp only[aa2] at q0
   obtain⟨U,hU,bB,jc,eU⟩:=aK wr (.cells #[.string (aj x.nm),.int .i64 k1,.int .i64 op1,.string (aj dN),.string (aj fU),.int .i64 fJ,.int .i64 fI,.string (aj vs1),.slice eD dF eB] 53)
   have kU:=fun i=>aB U wr.heap.size _ _ _ i eU
   have JZ:U.cell? ⟨wr.heap.size,0,none⟩=some (.string (aj x.nm))∧U.cell? ⟨wr.heap.size,1,none⟩=some (.int .i64 k1)∧U.cell? ⟨wr.heap.size,2,none⟩=some (.int .i64 op1)∧U.cell? ⟨wr.heap.size,3,none⟩=some (.string (aj dN))∧U.cell? ⟨wr.heap.size,4,none⟩=some (.string (aj fU))∧U.cell? ⟨wr.heap.size,5,none⟩=some (.int .i64 fJ)∧U.cell? ⟨wr.heap.size,6,none⟩=some (.int .i64 fI)∧U.cell? ⟨wr.heap.size,7,none⟩=some (.string (aj vs1))∧U.cell? ⟨wr.heap.size,8,none⟩=some (.slice eD dF eB):=⟨(kU 0).trans rfl,(kU 1).trans rfl,(kU 2).trans rfl,(kU 3).trans rfl,(kU 4).trans rfl,(kU 5).trans rfl,(kU 6).trans rfl,(kU 7).trans rfl,(kU 8).trans rfl⟩
   clear kU
   have HC:=hid (HF.out k x c hx hcx U (HB.out k wr U HI.out bB) _ (eO.to (R:=fun _=>False) (ak.aA bB) (fun b hb _=>⟨id,hb⟩)))
   clear bB eU
   have rO:=hid hcx
   clear hcell hx eO hcx HI
   by_cases hz:c=0
   ·subst hz
    have HZ2:=hid (zero_snoc HZ.out rO.out rfl)
    clear HZ rO
    go_wp2_with (first | (refine eX hU ?_;clear hU) | fail)
    refine HC.out.mono ?_
    rintro e w2 ⟨rfl,hi2,_⟩
    have HI2:Hid (I (k+1) w2):=hid (by simpa using hi2)
    clear hi2 HC
    go_wp2
    go_roundw
    case rel=>exact⟨k+1,by omega,by go_num,HI2,HZ2⟩
    case measure=>simp[intOf];omega
   ·have bE:Hid (X=c):=hid (by rw[← HX.out];exact iN HZ.out rO.out hz)
    have hcz:(c != 0)=true:=by simpa using hz
    have Md:=hid hz
    clear HZ rO hz
    go_wp2_with (first | (refine eX hU ?_;clear hU) | fail)
    refine HC.out.mono ?_
    rintro e w2 ⟨rfl,_,hk2⟩
    have mE:=hid (hk2 Md.out)
    clear hk2 HC
    go_wp2
    go_ret
    exact⟨by rw[bE.out];rfl,fun h=>absurd (bE.out.symm.trans h) Md.out,fun _=>mE.out⟩
  ·have hlt' : ¬((k:Int)<(xs.length:Int)):=by omega
   have hke:k=xs.length:=by omega
   have dz:Hid (X=0):=hid (by rw[← HX.out,fq];have:=HZ.out;rwa [aaU (by omega)] at this)
   have HI2:Hid (I xs.length wr):=hid (hke ▸ HI.out)
   clear HI HZ hke
   go_wp2
   go_ret
   exact⟨by rw[dz.out];rfl,fun _=>HI2.out,fun h=>absurd dz.out h⟩
theorem Gd (S:Nat→Prop) (fr:Nat) (pre post:Array Value) (eg : ∀args w,(callFunc fr args).run Tryz.prog w = .ok (.enter fr args) w) (I:Nat→World→Prop) (K:World→Prop) (xs:List (It)) (cs:List Int) (v:Value) (w:World) (hc:cs.length=xs.length)
  (h0:I 0 w) (HS:Hid (∀i V,I i V→aM 2 vY S V xs v)) (HB:Hid (∀i V U,I i V→Below V.heap.size V U→I i U))
  (HF:Hid (∀i x c,xs[i]?=some x→cs[i]?=some c→∀V,I i V→∀ds,vY S V x ds→Calls Tryz.prog fr (pre++#[.agg ds.toArray]++post) V fun e w'=>e = .returned (.int .i64 c)∧(c=0→I (i+1) w')∧(c≠0→K w'))) :
  Calls Tryz.prog 63 #[v,.func (.func fr) pre post] w fun e w'=>e = .returned (.int .i64 (aO cs))∧(aO cs=0→I xs.length w')∧(aO cs≠0→K w'):=by
 have hv:=HS.out 0 w h0
 obtain⟨aa,cc,css,rfl,h1,h2,_⟩:=hv
 unfold maxLen at h2
 obtain⟨X,hX⟩:∃X,aO cs=X:=⟨_,rfl⟩
 rw[hX]
 have HX:=hid hX
 have H0:=hid h0
 clear hX h0
 go_enter Tryz.func63,Tryz.ntmps63
 go_wp2_with fail
 go_loopw [6,7,10] (fun _ _ i wr=>∃(k:Nat),k≤xs.length∧i = .int .i64 k∧Hid (I k wr)∧Hid (∀x∈cs.take k,x=0)) (fun _ _ i _=>xs.length-(intOf i).toNat)
 case atStart=>exact⟨0,aaV _,rfl,H0,hid (by simp)⟩
 case round =>
  obtain⟨k,hk,rfl,HI,HZ⟩:=hrel
  by_cases hlt:k<xs.length
  ·obtain⟨x,hx⟩:∃x,xs[k]?=some x:=⟨_,aaf hlt⟩
   obtain⟨c,hcx⟩:∃c,cs[k]?=some c:=⟨_,aaf (by omega)⟩
   have hlt':((k:Int)<(xs.length:Int)):=by omega
   obtain⟨_,_,_,b,off,ds,rfl,_,hel,hcell⟩:=bC (HS.out k wr HI.out) hx
   have eO:=hel
   obtain⟨eD,dF,eB,rfl,_⟩:=hel
   have q0:=hcell 0 _ rfl
   have q1:=hcell 1 _ rfl
   simp only[aa2] at q0
   obtain⟨U,hU,bB,jc,eU⟩:=aK wr (.cells #[.int .i64 x.k,.slice eD dF eB] 55)
   have kU:=fun i=>aB U wr.heap.size _ _ _ i eU
   have JZ:U.cell? ⟨wr.heap.size,0,none⟩=some (.int .i64 x.k)∧U.cell? ⟨wr.heap.size,1,none⟩=some (.slice eD dF eB):=⟨(kU 0).trans rfl,(kU 1).trans rfl⟩
   clear kU
   have HC:=hid (HF.out k x c hx hcx U (HB.out k wr U HI.out bB) _ (eO.to (R:=fun _=>False) (ak.aA bB) (fun b hb _=>⟨id,hb⟩)))
   clear bB eU
   have rO:=hid hcx
   clear hcell hx eO hcx HI
   by_cases hz:c=0
   ·subst hz
    have HZ2:=hid (zero_snoc HZ.out rO.out rfl)
    clear HZ rO
    go_wp2_with (first | (refine eX hU ?_;clear hU) | fail)
    refine HC.out.mono ?_
    rintro e w2 ⟨rfl,hi2,_⟩
    have HI2:Hid (I (k+1) w2):=hid (by simpa using hi2)
    clear hi2 HC
    go_wp2
    go_roundw
    case rel=>exact⟨k+1,by omega,by go_num,HI2,HZ2⟩
    case measure=>simp[intOf];omega
   ·have bE:Hid (X=c):=hid (by rw[← HX.out];exact iN HZ.out rO.out hz)
    have hcz:(c != 0)=true:=by simpa using hz
    have Md:=hid hz
    clear HZ rO hz
    go_wp2_with (first | (refine eX hU ?_;clear hU) | fail)
    refine HC.out.mono ?_
    rintro e w2 ⟨rfl,_,hk2⟩
    have mE:=hid (hk2 Md.out)
    clear hk2 HC
    go_wp2
    go_ret
    exact⟨by rw[bE.out];rfl,fun h=>absurd (bE.out.symm.trans h) Md.out,fun _=>mE.out⟩
  ·have hlt' : ¬((k:Int)<(xs.length:Int)):=by omega
   have hke:k=xs.length:=by omega
   have dz:Hid (X=0):=hid (by rw[← HX.out,fq];have:=HZ.out;rwa [aaU (by omega)] at this)
   have HI2:Hid (I xs.length wr):=hid (hke ▸ HI.out)
   clear HI HZ hke
   go_wp2
   go_ret
   exact⟨by rw[dz.out];rfl,fun _=>HI2.out,fun h=>absurd dz.out h⟩
theorem Gf (S:Nat→Prop) (fr:Nat) (pre post:Array Value) (eg : ∀args w,(callFunc fr args).run Tryz.prog w = .ok (.enter fr args) w) (I:Nat→World→Prop) (K:World→Prop) (xs:List (List Vl)) (cs:List Int) (v:Value) (w:World) (hc:cs.length=xs.length)
  (h0:I 0 w) (HS:Hid (∀i V,I i V→aM 1 Cw S V xs v)) (HB:Hid (∀i V U,I i V→Below V.heap.size V U→I i U))
  (HF:Hid (∀i x c,xs[i]?=some x→cs[i]?=some c→∀V,I i V→∀ds,Cw S V x ds→Calls Tryz.prog fr (pre++#[(ds.headD undef)]++post) V fun e w'=>e = .returned (.int .i64 c)∧(c=0→I (i+1) w')∧(c≠0→K w'))) :
  Calls Tryz.prog 52 #[v,.func (.func fr) pre post] w fun e w'=>e = .returned (.int .i64 (aO cs))∧(aO cs=0→I xs.length w')∧(aO cs≠0→K w'):=by
 have hv:=HS.out 0 w h0
 obtain⟨aa,cc,css,rfl,h1,h2,_⟩:=hv
 unfold maxLen at h2
 obtain⟨X,hX⟩:∃X,aO cs=X:=⟨_,rfl⟩
 rw[hX]
 have HX:=hid hX
 have H0:=hid h0
 clear hX h0
 go_enter Tryz.func52,Tryz.ntmps52
 go_wp2_with fail
 go_loopw [6,7,10] (fun _ _ i wr=>∃(k:Nat),k≤xs.length∧i = .int .i64 k∧Hid (I k wr)∧Hid (∀x∈cs.take k,x=0)) (fun _ _ i _=>xs.length-(intOf i).toNat)
 case atStart=>exact⟨0,aaV _,rfl,H0,hid (by simp)⟩
 case round =>
  obtain⟨k,hk,rfl,HI,HZ⟩:=hrel
  by_cases hlt:k<xs.length
  ·obtain⟨x,hx⟩:∃x,xs[k]?=some x:=⟨_,aaf hlt⟩
   obtain⟨c,hcx⟩:∃c,cs[k]?=some c:=⟨_,aaf (by omega)⟩
   have hlt':((k:Int)<(xs.length:Int)):=by omega
   obtain⟨_,_,_,b,off,ds,rfl,_,hel,hcell⟩:=bC (HS.out k wr HI.out) hx
   have eO:=hel
   obtain⟨eD,dF,eB,rfl,_⟩:=hel
   have q0:=hcell 0 _ rfl
   simp only[aa2,Nat.mul_one] at q0
   have hq:=HF.out k x c hx hcx wr HI.out _ eO
   rw[List.headD_cons] at hq
   have HC:=hid hq
   clear hq
   have rO:=hid hcx
   clear hcell hx eO hcx HI
   by_cases hz:c=0
   ·subst hz
    have HZ2:=hid (zero_snoc HZ.out rO.out rfl)
    clear HZ rO
    go_wp2_with fail
    refine HC.out.mono ?_
    rintro e w2 ⟨rfl,hi2,_⟩
    have HI2:Hid (I (k+1) w2):=hid (by simpa using hi2)
    clear hi2 HC
    go_wp2
    go_roundw
    case rel=>exact⟨k+1,by omega,by go_num,HI2,HZ2⟩
    case measure=>simp[intOf];omega
   ·have bE:Hid (X=c):=hid (by rw[← HX.out];exact iN HZ.out rO.out hz)
    have hcz:(c != 0)=true:=by simpa using hz
    have Md:=hid hz
    clear HZ rO hz
    go_wp2_with fail
    refine HC.out.mono ?_
    rintro e w2 ⟨rfl,_,hk2⟩
    have mE:=hid (hk2 Md.out)
    clear hk2 HC
    go_wp2
    go_ret
    exact⟨by rw[bE.out];rfl,fun h=>absurd (bE.out.symm.trans h) Md.out,fun _=>mE.out⟩
  ·have hlt' : ¬((k:Int)<(xs.length:Int)):=by omega
   have hke:k=xs.length:=by omega
   have dz:Hid (X=0):=hid (by rw[← HX.out,fq];have:=HZ.out;rwa [aaU (by omega)] at this)
   have HI2:Hid (I xs.length wr):=hid (hke ▸ HI.out)
   clear HI HZ hke
   go_wp2
   go_ret
   exact⟨by rw[dz.out];rfl,fun _=>HI2.out,fun h=>absurd dz.out h⟩
def Yl (f:Nat) (args:Value→Nat→Array Value) (t:Tm) (T:List Tk) (D:Nat):Prop :=
 ∀
  (g:Nat) (tb:Option Nat) (L:List Tk) (d m:Int) (w:World) (v:Value),bO w g tb L d m→gH (fun b=>b<g) w t.ex v→L.length+T.length≤1000000000→0≤d→d≤m→d+D≤1000000000→m≤1000000000 →
  Calls Tryz.prog f (args v g) w fun e w'=>e = .returned (.tuple #[])∧Wrote g tb w w' (L++T) d (max m (d+D))
theorem bO.VW {w:World} {g:Nat} {tb:Option Nat} {L:List Tk} {d m:Int} (h:bO w g tb L d m) (d':Int):∃V,w.setCell ⟨g,1,none⟩ (.int .i64 d')=V∧bO V g tb L d' m∧eP g tb w V:=by
 obtain⟨v,hv,ho,hb⟩:=h.lie
 have hf:eP g tb w (w.setCell ⟨g,1,none⟩ (.int .i64 d')):=ak.setCell (ak.refl _ _) (.inl (.inl rfl)) _
 refine ⟨_,rfl,⟨⟨v,?_,ownsRow_setCell_below ho (Nat.lt_succ_self g) _,hb⟩,h.tab.below (h.Bc hf) h.big,h.big⟩,hf⟩
 rw[setCell_eq_setRow w g 1 _ _ _ _ hv,setRow_heap w g _ _ _ _ hv]
 rfl
theorem bO.aac {w:World} {g:Nat} {tb:Option Nat} {L:List Tk} {d m:Int} (h:bO w g tb L d m) (m':Int):∃V,w.setCell ⟨g,2,none⟩ (.int .i64 m')=V∧bO V g tb L d m'∧eP g tb w V:=by
 obtain⟨v,hv,ho,hb⟩:=h.lie
 have hf:eP g tb w (w.setCell ⟨g,2,none⟩ (.int .i64 m')):=ak.setCell (ak.refl _ _) (.inl (.inl rfl)) _
 refine ⟨_,rfl,⟨⟨v,?_,ownsRow_setCell_below ho (Nat.lt_succ_self g) _,hb⟩,h.tab.below (h.Bc hf) h.big,h.big⟩,hf⟩
 rw[setCell_eq_setRow w g 2 _ _ _ _ hv,setRow_heap w g _ _ _ _ hv]
 rfl
theorem bO.cells {w:World} {g:Nat} {tb:Option Nat} {L:List Tk} {d m:Int} (h:bO w g tb L d m):∃va vb vc,w.cell? ⟨g,0,none⟩=some (.slice va vb vc)∧w.cell? ⟨g,1,none⟩=some (.int .i64 d)∧w.cell? ⟨g,2,none⟩=some (.int .i64 m)∧∀i,w.frozen? ⟨g,i,none⟩=false:=by
 obtain⟨v,hv,ho,_⟩:=h.lie
 obtain⟨va,vb,vc,rfl⟩:∃va vb vc,v = .slice va vb vc:=by
  rcases ho.2 with⟨rfl,_⟩ | ⟨_,_,_,rfl,_⟩
  ·exact⟨_,_,_,rfl⟩
  ·exact⟨_,_,_,rfl⟩
 exact⟨va,vb,vc,iZ hv⟩
theorem gH.mk' {S:Nat→Prop} {w:World} {x:Ex} {k op:Int} {tb nm:List UInt8} {vk vn:Int} {vs:List UInt8} {ys:List Ex} {aa:Option Addr} {nn cc:Nat} (he:x = .mk k op tb nm ⟨vk,vn,vs⟩ ys) (ha:bA S w ys (.slice aa nn cc)):gH S w x (.agg #[.int .i64 k,.int .i64 op,.string (aj tb),.string (aj nm),.int .i64 vk,.int .i64 vn,.string (aj vs),.slice aa nn cc]) :=
 ⟨k,op,tb,nm,vk,vn,vs,ys,aa,nn,cc,he,rfl,ha⟩
theorem Ag (l:Int) (t:Tm) (T:List Tk) (D:Nat) (hf:Yl 161 (fun v g=>#[.pointer (some ⟨g,0,none⟩),.int .i64 l,v]) t T D) :
  Yl 163 (fun v g=>#[.pointer (some ⟨g,0,none⟩),.int .i64 l,v]) t T (D+1):=fun g tb L d m w v h hx hL h0 jy hd hm=>by
 obtain⟨k,op,XJ,nm,vk,vn,vs,ys,aa,nn,cc,he,rfl,ha⟩:=hx
 obtain⟨W,hW,hbW,aJ,hcW⟩:=aK w (.cells #[.int .i64 k,.int .i64 op,.string (aj XJ),.string (aj nm),.int .i64 vk,.int .i64 vn,.string (aj vs),.slice aa nn cc] 48)
 have hg:=h.lt
 have gI:=h.below hbW
 have iq:=hid (fP.mk' h hcW (aaF _))
 obtain⟨va,vb,vc,kW⟩:=gI.cells
 have hd1:IntKind.i64.wrap (d+1)=d+1:=by rw[IntKind.wrap_i64];omega
 obtain⟨W1,hW1,hw1,hf1⟩:=gI.VW (d+1)
 obtain⟨va1,vb1,vc1,kW1⟩:=hw1.cells
 have YQ:=hw1.below (Below.refl _ W1).drew
 obtain⟨W2,hW2,hw2,hf2⟩:=YQ.aac (max m (d+1))
 have hF2:eP g tb w W2:=((ak.aA (S:=fun k=>k=g∨tb=some k) hbW).then hf1).then ((ak.aA (S:=fun k=>k=g∨tb=some k) (Below.refl _ W1).drew).then hf2)
 have UG:=iq.out.on (fun k hk=>.inl hk) (hf1.then ((ak.aA (S:=fun k=>k=g∨tb=some k) (Below.refl _ W1).drew).then hf2))
 have kB2:=aG UG.at'
 have kH:=hid UG
 have HFR:=hid (hf g tb L (d+1) (max m (d+1)) W2 _ hw2 (gH.mk' he (ha.zC h hF2)) hL (by omega) (by omega) (by omega) (by omega))
 have jW:=hid hF2
 clear hcW hbW h ha he hw1 YQ hw2 hf1 hf2 hF2 UG gI hf
 have hmax:((if m<d+1 then d+1 else m):Int)=max m (d+1):=by omega
 go_enter Tryz.func163,Tryz.ntmps163
 go_wp2_with fail
 go_region
 clear hW hW1 hW2 kW kW1
 go_wp2_with fail
 refine HFR.out.mono ?_
 rintro e w3 ⟨rfl,Ry,hw3,ht3,hf3⟩
 obtain⟨va3,vb3,vc3,k3⟩:=hw3.cells
 have hd2:IntKind.i64.wrap (d+1-1)=d:=by rw[IntKind.wrap_i64];omega
 obtain⟨W4,hW4,hw4,hf4⟩:=hw3.VW d
 have HQ:Hid (Wrote g tb w W4 (L++T) d (max m (d+((D+1:Nat):Int)))):=hid (by
  rw[show max (max m (d+1)) (d+1+(D:Int))=max m (d+((D+1:Nat):Int)) by omega] at hw4
  exact Wrote.then (fun k hk=>.inl hk) jW.out (Wrote.then ht3 hf3 ⟨Ry,hw4,fun k hk=>.inl hk,hf4⟩))
 clear hw3 ht3 hf3 hw4 hf4 HFR
 go_wp2
 exact bodyPost_end (v:=.tuple #[]) (by simp[results,Tryz.results163,go_sem]) rfl ⟨rfl,HQ.out⟩
theorem QM {l lv:Nat} {T:List Tk} (h:l≤lv):oV l lv T=T:=if_pos h
theorem Qb {l lv:Nat} {T:List Tk} (h : ¬l≤lv):oV l lv T=bg [40]::(T++[bg [41]]):=if_neg h
theorem PO {l lv d:Nat} (h:l≤lv):pO l lv d=d:=if_pos h
theorem Qi {l lv d:Nat} (h : ¬l≤lv):pO l lv d=d+1:=if_neg h
abbrev OY (t:Tm):Prop:=Yl 83 (fun v g=>#[.pointer (some ⟨g,0,none⟩),v]) t t.tk t.dp
abbrev WrF (l:Int) (t:Tm) (T:List Tk) (D:Nat):Prop:=Yl 161 (fun v g=>#[.pointer (some ⟨g,0,none⟩),.int .i64 l,v]) t T D
abbrev Zp (l:Int) (t:Tm) (T:List Tk) (D:Nat):Prop:=Yl 163 (fun v g=>#[.pointer (some ⟨g,0,none⟩),.int .i64 l,v]) t T D
theorem yS (l:Nat) (t:Tm) (hok:t.ok) (hl:l≤t.lv) (hX:OY t):WrF l t t.tk t.dp:=fun g tb L d m w v h hx hL h0 jy hd hm=>by
 have Ma:=hid (fun V (hb:Below w.heap.size w V)=>Aa (fun b=>b<g) t hok v V (h.tab.on hb) (hx.new hb))
 have Q6:=hid hx
 obtain⟨k,op,XJ,nm,vk,vn,vs,ys,aa,nn,cc,he,rfl,ha⟩:=hx
 obtain⟨W,hW,hbW,aJ,hcW⟩:=aK w (.cells #[.int .i64 k,.int .i64 op,.string (aj XJ),.string (aj nm),.int .i64 vk,.int .i64 vn,.string (aj vs),.slice aa nn cc] 48)
 have k0:=aG hcW
 have AB:=hid (Ma.out W hbW)
 have HH:=hid h
 have HC:=hid hcW
 have HB:=hid hbW
 have hge:((l:Int)≤(t.lv:Int)):=by omega
 clear hcW hbW ha he h Ma hok
 generalize hlv:(t.lv:Int)=lv at AB hge
 clear hlv
 generalize hll:(l:Int)=li at hge ⊢
 clear hll
 go_enter Tryz.func161,Tryz.ntmps161
 go_wp2_with fail
 refine AB.out.mono ?_
 rintro e w1 ⟨rfl,hb1⟩
 have k1:=aG ((hb1.block w.heap.size aJ).trans HC.out)
 have hB1:=HB.out.trans (hb1.mono HB.out.size)
 have gP:=hid (hX g tb L d m w1 _ (HH.out.below hB1) (Q6.out.new hB1) hL h0 jy hd hm)
 have HB1:=hid hB1
 clear hb1 hB1 AB
 go_wp2_with fail
 refine gP.out.mono ?_
 rintro e w2 ⟨rfl,h2⟩
 go_wp2
 exact bodyPost_ret (v:=.tuple #[]) (by simp[results,Tryz.results161,go_sem]) rfl ⟨rfl,h2.new HB1.out⟩
theorem Bn (l:Nat) (t:Tm) (hok:t.ok) (hl : ¬l≤t.lv) (hD:Zp 0 t t.tk (t.dp+1)):WrF l t (bg [40]::(t.tk++[bg [41]])) (t.dp+1):=fun g tb L d m w v h hx hL h0 jy hd hm=>by
 simp only[aa1,aaN,List.length_nil] at hL
 have Ma:=hid (fun V (hb:Below w.heap.size w V)=>Aa (fun b=>b<g) t hok v V (h.tab.on hb) (hx.new hb))
 have Q6:=hid hx
 obtain⟨k,op,XJ,nm,vk,vn,vs,ys,aa,nn,cc,he,rfl,ha⟩:=hx
 obtain⟨W,hW,hbW,aJ,hcW⟩:=aK w (.cells #[.int .i64 k,.int .i64 op,.string (aj XJ),.string (aj nm),.int .i64 vk,.int .i64 vn,.string (aj vs),.slice aa nn cc] 48)
 have k0:=aG hcW
 have AB:=hid (Ma.out W hbW)
 have HH:=hid h
 have iq:=hid (fP.mk' h hcW (aaF _))
 have HB:=hid hbW
 have hge : ¬((l:Int)≤(t.lv:Int)):=by omega
 clear hcW hbW ha he h Ma hok
 generalize hlv:(t.lv:Int)=lv at AB hge
 clear hlv
 generalize hll:(l:Int)=li at hge ⊢
 clear hll
 go_enter Tryz.func161,Tryz.ntmps161
 go_wp2_with fail
 refine AB.out.mono ?_
 rintro e w1 ⟨rfl,hb1⟩
 have TP:=iq.out.below hb1
 have k1:=aG TP.at'
 have hB1:=HB.out.trans (hb1.mono HB.out.size)
 have hw1:=HH.out.below hB1
 have HT:Hid (Calls Tryz.prog 98 #[.pointer (some ⟨g,0,none⟩),.slice (some ⟨w1.heap.size,0,none⟩) 1 1] (w1.alloc (.cells #[.string ⟨#[40]⟩] 9)) fun e w'=>e = .returned (.tuple #[])∧Wrote g tb w1 w' (L++ay [[40]]) d m):=hid (aX g tb L d m [[40]] w1 hw1 (by decide) (by decide) (by simp;omega))
 have gP:=hid (Q6.out.new hB1)
 have HW1:=hid hw1
 have iy:=hid TP
 have HB1:=hid hB1
 clear hb1 hB1 AB hw1 TP
 go_wp2_with fail
 refine HT.out.mono ?_
 rintro e w2 ⟨rfl,bX,hw2,ht2,hf2⟩
 have pz:=iy.out.on ht2 hf2
 have k2:=aG pz.at'
 have HD2:=hid (hD g bX (L++ay [[40]]) d m w2 _ hw2 (gP.out.zC HW1.out hf2) (by simp[ay];omega) h0 jy hd hm)
 have HT2:=hid ht2
 have jW:=hid hf2
 clear hw2 ht2 hf2 pz HT
 go_wp2_with fail
 refine HD2.out.mono ?_
 rintro e w3 ⟨rfl,Ry,hw3,ht3,hf3⟩
 have HE:Hid (Calls Tryz.prog 98 #[.pointer (some ⟨g,0,none⟩),.slice (some ⟨w3.heap.size,0,none⟩) 1 1] (w3.alloc (.cells #[.string ⟨#[41]⟩] 9)) fun e w'=>e = .returned (.tuple #[])∧Wrote g Ry w3 w' (L++ay [[40]]++t.tk++ay [[41]]) d (max m (d+((t.dp+1:Nat):Int)))):=hid (aX g Ry _ d _ [[41]] w3 hw3 (by decide) (by decide) (by simp[ay];omega))
 have HT3:=hid ht3
 have za:=hid hf3
 clear hw3 ht3 hf3 HD2
 go_wp2_with fail
 refine HE.out.mono ?_
 rintro e w4 ⟨rfl,h4⟩
 have HQ:Hid (Wrote g tb w w4 (L++bg [40]::(t.tk++[bg [41]])) d (max m (d+((t.dp+1:Nat):Int)))):=hid (by
  have:=Wrote.new HB1.out (Wrote.then HT2.out jW.out (Wrote.then HT3.out za.out h4))
  simpa [ay] using this)
 clear h4 HE
 go_wp2
 exact bodyPost_end (v:=.tuple #[]) (by simp[results,Tryz.results161,go_sem]) rfl ⟨rfl,HQ.out⟩
theorem tF (l:Nat) (t:Tm) (hok:t.ok) (hX:OY t):WrF l t (oV l t.lv t.tk) (pO l t.lv t.dp):=by
 by_cases hl:l≤t.lv
 ·rw[QM hl,PO hl]
  exact yS l t hok hl hX
 ·rw[Qb hl,Qi hl]
  exact Bn l t hok hl (Ag 0 t _ _ (yS 0 t hok (aaV _) hX))
theorem vH (l:Nat) (t:Tm) (hok:t.ok) (hX:OY t):Zp l t (oV l t.lv t.tk) (pO l t.lv t.dp+1):=Ag l t _ _ (tF l t hok hX)
theorem Na (g:Nat) (tb:Option Nat) (L:List Tk) (d m:Int) (w:World) (h:bO w g tb L d m) (tn nm:List UInt8) (k op vk vn:Int) (vs:List UInt8) (aa:Option Addr) (nn cc:Nat) (hL:L.length+(Tm.col tn nm).tk.length≤1000000000) :
  Calls Tryz.prog 132 #[.pointer (some ⟨g,0,none⟩),.agg #[.int .i64 k,.int .i64 op,.string (aj tn),.string (aj nm),.int .i64 vk,.int .i64 vn,.string (aj vs),.slice aa nn cc]] w fun e w'=>e = .returned (.tuple #[])∧Wrote g tb w w' (L++(Tm.col tn nm).tk) d m:=by
 obtain⟨W,hW,hbW,aJ,hcW⟩:=aK w (.cells #[.int .i64 k,.int .i64 op,.string (aj tn),.string (aj nm),.int .i64 vk,.int .i64 vn,.string (aj vs),.slice aa nn cc] 48)
 have k0:=aG hcW
 have hBX:=fP.mk' h hcW (aaF _)
 have Ke:=hid hbW.drew
 show Calls Tryz.prog 132 _ _ fun e w'=>_∧Wrote g tb w w' (L++(if tn=[] then [dQ nm] else [dQ tn,bg [46],dQ nm])) d m
 have hL:L.length+(if tn=[] then [dQ nm] else [dQ tn,bg [46],dQ nm]).length≤1000000000:=hL
 by_cases ht:tn=[]
 ·rw[if_pos ht] at hL ⊢
  have hL:L.length+1≤1000000000:=hL
  have hte:((aj tn).toList.isEmpty)=true:=by rw[ht,aS];rfl
  have HN:=hid (jP g tb L d m W.drew (h.below hbW.drew) nm (by omega))
  clear hbW hcW h ht hBX
  generalize aj tn=tns at hte k0 hW ⊢
  go_enter Tryz.func132,Tryz.ntmps132
  go_wp2_with fail
  go_region_with (first
   | (
     go_at_call 100;refine HN.out.mono ?_
     rintro e w1 ⟨rfl,h1⟩)
   | fail)
  all_goals go_wp2
  all_goals exact bodyPost_end (v:=.tuple #[]) (by simp[results,Tryz.results132,go_sem]) rfl ⟨rfl,h1.new Ke.out⟩
 ·rw[if_neg ht] at hL ⊢
  have hL:L.length+3≤1000000000:=hL
  have hte:((aj tn).toList.isEmpty)=false:=by
   cases tn with
   | nil=>exact absurd rfl ht
   | cons x l=>rw[aS];rfl
  have HN:=hid (jP g tb L d m W.drew (h.below hbW.drew) tn (by omega))
  have iq:=hid (hBX.below (Below.refl _ W).drew)
  clear hbW hcW h ht hBX
  generalize aj tn=tns at hte k0 hW HN iq ⊢
  go_enter Tryz.func132,Tryz.ntmps132
  go_wp2_with fail
  go_region_with (first
   | (
     go_at_call 100;refine HN.out.mono ?_
     rintro e w1 ⟨rfl,dN,hw1,ht1,hf1⟩)
   | fail)
  all_goals
   have HT:Hid (Calls Tryz.prog 98 #[.pointer (some ⟨g,0,none⟩),.slice (some ⟨w1.heap.size,0,none⟩) 1 1] (w1.alloc (.cells #[.string ⟨#[46]⟩] 9)) fun e w'=>e = .returned (.tuple #[])∧Wrote g dN w1 w' (L++[dQ tn]++ay [[46]]) d m):=hid (aX g dN _ d m [[46]] w1 hw1 (by decide) (by decide) (by simp;omega))
   have iy:=hid (iq.out.on ht1 hf1)
   have HT1:=hid ht1
   have jG:=hid hf1
   clear hw1 ht1 hf1 HN iq
   go_wp2_with fail
   refine HT.out.mono ?_
   rintro e w2 ⟨rfl,bX,hw2,ht2,hf2⟩
   have pz:=iy.out.on ht2 hf2
   have k2:=aG pz.at'
   have Ud:=hid (jP g bX _ d m w2.drew (hw2.below (Below.refl _ w2).drew) nm (by simp[ay];omega))
   have HT2:=hid ht2
   have jW:=hid hf2
   clear hw2 ht2 hf2 pz HT
   go_wp2_with fail
   go_region_with (first
    | (
      go_at_call 100;refine Ud.out.mono ?_
      rintro e w3 ⟨rfl,h3⟩)
    | fail)
   all_goals go_wp2
   all_goals exact bodyPost_end (v:=.tuple #[]) (by simp[results,Tryz.results132,go_sem]) rfl ⟨rfl,by
    have:=Wrote.new Ke.out (Wrote.then HT1.out jG.out (Wrote.then HT2.out jW.out (h3.new (Below.refl _ w2).drew)))
    simpa [ay] using this⟩
theorem Oi (a:Tm) (hok:a.ok) (hX:OY a) (k op vk vn:Int) (tn nm vs:List UInt8) (aa:Option Addr) (nn cc:Nat) (ws:List (List UInt8)) (hws : ∀t∈ws,t≠[]) (hwl:ws.length≤10) (wv:Value)
  (g:Nat) (tb:Option Nat) (L:List Tk) (d m:Int) (w:World) (h:bO w g tb L d m) (ha:bA (fun b=>b<g) w [a.ex] (.slice aa nn cc)) (hwv:zM g tb w wv ws) (hL:L.length+((oV 4 a.lv a.tk).length+ws.length)≤1000000000) (h0:0≤d) (jy:d≤m) (hd:d+(pO 4 a.lv a.dp:Nat)≤1000000000) (hm:m≤1000000000) :
  Calls Tryz.prog 136 #[.pointer (some ⟨g,0,none⟩),.agg #[.int .i64 k,.int .i64 op,.string (aj tn),.string (aj nm),.int .i64 vk,.int .i64 vn,.string (aj vs),.slice aa nn cc],wv] w fun e w'=>e = .returned (.tuple #[])∧Wrote g tb w w' (L++(oV 4 a.lv a.tk++ay ws)) d (max m (d+(pO 4 a.lv a.dp:Nat))):=by
 obtain⟨W,hW,hbW,aJ,hcW⟩:=aK w (.cells #[.int .i64 k,.int .i64 op,.string (aj tn),.string (aj nm),.int .i64 vk,.int .i64 vn,.string (aj vs),.slice aa nn cc] 48)
 have k0:=aG hcW
 have HB:=hid hbW
 have hla:=jA 4 a.lv a.tk
 have hda:=mD 4 a.lv a.dp
 obtain⟨h1,h2,h3,b,off,k1,op1,dN,fU,fJ,fI,vs1,ys1,a1,n1,c1,hxe,rfl,_,h7,h8⟩:=fH (ha.new hbW)
 rw[List.length_nil,Nat.zero_add] at h1
 subst h1
 unfold maxLen at h3
 have HF:=hid (tF 4 a hok hX g tb L d m W _ (h.below hbW) (gH.mk' hxe h8) (by omega) h0 jy (by omega) hm)
 have ZO:=hid (hwv.on (fun k hk=>.inl hk) (ak.aA hbW))
 unfold Cells8 at h7
 clear hbW hcW h h8 ha hwv hxe
 generalize oV 4 a.lv a.tk=T at HF hla hL ⊢
 generalize pO 4 a.lv a.dp=D at HF hda hd ⊢
 obtain⟨wa,wc,rfl,_⟩:=id ZO.out
 go_enter Tryz.func136,Tryz.ntmps136
 go_wp2_with fail
 refine HF.out.mono ?_
 rintro e w1 ⟨rfl,bX,hw1,ht1,hf1⟩
 have HX:=hid (uh g bX _ d _ w1 hw1 _ ws (ZO.out.on ht1 hf1) hws (by simp;omega))
 have HT1:=hid ht1
 have jG:=hid hf1
 clear hw1 ht1 hf1 HF
 go_wp2_with fail
 refine HX.out.mono ?_
 rintro e w2 ⟨rfl,h2⟩
 have HQ:Hid (Wrote g tb w w2 (L++(T++ay ws)) d (max m (d+(D:Int)))):=hid (by
  have:=Wrote.new HB.out (Wrote.then HT1.out jG.out h2)
  rwa [List.append_assoc] at this)
 clear h2
 go_wp2
 exact bodyPost_end (v:=.tuple #[]) (by simp[results,Tryz.results136,go_sem]) rfl ⟨rfl,HQ.out⟩
end Go.Proofs.YtfeglkleoijlaaaGreatDoor
