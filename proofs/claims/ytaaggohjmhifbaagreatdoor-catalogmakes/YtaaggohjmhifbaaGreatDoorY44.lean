/- Packed for the hand-in: WFew RefJK -/
import Derived.Test.YtaaggohjmhifbaaGreatDoorY23
import Derived.Test.YtaaggohjmhifbaaGreatDoorY27
import Derived.Test.YtaaggohjmhifbaaGreatDoorY43
namespace Go.Proofs.YtaaggohjmhifbaaGreatDoor
open Go.RowKit Go.Shelf
set_option linter.unusedSimpArgs false
set_option linter.unusedVariables false
set_option maxRecDepth 20000
set_option maxHeartbeats 8000000
theorem iI {α:Type} (p:α→Bool) {xs:List α} {k:Nat} {x:α} (hx:xs[k]?=some x):(xs.take (k+1)).all p=((xs.take k).all p&&p x):=by
 obtain⟨h1,h2⟩:=List.getElem?_eq_some_iff.1 hx
 rw[List.take_succ_eq_append_getElem h1,h2,List.all_append]
 simp
theorem qC {α:Type} {xs:List α} {p:α→Bool} {lo hi:Nat} {x:α} (hx:x∈xs) (hp:p x=false):aX xs lo hi p=false:=by
 unfold aX
 have:xs.all p=false:=by
  rw[Bool.eq_false_iff]
  intro h
  have:=List.all_eq_true.1 h x hx
  rw[hp] at this
  cases this
 rw[this,Bool.and_false]
theorem nA {α:Type} {xs:List α} {p:α→Bool} {lo hi:Nat} (h:xs.all p=true):decide (lo≤xs.length∧xs.length≤hi)=aX xs lo hi p:=by
 unfold aX
 rw[h,Bool.and_true]
theorem l9 (n most:Nat) (hn:n≤9223372036854775807) (hm:most≤100) (w:World):Calls Tryz.prog 82 #[.int .i64 n,.int .i64 most] w fun e w'=>e = .returned (.bool (decide (1≤n∧n≤most)))∧w'=w:=by
 by_cases h1:1≤n
 ·have h1':((1:Int)≤(n:Int)):=by omega
  by_cases h2:n≤most
  ·have h2':((n:Int)≤(most:Int)):=by omega
   rw[decide_eq_true ⟨h1,h2⟩]
   go_enter Tryz.func82,Tryz.ntmps82
   go_wp2
   go_ret
   exact⟨rfl,rfl⟩
  ·have h2' : ¬((n:Int)≤(most:Int)):=by omega
   rw[decide_eq_false (fun h=>h2 h.2)]
   go_enter Tryz.func82,Tryz.ntmps82
   go_wp2
   go_ret
   exact⟨rfl,rfl⟩
 ·have h1' : ¬((1:Int)≤(n:Int)):=by omega
  rw[decide_eq_false (fun h=>h1 h.1)]
  go_enter Tryz.func82,Tryz.ntmps82
  go_wp2
  go_ret
  exact⟨rfl,rfl⟩
theorem nP (S:Nat→Prop) (xs:List Ex) (v:Value) (w:World) (hR : ∀x∈xs,tH x) (hx:bg S w xs v):Calls Tryz.prog 54 #[v] w fun e w'=>e = .returned (.bool (aX xs 0 1 aK))∧Below w.heap.size w w':=by
 have HC:=hid (sQ S xs v w hR hx)
 obtain⟨a',c',rfl,_⟩:=hx.form
 have hA:aX xs 0 1 aK=(decide (xs.length≤1)&&xs.all aK):=by unfold aX;simp
 rw[hA]
 clear hA hx hR
 by_cases h1:xs.length≤1
 ·have h1':((xs.length:Int)≤1):=by omega
  rw[decide_eq_true h1,Bool.true_and]
  generalize xs.all aK=br at HC ⊢
  clear h1
  go_enter Tryz.func54,Tryz.ntmps54
  go_wp2_with fail
  refine HC.out.mono ?_
  rintro e w2 ⟨rfl,hb2⟩
  have HB:=hid hb2
  clear hb2 HC
  go_wp2
  go_ret
  exact⟨rfl,HB.out⟩
 ·have h1' : ¬((xs.length:Int)≤1):=by omega
  rw[decide_eq_false h1,Bool.false_and]
  clear HC h1
  go_enter Tryz.func54,Tryz.ntmps54
  go_wp2
  go_ret
  exact⟨rfl,Below.refl _ _⟩
theorem vN (S:Nat→Prop) (xs:List Ex) (v:Value) (w:World) (hR : ∀x∈xs,tH x) (hx:bg S w xs v):Calls Tryz.prog 56 #[v] w fun e w'=>e = .returned (.bool (aX xs 0 1 fJ))∧Below w.heap.size w w':=by
 have HC:=hid (nP S xs v w hR hx)
 have HX:=hid hx
 obtain⟨a',c',rfl,_⟩:=hx.form
 clear hx hR
 match xs,HC,HX with
 |
  [],HC,HX =>
  have hA:aX ([]:List Ex) 0 1 aK=true:=rfl
  rw[hA] at HC
  show Calls Tryz.prog 56 _ w fun e w'=>e = .returned (.bool true)∧_
  clear HX hA
  go_enter Tryz.func56,Tryz.ntmps56
  go_wp2_with fail
  refine HC.out.mono ?_
  rintro e w2 ⟨rfl,hb2⟩
  have HB:=hid hb2
  clear hb2 HC
  go_wp2
  go_ret
  exact⟨rfl,HB.out⟩
 |
  [x],HC,HX =>
  have hA:aX [x] 0 1 aK=aK x:=by unfold aX;simp
  have hB:aX [x] 0 1 fJ=(decide (wV x=2)&&aK x):=by unfold aX fJ;simp
  rw[hA] at HC
  rw[hB]
  obtain⟨q1,q2,q3,bb,off,k1,op1,tb1,nm1,vk1,vn1,vs1,ys1,a1,n1,c1,hae,rfl,_,h7,h8⟩:=DY HX.out
  unfold Cells8 at h7
  have hbl:bb<w.heap.size:=World.block_lt_of_cell? w _ h7.1
  have HQ:=hid h7.1
  have hk:wV x=k1:=by rw[hae];rfl
  rw[hk]
  generalize aK x=br at HC ⊢
  clear hA hB h7 h8 hae HX hk
  cases br with
  |
   false =>
   rw[Bool.and_false]
   go_enter Tryz.func56,Tryz.ntmps56
   go_wp2_with fail
   refine HC.out.mono ?_
   rintro e w2 ⟨rfl,hb2⟩
   have HB:=hid hb2
   clear hb2 HC
   go_wp2
   go_ret
   exact⟨rfl,HB.out⟩
  |
   true =>
   rw[Bool.and_true]
   by_cases hk2:k1=2
   ·subst hk2
    rw[decide_eq_true rfl]
    go_enter Tryz.func56,Tryz.ntmps56
    go_wp2_with fail
    refine HC.out.mono ?_
    rintro e w2 ⟨rfl,hb2⟩
    have HB:=hid hb2
    have k2:=(hb2.cell (p:=⟨bb,off,none⟩) hbl).trans HQ.out
    clear hb2 HC HQ
    go_wp2
    go_ret
    exact⟨rfl,HB.out⟩
   ·have hkb:(k1==2)=false:=by rw[beq_eq_false_iff_ne];exact hk2
    rw[decide_eq_false hk2]
    go_enter Tryz.func56,Tryz.ntmps56
    go_wp2_with fail
    refine HC.out.mono ?_
    rintro e w2 ⟨rfl,hb2⟩
    have HB:=hid hb2
    have k2:=(hb2.cell (p:=⟨bb,off,none⟩) hbl).trans HQ.out
    clear hb2 HC HQ
    go_wp2
    go_ret
    exact⟨rfl,HB.out⟩
 |
  x::y::l,HC,HX =>
  have hA:aX (x::y::l) 0 1 aK=false:=by unfold aX;rw[decide_eq_false (by simp)];rfl
  have hB:aX (x::y::l) 0 1 fJ=false:=by unfold aX;rw[decide_eq_false (by simp)];rfl
  rw[hA] at HC
  rw[hB]
  clear HX hA hB
  generalize (x::y::l).length=nn at HC ⊢
  go_enter Tryz.func56,Tryz.ntmps56
  go_wp2_with fail
  refine HC.out.mono ?_
  rintro e w2 ⟨rfl,hb2⟩
  have HB:=hid hb2
  clear hb2 HC
  go_wp2
  go_ret
  exact⟨rfl,HB.out⟩
theorem wQ (S:Nat→Prop) (xs:List (Co)) (v:Value) (w:World) (hR : ∀c∈xs,c.nm.length≤9223372036854775807) (hv:bP 4 iE S w xs v) :
  Calls Tryz.prog 51 #[v] w fun e w'=>e = .returned (.bool (aX xs 1 8 gB))∧Below w.heap.size w w':=by
 have HV:=hid hv
 obtain⟨aa,cc,css,rfl,h1,h2,_⟩:=hv
 unfold maxLen at h2
 have HR:=hid hR
 have HM:=hid (fun V=>l9 xs.length 8 (by omega) (by decide) V)
 have HFA:=hid (fun x (hx:x∈xs) (hp:gB x=false)=>qC (lo:=1) (hi:=8) hx hp)
 have HTR:=hid (fun (h:xs.all gB=true)=>nA (lo:=1) (hi:=8) h)
 obtain⟨X,hX⟩:∃X,aX xs 1 8 gB=X:=⟨_,rfl⟩
 rw[hX] at HFA HTR ⊢
 clear hX hR
 go_enter Tryz.func51,Tryz.ntmps51
 go_wp2_with fail
 go_loopw [3,4] (fun i _ wr=>∃(k:Nat),k≤xs.length∧i = .int .i64 k∧Below w.heap.size w wr∧Hid ((xs.take k).all gB=true)) (fun i _ _=>xs.length-(intOf i).toNat)
 case atStart=>exact⟨0,Nat.zero_le _,rfl,Below.refl _ _,hid rfl⟩
 case round =>
  obtain⟨k,hk,rfl,hbel,HK⟩:=hrel
  by_cases hlt:k<xs.length
  ·obtain⟨x,hx⟩:∃x,xs[k]?=some x:=⟨_,List.getElem?_eq_getElem hlt⟩
   have hlt':((k:Int)<(xs.length:Int)):=by omega
   obtain⟨_,_,_,b,off,cs,rfl,_,hel,hcell⟩:=lD (HV.out.to (T:=S) (by decide) (R:=fun _=>False) (aj.aC hbel) (fun b hb _=>⟨id,hb⟩) (fun _ _ e=>e)) hx
   have hxm:=List.mem_of_getElem? hx
   have HXF:=hid (HFA.out x hxm)
   have HTT:=hid (iI gB hx)
   have HBR:=hid hbel
   obtain rfl:=hel
   have q0:=hcell 0 _ rfl
   have q1:=hcell 1 _ rfl
   simp only[Nat.add_zero] at q0
   have hbl:b<wr.heap.size:=World.block_lt_of_cell? wr _ q0
   have HQ1:=hid q1
   have HN:=hid (eT x.nm wr (HR.out x hxm))
   have hpx:gB x=(aQ x.nm&&decide (x.k=1∨x.k=2)):=rfl
   rw[hpx] at HXF HTT
   generalize aQ x.nm=bn at HN HXF HTT
   clear hbel hcell hx hxm hpx q1
   go_wp2_with fail
   refine HN.out.mono ?_
   rintro e w2 ⟨rfl,hb2⟩
   have q1:=(hb2.cell (p:=⟨b,off+k*4+1,none⟩) hbl).trans HQ1.out
   have HB2:=hid (HBR.out.trans (hb2.mono HBR.out.size))
   clear hb2 HN HBR HQ1 q0
   cases bn with
   |
    false =>
    have HXX:=hid (HXF.out rfl)
    clear HXF HTT HK
    go_wp2
    go_ret
    exact⟨HXX.out.symm ▸ rfl,HB2.out⟩
   |
    true =>
    by_cases k1:x.k=1
    ·have n1:(x.k != 1)=false:=by rw[k1];rfl
     have HK2:Hid ((xs.take (k+1)).all gB=true):=hid (by rw[HTT.out,HK.out,decide_eq_true (.inl k1)];rfl)
     clear HXF HTT HK k1
     go_wp2
     go_roundw
     case rel=>exact⟨k+1,by omega,by go_num,HB2.out,HK2⟩
     case measure=>simp[intOf];omega
    ·have n1:(x.k != 1)=true:=by simpa using k1
     by_cases k2:x.k=2
     ·have n2:(x.k != 2)=false:=by rw[k2];rfl
      have HK2:Hid ((xs.take (k+1)).all gB=true):=hid (by rw[HTT.out,HK.out,decide_eq_true (.inr k2)];rfl)
      clear HXF HTT HK k1 k2
      go_wp2
      go_roundw
      case rel=>exact⟨k+1,by omega,by go_num,HB2.out,HK2⟩
      case measure=>simp[intOf];omega
     ·have n2:(x.k != 2)=true:=by simpa using k2
      have HXX:=hid (HXF.out (by rw[decide_eq_false (fun e=>e.elim k1 k2)];rfl))
      clear HXF HTT HK k1 k2
      go_wp2
      go_ret
      exact⟨HXX.out.symm ▸ rfl,HB2.out⟩
  ·have hlt' : ¬((k:Int)<(xs.length:Int)):=by omega
   have HXT:Hid (decide (1≤xs.length∧xs.length≤8)=X):=hid (by have:=HK.out;rw[List.take_of_length_le (by omega)] at this;exact HTR.out this)
   have HMW:=hid (HM.out wr)
   have HB2:=hid hbel
   clear hbel HK HTR HFA HM
   rw[HXT.out] at HMW
   clear HXT
   go_wp2_with fail
   refine HMW.out.mono ?_
   rintro e w2 ⟨rfl,rfl⟩
   go_wp2
   go_ret
   exact⟨rfl,HB2.out⟩
theorem Dr (S:Nat→Prop) (xs:List (Se)) (v:Value) (w:World) (hR : ∀x∈xs,x.nm.length≤9223372036854775807∧tH x.e) (hv:bP 9 Ab S w xs v) :
  Calls Tryz.prog 53 #[v] w fun e w'=>e = .returned (.bool (aX xs 1 8 mR))∧Below w.heap.size w w':=by
 have HV:=hid hv
 obtain⟨aa,cc,css,rfl,h1,h2,_⟩:=hv
 unfold maxLen at h2
 have HR:=hid hR
 have HM:=hid (fun V=>l9 xs.length 8 (by omega) (by decide) V)
 have HFA:=hid (fun x (hx:x∈xs) (hp:mR x=false)=>qC (lo:=1) (hi:=8) hx hp)
 have HTR:=hid (fun (h:xs.all mR=true)=>nA (lo:=1) (hi:=8) h)
 obtain⟨X,hX⟩:∃X,aX xs 1 8 mR=X:=⟨_,rfl⟩
 rw[hX] at HFA HTR ⊢
 clear hX hR
 go_enter Tryz.func53,Tryz.ntmps53
 go_wp2_with fail
 go_loopw [3,4,5] (fun i _ _ wr=>∃(k:Nat),k≤xs.length∧i = .int .i64 k∧Below w.heap.size w wr∧Hid ((xs.take k).all mR=true)) (fun i _ _ _=>xs.length-(intOf i).toNat)
 case atStart=>exact⟨0,Nat.zero_le _,rfl,Below.refl _ _,hid rfl⟩
 case round =>
  obtain⟨k,hk,rfl,hbel,HK⟩:=hrel
  by_cases hlt:k<xs.length
  ·obtain⟨x,hx⟩:∃x,xs[k]?=some x:=⟨_,List.getElem?_eq_getElem hlt⟩
   have hlt':((k:Int)<(xs.length:Int)):=by omega
   obtain⟨_,_,_,b,off,cs,rfl,_,hel,hcell⟩:=lD (HV.out.to (T:=S) (by decide) (R:=fun _=>False) (aj.aC hbel) (fun b hb _=>⟨id,hb⟩) (fun _ _ e=>e.to (R:=fun _=>False) (aj.aC hbel) (fun b hb _=>⟨id,hb⟩))) hx
   have hxm:=List.mem_of_getElem? hx
   have HXF:=hid (HFA.out x hxm)
   have HTT:=hid (iI mR hx)
   have HBR:=hid hbel
   obtain⟨k1,op1,tb1,nm1,vk1,vn1,vs1,ys1,aa1,nn1,cc1,hxe,rfl,hay⟩:=hel
   have q0:=hcell 0 _ rfl
   have q1:=hcell 1 _ rfl
   have q2:=hcell 2 _ rfl
   have q3:=hcell 3 _ rfl
   have q4:=hcell 4 _ rfl
   have q5:=hcell 5 _ rfl
   have q6:=hcell 6 _ rfl
   have q7:=hcell 7 _ rfl
   have q8:=hcell 8 _ rfl
   simp only[Nat.add_zero] at q0
   have hbl:b<wr.heap.size:=World.block_lt_of_cell? wr _ q0
   have HQS:=hid (fun (V:World) (hV:Below wr.heap.size wr V)=>(⟨(hV.cell (p:=⟨b,off+k*9+1,none⟩) hbl).trans q1,(hV.cell (p:=⟨b,off+k*9+2,none⟩) hbl).trans q2,(hV.cell (p:=⟨b,off+k*9+3,none⟩) hbl).trans q3,(hV.cell (p:=⟨b,off+k*9+4,none⟩) hbl).trans q4,(hV.cell (p:=⟨b,off+k*9+5,none⟩) hbl).trans q5,(hV.cell (p:=⟨b,off+k*9+6,none⟩) hbl).trans q6,(hV.cell (p:=⟨b,off+k*9+7,none⟩) hbl).trans q7,(hV.cell (p:=⟨b,off+k*9+8,none⟩) hbl).trans q8⟩:V.cell? ⟨b,off+k*9+1,none⟩=some (.int .i64 k1)∧V.cell? ⟨b,off+k*9+2,none⟩=some (.int .i64 op1)∧V.cell? ⟨b,off+k*9+3,none⟩=some (.string (ah tb1))∧V.cell? ⟨b,off+k*9+4,none⟩=some (.string (ah nm1))∧V.cell? ⟨b,off+k*9+5,none⟩=some (.int .i64 vk1)∧V.cell? ⟨b,off+k*9+6,none⟩=some (.int .i64 vn1)∧V.cell? ⟨b,off+k*9+7,none⟩=some (.string (ah vs1))∧V.cell? ⟨b,off+k*9+8,none⟩=some (.slice aa1 nn1 cc1)))
   have HN:=hid (eT x.nm wr (HR.out x hxm).1)
   have HRE:=hid (fun V (hV:Below wr.heap.size wr V)=>sK S x.e _ V (HR.out x hxm).2 (⟨k1,op1,tb1,nm1,vk1,vn1,vs1,ys1,aa1,nn1,cc1,hxe,rfl,hay.new hV⟩:pq S V x.e (.agg #[.int .i64 k1,.int .i64 op1,.string (ah tb1),.string (ah nm1),.int .i64 vk1,.int .i64 vn1,.string (ah vs1),.slice aa1 nn1 cc1])))
   have hpx:mR x=(aQ x.nm&&aK x.e):=rfl
   rw[hpx] at HXF HTT
   generalize aQ x.nm=bn at HN HXF HTT
   generalize aK x.e=br at HRE HXF HTT
   clear hbel hcell hx hxm hpx q1 q2 q3 q4 q5 q6 q7 q8 hxe hay
   go_wp2_with fail
   refine HN.out.mono ?_
   rintro e w2 ⟨rfl,hb2⟩
   have q1:=HQS.out w2 hb2
   have HR2:=hid (HRE.out w2 hb2)
   have HB2':=hid (HBR.out.trans (hb2.mono HBR.out.size))
   clear hb2 HN HBR HQS HRE q0
   go_wp2_with fail
   refine HR2.out.mono ?_
   rintro e w3 ⟨rfl,hb3⟩
   have HB2:=hid (HB2'.out.trans (hb3.mono HB2'.out.size))
   clear hb3 HR2 HB2' q1
   cases bn with
   |
    false =>
    have HXX:=hid (HXF.out rfl)
    clear HXF HTT HK
    go_wp2
    go_ret
    exact⟨HXX.out.symm ▸ rfl,HB2.out⟩
   |
    true =>
    cases br with
    |
     false =>
     have HXX:=hid (HXF.out rfl)
     clear HXF HTT HK
     go_wp2
     go_ret
     exact⟨HXX.out.symm ▸ rfl,HB2.out⟩
    |
     true =>
     have HK2:Hid ((xs.take (k+1)).all mR=true):=hid (by rw[HTT.out,HK.out];rfl)
     clear HXF HTT HK
     go_wp2
     go_roundw
     case rel=>exact⟨k+1,by omega,by go_num,HB2.out,HK2⟩
     case measure=>simp[intOf];omega
  ·have hlt' : ¬((k:Int)<(xs.length:Int)):=by omega
   have HXT:Hid (decide (1≤xs.length∧xs.length≤8)=X):=hid (by have:=HK.out;rw[List.take_of_length_le (by omega)] at this;exact HTR.out this)
   have HMW:=hid (HM.out wr)
   have HB2:=hid hbel
   clear hbel HK HTR HFA HM
   rw[HXT.out] at HMW
   clear HXT
   go_wp2_with fail
   refine HMW.out.mono ?_
   rintro e w2 ⟨rfl,rfl⟩
   go_wp2
   go_ret
   exact⟨rfl,HB2.out⟩
end Go.Proofs.YtaaggohjmhifbaaGreatDoor
