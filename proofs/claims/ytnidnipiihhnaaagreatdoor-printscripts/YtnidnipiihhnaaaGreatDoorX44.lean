/- Packed for the hand-in: RefJK -/
import Derived.Test.YtnidnipiihhnaaaGreatDoorX34
import Derived.Test.YtnidnipiihhnaaaGreatDoorX28
import Derived.Test.YtnidnipiihhnaaaGreatDoorX16
namespace Go.Proofs.YtnidnipiihhnaaaGreatDoor
open Go.RowKit Go.Shelf
set_option linter.unusedSimpArgs false
set_option linter.unusedVariables false
set_option maxRecDepth 20000
set_option maxHeartbeats 8000000
theorem areB_no {α:Type} {xs:List α} {p:α→Bool} {lo hi:Nat} {x:α} (hx:x∈xs) (hp:p x=false):areB xs lo hi p=false:=by
 unfold areB
 have:xs.all p=false:=by
  rw[Bool.eq_false_iff]
  intro h
  have:=List.all_eq_true.1 h x hx
  rw[hp] at this
  cases this
 rw[this,Bool.and_false]
theorem areB_yes {α:Type} {xs:List α} {p:α→Bool} {lo hi:Nat} (h:xs.all p=true):decide (lo≤xs.length∧xs.length≤hi)=areB xs lo hi p:=by
 unfold areB
 rw[h,Bool.and_true]
theorem jmany_any (n most:Nat) (hn:n≤9223372036854775807) (hm:most≤100) (w:World):Calls Tryz.prog 138 #[.int .i64 n,.int .i64 most] w fun e w'=>e = .returned (.bool (decide (1≤n∧n≤most)))∧w'=w:=by
 by_cases h1:1≤n
 ·have h1':((1:Int)≤(n:Int)):=by omega
  by_cases h2:n≤most
  ·have h2':((n:Int)≤(most:Int)):=by omega
   rw[decide_eq_true ⟨h1,h2⟩]
   go_enter Tryz.func138,Tryz.ntmps138
   go_wp2
   go_ret
   exact⟨rfl,rfl⟩
  ·have h2' : ¬((n:Int)≤(most:Int)):=by omega
   rw[decide_eq_false (fun h=>h2 h.2)]
   go_enter Tryz.func138,Tryz.ntmps138
   go_wp2
   go_ret
   exact⟨rfl,rfl⟩
 ·have h1' : ¬((1:Int)≤(n:Int)):=by omega
  rw[decide_eq_false (fun h=>h1 h.1)]
  go_enter Tryz.func138,Tryz.ntmps138
  go_wp2
  go_ret
  exact⟨rfl,rfl⟩
theorem jone_any (S:Nat→Prop) (xs:List Ex) (v:Value) (w:World) (hR : ∀x∈xs,RgE x) (hx:ArgsAt S w xs v):Calls Tryz.prog 80 #[v] w fun e w'=>e = .returned (.bool (areB xs 0 1 rightE))∧Below w.heap.size w w':=by
 have HC:=hid (jrights_any S xs v w hR hx)
 obtain⟨a',c',rfl,_⟩:=hx.form
 have hA:areB xs 0 1 rightE=(decide (xs.length≤1)&&xs.all rightE):=by unfold areB;simp
 rw[hA]
 clear hA hx hR
 by_cases h1:xs.length≤1
 ·have h1':((xs.length:Int)≤1):=by omega
  rw[decide_eq_true h1,Bool.true_and]
  generalize xs.all rightE=br at HC ⊢
  clear h1
  go_enter Tryz.func80,Tryz.ntmps80
  go_wp2_with fail
  refine HC.out.mono ?_
  rintro e w2 ⟨rfl,hb2⟩
  have HB:=hid hb2
  clear hb2 HC
  go_wp2
  go_ret
  exact⟨rfl,HB.out⟩
 ·have h1' : ¬((xs.length:Int)≤1):=by omega
  rw[decide_eq_false h1,Bool.false_and]
  clear HC h1
  go_enter Tryz.func80,Tryz.ntmps80
  go_wp2
  go_ret
  exact⟨rfl,Below.refl _ _⟩
theorem jcolX_any (S:Nat→Prop) (xs:List Ex) (v:Value) (w:World) (hR : ∀x∈xs,RgE x) (hx:ArgsAt S w xs v):Calls Tryz.prog 82 #[v] w fun e w'=>e = .returned (.bool (areB xs 0 1 colEB))∧Below w.heap.size w w':=by
 have HC:=hid (jone_any S xs v w hR hx)
 have HX:=hid hx
 obtain⟨a',c',rfl,_⟩:=hx.form
 clear hx hR
 match xs,HC,HX with
 |
  [],HC,HX =>
  have hA:areB ([]:List Ex) 0 1 rightE=true:=rfl
  rw[hA] at HC
  show Calls Tryz.prog 82 _ w fun e w'=>e = .returned (.bool true)∧_
  clear HX hA
  go_enter Tryz.func82,Tryz.ntmps82
  go_wp2_with fail
  refine HC.out.mono ?_
  rintro e w2 ⟨rfl,hb2⟩
  have HB:=hid hb2
  clear hb2 HC
  go_wp2
  go_ret
  exact⟨rfl,HB.out⟩
 |
  [x],HC,HX =>
  have hA:areB [x] 0 1 rightE=rightE x:=by unfold areB;simp
  have hB:areB [x] 0 1 colEB=(decide (exKind x=2)&&rightE x):=by unfold areB colEB;simp
  rw[hA] at HC
  rw[hB]
  obtain⟨q1,q2,q3,bb,off,k1,op1,tb1,nm1,vk1,vn1,vs1,ys1,a1,n1,c1,hae,rfl,_,h7,h8⟩:=args_get0 HX.out
  unfold Cells8 at h7
  have hbl:bb<w.heap.size:=World.block_lt_of_cell? w _ h7.1
  have HQ:=hid h7.1
  have hk:exKind x=k1:=by rw[hae];rfl
  rw[hk]
  generalize rightE x=br at HC ⊢
  clear hA hB h7 h8 hae HX hk
  cases br with
  |
   false =>
   rw[Bool.and_false]
   go_enter Tryz.func82,Tryz.ntmps82
   go_wp2_with fail
   refine HC.out.mono ?_
   rintro e w2 ⟨rfl,hb2⟩
   have HB:=hid hb2
   clear hb2 HC
   go_wp2
   go_ret
   exact⟨rfl,HB.out⟩
  |
   true =>
   rw[Bool.and_true]
   by_cases hk2:k1=2
   ·subst hk2
    rw[decide_eq_true rfl]
    go_enter Tryz.func82,Tryz.ntmps82
    go_wp2_with fail
    refine HC.out.mono ?_
    rintro e w2 ⟨rfl,hb2⟩
    have HB:=hid hb2
    have k2:=(hb2.cell (p:=⟨bb,off,none⟩) hbl).trans HQ.out
    clear hb2 HC HQ
    go_wp2
    go_ret
    exact⟨rfl,HB.out⟩
   ·have hkb:(k1==2)=false:=by rw[beq_eq_false_iff_ne];exact hk2
    rw[decide_eq_false hk2]
    go_enter Tryz.func82,Tryz.ntmps82
    go_wp2_with fail
    refine HC.out.mono ?_
    rintro e w2 ⟨rfl,hb2⟩
    have HB:=hid hb2
    have k2:=(hb2.cell (p:=⟨bb,off,none⟩) hbl).trans HQ.out
    clear hb2 HC HQ
    go_wp2
    go_ret
    exact⟨rfl,HB.out⟩
 |
  x::y::l,HC,HX =>
  have hA:areB (x::y::l) 0 1 rightE=false:=by unfold areB;rw[decide_eq_false (by simp)];rfl
  have hB:areB (x::y::l) 0 1 colEB=false:=by unfold areB;rw[decide_eq_false (by simp)];rfl
  rw[hA] at HC
  rw[hB]
  clear HX hA hB
  generalize (x::y::l).length=nn at HC ⊢
  go_enter Tryz.func82,Tryz.ntmps82
  go_wp2_with fail
  refine HC.out.mono ?_
  rintro e w2 ⟨rfl,hb2⟩
  have HB:=hid hb2
  clear hb2 HC
  go_wp2
  go_ret
  exact⟨rfl,HB.out⟩
theorem jcolumns_any (S:Nat→Prop) (xs:List (Co)) (v:Value) (w:World) (hR : ∀c∈xs,c.nm.length≤9223372036854775807) (hv:SlAt 4 ColE S w xs v) :
  Calls Tryz.prog 77 #[v] w fun e w'=>e = .returned (.bool (areB xs 1 8 colB))∧Below w.heap.size w w':=by
 have HV:=hid hv
 obtain⟨aa,cc,css,rfl,h1,h2,_⟩:=hv
 unfold maxLen at h2
 have HR:=hid hR
 have HM:=hid (fun V=>jmany_any xs.length 8 (by omega) (by decide) V)
 have HFA:=hid (fun x (hx:x∈xs) (hp:colB x=false)=>areB_no (lo:=1) (hi:=8) hx hp)
 have HTR:=hid (fun (h:xs.all colB=true)=>areB_yes (lo:=1) (hi:=8) h)
 obtain⟨X,hX⟩:∃X,areB xs 1 8 colB=X:=⟨_,rfl⟩
 rw[hX] at HFA HTR ⊢
 clear hX hR
 go_enter Tryz.func77,Tryz.ntmps77
 go_wp2_with fail
 go_loopw [3,4] (fun i _ wr=>∃(k:Nat),k≤xs.length∧i = .int .i64 k∧Below w.heap.size w wr∧Hid ((xs.take k).all colB=true)) (fun i _ _=>xs.length-(intOf i).toNat)
 case atStart=>exact⟨0,Nat.zero_le _,rfl,Below.refl _ _,hid rfl⟩
 case round =>
  obtain⟨k,hk,rfl,hbel,HK⟩:=hrel
  by_cases hlt:k<xs.length
  ·obtain⟨x,hx⟩:∃x,xs[k]?=some x:=⟨_,List.getElem?_eq_getElem hlt⟩
   have hlt':((k:Int)<(xs.length:Int)):=by omega
   obtain⟨_,_,_,b,off,cs,rfl,_,hel,hcell⟩:=sl_get (HV.out.to (T:=S) (by decide) (R:=fun _=>False) (Spares.of_new hbel) (fun b hb _=>⟨id,hb⟩) (fun _ _ e=>e)) hx
   have hxm:=List.mem_of_getElem? hx
   have HXF:=hid (HFA.out x hxm)
   have HTT:=hid (all_take_succ colB hx)
   have HBR:=hid hbel
   obtain rfl:=hel
   have q0:=hcell 0 _ rfl
   have q1:=hcell 1 _ rfl
   simp only[Nat.add_zero] at q0
   have hbl:b<wr.heap.size:=World.block_lt_of_cell? wr _ q0
   have HQ1:=hid q1
   have HN:=hid (jname_any x.nm wr (HR.out x hxm))
   have hpx:colB x=(nameOk x.nm&&decide (x.k=1∨x.k=2)):=rfl
   rw[hpx] at HXF HTT
   generalize nameOk x.nm=bn at HN HXF HTT
   clear hbel hcell hx hxm hpx q1
   go_wp2_with fail
   refine HN.out.mono ?_
   rintro e w2 ⟨rfl,hb2⟩
   have q1:=(hb2.cell (p:=⟨b,off+k*4+1,none⟩) hbl).trans HQ1.out
   have HB2:=hid (HBR.out.trans (hb2.mono HBR.out.size))
   clear hb2 HN HBR HQ1 q0
   cases bn with
   |
    false =>
    have HXX:=hid (HXF.out rfl)
    clear HXF HTT HK
    go_wp2
    go_ret
    exact⟨HXX.out.symm ▸ rfl,HB2.out⟩
   |
    true =>
    by_cases k1:x.k=1
    ·have n1:(x.k != 1)=false:=by rw[k1];rfl
     have HK2:Hid ((xs.take (k+1)).all colB=true):=hid (by rw[HTT.out,HK.out,decide_eq_true (.inl k1)];rfl)
     clear HXF HTT HK k1
     go_wp2
     go_roundw
     case rel=>exact⟨k+1,by omega,by go_num,HB2.out,HK2⟩
     case measure=>simp[intOf];omega
    ·have n1:(x.k != 1)=true:=by simpa using k1
     by_cases k2:x.k=2
     ·have n2:(x.k != 2)=false:=by rw[k2];rfl
      have HK2:Hid ((xs.take (k+1)).all colB=true):=hid (by rw[HTT.out,HK.out,decide_eq_true (.inr k2)];rfl)
      clear HXF HTT HK k1 k2
      go_wp2
      go_roundw
      case rel=>exact⟨k+1,by omega,by go_num,HB2.out,HK2⟩
      case measure=>simp[intOf];omega
     ·have n2:(x.k != 2)=true:=by simpa using k2
      have HXX:=hid (HXF.out (by rw[decide_eq_false (fun e=>e.elim k1 k2)];rfl))
      clear HXF HTT HK k1 k2
      go_wp2
      go_ret
      exact⟨HXX.out.symm ▸ rfl,HB2.out⟩
  ·have hlt' : ¬((k:Int)<(xs.length:Int)):=by omega
   have HXT:Hid (decide (1≤xs.length∧xs.length≤8)=X):=hid (by have:=HK.out;rw[List.take_of_length_le (by omega)] at this;exact HTR.out this)
   have HMW:=hid (HM.out wr)
   have HB2:=hid hbel
   clear hbel HK HTR HFA HM
   rw[HXT.out] at HMW
   clear HXT
   go_wp2_with fail
   refine HMW.out.mono ?_
   rintro e w2 ⟨rfl,rfl⟩
   go_wp2
   go_ret
   exact⟨rfl,HB2.out⟩
theorem jsets_any (S:Nat→Prop) (xs:List (Se)) (v:Value) (w:World) (hR : ∀x∈xs,x.nm.length≤9223372036854775807∧RgE x.e) (hv:SlAt 9 SeE S w xs v) :
  Calls Tryz.prog 79 #[v] w fun e w'=>e = .returned (.bool (areB xs 1 8 setB))∧Below w.heap.size w w':=by
 have HV:=hid hv
 obtain⟨aa,cc,css,rfl,h1,h2,_⟩:=hv
 unfold maxLen at h2
 have HR:=hid hR
 have HM:=hid (fun V=>jmany_any xs.length 8 (by omega) (by decide) V)
 have HFA:=hid (fun x (hx:x∈xs) (hp:setB x=false)=>areB_no (lo:=1) (hi:=8) hx hp)
 have HTR:=hid (fun (h:xs.all setB=true)=>areB_yes (lo:=1) (hi:=8) h)
 obtain⟨X,hX⟩:∃X,areB xs 1 8 setB=X:=⟨_,rfl⟩
 rw[hX] at HFA HTR ⊢
 clear hX hR
 go_enter Tryz.func79,Tryz.ntmps79
 go_wp2_with fail
 go_loopw [3,4,5] (fun i _ _ wr=>∃(k:Nat),k≤xs.length∧i = .int .i64 k∧Below w.heap.size w wr∧Hid ((xs.take k).all setB=true)) (fun i _ _ _=>xs.length-(intOf i).toNat)
 case atStart=>exact⟨0,Nat.zero_le _,rfl,Below.refl _ _,hid rfl⟩
 case round =>
  obtain⟨k,hk,rfl,hbel,HK⟩:=hrel
  by_cases hlt:k<xs.length
  ·obtain⟨x,hx⟩:∃x,xs[k]?=some x:=⟨_,List.getElem?_eq_getElem hlt⟩
   have hlt':((k:Int)<(xs.length:Int)):=by omega
   obtain⟨_,_,_,b,off,cs,rfl,_,hel,hcell⟩:=sl_get (HV.out.to (T:=S) (by decide) (R:=fun _=>False) (Spares.of_new hbel) (fun b hb _=>⟨id,hb⟩) (fun _ _ e=>e.to (R:=fun _=>False) (Spares.of_new hbel) (fun b hb _=>⟨id,hb⟩))) hx
   have hxm:=List.mem_of_getElem? hx
   have HXF:=hid (HFA.out x hxm)
   have HTT:=hid (all_take_succ setB hx)
   have HBR:=hid hbel
   obtain⟨k1,op1,tb1,nm1,vk1,vn1,vs1,ys1,aa1,nn1,cc1,hxe,rfl,hay⟩:=hel
   have q0:=hcell 0 _ rfl
   have q1:=hcell 1 _ rfl
   have q2:=hcell 2 _ rfl
   have q3:=hcell 3 _ rfl
   have q4:=hcell 4 _ rfl
   have q5:=hcell 5 _ rfl
   have q6:=hcell 6 _ rfl
   have q7:=hcell 7 _ rfl
   have q8:=hcell 8 _ rfl
   simp only[Nat.add_zero] at q0
   have hbl:b<wr.heap.size:=World.block_lt_of_cell? wr _ q0
   have HQS:=hid (fun (V:World) (hV:Below wr.heap.size wr V)=>(⟨(hV.cell (p:=⟨b,off+k*9+1,none⟩) hbl).trans q1,(hV.cell (p:=⟨b,off+k*9+2,none⟩) hbl).trans q2,(hV.cell (p:=⟨b,off+k*9+3,none⟩) hbl).trans q3,(hV.cell (p:=⟨b,off+k*9+4,none⟩) hbl).trans q4,(hV.cell (p:=⟨b,off+k*9+5,none⟩) hbl).trans q5,(hV.cell (p:=⟨b,off+k*9+6,none⟩) hbl).trans q6,(hV.cell (p:=⟨b,off+k*9+7,none⟩) hbl).trans q7,(hV.cell (p:=⟨b,off+k*9+8,none⟩) hbl).trans q8⟩:V.cell? ⟨b,off+k*9+1,none⟩=some (.int .i64 k1)∧V.cell? ⟨b,off+k*9+2,none⟩=some (.int .i64 op1)∧V.cell? ⟨b,off+k*9+3,none⟩=some (.string (str8 tb1))∧V.cell? ⟨b,off+k*9+4,none⟩=some (.string (str8 nm1))∧V.cell? ⟨b,off+k*9+5,none⟩=some (.int .i64 vk1)∧V.cell? ⟨b,off+k*9+6,none⟩=some (.int .i64 vn1)∧V.cell? ⟨b,off+k*9+7,none⟩=some (.string (str8 vs1))∧V.cell? ⟨b,off+k*9+8,none⟩=some (.slice aa1 nn1 cc1)))
   have HN:=hid (jname_any x.nm wr (HR.out x hxm).1)
   have HRE:=hid (fun V (hV:Below wr.heap.size wr V)=>jrightE_any S x.e _ V (HR.out x hxm).2 (⟨k1,op1,tb1,nm1,vk1,vn1,vs1,ys1,aa1,nn1,cc1,hxe,rfl,hay.new hV⟩:ExV S V x.e (.agg #[.int .i64 k1,.int .i64 op1,.string (str8 tb1),.string (str8 nm1),.int .i64 vk1,.int .i64 vn1,.string (str8 vs1),.slice aa1 nn1 cc1])))
   have hpx:setB x=(nameOk x.nm&&rightE x.e):=rfl
   rw[hpx] at HXF HTT
   generalize nameOk x.nm=bn at HN HXF HTT
   generalize rightE x.e=br at HRE HXF HTT
   clear hbel hcell hx hxm hpx q1 q2 q3 q4 q5 q6 q7 q8 hxe hay
   go_wp2_with fail
   refine HN.out.mono ?_
   rintro e w2 ⟨rfl,hb2⟩
   have q1:=HQS.out w2 hb2
   have HR2:=hid (HRE.out w2 hb2)
   have HB2':=hid (HBR.out.trans (hb2.mono HBR.out.size))
   clear hb2 HN HBR HQS HRE q0
   go_wp2_with fail
   refine HR2.out.mono ?_
   rintro e w3 ⟨rfl,hb3⟩
   have HB2:=hid (HB2'.out.trans (hb3.mono HB2'.out.size))
   clear hb3 HR2 HB2' q1
   cases bn with
   |
    false =>
    have HXX:=hid (HXF.out rfl)
    clear HXF HTT HK
    go_wp2
    go_ret
    exact⟨HXX.out.symm ▸ rfl,HB2.out⟩
   |
    true =>
    cases br with
    |
     false =>
     have HXX:=hid (HXF.out rfl)
     clear HXF HTT HK
     go_wp2
     go_ret
     exact⟨HXX.out.symm ▸ rfl,HB2.out⟩
    |
     true =>
     have HK2:Hid ((xs.take (k+1)).all setB=true):=hid (by rw[HTT.out,HK.out];rfl)
     clear HXF HTT HK
     go_wp2
     go_roundw
     case rel=>exact⟨k+1,by omega,by go_num,HB2.out,HK2⟩
     case measure=>simp[intOf];omega
  ·have hlt' : ¬((k:Int)<(xs.length:Int)):=by omega
   have HXT:Hid (decide (1≤xs.length∧xs.length≤8)=X):=hid (by have:=HK.out;rw[List.take_of_length_le (by omega)] at this;exact HTR.out this)
   have HMW:=hid (HM.out wr)
   have HB2:=hid hbel
   clear hbel HK HTR HFA HM
   rw[HXT.out] at HMW
   clear HXT
   go_wp2_with fail
   refine HMW.out.mono ?_
   rintro e w2 ⟨rfl,rfl⟩
   go_wp2
   go_ret
   exact⟨rfl,HB2.out⟩
end Go.Proofs.YtnidnipiihhnaaaGreatDoor
