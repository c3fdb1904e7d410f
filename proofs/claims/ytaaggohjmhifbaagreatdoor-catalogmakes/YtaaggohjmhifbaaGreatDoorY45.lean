/- Packed for the hand-in: RefJL RefJM1 -/
import Derived.Test.YtaaggohjmhifbaaGreatDoorY44
import Derived.Test.YtaaggohjmhifbaaGreatDoorY26
namespace Go.Proofs.YtaaggohjmhifbaaGreatDoor
open Go.RowKit Go.Shelf
set_option linter.unusedSimpArgs false
set_option linter.unusedVariables false
set_option maxRecDepth 20000
set_option maxHeartbeats 8000000
theorem gD {a b c d:Bool} (h:a=b) (h2:c=d):(a&&c)=(b&&d):=by rw[h,h2]
def FW (K:Int) (n:Nat) (br:Bool):Bool:=if K=1∨K=3 then br&&decide (n=0) else if 1≤K∧K≤7 then br&&decide (n=1) else false
theorem JC (x:It):rJ x=FW x.k x.xs.length (x.xs.all aK):=by
 unfold rJ FW
 by_cases h:x.k=1∨x.k=3
 ·rw[if_pos h,if_pos h]
  cases hx:x.xs with
  | nil=>rfl
  | cons y l=>simp
 ·rw[if_neg h,if_neg h]
  by_cases h2:1≤x.k∧x.k≤7
  ·rw[if_pos h2,if_pos (by omega)]
   unfold aX
   rw[Bool.and_comm]
   congr 1
   rw[Bool.eq_iff_iff,decide_eq_true_eq,decide_eq_true_eq]
   omega
  ·rw[if_neg h2,if_neg (by omega)]
theorem Ar (K:Int) (n:Nat):FW K n false=false:=by
 unfold FW
 split
 ·rfl
 ·split<;>rfl
theorem Ci {K:Int} {n:Nat} {br:Bool} (h:K<1∨7<K):FW K n br=false:=by
 unfold FW
 rw[if_neg (by omega),if_neg (by omega)]
theorem EF {K:Int} (h:K=1∨K=3) {n:Nat}:FW K n true=decide (n=0):=by
 unfold FW
 rw[if_pos h,Bool.true_and]
theorem J3 {K:Int} (h1 : ¬K=1) (h3 : ¬K=3) (hl : ¬K<1) (hh : ¬7<K) {n:Nat}:FW K n true=decide (n=1):=by
 unfold FW
 rw[if_neg (by omega),if_pos (by omega),Bool.true_and]
theorem Bu (S:Nat→Prop) (xs:List (It)) (v:Value) (w:World) (hR : ∀i∈xs,∀x∈i.xs,tH x) (hv:bP 2 Bo S w xs v) :
  Calls Tryz.prog 55 #[v] w fun e w'=>e = .returned (.bool (aX xs 1 8 rJ))∧Below w.heap.size w w':=by
 have HV:=hid hv
 obtain⟨aa,cc,css,rfl,h1,h2,_⟩:=hv
 unfold maxLen at h2
 have HR:=hid hR
 have HM:=hid (fun V=>l9 xs.length 8 (by omega) (by decide) V)
 have HFA:=hid (fun x (hx:x∈xs) (hp:rJ x=false)=>qC (lo:=1) (hi:=8) hx hp)
 have HTR:=hid (fun (h:xs.all rJ=true)=>nA (lo:=1) (hi:=8) h)
 obtain⟨X,hX⟩:∃X,aX xs 1 8 rJ=X:=⟨_,rfl⟩
 rw[hX] at HFA HTR ⊢
 clear hX hR
 go_enter Tryz.func55,Tryz.ntmps55
 go_wp2_with fail
 go_loopw [3,4,5] (fun i _ _ wr=>∃(k:Nat),k≤xs.length∧i = .int .i64 k∧Below w.heap.size w wr∧Hid ((xs.take k).all rJ=true)) (fun i _ _ _=>xs.length-(intOf i).toNat)
 case atStart=>exact⟨0,Nat.zero_le _,rfl,Below.refl _ _,hid rfl⟩
 case round =>
  obtain⟨k,hk,rfl,hbel,HK⟩:=hrel
  by_cases hlt:k<xs.length
  ·obtain⟨x,hx⟩:∃x,xs[k]?=some x:=⟨_,List.getElem?_eq_getElem hlt⟩
   have hlt':((k:Int)<(xs.length:Int)):=by omega
   obtain⟨_,_,_,b,off,cs,rfl,_,hel,hcell⟩:=lD (HV.out.to (T:=S) (by decide) (R:=fun _=>False) (aj.aC hbel) (fun b hb _=>⟨id,hb⟩) (fun _ _ e=>e.to (R:=fun _=>False) (aj.aC hbel) (fun b hb _=>⟨id,hb⟩))) hx
   have hxm:=List.mem_of_getElem? hx
   have HXF:=hid (HFA.out x hxm)
   have HTT:=hid (iI rJ hx)
   have HBR:=hid hbel
   obtain⟨aa1,nn1,cc1,rfl,hay⟩:=hel
   have q0:=hcell 0 _ rfl
   have q1:=hcell 1 _ rfl
   simp only[Nat.add_zero] at q0
   have hbl:b<wr.heap.size:=World.block_lt_of_cell? wr _ q0
   have HQS:=hid (fun (V:World) (hV:Below wr.heap.size wr V)=>(⟨(hV.cell (p:=⟨b,off+k*2,none⟩) hbl).trans q0,(hV.cell (p:=⟨b,off+k*2+1,none⟩) hbl).trans q1⟩:V.cell? ⟨b,off+k*2,none⟩=some (.int .i64 x.k)∧V.cell? ⟨b,off+k*2+1,none⟩=some (.slice aa1 nn1 cc1)))
   have HRG:=hid (sQ S x.xs _ wr (HR.out x hxm) hay)
   have hnl:nn1=x.xs.length:=by obtain⟨_,_,hf,_⟩:=hay.form;simp only[Value.slice.injEq] at hf;exact hf.2.1
   have hitn:rJ x=FW x.k nn1 (x.xs.all aK):=by rw[hnl];exact JC x
   rw[hitn] at HXF HTT
   generalize x.xs.all aK=br at HRG HXF HTT
   clear hbel hcell hx hxm hitn hnl hay
   generalize x.k=K at q0 HQS HXF HTT
   by_cases e1:K=1
   ·have n1:(K==1)=true:=by rw[e1];rfl
    go_wp2_with fail
    refine HRG.out.mono ?_
    rintro e w2 ⟨rfl,hb2⟩
    obtain⟨q0,q1⟩:=HQS.out w2 hb2
    have HB2:=hid (HBR.out.trans (hb2.mono HBR.out.size))
    clear hb2 HRG HBR HQS
    cases br with
    |
     false =>
     have HXX:=hid (HXF.out (Ar K nn1))
     clear HXF HTT HK
     go_wp2
     go_ret
     exact⟨HXX.out.symm ▸ rfl,HB2.out⟩
    |
     true =>
     have lo : ¬K<1:=by omega
     ·have hi : ¬7<K:=by omega
      ·have hyes:=EF (.inl e1) (n:=nn1)
       rw[hyes] at HXF HTT
       clear hyes
       by_cases hn:nn1=0
       ·subst hn
        have HK2:Hid ((xs.take (k+1)).all rJ=true):=hid (by rw[HTT.out,HK.out];rfl)
        clear HXF HTT HK
        go_wp2
        go_roundw
        case rel=>exact⟨k+1,by omega,by go_num,HB2.out,HK2⟩
        case measure=>simp[intOf];omega
       ·have hnb:((nn1:Int) != 0)=true:=by rw[bne_iff_ne];omega
        have HXX:=hid (HXF.out (decide_eq_false hn))
        clear HXF HTT HK hn
        go_wp2
        go_ret
        exact⟨HXX.out.symm ▸ rfl,HB2.out⟩
   ·have n1:(K==1)=false:=by rw[beq_eq_false_iff_ne];exact e1
    by_cases e3:K=3
    ·have n3:(K==3)=true:=by rw[e3];rfl
     go_wp2_with fail
     refine HRG.out.mono ?_
     rintro e w2 ⟨rfl,hb2⟩
     obtain⟨q0,q1⟩:=HQS.out w2 hb2
     have HB2:=hid (HBR.out.trans (hb2.mono HBR.out.size))
     clear hb2 HRG HBR HQS
     cases br with
     |
      false =>
      have HXX:=hid (HXF.out (Ar K nn1))
      clear HXF HTT HK
      go_wp2
      go_ret
      exact⟨HXX.out.symm ▸ rfl,HB2.out⟩
     |
      true =>
      have lo : ¬K<1:=by omega
      ·have hi : ¬7<K:=by omega
       ·have hyes:=EF (.inr e3) (n:=nn1)
        rw[hyes] at HXF HTT
        clear hyes
        by_cases hn:nn1=0
        ·subst hn
         have HK2:Hid ((xs.take (k+1)).all rJ=true):=hid (by rw[HTT.out,HK.out];rfl)
         clear HXF HTT HK
         go_wp2
         go_roundw
         case rel=>exact⟨k+1,by omega,by go_num,HB2.out,HK2⟩
         case measure=>simp[intOf];omega
        ·have hnb:((nn1:Int) != 0)=true:=by rw[bne_iff_ne];omega
         have HXX:=hid (HXF.out (decide_eq_false hn))
         clear HXF HTT HK hn
         go_wp2
         go_ret
         exact⟨HXX.out.symm ▸ rfl,HB2.out⟩
    ·have n3:(K==3)=false:=by rw[beq_eq_false_iff_ne];exact e3
     go_wp2_with fail
     refine HRG.out.mono ?_
     rintro e w2 ⟨rfl,hb2⟩
     obtain⟨q0,q1⟩:=HQS.out w2 hb2
     have HB2:=hid (HBR.out.trans (hb2.mono HBR.out.size))
     clear hb2 HRG HBR HQS
     cases br with
     |
      false =>
      have HXX:=hid (HXF.out (Ar K nn1))
      clear HXF HTT HK
      go_wp2
      go_ret
      exact⟨HXX.out.symm ▸ rfl,HB2.out⟩
     |
      true =>
      by_cases lo:K<1
      ·have HXX:=hid (HXF.out (Ci (.inl lo)))
       clear HXF HTT HK
       go_wp2
       go_ret
       exact⟨HXX.out.symm ▸ rfl,HB2.out⟩
      ·by_cases hi:7<K
       ·have HXX:=hid (HXF.out (Ci (.inr hi)))
        clear HXF HTT HK
        go_wp2
        go_ret
        exact⟨HXX.out.symm ▸ rfl,HB2.out⟩
       ·have hyes:=J3 e1 e3 lo hi (n:=nn1)
        rw[hyes] at HXF HTT
        clear hyes
        by_cases hn:nn1=1
        ·subst hn
         have HK2:Hid ((xs.take (k+1)).all rJ=true):=hid (by rw[HTT.out,HK.out];rfl)
         clear HXF HTT HK
         go_wp2
         go_roundw
         case rel=>exact⟨k+1,by omega,by go_num,HB2.out,HK2⟩
         case measure=>simp[intOf];omega
        ·have hnb:((nn1:Int) != 1)=true:=by rw[bne_iff_ne];omega
         have HXX:=hid (HXF.out (decide_eq_false hn))
         clear HXF HTT HK hn
         go_wp2
         go_ret
         exact⟨HXX.out.symm ▸ rfl,HB2.out⟩
  ·have hlt' : ¬((k:Int)<(xs.length:Int)):=by omega
   have HXT:Hid (decide (1≤xs.length∧xs.length≤8)=X):=hid (by have:=HK.out;rw[List.take_of_length_le (by omega)] at this;exact HTR.out this)
   have HMW:=hid (HM.out wr)
   have HB2:=hid hbel
   clear hbel HK HTR HFA HM
   rw[HXT.out] at HMW
   clear HXT
   go_wp2_with fail
   refine HMW.out.mono ?_
   rintro e w2 ⟨rfl,rfl⟩
   go_wp2
   go_ret
   exact⟨rfl,HB2.out⟩
theorem DF (S:Nat→Prop) (xs:List (List Vl)) (v:Value) (w:World) (hR : ∀r∈xs,∀v∈r,KD v) (hv:bP 1 D6 S w xs v) :
  Calls Tryz.prog 52 #[v] w fun e w'=>e = .returned (.bool (aX xs 1 16 nG))∧Below w.heap.size w w':=by
 have HV:=hid hv
 obtain⟨aa,cc,css,rfl,h1,h2,_⟩:=hv
 unfold maxLen at h2
 have HR:=hid hR
 have HM:=hid (fun V=>l9 xs.length 16 (by omega) (by decide) V)
 have HFA:=hid (fun x (hx:x∈xs) (hp:nG x=false)=>qC (lo:=1) (hi:=16) hx hp)
 have HTR:=hid (fun (h:xs.all nG=true)=>nA (lo:=1) (hi:=16) h)
 obtain⟨X,hX⟩:∃X,aX xs 1 16 nG=X:=⟨_,rfl⟩
 rw[hX] at HFA HTR ⊢
 clear hX hR
 go_enter Tryz.func52,Tryz.ntmps52
 go_wp2_with fail
 go_loopw [3,4,5] (fun i _ _ wr=>∃(k:Nat),k≤xs.length∧i = .int .i64 k∧Below w.heap.size w wr∧Hid ((xs.take k).all nG=true)) (fun i _ _ _=>xs.length-(intOf i).toNat)
 case atStart=>exact⟨0,Nat.zero_le _,rfl,Below.refl _ _,hid rfl⟩
 case round =>
  obtain⟨k,hk,rfl,hbel,HK⟩:=hrel
  by_cases hlt:k<xs.length
  ·obtain⟨x,hx⟩:∃x,xs[k]?=some x:=⟨_,List.getElem?_eq_getElem hlt⟩
   have hlt':((k:Int)<(xs.length:Int)):=by omega
   obtain⟨_,_,_,b,off,cs,rfl,_,hel,hcell⟩:=lD (HV.out.to (T:=S) (by decide) (R:=fun _=>False) (aj.aC hbel) (fun b hb _=>⟨id,hb⟩) (fun _ _ e=>e.to (R:=fun _=>False) (aj.aC hbel) (fun b hb _=>⟨id,hb⟩))) hx
   have hxm:=List.mem_of_getElem? hx
   have HXF:=hid (HFA.out x hxm)
   have HTT:=hid (iI nG hx)
   have HBR:=hid hbel
   obtain⟨aa1,nn1,cc1,rfl,hay⟩:=hel
   have q0:=hcell 0 _ rfl
   simp only[Nat.add_zero,Nat.mul_one] at q0
   have hbl:b<wr.heap.size:=World.block_lt_of_cell? wr _ q0
   have HQS:=hid (fun (V:World) (hV:Below wr.heap.size wr V)=>(hV.cell (p:=⟨b,off+k,none⟩) hbl).trans q0)
   have HAY:=hid hay
   have HRX:=hid (HR.out x hxm)
   have hnl:nn1=x.length∧nn1≤9223372036854775807:=by
    obtain⟨_,_,_,hf,hl1,hl2,_⟩:=hay
    simp only[Value.slice.injEq] at hf
    unfold maxLen at hl2
    omega
   obtain⟨hnl,hnm⟩:=hnl
   subst hnl
   have hrB:nG x=aX x 1 8 dL:=rfl
   rw[hrB] at HXF HTT
   have HFX:=hid (fun y (hy:y∈x) (hp:dL y=false)=>HXF.out (qC hy hp))
   have HTX:=hid (fun (h:x.all dL=true)=>nA (lo:=1) (hi:=8) h)
   have HMX:=hid (fun V=>l9 x.length 8 hnm (by decide) V)
   clear hbel hcell hx hxm hrB hay
   obtain⟨wo,hwo⟩:∃wo,wo=wr:=⟨_,rfl⟩
   have HB0:Hid (Below wo.heap.size wo wr):=hid (by rw[hwo];exact Below.refl _ _)
   rw[← hwo] at HQS HAY HBR hbl
   clear hwo q0
   go_wp2_with fail
   go_loopw [4,5] (fun i _ wi=>∃(j:Nat),j≤x.length∧i = .int .i64 j∧Below wo.heap.size wo wi∧Hid ((x.take j).all dL=true)) (fun i _ _=>x.length-(intOf i).toNat)
   case atStart=>exact⟨0,Nat.zero_le _,rfl,HB0.out,hid rfl⟩
   case round =>
    clear HB0
    obtain⟨j,hj,rfl,hbi,HJ⟩:=hrel
    have q0:=HQS.out wr hbi
    have HBI:=hid (HBR.out.trans (hbi.mono HBR.out.size))
    by_cases hjt:j<x.length
    ·obtain⟨y,hy⟩:∃y,x[j]?=some y:=⟨_,List.getElem?_eq_getElem hjt⟩
     have hjt':((j:Int)<(x.length:Int)):=by omega
     obtain⟨_,_,_,b2,off2,cs2,rfl,_,hel2,hcell2⟩:=lD (HAY.out.to (T:=S) (by decide) (R:=fun _=>False) (aj.aC hbi) (fun b hb _=>⟨id,hb⟩) (fun _ _ e=>e)) hy
     obtain rfl:=hel2
     have r0:=hcell2 0 _ rfl
     have r1:=hcell2 1 _ rfl
     have r2:=hcell2 2 _ rfl
     simp only[Nat.add_zero] at r0
     have hym:=List.mem_of_getElem? hy
     have hry:=HRX.out y hym
     have HV1:=hid (uK y.k y.n y.s wr hry.1 hry.2.1 hry.2.2)
     have HTJ:=hid (iI dL hy)
     have HFY:=hid (HFX.out y hym)
     have HBJ:=hid hbi
     clear hcell2 hy hym hry hbi
     cases hp:dL y with
     |
      true =>
      rw[show dL ⟨y.k,y.n,y.s⟩=dL y from rfl,hp] at HV1
      have HJ2:Hid ((x.take (j+1)).all dL=true):=hid (by rw[HTJ.out,HJ.out,hp];rfl)
      clear HJ hp HTJ HFY
      go_wp2_with fail
      refine HV1.out.mono ?_
      rintro e w2 ⟨rfl,hb2⟩
      have HB2:=hid (HBJ.out.trans (hb2.mono HBJ.out.size))
      clear hb2 HV1
      go_wp2
      go_roundw
      case rel=>exact⟨j+1,by omega,by go_num,HB2.out,HJ2⟩
      case measure=>simp[intOf];omega
     |
      false =>
      rw[show dL ⟨y.k,y.n,y.s⟩=dL y from rfl,hp] at HV1
      have HXX:=hid (HFY.out hp)
      clear HJ hp HTJ HFY
      go_wp2_with fail
      refine HV1.out.mono ?_
      rintro e w2 ⟨rfl,hb2⟩
      have HB2:=hid (HBI.out.trans (hb2.mono HBI.out.size))
      clear hb2 HV1
      go_wp2
      go_ret
      exact⟨HXX.out.symm ▸ rfl,HB2.out⟩
    ·have hjt' : ¬((j:Int)<(x.length:Int)):=by omega
     have hall:x.all dL=true:=by have:=HJ.out;rw[List.take_of_length_le (by omega)] at this;exact this
     have HMW:=hid (HMX.out wr)
     rw[HTX.out hall] at HMW
     have HB2:=HBI
     clear hall HJ HTX HMX HFX hbi HBI
     cases hp:aX x 1 8 dL with
     |
      true =>
      rw[hp] at HMW
      have HK2:Hid ((xs.take (k+1)).all nG=true):=hid (by rw[HTT.out,HK.out,hp];rfl)
      clear HXF HTT HK hp
      go_wp2_with fail
      refine HMW.out.mono ?_
      rintro e w2 ⟨rfl,rfl⟩
      go_wp2
      go_roundw
      case rel=>exact⟨k+1,by omega,by go_num,HB2.out,HK2⟩
      case measure=>simp[intOf];omega
     |
      false =>
      rw[hp] at HMW
      have HXX:=hid (HXF.out hp)
      clear HXF HTT HK hp
      go_wp2_with fail
      refine HMW.out.mono ?_
      rintro e w2 ⟨rfl,rfl⟩
      go_wp2
      go_ret
      exact⟨HXX.out.symm ▸ rfl,HB2.out⟩
  ·have hlt' : ¬((k:Int)<(xs.length:Int)):=by omega
   have HXT:Hid (decide (1≤xs.length∧xs.length≤16)=X):=hid (by have:=HK.out;rw[List.take_of_length_le (by omega)] at this;exact HTR.out this)
   have HMW:=hid (HM.out wr)
   have HB2:=hid hbel
   clear hbel HK HTR HFA HM
   rw[HXT.out] at HMW
   clear HXT
   go_wp2_with fail
   refine HMW.out.mono ?_
   rintro e w2 ⟨rfl,rfl⟩
   go_wp2
   go_ret
   exact⟨rfl,HB2.out⟩
theorem H8 (S:Nat→Prop) (s:St) (cs:List Value) (w:World) (hR:yc s) (hx:jK S w s cs) (hk:s.k=1) :
  Calls Tryz.prog 32 #[.agg cs.toArray] w fun e w'=>e = .returned (.bool (aM s))∧Below w.heap.size w w':=by
 obtain⟨a1,a2,a3,a4,a5,a6,a7,a8,n1,n2,n3,n4,n5,n6,n7,n8,c1,c2,c3,c4,c5,c6,c7,c8,rfl,x1,x2,x3,x4,x5,x6,x7,x8⟩:=hx
 have e1:n1=s.cols.length:=by obtain⟨_,_,hf⟩:=x1.form;simp only[Value.slice.injEq] at hf;exact hf.2.1
 have e2:n2=s.rows.length:=by obtain⟨_,_,hf⟩:=x2.form;simp only[Value.slice.injEq] at hf;exact hf.2.1
 have e3:n3=s.sets.length:=by obtain⟨_,_,hf⟩:=x3.form;simp only[Value.slice.injEq] at hf;exact hf.2.1
 have e4:n4=s.items.length:=by obtain⟨_,_,hf⟩:=x4.form;simp only[Value.slice.injEq] at hf;exact hf.2.1
 have e5:n5=s.on.length:=by obtain⟨_,_,hf,_⟩:=x5.form;simp only[Value.slice.injEq] at hf;exact hf.2.1
 have e6:n6=s.wh.length:=by obtain⟨_,_,hf,_⟩:=x6.form;simp only[Value.slice.injEq] at hf;exact hf.2.1
 have e7:n7=s.gr.length:=by obtain⟨_,_,hf,_⟩:=x7.form;simp only[Value.slice.injEq] at hf;exact hf.2.1
 have e8:n8=s.od.length:=by obtain⟨_,_,hf,_⟩:=x8.form;simp only[Value.slice.injEq] at hf;exact hf.2.1
 obtain⟨k,tn,cols,prim,rows,sets,items,jn,on,wh,gr,od,desc,lim⟩:=s
 obtain⟨rt,rp,rj,rl,rc,rr,rs,ri,ro,rw',rg,rd⟩:=hR
 dsimp only at *
 subst hk
 obtain⟨W,hW,hbW,hzW,hcW⟩:=bF w (.cells #[.int .i64 1,.string (ah tn),.slice a1 n1 c1,.string (ah prim),.slice a2 n2 c2,.slice a3 n3 c3,.slice a4 n4 c4,.string (ah jn),.slice a5 n5 c5,.slice a6 n6 c6,.slice a7 n7 c7,.slice a8 n8 c8,.bool desc,.int .i64 lim] 28)
 have k0:=aG hcW
 have HC0:=hid hcW
 have HBW:=hid hbW
 have HW0:Hid (Below W.heap.size W W):=hid (Below.refl _ _)
 have HNT:=hid (eT tn W rt)
 have HC:=hid (fun V (hV0:Below W.heap.size W V)=>by have hV:=HBW.out.trans (hV0.mono HBW.out.size);exact wQ S cols _ V rc (x1.to (by decide) (R:=fun _=>False) (T:=S) (aj.aC hV) (fun b hb _=>⟨id,hb⟩) (fun _ _ e=>e)))
 have HP:=hid (fun V=>eT prim V rp)
 obtain⟨X,hX⟩:∃X,aM ⟨1,tn,cols,prim,rows,sets,items,jn,on,wh,gr,od,desc,lim⟩=X:=⟨_,rfl⟩
 rw[hX]
 have hXe:X=((aX cols 1 8 gB&&aQ prim)&&(aQ tn&&decide (n2=0∧n3=0∧n6=0∧n4=0∧jn=[]∧n5=0∧n7=0∧n8=0∧desc=false∧lim = -1))):=by
  rw[← hX]
  unfold aM
  refine gD rfl (gD rfl ?_)
  show mQ ⟨0,[],[],[],rows,sets,items,jn,on,wh,gr,od,desc,lim⟩=_
  unfold mQ
  dsimp only
  rw[Bool.eq_iff_iff,decide_eq_true_eq,decide_eq_true_eq,e2,e3,e4,e5,e6,e7,e8]
  exact⟨fun ⟨_,_,h_cols,h_prim,h_rows,h_sets,h_items,h_jn,h_on,h_wh,h_gr,h_od,h_desc,h_lim⟩=>⟨h_rows,h_sets,h_wh,h_items,h_jn,h_on,h_gr,h_od,h_desc,h_lim⟩,fun ⟨h_rows,h_sets,h_wh,h_items,h_jn,h_on,h_gr,h_od,h_desc,h_lim⟩=>⟨rfl,rfl,rfl,rfl,h_rows,h_sets,h_items,h_jn,h_on,h_wh,h_gr,h_od,h_desc,h_lim⟩⟩
 clear hX
 generalize aX cols 1 8 gB=b1 at HC hXe
 generalize aQ prim=b2 at HP hXe
 generalize aQ tn=bn at HNT hXe
 have HXN:Hid (bn=false→X=false):=hid (fun h=>by rw[hXe,h,Bool.false_and,Bool.and_false])
 have HXF:Hid (¬(n2=0∧n3=0∧n6=0∧n4=0∧jn=[]∧n5=0∧n7=0∧n8=0∧desc=false∧lim = -1)→X=false):=hid (fun h=>by rw[hXe,decide_eq_false h,Bool.and_false,Bool.and_false])
 have HXT:Hid (bn=true→(n2=0∧n3=0∧n6=0∧n4=0∧jn=[]∧n5=0∧n7=0∧n8=0∧desc=false∧lim = -1)→X=(b1&&b2)):=hid (fun h1 h=>by rw[hXe,decide_eq_true h,h1];simp)
 clear hXe e1 e2 e3 e4 e5 e6 e7 e8 x1 x2 x3 x4 x5 x6 x7 x8 rt rp rj rc rr rs ri ro rw' rg rd hcW hbW
 go_enter Tryz.func32,Tryz.ntmps32
 go_wp2_with fail
 try rw[hW]
 clear hW k0
 refine HNT.out.mono ?_
 rintro e w1 ⟨rfl,hb1⟩
 have HW1:=hid (HW0.out.trans (hb1.mono HW0.out.size))
 have HB1:=hid (HBW.out.trans (HW1.out.mono HBW.out.size))
 have kk:=aG ((HW1.out.block w.heap.size hzW).trans HC0.out)
 clear hb1 HNT HW0
 cases bn with
 |
  false =>
  have HXX:=hid (HXN.out rfl)
  clear HXN HXF HXT
  go_wp2
  go_ret
  exact⟨HXX.out.symm ▸ rfl,HB1.out⟩
 |
  true =>
  clear HXN
  rcases Nat.eq_zero_or_pos n2 with c0 | c0
  ·subst c0
   rcases Nat.eq_zero_or_pos n3 with c1 | c1
   ·subst c1
    rcases Nat.eq_zero_or_pos n6 with c2 | c2
    ·subst c2
     rcases Nat.eq_zero_or_pos n4 with c3 | c3
     ·subst c3
      by_cases c4:jn=[]
      ·have t4:(ah jn).toList.isEmpty=true:=by rw[bE,decide_eq_true c4]
       have d4:=hid c4
       clear c4
       rcases Nat.eq_zero_or_pos n5 with c5 | c5
       ·subst c5
        rcases Nat.eq_zero_or_pos n7 with c6 | c6
        ·subst c6
         rcases Nat.eq_zero_or_pos n8 with c7 | c7
         ·subst c7
          cases desc with
          |
           true =>
           have HXX:=hid (HXF.out (fun h=>by obtain⟨q0,q1,q2,q3,q4,q5,q6,q7,q8,q9⟩:=h;cases q8))
           clear HXF HXT
           go_wp2
           go_ret
           exact⟨HXX.out.symm ▸ rfl,HB1.out⟩
          |
           false =>
           by_cases c9:lim = -1
           ·have t9:(lim != -1)=false:=by rw[c9];rfl
            have d9:=hid c9
            clear c9
            have HXX:=hid (HXT.out rfl ⟨rfl,rfl,rfl,rfl,d4.out,rfl,rfl,rfl,rfl,d9.out⟩)
            clear HXF HXT
            have HC1:=hid (HC.out w1 HW1.out)
            clear HC
            go_wp2_with fail
            refine HC1.out.mono ?_
            rintro e w2 ⟨rfl,hb2⟩
            have HW2:=hid (HW1.out.trans (hb2.mono HW1.out.size))
            have HB1:=hid (HBW.out.trans (HW2.out.mono HBW.out.size))
            have kk:=aG ((HW2.out.block w.heap.size hzW).trans HC0.out)
            clear hb2 HC1 HW1
            cases b1 with
            |
             false =>
             clear HP
             go_wp2
             go_ret
             exact⟨HXX.out.symm ▸ rfl,HB1.out⟩
            |
             true =>
             have HC2:=hid (HP.out w2)
             clear HP
             go_wp2_with fail
             refine HC2.out.mono ?_
             rintro e w3 ⟨rfl,hb3⟩
             have HW3:=hid (HW2.out.trans (hb3.mono HW2.out.size))
             have HB1:=hid (HBW.out.trans (HW3.out.mono HBW.out.size))
             have kk:=aG ((HW3.out.block w.heap.size hzW).trans HC0.out)
             clear hb3 HC2 HW2
             go_wp2
             go_ret
             exact⟨HXX.out.symm ▸ rfl,HB1.out⟩
           ·have t9:(lim != -1)=true:=by rw[bne_iff_ne];exact c9
            have HXX:=hid (HXF.out (fun h=>by obtain⟨q0,q1,q2,q3,q4,q5,q6,q7,q8,q9⟩:=h;exact c9 q9))
            clear HXF HXT c9
            go_wp2
            go_ret
            exact⟨HXX.out.symm ▸ rfl,HB1.out⟩
         ·have t7:((0:Int)<(n8:Int)):=by omega
          have HXX:=hid (HXF.out (fun h=>by obtain⟨q0,q1,q2,q3,q4,q5,q6,q7,q8,q9⟩:=h;omega))
          clear HXF HXT c7
          go_wp2
          go_ret
          exact⟨HXX.out.symm ▸ rfl,HB1.out⟩
        ·have t6:((0:Int)<(n7:Int)):=by omega
         have HXX:=hid (HXF.out (fun h=>by obtain⟨q0,q1,q2,q3,q4,q5,q6,q7,q8,q9⟩:=h;omega))
         clear HXF HXT c6
         go_wp2
         go_ret
         exact⟨HXX.out.symm ▸ rfl,HB1.out⟩
       ·have t5:((0:Int)<(n5:Int)):=by omega
        have HXX:=hid (HXF.out (fun h=>by obtain⟨q0,q1,q2,q3,q4,q5,q6,q7,q8,q9⟩:=h;omega))
        clear HXF HXT c5
        go_wp2
        go_ret
        exact⟨HXX.out.symm ▸ rfl,HB1.out⟩
      ·have t4:(ah jn).toList.isEmpty=false:=by rw[bE,decide_eq_false c4]
       have HXX:=hid (HXF.out (fun h=>by obtain⟨q0,q1,q2,q3,q4,q5,q6,q7,q8,q9⟩:=h;exact c4 q4))
       clear HXF HXT c4
       go_wp2
       go_ret
       exact⟨HXX.out.symm ▸ rfl,HB1.out⟩
     ·have t3:((0:Int)<(n4:Int)):=by omega
      have HXX:=hid (HXF.out (fun h=>by obtain⟨q0,q1,q2,q3,q4,q5,q6,q7,q8,q9⟩:=h;omega))
      clear HXF HXT c3
      go_wp2
      go_ret
      exact⟨HXX.out.symm ▸ rfl,HB1.out⟩
    ·have t2:((0:Int)<(n6:Int)):=by omega
     have HXX:=hid (HXF.out (fun h=>by obtain⟨q0,q1,q2,q3,q4,q5,q6,q7,q8,q9⟩:=h;omega))
     clear HXF HXT c2
     go_wp2
     go_ret
     exact⟨HXX.out.symm ▸ rfl,HB1.out⟩
   ·have t1:((0:Int)<(n3:Int)):=by omega
    have HXX:=hid (HXF.out (fun h=>by obtain⟨q0,q1,q2,q3,q4,q5,q6,q7,q8,q9⟩:=h;omega))
    clear HXF HXT c1
    go_wp2
    go_ret
    exact⟨HXX.out.symm ▸ rfl,HB1.out⟩
  ·have t0:((0:Int)<(n2:Int)):=by omega
   have HXX:=hid (HXF.out (fun h=>by obtain⟨q0,q1,q2,q3,q4,q5,q6,q7,q8,q9⟩:=h;omega))
   clear HXF HXT c0
   go_wp2
   go_ret
   exact⟨HXX.out.symm ▸ rfl,HB1.out⟩
end Go.Proofs.YtaaggohjmhifbaaGreatDoor
