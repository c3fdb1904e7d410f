/- Packed for the hand-in: RefJM6 -/
import Derived.Test.YtaaggohjmhifbaaGreatDoorY45
import Derived.Test.YtaaggohjmhifbaaGreatDoorY26
namespace Go.Proofs.YtaaggohjmhifbaaGreatDoor
open Go.RowKit Go.Shelf
set_option linter.unusedSimpArgs false
set_option linter.unusedVariables false
set_option maxRecDepth 20000
set_option maxHeartbeats 8000000
theorem Ai:aQ []=false:=by decide
theorem Dm (s:St) (hl:s.lim≤9223372036854775807):Af s=(aX s.items 1 8 rJ&&(((decide (s.jn=[])&&decide (s.on.length=0))||(aQ s.jn&&decide (s.on.length=1)))&&(aX s.on 0 1 aK&&(aX s.wh 0 1 aK&&(aX s.gr 0 1 fJ&&(aX s.od 0 1 fJ&&((!s.desc||decide (s.od.length=1))&&decide (-1≤s.lim)))))))):=by
 have h1:decide (-1≤s.lim∧s.lim≤9223372036854775807)=decide (-1≤s.lim):=by rw[Bool.eq_iff_iff,decide_eq_true_eq,decide_eq_true_eq];omega
 have h2 : ∀R:Bool,(qW s.jn&&(aX s.on (kF s.jn) (kF s.jn) aK&&R))=(((decide (s.jn=[])&&decide (s.on.length=0))||(aQ s.jn&&decide (s.on.length=1)))&&(aX s.on 0 1 aK&&R)):=fun R=>by
  unfold qW kF aX
  by_cases hj:s.jn=[]
  ·rw[decide_eq_true hj,if_pos hj,hj,Ai]
   by_cases ho:s.on.length=0
   ·simp[ho]
   ·simp[ho]
  ·rw[decide_eq_false hj,if_neg hj]
   by_cases ho:s.on.length=1
   ·simp[ho]
   ·have : ¬(1≤s.on.length∧s.on.length≤1):=by omega
    simp[ho,this]
 unfold Af
 rw[h1,h2]
theorem IG (S:Nat→Prop) (s:St) (cs:List Value) (w:World) (hR:yc s) (hx:jK S w s cs) (hk:s.k=6) :
  Calls Tryz.prog 32 #[.agg cs.toArray] w fun e w'=>e = .returned (.bool (aM s))∧Below w.heap.size w w':=by
 obtain⟨a1,a2,a3,a4,a5,a6,a7,a8,n1,n2,n3,n4,n5,n6,n7,n8,c1,c2,c3,c4,c5,c6,c7,c8,rfl,x1,x2,x3,x4,x5,x6,x7,x8⟩:=hx
 have e1:n1=s.cols.length:=by obtain⟨_,_,hf⟩:=x1.form;simp only[Value.slice.injEq] at hf;exact hf.2.1
 have e2:n2=s.rows.length:=by obtain⟨_,_,hf⟩:=x2.form;simp only[Value.slice.injEq] at hf;exact hf.2.1
 have e3:n3=s.sets.length:=by obtain⟨_,_,hf⟩:=x3.form;simp only[Value.slice.injEq] at hf;exact hf.2.1
 have e4:n4=s.items.length:=by obtain⟨_,_,hf⟩:=x4.form;simp only[Value.slice.injEq] at hf;exact hf.2.1
 have e5:n5=s.on.length:=by obtain⟨_,_,hf,_⟩:=x5.form;simp only[Value.slice.injEq] at hf;exact hf.2.1
 have e6:n6=s.wh.length:=by obtain⟨_,_,hf,_⟩:=x6.form;simp only[Value.slice.injEq] at hf;exact hf.2.1
 have e7:n7=s.gr.length:=by obtain⟨_,_,hf,_⟩:=x7.form;simp only[Value.slice.injEq] at hf;exact hf.2.1
 have e8:n8=s.od.length:=by obtain⟨_,_,hf,_⟩:=x8.form;simp only[Value.slice.injEq] at hf;exact hf.2.1
 obtain⟨k,tn,cols,prim,rows,sets,items,jn,on,wh,gr,od,desc,lim⟩:=s
 obtain⟨rt,rp,rj,rl,rc,rr,rs,ri,ro,rw',rg,rd⟩:=hR
 dsimp only at *
 subst hk
 obtain⟨W,hW,hbW,hzW,hcW⟩:=bF w (.cells #[.int .i64 6,.string (ah tn),.slice a1 n1 c1,.string (ah prim),.slice a2 n2 c2,.slice a3 n3 c3,.slice a4 n4 c4,.string (ah jn),.slice a5 n5 c5,.slice a6 n6 c6,.slice a7 n7 c7,.slice a8 n8 c8,.bool desc,.int .i64 lim] 28)
 have k0:=aG hcW
 have HC0:=hid hcW
 have HBW:=hid hbW
 have HW0:Hid (Below W.heap.size W W):=hid (Below.refl _ _)
 have HNT:=hid (eT tn W rt)
 have HI:=hid (fun V (hV0:Below W.heap.size W V)=>by have hV:=HBW.out.trans (hV0.mono HBW.out.size);exact Bu S items _ V ri (x4.to (by decide) (R:=fun _=>False) (T:=S) (aj.aC hV) (fun b hb _=>⟨id,hb⟩) (fun _ _ e=>e.to (R:=fun _=>False) (T:=S) (aj.aC hV) (fun b hb _=>⟨id,hb⟩))))
 have HJ:=hid (fun V=>eT jn V rj)
 have HO:=hid (fun V (hV0:Below W.heap.size W V)=>nP S on _ V ro (x5.new (HBW.out.trans (hV0.mono HBW.out.size))))
 have HO2:=hid (fun V (hV0:Below W.heap.size W V)=>nP S wh _ V rw' (x6.new (HBW.out.trans (hV0.mono HBW.out.size))))
 have HG:=hid (fun V (hV0:Below W.heap.size W V)=>vN S gr _ V rg (x7.new (HBW.out.trans (hV0.mono HBW.out.size))))
 have HD:=hid (fun V (hV0:Below W.heap.size W V)=>vN S od _ V rd (x8.new (HBW.out.trans (hV0.mono HBW.out.size))))
 have HBJ:Hid (jn=[]→aQ jn=false):=hid (fun h=>by rw[h];decide)
 obtain⟨X,hX⟩:∃X,aM ⟨6,tn,cols,prim,rows,sets,items,jn,on,wh,gr,od,desc,lim⟩=X:=⟨_,rfl⟩
 rw[hX]
 have hXe:X=((aX items 1 8 rJ&&(((decide (jn=[])&&decide (n5=0))||(aQ jn&&decide (n5=1)))&&(aX on 0 1 aK&&(aX wh 0 1 aK&&(aX gr 0 1 fJ&&(aX od 0 1 fJ&&((!desc||decide (n8=1))&&decide (-1≤lim))))))))&&(aQ tn&&decide (n1=0∧prim=[]∧n2=0∧n3=0))):=by
  rw[← hX]
  unfold aM
  refine gD (by rw[e5,e8];exact Dm _ rl) (gD rfl ?_)
  show mQ ⟨0,[],cols,prim,rows,sets,[],[],[],[],[],[],false,-1⟩=_
  unfold mQ
  dsimp only
  rw[Bool.eq_iff_iff,decide_eq_true_eq,decide_eq_true_eq,e1,e2,e3]
  exact⟨fun ⟨_,_,h_cols,h_prim,h_rows,h_sets,h_items,h_jn,h_on,h_wh,h_gr,h_od,h_desc,h_lim⟩=>⟨h_cols,h_prim,h_rows,h_sets⟩,fun ⟨h_cols,h_prim,h_rows,h_sets⟩=>⟨rfl,rfl,h_cols,h_prim,h_rows,h_sets,rfl,rfl,rfl,rfl,rfl,rfl,rfl,rfl⟩⟩
 clear hX
 generalize aX items 1 8 rJ=b1 at HI hXe
 generalize aX on 0 1 aK=b2 at HO hXe
 generalize aX wh 0 1 aK=b3 at HO2 hXe
 generalize aX gr 0 1 fJ=b4 at HG hXe
 generalize aX od 0 1 fJ=b5 at HD hXe
 generalize aQ jn=bj at HJ HBJ hXe
 generalize aQ tn=bn at HNT hXe
 have HXN:Hid (bn=false→X=false):=hid (fun h=>by rw[hXe,h,Bool.false_and,Bool.and_false])
 have HXF:Hid (¬(n1=0∧prim=[]∧n2=0∧n3=0)→X=false):=hid (fun h=>by rw[hXe,decide_eq_false h,Bool.and_false,Bool.and_false])
 have HXT:Hid (bn=true→(n1=0∧prim=[]∧n2=0∧n3=0)→X=(b1&&(((decide (jn=[])&&decide (n5=0))||(bj&&decide (n5=1)))&&(b2&&(b3&&(b4&&(b5&&((!desc||decide (n8=1))&&decide (-1≤lim))))))))):=hid (fun h1 h=>by rw[hXe,decide_eq_true h,h1];simp)
 clear hXe e1 e2 e3 e4 e5 e6 e7 e8 x1 x2 x3 x4 x5 x6 x7 x8 rt rp rj rc rr rs ri ro rw' rg rd hcW hbW
 go_enter Tryz.func32,Tryz.ntmps32
 go_wp2_with fail
 try rw[hW]
 clear hW k0
 refine HNT.out.mono ?_
 rintro e w1 ⟨rfl,hb1⟩
 have HW1:=hid (HW0.out.trans (hb1.mono HW0.out.size))
 have HB1:=hid (HBW.out.trans (HW1.out.mono HBW.out.size))
 have kk:=aG ((HW1.out.block w.heap.size hzW).trans HC0.out)
 clear hb1 HNT HW0
 cases bn with
 |
  false =>
  have HXX:=hid (HXN.out rfl)
  clear HXN HXF HXT
  go_wp2
  go_ret
  exact⟨HXX.out.symm ▸ rfl,HB1.out⟩
 |
  true =>
  clear HXN
  rcases Nat.eq_zero_or_pos n1 with c0 | c0
  ·subst c0
   by_cases c1:prim=[]
   ·have t1:(ah prim).toList.isEmpty=true:=by rw[bE,decide_eq_true c1]
    have d1:=hid c1
    clear c1
    rcases Nat.eq_zero_or_pos n2 with c2 | c2
    ·subst c2
     rcases Nat.eq_zero_or_pos n3 with c3 | c3
     ·subst c3
      have HXX:=hid (HXT.out rfl ⟨rfl,d1.out,rfl,rfl⟩)
      clear HXF HXT
      by_cases hj:jn=[]
      ·have hjb:(ah jn).toList.isEmpty=true:=by rw[bE,decide_eq_true hj]
       rw[decide_eq_true hj] at HXX
       by_cases ho0:n5=0
       ·subst ho0
        rw[decide_eq_true rfl] at HXX
        clear HJ HBJ hj
        have HC1:=hid (HI.out w1 HW1.out)
        clear HI
        go_wp2_with fail
        refine HC1.out.mono ?_
        rintro e w2 ⟨rfl,hb2⟩
        have HW2:=hid (HW1.out.trans (hb2.mono HW1.out.size))
        have HB1:=hid (HBW.out.trans (HW2.out.mono HBW.out.size))
        have kk:=aG ((HW2.out.block w.heap.size hzW).trans HC0.out)
        clear hb2 HC1 HW1
        cases b1 with
        |
         false =>
         go_wp2
         go_ret
         exact⟨HXX.out.symm ▸ rfl,HB1.out⟩
        |
         true =>
         have HC2:=hid (HO.out w2 HW2.out)
         clear HO
         go_wp2_with fail
         refine HC2.out.mono ?_
         rintro e w3 ⟨rfl,hb3⟩
         have HW3:=hid (HW2.out.trans (hb3.mono HW2.out.size))
         have HB1:=hid (HBW.out.trans (HW3.out.mono HBW.out.size))
         have kk:=aG ((HW3.out.block w.heap.size hzW).trans HC0.out)
         clear hb3 HC2 HW2
         cases b2 with
         |
          false =>
          go_wp2
          go_ret
          exact⟨HXX.out.symm ▸ rfl,HB1.out⟩
         |
          true =>
          have HC3:=hid (HO2.out w3 HW3.out)
          clear HO2
          go_wp2_with fail
          refine HC3.out.mono ?_
          rintro e w4 ⟨rfl,hb4⟩
          have HW4:=hid (HW3.out.trans (hb4.mono HW3.out.size))
          have HB1:=hid (HBW.out.trans (HW4.out.mono HBW.out.size))
          have kk:=aG ((HW4.out.block w.heap.size hzW).trans HC0.out)
          clear hb4 HC3 HW3
          cases b3 with
          |
           false =>
           go_wp2
           go_ret
           exact⟨HXX.out.symm ▸ rfl,HB1.out⟩
          |
           true =>
           have HC4:=hid (HG.out w4 HW4.out)
           clear HG
           go_wp2_with fail
           refine HC4.out.mono ?_
           rintro e w5 ⟨rfl,hb5⟩
           have HW5:=hid (HW4.out.trans (hb5.mono HW4.out.size))
           have HB1:=hid (HBW.out.trans (HW5.out.mono HBW.out.size))
           have kk:=aG ((HW5.out.block w.heap.size hzW).trans HC0.out)
           clear hb5 HC4 HW4
           cases b4 with
           |
            false =>
            go_wp2
            go_ret
            exact⟨HXX.out.symm ▸ rfl,HB1.out⟩
           |
            true =>
            have HC5:=hid (HD.out w5 HW5.out)
            clear HD
            go_wp2_with fail
            refine HC5.out.mono ?_
            rintro e w6 ⟨rfl,hb6⟩
            have HW6:=hid (HW5.out.trans (hb6.mono HW5.out.size))
            have HB1:=hid (HBW.out.trans (HW6.out.mono HBW.out.size))
            have kk:=aG ((HW6.out.block w.heap.size hzW).trans HC0.out)
            clear hb6 HC5 HW5
            cases b5 with
            |
             false =>
             go_wp2
             go_ret
             exact⟨HXX.out.symm ▸ rfl,HB1.out⟩
            |
             true =>
             cases desc with
             |
              false =>
              go_wp2
              go_ret
              exact⟨HXX.out.symm ▸ rfl,HB1.out⟩
             |
              true =>
              by_cases ho:n8=1
              ·subst ho
               rw[decide_eq_true rfl] at HXX
               go_wp2
               go_ret
               exact⟨HXX.out.symm ▸ rfl,HB1.out⟩
              ·have hob:((n8:Int)==1)=false:=by rw[beq_eq_false_iff_ne];omega
               rw[decide_eq_false ho] at HXX
               clear ho
               go_wp2
               go_ret
               exact⟨HXX.out.symm ▸ rfl,HB1.out⟩
       ·have hon:((n5:Int)==0)=false:=by rw[beq_eq_false_iff_ne];omega
        rw[decide_eq_false ho0] at HXX
        have HJJ:=hid (HJ.out w1)
        rw[HBJ.out hj] at HJJ HXX
        clear HJ HBJ hj ho0
        go_wp2_with fail
        refine HJJ.out.mono ?_
        rintro e w2 ⟨rfl,hb2⟩
        have HW2:=hid (HW1.out.trans (hb2.mono HW1.out.size))
        have HB1:=hid (HBW.out.trans (HW2.out.mono HBW.out.size))
        have kk:=aG ((HW2.out.block w.heap.size hzW).trans HC0.out)
        clear hb2 HJJ HW1
        have HC2:=hid (HI.out w2 HW2.out)
        clear HI HO HO2 HG HD
        go_wp2_with fail
        refine HC2.out.mono ?_
        rintro e w3 ⟨rfl,hb3⟩
        have HW3:=hid (HW2.out.trans (hb3.mono HW2.out.size))
        have HB1:=hid (HBW.out.trans (HW3.out.mono HBW.out.size))
        have kk:=aG ((HW3.out.block w.heap.size hzW).trans HC0.out)
        clear hb3 HC2 HW2
        cases b1 with
        |
         false =>
         go_wp2
         go_ret
         exact⟨HXX.out.symm ▸ rfl,HB1.out⟩
        |
         true =>
         go_wp2
         go_ret
         exact⟨HXX.out.symm ▸ rfl,HB1.out⟩
      ·have hjb:(ah jn).toList.isEmpty=false:=by rw[bE,decide_eq_false hj]
       rw[decide_eq_false hj] at HXX
       have HJJ:=hid (HJ.out w1)
       clear HJ HBJ hj
       go_wp2_with fail
       refine HJJ.out.mono ?_
       rintro e w2 ⟨rfl,hb2⟩
       have HW2:=hid (HW1.out.trans (hb2.mono HW1.out.size))
       have HB1:=hid (HBW.out.trans (HW2.out.mono HBW.out.size))
       have kk:=aG ((HW2.out.block w.heap.size hzW).trans HC0.out)
       clear hb2 HJJ HW1
       cases bj with
       |
        false =>
        have HC2:=hid (HI.out w2 HW2.out)
        clear HI HO HO2 HG HD
        go_wp2_with fail
        refine HC2.out.mono ?_
        rintro e w3 ⟨rfl,hb3⟩
        have HW3:=hid (HW2.out.trans (hb3.mono HW2.out.size))
        have HB1:=hid (HBW.out.trans (HW3.out.mono HBW.out.size))
        have kk:=aG ((HW3.out.block w.heap.size hzW).trans HC0.out)
        clear hb3 HC2 HW2
        cases b1 with
        |
         false =>
         go_wp2
         go_ret
         exact⟨HXX.out.symm ▸ rfl,HB1.out⟩
        |
         true =>
         go_wp2
         go_ret
         exact⟨HXX.out.symm ▸ rfl,HB1.out⟩
       |
        true =>
        by_cases ho1:n5=1
        ·subst ho1
         rw[decide_eq_true rfl] at HXX
         have HC2:=hid (HI.out w2 HW2.out)
         clear HI
         go_wp2_with fail
         refine HC2.out.mono ?_
         rintro e w3 ⟨rfl,hb3⟩
         have HW3:=hid (HW2.out.trans (hb3.mono HW2.out.size))
         have HB1:=hid (HBW.out.trans (HW3.out.mono HBW.out.size))
         have kk:=aG ((HW3.out.block w.heap.size hzW).trans HC0.out)
         clear hb3 HC2 HW2
         cases b1 with
         |
          false =>
          go_wp2
          go_ret
          exact⟨HXX.out.symm ▸ rfl,HB1.out⟩
         |
          true =>
          have HC3:=hid (HO.out w3 HW3.out)
          clear HO
          go_wp2_with fail
          refine HC3.out.mono ?_
          rintro e w4 ⟨rfl,hb4⟩
          have HW4:=hid (HW3.out.trans (hb4.mono HW3.out.size))
          have HB1:=hid (HBW.out.trans (HW4.out.mono HBW.out.size))
          have kk:=aG ((HW4.out.block w.heap.size hzW).trans HC0.out)
          clear hb4 HC3 HW3
          cases b2 with
          |
           false =>
           go_wp2
           go_ret
           exact⟨HXX.out.symm ▸ rfl,HB1.out⟩
          |
           true =>
           have HC4:=hid (HO2.out w4 HW4.out)
           clear HO2
           go_wp2_with fail
           refine HC4.out.mono ?_
           rintro e w5 ⟨rfl,hb5⟩
           have HW5:=hid (HW4.out.trans (hb5.mono HW4.out.size))
           have HB1:=hid (HBW.out.trans (HW5.out.mono HBW.out.size))
           have kk:=aG ((HW5.out.block w.heap.size hzW).trans HC0.out)
           clear hb5 HC4 HW4
           cases b3 with
           |
            false =>
            go_wp2
            go_ret
            exact⟨HXX.out.symm ▸ rfl,HB1.out⟩
           |
            true =>
            have HC5:=hid (HG.out w5 HW5.out)
            clear HG
            go_wp2_with fail
            refine HC5.out.mono ?_
            rintro e w6 ⟨rfl,hb6⟩
            have HW6:=hid (HW5.out.trans (hb6.mono HW5.out.size))
            have HB1:=hid (HBW.out.trans (HW6.out.mono HBW.out.size))
            have kk:=aG ((HW6.out.block w.heap.size hzW).trans HC0.out)
            clear hb6 HC5 HW5
            cases b4 with
            |
             false =>
             go_wp2
             go_ret
             exact⟨HXX.out.symm ▸ rfl,HB1.out⟩
            |
             true =>
             have HC6:=hid (HD.out w6 HW6.out)
             clear HD
             go_wp2_with fail
             refine HC6.out.mono ?_
             rintro e w7 ⟨rfl,hb7⟩
             have HW7:=hid (HW6.out.trans (hb7.mono HW6.out.size))
             have HB1:=hid (HBW.out.trans (HW7.out.mono HBW.out.size))
             have kk:=aG ((HW7.out.block w.heap.size hzW).trans HC0.out)
             clear hb7 HC6 HW6
             cases b5 with
             |
              false =>
              go_wp2
              go_ret
              exact⟨HXX.out.symm ▸ rfl,HB1.out⟩
             |
              true =>
              cases desc with
              |
               false =>
               go_wp2
               go_ret
               exact⟨HXX.out.symm ▸ rfl,HB1.out⟩
              |
               true =>
               by_cases ho:n8=1
               ·subst ho
                rw[decide_eq_true rfl] at HXX
                go_wp2
                go_ret
                exact⟨HXX.out.symm ▸ rfl,HB1.out⟩
               ·have hob:((n8:Int)==1)=false:=by rw[beq_eq_false_iff_ne];omega
                rw[decide_eq_false ho] at HXX
                clear ho
                go_wp2
                go_ret
                exact⟨HXX.out.symm ▸ rfl,HB1.out⟩
        ·have hon:((n5:Int)==1)=false:=by rw[beq_eq_false_iff_ne];omega
         rw[decide_eq_false ho1] at HXX
         clear ho1
         have HC2:=hid (HI.out w2 HW2.out)
         clear HI HO HO2 HG HD
         go_wp2_with fail
         refine HC2.out.mono ?_
         rintro e w3 ⟨rfl,hb3⟩
         have HW3:=hid (HW2.out.trans (hb3.mono HW2.out.size))
         have HB1:=hid (HBW.out.trans (HW3.out.mono HBW.out.size))
         have kk:=aG ((HW3.out.block w.heap.size hzW).trans HC0.out)
         clear hb3 HC2 HW2
         cases b1 with
         |
          false =>
          go_wp2
          go_ret
          exact⟨HXX.out.symm ▸ rfl,HB1.out⟩
         |
          true =>
          go_wp2
          go_ret
          exact⟨HXX.out.symm ▸ rfl,HB1.out⟩
     ·have t3:((0:Int)<(n3:Int)):=by omega
      have HXX:=hid (HXF.out (fun h=>by obtain⟨q0,q1,q2,q3⟩:=h;omega))
      clear HXF HXT c3
      go_wp2
      go_ret
      exact⟨HXX.out.symm ▸ rfl,HB1.out⟩
    ·have t2:((0:Int)<(n2:Int)):=by omega
     have HXX:=hid (HXF.out (fun h=>by obtain⟨q0,q1,q2,q3⟩:=h;omega))
     clear HXF HXT c2
     go_wp2
     go_ret
     exact⟨HXX.out.symm ▸ rfl,HB1.out⟩
   ·have t1:(ah prim).toList.isEmpty=false:=by rw[bE,decide_eq_false c1]
    have HXX:=hid (HXF.out (fun h=>by obtain⟨q0,q1,q2,q3⟩:=h;exact c1 q1))
    clear HXF HXT c1
    go_wp2
    go_ret
    exact⟨HXX.out.symm ▸ rfl,HB1.out⟩
  ·have t0:((0:Int)<(n1:Int)):=by omega
   have HXX:=hid (HXF.out (fun h=>by obtain⟨q0,q1,q2,q3⟩:=h;omega))
   clear HXF HXT c0
   go_wp2
   go_ret
   exact⟨HXX.out.symm ▸ rfl,HB1.out⟩
end Go.Proofs.YtaaggohjmhifbaaGreatDoor
