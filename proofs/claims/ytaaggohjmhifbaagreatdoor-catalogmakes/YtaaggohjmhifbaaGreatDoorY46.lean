/- Packed for the hand-in: RefJM2 RefJM3 -/
import Derived.Test.YtaaggohjmhifbaaGreatDoorY45
import Derived.Test.YtaaggohjmhifbaaGreatDoorY26
namespace Go.Proofs.YtaaggohjmhifbaaGreatDoor
open Go.RowKit Go.Shelf
set_option linter.unusedSimpArgs false
set_option linter.unusedVariables false
set_option maxRecDepth 20000
set_option maxHeartbeats 8000000
theorem IK (S:Nat→Prop) (s:St) (cs:List Value) (w:World) (hR:yc s) (hx:jK S w s cs) (hk:s.k=2) :
  Calls Tryz.prog 32 #[.agg cs.toArray] w fun e w'=>e = .returned (.bool (aM s))∧Below w.heap.size w w':=by
 obtain⟨a1,a2,a3,a4,a5,a6,a7,a8,n1,n2,n3,n4,n5,n6,n7,n8,c1,c2,c3,c4,c5,c6,c7,c8,rfl,x1,x2,x3,x4,x5,x6,x7,x8⟩:=hx
 have e1:n1=s.cols.length:=by obtain⟨_,_,hf⟩:=x1.form;simp only[Value.slice.injEq] at hf;exact hf.2.1
 have e2:n2=s.rows.length:=by obtain⟨_,_,hf⟩:=x2.form;simp only[Value.slice.injEq] at hf;exact hf.2.1
 have e3:n3=s.sets.length:=by obtain⟨_,_,hf⟩:=x3.form;simp only[Value.slice.injEq] at hf;exact hf.2.1
 have e4:n4=s.items.length:=by obtain⟨_,_,hf⟩:=x4.form;simp only[Value.slice.injEq] at hf;exact hf.2.1
 have e5:n5=s.on.length:=by obtain⟨_,_,hf,_⟩:=x5.form;simp only[Value.slice.injEq] at hf;exact hf.2.1
 have e6:n6=s.wh.length:=by obtain⟨_,_,hf,_⟩:=x6.form;simp only[Value.slice.injEq] at hf;exact hf.2.1
 have e7:n7=s.gr.length:=by obtain⟨_,_,hf,_⟩:=x7.form;simp only[Value.slice.injEq] at hf;exact hf.2.1
 have e8:n8=s.od.length:=by obtain⟨_,_,hf,_⟩:=x8.form;simp only[Value.slice.injEq] at hf;exact hf.2.1
 obtain⟨k,tn,cols,prim,rows,sets,items,jn,on,wh,gr,od,desc,lim⟩:=s
 obtain⟨rt,rp,rj,rl,rc,rr,rs,ri,ro,rw',rg,rd⟩:=hR
 dsimp only at *
 subst hk
 obtain⟨W,hW,hbW,hzW,hcW⟩:=bF w (.cells #[.int .i64 2,.string (ah tn),.slice a1 n1 c1,.string (ah prim),.slice a2 n2 c2,.slice a3 n3 c3,.slice a4 n4 c4,.string (ah jn),.slice a5 n5 c5,.slice a6 n6 c6,.slice a7 n7 c7,.slice a8 n8 c8,.bool desc,.int .i64 lim] 28)
 have k0:=aG hcW
 have HC0:=hid hcW
 have HBW:=hid hbW
 have HW0:Hid (Below W.heap.size W W):=hid (Below.refl _ _)
 have HNT:=hid (eT tn W rt)
 obtain⟨X,hX⟩:∃X,aM ⟨2,tn,cols,prim,rows,sets,items,jn,on,wh,gr,od,desc,lim⟩=X:=⟨_,rfl⟩
 rw[hX]
 have hXe:X=(true&&(aQ tn&&decide (n1=0∧prim=[]∧n2=0∧n3=0∧n6=0∧n4=0∧jn=[]∧n5=0∧n7=0∧n8=0∧desc=false∧lim = -1))):=by
  rw[← hX]
  unfold aM
  refine gD rfl (gD rfl ?_)
  show mQ ⟨0,[],cols,prim,rows,sets,items,jn,on,wh,gr,od,desc,lim⟩=_
  unfold mQ
  dsimp only
  rw[Bool.eq_iff_iff,decide_eq_true_eq,decide_eq_true_eq,e1,e2,e3,e4,e5,e6,e7,e8]
  exact⟨fun ⟨_,_,h_cols,h_prim,h_rows,h_sets,h_items,h_jn,h_on,h_wh,h_gr,h_od,h_desc,h_lim⟩=>⟨h_cols,h_prim,h_rows,h_sets,h_wh,h_items,h_jn,h_on,h_gr,h_od,h_desc,h_lim⟩,fun ⟨h_cols,h_prim,h_rows,h_sets,h_wh,h_items,h_jn,h_on,h_gr,h_od,h_desc,h_lim⟩=>⟨rfl,rfl,h_cols,h_prim,h_rows,h_sets,h_items,h_jn,h_on,h_wh,h_gr,h_od,h_desc,h_lim⟩⟩
 clear hX
 generalize aQ tn=bn at HNT hXe
 have HXN:Hid (bn=false→X=false):=hid (fun h=>by rw[hXe,h,Bool.false_and,Bool.and_false])
 have HXF:Hid (¬(n1=0∧prim=[]∧n2=0∧n3=0∧n6=0∧n4=0∧jn=[]∧n5=0∧n7=0∧n8=0∧desc=false∧lim = -1)→X=false):=hid (fun h=>by rw[hXe,decide_eq_false h,Bool.and_false,Bool.and_false])
 have HXT:Hid (bn=true→(n1=0∧prim=[]∧n2=0∧n3=0∧n6=0∧n4=0∧jn=[]∧n5=0∧n7=0∧n8=0∧desc=false∧lim = -1)→X=true):=hid (fun h1 h=>by rw[hXe,decide_eq_true h,h1];simp)
 clear hXe e1 e2 e3 e4 e5 e6 e7 e8 x1 x2 x3 x4 x5 x6 x7 x8 rt rp rj rc rr rs ri ro rw' rg rd hcW hbW
 go_enter Tryz.func32,Tryz.ntmps32
 go_wp2_with fail
 try rw[hW]
 clear hW k0
 refine HNT.out.mono ?_
 rintro e w1 ⟨rfl,hb1⟩
 have HW1:=hid (HW0.out.trans (hb1.mono HW0.out.size))
 have HB1:=hid (HBW.out.trans (HW1.out.mono HBW.out.size))
 have kk:=aG ((HW1.out.block w.heap.size hzW).trans HC0.out)
 clear hb1 HNT HW0
 cases bn with
 |
  false =>
  have HXX:=hid (HXN.out rfl)
  clear HXN HXF HXT
  go_wp2
  go_ret
  exact⟨HXX.out.symm ▸ rfl,HB1.out⟩
 |
  true =>
  clear HXN
  rcases Nat.eq_zero_or_pos n1 with c0 | c0
  ·subst c0
   by_cases c1:prim=[]
   ·have t1:(ah prim).toList.isEmpty=true:=by rw[bE,decide_eq_true c1]
    have d1:=hid c1
    clear c1
    rcases Nat.eq_zero_or_pos n2 with c2 | c2
    ·subst c2
     rcases Nat.eq_zero_or_pos n3 with c3 | c3
     ·subst c3
      rcases Nat.eq_zero_or_pos n6 with c4 | c4
      ·subst c4
       rcases Nat.eq_zero_or_pos n4 with c5 | c5
       ·subst c5
        by_cases c6:jn=[]
        ·have t6:(ah jn).toList.isEmpty=true:=by rw[bE,decide_eq_true c6]
         have d6:=hid c6
         clear c6
         rcases Nat.eq_zero_or_pos n5 with c7 | c7
         ·subst c7
          rcases Nat.eq_zero_or_pos n7 with c8 | c8
          ·subst c8
           rcases Nat.eq_zero_or_pos n8 with c9 | c9
           ·subst c9
            cases desc with
            |
             true =>
             have HXX:=hid (HXF.out (fun h=>by obtain⟨q0,q1,q2,q3,q4,q5,q6,q7,q8,q9,q10,q11⟩:=h;cases q10))
             clear HXF HXT
             go_wp2
             go_ret
             exact⟨HXX.out.symm ▸ rfl,HB1.out⟩
            |
             false =>
             by_cases c11:lim = -1
             ·have t11:(lim != -1)=false:=by rw[c11];rfl
              have d11:=hid c11
              clear c11
              have HXX:=hid (HXT.out rfl ⟨rfl,d1.out,rfl,rfl,rfl,rfl,d6.out,rfl,rfl,rfl,rfl,d11.out⟩)
              clear HXF HXT
              go_wp2
              go_ret
              exact⟨HXX.out.symm ▸ rfl,HB1.out⟩
             ·have t11:(lim != -1)=true:=by rw[bne_iff_ne];exact c11
              have HXX:=hid (HXF.out (fun h=>by obtain⟨q0,q1,q2,q3,q4,q5,q6,q7,q8,q9,q10,q11⟩:=h;exact c11 q11))
              clear HXF HXT c11
              go_wp2
              go_ret
              exact⟨HXX.out.symm ▸ rfl,HB1.out⟩
           ·have t9:((0:Int)<(n8:Int)):=by omega
            have HXX:=hid (HXF.out (fun h=>by obtain⟨q0,q1,q2,q3,q4,q5,q6,q7,q8,q9,q10,q11⟩:=h;omega))
            clear HXF HXT c9
            go_wp2
            go_ret
            exact⟨HXX.out.symm ▸ rfl,HB1.out⟩
          ·have t8:((0:Int)<(n7:Int)):=by omega
           have HXX:=hid (HXF.out (fun h=>by obtain⟨q0,q1,q2,q3,q4,q5,q6,q7,q8,q9,q10,q11⟩:=h;omega))
           clear HXF HXT c8
           go_wp2
           go_ret
           exact⟨HXX.out.symm ▸ rfl,HB1.out⟩
         ·have t7:((0:Int)<(n5:Int)):=by omega
          have HXX:=hid (HXF.out (fun h=>by obtain⟨q0,q1,q2,q3,q4,q5,q6,q7,q8,q9,q10,q11⟩:=h;omega))
          clear HXF HXT c7
          go_wp2
          go_ret
          exact⟨HXX.out.symm ▸ rfl,HB1.out⟩
        ·have t6:(ah jn).toList.isEmpty=false:=by rw[bE,decide_eq_false c6]
         have HXX:=hid (HXF.out (fun h=>by obtain⟨q0,q1,q2,q3,q4,q5,q6,q7,q8,q9,q10,q11⟩:=h;exact c6 q6))
         clear HXF HXT c6
         go_wp2
         go_ret
         exact⟨HXX.out.symm ▸ rfl,HB1.out⟩
       ·have t5:((0:Int)<(n4:Int)):=by omega
        have HXX:=hid (HXF.out (fun h=>by obtain⟨q0,q1,q2,q3,q4,q5,q6,q7,q8,q9,q10,q11⟩:=h;omega))
        clear HXF HXT c5
        go_wp2
        go_ret
        exact⟨HXX.out.symm ▸ rfl,HB1.out⟩
      ·have t4:((0:Int)<(n6:Int)):=by omega
       have HXX:=hid (HXF.out (fun h=>by obtain⟨q0,q1,q2,q3,q4,q5,q6,q7,q8,q9,q10,q11⟩:=h;omega))
       clear HXF HXT c4
       go_wp2
       go_ret
       exact⟨HXX.out.symm ▸ rfl,HB1.out⟩
     ·have t3:((0:Int)<(n3:Int)):=by omega
      have HXX:=hid (HXF.out (fun h=>by obtain⟨q0,q1,q2,q3,q4,q5,q6,q7,q8,q9,q10,q11⟩:=h;omega))
      clear HXF HXT c3
      go_wp2
      go_ret
      exact⟨HXX.out.symm ▸ rfl,HB1.out⟩
    ·have t2:((0:Int)<(n2:Int)):=by omega
     have HXX:=hid (HXF.out (fun h=>by obtain⟨q0,q1,q2,q3,q4,q5,q6,q7,q8,q9,q10,q11⟩:=h;omega))
     clear HXF HXT c2
     go_wp2
     go_ret
     exact⟨HXX.out.symm ▸ rfl,HB1.out⟩
   ·have t1:(ah prim).toList.isEmpty=false:=by rw[bE,decide_eq_false c1]
    have HXX:=hid (HXF.out (fun h=>by obtain⟨q0,q1,q2,q3,q4,q5,q6,q7,q8,q9,q10,q11⟩:=h;exact c1 q1))
    clear HXF HXT c1
    go_wp2
    go_ret
    exact⟨HXX.out.symm ▸ rfl,HB1.out⟩
  ·have t0:((0:Int)<(n1:Int)):=by omega
   have HXX:=hid (HXF.out (fun h=>by obtain⟨q0,q1,q2,q3,q4,q5,q6,q7,q8,q9,q10,q11⟩:=h;omega))
   clear HXF HXT c0
   go_wp2
   go_ret
   exact⟨HXX.out.symm ▸ rfl,HB1.out⟩
theorem Ji (S:Nat→Prop) (s:St) (cs:List Value) (w:World) (hR:yc s) (hx:jK S w s cs) (hk:s.k=3) :
  Calls Tryz.prog 32 #[.agg cs.toArray] w fun e w'=>e = .returned (.bool (aM s))∧Below w.heap.size w w':=by
 obtain⟨a1,a2,a3,a4,a5,a6,a7,a8,n1,n2,n3,n4,n5,n6,n7,n8,c1,c2,c3,c4,c5,c6,c7,c8,rfl,x1,x2,x3,x4,x5,x6,x7,x8⟩:=hx
 have e1:n1=s.cols.length:=by obtain⟨_,_,hf⟩:=x1.form;simp only[Value.slice.injEq] at hf;exact hf.2.1
 have e2:n2=s.rows.length:=by obtain⟨_,_,hf⟩:=x2.form;simp only[Value.slice.injEq] at hf;exact hf.2.1
 have e3:n3=s.sets.length:=by obtain⟨_,_,hf⟩:=x3.form;simp only[Value.slice.injEq] at hf;exact hf.2.1
 have e4:n4=s.items.length:=by obtain⟨_,_,hf⟩:=x4.form;simp only[Value.slice.injEq] at hf;exact hf.2.1
 have e5:n5=s.on.length:=by obtain⟨_,_,hf,_⟩:=x5.form;simp only[Value.slice.injEq] at hf;exact hf.2.1
 have e6:n6=s.wh.length:=by obtain⟨_,_,hf,_⟩:=x6.form;simp only[Value.slice.injEq] at hf;exact hf.2.1
 have e7:n7=s.gr.length:=by obtain⟨_,_,hf,_⟩:=x7.form;simp only[Value.slice.injEq] at hf;exact hf.2.1
 have e8:n8=s.od.length:=by obtain⟨_,_,hf,_⟩:=x8.form;simp only[Value.slice.injEq] at hf;exact hf.2.1
 obtain⟨k,tn,cols,prim,rows,sets,items,jn,on,wh,gr,od,desc,lim⟩:=s
 obtain⟨rt,rp,rj,rl,rc,rr,rs,ri,ro,rw',rg,rd⟩:=hR
 dsimp only at *
 subst hk
 obtain⟨W,hW,hbW,hzW,hcW⟩:=bF w (.cells #[.int .i64 3,.string (ah tn),.slice a1 n1 c1,.string (ah prim),.slice a2 n2 c2,.slice a3 n3 c3,.slice a4 n4 c4,.string (ah jn),.slice a5 n5 c5,.slice a6 n6 c6,.slice a7 n7 c7,.slice a8 n8 c8,.bool desc,.int .i64 lim] 28)
 have k0:=aG hcW
 have HC0:=hid hcW
 have HBW:=hid hbW
 have HW0:Hid (Below W.heap.size W W):=hid (Below.refl _ _)
 have HNT:=hid (eT tn W rt)
 have HC:=hid (fun V (hV0:Below W.heap.size W V)=>by have hV:=HBW.out.trans (hV0.mono HBW.out.size);exact DF S rows _ V rr (x2.to (by decide) (R:=fun _=>False) (T:=S) (aj.aC hV) (fun b hb _=>⟨id,hb⟩) (fun _ _ e=>e.to (R:=fun _=>False) (T:=S) (aj.aC hV) (fun b hb _=>⟨id,hb⟩))))
 obtain⟨X,hX⟩:∃X,aM ⟨3,tn,cols,prim,rows,sets,items,jn,on,wh,gr,od,desc,lim⟩=X:=⟨_,rfl⟩
 rw[hX]
 have hXe:X=(aX rows 1 16 nG&&(aQ tn&&decide (n1=0∧prim=[]∧n3=0∧n6=0∧n4=0∧jn=[]∧n5=0∧n7=0∧n8=0∧desc=false∧lim = -1))):=by
  rw[← hX]
  unfold aM
  refine gD rfl (gD rfl ?_)
  show mQ ⟨0,[],cols,prim,[],sets,items,jn,on,wh,gr,od,desc,lim⟩=_
  unfold mQ
  dsimp only
  rw[Bool.eq_iff_iff,decide_eq_true_eq,decide_eq_true_eq,e1,e3,e4,e5,e6,e7,e8]
  exact⟨fun ⟨_,_,h_cols,h_prim,h_rows,h_sets,h_items,h_jn,h_on,h_wh,h_gr,h_od,h_desc,h_lim⟩=>⟨h_cols,h_prim,h_sets,h_wh,h_items,h_jn,h_on,h_gr,h_od,h_desc,h_lim⟩,fun ⟨h_cols,h_prim,h_sets,h_wh,h_items,h_jn,h_on,h_gr,h_od,h_desc,h_lim⟩=>⟨rfl,rfl,h_cols,h_prim,rfl,h_sets,h_items,h_jn,h_on,h_wh,h_gr,h_od,h_desc,h_lim⟩⟩
 clear hX
 generalize aX rows 1 16 nG=b1 at HC hXe
 generalize aQ tn=bn at HNT hXe
 have HXN:Hid (bn=false→X=false):=hid (fun h=>by rw[hXe,h,Bool.false_and,Bool.and_false])
 have HXF:Hid (¬(n1=0∧prim=[]∧n3=0∧n6=0∧n4=0∧jn=[]∧n5=0∧n7=0∧n8=0∧desc=false∧lim = -1)→X=false):=hid (fun h=>by rw[hXe,decide_eq_false h,Bool.and_false,Bool.and_false])
 have HXT:Hid (bn=true→(n1=0∧prim=[]∧n3=0∧n6=0∧n4=0∧jn=[]∧n5=0∧n7=0∧n8=0∧desc=false∧lim = -1)→X=b1):=hid (fun h1 h=>by rw[hXe,decide_eq_true h,h1];simp)
 clear hXe e1 e2 e3 e4 e5 e6 e7 e8 x1 x2 x3 x4 x5 x6 x7 x8 rt rp rj rc rr rs ri ro rw' rg rd hcW hbW
 go_enter Tryz.func32,Tryz.ntmps32
 go_wp2_with fail
 try rw[hW]
 clear hW k0
 refine HNT.out.mono ?_
 rintro e w1 ⟨rfl,hb1⟩
 have HW1:=hid (HW0.out.trans (hb1.mono HW0.out.size))
 have HB1:=hid (HBW.out.trans (HW1.out.mono HBW.out.size))
 have kk:=aG ((HW1.out.block w.heap.size hzW).trans HC0.out)
 clear hb1 HNT HW0
 cases bn with
 |
  false =>
  have HXX:=hid (HXN.out rfl)
  clear HXN HXF HXT
  go_wp2
  go_ret
  exact⟨HXX.out.symm ▸ rfl,HB1.out⟩
 |
  true =>
  clear HXN
  rcases Nat.eq_zero_or_pos n1 with c0 | c0
  ·subst c0
   by_cases c1:prim=[]
   ·have t1:(ah prim).toList.isEmpty=true:=by rw[bE,decide_eq_true c1]
    have d1:=hid c1
    clear c1
    rcases Nat.eq_zero_or_pos n3 with c2 | c2
    ·subst c2
     rcases Nat.eq_zero_or_pos n6 with c3 | c3
     ·subst c3
      rcases Nat.eq_zero_or_pos n4 with c4 | c4
      ·subst c4
       by_cases c5:jn=[]
       ·have t5:(ah jn).toList.isEmpty=true:=by rw[bE,decide_eq_true c5]
        have d5:=hid c5
        clear c5
        rcases Nat.eq_zero_or_pos n5 with c6 | c6
        ·subst c6
         rcases Nat.eq_zero_or_pos n7 with c7 | c7
         ·subst c7
          rcases Nat.eq_zero_or_pos n8 with c8 | c8
          ·subst c8
           cases desc with
           |
            true =>
            have HXX:=hid (HXF.out (fun h=>by obtain⟨q0,q1,q2,q3,q4,q5,q6,q7,q8,q9,q10⟩:=h;cases q9))
            clear HXF HXT
            go_wp2
            go_ret
            exact⟨HXX.out.symm ▸ rfl,HB1.out⟩
           |
            false =>
            by_cases c10:lim = -1
            ·have t10:(lim != -1)=false:=by rw[c10];rfl
             have d10:=hid c10
             clear c10
             have HXX:=hid (HXT.out rfl ⟨rfl,d1.out,rfl,rfl,rfl,d5.out,rfl,rfl,rfl,rfl,d10.out⟩)
             clear HXF HXT
             have HC1:=hid (HC.out w1 HW1.out)
             clear HC
             go_wp2_with fail
             refine HC1.out.mono ?_
             rintro e w2 ⟨rfl,hb2⟩
             have HW2:=hid (HW1.out.trans (hb2.mono HW1.out.size))
             have HB1:=hid (HBW.out.trans (HW2.out.mono HBW.out.size))
             have kk:=aG ((HW2.out.block w.heap.size hzW).trans HC0.out)
             clear hb2 HC1 HW1
             go_wp2
             go_ret
             exact⟨HXX.out.symm ▸ rfl,HB1.out⟩
            ·have t10:(lim != -1)=true:=by rw[bne_iff_ne];exact c10
             have HXX:=hid (HXF.out (fun h=>by obtain⟨q0,q1,q2,q3,q4,q5,q6,q7,q8,q9,q10⟩:=h;exact c10 q10))
             clear HXF HXT c10
             go_wp2
             go_ret
             exact⟨HXX.out.symm ▸ rfl,HB1.out⟩
          ·have t8:((0:Int)<(n8:Int)):=by omega
           have HXX:=hid (HXF.out (fun h=>by obtain⟨q0,q1,q2,q3,q4,q5,q6,q7,q8,q9,q10⟩:=h;omega))
           clear HXF HXT c8
           go_wp2
           go_ret
           exact⟨HXX.out.symm ▸ rfl,HB1.out⟩
         ·have t7:((0:Int)<(n7:Int)):=by omega
          have HXX:=hid (HXF.out (fun h=>by obtain⟨q0,q1,q2,q3,q4,q5,q6,q7,q8,q9,q10⟩:=h;omega))
          clear HXF HXT c7
          go_wp2
          go_ret
          exact⟨HXX.out.symm ▸ rfl,HB1.out⟩
        ·have t6:((0:Int)<(n5:Int)):=by omega
         have HXX:=hid (HXF.out (fun h=>by obtain⟨q0,q1,q2,q3,q4,q5,q6,q7,q8,q9,q10⟩:=h;omega))
         clear HXF HXT c6
         go_wp2
         go_ret
         exact⟨HXX.out.symm ▸ rfl,HB1.out⟩
       ·have t5:(ah jn).toList.isEmpty=false:=by rw[bE,decide_eq_false c5]
        have HXX:=hid (HXF.out (fun h=>by obtain⟨q0,q1,q2,q3,q4,q5,q6,q7,q8,q9,q10⟩:=h;exact c5 q5))
        clear HXF HXT c5
        go_wp2
        go_ret
        exact⟨HXX.out.symm ▸ rfl,HB1.out⟩
      ·have t4:((0:Int)<(n4:Int)):=by omega
       have HXX:=hid (HXF.out (fun h=>by obtain⟨q0,q1,q2,q3,q4,q5,q6,q7,q8,q9,q10⟩:=h;omega))
       clear HXF HXT c4
       go_wp2
       go_ret
       exact⟨HXX.out.symm ▸ rfl,HB1.out⟩
     ·have t3:((0:Int)<(n6:Int)):=by omega
      have HXX:=hid (HXF.out (fun h=>by obtain⟨q0,q1,q2,q3,q4,q5,q6,q7,q8,q9,q10⟩:=h;omega))
      clear HXF HXT c3
      go_wp2
      go_ret
      exact⟨HXX.out.symm ▸ rfl,HB1.out⟩
    ·have t2:((0:Int)<(n3:Int)):=by omega
     have HXX:=hid (HXF.out (fun h=>by obtain⟨q0,q1,q2,q3,q4,q5,q6,q7,q8,q9,q10⟩:=h;omega))
     clear HXF HXT c2
     go_wp2
     go_ret
     exact⟨HXX.out.symm ▸ rfl,HB1.out⟩
   ·have t1:(ah prim).toList.isEmpty=false:=by rw[bE,decide_eq_false c1]
    have HXX:=hid (HXF.out (fun h=>by obtain⟨q0,q1,q2,q3,q4,q5,q6,q7,q8,q9,q10⟩:=h;exact c1 q1))
    clear HXF HXT c1
    go_wp2
    go_ret
    exact⟨HXX.out.symm ▸ rfl,HB1.out⟩
  ·have t0:((0:Int)<(n1:Int)):=by omega
   have HXX:=hid (HXF.out (fun h=>by obtain⟨q0,q1,q2,q3,q4,q5,q6,q7,q8,q9,q10⟩:=h;omega))
   clear HXF HXT c0
   go_wp2
   go_ret
   exact⟨HXX.out.symm ▸ rfl,HB1.out⟩
end Go.Proofs.YtaaggohjmhifbaaGreatDoor
