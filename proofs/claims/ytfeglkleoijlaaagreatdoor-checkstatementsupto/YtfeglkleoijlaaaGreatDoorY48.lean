import Derived.Test.YtfeglkleoijlaaaGreatDoorY39
import Derived.Test.YtfeglkleoijlaaaGreatDoorY19
namespace Go.Proofs.YtfeglkleoijlaaaGreatDoor
open Go.RowKit Go.Shelf
set_option linter.unusedSimpArgs false
set_option linter.unusedVariables false
set_option maxRecDepth 20000
set_option maxHeartbeats 8000000
theorem Qj (S:Nat→Prop) (s:St) (cs:List Value) (w:World) (hR:vZ s) (hx:fD S w s cs) (hk:s.k=2) :
  Calls Tryz.prog 26 #[.agg cs.toArray] w fun e w'=>e = .returned (.bool (aQ s))∧Below w.heap.size w w':=by
 obtain⟨a1,a2,a3,a4,a5,a6,a7,a8,n1,n2,n3,n4,n5,n6,n7,n8,c1,c2,c3,c4,c5,c6,c7,c8,rfl,x1,x2,x3,x4,x5,x6,x7,x8⟩:=hx
 have e1:n1=s.aC.length:=by obtain⟨_,_,hf⟩:=x1.form;simp only[aah] at hf;exact hf.2.1
 have e2:n2=s.rows.length:=by obtain⟨_,_,hf⟩:=x2.form;simp only[aah] at hf;exact hf.2.1
 have e3:n3=s.sets.length:=by obtain⟨_,_,hf⟩:=x3.form;simp only[aah] at hf;exact hf.2.1
 have e4:n4=s.items.length:=by obtain⟨_,_,hf⟩:=x4.form;simp only[aah] at hf;exact hf.2.1
 have e5:n5=s.on.length:=by obtain⟨_,_,hf,_⟩:=x5.form;simp only[aah] at hf;exact hf.2.1
 have e6:n6=s.wh.length:=by obtain⟨_,_,hf,_⟩:=x6.form;simp only[aah] at hf;exact hf.2.1
 have e7:n7=s.gr.length:=by obtain⟨_,_,hf,_⟩:=x7.form;simp only[aah] at hf;exact hf.2.1
 have e8:n8=s.od.length:=by obtain⟨_,_,hf,_⟩:=x8.form;simp only[aah] at hf;exact hf.2.1
 obtain⟨k,tn,aC,aD,rows,sets,items,jn,on,wh,gr,od,desc,lim⟩:=s
 obtain⟨rt,rp,rj,rl,rc,rr,rs,ri,ro,rw',rg,rd⟩:=hR
 dsimp only at *
 subst hk
 obtain⟨W,hW,hbW,aJ,hcW⟩:=aK w (.cells #[.int .i64 2,.string (aj tn),.slice a1 n1 c1,.string (aj aD),.slice a2 n2 c2,.slice a3 n3 c3,.slice a4 n4 c4,.string (aj jn),.slice a5 n5 c5,.slice a6 n6 c6,.slice a7 n7 c7,.slice a8 n8 c8,.bool desc,.int .i64 lim] 29)
 have k0:=au hcW
 have dI:=hid hcW
 have eF:=hid hbW
 have HW0:Hid (Below W.heap.size W W):=hid (Below.refl _ _)
 have jI:=hid (fA tn W rt)
 obtain⟨X,hX⟩:∃X,aQ ⟨2,tn,aC,aD,rows,sets,items,jn,on,wh,gr,od,desc,lim⟩=X:=⟨_,rfl⟩
 rw[hX]
 have gT:X=(true&&(aU tn&&decide (n1=0∧aD=[]∧n2=0∧n3=0∧n6=0∧n4=0∧jn=[]∧n5=0∧n7=0∧n8=0∧desc=false∧lim = -1))):=by
  rw[← hX]
  unfold aQ
  refine gV rfl (gV rfl ?_)
  show oF ⟨0,[],aC,aD,rows,sets,items,jn,on,wh,gr,od,desc,lim⟩=_
  unfold oF
  dsimp only
  rw[Bool.eq_iff_iff,aaI,aaI,e1,e2,e3,e4,e5,e6,e7,e8]
  exact⟨fun ⟨_,_,fZ,gF,gy,gD,dZ,nJ,nR,sW,nI,nE,gu,ji⟩=>⟨fZ,gF,gy,gD,sW,dZ,nJ,nR,nI,nE,gu,ji⟩,fun ⟨fZ,gF,gy,gD,sW,dZ,nJ,nR,nI,nE,gu,ji⟩=>⟨rfl,rfl,fZ,gF,gy,gD,dZ,nJ,nR,sW,nI,nE,gu,ji⟩⟩
 clear hX
 generalize aU tn=bn at jI gT
 have qV:Hid (bn=false→X=false):=hid (fun h=>by rw[gT,h,aaz,Bool.and_false])
 have bE:Hid (¬(n1=0∧aD=[]∧n2=0∧n3=0∧n6=0∧n4=0∧jn=[]∧n5=0∧n7=0∧n8=0∧desc=false∧lim = -1)→X=false):=hid (fun h=>by rw[gT,aaj h,Bool.and_false,Bool.and_false])
 have dz:Hid (bn=true→(n1=0∧aD=[]∧n2=0∧n3=0∧n6=0∧n4=0∧jn=[]∧n5=0∧n7=0∧n8=0∧desc=false∧lim = -1)→X=true):=hid (fun h1 h=>by rw[gT,aar h,h1];simp)
 clear gT e1 e2 e3 e4 e5 e6 e7 e8 x1 x2 x3 x4 x5 x6 x7 x8 rt rp rj rc rr rs ri ro rw' rg rd hcW hbW
 go_enter Tryz.func26,Tryz.ntmps26
 go_wp2_with fail
 try rw[hW]
 clear hW k0
 refine jI.out.mono ?_
 rintro e w1 ⟨rfl,hb1⟩
 have HW1:=htr HW0 hb1
 have HB1:=hid (eF.out.trans (HW1.out.mono eF.out.size))
 have kk:=au ((HW1.out.block w.heap.size aJ).trans dI.out)
 clear hb1 jI HW0
 cases bn with
 |
  false =>
  have bI:=hid (qV.out rfl)
  clear qV bE dz
  go_wp2
  go_ret
  exact⟨bI.out.symm ▸ rfl,HB1.out⟩
 |
  true =>
  clear qV
  rcases aa9 n1 with c0 | c0
  ·subst c0
   by_cases c1:aD=[]
   ·have t1:(aj aD).toList.isEmpty=true:=by rw[bf,aar c1]
    have d1:=hid c1
    clear c1
    rcases aa9 n2 with c2 | c2
    ·subst c2
     rcases aa9 n3 with c3 | c3
     ·subst c3
      rcases aa9 n6 with c4 | c4
      ·subst c4
       rcases aa9 n4 with c5 | c5
       ·subst c5
        by_cases c6:jn=[]
        ·have t6:(aj jn).toList.isEmpty=true:=by rw[bf,aar c6]
         have d6:=hid c6
         clear c6
         rcases aa9 n5 with c7 | c7
         ·subst c7
          rcases aa9 n7 with c8 | c8
          ·subst c8
           rcases aa9 n8 with c9 | c9
           ·subst c9
            cases desc with
            |
             true =>
             have bI:=hid (bE.out (fun h=>by obtain⟨q0,q1,q2,q3,q4,q5,q6,q7,q8,q9,oP,Il⟩:=h;cases oP))
             clear bE dz
             go_wp2
             go_ret
             exact⟨bI.out.symm ▸ rfl,HB1.out⟩
            |
             false =>
             by_cases c11:lim = -1
             ·have t11:(lim != -1)=false:=by rw[c11];rfl
              have VF:=hid c11
              clear c11
              have bI:=hid (dz.out rfl ⟨rfl,d1.out,rfl,rfl,rfl,rfl,d6.out,rfl,rfl,rfl,rfl,VF.out⟩)
              clear bE dz
              go_wp2
              go_ret
              exact⟨bI.out.symm ▸ rfl,HB1.out⟩
             ·have t11:(lim != -1)=true:=by rw[bne_iff_ne];exact c11
              have bI:=hid (bE.out (fun h=>by obtain⟨q0,q1,q2,q3,q4,q5,q6,q7,q8,q9,oP,Il⟩:=h;exact c11 Il))
              clear bE dz c11
              go_wp2
              go_ret
              exact⟨bI.out.symm ▸ rfl,HB1.out⟩
           ·have t9:((0:Int)<(n8:Int)):=by omega
            have bI:=hid (bE.out (fun h=>by obtain⟨q0,q1,q2,q3,q4,q5,q6,q7,q8,q9,oP,Il⟩:=h;omega))
            clear bE dz c9
            go_wp2
            go_ret
            exact⟨bI.out.symm ▸ rfl,HB1.out⟩
          ·have t8:((0:Int)<(n7:Int)):=by omega
           have bI:=hid (bE.out (fun h=>by obtain⟨q0,q1,q2,q3,q4,q5,q6,q7,q8,q9,oP,Il⟩:=h;omega))
           clear bE dz c8
           go_wp2
           go_ret
           exact⟨bI.out.symm ▸ rfl,HB1.out⟩
         ·have t7:((0:Int)<(n5:Int)):=by omega
          have bI:=hid (bE.out (fun h=>by obtain⟨q0,q1,q2,q3,q4,q5,q6,q7,q8,q9,oP,Il⟩:=h;omega))
          clear bE dz c7
          go_wp2
          go_ret
          exact⟨bI.out.symm ▸ rfl,HB1.out⟩
        ·have t6:(aj jn).toList.isEmpty=false:=by rw[bf,aaj c6]
         have bI:=hid (bE.out (fun h=>by obtain⟨q0,q1,q2,q3,q4,q5,q6,q7,q8,q9,oP,Il⟩:=h;exact c6 q6))
         clear bE dz c6
         go_wp2
         go_ret
         exact⟨bI.out.symm ▸ rfl,HB1.out⟩
       ·have t5:((0:Int)<(n4:Int)):=by omega
        have bI:=hid (bE.out (fun h=>by obtain⟨q0,q1,q2,q3,q4,q5,q6,q7,q8,q9,oP,Il⟩:=h;omega))
        clear bE dz c5
        go_wp2
        go_ret
        exact⟨bI.out.symm ▸ rfl,HB1.out⟩
      ·have t4:((0:Int)<(n6:Int)):=by omega
       have bI:=hid (bE.out (fun h=>by obtain⟨q0,q1,q2,q3,q4,q5,q6,q7,q8,q9,oP,Il⟩:=h;omega))
       clear bE dz c4
       go_wp2
       go_ret
       exact⟨bI.out.symm ▸ rfl,HB1.out⟩
     ·have t3:((0:Int)<(n3:Int)):=by omega
      have bI:=hid (bE.out (fun h=>by obtain⟨q0,q1,q2,q3,q4,q5,q6,q7,q8,q9,oP,Il⟩:=h;omega))
      clear bE dz c3
      go_wp2
      go_ret
      exact⟨bI.out.symm ▸ rfl,HB1.out⟩
    ·have t2:((0:Int)<(n2:Int)):=by omega
     have bI:=hid (bE.out (fun h=>by obtain⟨q0,q1,q2,q3,q4,q5,q6,q7,q8,q9,oP,Il⟩:=h;omega))
     clear bE dz c2
     go_wp2
     go_ret
     exact⟨bI.out.symm ▸ rfl,HB1.out⟩
   ·have t1:(aj aD).toList.isEmpty=false:=by rw[bf,aaj c1]
    have bI:=hid (bE.out (fun h=>by obtain⟨q0,q1,q2,q3,q4,q5,q6,q7,q8,q9,oP,Il⟩:=h;exact c1 q1))
    clear bE dz c1
    go_wp2
    go_ret
    exact⟨bI.out.symm ▸ rfl,HB1.out⟩
  ·have t0:((0:Int)<(n1:Int)):=by omega
   have bI:=hid (bE.out (fun h=>by obtain⟨q0,q1,q2,q3,q4,q5,q6,q7,q8,q9,oP,Il⟩:=h;omega))
   clear bE dz c0
   go_wp2
   go_ret
   exact⟨bI.out.symm ▸ rfl,HB1.out⟩
theorem Qs (S:Nat→Prop) (s:St) (cs:List Value) (w:World) (hR:vZ s) (hx:fD S w s cs) (hk:s.k=3) :
  Calls Tryz.prog 26 #[.agg cs.toArray] w fun e w'=>e = .returned (.bool (aQ s))∧Below w.heap.size w w':=by
 obtain⟨a1,a2,a3,a4,a5,a6,a7,a8,n1,n2,n3,n4,n5,n6,n7,n8,c1,c2,c3,c4,c5,c6,c7,c8,rfl,x1,x2,x3,x4,x5,x6,x7,x8⟩:=hx
 have e1:n1=s.aC.length:=by obtain⟨_,_,hf⟩:=x1.form;simp only[aah] at hf;exact hf.2.1
 have e2:n2=s.rows.length:=by obtain⟨_,_,hf⟩:=x2.form;simp only[aah] at hf;exact hf.2.1
 have e3:n3=s.sets.length:=by obtain⟨_,_,hf⟩:=x3.form;simp only[aah] at hf;exact hf.2.1
 have e4:n4=s.items.length:=by obtain⟨_,_,hf⟩:=x4.form;simp only[aah] at hf;exact hf.2.1
 have e5:n5=s.on.length:=by obtain⟨_,_,hf,_⟩:=x5.form;simp only[aah] at hf;exact hf.2.1
 have e6:n6=s.wh.length:=by obtain⟨_,_,hf,_⟩:=x6.form;simp only[aah] at hf;exact hf.2.1
 have e7:n7=s.gr.length:=by obtain⟨_,_,hf,_⟩:=x7.form;simp only[aah] at hf;exact hf.2.1
 have e8:n8=s.od.length:=by obtain⟨_,_,hf,_⟩:=x8.form;simp only[aah] at hf;exact hf.2.1
 obtain⟨k,tn,aC,aD,rows,sets,items,jn,on,wh,gr,od,desc,lim⟩:=s
 obtain⟨rt,rp,rj,rl,rc,rr,rs,ri,ro,rw',rg,rd⟩:=hR
 dsimp only at *
 subst hk
 obtain⟨W,hW,hbW,aJ,hcW⟩:=aK w (.cells #[.int .i64 3,.string (aj tn),.slice a1 n1 c1,.string (aj aD),.slice a2 n2 c2,.slice a3 n3 c3,.slice a4 n4 c4,.string (aj jn),.slice a5 n5 c5,.slice a6 n6 c6,.slice a7 n7 c7,.slice a8 n8 c8,.bool desc,.int .i64 lim] 29)
 have k0:=au hcW
 have dI:=hid hcW
 have eF:=hid hbW
 have HW0:Hid (Below W.heap.size W W):=hid (Below.refl _ _)
 have jI:=hid (fA tn W rt)
 have HC:=hid (fun V (ze:Below W.heap.size W V)=>by have hV:=eF.out.trans (ze.mono eF.out.size);exact JL S rows _ V rr (x2.to (by decide) (R:=fun _=>False) (T:=S) (ak.aA hV) (fun b hb _=>⟨id,hb⟩) (fun _ _ e=>e.to (R:=fun _=>False) (T:=S) (ak.aA hV) (fun b hb _=>⟨id,hb⟩))))
 obtain⟨X,hX⟩:∃X,aQ ⟨3,tn,aC,aD,rows,sets,items,jn,on,wh,gr,od,desc,lim⟩=X:=⟨_,rfl⟩
 rw[hX]
 have gT:X=(aR rows 1 16 om&&(aU tn&&decide (n1=0∧aD=[]∧n3=0∧n6=0∧n4=0∧jn=[]∧n5=0∧n7=0∧n8=0∧desc=false∧lim = -1))):=by
  rw[← hX]
  unfold aQ
  refine gV rfl (gV rfl ?_)
  show oF ⟨0,[],aC,aD,[],sets,items,jn,on,wh,gr,od,desc,lim⟩=_
  unfold oF
  dsimp only
  rw[Bool.eq_iff_iff,aaI,aaI,e1,e3,e4,e5,e6,e7,e8]
  exact⟨fun ⟨_,_,fZ,gF,gy,gD,dZ,nJ,nR,sW,nI,nE,gu,ji⟩=>⟨fZ,gF,gD,sW,dZ,nJ,nR,nI,nE,gu,ji⟩,fun ⟨fZ,gF,gD,sW,dZ,nJ,nR,nI,nE,gu,ji⟩=>⟨rfl,rfl,fZ,gF,rfl,gD,dZ,nJ,nR,sW,nI,nE,gu,ji⟩⟩
 clear hX
 generalize aR rows 1 16 om=b1 at HC gT
 generalize aU tn=bn at jI gT
 have qV:Hid (bn=false→X=false):=hid (fun h=>by rw[gT,h,aaz,Bool.and_false])
 have bE:Hid (¬(n1=0∧aD=[]∧n3=0∧n6=0∧n4=0∧jn=[]∧n5=0∧n7=0∧n8=0∧desc=false∧lim = -1)→X=false):=hid (fun h=>by rw[gT,aaj h,Bool.and_false,Bool.and_false])
 have dz:Hid (bn=true→(n1=0∧aD=[]∧n3=0∧n6=0∧n4=0∧jn=[]∧n5=0∧n7=0∧n8=0∧desc=false∧lim = -1)→X=b1):=hid (fun h1 h=>by rw[gT,aar h,h1];simp)
 clear gT e1 e2 e3 e4 e5 e6 e7 e8 x1 x2 x3 x4 x5 x6 x7 x8 rt rp rj rc rr rs ri ro rw' rg rd hcW hbW
 go_enter Tryz.func26,Tryz.ntmps26
 go_wp2_with fail
 try rw[hW]
 clear hW k0
 refine jI.out.mono ?_
 rintro e w1 ⟨rfl,hb1⟩
 have HW1:=htr HW0 hb1
 have HB1:=hid (eF.out.trans (HW1.out.mono eF.out.size))
 have kk:=au ((HW1.out.block w.heap.size aJ).trans dI.out)
 clear hb1 jI HW0
 cases bn with
 |
  false =>
  have bI:=hid (qV.out rfl)
  clear qV bE dz
  go_wp2
  go_ret
  exact⟨bI.out.symm ▸ rfl,HB1.out⟩
 |
  true =>
  clear qV
  rcases aa9 n1 with c0 | c0
  ·subst c0
   by_cases c1:aD=[]
   ·have t1:(aj aD).toList.isEmpty=true:=by rw[bf,aar c1]
    have d1:=hid c1
    clear c1
    rcases aa9 n3 with c2 | c2
    ·subst c2
     rcases aa9 n6 with c3 | c3
     ·subst c3
      rcases aa9 n4 with c4 | c4
      ·subst c4
       by_cases c5:jn=[]
       ·have t5:(aj jn).toList.isEmpty=true:=by rw[bf,aar c5]
        have d5:=hid c5
        clear c5
        rcases aa9 n5 with c6 | c6
        ·subst c6
         rcases aa9 n7 with c7 | c7
         ·subst c7
          rcases aa9 n8 with c8 | c8
          ·subst c8
           cases desc with
           |
            true =>
            have bI:=hid (bE.out (fun h=>by obtain⟨q0,q1,q2,q3,q4,q5,q6,q7,q8,q9,oP⟩:=h;cases q9))
            clear bE dz
            go_wp2
            go_ret
            exact⟨bI.out.symm ▸ rfl,HB1.out⟩
           |
            false =>
            by_cases c10:lim = -1
            ·have t10:(lim != -1)=false:=by rw[c10];rfl
             have R3:=hid c10
             clear c10
             have bI:=hid (dz.out rfl ⟨rfl,d1.out,rfl,rfl,rfl,d5.out,rfl,rfl,rfl,rfl,R3.out⟩)
             clear bE dz
             have dB:=hid (HC.out w1 HW1.out)
             clear HC
             go_wp2_with fail
             refine dB.out.mono ?_
             rintro e w2 ⟨rfl,hb2⟩
             have HW2:=htr HW1 hb2
             have HB1:=hid (eF.out.trans (HW2.out.mono eF.out.size))
             have kk:=au ((HW2.out.block w.heap.size aJ).trans dI.out)
             clear hb2 dB HW1
             go_wp2
             go_ret
             exact⟨bI.out.symm ▸ rfl,HB1.out⟩
            ·have t10:(lim != -1)=true:=by rw[bne_iff_ne];exact c10
             have bI:=hid (bE.out (fun h=>by obtain⟨q0,q1,q2,q3,q4,q5,q6,q7,q8,q9,oP⟩:=h;exact c10 oP))
             clear bE dz c10
             go_wp2
             go_ret
             exact⟨bI.out.symm ▸ rfl,HB1.out⟩
          ·have t8:((0:Int)<(n8:Int)):=by omega
           have bI:=hid (bE.out (fun h=>by obtain⟨q0,q1,q2,q3,q4,q5,q6,q7,q8,q9,oP⟩:=h;omega))
           clear bE dz c8
           go_wp2
           go_ret
           exact⟨bI.out.symm ▸ rfl,HB1.out⟩
         ·have t7:((0:Int)<(n7:Int)):=by omega
          have bI:=hid (bE.out (fun h=>by obtain⟨q0,q1,q2,q3,q4,q5,q6,q7,q8,q9,oP⟩:=h;omega))
          clear bE dz c7
          go_wp2
          go_ret
          exact⟨bI.out.symm ▸ rfl,HB1.out⟩
        ·have t6:((0:Int)<(n5:Int)):=by omega
         have bI:=hid (bE.out (fun h=>by obtain⟨q0,q1,q2,q3,q4,q5,q6,q7,q8,q9,oP⟩:=h;omega))
         clear bE dz c6
         go_wp2
         go_ret
         exact⟨bI.out.symm ▸ rfl,HB1.out⟩
       ·have t5:(aj jn).toList.isEmpty=false:=by rw[bf,aaj c5]
        have bI:=hid (bE.out (fun h=>by obtain⟨q0,q1,q2,q3,q4,q5,q6,q7,q8,q9,oP⟩:=h;exact c5 q5))
        clear bE dz c5
        go_wp2
        go_ret
        exact⟨bI.out.symm ▸ rfl,HB1.out⟩
      ·have t4:((0:Int)<(n4:Int)):=by omega
       have bI:=hid (bE.out (fun h=>by obtain⟨q0,q1,q2,q3,q4,q5,q6,q7,q8,q9,oP⟩:=h;omega))
       clear bE dz c4
       go_wp2
       go_ret
       exact⟨bI.out.symm ▸ rfl,HB1.out⟩
     ·have t3:((0:Int)<(n6:Int)):=by omega
      have bI:=hid (bE.out (fun h=>by obtain⟨q0,q1,q2,q3,q4,q5,q6,q7,q8,q9,oP⟩:=h;omega))
      clear bE dz c3
      go_wp2
      go_ret
      exact⟨bI.out.symm ▸ rfl,HB1.out⟩
    ·have t2:((0:Int)<(n3:Int)):=by omega
     have bI:=hid (bE.out (fun h=>by obtain⟨q0,q1,q2,q3,q4,q5,q6,q7,q8,q9,oP⟩:=h;omega))
     clear bE dz c2
     go_wp2
     go_ret
     exact⟨bI.out.symm ▸ rfl,HB1.out⟩
   ·have t1:(aj aD).toList.isEmpty=false:=by rw[bf,aaj c1]
    have bI:=hid (bE.out (fun h=>by obtain⟨q0,q1,q2,q3,q4,q5,q6,q7,q8,q9,oP⟩:=h;exact c1 q1))
    clear bE dz c1
    go_wp2
    go_ret
    exact⟨bI.out.symm ▸ rfl,HB1.out⟩
  ·have t0:((0:Int)<(n1:Int)):=by omega
   have bI:=hid (bE.out (fun h=>by obtain⟨q0,q1,q2,q3,q4,q5,q6,q7,q8,q9,oP⟩:=h;omega))
   clear bE dz c0
   go_wp2
   go_ret
   exact⟨bI.out.symm ▸ rfl,HB1.out⟩
theorem Ql (S:Nat→Prop) (s:St) (cs:List Value) (w:World) (hR:vZ s) (hx:fD S w s cs) (hk:s.k=4) :
  Calls Tryz.prog 26 #[.agg cs.toArray] w fun e w'=>e = .returned (.bool (aQ s))∧Below w.heap.size w w':=by
 obtain⟨a1,a2,a3,a4,a5,a6,a7,a8,n1,n2,n3,n4,n5,n6,n7,n8,c1,c2,c3,c4,c5,c6,c7,c8,rfl,x1,x2,x3,x4,x5,x6,x7,x8⟩:=hx
 have e1:n1=s.aC.length:=by obtain⟨_,_,hf⟩:=x1.form;simp only[aah] at hf;exact hf.2.1
 have e2:n2=s.rows.length:=by obtain⟨_,_,hf⟩:=x2.form;simp only[aah] at hf;exact hf.2.1
 have e3:n3=s.sets.length:=by obtain⟨_,_,hf⟩:=x3.form;simp only[aah] at hf;exact hf.2.1
 have e4:n4=s.items.length:=by obtain⟨_,_,hf⟩:=x4.form;simp only[aah] at hf;exact hf.2.1
 have e5:n5=s.on.length:=by obtain⟨_,_,hf,_⟩:=x5.form;simp only[aah] at hf;exact hf.2.1
 have e6:n6=s.wh.length:=by obtain⟨_,_,hf,_⟩:=x6.form;simp only[aah] at hf;exact hf.2.1
 have e7:n7=s.gr.length:=by obtain⟨_,_,hf,_⟩:=x7.form;simp only[aah] at hf;exact hf.2.1
 have e8:n8=s.od.length:=by obtain⟨_,_,hf,_⟩:=x8.form;simp only[aah] at hf;exact hf.2.1
 obtain⟨k,tn,aC,aD,rows,sets,items,jn,on,wh,gr,od,desc,lim⟩:=s
 obtain⟨rt,rp,rj,rl,rc,rr,rs,ri,ro,rw',rg,rd⟩:=hR
 dsimp only at *
 subst hk
 obtain⟨W,hW,hbW,aJ,hcW⟩:=aK w (.cells #[.int .i64 4,.string (aj tn),.slice a1 n1 c1,.string (aj aD),.slice a2 n2 c2,.slice a3 n3 c3,.slice a4 n4 c4,.string (aj jn),.slice a5 n5 c5,.slice a6 n6 c6,.slice a7 n7 c7,.slice a8 n8 c8,.bool desc,.int .i64 lim] 29)
 have k0:=au hcW
 have dI:=hid hcW
 have eF:=hid hbW
 have HW0:Hid (Below W.heap.size W W):=hid (Below.refl _ _)
 have jI:=hid (fA tn W rt)
 have HC:=hid (fun V (ze:Below W.heap.size W V)=>by have hV:=eF.out.trans (ze.mono eF.out.size);exact JG S sets _ V rs (x3.to (by decide) (R:=fun _=>False) (T:=S) (ak.aA hV) (fun b hb _=>⟨id,hb⟩) (fun _ _ e=>e.to (R:=fun _=>False) (T:=S) (ak.aA hV) (fun b hb _=>⟨id,hb⟩))))
 have HO:=hid (fun V (ze:Below W.heap.size W V)=>qh S wh _ V rw' (x6.new (eF.out.trans (ze.mono eF.out.size))))
 obtain⟨X,hX⟩:∃X,aQ ⟨4,tn,aC,aD,rows,sets,items,jn,on,wh,gr,od,desc,lim⟩=X:=⟨_,rfl⟩
 rw[hX]
 have gT:X=((aR sets 1 8 j6&&aR wh 0 1 aF)&&(aU tn&&decide (n1=0∧aD=[]∧n2=0∧n4=0∧jn=[]∧n5=0∧n7=0∧n8=0∧desc=false∧lim = -1))):=by
  rw[← hX]
  unfold aQ
  refine gV rfl (gV rfl ?_)
  show oF ⟨0,[],aC,aD,rows,[],items,jn,on,[],gr,od,desc,lim⟩=_
  unfold oF
  dsimp only
  rw[Bool.eq_iff_iff,aaI,aaI,e1,e2,e4,e5,e7,e8]
  exact⟨fun ⟨_,_,fZ,gF,gy,gD,dZ,nJ,nR,sW,nI,nE,gu,ji⟩=>⟨fZ,gF,gy,dZ,nJ,nR,nI,nE,gu,ji⟩,fun ⟨fZ,gF,gy,dZ,nJ,nR,nI,nE,gu,ji⟩=>⟨rfl,rfl,fZ,gF,gy,rfl,dZ,nJ,nR,rfl,nI,nE,gu,ji⟩⟩
 clear hX
 generalize aR sets 1 8 j6=b1 at HC gT
 generalize aR wh 0 1 aF=b2 at HO gT
 generalize aU tn=bn at jI gT
 have qV:Hid (bn=false→X=false):=hid (fun h=>by rw[gT,h,aaz,Bool.and_false])
 have bE:Hid (¬(n1=0∧aD=[]∧n2=0∧n4=0∧jn=[]∧n5=0∧n7=0∧n8=0∧desc=false∧lim = -1)→X=false):=hid (fun h=>by rw[gT,aaj h,Bool.and_false,Bool.and_false])
 have dz:Hid (bn=true→(n1=0∧aD=[]∧n2=0∧n4=0∧jn=[]∧n5=0∧n7=0∧n8=0∧desc=false∧lim = -1)→X=(b1&&b2)):=hid (fun h1 h=>by rw[gT,aar h,h1];simp)
 clear gT e1 e2 e3 e4 e5 e6 e7 e8 x1 x2 x3 x4 x5 x6 x7 x8 rt rp rj rc rr rs ri ro rw' rg rd hcW hbW
 go_enter Tryz.func26,Tryz.ntmps26
 go_wp2_with fail
 try rw[hW]
 clear hW k0
 refine jI.out.mono ?_
 rintro e w1 ⟨rfl,hb1⟩
 have HW1:=htr HW0 hb1
 have HB1:=hid (eF.out.trans (HW1.out.mono eF.out.size))
 have kk:=au ((HW1.out.block w.heap.size aJ).trans dI.out)
 clear hb1 jI HW0
 cases bn with
 |
  false =>
  have bI:=hid (qV.out rfl)
  clear qV bE dz
  go_wp2
  go_ret
  exact⟨bI.out.symm ▸ rfl,HB1.out⟩
 |
  true =>
  clear qV
  rcases aa9 n1 with c0 | c0
  ·subst c0
   by_cases c1:aD=[]
   ·have t1:(aj aD).toList.isEmpty=true:=by rw[bf,aar c1]
    have d1:=hid c1
    clear c1
    rcases aa9 n2 with c2 | c2
    ·subst c2
     rcases aa9 n4 with c3 | c3
     ·subst c3
      by_cases c4:jn=[]
      ·have t4:(aj jn).toList.isEmpty=true:=by rw[bf,aar c4]
       have d4:=hid c4
       clear c4
       rcases aa9 n5 with c5 | c5
       ·subst c5
        rcases aa9 n7 with c6 | c6
        ·subst c6
         rcases aa9 n8 with c7 | c7
         ·subst c7
          cases desc with
          |
           true =>
           have bI:=hid (bE.out (fun h=>by obtain⟨q0,q1,q2,q3,q4,q5,q6,q7,q8,q9⟩:=h;cases q8))
           clear bE dz
           go_wp2
           go_ret
           exact⟨bI.out.symm ▸ rfl,HB1.out⟩
          |
           false =>
           by_cases c9:lim = -1
           ·have t9:(lim != -1)=false:=by rw[c9];rfl
            have d9:=hid c9
            clear c9
            have bI:=hid (dz.out rfl ⟨rfl,d1.out,rfl,rfl,d4.out,rfl,rfl,rfl,rfl,d9.out⟩)
            clear bE dz
            have dB:=hid (HC.out w1 HW1.out)
            clear HC
            go_wp2_with fail
            refine dB.out.mono ?_
            rintro e w2 ⟨rfl,hb2⟩
            have HW2:=htr HW1 hb2
            have HB1:=hid (eF.out.trans (HW2.out.mono eF.out.size))
            have kk:=au ((HW2.out.block w.heap.size aJ).trans dI.out)
            clear hb2 dB HW1
            cases b1 with
            |
             false =>
             clear HO
             go_wp2
             go_ret
             exact⟨bI.out.symm ▸ rfl,HB1.out⟩
            |
             true =>
             have jr:=hid (HO.out w2 HW2.out)
             clear HO
             go_wp2_with fail
             refine jr.out.mono ?_
             rintro e w3 ⟨rfl,hb3⟩
             have HW3:=htr HW2 hb3
             have HB1:=hid (eF.out.trans (HW3.out.mono eF.out.size))
             have kk:=au ((HW3.out.block w.heap.size aJ).trans dI.out)
             clear hb3 jr HW2
             go_wp2
             go_ret
             exact⟨bI.out.symm ▸ rfl,HB1.out⟩
           ·have t9:(lim != -1)=true:=by rw[bne_iff_ne];exact c9
            have bI:=hid (bE.out (fun h=>by obtain⟨q0,q1,q2,q3,q4,q5,q6,q7,q8,q9⟩:=h;exact c9 q9))
            clear bE dz c9
            go_wp2
            go_ret
            exact⟨bI.out.symm ▸ rfl,HB1.out⟩
         ·have t7:((0:Int)<(n8:Int)):=by omega
          have bI:=hid (bE.out (fun h=>by obtain⟨q0,q1,q2,q3,q4,q5,q6,q7,q8,q9⟩:=h;omega))
          clear bE dz c7
          go_wp2
          go_ret
          exact⟨bI.out.symm ▸ rfl,HB1.out⟩
        ·have t6:((0:Int)<(n7:Int)):=by omega
         have bI:=hid (bE.out (fun h=>by obtain⟨q0,q1,q2,q3,q4,q5,q6,q7,q8,q9⟩:=h;omega))
         clear bE dz c6
         go_wp2
         go_ret
         exact⟨bI.out.symm ▸ rfl,HB1.out⟩
       ·have t5:((0:Int)<(n5:Int)):=by omega
        have bI:=hid (bE.out (fun h=>by obtain⟨q0,q1,q2,q3,q4,q5,q6,q7,q8,q9⟩:=h;omega))
        clear bE dz c5
        go_wp2
        go_ret
        exact⟨bI.out.symm ▸ rfl,HB1.out⟩
      ·have t4:(aj jn).toList.isEmpty=false:=by rw[bf,aaj c4]
       have bI:=hid (bE.out (fun h=>by obtain⟨q0,q1,q2,q3,q4,q5,q6,q7,q8,q9⟩:=h;exact c4 q4))
       clear bE dz c4
       go_wp2
       go_ret
       exact⟨bI.out.symm ▸ rfl,HB1.out⟩
     ·have t3:((0:Int)<(n4:Int)):=by omega
      have bI:=hid (bE.out (fun h=>by obtain⟨q0,q1,q2,q3,q4,q5,q6,q7,q8,q9⟩:=h;omega))
      clear bE dz c3
      go_wp2
      go_ret
      exact⟨bI.out.symm ▸ rfl,HB1.out⟩
    ·have t2:((0:Int)<(n2:Int)):=by omega
     have bI:=hid (bE.out (fun h=>by obtain⟨q0,q1,q2,q3,q4,q5,q6,q7,q8,q9⟩:=h;omega))
     clear bE dz c2
     go_wp2
     go_ret
     exact⟨bI.out.symm ▸ rfl,HB1.out⟩
   ·have t1:(aj aD).toList.isEmpty=false:=by rw[bf,aaj c1]
    have bI:=hid (bE.out (fun h=>by obtain⟨q0,q1,q2,q3,q4,q5,q6,q7,q8,q9⟩:=h;exact c1 q1))
    clear bE dz c1
    go_wp2
    go_ret
    exact⟨bI.out.symm ▸ rfl,HB1.out⟩
  ·have t0:((0:Int)<(n1:Int)):=by omega
   have bI:=hid (bE.out (fun h=>by obtain⟨q0,q1,q2,q3,q4,q5,q6,q7,q8,q9⟩:=h;omega))
   clear bE dz c0
   go_wp2
   go_ret
   exact⟨bI.out.symm ▸ rfl,HB1.out⟩
theorem Qy (S:Nat→Prop) (s:St) (cs:List Value) (w:World) (hR:vZ s) (hx:fD S w s cs) (hk:s.k=5) :
  Calls Tryz.prog 26 #[.agg cs.toArray] w fun e w'=>e = .returned (.bool (aQ s))∧Below w.heap.size w w':=by
 obtain⟨a1,a2,a3,a4,a5,a6,a7,a8,n1,n2,n3,n4,n5,n6,n7,n8,c1,c2,c3,c4,c5,c6,c7,c8,rfl,x1,x2,x3,x4,x5,x6,x7,x8⟩:=hx
 have e1:n1=s.aC.length:=by obtain⟨_,_,hf⟩:=x1.form;simp only[aah] at hf;exact hf.2.1
 have e2:n2=s.rows.length:=by obtain⟨_,_,hf⟩:=x2.form;simp only[aah] at hf;exact hf.2.1
 have e3:n3=s.sets.length:=by obtain⟨_,_,hf⟩:=x3.form;simp only[aah] at hf;exact hf.2.1
 have e4:n4=s.items.length:=by obtain⟨_,_,hf⟩:=x4.form;simp only[aah] at hf;exact hf.2.1
 have e5:n5=s.on.length:=by obtain⟨_,_,hf,_⟩:=x5.form;simp only[aah] at hf;exact hf.2.1
 have e6:n6=s.wh.length:=by obtain⟨_,_,hf,_⟩:=x6.form;simp only[aah] at hf;exact hf.2.1
 have e7:n7=s.gr.length:=by obtain⟨_,_,hf,_⟩:=x7.form;simp only[aah] at hf;exact hf.2.1
 have e8:n8=s.od.length:=by obtain⟨_,_,hf,_⟩:=x8.form;simp only[aah] at hf;exact hf.2.1
 obtain⟨k,tn,aC,aD,rows,sets,items,jn,on,wh,gr,od,desc,lim⟩:=s
 obtain⟨rt,rp,rj,rl,rc,rr,rs,ri,ro,rw',rg,rd⟩:=hR
 dsimp only at *
 subst hk
 obtain⟨W,hW,hbW,aJ,hcW⟩:=aK w (.cells #[.int .i64 5,.string (aj tn),.slice a1 n1 c1,.string (aj aD),.slice a2 n2 c2,.slice a3 n3 c3,.slice a4 n4 c4,.string (aj jn),.slice a5 n5 c5,.slice a6 n6 c6,.slice a7 n7 c7,.slice a8 n8 c8,.bool desc,.int .i64 lim] 29)
 have k0:=au hcW
 have dI:=hid hcW
 have eF:=hid hbW
 have HW0:Hid (Below W.heap.size W W):=hid (Below.refl _ _)
 have jI:=hid (fA tn W rt)
 have HO:=hid (fun V (ze:Below W.heap.size W V)=>qh S wh _ V rw' (x6.new (eF.out.trans (ze.mono eF.out.size))))
 obtain⟨X,hX⟩:∃X,aQ ⟨5,tn,aC,aD,rows,sets,items,jn,on,wh,gr,od,desc,lim⟩=X:=⟨_,rfl⟩
 rw[hX]
 have gT:X=(aR wh 0 1 aF&&(aU tn&&decide (n1=0∧aD=[]∧n2=0∧n3=0∧n4=0∧jn=[]∧n5=0∧n7=0∧n8=0∧desc=false∧lim = -1))):=by
  rw[← hX]
  unfold aQ
  refine gV rfl (gV rfl ?_)
  show oF ⟨0,[],aC,aD,rows,sets,items,jn,on,[],gr,od,desc,lim⟩=_
  unfold oF
  dsimp only
  rw[Bool.eq_iff_iff,aaI,aaI,e1,e2,e3,e4,e5,e7,e8]
  exact⟨fun ⟨_,_,fZ,gF,gy,gD,dZ,nJ,nR,sW,nI,nE,gu,ji⟩=>⟨fZ,gF,gy,gD,dZ,nJ,nR,nI,nE,gu,ji⟩,fun ⟨fZ,gF,gy,gD,dZ,nJ,nR,nI,nE,gu,ji⟩=>⟨rfl,rfl,fZ,gF,gy,gD,dZ,nJ,nR,rfl,nI,nE,gu,ji⟩⟩
 clear hX
 generalize aR wh 0 1 aF=b1 at HO gT
 generalize aU tn=bn at jI gT
 have qV:Hid (bn=false→X=false):=hid (fun h=>by rw[gT,h,aaz,Bool.and_false])
 have bE:Hid (¬(n1=0∧aD=[]∧n2=0∧n3=0∧n4=0∧jn=[]∧n5=0∧n7=0∧n8=0∧desc=false∧lim = -1)→X=false):=hid (fun h=>by rw[gT,aaj h,Bool.and_false,Bool.and_false])
 have dz:Hid (bn=true→(n1=0∧aD=[]∧n2=0∧n3=0∧n4=0∧jn=[]∧n5=0∧n7=0∧n8=0∧desc=false∧lim = -1)→X=b1):=hid (fun h1 h=>by rw[gT,aar h,h1];simp)
 clear gT e1 e2 e3 e4 e5 e6 e7 e8 x1 x2 x3 x4 x5 x6 x7 x8 rt rp rj rc rr rs ri ro rw' rg rd hcW hbW
 go_enter Tryz.func26,Tryz.ntmps26
 go_wp2_with fail
 try rw[hW]
 clear hW k0
 refine jI.out.mono ?_
 rintro e w1 ⟨rfl,hb1⟩
 have HW1:=htr HW0 hb1
 have HB1:=hid (eF.out.trans (HW1.out.mono eF.out.size))
 have kk:=au ((HW1.out.block w.heap.size aJ).trans dI.out)
 clear hb1 jI HW0
 cases bn with
 |
  false =>
  have bI:=hid (qV.out rfl)
  clear qV bE dz
  go_wp2
  go_ret
  exact⟨bI.out.symm ▸ rfl,HB1.out⟩
 |
  true =>
  clear qV
  rcases aa9 n1 with c0 | c0
  ·subst c0
   by_cases c1:aD=[]
   ·have t1:(aj aD).toList.isEmpty=true:=by rw[bf,aar c1]
    have d1:=hid c1
    clear c1
    rcases aa9 n2 with c2 | c2
    ·subst c2
     rcases aa9 n3 with c3 | c3
     ·subst c3
      rcases aa9 n4 with c4 | c4
      ·subst c4
       by_cases c5:jn=[]
       ·have t5:(aj jn).toList.isEmpty=true:=by rw[bf,aar c5]
        have d5:=hid c5
        clear c5
        rcases aa9 n5 with c6 | c6
        ·subst c6
         rcases aa9 n7 with c7 | c7
         ·subst c7
          rcases aa9 n8 with c8 | c8
          ·subst c8
           cases desc with
           |
            true =>
            have bI:=hid (bE.out (fun h=>by obtain⟨q0,q1,q2,q3,q4,q5,q6,q7,q8,q9,oP⟩:=h;cases q9))
            clear bE dz
            go_wp2
            go_ret
            exact⟨bI.out.symm ▸ rfl,HB1.out⟩
           |
            false =>
            by_cases c10:lim = -1
            ·have t10:(lim != -1)=false:=by rw[c10];rfl
             have R3:=hid c10
             clear c10
             have bI:=hid (dz.out rfl ⟨rfl,d1.out,rfl,rfl,rfl,d5.out,rfl,rfl,rfl,rfl,R3.out⟩)
             clear bE dz
             have dB:=hid (HO.out w1 HW1.out)
             clear HO
             go_wp2_with fail
             refine dB.out.mono ?_
             rintro e w2 ⟨rfl,hb2⟩
             have HW2:=htr HW1 hb2
             have HB1:=hid (eF.out.trans (HW2.out.mono eF.out.size))
             have kk:=au ((HW2.out.block w.heap.size aJ).trans dI.out)
             clear hb2 dB HW1
             go_wp2
             go_ret
             exact⟨bI.out.symm ▸ rfl,HB1.out⟩
            ·have t10:(lim != -1)=true:=by rw[bne_iff_ne];exact c10
             have bI:=hid (bE.out (fun h=>by obtain⟨q0,q1,q2,q3,q4,q5,q6,q7,q8,q9,oP⟩:=h;exact c10 oP))
             clear bE dz c10
             go_wp2
             go_ret
             exact⟨bI.out.symm ▸ rfl,HB1.out⟩
          ·have t8:((0:Int)<(n8:Int)):=by omega
           have bI:=hid (bE.out (fun h=>by obtain⟨q0,q1,q2,q3,q4,q5,q6,q7,q8,q9,oP⟩:=h;omega))
           clear bE dz c8
           go_wp2
           go_ret
           exact⟨bI.out.symm ▸ rfl,HB1.out⟩
         ·have t7:((0:Int)<(n7:Int)):=by omega
          have bI:=hid (bE.out (fun h=>by obtain⟨q0,q1,q2,q3,q4,q5,q6,q7,q8,q9,oP⟩:=h;omega))
          clear bE dz c7
          go_wp2
          go_ret
          exact⟨bI.out.symm ▸ rfl,HB1.out⟩
        ·have t6:((0:Int)<(n5:Int)):=by omega
         have bI:=hid (bE.out (fun h=>by obtain⟨q0,q1,q2,q3,q4,q5,q6,q7,q8,q9,oP⟩:=h;omega))
         clear bE dz c6
         go_wp2
         go_ret
         exact⟨bI.out.symm ▸ rfl,HB1.out⟩
       ·have t5:(aj jn).toList.isEmpty=false:=by rw[bf,aaj c5]
        have bI:=hid (bE.out (fun h=>by obtain⟨q0,q1,q2,q3,q4,q5,q6,q7,q8,q9,oP⟩:=h;exact c5 q5))
        clear bE dz c5
        go_wp2
        go_ret
        exact⟨bI.out.symm ▸ rfl,HB1.out⟩
      ·have t4:((0:Int)<(n4:Int)):=by omega
       have bI:=hid (bE.out (fun h=>by obtain⟨q0,q1,q2,q3,q4,q5,q6,q7,q8,q9,oP⟩:=h;omega))
       clear bE dz c4
       go_wp2
       go_ret
       exact⟨bI.out.symm ▸ rfl,HB1.out⟩
     ·have t3:((0:Int)<(n3:Int)):=by omega
      have bI:=hid (bE.out (fun h=>by obtain⟨q0,q1,q2,q3,q4,q5,q6,q7,q8,q9,oP⟩:=h;omega))
      clear bE dz c3
      go_wp2
      go_ret
      exact⟨bI.out.symm ▸ rfl,HB1.out⟩
    ·have t2:((0:Int)<(n2:Int)):=by omega
     have bI:=hid (bE.out (fun h=>by obtain⟨q0,q1,q2,q3,q4,q5,q6,q7,q8,q9,oP⟩:=h;omega))
     clear bE dz c2
     go_wp2
     go_ret
     exact⟨bI.out.symm ▸ rfl,HB1.out⟩
   ·have t1:(aj aD).toList.isEmpty=false:=by rw[bf,aaj c1]
    have bI:=hid (bE.out (fun h=>by obtain⟨q0,q1,q2,q3,q4,q5,q6,q7,q8,q9,oP⟩:=h;exact c1 q1))
    clear bE dz c1
    go_wp2
    go_ret
    exact⟨bI.out.symm ▸ rfl,HB1.out⟩
  ·have t0:((0:Int)<(n1:Int)):=by omega
   have bI:=hid (bE.out (fun h=>by obtain⟨q0,q1,q2,q3,q4,q5,q6,q7,q8,q9,oP⟩:=h;omega))
   clear bE dz c0
   go_wp2
   go_ret
   exact⟨bI.out.symm ▸ rfl,HB1.out⟩
end Go.Proofs.YtfeglkleoijlaaaGreatDoor
