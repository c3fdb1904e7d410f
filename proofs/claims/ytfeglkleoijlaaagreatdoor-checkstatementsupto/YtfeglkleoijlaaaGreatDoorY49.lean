import Derived.Test.YtfeglkleoijlaaaGreatDoorY39
import Derived.Test.YtfeglkleoijlaaaGreatDoorY19
namespace Go.Proofs.YtfeglkleoijlaaaGreatDoor
open Go.RowKit Go.Shelf
set_option linter.unusedSimpArgs false
set_option linter.unusedVariables false
set_option maxRecDepth 20000
set_option maxHeartbeats 8000000
theorem F5:aU []=false:=by decide
theorem Jq (s:St) (hl:s.lim≤9223372036854775807):yA s=(aR s.items 1 8 oQ&&(((decide (s.jn=[])&&decide (s.on.length=0))||(aU s.jn&&decide (s.on.length=1)))&&(aR s.on 0 1 aF&&(aR s.wh 0 1 aF&&(aR s.gr 0 1 dO&&(aR s.od 0 1 dO&&((!s.desc||decide (s.od.length=1))&&decide (-1≤s.lim)))))))):=by
 have h1:decide (-1≤s.lim∧s.lim≤9223372036854775807)=decide (-1≤s.lim):=by rw[Bool.eq_iff_iff,aaI,aaI];omega
 have h2 : ∀R:Bool,(oI s.jn&&(aR s.on (gB s.jn) (gB s.jn) aF&&R))=(((decide (s.jn=[])&&decide (s.on.length=0))||(aU s.jn&&decide (s.on.length=1)))&&(aR s.on 0 1 aF&&R)):=fun R=>by
  unfold oI gB aR
  by_cases hj:s.jn=[]
  ·rw[aar hj,if_pos hj,hj,F5]
   by_cases ho:s.on.length=0
   ·simp[ho]
   ·simp[ho]
  ·rw[aaj hj,if_neg hj]
   by_cases ho:s.on.length=1
   ·simp[ho]
   ·have : ¬(1≤s.on.length∧s.on.length≤1):=by omega
    simp[ho,this]
 unfold yA
 rw[h1,h2]
theorem Q0 (S:Nat→Prop) (s:St) (cs:List Value) (w:World) (hR:vZ s) (hx:fD S w s cs) (hk:s.k=6) :
  Calls Tryz.prog 26 #[.agg cs.toArray] w fun e w'=>e = .returned (.bool (aQ s))∧Below w.heap.size w w':=by
 obtain⟨a1,a2,a3,a4,a5,a6,a7,a8,n1,n2,n3,n4,n5,n6,n7,n8,c1,c2,c3,c4,c5,c6,c7,c8,rfl,x1,x2,x3,x4,x5,x6,x7,x8⟩:=hx
 have e1:n1=s.aC.length:=by obtain⟨_,_,hf⟩:=x1.form;simp only[aah] at hf;exact hf.2.1
 have e2:n2=s.rows.length:=by obtain⟨_,_,hf⟩:=x2.form;simp only[aah] at hf;exact hf.2.1
 have e3:n3=s.sets.length:=by obtain⟨_,_,hf⟩:=x3.form;simp only[aah] at hf;exact hf.2.1
 have e4:n4=s.items.length:=by obtain⟨_,_,hf⟩:=x4.form;simp only[aah] at hf;exact hf.2.1
 have e5:n5=s.on.length:=by obtain⟨_,_,hf,_⟩:=x5.form;simp only[aah] at hf;exact hf.2.1
 have e6:n6=s.wh.length:=by obtain⟨_,_,hf,_⟩:=x6.form;simp only[aah] at hf;exact hf.2.1
 have e7:n7=s.gr.length:=by obtain⟨_,_,hf,_⟩:=x7.form;simp only[aah] at hf;exact hf.2.1
 have e8:n8=s.od.length:=by obtain⟨_,_,hf,_⟩:=x8.form;simp only[aah] at hf;exact hf.2.1
 obtain⟨k,tn,aC,aD,rows,sets,items,jn,on,wh,gr,od,desc,lim⟩:=s
 obtain⟨rt,rp,rj,rl,rc,rr,rs,ri,ro,rw',rg,rd⟩:=hR
 dsimp only at *
 subst hk
 obtain⟨W,hW,hbW,aJ,hcW⟩:=aK w (.cells #[.int .i64 6,.string (aj tn),.slice a1 n1 c1,.string (aj aD),.slice a2 n2 c2,.slice a3 n3 c3,.slice a4 n4 c4,.string (aj jn),.slice a5 n5 c5,.slice a6 n6 c6,.slice a7 n7 c7,.slice a8 n8 c8,.bool desc,.int .i64 lim] 29)
 have k0:=au hcW
 have dI:=hid hcW
 have eF:=hid hbW
 have HW0:Hid (Below W.heap.size W W):=hid (Below.refl _ _)
 have jI:=hid (fA tn W rt)
 have HI:=hid (fun V (ze:Below W.heap.size W V)=>by have hV:=eF.out.trans (ze.mono eF.out.size);exact G6 S items _ V ri (x4.to (by decide) (R:=fun _=>False) (T:=S) (ak.aA hV) (fun b hb _=>⟨id,hb⟩) (fun _ _ e=>e.to (R:=fun _=>False) (T:=S) (ak.aA hV) (fun b hb _=>⟨id,hb⟩))))
 have HJ:=hid (fun V=>fA jn V rj)
 have HO:=hid (fun V (ze:Below W.heap.size W V)=>qh S on _ V ro (x5.new (eF.out.trans (ze.mono eF.out.size))))
 have JJ:=hid (fun V (ze:Below W.heap.size W V)=>qh S wh _ V rw' (x6.new (eF.out.trans (ze.mono eF.out.size))))
 have HG:=hid (fun V (ze:Below W.heap.size W V)=>zX S gr _ V rg (x7.new (eF.out.trans (ze.mono eF.out.size))))
 have HD:=hid (fun V (ze:Below W.heap.size W V)=>zX S od _ V rd (x8.new (eF.out.trans (ze.mono eF.out.size))))
 have Sl:Hid (jn=[]→aU jn=false):=hid (fun h=>by rw[h];decide)
 obtain⟨X,hX⟩:∃X,aQ ⟨6,tn,aC,aD,rows,sets,items,jn,on,wh,gr,od,desc,lim⟩=X:=⟨_,rfl⟩
 rw[hX]
 have gT:X=((aR items 1 8 oQ&&(((decide (jn=[])&&decide (n5=0))||(aU jn&&decide (n5=1)))&&(aR on 0 1 aF&&(aR wh 0 1 aF&&(aR gr 0 1 dO&&(aR od 0 1 dO&&((!desc||decide (n8=1))&&decide (-1≤lim))))))))&&(aU tn&&decide (n1=0∧aD=[]∧n2=0∧n3=0))):=by
  rw[← hX]
  unfold aQ
  refine gV (by rw[e5,e8];exact Jq _ rl) (gV rfl ?_)
  show oF ⟨0,[],aC,aD,rows,sets,[],[],[],[],[],[],false,-1⟩=_
  unfold oF
  dsimp only
  rw[Bool.eq_iff_iff,aaI,aaI,e1,e2,e3]
  exact⟨fun ⟨_,_,fZ,gF,gy,gD,dZ,nJ,nR,sW,nI,nE,gu,ji⟩=>⟨fZ,gF,gy,gD⟩,fun ⟨fZ,gF,gy,gD⟩=>⟨rfl,rfl,fZ,gF,gy,gD,rfl,rfl,rfl,rfl,rfl,rfl,rfl,rfl⟩⟩
 clear hX
 generalize aR items 1 8 oQ=b1 at HI gT
 generalize aR on 0 1 aF=b2 at HO gT
 generalize aR wh 0 1 aF=b3 at JJ gT
 generalize aR gr 0 1 dO=b4 at HG gT
 generalize aR od 0 1 dO=b5 at HD gT
 generalize aU jn=bj at HJ Sl gT
 generalize aU tn=bn at jI gT
 have qV:Hid (bn=false→X=false):=hid (fun h=>by rw[gT,h,aaz,Bool.and_false])
 have bE:Hid (¬(n1=0∧aD=[]∧n2=0∧n3=0)→X=false):=hid (fun h=>by rw[gT,aaj h,Bool.and_false,Bool.and_false])
 have dz:Hid (bn=true→(n1=0∧aD=[]∧n2=0∧n3=0)→X=(b1&&(((decide (jn=[])&&decide (n5=0))||(bj&&decide (n5=1)))&&(b2&&(b3&&(b4&&(b5&&((!desc||decide (n8=1))&&decide (-1≤lim))))))))):=hid (fun h1 h=>by rw[gT,aar h,h1];simp)
 clear gT e1 e2 e3 e4 e5 e6 e7 e8 x1 x2 x3 x4 x5 x6 x7 x8 rt rp rj rc rr rs ri ro rw' rg rd hcW hbW
 go_enter Tryz.func26,Tryz.ntmps26
 go_wp2_with fail
 try rw[hW]
 clear hW k0
 refine jI.out.mono ?_
 rintro e w1 ⟨rfl,hb1⟩
 have HW1:=htr HW0 hb1
 have HB1:=hid (eF.out.trans (HW1.out.mono eF.out.size))
 have kk:=au ((HW1.out.block w.heap.size aJ).trans dI.out)
 clear hb1 jI HW0
 cases bn with
 |
  false =>
  have bI:=hid (qV.out rfl)
  clear qV bE dz
  go_wp2
  go_ret
  exact⟨bI.out.symm ▸ rfl,HB1.out⟩
 |
  true =>
  clear qV
  rcases aa9 n1 with c0 | c0
  ·subst c0
   by_cases c1:aD=[]
   ·have t1:(aj aD).toList.isEmpty=true:=by rw[bf,aar c1]
    have d1:=hid c1
    clear c1
    rcases aa9 n2 with c2 | c2
    ·subst c2
     rcases aa9 n3 with c3 | c3
     ·subst c3
      have bI:=hid (dz.out rfl ⟨rfl,d1.out,rfl,rfl⟩)
      clear bE dz
      by_cases hj:jn=[]
      ·have hjb:(aj jn).toList.isEmpty=true:=by rw[bf,aar hj]
       rw[aar hj] at bI
       by_cases ho0:n5=0
       ·subst ho0
        rw[aar rfl] at bI
        clear HJ Sl hj
        have dB:=hid (HI.out w1 HW1.out)
        clear HI
        go_wp2_with fail
        refine dB.out.mono ?_
        rintro e w2 ⟨rfl,hb2⟩
        have HW2:=htr HW1 hb2
        have HB1:=hid (eF.out.trans (HW2.out.mono eF.out.size))
        have kk:=au ((HW2.out.block w.heap.size aJ).trans dI.out)
        clear hb2 dB HW1
        cases b1 with
        |
         false =>
         go_wp2
         go_ret
         exact⟨bI.out.symm ▸ rfl,HB1.out⟩
        |
         true =>
         have jr:=hid (HO.out w2 HW2.out)
         clear HO
         go_wp2_with fail
         refine jr.out.mono ?_
         rintro e w3 ⟨rfl,hb3⟩
         have HW3:=htr HW2 hb3
         have HB1:=hid (eF.out.trans (HW3.out.mono eF.out.size))
         have kk:=au ((HW3.out.block w.heap.size aJ).trans dI.out)
         clear hb3 jr HW2
         cases b2 with
         |
          false =>
          go_wp2
          go_ret
          exact⟨bI.out.symm ▸ rfl,HB1.out⟩
         |
          true =>
          have PK:=hid (JJ.out w3 HW3.out)
          clear JJ
          go_wp2_with fail
          refine PK.out.mono ?_
          rintro e w4 ⟨rfl,hb4⟩
          have Ci:=htr HW3 hb4
          have HB1:=hid (eF.out.trans (Ci.out.mono eF.out.size))
          have kk:=au ((Ci.out.block w.heap.size aJ).trans dI.out)
          clear hb4 PK HW3
          cases b3 with
          |
           false =>
           go_wp2
           go_ret
           exact⟨bI.out.symm ▸ rfl,HB1.out⟩
          |
           true =>
           have Ew:=hid (HG.out w4 Ci.out)
           clear HG
           go_wp2_with fail
           refine Ew.out.mono ?_
           rintro e w5 ⟨rfl,hb5⟩
           have Cz:=htr Ci hb5
           have HB1:=hid (eF.out.trans (Cz.out.mono eF.out.size))
           have kk:=au ((Cz.out.block w.heap.size aJ).trans dI.out)
           clear hb5 Ew Ci
           cases b4 with
           |
            false =>
            go_wp2
            go_ret
            exact⟨bI.out.symm ▸ rfl,HB1.out⟩
           |
            true =>
            have Yt:=hid (HD.out w5 Cz.out)
            clear HD
            go_wp2_with fail
            refine Yt.out.mono ?_
            rintro e w6 ⟨rfl,hb6⟩
            have O8:=htr Cz hb6
            have HB1:=hid (eF.out.trans (O8.out.mono eF.out.size))
            have kk:=au ((O8.out.block w.heap.size aJ).trans dI.out)
            clear hb6 Yt Cz
            cases b5 with
            |
             false =>
             go_wp2
             go_ret
             exact⟨bI.out.symm ▸ rfl,HB1.out⟩
            |
             true =>
             cases desc with
             |
              false =>
              go_wp2
              go_ret
              exact⟨bI.out.symm ▸ rfl,HB1.out⟩
             |
              true =>
              by_cases ho:n8=1
              ·subst ho
               rw[aar rfl] at bI
               go_wp2
               go_ret
               exact⟨bI.out.symm ▸ rfl,HB1.out⟩
              ·have K3:((n8:Int)==1)=false:=by rw[aai];omega
               rw[aaj ho] at bI
               clear ho
               go_wp2
               go_ret
               exact⟨bI.out.symm ▸ rfl,HB1.out⟩
       ·have hon:((n5:Int)==0)=false:=by rw[aai];omega
        rw[aaj ho0] at bI
        have Vj:=hid (HJ.out w1)
        rw[Sl.out hj] at Vj bI
        clear HJ Sl hj ho0
        go_wp2_with fail
        refine Vj.out.mono ?_
        rintro e w2 ⟨rfl,hb2⟩
        have HW2:=htr HW1 hb2
        have HB1:=hid (eF.out.trans (HW2.out.mono eF.out.size))
        have kk:=au ((HW2.out.block w.heap.size aJ).trans dI.out)
        clear hb2 Vj HW1
        have jr:=hid (HI.out w2 HW2.out)
        clear HI HO JJ HG HD
        go_wp2_with fail
        refine jr.out.mono ?_
        rintro e w3 ⟨rfl,hb3⟩
        have HW3:=htr HW2 hb3
        have HB1:=hid (eF.out.trans (HW3.out.mono eF.out.size))
        have kk:=au ((HW3.out.block w.heap.size aJ).trans dI.out)
        clear hb3 jr HW2
        cases b1 with
        |
         false =>
         go_wp2
         go_ret
         exact⟨bI.out.symm ▸ rfl,HB1.out⟩
        |
         true =>
         go_wp2
         go_ret
         exact⟨bI.out.symm ▸ rfl,HB1.out⟩
      ·have hjb:(aj jn).toList.isEmpty=false:=by rw[bf,aaj hj]
       rw[aaj hj] at bI
       have Vj:=hid (HJ.out w1)
       clear HJ Sl hj
       go_wp2_with fail
       refine Vj.out.mono ?_
       rintro e w2 ⟨rfl,hb2⟩
       have HW2:=htr HW1 hb2
       have HB1:=hid (eF.out.trans (HW2.out.mono eF.out.size))
       have kk:=au ((HW2.out.block w.heap.size aJ).trans dI.out)
       clear hb2 Vj HW1
       cases bj with
       |
        false =>
        have jr:=hid (HI.out w2 HW2.out)
        clear HI HO JJ HG HD
        go_wp2_with fail
        refine jr.out.mono ?_
        rintro e w3 ⟨rfl,hb3⟩
        have HW3:=htr HW2 hb3
        have HB1:=hid (eF.out.trans (HW3.out.mono eF.out.size))
        have kk:=au ((HW3.out.block w.heap.size aJ).trans dI.out)
        clear hb3 jr HW2
        cases b1 with
        |
         false =>
         go_wp2
         go_ret
         exact⟨bI.out.symm ▸ rfl,HB1.out⟩
        |
         true =>
         go_wp2
         go_ret
         exact⟨bI.out.symm ▸ rfl,HB1.out⟩
       |
        true =>
        by_cases ho1:n5=1
        ·subst ho1
         rw[aar rfl] at bI
         have jr:=hid (HI.out w2 HW2.out)
         clear HI
         go_wp2_with fail
         refine jr.out.mono ?_
         rintro e w3 ⟨rfl,hb3⟩
         have HW3:=htr HW2 hb3
         have HB1:=hid (eF.out.trans (HW3.out.mono eF.out.size))
         have kk:=au ((HW3.out.block w.heap.size aJ).trans dI.out)
         clear hb3 jr HW2
         cases b1 with
         |
          false =>
          go_wp2
          go_ret
          exact⟨bI.out.symm ▸ rfl,HB1.out⟩
         |
          true =>
          have PK:=hid (HO.out w3 HW3.out)
          clear HO
          go_wp2_with fail
          refine PK.out.mono ?_
          rintro e w4 ⟨rfl,hb4⟩
          have Ci:=htr HW3 hb4
          have HB1:=hid (eF.out.trans (Ci.out.mono eF.out.size))
          have kk:=au ((Ci.out.block w.heap.size aJ).trans dI.out)
          clear hb4 PK HW3
          cases b2 with
          |
           false =>
           go_wp2
           go_ret
           exact⟨bI.out.symm ▸ rfl,HB1.out⟩
          |
           true =>
           have Ew:=hid (JJ.out w4 Ci.out)
           clear JJ
           go_wp2_with fail
           refine Ew.out.mono ?_
           rintro e w5 ⟨rfl,hb5⟩
           have Cz:=htr Ci hb5
           have HB1:=hid (eF.out.trans (Cz.out.mono eF.out.size))
           have kk:=au ((Cz.out.block w.heap.size aJ).trans dI.out)
           clear hb5 Ew Ci
           cases b3 with
           |
            false =>
            go_wp2
            go_ret
            exact⟨bI.out.symm ▸ rfl,HB1.out⟩
           |
            true =>
            have Yt:=hid (HG.out w5 Cz.out)
            clear HG
            go_wp2_with fail
            refine Yt.out.mono ?_
            rintro e w6 ⟨rfl,hb6⟩
            have O8:=htr Cz hb6
            have HB1:=hid (eF.out.trans (O8.out.mono eF.out.size))
            have kk:=au ((O8.out.block w.heap.size aJ).trans dI.out)
            clear hb6 Yt Cz
            cases b4 with
            |
             false =>
             go_wp2
             go_ret
             exact⟨bI.out.symm ▸ rfl,HB1.out⟩
            |
             true =>
             have HC6:=hid (HD.out w6 O8.out)
             clear HD
             go_wp2_with fail
             refine HC6.out.mono ?_
             rintro e w7 ⟨rfl,Bw⟩
             have ZC:=htr O8 Bw
             have HB1:=hid (eF.out.trans (ZC.out.mono eF.out.size))
             have kk:=au ((ZC.out.block w.heap.size aJ).trans dI.out)
             clear Bw HC6 O8
             cases b5 with
             |
              false =>
              go_wp2
              go_ret
              exact⟨bI.out.symm ▸ rfl,HB1.out⟩
             |
              true =>
              cases desc with
              |
               false =>
               go_wp2
               go_ret
               exact⟨bI.out.symm ▸ rfl,HB1.out⟩
              |
               true =>
               by_cases ho:n8=1
               ·subst ho
                rw[aar rfl] at bI
                go_wp2
                go_ret
                exact⟨bI.out.symm ▸ rfl,HB1.out⟩
               ·have K3:((n8:Int)==1)=false:=by rw[aai];omega
                rw[aaj ho] at bI
                clear ho
                go_wp2
                go_ret
                exact⟨bI.out.symm ▸ rfl,HB1.out⟩
        ·have hon:((n5:Int)==1)=false:=by rw[aai];omega
         rw[aaj ho1] at bI
         clear ho1
         have jr:=hid (HI.out w2 HW2.out)
         clear HI HO JJ HG HD
         go_wp2_with fail
         refine jr.out.mono ?_
         rintro e w3 ⟨rfl,hb3⟩
         have HW3:=htr HW2 hb3
         have HB1:=hid (eF.out.trans (HW3.out.mono eF.out.size))
         have kk:=au ((HW3.out.block w.heap.size aJ).trans dI.out)
         clear hb3 jr HW2
         cases b1 with
         |
          false =>
          go_wp2
          go_ret
          exact⟨bI.out.symm ▸ rfl,HB1.out⟩
         |
          true =>
          go_wp2
          go_ret
          exact⟨bI.out.symm ▸ rfl,HB1.out⟩
     ·have t3:((0:Int)<(n3:Int)):=by omega
      have bI:=hid (bE.out (fun h=>by obtain⟨q0,q1,q2,q3⟩:=h;omega))
      clear bE dz c3
      go_wp2
      go_ret
      exact⟨bI.out.symm ▸ rfl,HB1.out⟩
    ·have t2:((0:Int)<(n2:Int)):=by omega
     have bI:=hid (bE.out (fun h=>by obtain⟨q0,q1,q2,q3⟩:=h;omega))
     clear bE dz c2
     go_wp2
     go_ret
     exact⟨bI.out.symm ▸ rfl,HB1.out⟩
   ·have t1:(aj aD).toList.isEmpty=false:=by rw[bf,aaj c1]
    have bI:=hid (bE.out (fun h=>by obtain⟨q0,q1,q2,q3⟩:=h;exact c1 q1))
    clear bE dz c1
    go_wp2
    go_ret
    exact⟨bI.out.symm ▸ rfl,HB1.out⟩
  ·have t0:((0:Int)<(n1:Int)):=by omega
   have bI:=hid (bE.out (fun h=>by obtain⟨q0,q1,q2,q3⟩:=h;omega))
   clear bE dz c0
   go_wp2
   go_ret
   exact⟨bI.out.symm ▸ rfl,HB1.out⟩
end Go.Proofs.YtfeglkleoijlaaaGreatDoor
