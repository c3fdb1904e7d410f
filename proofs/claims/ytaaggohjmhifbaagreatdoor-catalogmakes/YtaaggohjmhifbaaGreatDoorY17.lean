/- Packed for the hand-in: PFact PSl -/
import Derived.Test.YtaaggohjmhifbaaGreatDoorY16
namespace Go.Proofs.YtaaggohjmhifbaaGreatDoor
open Go.RowKit Go.Shelf
set_option linter.unusedSimpArgs false
set_option linter.unusedVariables false
set_option maxRecDepth 20000
set_option maxHeartbeats 8000000
theorem DX {fc ex:Pa Ex} {r:Rd} (h:(bq r).k=1):dF fc ex r=fq r:=by
 unfold dF aB jF
 dsimp only
 rw[h]
 rfl
theorem Aw {fc ex:Pa Ex} {r:Rd} (h:(bq r).k≠1) (h1:dK [45] r=true) (h2:(bZ r).k≠3):dF fc ex r=(jE 5 (fT fc (nextR r)).1,(fT fc (nextR r)).2):=by
 unfold dF aB jF
 dsimp only
 rw[if_neg (by simpa using h)]
 unfold iD
 rw[if_pos ⟨h1,h2⟩]
 rfl
theorem D5 {fc ex:Pa Ex} {r:Rd} (h:(bq r).k≠1) (h1:dK [45] r=false) (h2:dK [40] r=true):dF fc ex r=((fT ex (nextR r)).1,(aD [[41]] (fT ex (nextR r)).2).2):=by
 unfold dF aB jF
 dsimp only
 rw[if_neg (by simpa using h)]
 unfold iD
 rw[if_neg (fun e=>by rw[h1] at e;cases e.1)]
 unfold gI
 rw[if_pos h2]
 rfl
theorem EW {fc ex:Pa Ex} {r:Rd} (h:(bq r).k≠1) (h1:dK [45] r=false∨(bZ r).k=3) (h2:dK [40] r=false):dF fc ex r=(zA (jk r).1,(jk r).2):=by
 unfold dF aB jF
 dsimp only
 rw[if_neg (by simpa using h)]
 unfold iD
 rw[if_neg (fun e=>by rcases h1 with h1 | h1;(rw[h1] at e;cases e.1);exact e.2 h1)]
 unfold gI
 rw[if_neg (by rw[h2];exact Bool.false_ne_true)]
 rfl
theorem p8 (x:Tk) (w:World):(Instr.field 162 (.agg #[.int .i64 x.k,.string (ah x.s),.int .i64 x.n,.int .i64 x.p]) 0).run Tryz.prog w = .ok (.int .i64 x.k) w:=(rT x.k x.n x.p (ah x.s) w).1
theorem Av (F n:Nat) (pf pe:Pa Ex) (hf:iM F (bQ n) 311 pf) (hNf:bf false F pf) (he:iM F (bQ n) 116 pe) (hNe:bf false F pe):iM F (bQ (n+1)) 311 (dF pf pe):=fun g r w h hE=>by
 have hgw:=h.lt
 have hG:=h.good
 obtain⟨W,hW,hbW,hzW,hcW⟩:=bF w sW
 have HCW:=hid hcW
 have HF:=hid (aj.aC (S:=fun k=>k=g) hbW)
 have HH:=hid (h.below hbW)
 have HN:=hid (oP F g r W HH.out)
 have hft:=p8 (bq r)
 obtain⟨⟨Y1,Y2⟩,hY⟩:∃Y,dF pf pe r=Y:=⟨_,rfl⟩
 have q1:=DX (fc:=pf) (ex:=pe) (r:=r)
 have q2:=Aw (fc:=pf) (ex:=pe) (r:=r)
 have q3:=D5 (fc:=pf) (ex:=pe) (r:=r)
 have q4:=EW (fc:=pf) (ex:=pe) (r:=r)
 rw[hY] at q1 q2 q3 q4 ⊢
 dsimp only
 clear hY h hcW hbW
 have CL:True:=trivial
 by_cases hk:(bq r).k=1
 ·have hYY:=q1 hk
  have HC:=hid (fun V (hV:aA F V g r)=>wW F (fun _=>True) g r V hV trivial)
  rw[← hYY] at HC
  dsimp only at HC
  clear hYY
  generalize bq r=x at HN hft hk
  obtain⟨xk,xs,xn,xp⟩:=x
  dsimp only at HN hft hk
  subst hk
  clear q1 q2 q3 q4 hf hNf he hNe hE hG CL
  go_enter Tryz.func311,Tryz.ntmps311
  go_wp2_with fail
  try rw[hW]
  clear hW
  refine HN.out.mono ?_
  rintro e w1 ⟨rfl,hb1⟩
  have hz1:=hb1.size
  have HR1:=hid (HH.out.below hb1)
  have HF1:=hid (HF.out.aO hb1)
  have HB1:=hid ((hb1.block _ hzW).trans HCW.out)
  clear hb1 HN
  go_wp2_with fail
  refine (HC.out w1 HR1.out).mono ?_
  rintro e w2 ⟨u,rfl,hu,hr2,hf2⟩
  have HU2:=hid hu
  obtain⟨k3,op3,tb3,nm3,vk3,vn3,vs3,ys3,aa3,nn3,cc3,_,rfl,_⟩:=hu
  have hz2:=hf2.size
  have HR2:=hid hr2
  have HF2:=hid (HF1.out.then hf2)
  have HB2:=hid ((hf2.block w.heap.size (by omega) (by omega)).trans HB1.out)
  clear hr2 hf2 HC
  go_wp2_with (first
   | (
     refine aP rfl (.tmp 2) (.tmp 10) rfl w.heap.size rfl k3 op3 vk3 vn3 (ah tb3) (ah nm3) (ah vs3) aa3 nn3 cc3 rfl HB2.out (Nat.le_refl _) hgw HR2.out HF2.out ?_
     intro Y hYB hYs hYR hYF
     have HYB:=hid hYB
     have HUY:=hid (HU2.out.to (T:=fun b=>w.heap.size≤b) hYs (fun b hb _=>⟨by omega,by omega⟩))
     have HYR:=hid hYR
     have HYF:=hid hYF
     clear hYB hYs hYR hYF)
   | fail)
  have kc:=aU HYB.out
  exact bodyPost_ret (v:=.agg #[.int .i64 k3,.int .i64 op3,.string (ah tb3),.string (ah nm3),.int .i64 vk3,.int .i64 vn3,.string (ah vs3),.slice aa3 nn3 cc3]) (by simp[results,Tryz.results311,go_sem,kc]) rfl ⟨_,rfl,HUY.out,HYR.out,HYF.out⟩
 ·have hk':((bq r).k==1)=false:=by simpa using hk
  by_cases hm:dK [45] r=true
  ·by_cases h3:(bZ r).k=3
   ·have ho:dK [40] r=false:=by
      rw[Bool.eq_false_iff]
      intro e
      have e1:=(tC e).2
      rw[(tC hm).2] at e1
      cases e1
    have hYY:=q4 hk (.inr h3) ho
    have h3':((bZ r).k != 3)=false:=by simpa using h3
    have HIS:Hid (∀V,aA F V g r→Calls Tryz.prog 191 #[.pointer (some ⟨g,0,none⟩),.string ⟨#[45]⟩] V fun e w'=>e = .returned (.bool true)∧Below V.heap.size V w'):=hid (fun V hV=>by
      have:=rP F g r V hV [45]
      rw[hm] at this
      exact this)
    have HBE:=hid (fun V (hV:aA F V g r)=>uW F g r V hV (jO hm) (mg hm))
    have hfb:=p8 (bZ r)
    have HSK:Hid (∀V,aA F V g r→Calls Tryz.prog 118 #[.pointer (some ⟨g,0,none⟩),.string ⟨#[40]⟩] V fun e w'=>e = .returned (.bool false)∧aA F w' g r∧Fr g V w'):=hid (fun V hV=>fC F g r V hV [40] ho)
    have HL:=hid (fun V (hV:aA F V g r)=>xR F g r V hV)
    obtain⟨⟨lk,ln,ls⟩,hle⟩:∃x,(jk r).1=x:=⟨_,rfl⟩
    rw[hle] at HL hYY
    generalize (jk r).2=y2 at HL hYY
    dsimp only at HL
    simp only[Prod.mk.injEq] at hYY
    obtain⟨rfl,rfl⟩:=hYY
    generalize bZ r=z at HBE hfb h3' h3
    generalize bq r=x at HN hft hk hk'
    clear q1 q2 q3 q4 hf hNf he hNe hE hG CL hm ho hle h3
    go_enter Tryz.func311,Tryz.ntmps311
    go_wp2_with fail
    try rw[hW]
    clear hW
    refine HN.out.mono ?_
    rintro e w1 ⟨rfl,hb1⟩
    have hz1:=hb1.size
    have HR1:=hid (HH.out.below hb1)
    have HF1:=hid (HF.out.aO hb1)
    have HB1:=hid ((hb1.block _ hzW).trans HCW.out)
    clear hb1 HN
    go_wp2_with fail
    refine (HIS.out w1 HR1.out).mono ?_
    rintro e w2 ⟨rfl,hb2⟩
    have hz2:=hb2.size
    have HR2:=hid (HR1.out.below hb2)
    have HF2:=hid (HF1.out.aO hb2)
    have HB2:=hid ((hb2.block w.heap.size (by omega)).trans HB1.out)
    clear hb2 HIS
    go_wp2_with fail
    refine (HBE.out w2 HR2.out).mono ?_
    rintro e w3 ⟨rfl,hb3⟩
    have hz3:=hb3.size
    have HR3:=hid (HR2.out.below hb3)
    have HF3:=hid (HF2.out.aO hb3)
    have HB3:=hid ((hb3.block w.heap.size (by omega)).trans HB2.out)
    clear hb3 HBE
    go_wp2_with fail
    refine (HSK.out w3 HR3.out).mono ?_
    rintro e w4 ⟨rfl,hr4,hf4⟩
    have hz4:=hf4.size
    have HR4:=hid hr4
    have HF4:=hid (HF3.out.then hf4)
    have HB4:=hid ((hf4.block w.heap.size (by omega) (by omega)).trans HB3.out)
    clear hr4 hf4 HSK
    go_wp2_with fail
    refine (HL.out w4 HR4.out).mono ?_
    rintro e w5 ⟨rfl,hr5,hf5⟩
    have hz5:=hf5.size
    have HR5:=hid hr5
    have HF5:=hid (HF4.out.then hf5)
    have HB5:=hid ((hf5.block w.heap.size (by omega) (by omega)).trans HB4.out)
    clear hr5 hf5 HL
    go_wp2_with (first
      | (
       refine aP rfl (.tmp 2) (.tmp 40) rfl w.heap.size rfl 1 0 lk ln ⟨#[]⟩ ⟨#[]⟩ (ah ls) none 0 0 rfl HB5.out (Nat.le_refl _) hgw HR5.out HF5.out ?_
       intro Y hYB hYs hYR hYF
       have HYB:=hid hYB
       have HYR:=hid hYR
       have HYF:=hid hYF
       clear hYB hYs hYR hYF)
      | fail)
    have kc:=aU HYB.out
    exact bodyPost_ret (v:=.agg #[.int .i64 1,.int .i64 0,.string ⟨#[]⟩,.string ⟨#[]⟩,.int .i64 lk,.int .i64 ln,.string (ah ls),.slice none 0 0]) (by simp[results,Tryz.results311,go_sem,kc]) rfl ⟨_,rfl,⟨1,0,[],[],lk,ln,ls,[],_,_,_,rfl,rfl,.nil _ _ (by unfold maxLen;omega)⟩,HYR.out,HYF.out⟩
   ·skip
    have hYY:=q2 hk hm h3
    have h3':((bZ r).k != 3)=true:=by simpa using h3
    have hb:=jO hm
    have hE1:bQ (n+1) (nextR r):=hE.next
    have HIS:Hid (∀V,aA F V g r→Calls Tryz.prog 191 #[.pointer (some ⟨g,0,none⟩),.string ⟨#[45]⟩] V fun e w'=>e = .returned (.bool true)∧Below V.heap.size V w'):=hid (fun V hV=>by
      have:=rP F g r V hV [45]
      rw[hm] at this
      exact this)
    have HBE:=hid (fun V (hV:aA F V g r)=>uW F g r V hV (jO hm) (mg hm))
    have hfb:=p8 (bZ r)
    have HNX:=hid (fun V (hV:aA F V g r)=>nC F g r V hV (jO hm) (mg hm))
    have HD:=hid (fun V (hV:aA F V g (nextR r))=>pU F n 311 pf hf hNf (enters_of Tryz.func311 (by kernel_rfl) rfl) g (nextR r) V hV hE1 hb)
    generalize (fT pf (nextR r)).1=y1 at HD hYY
    generalize (fT pf (nextR r)).2=y2 at HD hYY
    simp only[Prod.mk.injEq] at hYY
    obtain⟨rfl,rfl⟩:=hYY
    generalize bZ r=z at HBE hfb h3' h3
    generalize bq r=x at HN hft hk hk'
    clear q1 q2 q3 q4 hf hNf he hNe hE hG CL hE1 hb hm h3
    go_enter Tryz.func311,Tryz.ntmps311
    go_wp2_with fail
    try rw[hW]
    clear hW
    refine HN.out.mono ?_
    rintro e w1 ⟨rfl,hb1⟩
    have hz1:=hb1.size
    have HR1:=hid (HH.out.below hb1)
    have HF1:=hid (HF.out.aO hb1)
    have HB1:=hid ((hb1.block _ hzW).trans HCW.out)
    clear hb1 HN
    go_wp2_with fail
    refine (HIS.out w1 HR1.out).mono ?_
    rintro e w2 ⟨rfl,hb2⟩
    have hz2:=hb2.size
    have HR2:=hid (HR1.out.below hb2)
    have HF2:=hid (HF1.out.aO hb2)
    have HB2:=hid ((hb2.block w.heap.size (by omega)).trans HB1.out)
    clear hb2 HIS
    go_wp2_with fail
    refine (HBE.out w2 HR2.out).mono ?_
    rintro e w3 ⟨rfl,hb3⟩
    have hz3:=hb3.size
    have HR3:=hid (HR2.out.below hb3)
    have HF3:=hid (HF2.out.aO hb3)
    have HB3:=hid ((hb3.block w.heap.size (by omega)).trans HB2.out)
    clear hb3 HBE
    go_wp2_with fail
    refine (HNX.out w3 HR3.out).mono ?_
    rintro e w4 ⟨rfl,hr4,hf4⟩
    have hz4:=hf4.size
    have HR4:=hid hr4
    have HF4:=hid (HF3.out.then hf4)
    have HB4:=hid ((hf4.block w.heap.size (by omega) (by omega)).trans HB3.out)
    clear hr4 hf4 HNX
    go_wp2_with fail
    refine (HD.out w4 HR4.out).mono ?_
    rintro e w5 ⟨u,rfl,hu,hr5,hf5⟩
    have HU5:=hid hu
    obtain⟨k2,op2,tb2,nm2,vk2,vn2,vs2,ys2,aa2,nn2,cc2,_,rfl,_⟩:=hu
    have hz5:=hf5.size
    have HR5:=hid hr5
    have HF5:=hid (HF4.out.then hf5)
    have HB5:=hid ((hf5.block w.heap.size (by omega) (by omega)).trans HB4.out)
    clear hr5 hf5 HD
    have HO:=hid (xY (fun b=>w4.heap.size≤b) 5 y1 _ w5 (fun b hb=>by omega) HU5.out)
    go_wp2_with fail
    refine HO.out.mono ?_
    rintro e w6 ⟨u,rfl,hu,hb6⟩
    have HU6:=hid hu
    obtain⟨k3,op3,tb3,nm3,vk3,vn3,vs3,ys3,aa3,nn3,cc3,_,rfl,_⟩:=hu
    have HB6:=hid ((hb6.block w.heap.size (by omega)).trans HB5.out)
    have HR6:=hid (HR5.out.below hb6)
    have HF6:=hid (HF5.out.aO hb6)
    clear hb6 HO
    go_wp2_with (first
      | (
       refine aP rfl (.tmp 2) (.tmp 26) rfl w.heap.size rfl k3 op3 vk3 vn3 (ah tb3) (ah nm3) (ah vs3) aa3 nn3 cc3 rfl HB6.out (Nat.le_refl _) hgw HR6.out HF6.out ?_
       intro Y hYB hYs hYR hYF
       have HYB:=hid hYB
       have HUY:=hid (HU6.out.to (T:=fun b=>w.heap.size≤b) hYs (fun b hb _=>⟨by omega,by omega⟩))
       have HYR:=hid hYR
       have HYF:=hid hYF
       clear hYB hYs hYR hYF)
      | fail)
    have kc:=aU HYB.out
    exact bodyPost_ret (v:=.agg #[.int .i64 k3,.int .i64 op3,.string (ah tb3),.string (ah nm3),.int .i64 vk3,.int .i64 vn3,.string (ah vs3),.slice aa3 nn3 cc3]) (by simp[results,Tryz.results311,go_sem,kc]) rfl ⟨_,rfl,HUY.out,HYR.out,HYF.out⟩
  ·have hm:dK [45] r=false:=by simpa using hm
   by_cases ho:dK [40] r=true
   ·skip
    have hYY:=q3 hk hm ho
    have hb:=jO ho
    have hE1:bQ (n+1) (nextR r):=hE.next
    have HIS:Hid (∀V,aA F V g r→Calls Tryz.prog 191 #[.pointer (some ⟨g,0,none⟩),.string ⟨#[45]⟩] V fun e w'=>e = .returned (.bool false)∧Below V.heap.size V w'):=hid (fun V hV=>by
      have:=rP F g r V hV [45]
      rw[hm] at this
      exact this)
    have HSK:Hid (∀V,aA F V g r→Calls Tryz.prog 118 #[.pointer (some ⟨g,0,none⟩),.string ⟨#[40]⟩] V fun e w'=>e = .returned (.bool true)∧aA F w' g (nextR r)∧Fr g V w'):=hid (fun V hV=>eF F g r V hV [40] ho)
    have HD:=hid (fun V (hV:aA F V g (nextR r))=>pU F n 116 pe he hNe (enters_of Tryz.func116 (by kernel_rfl) rfl) g (nextR r) V hV hE1 hb)
    generalize (fT pe (nextR r)).1=y1 at HD hYY
    generalize (fT pe (nextR r)).2=y2 at HD hYY
    have HM:Hid (∀V,aA F V g y2→Calls Tryz.prog 111 #[.pointer (some ⟨g,0,none⟩),.slice (some ⟨V.heap.size,0,none⟩) 1 1] (V.alloc (.cells #[.string ⟨#[41]⟩] 9)) fun e w'=>e = .returned (.tuple #[])∧aA F w' g (aD [[41]] y2).2∧Fr g V w'):=hid (fun V hV=>cO F g y2 [[41]] (by decide) V hV)
    generalize (aD [[41]] y2).2=y3 at HM hYY
    simp only[Prod.mk.injEq] at hYY
    obtain⟨rfl,rfl⟩:=hYY
    generalize bq r=x at HN hft hk hk'
    clear q1 q2 q3 q4 hf hNf he hNe hE hG CL hE1 hb hm ho
    go_enter Tryz.func311,Tryz.ntmps311
    go_wp2_with fail
    try rw[hW]
    clear hW
    refine HN.out.mono ?_
    rintro e w1 ⟨rfl,hb1⟩
    have hz1:=hb1.size
    have HR1:=hid (HH.out.below hb1)
    have HF1:=hid (HF.out.aO hb1)
    have HB1:=hid ((hb1.block _ hzW).trans HCW.out)
    clear hb1 HN
    go_wp2_with fail
    refine (HIS.out w1 HR1.out).mono ?_
    rintro e w2 ⟨rfl,hb2⟩
    have hz2:=hb2.size
    have HR2:=hid (HR1.out.below hb2)
    have HF2:=hid (HF1.out.aO hb2)
    have HB2:=hid ((hb2.block w.heap.size (by omega)).trans HB1.out)
    clear hb2 HIS
    go_wp2_with fail
    refine (HSK.out w2 HR2.out).mono ?_
    rintro e w3 ⟨rfl,hr3,hf3⟩
    have hz3:=hf3.size
    have HR3:=hid hr3
    have HF3:=hid (HF2.out.then hf3)
    have HB3:=hid ((hf3.block w.heap.size (by omega) (by omega)).trans HB2.out)
    clear hr3 hf3 HSK
    go_wp2_with fail
    refine (HD.out w3 HR3.out).mono ?_
    rintro e w4 ⟨u,rfl,hu,hr4,hf4⟩
    have HU4:=hid hu
    obtain⟨k3,op3,tb3,nm3,vk3,vn3,vs3,ys3,aa3,nn3,cc3,_,rfl,_⟩:=hu
    have hz4:=hf4.size
    have HR4:=hid hr4
    have HF4:=hid (HF3.out.then hf4)
    have HB4:=hid ((hf4.block w.heap.size (by omega) (by omega)).trans HB3.out)
    clear hr4 hf4 HD
    go_wp2_with fail
    obtain⟨V,hV,hbV,hzV,hcV⟩:=bF w4 (.cells #[.int .i64 k3,.int .i64 op3,.string (ah tb3),.string (ah nm3),.int .i64 vk3,.int .i64 vn3,.string (ah vs3),.slice aa3 nn3 cc3] 130)
    try rw[hV]
    have HRV:=hid (HR4.out.below hbV)
    have HFV:=hid (HF4.out.aO hbV)
    have HBV:=hid ((hbV.block w.heap.size (by omega)).trans HB4.out)
    have HEV:=hid hcV
    have HUV:Hid (pq (fun b=>w.heap.size≤b∧b≠w.heap.size) V Y1 _):=hid (HU4.out.to (R:=fun _=>False) (aj.aC hbV) (fun b hb hlt=>⟨id,by omega,by omega⟩))
    have hVs:V.heap.size=w4.heap.size+1:=by rw[← hV];simp
    have hMV:=HM.out V HRV.out
    rw[hVs] at hMV
    have HMV:=hid hMV
    clear hV hbV hcV HM hMV hVs
    refine HMV.out.mono ?_
    rintro e w5 ⟨rfl,hr5,hf5⟩
    have hz5:=hf5.size
    have HR5:=hid hr5
    have HF5:=hid (HFV.out.then hf5)
    have HB5:=hid ((hf5.block w.heap.size (by omega) (by omega)).trans HBV.out)
    have k5:=dH ((hf5.block w4.heap.size hzV (by omega)).trans HEV.out)
    have HU5:=hid (HUV.out.to (T:=fun b=>w.heap.size≤b∧b≠w.heap.size) hf5 (fun b hb _=>⟨by omega,hb⟩))
    clear hr5 hf5 HMV
    go_wp2_with (first
      | (
       refine aP rfl (.tmp 2) (.tmp 37) rfl w.heap.size rfl k3 op3 vk3 vn3 (ah tb3) (ah nm3) (ah vs3) aa3 nn3 cc3 rfl HB5.out (Nat.le_refl _) hgw HR5.out HF5.out ?_
       intro Y hYB hYs hYR hYF
       have HYB:=hid hYB
       have HUY:=hid (HU5.out.to (T:=fun b=>w.heap.size≤b) hYs (fun b hb _=>⟨hb.2,hb.1⟩))
       have HYR:=hid hYR
       have HYF:=hid hYF
       clear hYB hYs hYR hYF)
      | fail)
    have kc:=aU HYB.out
    exact bodyPost_ret (v:=.agg #[.int .i64 k3,.int .i64 op3,.string (ah tb3),.string (ah nm3),.int .i64 vk3,.int .i64 vn3,.string (ah vs3),.slice aa3 nn3 cc3]) (by simp[results,Tryz.results311,go_sem,kc]) rfl ⟨_,rfl,HUY.out,HYR.out,HYF.out⟩
   ·have ho:dK [40] r=false:=by simpa using ho
    have hYY:=q4 hk (.inl hm) ho
    have HIS:Hid (∀V,aA F V g r→Calls Tryz.prog 191 #[.pointer (some ⟨g,0,none⟩),.string ⟨#[45]⟩] V fun e w'=>e = .returned (.bool false)∧Below V.heap.size V w'):=hid (fun V hV=>by
      have:=rP F g r V hV [45]
      rw[hm] at this
      exact this)
    have HSK:Hid (∀V,aA F V g r→Calls Tryz.prog 118 #[.pointer (some ⟨g,0,none⟩),.string ⟨#[40]⟩] V fun e w'=>e = .returned (.bool false)∧aA F w' g r∧Fr g V w'):=hid (fun V hV=>fC F g r V hV [40] ho)
    have HL:=hid (fun V (hV:aA F V g r)=>xR F g r V hV)
    obtain⟨⟨lk,ln,ls⟩,hle⟩:∃x,(jk r).1=x:=⟨_,rfl⟩
    rw[hle] at HL hYY
    generalize (jk r).2=y2 at HL hYY
    dsimp only at HL
    simp only[Prod.mk.injEq] at hYY
    obtain⟨rfl,rfl⟩:=hYY
    generalize bq r=x at HN hft hk hk'
    clear q1 q2 q3 q4 hf hNf he hNe hE hG CL hm ho hle
    go_enter Tryz.func311,Tryz.ntmps311
    go_wp2_with fail
    try rw[hW]
    clear hW
    refine HN.out.mono ?_
    rintro e w1 ⟨rfl,hb1⟩
    have hz1:=hb1.size
    have HR1:=hid (HH.out.below hb1)
    have HF1:=hid (HF.out.aO hb1)
    have HB1:=hid ((hb1.block _ hzW).trans HCW.out)
    clear hb1 HN
    go_wp2_with fail
    refine (HIS.out w1 HR1.out).mono ?_
    rintro e w2 ⟨rfl,hb2⟩
    have hz2:=hb2.size
    have HR2:=hid (HR1.out.below hb2)
    have HF2:=hid (HF1.out.aO hb2)
    have HB2:=hid ((hb2.block w.heap.size (by omega)).trans HB1.out)
    clear hb2 HIS
    go_wp2_with fail
    refine (HSK.out w2 HR2.out).mono ?_
    rintro e w3 ⟨rfl,hr3,hf3⟩
    have hz3:=hf3.size
    have HR3:=hid hr3
    have HF3:=hid (HF2.out.then hf3)
    have HB3:=hid ((hf3.block w.heap.size (by omega) (by omega)).trans HB2.out)
    clear hr3 hf3 HSK
    go_wp2_with fail
    refine (HL.out w3 HR3.out).mono ?_
    rintro e w4 ⟨rfl,hr4,hf4⟩
    have hz4:=hf4.size
    have HR4:=hid hr4
    have HF4:=hid (HF3.out.then hf4)
    have HB4:=hid ((hf4.block w.heap.size (by omega) (by omega)).trans HB3.out)
    clear hr4 hf4 HL
    go_wp2_with (first
      | (
       refine aP rfl (.tmp 2) (.tmp 40) rfl w.heap.size rfl 1 0 lk ln ⟨#[]⟩ ⟨#[]⟩ (ah ls) none 0 0 rfl HB4.out (Nat.le_refl _) hgw HR4.out HF4.out ?_
       intro Y hYB hYs hYR hYF
       have HYB:=hid hYB
       have HYR:=hid hYR
       have HYF:=hid hYF
       clear hYB hYs hYR hYF)
      | fail)
    have kc:=aU HYB.out
    exact bodyPost_ret (v:=.agg #[.int .i64 1,.int .i64 0,.string ⟨#[]⟩,.string ⟨#[]⟩,.int .i64 lk,.int .i64 ln,.string (ah ls),.slice none 0 0]) (by simp[results,Tryz.results311,go_sem,kc]) rfl ⟨_,rfl,⟨1,0,[],[],lk,ln,ls,[],_,_,_,rfl,rfl,.nil _ _ (by unfold maxLen;omega)⟩,HYR.out,HYF.out⟩
theorem Cm (F:Nat):∀n,iM F (bQ n) 233 (lJ F n).nt∧iM F (bQ n) 311 (lJ F n).fc∧iM F (bQ n) 116 (lJ F n).ex
 | 0=>⟨fun _ _ _ _ h=>absurd h.2 (by decide),fun _ _ _ _ h=>absurd h.2 (by decide),fun _ _ _ _ h=>absurd h.2 (by decide)⟩
 |
  n+1=>by
  obtain⟨i1,i2,i3⟩:=Cm F n
  have hN:=lM (b:=false) (F:=F) n
  have hf:=Av F n _ _ i2 hN.fc i3 hN.ex
  have hNf:=nU hN.fc hN.ex
  have ht:=FE F (n+1) _ hf hNf
  have hs:=Hr F (n+1) _ ht (vQ hN)
  have hq:=Fw F (n+1) _ hs (yG hN)
  have hnt:=IZ F n _ _ i1 hN.nt hq
  have ha:=IY F (n+1) _ hnt (rC hN)
  exact⟨hnt,hf,Gd F (n+1) _ ha (yO hN)⟩
theorem D9 (F g:Nat) (r:Rd) (w:World) (h:aA F w g r) (hd:r.bad=0→r.d=0) :
  Calls Tryz.prog 116 #[.pointer (some ⟨g,0,none⟩)] w fun e w'=>∃u,e = .returned u∧pq (fun b=>w.heap.size≤b) w' (dG F r).1 u∧aA F w' g (dG F r).2∧Fr g w w' :=
 (Cm F 12).2.2 g r w h ⟨fun hb=>by rw[hd hb];decide,by decide⟩
theorem rF {P:Program} (w:World) (base:Nat) (t ty e:TypeId) (i:TypeInfo) (z:Value) (size bytes:Nat) (ht:P.underlying t=some (.slice e)) (hi:P.info? e=some i) (hz:i.zero=some z)
  (hsize:i.size=size) (hby:i.bytes=bytes) (hzs:z.cells.size=size) (hsz:0<size)
  (v:Value) (n:Nat) (xs:List Value) (hown:w.ownsRow base e size v n xs)
  (a:Addr) (c:Nat) (news:List Value) (hl:news.length=size) (hnews : ∀j u,news[j]?=some u→w.cell? (a.add j)=some u) (h1 : ∀u∈news,u.oneCell'=true)
  (h63:n+1≤maxLen) (hbytes:(n+1)*bytes≤140737488355328) (hbase:base≤w.heap.size) :
  ∃
   v' w',(Builtin.append_ #[t,t] ty #[v,.slice (some a) 1 c]).run P w = .ok v' w'∧w'.ownsRow base e size v' (n+1) (xs++news)∧w.grownBy w' v.ownBlock ∧
   (v'.ownBlock=v.ownBlock∨v'.ownBlock=some w.heap.size):=by
 obtain⟨v',w',hr,h2,h3,_⟩:=run_append_own (P:=P) w base t ty e i z size bytes ht hi hz hsize hby hzs hsz v n xs hown a 1 c news (by omega) hnews h1 h63 hbytes hbase
 refine ⟨v',w',hr,h2,h3,?_⟩
 subst hsize
 subst hby
 have hsmall:n+1≤9223372036854775807:=by simp only[maxLen] at h63;omega
 rcases hown.2 with⟨rfl,rfl⟩ | ⟨g,cap,cur,rfl,hbg,hg,hnc,hcm,hcs,htake⟩
 ·have hr2:=run_append_nil (P:=P) w t ty e i z ht hi hz a 1 c news (by omega) hnews (by omega) (by omega) (by have hb:=hbytes;simp only[Nat.zero_add] at hb;omega)
  rw[hr2] at hr
  injection hr with e1 e2
  rw[← e1]
  exact .inr rfl
 ·by_cases hroom:n+1≤cap
  ·have hfit:n*i.size+news.length≤cur.size:=by rw[hl,hcs,← Nat.succ_mul];exact Nat.mul_le_mul_right _ hroom
   have hr2:=run_append_room (P:=P) w t ty e i ht hi g n cap cur hg a 1 c news (by omega) hnews h1 hroom hfit
   rw[hr2] at hr
   injection hr with e1 e2
   rw[← e1]
   exact .inl rfl
  ·have holds : ∀j u,xs[j]?=some u→w.cell? ((⟨g,0,none⟩:Addr).add j)=some u:=hown.cells (g:=g) rfl
   have hr2:=run_append_grow (P:=P) w t ty e i z ht hi hz ⟨g,0,none⟩ n cap xs hown.1 holds a 1 c news (by omega) hnews (by omega) (by omega) (growslice_fits (by omega) hbytes)
   rw[hr2] at hr
   injection hr with e1 e2
   rw[← e1]
   exact .inr rfl
theorem dn {P:Program} {ops:Array Oper} {rest:List Oper} {o:Oper} {a:Act} {Q:Exit→Act→World→Prop} (w:World) (hgd:o.guard=none) (s x:Operand) (t:TypeId)
  (ho:o.op = .call { callee:=.builtin .append,args:=#[s,x],argTypes:=#[t,t] })
  (base:Nat) (e:TypeId) (i:TypeInfo) (z:Value) (size bytes:Nat) (ht:P.underlying t=some (.slice e)) (hi:P.info? e=some i) (hz:i.zero=some z)
  (hsize:i.size=size) (hby:i.bytes=bytes) (hzs:z.cells.size=size) (hsz:0<size)
  (v:Value) (n:Nat) (xs:List Value) (hs:a.eval s=v) (hown:w.ownsRow base e size v n xs)
  (ad:Addr) (c:Nat) (news:List Value) (hx:a.eval x = .slice (some ad) 1 c) (hl:news.length=size) (hnews : ∀j u,news[j]?=some u→w.cell? (ad.add j)=some u) (h1 : ∀u∈news,u.oneCell'=true)
  (h63:n+1≤maxLen) (hbytes:(n+1)*bytes≤140737488355328) (hbase:base≤w.heap.size)
  (h : ∀v' w',w'.ownsRow base e size v' (n+1) (xs++news)→w.grownBy w' v.ownBlock→(v'.ownBlock=v.ownBlock∨v'.ownBlock=some w.heap.size)→wpList P ops Q rest (a.put o.dst v') w'):wpList P ops Q (o::rest) a w:=by
 obtain⟨v',w',hr,h2,h3,h4⟩:=rF (P:=P) w base t o.type e i z size bytes ht hi hz hsize hby hzs hsz v n xs hown ad c news hl hnews h1 h63 hbytes hbase
 refine wpList_plain hgd fun _ hK=>?_
 unfold Oper.wp execOp
 simp only[ho,resolve,invoke,builtin,Sem.run_bind,Sem.run_pure,Result.andThen_ok,List.map_toArray,List.map_cons,List.map_nil,hs,hx,hr]
 exact hK _ _ (h v' w' h2 h3 h4)
def kQ {α:Type} (z:Nat) (El:(Nat→Prop)→World→α→List Value→Prop) (S:Nat→Prop) (w:World) (xs:List α) (css:List (List Value)):Prop :=
 css.length=xs.length∧∀(j:Nat) (x:α) (cs:List Value),xs[j]?=some x→css[j]?=some cs→cs.length=z∧El S w x cs
theorem kQ.nil {α:Type} {z:Nat} {El:(Nat→Prop)→World→α→List Value→Prop} {S:Nat→Prop} {w:World}:kQ z El S w [] []:=⟨rfl,fun j x cs h=>by simp at h⟩
theorem kQ.snoc {α:Type} {z:Nat} {El:(Nat→Prop)→World→α→List Value→Prop} {S:Nat→Prop} {w:World} {xs:List α} {css:List (List Value)} (h:kQ z El S w xs css) {x:α} {cs:List Value} (hl:cs.length=z) (he:El S w x cs):kQ z El S w (xs++[x]) (css++[cs]):=by
 obtain⟨h1,h2⟩:=h
 refine ⟨by simp[h1],fun j y ds hy hd=>?_⟩
 rcases Nat.lt_or_ge j xs.length with hj | hj
 ·rw[List.getElem?_append_left hj] at hy
  rw[List.getElem?_append_left (by omega)] at hd
  exact h2 j y ds hy hd
 ·rw[List.getElem?_append_right hj] at hy
  rw[List.getElem?_append_right (by omega),h1] at hd
  cases hk:j-xs.length with
  |
   zero =>
   rw[hk] at hy hd
   simp only[List.getElem?_cons_zero,Option.some.injEq] at hy hd
   subst hy hd
   exact⟨hl,he⟩
  | succ k=>rw[hk] at hy;simp at hy
theorem kQ.to {α:Type} {z:Nat} {El:(Nat→Prop)→World→α→List Value→Prop} {S T:Nat→Prop} {w w':World} {xs:List α} {css:List (List Value)} (h:kQ z El S w xs css) (hE : ∀x cs,El S w x cs→El T w' x cs):kQ z El T w' xs css :=
 ⟨h.1,fun j x cs hx hc=>⟨(h.2 j x cs hx hc).1,hE x cs (h.2 j x cs hx hc).2⟩⟩
theorem p9 (z:Nat):∀(css:List (List Value)),(∀cs∈css,cs.length=z)→∀(j i:Nat) (cs:List Value) (u:Value),css[j]?=some cs→cs[i]?=some u→css.flatten[j*z+i]?=some u
 |
  c::css,h,0,i,cs,u,hj,hu=>by
  simp only[List.getElem?_cons_zero,Option.some.injEq] at hj
  subst hj
  rw[List.flatten_cons,Nat.zero_mul,Nat.zero_add,List.getElem?_append_left (List.getElem?_eq_some_iff.1 hu).1]
  exact hu
 |
  c::css,h,j+1,i,cs,u,hj,hu=>by
  have hl:=h c (by simp)
  rw[List.flatten_cons,List.getElem?_append_right (by rw[hl,Nat.succ_mul];omega),hl,show (j+1)*z+i-z=j*z+i by rw[Nat.succ_mul];omega]
  exact p9 z css (fun x hx=>h x (by simp[hx])) j i cs u (by simpa using hj) hu
def bP {α:Type} (z:Nat) (El:(Nat→Prop)→World→α→List Value→Prop) (S:Nat→Prop) (w:World) (xs:List α) (v:Value):Prop :=
 ∃
  (a:Option Addr) (c:Nat) (css:List (List Value)),v = .slice a xs.length c∧xs.length≤c∧c≤maxLen∧kQ z El S w xs css ∧
  (xs≠[]→∃b off,a=some ⟨b,off,none⟩∧S b∧∀(j:Nat) (cs:List Value),css[j]?=some cs→∀(i:Nat) (u:Value),cs[i]?=some u→w.cell? ⟨b,off+j*z+i,none⟩=some u)
theorem bP.nil {α:Type} {z:Nat} {El:(Nat→Prop)→World→α→List Value→Prop} {S:Nat→Prop} {w:World}:bP z El S w ([]:List α) (.slice none 0 0) :=
 ⟨none,0,[],rfl,Nat.le_refl _,Nat.zero_le _,kQ.nil,fun h=>absurd rfl h⟩
theorem bP.mP {α:Type} {z:Nat} {El:(Nat→Prop)→World→α→List Value→Prop} {S:Nat→Prop} {w:World} {base:Nat} {e:TypeId} {v:Value} {xs:List α} {css:List (List Value)} (hz:0<z)
  (h:w.ownsRow base e z v xs.length css.flatten) (hE:kQ z El S w xs css) (hS : ∀b,v.ownBlock=some b→S b):bP z El S w xs v:=by
 have hl : ∀cs∈css,cs.length=z:=fun cs hc=>by
  obtain⟨j,hj,e⟩:=List.getElem_of_mem hc
  have hx:xs[j]?=some (xs[j]'(by rw[← hE.1];exact hj)):=List.getElem?_eq_getElem _
  exact (hE.2 j _ cs hx (by rw[List.getElem?_eq_getElem hj,e])).1
 have hc:=h
 rcases h.2 with⟨rfl,hn⟩ | ⟨g,cap,cur,rfl,hb,hg,hnc,hcm,hcs,ht⟩
 ·exact⟨none,0,css,by rw[hn],by omega,by unfold maxLen;omega,hE,fun hne=>absurd (List.eq_nil_of_length_eq_zero hn) hne⟩
 ·refine ⟨_,cap,css,rfl,hnc,hcm,hE,fun _=>⟨g,0,rfl,hS g rfl,fun j cs hj i u hu=>?_⟩⟩
  have k:=hc.cells (g:=g) rfl (j*z+i) u (p9 z css hl j i cs u hj hu)
  rw[Addr.add_lit,Nat.zero_add] at k
  rw[Nat.zero_add]
  exact k
theorem bP.to {α:Type} {z:Nat} {El:(Nat→Prop)→World→α→List Value→Prop} {S R T:Nat→Prop} {w w':World} {xs:List α} {v:Value} (hz:0<z) (h:bP z El S w xs v) (hk:aj R w w') (hS : ∀b,S b→b<w.heap.size→¬R b∧T b) (hE : ∀x cs,El S w x cs→El T w' x cs):bP z El T w' xs v:=by
 obtain⟨a,c,css,h1,h2,h3,h4,h5⟩:=h
 refine ⟨a,c,css,h1,h2,h3,h4.to hE,fun hne=>?_⟩
 obtain⟨b,off,ha,hb,hc⟩:=h5 hne
 have hlt:b<w.heap.size:=by
  cases xs with
  | nil=>exact absurd rfl hne
  |
   cons x l =>
   cases css with
   | nil=>have:=h4.1;simp at this
   |
    cons cs css =>
    have:=h4.2 0 x cs rfl rfl
    cases cs with
    | nil=>have:=this.1;simp at this;omega
    | cons u cs=>exact World.block_lt_of_cell? w _ (hc 0 (u::cs) rfl 0 u rfl)
 obtain⟨h6,h7⟩:=hS b hb hlt
 exact⟨b,off,ha,h7,fun j cs hj i u hu=>hk.cell (hc j cs hj i u hu) h6⟩
theorem bP.form {α:Type} {z:Nat} {El:(Nat→Prop)→World→α→List Value→Prop} {S:Nat→Prop} {w:World} {xs:List α} {v:Value} (h:bP z El S w xs v):∃a c,v = .slice a xs.length c:=by
 obtain⟨a,c,css,h1,_⟩:=h
 exact⟨a,c,h1⟩
def iE (_:Nat→Prop) (_:World) (x:Co) (cs:List Value):Prop:=cs=[.string (ah x.nm),.int .i64 x.k,.bool x.nn,.bool x.uq]
def Bv (_:Nat→Prop) (_:World) (x:Vl) (cs:List Value):Prop:=cs=[.int .i64 x.k,.int .i64 x.n,.string (ah x.s)]
def D6 (S:Nat→Prop) (w:World) (x:List Vl) (cs:List Value):Prop:=∃(aa:Option Addr) (nn cc:Nat),cs=[.slice aa nn cc]∧bP 3 Bv S w x (.slice aa nn cc)
def Bo (S:Nat→Prop) (w:World) (x:It) (cs:List Value):Prop:=∃(aa:Option Addr) (nn cc:Nat),cs=[.int .i64 x.k,.slice aa nn cc]∧bg S w x.xs (.slice aa nn cc)
def Ab (S:Nat→Prop) (w:World) (x:Se) (cs:List Value):Prop :=
 ∃(k op:Int) (tb nm:List UInt8) (vk vn:Int) (vs:List UInt8) (ys:List Ex) (aa:Option Addr) (nn cc:Nat),x.e = .mk k op tb nm ⟨vk,vn,vs⟩ ys∧cs=[.string (ah x.nm),.int .i64 k,.int .i64 op,.string (ah tb),.string (ah nm),.int .i64 vk,.int .i64 vn,.string (ah vs),.slice aa nn cc]∧bg S w ys (.slice aa nn cc)
def jK (S:Nat→Prop) (w:World) (x:St) (cs:List Value):Prop :=
 ∃
  (a1 a2 a3 a4 a5 a6 a7 a8:Option Addr) (n1 n2 n3 n4 n5 n6 n7 n8 c1 c2 c3 c4 c5 c6 c7 c8:Nat),
  cs=[.int .i64 x.k,.string (ah x.tb),.slice a1 n1 c1,.string (ah x.prim),.slice a2 n2 c2,.slice a3 n3 c3,.slice a4 n4 c4,.string (ah x.jn),.slice a5 n5 c5,.slice a6 n6 c6,.slice a7 n7 c7,.slice a8 n8 c8,.bool x.desc,.int .i64 x.lim] ∧
  bP 4 iE S w x.cols (.slice a1 n1 c1)∧bP 1 D6 S w x.rows (.slice a2 n2 c2)∧bP 9 Ab S w x.sets (.slice a3 n3 c3)∧bP 2 Bo S w x.items (.slice a4 n4 c4) ∧
  bg S w x.on (.slice a5 n5 c5)∧bg S w x.wh (.slice a6 n6 c6)∧bg S w x.gr (.slice a7 n7 c7)∧bg S w x.od (.slice a8 n8 c8)
theorem D6.to {S R T:Nat→Prop} {w w':World} {x:List Vl} {cs:List Value} (h:D6 S w x cs) (hk:aj R w w') (hS : ∀b,S b→b<w.heap.size→¬R b∧T b):D6 T w' x cs:=by
 obtain⟨aa,nn,cc,h1,h2⟩:=h
 exact⟨aa,nn,cc,h1,h2.to (by decide) hk hS (fun _ _ e=>e)⟩
theorem Bo.to {S R T:Nat→Prop} {w w':World} {x:It} {cs:List Value} (h:Bo S w x cs) (hk:aj R w w') (hS : ∀b,S b→b<w.heap.size→¬R b∧T b):Bo T w' x cs:=by
 obtain⟨aa,nn,cc,h1,h2⟩:=h
 exact⟨aa,nn,cc,h1,h2.to hk hS⟩
theorem Ab.to {S R T:Nat→Prop} {w w':World} {x:Se} {cs:List Value} (h:Ab S w x cs) (hk:aj R w w') (hS : ∀b,S b→b<w.heap.size→¬R b∧T b):Ab T w' x cs:=by
 obtain⟨k,op,tb,nm,vk,vn,vs,ys,aa,nn,cc,h1,h2,h3⟩:=h
 exact⟨k,op,tb,nm,vk,vn,vs,ys,aa,nn,cc,h1,h2,h3.to hk hS⟩
theorem iE.to {S R T:Nat→Prop} {w w':World} {x:Co} {cs:List Value} (h:iE S w x cs) (hk:aj R w w') (hS : ∀b,S b→b<w.heap.size→¬R b∧T b):iE T w' x cs:=h
theorem Bv.to {S R T:Nat→Prop} {w w':World} {x:Vl} {cs:List Value} (h:Bv S w x cs) (hk:aj R w w') (hS : ∀b,S b→b<w.heap.size→¬R b∧T b):Bv T w' x cs:=h
theorem jK.to {S R T:Nat→Prop} {w w':World} {x:St} {cs:List Value} (h:jK S w x cs) (hk:aj R w w') (hS : ∀b,S b→b<w.heap.size→¬R b∧T b):jK T w' x cs:=by
 obtain⟨a1,a2,a3,a4,a5,a6,a7,a8,n1,n2,n3,n4,n5,n6,n7,n8,c1,c2,c3,c4,c5,c6,c7,c8,h0,h1,h2,h3,h4,h5,h6,h7,h8⟩:=h
 exact⟨a1,a2,a3,a4,a5,a6,a7,a8,n1,n2,n3,n4,n5,n6,n7,n8,c1,c2,c3,c4,c5,c6,c7,c8,h0,h1.to (by decide) hk hS (fun _ _ e=>e),h2.to (by decide) hk hS (fun _ _ e=>e.to hk hS),h3.to (by decide) hk hS (fun _ _ e=>e.to hk hS),h4.to (by decide) hk hS (fun _ _ e=>e.to hk hS),h5.to hk hS,h6.to hk hS,h7.to hk hS,h8.to hk hS⟩
def D0 (r:Rd):Prop:=r.bad=0→r.d=0
theorem D0.after {F:Nat} {α:Type} {p:Pa α} {r:Rd} (hp:bf false F p) (hG:Good F r) (h:D0 r):D0 (p r).2:=fun hb=>by
 rw[(hp.fine r trivial hG).2.1]
 refine h ?_
 by_cases e:r.bad=0
 ·exact e
 ·rw[(hp.mono r e).1] at hb;exact hb
def wR (F f:Nat) (p:Pa Bool):Prop :=
 ∀(g:Nat) (r:Rd) (w:World),aA F w g r→Calls Tryz.prog f #[.pointer (some ⟨g,0,none⟩)] w fun e w'=>e = .returned (.bool (p r).1)∧aA F w' g (p r).2∧Fr g w w'
def uz {α:Type} (F:Nat) (El:(Nat→Prop)→World→α→List Value→Prop) (f:Nat) (p:Pa α):Prop :=
 ∀(g:Nat) (r:Rd) (w:World),aA F w g r→D0 r→Calls Tryz.prog f #[.pointer (some ⟨g,0,none⟩)] w fun e w'=>∃cs:List Value,e = .returned (.agg cs.toArray)∧El (fun b=>w.heap.size≤b) w' (p r).1 cs∧aA F w' g (p r).2∧Fr g w w'
def Ep:Value→Nat
 | .slice _ n _=>n
 | _=>0
def jq:Value→Nat
 | .bool true=>1
 | _=>0
theorem qU (w:World) (cs:List Value) (e:TypeId):∀(j:Nat) (u:Value),cs[j]?=some u→(w.alloc (.cells cs.toArray e)).cell? ((⟨w.heap.size,0,none⟩:Addr).add j)=some u:=by
 intro j u hj
 rw[Addr.add_lit,Nat.zero_add,cell_of_row _ _ _ _ _ _ (heap_alloc_new w _)]
 simpa using hj
end Go.Proofs.YtaaggohjmhifbaaGreatDoor
