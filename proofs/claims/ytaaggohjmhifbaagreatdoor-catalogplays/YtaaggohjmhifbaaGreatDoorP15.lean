/- Packed for the hand-in: PFact PSl -/
import Derived.Test.YtaaggohjmhifbaaGreatDoorP14
namespace Go.Proofs.YtaaggohjmhifbaaGreatDoor
open Go.RowKit Go.Shelf
set_option linter.unusedSimpArgs false
set_option linter.unusedVariables false
set_option maxRecDepth 20000
set_option maxHeartbeats 8000000
theorem fact_name {fc ex:Pa Ex} {r:Rd} (h:(nowR r).k=1):factorP fc ex r=colP r:=by
 unfold factorP bindP isNameP
 dsimp only
 rw[h]
 rfl
theorem fact_minus {fc ex:Pa Ex} {r:Rd} (h:(nowR r).k≠1) (h1:isR [45] r=true) (h2:(behindR r).k≠3):factorP fc ex r=(exOf 5 (deepP fc (nextR r)).1,(deepP fc (nextR r)).2):=by
 unfold factorP bindP isNameP
 dsimp only
 rw[if_neg (by simpa using h)]
 unfold minusP
 rw[if_pos ⟨h1,h2⟩]
 rfl
theorem fact_open {fc ex:Pa Ex} {r:Rd} (h:(nowR r).k≠1) (h1:isR [45] r=false) (h2:isR [40] r=true):factorP fc ex r=((deepP ex (nextR r)).1,(mustsP [[41]] (deepP ex (nextR r)).2).2):=by
 unfold factorP bindP isNameP
 dsimp only
 rw[if_neg (by simpa using h)]
 unfold minusP
 rw[if_neg (fun e=>by rw[h1] at e;cases e.1)]
 unfold ifP
 rw[if_pos h2]
 rfl
theorem fact_lit {fc ex:Pa Ex} {r:Rd} (h:(nowR r).k≠1) (h1:isR [45] r=false∨(behindR r).k=3) (h2:isR [40] r=false):factorP fc ex r=(exVal (litP r).1,(litP r).2):=by
 unfold factorP bindP isNameP
 dsimp only
 rw[if_neg (by simpa using h)]
 unfold minusP
 rw[if_neg (fun e=>by rcases h1 with h1 | h1;(rw[h1] at e;cases e.1);exact e.2 h1)]
 unfold ifP
 rw[if_neg (by rw[h2];exact Bool.false_ne_true)]
 rfl
theorem field_tok0 (x:Tk) (w:World):(Instr.field 162 (.agg #[.int .i64 x.k,.string (str8 x.s),.int .i64 x.n,.int .i64 x.p]) 0).run Tryz.prog w = .ok (.int .i64 x.k) w:=(field_tok x.k x.n x.p (str8 x.s) w).1
theorem factor_any (F n:Nat) (pf pe:Pa Ex) (hf:RdsE F (Enough n) 311 pf) (hNf:Nice false F pf) (he:RdsE F (Enough n) 116 pe) (hNe:Nice false F pe):RdsE F (Enough (n+1)) 311 (factorP pf pe):=fun g r w h hE=>by
 have hgw:=h.lt
 have hG:=h.good
 obtain⟨W,hW,hbW,hzW,hcW⟩:=box8 w zBox
 have HCW:=hid hcW
 have HF:=hid (Spares.of_new (S:=fun k=>k=g) hbW)
 have HH:=hid (h.below hbW)
 have HN:=hid (now_any F g r W HH.out)
 have hft:=field_tok0 (nowR r)
 obtain⟨⟨Y1,Y2⟩,hY⟩:∃Y,factorP pf pe r=Y:=⟨_,rfl⟩
 have q1:=fact_name (fc:=pf) (ex:=pe) (r:=r)
 have q2:=fact_minus (fc:=pf) (ex:=pe) (r:=r)
 have q3:=fact_open (fc:=pf) (ex:=pe) (r:=r)
 have q4:=fact_lit (fc:=pf) (ex:=pe) (r:=r)
 rw[hY] at q1 q2 q3 q4 ⊢
 dsimp only
 clear hY h hcW hbW
 have CL:True:=trivial
 by_cases hk:(nowR r).k=1
 ·have hYY:=q1 hk
  have HC:=hid (fun V (hV:RdAt F V g r)=>col_any F (fun _=>True) g r V hV trivial)
  rw[← hYY] at HC
  dsimp only at HC
  clear hYY
  generalize nowR r=x at HN hft hk
  obtain⟨xk,xs,xn,xp⟩:=x
  dsimp only at HN hft hk
  subst hk
  clear q1 q2 q3 q4 hf hNf he hNe hE hG CL
  go_enter Tryz.func311,Tryz.ntmps311
  go_wp2_with fail
  try rw[hW]
  clear hW
  refine HN.out.mono ?_
  rintro e w1 ⟨rfl,hb1⟩
  have hz1:=hb1.size
  have HR1:=hid (HH.out.below hb1)
  have HF1:=hid (HF.out.thenNew hb1)
  have HB1:=hid ((hb1.block _ hzW).trans HCW.out)
  clear hb1 HN
  go_wp2_with fail
  refine (HC.out w1 HR1.out).mono ?_
  rintro e w2 ⟨u,rfl,hu,hr2,hf2⟩
  have HU2:=hid hu
  obtain⟨k3,op3,tb3,nm3,vk3,vn3,vs3,ys3,aa3,nn3,cc3,_,rfl,_⟩:=hu
  have hz2:=hf2.size
  have HR2:=hid hr2
  have HF2:=hid (HF1.out.then hf2)
  have HB2:=hid ((hf2.block w.heap.size (by omega) (by omega)).trans HB1.out)
  clear hr2 hf2 HC
  go_wp2_with (first
   | (
     refine wpList_store_box rfl (.tmp 2) (.tmp 10) rfl w.heap.size rfl k3 op3 vk3 vn3 (str8 tb3) (str8 nm3) (str8 vs3) aa3 nn3 cc3 rfl HB2.out (Nat.le_refl _) hgw HR2.out HF2.out ?_
     intro Y hYB hYs hYR hYF
     have HYB:=hid hYB
     have HUY:=hid (HU2.out.to (T:=fun b=>w.heap.size≤b) hYs (fun b hb _=>⟨by omega,by omega⟩))
     have HYR:=hid hYR
     have HYF:=hid hYF
     clear hYB hYs hYR hYF)
   | fail)
  have kc:=cells8 HYB.out
  exact bodyPost_ret (v:=.agg #[.int .i64 k3,.int .i64 op3,.string (str8 tb3),.string (str8 nm3),.int .i64 vk3,.int .i64 vn3,.string (str8 vs3),.slice aa3 nn3 cc3]) (by simp[results,Tryz.results311,go_sem,kc]) rfl ⟨_,rfl,HUY.out,HYR.out,HYF.out⟩
 ·have hk':((nowR r).k==1)=false:=by simpa using hk
  by_cases hm:isR [45] r=true
  ·by_cases h3:(behindR r).k=3
   ·have ho:isR [40] r=false:=by
      rw[Bool.eq_false_iff]
      intro e
      have e1:=(is_kind e).2
      rw[(is_kind hm).2] at e1
      cases e1
    have hYY:=q4 hk (.inr h3) ho
    have h3':((behindR r).k != 3)=false:=by simpa using h3
    have HIS:Hid (∀V,RdAt F V g r→Calls Tryz.prog 191 #[.pointer (some ⟨g,0,none⟩),.string ⟨#[45]⟩] V fun e w'=>e = .returned (.bool true)∧Below V.heap.size V w'):=hid (fun V hV=>by
      have:=is_any F g r V hV [45]
      rw[hm] at this
      exact this)
    have HBE:=hid (fun V (hV:RdAt F V g r)=>behind_any F g r V hV (is_ok hm) (kind6 hm))
    have hfb:=field_tok0 (behindR r)
    have HSK:Hid (∀V,RdAt F V g r→Calls Tryz.prog 118 #[.pointer (some ⟨g,0,none⟩),.string ⟨#[40]⟩] V fun e w'=>e = .returned (.bool false)∧RdAt F w' g r∧Fr g V w'):=hid (fun V hV=>skip_no F g r V hV [40] ho)
    have HL:=hid (fun V (hV:RdAt F V g r)=>lit_any F g r V hV)
    obtain⟨⟨lk,ln,ls⟩,hle⟩:∃x,(litP r).1=x:=⟨_,rfl⟩
    rw[hle] at HL hYY
    generalize (litP r).2=y2 at HL hYY
    dsimp only at HL
    simp only[Prod.mk.injEq] at hYY
    obtain⟨rfl,rfl⟩:=hYY
    generalize behindR r=z at HBE hfb h3' h3
    generalize nowR r=x at HN hft hk hk'
    clear q1 q2 q3 q4 hf hNf he hNe hE hG CL hm ho hle h3
    go_enter Tryz.func311,Tryz.ntmps311
    go_wp2_with fail
    try rw[hW]
    clear hW
    refine HN.out.mono ?_
    rintro e w1 ⟨rfl,hb1⟩
    have hz1:=hb1.size
    have HR1:=hid (HH.out.below hb1)
    have HF1:=hid (HF.out.thenNew hb1)
    have HB1:=hid ((hb1.block _ hzW).trans HCW.out)
    clear hb1 HN
    go_wp2_with fail
    refine (HIS.out w1 HR1.out).mono ?_
    rintro e w2 ⟨rfl,hb2⟩
    have hz2:=hb2.size
    have HR2:=hid (HR1.out.below hb2)
    have HF2:=hid (HF1.out.thenNew hb2)
    have HB2:=hid ((hb2.block w.heap.size (by omega)).trans HB1.out)
    clear hb2 HIS
    go_wp2_with fail
    refine (HBE.out w2 HR2.out).mono ?_
    rintro e w3 ⟨rfl,hb3⟩
    have hz3:=hb3.size
    have HR3:=hid (HR2.out.below hb3)
    have HF3:=hid (HF2.out.thenNew hb3)
    have HB3:=hid ((hb3.block w.heap.size (by omega)).trans HB2.out)
    clear hb3 HBE
    go_wp2_with fail
    refine (HSK.out w3 HR3.out).mono ?_
    rintro e w4 ⟨rfl,hr4,hf4⟩
    have hz4:=hf4.size
    have HR4:=hid hr4
    have HF4:=hid (HF3.out.then hf4)
    have HB4:=hid ((hf4.block w.heap.size (by omega) (by omega)).trans HB3.out)
    clear hr4 hf4 HSK
    go_wp2_with fail
    refine (HL.out w4 HR4.out).mono ?_
    rintro e w5 ⟨rfl,hr5,hf5⟩
    have hz5:=hf5.size
    have HR5:=hid hr5
    have HF5:=hid (HF4.out.then hf5)
    have HB5:=hid ((hf5.block w.heap.size (by omega) (by omega)).trans HB4.out)
    clear hr5 hf5 HL
    go_wp2_with (first
      | (
       refine wpList_store_box rfl (.tmp 2) (.tmp 40) rfl w.heap.size rfl 1 0 lk ln ⟨#[]⟩ ⟨#[]⟩ (str8 ls) none 0 0 rfl HB5.out (Nat.le_refl _) hgw HR5.out HF5.out ?_
       intro Y hYB hYs hYR hYF
       have HYB:=hid hYB
       have HYR:=hid hYR
       have HYF:=hid hYF
       clear hYB hYs hYR hYF)
      | fail)
    have kc:=cells8 HYB.out
    exact bodyPost_ret (v:=.agg #[.int .i64 1,.int .i64 0,.string ⟨#[]⟩,.string ⟨#[]⟩,.int .i64 lk,.int .i64 ln,.string (str8 ls),.slice none 0 0]) (by simp[results,Tryz.results311,go_sem,kc]) rfl ⟨_,rfl,⟨1,0,[],[],lk,ln,ls,[],_,_,_,rfl,rfl,.nil _ _ (by unfold maxLen;omega)⟩,HYR.out,HYF.out⟩
   ·skip
    have hYY:=q2 hk hm h3
    have h3':((behindR r).k != 3)=true:=by simpa using h3
    have hb:=is_ok hm
    have hE1:Enough (n+1) (nextR r):=hE.next
    have HIS:Hid (∀V,RdAt F V g r→Calls Tryz.prog 191 #[.pointer (some ⟨g,0,none⟩),.string ⟨#[45]⟩] V fun e w'=>e = .returned (.bool true)∧Below V.heap.size V w'):=hid (fun V hV=>by
      have:=is_any F g r V hV [45]
      rw[hm] at this
      exact this)
    have HBE:=hid (fun V (hV:RdAt F V g r)=>behind_any F g r V hV (is_ok hm) (kind6 hm))
    have hfb:=field_tok0 (behindR r)
    have HNX:=hid (fun V (hV:RdAt F V g r)=>next_any F g r V hV (is_ok hm) (kind6 hm))
    have HD:=hid (fun V (hV:RdAt F V g (nextR r))=>deeper_any F n 311 pf hf hNf (enters_of Tryz.func311 (by kernel_rfl) rfl) g (nextR r) V hV hE1 hb)
    generalize (deepP pf (nextR r)).1=y1 at HD hYY
    generalize (deepP pf (nextR r)).2=y2 at HD hYY
    simp only[Prod.mk.injEq] at hYY
    obtain⟨rfl,rfl⟩:=hYY
    generalize behindR r=z at HBE hfb h3' h3
    generalize nowR r=x at HN hft hk hk'
    clear q1 q2 q3 q4 hf hNf he hNe hE hG CL hE1 hb hm h3
    go_enter Tryz.func311,Tryz.ntmps311
    go_wp2_with fail
    try rw[hW]
    clear hW
    refine HN.out.mono ?_
    rintro e w1 ⟨rfl,hb1⟩
    have hz1:=hb1.size
    have HR1:=hid (HH.out.below hb1)
    have HF1:=hid (HF.out.thenNew hb1)
    have HB1:=hid ((hb1.block _ hzW).trans HCW.out)
    clear hb1 HN
    go_wp2_with fail
    refine (HIS.out w1 HR1.out).mono ?_
    rintro e w2 ⟨rfl,hb2⟩
    have hz2:=hb2.size
    have HR2:=hid (HR1.out.below hb2)
    have HF2:=hid (HF1.out.thenNew hb2)
    have HB2:=hid ((hb2.block w.heap.size (by omega)).trans HB1.out)
    clear hb2 HIS
    go_wp2_with fail
    refine (HBE.out w2 HR2.out).mono ?_
    rintro e w3 ⟨rfl,hb3⟩
    have hz3:=hb3.size
    have HR3:=hid (HR2.out.below hb3)
    have HF3:=hid (HF2.out.thenNew hb3)
    have HB3:=hid ((hb3.block w.heap.size (by omega)).trans HB2.out)
    clear hb3 HBE
    go_wp2_with fail
    refine (HNX.out w3 HR3.out).mono ?_
    rintro e w4 ⟨rfl,hr4,hf4⟩
    have hz4:=hf4.size
    have HR4:=hid hr4
    have HF4:=hid (HF3.out.then hf4)
    have HB4:=hid ((hf4.block w.heap.size (by omega) (by omega)).trans HB3.out)
    clear hr4 hf4 HNX
    go_wp2_with fail
    refine (HD.out w4 HR4.out).mono ?_
    rintro e w5 ⟨u,rfl,hu,hr5,hf5⟩
    have HU5:=hid hu
    obtain⟨k2,op2,tb2,nm2,vk2,vn2,vs2,ys2,aa2,nn2,cc2,_,rfl,_⟩:=hu
    have hz5:=hf5.size
    have HR5:=hid hr5
    have HF5:=hid (HF4.out.then hf5)
    have HB5:=hid ((hf5.block w.heap.size (by omega) (by omega)).trans HB4.out)
    clear hr5 hf5 HD
    have HO:=hid (of_any (fun b=>w4.heap.size≤b) 5 y1 _ w5 (fun b hb=>by omega) HU5.out)
    go_wp2_with fail
    refine HO.out.mono ?_
    rintro e w6 ⟨u,rfl,hu,hb6⟩
    have HU6:=hid hu
    obtain⟨k3,op3,tb3,nm3,vk3,vn3,vs3,ys3,aa3,nn3,cc3,_,rfl,_⟩:=hu
    have HB6:=hid ((hb6.block w.heap.size (by omega)).trans HB5.out)
    have HR6:=hid (HR5.out.below hb6)
    have HF6:=hid (HF5.out.thenNew hb6)
    clear hb6 HO
    go_wp2_with (first
      | (
       refine wpList_store_box rfl (.tmp 2) (.tmp 26) rfl w.heap.size rfl k3 op3 vk3 vn3 (str8 tb3) (str8 nm3) (str8 vs3) aa3 nn3 cc3 rfl HB6.out (Nat.le_refl _) hgw HR6.out HF6.out ?_
       intro Y hYB hYs hYR hYF
       have HYB:=hid hYB
       have HUY:=hid (HU6.out.to (T:=fun b=>w.heap.size≤b) hYs (fun b hb _=>⟨by omega,by omega⟩))
       have HYR:=hid hYR
       have HYF:=hid hYF
       clear hYB hYs hYR hYF)
      | fail)
    have kc:=cells8 HYB.out
    exact bodyPost_ret (v:=.agg #[.int .i64 k3,.int .i64 op3,.string (str8 tb3),.string (str8 nm3),.int .i64 vk3,.int .i64 vn3,.string (str8 vs3),.slice aa3 nn3 cc3]) (by simp[results,Tryz.results311,go_sem,kc]) rfl ⟨_,rfl,HUY.out,HYR.out,HYF.out⟩
  ·have hm:isR [45] r=false:=by simpa using hm
   by_cases ho:isR [40] r=true
   ·skip
    have hYY:=q3 hk hm ho
    have hb:=is_ok ho
    have hE1:Enough (n+1) (nextR r):=hE.next
    have HIS:Hid (∀V,RdAt F V g r→Calls Tryz.prog 191 #[.pointer (some ⟨g,0,none⟩),.string ⟨#[45]⟩] V fun e w'=>e = .returned (.bool false)∧Below V.heap.size V w'):=hid (fun V hV=>by
      have:=is_any F g r V hV [45]
      rw[hm] at this
      exact this)
    have HSK:Hid (∀V,RdAt F V g r→Calls Tryz.prog 118 #[.pointer (some ⟨g,0,none⟩),.string ⟨#[40]⟩] V fun e w'=>e = .returned (.bool true)∧RdAt F w' g (nextR r)∧Fr g V w'):=hid (fun V hV=>skip_yes F g r V hV [40] ho)
    have HD:=hid (fun V (hV:RdAt F V g (nextR r))=>deeper_any F n 116 pe he hNe (enters_of Tryz.func116 (by kernel_rfl) rfl) g (nextR r) V hV hE1 hb)
    generalize (deepP pe (nextR r)).1=y1 at HD hYY
    generalize (deepP pe (nextR r)).2=y2 at HD hYY
    have HM:Hid (∀V,RdAt F V g y2→Calls Tryz.prog 111 #[.pointer (some ⟨g,0,none⟩),.slice (some ⟨V.heap.size,0,none⟩) 1 1] (V.alloc (.cells #[.string ⟨#[41]⟩] 9)) fun e w'=>e = .returned (.tuple #[])∧RdAt F w' g (mustsP [[41]] y2).2∧Fr g V w'):=hid (fun V hV=>must_new F g y2 [[41]] (by decide) V hV)
    generalize (mustsP [[41]] y2).2=y3 at HM hYY
    simp only[Prod.mk.injEq] at hYY
    obtain⟨rfl,rfl⟩:=hYY
    generalize nowR r=x at HN hft hk hk'
    clear q1 q2 q3 q4 hf hNf he hNe hE hG CL hE1 hb hm ho
    go_enter Tryz.func311,Tryz.ntmps311
    go_wp2_with fail
    try rw[hW]
    clear hW
    refine HN.out.mono ?_
    rintro e w1 ⟨rfl,hb1⟩
    have hz1:=hb1.size
    have HR1:=hid (HH.out.below hb1)
    have HF1:=hid (HF.out.thenNew hb1)
    have HB1:=hid ((hb1.block _ hzW).trans HCW.out)
    clear hb1 HN
    go_wp2_with fail
    refine (HIS.out w1 HR1.out).mono ?_
    rintro e w2 ⟨rfl,hb2⟩
    have hz2:=hb2.size
    have HR2:=hid (HR1.out.below hb2)
    have HF2:=hid (HF1.out.thenNew hb2)
    have HB2:=hid ((hb2.block w.heap.size (by omega)).trans HB1.out)
    clear hb2 HIS
    go_wp2_with fail
    refine (HSK.out w2 HR2.out).mono ?_
    rintro e w3 ⟨rfl,hr3,hf3⟩
    have hz3:=hf3.size
    have HR3:=hid hr3
    have HF3:=hid (HF2.out.then hf3)
    have HB3:=hid ((hf3.block w.heap.size (by omega) (by omega)).trans HB2.out)
    clear hr3 hf3 HSK
    go_wp2_with fail
    refine (HD.out w3 HR3.out).mono ?_
    rintro e w4 ⟨u,rfl,hu,hr4,hf4⟩
    have HU4:=hid hu
    obtain⟨k3,op3,tb3,nm3,vk3,vn3,vs3,ys3,aa3,nn3,cc3,_,rfl,_⟩:=hu
    have hz4:=hf4.size
    have HR4:=hid hr4
    have HF4:=hid (HF3.out.then hf4)
    have HB4:=hid ((hf4.block w.heap.size (by omega) (by omega)).trans HB3.out)
    clear hr4 hf4 HD
    go_wp2_with fail
    obtain⟨V,hV,hbV,hzV,hcV⟩:=box8 w4 (.cells #[.int .i64 k3,.int .i64 op3,.string (str8 tb3),.string (str8 nm3),.int .i64 vk3,.int .i64 vn3,.string (str8 vs3),.slice aa3 nn3 cc3] 130)
    try rw[hV]
    have HRV:=hid (HR4.out.below hbV)
    have HFV:=hid (HF4.out.thenNew hbV)
    have HBV:=hid ((hbV.block w.heap.size (by omega)).trans HB4.out)
    have HEV:=hid hcV
    have HUV:Hid (ExV (fun b=>w.heap.size≤b∧b≠w.heap.size) V Y1 _):=hid (HU4.out.to (R:=fun _=>False) (Spares.of_new hbV) (fun b hb hlt=>⟨id,by omega,by omega⟩))
    have hVs:V.heap.size=w4.heap.size+1:=by rw[← hV];simp
    have hMV:=HM.out V HRV.out
    rw[hVs] at hMV
    have HMV:=hid hMV
    clear hV hbV hcV HM hMV hVs
    refine HMV.out.mono ?_
    rintro e w5 ⟨rfl,hr5,hf5⟩
    have hz5:=hf5.size
    have HR5:=hid hr5
    have HF5:=hid (HFV.out.then hf5)
    have HB5:=hid ((hf5.block w.heap.size (by omega) (by omega)).trans HBV.out)
    have k5:=cells8f ((hf5.block w4.heap.size hzV (by omega)).trans HEV.out)
    have HU5:=hid (HUV.out.to (T:=fun b=>w.heap.size≤b∧b≠w.heap.size) hf5 (fun b hb _=>⟨by omega,hb⟩))
    clear hr5 hf5 HMV
    go_wp2_with (first
      | (
       refine wpList_store_box rfl (.tmp 2) (.tmp 37) rfl w.heap.size rfl k3 op3 vk3 vn3 (str8 tb3) (str8 nm3) (str8 vs3) aa3 nn3 cc3 rfl HB5.out (Nat.le_refl _) hgw HR5.out HF5.out ?_
       intro Y hYB hYs hYR hYF
       have HYB:=hid hYB
       have HUY:=hid (HU5.out.to (T:=fun b=>w.heap.size≤b) hYs (fun b hb _=>⟨hb.2,hb.1⟩))
       have HYR:=hid hYR
       have HYF:=hid hYF
       clear hYB hYs hYR hYF)
      | fail)
    have kc:=cells8 HYB.out
    exact bodyPost_ret (v:=.agg #[.int .i64 k3,.int .i64 op3,.string (str8 tb3),.string (str8 nm3),.int .i64 vk3,.int .i64 vn3,.string (str8 vs3),.slice aa3 nn3 cc3]) (by simp[results,Tryz.results311,go_sem,kc]) rfl ⟨_,rfl,HUY.out,HYR.out,HYF.out⟩
   ·have ho:isR [40] r=false:=by simpa using ho
    have hYY:=q4 hk (.inl hm) ho
    have HIS:Hid (∀V,RdAt F V g r→Calls Tryz.prog 191 #[.pointer (some ⟨g,0,none⟩),.string ⟨#[45]⟩] V fun e w'=>e = .returned (.bool false)∧Below V.heap.size V w'):=hid (fun V hV=>by
      have:=is_any F g r V hV [45]
      rw[hm] at this
      exact this)
    have HSK:Hid (∀V,RdAt F V g r→Calls Tryz.prog 118 #[.pointer (some ⟨g,0,none⟩),.string ⟨#[40]⟩] V fun e w'=>e = .returned (.bool false)∧RdAt F w' g r∧Fr g V w'):=hid (fun V hV=>skip_no F g r V hV [40] ho)
    have HL:=hid (fun V (hV:RdAt F V g r)=>lit_any F g r V hV)
    obtain⟨⟨lk,ln,ls⟩,hle⟩:∃x,(litP r).1=x:=⟨_,rfl⟩
    rw[hle] at HL hYY
    generalize (litP r).2=y2 at HL hYY
    dsimp only at HL
    simp only[Prod.mk.injEq] at hYY
    obtain⟨rfl,rfl⟩:=hYY
    generalize nowR r=x at HN hft hk hk'
    clear q1 q2 q3 q4 hf hNf he hNe hE hG CL hm ho hle
    go_enter Tryz.func311,Tryz.ntmps311
    go_wp2_with fail
    try rw[hW]
    clear hW
    refine HN.out.mono ?_
    rintro e w1 ⟨rfl,hb1⟩
    have hz1:=hb1.size
    have HR1:=hid (HH.out.below hb1)
    have HF1:=hid (HF.out.thenNew hb1)
    have HB1:=hid ((hb1.block _ hzW).trans HCW.out)
    clear hb1 HN
    go_wp2_with fail
    refine (HIS.out w1 HR1.out).mono ?_
    rintro e w2 ⟨rfl,hb2⟩
    have hz2:=hb2.size
    have HR2:=hid (HR1.out.below hb2)
    have HF2:=hid (HF1.out.thenNew hb2)
    have HB2:=hid ((hb2.block w.heap.size (by omega)).trans HB1.out)
    clear hb2 HIS
    go_wp2_with fail
    refine (HSK.out w2 HR2.out).mono ?_
    rintro e w3 ⟨rfl,hr3,hf3⟩
    have hz3:=hf3.size
    have HR3:=hid hr3
    have HF3:=hid (HF2.out.then hf3)
    have HB3:=hid ((hf3.block w.heap.size (by omega) (by omega)).trans HB2.out)
    clear hr3 hf3 HSK
    go_wp2_with fail
    refine (HL.out w3 HR3.out).mono ?_
    rintro e w4 ⟨rfl,hr4,hf4⟩
    have hz4:=hf4.size
    have HR4:=hid hr4
    have HF4:=hid (HF3.out.then hf4)
    have HB4:=hid ((hf4.block w.heap.size (by omega) (by omega)).trans HB3.out)
    clear hr4 hf4 HL
    go_wp2_with (first
      | (
       refine wpList_store_box rfl (.tmp 2) (.tmp 40) rfl w.heap.size rfl 1 0 lk ln ⟨#[]⟩ ⟨#[]⟩ (str8 ls) none 0 0 rfl HB4.out (Nat.le_refl _) hgw HR4.out HF4.out ?_
       intro Y hYB hYs hYR hYF
       have HYB:=hid hYB
       have HYR:=hid hYR
       have HYF:=hid hYF
       clear hYB hYs hYR hYF)
      | fail)
    have kc:=cells8 HYB.out
    exact bodyPost_ret (v:=.agg #[.int .i64 1,.int .i64 0,.string ⟨#[]⟩,.string ⟨#[]⟩,.int .i64 lk,.int .i64 ln,.string (str8 ls),.slice none 0 0]) (by simp[results,Tryz.results311,go_sem,kc]) rfl ⟨_,rfl,⟨1,0,[],[],lk,ln,ls,[],_,_,_,rfl,rfl,.nil _ _ (by unfold maxLen;omega)⟩,HYR.out,HYF.out⟩
theorem lev_any (F:Nat):∀n,RdsE F (Enough n) 233 (lev F n).nt∧RdsE F (Enough n) 311 (lev F n).fc∧RdsE F (Enough n) 116 (lev F n).ex
 | 0=>⟨fun _ _ _ _ h=>absurd h.2 (by decide),fun _ _ _ _ h=>absurd h.2 (by decide),fun _ _ _ _ h=>absurd h.2 (by decide)⟩
 |
  n+1=>by
  obtain⟨i1,i2,i3⟩:=lev_any F n
  have hN:=nice_lev (b:=false) (F:=F) n
  have hf:=factor_any F n _ _ i2 hN.fc i3 hN.ex
  have hNf:=nice_factor hN.fc hN.ex
  have ht:=term_any F (n+1) _ hf hNf
  have hs:=sum_any F (n+1) _ ht (nice_term hN)
  have hq:=test_any F (n+1) _ hs (nice_sum hN)
  have hnt:=not_any F n _ _ i1 hN.nt hq
  have ha:=and_any F (n+1) _ hnt (nice_notQ hN)
  exact⟨hnt,hf,expr_any F (n+1) _ ha (nice_and hN)⟩
theorem exprP_any (F g:Nat) (r:Rd) (w:World) (h:RdAt F w g r) (hd:r.bad=0→r.d=0) :
  Calls Tryz.prog 116 #[.pointer (some ⟨g,0,none⟩)] w fun e w'=>∃u,e = .returned u∧ExV (fun b=>w.heap.size≤b) w' (exprP F r).1 u∧RdAt F w' g (exprP F r).2∧Fr g w w' :=
 (lev_any F 12).2.2 g r w h ⟨fun hb=>by rw[hd hb];decide,by decide⟩
theorem run_append_where {P:Program} (w:World) (base:Nat) (t ty e:TypeId) (i:TypeInfo) (z:Value) (size bytes:Nat) (ht:P.underlying t=some (.slice e)) (hi:P.info? e=some i) (hz:i.zero=some z)
  (hsize:i.size=size) (hby:i.bytes=bytes) (hzs:z.cells.size=size) (hsz:0<size)
  (v:Value) (n:Nat) (xs:List Value) (hown:w.ownsRow base e size v n xs)
  (a:Addr) (c:Nat) (news:List Value) (hl:news.length=size) (hnews : ∀j u,news[j]?=some u→w.cell? (a.add j)=some u) (h1 : ∀u∈news,u.oneCell'=true)
  (h63:n+1≤maxLen) (hbytes:(n+1)*bytes≤140737488355328) (hbase:base≤w.heap.size) :
  ∃
   v' w',(Builtin.append_ #[t,t] ty #[v,.slice (some a) 1 c]).run P w = .ok v' w'∧w'.ownsRow base e size v' (n+1) (xs++news)∧w.grownBy w' v.ownBlock ∧
   (v'.ownBlock=v.ownBlock∨v'.ownBlock=some w.heap.size):=by
 obtain⟨v',w',hr,h2,h3,_⟩:=run_append_own (P:=P) w base t ty e i z size bytes ht hi hz hsize hby hzs hsz v n xs hown a 1 c news (by omega) hnews h1 h63 hbytes hbase
 refine ⟨v',w',hr,h2,h3,?_⟩
 subst hsize
 subst hby
 have hsmall:n+1≤9223372036854775807:=by simp only[maxLen] at h63;omega
 rcases hown.2 with⟨rfl,rfl⟩ | ⟨g,cap,cur,rfl,hbg,hg,hnc,hcm,hcs,htake⟩
 ·have hr2:=run_append_nil (P:=P) w t ty e i z ht hi hz a 1 c news (by omega) hnews (by omega) (by omega) (by have hb:=hbytes;simp only[Nat.zero_add] at hb;omega)
  rw[hr2] at hr
  injection hr with e1 e2
  rw[← e1]
  exact .inr rfl
 ·by_cases hroom:n+1≤cap
  ·have hfit:n*i.size+news.length≤cur.size:=by rw[hl,hcs,← Nat.succ_mul];exact Nat.mul_le_mul_right _ hroom
   have hr2:=run_append_room (P:=P) w t ty e i ht hi g n cap cur hg a 1 c news (by omega) hnews h1 hroom hfit
   rw[hr2] at hr
   injection hr with e1 e2
   rw[← e1]
   exact .inl rfl
  ·have holds : ∀j u,xs[j]?=some u→w.cell? ((⟨g,0,none⟩:Addr).add j)=some u:=hown.cells (g:=g) rfl
   have hr2:=run_append_grow (P:=P) w t ty e i z ht hi hz ⟨g,0,none⟩ n cap xs hown.1 holds a 1 c news (by omega) hnews (by omega) (by omega) (growslice_fits (by omega) hbytes)
   rw[hr2] at hr
   injection hr with e1 e2
   rw[← e1]
   exact .inr rfl
theorem wpList_append_where {P:Program} {ops:Array Oper} {rest:List Oper} {o:Oper} {a:Act} {Q:Exit→Act→World→Prop} (w:World) (hgd:o.guard=none) (s x:Operand) (t:TypeId)
  (ho:o.op = .call { callee:=.builtin .append,args:=#[s,x],argTypes:=#[t,t] })
  (base:Nat) (e:TypeId) (i:TypeInfo) (z:Value) (size bytes:Nat) (ht:P.underlying t=some (.slice e)) (hi:P.info? e=some i) (hz:i.zero=some z)
  (hsize:i.size=size) (hby:i.bytes=bytes) (hzs:z.cells.size=size) (hsz:0<size)
  (v:Value) (n:Nat) (xs:List Value) (hs:a.eval s=v) (hown:w.ownsRow base e size v n xs)
  (ad:Addr) (c:Nat) (news:List Value) (hx:a.eval x = .slice (some ad) 1 c) (hl:news.length=size) (hnews : ∀j u,news[j]?=some u→w.cell? (ad.add j)=some u) (h1 : ∀u∈news,u.oneCell'=true)
  (h63:n+1≤maxLen) (hbytes:(n+1)*bytes≤140737488355328) (hbase:base≤w.heap.size)
  (h : ∀v' w',w'.ownsRow base e size v' (n+1) (xs++news)→w.grownBy w' v.ownBlock→(v'.ownBlock=v.ownBlock∨v'.ownBlock=some w.heap.size)→wpList P ops Q rest (a.put o.dst v') w'):wpList P ops Q (o::rest) a w:=by
 obtain⟨v',w',hr,h2,h3,h4⟩:=run_append_where (P:=P) w base t o.type e i z size bytes ht hi hz hsize hby hzs hsz v n xs hown ad c news hl hnews h1 h63 hbytes hbase
 refine wpList_plain hgd fun _ hK=>?_
 unfold Oper.wp execOp
 simp only[ho,resolve,invoke,builtin,Sem.run_bind,Sem.run_pure,Result.andThen_ok,List.map_toArray,List.map_cons,List.map_nil,hs,hx,hr]
 exact hK _ _ (h v' w' h2 h3 h4)
def Els {α:Type} (z:Nat) (El:(Nat→Prop)→World→α→List Value→Prop) (S:Nat→Prop) (w:World) (xs:List α) (css:List (List Value)):Prop :=
 css.length=xs.length∧∀(j:Nat) (x:α) (cs:List Value),xs[j]?=some x→css[j]?=some cs→cs.length=z∧El S w x cs
theorem Els.nil {α:Type} {z:Nat} {El:(Nat→Prop)→World→α→List Value→Prop} {S:Nat→Prop} {w:World}:Els z El S w [] []:=⟨rfl,fun j x cs h=>by simp at h⟩
theorem Els.snoc {α:Type} {z:Nat} {El:(Nat→Prop)→World→α→List Value→Prop} {S:Nat→Prop} {w:World} {xs:List α} {css:List (List Value)} (h:Els z El S w xs css) {x:α} {cs:List Value} (hl:cs.length=z) (he:El S w x cs):Els z El S w (xs++[x]) (css++[cs]):=by
 obtain⟨h1,h2⟩:=h
 refine ⟨by simp[h1],fun j y ds hy hd=>?_⟩
 rcases Nat.lt_or_ge j xs.length with hj | hj
 ·rw[List.getElem?_append_left hj] at hy
  rw[List.getElem?_append_left (by omega)] at hd
  exact h2 j y ds hy hd
 ·rw[List.getElem?_append_right hj] at hy
  rw[List.getElem?_append_right (by omega),h1] at hd
  cases hk:j-xs.length with
  |
   zero =>
   rw[hk] at hy hd
   simp only[List.getElem?_cons_zero,Option.some.injEq] at hy hd
   subst hy hd
   exact⟨hl,he⟩
  | succ k=>rw[hk] at hy;simp at hy
theorem Els.to {α:Type} {z:Nat} {El:(Nat→Prop)→World→α→List Value→Prop} {S T:Nat→Prop} {w w':World} {xs:List α} {css:List (List Value)} (h:Els z El S w xs css) (hE : ∀x cs,El S w x cs→El T w' x cs):Els z El T w' xs css :=
 ⟨h.1,fun j x cs hx hc=>⟨(h.2 j x cs hx hc).1,hE x cs (h.2 j x cs hx hc).2⟩⟩
theorem flatten_at (z:Nat):∀(css:List (List Value)),(∀cs∈css,cs.length=z)→∀(j i:Nat) (cs:List Value) (u:Value),css[j]?=some cs→cs[i]?=some u→css.flatten[j*z+i]?=some u
 |
  c::css,h,0,i,cs,u,hj,hu=>by
  simp only[List.getElem?_cons_zero,Option.some.injEq] at hj
  subst hj
  rw[List.flatten_cons,Nat.zero_mul,Nat.zero_add,List.getElem?_append_left (List.getElem?_eq_some_iff.1 hu).1]
  exact hu
 |
  c::css,h,j+1,i,cs,u,hj,hu=>by
  have hl:=h c (by simp)
  rw[List.flatten_cons,List.getElem?_append_right (by rw[hl,Nat.succ_mul];omega),hl,show (j+1)*z+i-z=j*z+i by rw[Nat.succ_mul];omega]
  exact flatten_at z css (fun x hx=>h x (by simp[hx])) j i cs u (by simpa using hj) hu
def SlAt {α:Type} (z:Nat) (El:(Nat→Prop)→World→α→List Value→Prop) (S:Nat→Prop) (w:World) (xs:List α) (v:Value):Prop :=
 ∃
  (a:Option Addr) (c:Nat) (css:List (List Value)),v = .slice a xs.length c∧xs.length≤c∧c≤maxLen∧Els z El S w xs css ∧
  (xs≠[]→∃b off,a=some ⟨b,off,none⟩∧S b∧∀(j:Nat) (cs:List Value),css[j]?=some cs→∀(i:Nat) (u:Value),cs[i]?=some u→w.cell? ⟨b,off+j*z+i,none⟩=some u)
theorem SlAt.nil {α:Type} {z:Nat} {El:(Nat→Prop)→World→α→List Value→Prop} {S:Nat→Prop} {w:World}:SlAt z El S w ([]:List α) (.slice none 0 0) :=
 ⟨none,0,[],rfl,Nat.le_refl _,Nat.zero_le _,Els.nil,fun h=>absurd rfl h⟩
theorem SlAt.of_owns {α:Type} {z:Nat} {El:(Nat→Prop)→World→α→List Value→Prop} {S:Nat→Prop} {w:World} {base:Nat} {e:TypeId} {v:Value} {xs:List α} {css:List (List Value)} (hz:0<z)
  (h:w.ownsRow base e z v xs.length css.flatten) (hE:Els z El S w xs css) (hS : ∀b,v.ownBlock=some b→S b):SlAt z El S w xs v:=by
 have hl : ∀cs∈css,cs.length=z:=fun cs hc=>by
  obtain⟨j,hj,e⟩:=List.getElem_of_mem hc
  have hx:xs[j]?=some (xs[j]'(by rw[← hE.1];exact hj)):=List.getElem?_eq_getElem _
  exact (hE.2 j _ cs hx (by rw[List.getElem?_eq_getElem hj,e])).1
 have hc:=h
 rcases h.2 with⟨rfl,hn⟩ | ⟨g,cap,cur,rfl,hb,hg,hnc,hcm,hcs,ht⟩
 ·exact⟨none,0,css,by rw[hn],by omega,by unfold maxLen;omega,hE,fun hne=>absurd (List.eq_nil_of_length_eq_zero hn) hne⟩
 ·refine ⟨_,cap,css,rfl,hnc,hcm,hE,fun _=>⟨g,0,rfl,hS g rfl,fun j cs hj i u hu=>?_⟩⟩
  have k:=hc.cells (g:=g) rfl (j*z+i) u (flatten_at z css hl j i cs u hj hu)
  rw[Addr.add_lit,Nat.zero_add] at k
  rw[Nat.zero_add]
  exact k
theorem SlAt.to {α:Type} {z:Nat} {El:(Nat→Prop)→World→α→List Value→Prop} {S R T:Nat→Prop} {w w':World} {xs:List α} {v:Value} (hz:0<z) (h:SlAt z El S w xs v) (hk:Spares R w w') (hS : ∀b,S b→b<w.heap.size→¬R b∧T b) (hE : ∀x cs,El S w x cs→El T w' x cs):SlAt z El T w' xs v:=by
 obtain⟨a,c,css,h1,h2,h3,h4,h5⟩:=h
 refine ⟨a,c,css,h1,h2,h3,h4.to hE,fun hne=>?_⟩
 obtain⟨b,off,ha,hb,hc⟩:=h5 hne
 have hlt:b<w.heap.size:=by
  cases xs with
  | nil=>exact absurd rfl hne
  |
   cons x l =>
   cases css with
   | nil=>have:=h4.1;simp at this
   |
    cons cs css =>
    have:=h4.2 0 x cs rfl rfl
    cases cs with
    | nil=>have:=this.1;simp at this;omega
    | cons u cs=>exact World.block_lt_of_cell? w _ (hc 0 (u::cs) rfl 0 u rfl)
 obtain⟨h6,h7⟩:=hS b hb hlt
 exact⟨b,off,ha,h7,fun j cs hj i u hu=>hk.cell (hc j cs hj i u hu) h6⟩
theorem SlAt.form {α:Type} {z:Nat} {El:(Nat→Prop)→World→α→List Value→Prop} {S:Nat→Prop} {w:World} {xs:List α} {v:Value} (h:SlAt z El S w xs v):∃a c,v = .slice a xs.length c:=by
 obtain⟨a,c,css,h1,_⟩:=h
 exact⟨a,c,h1⟩
def ColE (_:Nat→Prop) (_:World) (x:Co) (cs:List Value):Prop:=cs=[.string (str8 x.nm),.int .i64 x.k,.bool x.nn,.bool x.uq]
def VlE (_:Nat→Prop) (_:World) (x:Vl) (cs:List Value):Prop:=cs=[.int .i64 x.k,.int .i64 x.n,.string (str8 x.s)]
def VsE (S:Nat→Prop) (w:World) (x:List Vl) (cs:List Value):Prop:=∃(aa:Option Addr) (nn cc:Nat),cs=[.slice aa nn cc]∧SlAt 3 VlE S w x (.slice aa nn cc)
def ItE (S:Nat→Prop) (w:World) (x:It) (cs:List Value):Prop:=∃(aa:Option Addr) (nn cc:Nat),cs=[.int .i64 x.k,.slice aa nn cc]∧ArgsAt S w x.xs (.slice aa nn cc)
def SeE (S:Nat→Prop) (w:World) (x:Se) (cs:List Value):Prop :=
 ∃(k op:Int) (tb nm:List UInt8) (vk vn:Int) (vs:List UInt8) (ys:List Ex) (aa:Option Addr) (nn cc:Nat),x.e = .mk k op tb nm ⟨vk,vn,vs⟩ ys∧cs=[.string (str8 x.nm),.int .i64 k,.int .i64 op,.string (str8 tb),.string (str8 nm),.int .i64 vk,.int .i64 vn,.string (str8 vs),.slice aa nn cc]∧ArgsAt S w ys (.slice aa nn cc)
def StE (S:Nat→Prop) (w:World) (x:St) (cs:List Value):Prop :=
 ∃
  (a1 a2 a3 a4 a5 a6 a7 a8:Option Addr) (n1 n2 n3 n4 n5 n6 n7 n8 c1 c2 c3 c4 c5 c6 c7 c8:Nat),
  cs=[.int .i64 x.k,.string (str8 x.tb),.slice a1 n1 c1,.string (str8 x.prim),.slice a2 n2 c2,.slice a3 n3 c3,.slice a4 n4 c4,.string (str8 x.jn),.slice a5 n5 c5,.slice a6 n6 c6,.slice a7 n7 c7,.slice a8 n8 c8,.bool x.desc,.int .i64 x.lim] ∧
  SlAt 4 ColE S w x.cols (.slice a1 n1 c1)∧SlAt 1 VsE S w x.rows (.slice a2 n2 c2)∧SlAt 9 SeE S w x.sets (.slice a3 n3 c3)∧SlAt 2 ItE S w x.items (.slice a4 n4 c4) ∧
  ArgsAt S w x.on (.slice a5 n5 c5)∧ArgsAt S w x.wh (.slice a6 n6 c6)∧ArgsAt S w x.gr (.slice a7 n7 c7)∧ArgsAt S w x.od (.slice a8 n8 c8)
theorem VsE.to {S R T:Nat→Prop} {w w':World} {x:List Vl} {cs:List Value} (h:VsE S w x cs) (hk:Spares R w w') (hS : ∀b,S b→b<w.heap.size→¬R b∧T b):VsE T w' x cs:=by
 obtain⟨aa,nn,cc,h1,h2⟩:=h
 exact⟨aa,nn,cc,h1,h2.to (by decide) hk hS (fun _ _ e=>e)⟩
theorem ItE.to {S R T:Nat→Prop} {w w':World} {x:It} {cs:List Value} (h:ItE S w x cs) (hk:Spares R w w') (hS : ∀b,S b→b<w.heap.size→¬R b∧T b):ItE T w' x cs:=by
 obtain⟨aa,nn,cc,h1,h2⟩:=h
 exact⟨aa,nn,cc,h1,h2.to hk hS⟩
theorem SeE.to {S R T:Nat→Prop} {w w':World} {x:Se} {cs:List Value} (h:SeE S w x cs) (hk:Spares R w w') (hS : ∀b,S b→b<w.heap.size→¬R b∧T b):SeE T w' x cs:=by
 obtain⟨k,op,tb,nm,vk,vn,vs,ys,aa,nn,cc,h1,h2,h3⟩:=h
 exact⟨k,op,tb,nm,vk,vn,vs,ys,aa,nn,cc,h1,h2,h3.to hk hS⟩
theorem ColE.to {S R T:Nat→Prop} {w w':World} {x:Co} {cs:List Value} (h:ColE S w x cs) (hk:Spares R w w') (hS : ∀b,S b→b<w.heap.size→¬R b∧T b):ColE T w' x cs:=h
theorem VlE.to {S R T:Nat→Prop} {w w':World} {x:Vl} {cs:List Value} (h:VlE S w x cs) (hk:Spares R w w') (hS : ∀b,S b→b<w.heap.size→¬R b∧T b):VlE T w' x cs:=h
theorem StE.to {S R T:Nat→Prop} {w w':World} {x:St} {cs:List Value} (h:StE S w x cs) (hk:Spares R w w') (hS : ∀b,S b→b<w.heap.size→¬R b∧T b):StE T w' x cs:=by
 obtain⟨a1,a2,a3,a4,a5,a6,a7,a8,n1,n2,n3,n4,n5,n6,n7,n8,c1,c2,c3,c4,c5,c6,c7,c8,h0,h1,h2,h3,h4,h5,h6,h7,h8⟩:=h
 exact⟨a1,a2,a3,a4,a5,a6,a7,a8,n1,n2,n3,n4,n5,n6,n7,n8,c1,c2,c3,c4,c5,c6,c7,c8,h0,h1.to (by decide) hk hS (fun _ _ e=>e),h2.to (by decide) hk hS (fun _ _ e=>e.to hk hS),h3.to (by decide) hk hS (fun _ _ e=>e.to hk hS),h4.to (by decide) hk hS (fun _ _ e=>e.to hk hS),h5.to hk hS,h6.to hk hS,h7.to hk hS,h8.to hk hS⟩
def D0 (r:Rd):Prop:=r.bad=0→r.d=0
theorem D0.after {F:Nat} {α:Type} {p:Pa α} {r:Rd} (hp:Nice false F p) (hG:Good F r) (h:D0 r):D0 (p r).2:=fun hb=>by
 rw[(hp.fine r trivial hG).2.1]
 refine h ?_
 by_cases e:r.bad=0
 ·exact e
 ·rw[(hp.mono r e).1] at hb;exact hb
def RdsB (F f:Nat) (p:Pa Bool):Prop :=
 ∀(g:Nat) (r:Rd) (w:World),RdAt F w g r→Calls Tryz.prog f #[.pointer (some ⟨g,0,none⟩)] w fun e w'=>e = .returned (.bool (p r).1)∧RdAt F w' g (p r).2∧Fr g w w'
def RdsX {α:Type} (F:Nat) (El:(Nat→Prop)→World→α→List Value→Prop) (f:Nat) (p:Pa α):Prop :=
 ∀(g:Nat) (r:Rd) (w:World),RdAt F w g r→D0 r→Calls Tryz.prog f #[.pointer (some ⟨g,0,none⟩)] w fun e w'=>∃cs:List Value,e = .returned (.agg cs.toArray)∧El (fun b=>w.heap.size≤b) w' (p r).1 cs∧RdAt F w' g (p r).2∧Fr g w w'
def lenV:Value→Nat
 | .slice _ n _=>n
 | _=>0
def boolV:Value→Nat
 | .bool true=>1
 | _=>0
theorem new_at (w:World) (cs:List Value) (e:TypeId):∀(j:Nat) (u:Value),cs[j]?=some u→(w.alloc (.cells cs.toArray e)).cell? ((⟨w.heap.size,0,none⟩:Addr).add j)=some u:=by
 intro j u hj
 rw[Addr.add_lit,Nat.zero_add,cell_of_row _ _ _ _ _ _ (heap_alloc_new w _)]
 simpa using hj
end Go.Proofs.YtaaggohjmhifbaaGreatDoor
