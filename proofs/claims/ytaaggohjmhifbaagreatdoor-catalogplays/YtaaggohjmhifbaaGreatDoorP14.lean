/- Packed for the hand-in: PTest -/
import Derived.Test.YtaaggohjmhifbaaGreatDoorP13
namespace Go.Proofs.YtaaggohjmhifbaaGreatDoor
open Go.RowKit Go.Shelf
set_option linter.unusedSimpArgs false
set_option linter.unusedVariables false
set_option maxRecDepth 20000
set_option maxHeartbeats 8000000
theorem test_is {sum:Pa Ex} {r:Rd} (h:isR [73,83] (sum r).2=true):testP sum r=nullP (sum r).1 (nextR (sum r).2):=by
 unfold testP bindP ifP
 dsimp only
 rw[if_pos h]
theorem test_none {sum:Pa Ex} {r q:Rd} (h:isR [73,83] (sum r).2=false) (hc:chooseP cmpsB (sum r).2=(0,q)):testP sum r=((sum r).1,q):=by
 unfold testP bindP ifP
 dsimp only
 rw[if_neg (by rw[h];exact Bool.false_ne_true),hc]
 rfl
theorem test_op {sum:Pa Ex} {r q:Rd} {o:Int} (h:isR [73,83] (sum r).2=false) (hc:chooseP cmpsB (sum r).2=(o,q)) (h0:o≠0):testP sum r=(exOp o (sum r).1 (sum q).1,(sum q).2):=by
 unfold testP bindP ifP
 dsimp only
 rw[if_neg (by rw[h];exact Bool.false_ne_true),hc]
 dsimp only
 rw[if_neg h0]
 rfl
theorem test_any (F n:Nat) (ps:Pa Ex) (hs:RdsE F (Enough n) 280 ps) (hN:Nice false F ps):RdsE F (Enough n) 264 (testP ps):=fun g r w h hE=>by
 have hgw:=h.lt
 have hG:=h.good
 obtain⟨W,hW,hbW,hzW,hcW⟩:=box8 w zBox
 have HCW:=hid hcW
 have HF:=hid (Spares.of_new (S:=fun k=>k=g) hbW)
 have HH:=hid (h.below hbW)
 have HS:=hid (hs g r W HH.out hE)
 have hfine:=hN.fine r trivial hG
 have hE1:=hE.keep hN hG
 obtain⟨⟨Y1,Y2⟩,hY⟩:∃Y,testP ps r=Y:=⟨_,rfl⟩
 have hti:=test_is (sum:=ps) (r:=r)
 have htn:=fun q=>test_none (sum:=ps) (r:=r) (q:=q)
 have hto:=fun q o=>test_op (sum:=ps) (r:=r) (q:=q) (o:=o)
 rw[hY] at hti htn hto ⊢
 obtain⟨x1,hx1⟩:∃x,(ps r).1=x:=⟨_,rfl⟩
 obtain⟨r1,hr1e⟩:∃x,(ps r).2=x:=⟨_,rfl⟩
 rw[hx1,hr1e] at hti htn hto HS
 rw[hr1e] at hfine hE1
 have hG1:=hfine.1
 dsimp only
 clear hY hx1 hr1e hfine h hcW hbW hG
 by_cases hi:isR [73,83] r1=true
 ·have hti:=hti hi
  have HSK:Hid (∀V,RdAt F V g r1→Calls Tryz.prog 118 #[.pointer (some ⟨g,0,none⟩),.string ⟨#[73,83]⟩] V fun e w'=>e = .returned (.bool true)∧RdAt F w' g (nextR r1)∧Fr g V w'):=hid (fun V hV=>skip_yes F g r1 V hV [73,83] hi)
  have HNL:=hid (fun V (hV:RdAt F V g (nextR r1)) S v hS hgS hx=>null_any F g (nextR r1) V hV S x1 v hS hgS hx)
  rw[← hti] at HNL
  dsimp only at HNL
  clear hi hti htn hto hE hE1 hs hN hG1
  go_enter Tryz.func264,Tryz.ntmps264
  go_wp2_with fail
  try rw[hW]
  clear hW
  refine HS.out.mono ?_
  rintro e w1 ⟨u,rfl,hu,hr1,hf1⟩
  have HU:=hid hu
  obtain⟨k3,op3,tb3,nm3,vk3,vn3,vs3,ys3,aa3,nn3,cc3,hxe3,rfl,ha3⟩:=hu
  have HXE3:=hid hxe3
  have hz1:=hf1.size
  obtain⟨V,hV,hbV,hzV,hcV⟩:=box8 w1 (.cells #[.int .i64 k3,.int .i64 op3,.string (str8 tb3),.string (str8 nm3),.int .i64 vk3,.int .i64 vn3,.string (str8 vs3),.slice aa3 nn3 cc3] 130)
  have HRV:=hid (hr1.below hbV)
  have HFV:=hid ((HF.out.then hf1).thenNew hbV)
  have HBV:=hid ((hbV.block w.heap.size (by omega)).trans ((hf1.block w.heap.size hzW (by omega)).trans HCW.out))
  have HEV:=hid hcV
  have HUV:Hid (ArgsAt (fun b=>w.heap.size≤b∧b≠w.heap.size∧b≠w1.heap.size) V ys3 (.slice aa3 nn3 cc3)):=hid (ha3.to (R:=fun _=>False) (Spares.of_new hbV) (fun b hb hlt=>⟨id,by omega,by omega,by omega⟩))
  have HSK1:=hid (HSK.out V HRV.out)
  clear hr1 hf1 hbV hcV HS ha3 hxe3 HU HSK
  go_wp2_with fail
  try rw[hV]
  clear hV
  refine HSK1.out.mono ?_
  rintro e w2 ⟨rfl,hr2,hf2⟩
  have hz2:=hf2.size
  have HR2:=hid hr2
  have HF2:=hid (HFV.out.then hf2)
  have HB2:=hid ((hf2.block w.heap.size (by omega) (by omega)).trans HBV.out)
  have HE2:=hid ((hf2.block w1.heap.size (by omega) (by omega)).trans HEV.out)
  have HU2:=hid (HUV.out.to (T:=fun b=>w.heap.size≤b∧b≠w.heap.size∧b≠w1.heap.size) hf2 (fun b hb _=>⟨by omega,hb⟩))
  clear hr2 hf2 HSK1 HRV HFV HBV HEV HUV
  have k1:=cells8f HE2.out
  go_wp2_with fail
  refine (HNL.out w2 HR2.out (fun b=>w.heap.size≤b∧b≠w.heap.size∧b≠w1.heap.size) _ (fun b hb=>⟨by omega,by omega,by omega⟩) (by omega) ⟨k3,op3,tb3,nm3,vk3,vn3,vs3,ys3,aa3,nn3,cc3,HXE3.out,rfl,HU2.out⟩).mono ?_
  rintro e w3 ⟨u,rfl,hu,hr3,hf3⟩
  have HU3:=hid hu
  obtain⟨k5,op5,tb5,nm5,vk5,vn5,vs5,ys5,aa5,nn5,cc5,_,rfl,_⟩:=hu
  have hz3:=hf3.size
  have HR3:=hid hr3
  have HF3:=hid (HF2.out.then hf3)
  have HB3:=hid ((hf3.block w.heap.size (by omega) (by omega)).trans HB2.out)
  clear hr3 hf3 HNL k1
  go_wp2_with (first
   | (
     refine wpList_store_box rfl (.tmp 2) (.tmp 11) rfl w.heap.size rfl k5 op5 vk5 vn5 (str8 tb5) (str8 nm5) (str8 vs5) aa5 nn5 cc5 rfl HB3.out (Nat.le_refl _) hgw HR3.out HF3.out ?_
     intro Y hYB hYs hYR hYF
     have HYB:=hid hYB
     have HUY:=hid (HU3.out.to (T:=fun b=>w.heap.size≤b) hYs (fun b hb _=>⟨hb.2.1,hb.1⟩))
     have HYR:=hid hYR
     have HYF:=hid hYF
     clear hYB hYs hYR hYF)
   | fail)
  have kc:=cells8 HYB.out
  exact bodyPost_ret (v:=.agg #[.int .i64 k5,.int .i64 op5,.string (str8 tb5),.string (str8 nm5),.int .i64 vk5,.int .i64 vn5,.string (str8 vs5),.slice aa5 nn5 cc5]) (by simp[results,Tryz.results264,go_sem,kc]) rfl ⟨_,rfl,HUY.out,HYR.out,HYF.out⟩
 ·have hi':isR [73,83] r1=false:=by simpa using hi
  have HSK:Hid (∀V,RdAt F V g r1→Calls Tryz.prog 118 #[.pointer (some ⟨g,0,none⟩),.string ⟨#[73,83]⟩] V fun e w'=>e = .returned (.bool false)∧RdAt F w' g r1∧Fr g V w'):=hid (fun V hV=>skip_no F g r1 V hV [73,83] hi')
  obtain⟨⟨oo,q⟩,hq⟩:∃x,chooseP cmpsB r1=x:=⟨_,rfl⟩
  by_cases h0:oo=0
  ·subst h0
   have HCH:Hid (∀V,RdAt F V g r1→Calls Tryz.prog 109 #[.pointer (some ⟨g,0,none⟩),.slice (some ⟨V.heap.size,0,none⟩) 6 6] (V.alloc (.cells #[.string ⟨#[61]⟩,.int .i64 3,.string ⟨#[60,62]⟩,.int .i64 4,.string ⟨#[60]⟩,.int .i64 5,.string ⟨#[60,61]⟩,.int .i64 6,.string ⟨#[62]⟩,.int .i64 7,.string ⟨#[62,61]⟩,.int .i64 8] 155)) fun e w'=>e = .returned (.int .i64 0)∧RdAt F w' g q∧Fr g V w'):=hid (fun V hV=>by
    have:=choose_new F g r1 cmpsB (by decide) V hV
    rw[hq] at this
    exact this)
   have hYY:=htn q hi' hq
   simp only[Prod.mk.injEq] at hYY
   obtain⟨rfl,rfl⟩:=hYY
   clear hi hi' hti htn hto hE hE1 hs hN hG1 hq
   go_enter Tryz.func264,Tryz.ntmps264
   go_wp2_with fail
   try rw[hW]
   clear hW
   refine HS.out.mono ?_
   rintro e w1 ⟨u,rfl,hu,hr1,hf1⟩
   have HU:=hid hu
   obtain⟨k3,op3,tb3,nm3,vk3,vn3,vs3,ys3,aa3,nn3,cc3,hxe3,rfl,ha3⟩:=hu
   have HXE3:=hid hxe3
   have hz1:=hf1.size
   obtain⟨V,hV,hbV,hzV,hcV⟩:=box8 w1 (.cells #[.int .i64 k3,.int .i64 op3,.string (str8 tb3),.string (str8 nm3),.int .i64 vk3,.int .i64 vn3,.string (str8 vs3),.slice aa3 nn3 cc3] 130)
   have HRV:=hid (hr1.below hbV)
   have HFV:=hid ((HF.out.then hf1).thenNew hbV)
   have HBV:=hid ((hbV.block w.heap.size (by omega)).trans ((hf1.block w.heap.size hzW (by omega)).trans HCW.out))
   have HEV:=hid hcV
   have HUV:Hid (ArgsAt (fun b=>w.heap.size≤b∧b≠w.heap.size∧b≠w1.heap.size) V ys3 (.slice aa3 nn3 cc3)):=hid (ha3.to (R:=fun _=>False) (Spares.of_new hbV) (fun b hb hlt=>⟨id,by omega,by omega,by omega⟩))
   have HSK1:=hid (HSK.out V HRV.out)
   clear hr1 hf1 hbV hcV HS ha3 hxe3 HU HSK
   go_wp2_with fail
   try rw[hV]
   clear hV
   refine HSK1.out.mono ?_
   rintro e w2 ⟨rfl,hr2,hf2⟩
   have hz2:=hf2.size
   have HR2:=hid hr2
   have HF2:=hid (HFV.out.then hf2)
   have HB2:=hid ((hf2.block w.heap.size (by omega) (by omega)).trans HBV.out)
   have HE2:=hid ((hf2.block w1.heap.size (by omega) (by omega)).trans HEV.out)
   have HU2:=hid (HUV.out.to (T:=fun b=>w.heap.size≤b∧b≠w.heap.size∧b≠w1.heap.size) hf2 (fun b hb _=>⟨by omega,hb⟩))
   clear hr2 hf2 HSK1 HRV HFV HBV HEV HUV
   go_wp2_with fail
   refine (HCH.out w2 HR2.out).mono ?_
   rintro e w3 ⟨rfl,hr3,hf3⟩
   have hz3:=hf3.size
   have HR3:=hid hr3
   have HF3:=hid (HF2.out.then hf3)
   have HB3:=hid ((hf3.block w.heap.size (by omega) (by omega)).trans HB2.out)
   have HE3:=hid ((hf3.block w1.heap.size (by omega) (by omega)).trans HE2.out)
   have HU3:=hid (HU2.out.to (T:=fun b=>w.heap.size≤b∧b≠w.heap.size∧b≠w1.heap.size) hf3 (fun b hb _=>⟨by omega,hb⟩))
   clear hr3 hf3 HCH
   have k1:=cells8f HE3.out
   go_wp2_with (first
    | (
       refine wpList_store_box rfl (.tmp 2) (.tmp 23) rfl w.heap.size rfl k3 op3 vk3 vn3 (str8 tb3) (str8 nm3) (str8 vs3) aa3 nn3 cc3 rfl HB3.out (Nat.le_refl _) hgw HR3.out HF3.out ?_
       intro Y hYB hYs hYR hYF
       have HYB:=hid hYB
       have HUY:=hid (HU3.out.to (T:=fun b=>w.heap.size≤b) hYs (fun b hb _=>⟨hb.2.1,hb.1⟩))
       have HYR:=hid hYR
       have HYF:=hid hYF
       clear hYB hYs hYR hYF)
    | fail)
   have kc:=cells8 HYB.out
   exact bodyPost_ret (v:=.agg #[.int .i64 k3,.int .i64 op3,.string (str8 tb3),.string (str8 nm3),.int .i64 vk3,.int .i64 vn3,.string (str8 vs3),.slice aa3 nn3 cc3]) (by simp[results,Tryz.results264,go_sem,kc]) rfl ⟨_,rfl,⟨_,_,_,_,_,_,_,_,_,_,_,HXE3.out,rfl,HUY.out⟩,HYR.out,HYF.out⟩
  ·have h0':(oo==0)=false:=by simpa using h0
   have HCH:Hid (∀V,RdAt F V g r1→Calls Tryz.prog 109 #[.pointer (some ⟨g,0,none⟩),.slice (some ⟨V.heap.size,0,none⟩) 6 6] (V.alloc (.cells #[.string ⟨#[61]⟩,.int .i64 3,.string ⟨#[60,62]⟩,.int .i64 4,.string ⟨#[60]⟩,.int .i64 5,.string ⟨#[60,61]⟩,.int .i64 6,.string ⟨#[62]⟩,.int .i64 7,.string ⟨#[62,61]⟩,.int .i64 8] 155)) fun e w'=>e = .returned (.int .i64 oo)∧RdAt F w' g q∧Fr g V w'):=hid (fun V hV=>by
    have:=choose_new F g r1 cmpsB (by decide) V hV
    rw[hq] at this
    exact this)
   have hYY:=hto q oo hi' hq h0
   have hEq:Enough n q:=by
    have:=hE1.after (nice_choose (b:=false) cmpsB (fun e=>by cases e)) trivial hG1
    rw[hq] at this
    exact this
   have HPQ:=hid (fun V (hV:RdAt F V g q)=>hs g q V hV hEq)
   generalize (ps q).1=xn at HPQ hYY
   generalize (ps q).2=rn at HPQ hYY
   simp only[Prod.mk.injEq] at hYY
   obtain⟨rfl,rfl⟩:=hYY
   clear hi hi' hti htn hto hE hE1 hs hN hG1 hq hEq h0
   go_enter Tryz.func264,Tryz.ntmps264
   go_wp2_with fail
   try rw[hW]
   clear hW
   refine HS.out.mono ?_
   rintro e w1 ⟨u,rfl,hu,hr1,hf1⟩
   have HU:=hid hu
   obtain⟨k3,op3,tb3,nm3,vk3,vn3,vs3,ys3,aa3,nn3,cc3,hxe3,rfl,ha3⟩:=hu
   have HXE3:=hid hxe3
   have hz1:=hf1.size
   obtain⟨V,hV,hbV,hzV,hcV⟩:=box8 w1 (.cells #[.int .i64 k3,.int .i64 op3,.string (str8 tb3),.string (str8 nm3),.int .i64 vk3,.int .i64 vn3,.string (str8 vs3),.slice aa3 nn3 cc3] 130)
   have HRV:=hid (hr1.below hbV)
   have HFV:=hid ((HF.out.then hf1).thenNew hbV)
   have HBV:=hid ((hbV.block w.heap.size (by omega)).trans ((hf1.block w.heap.size hzW (by omega)).trans HCW.out))
   have HEV:=hid hcV
   have HUV:Hid (ArgsAt (fun b=>w.heap.size≤b∧b≠w.heap.size∧b≠w1.heap.size) V ys3 (.slice aa3 nn3 cc3)):=hid (ha3.to (R:=fun _=>False) (Spares.of_new hbV) (fun b hb hlt=>⟨id,by omega,by omega,by omega⟩))
   have HSK1:=hid (HSK.out V HRV.out)
   clear hr1 hf1 hbV hcV HS ha3 hxe3 HU HSK
   go_wp2_with fail
   try rw[hV]
   clear hV
   refine HSK1.out.mono ?_
   rintro e w2 ⟨rfl,hr2,hf2⟩
   have hz2:=hf2.size
   have HR2:=hid hr2
   have HF2:=hid (HFV.out.then hf2)
   have HB2:=hid ((hf2.block w.heap.size (by omega) (by omega)).trans HBV.out)
   have HE2:=hid ((hf2.block w1.heap.size (by omega) (by omega)).trans HEV.out)
   have HU2:=hid (HUV.out.to (T:=fun b=>w.heap.size≤b∧b≠w.heap.size∧b≠w1.heap.size) hf2 (fun b hb _=>⟨by omega,hb⟩))
   clear hr2 hf2 HSK1 HRV HFV HBV HEV HUV
   go_wp2_with fail
   refine (HCH.out w2 HR2.out).mono ?_
   rintro e w3 ⟨rfl,hr3,hf3⟩
   have hz3:=hf3.size
   have HR3:=hid hr3
   have HF3:=hid (HF2.out.then hf3)
   have HB3:=hid ((hf3.block w.heap.size (by omega) (by omega)).trans HB2.out)
   have HE3:=hid ((hf3.block w1.heap.size (by omega) (by omega)).trans HE2.out)
   have HU3:=hid (HU2.out.to (T:=fun b=>w.heap.size≤b∧b≠w.heap.size∧b≠w1.heap.size) hf3 (fun b hb _=>⟨by omega,hb⟩))
   clear hr3 hf3 HCH
   have k1:=cells8f HE3.out
   have hw1r:w1.heap.size<w3.heap.size:=World.lt_of_block HE3.out
   have hw0r:w.heap.size<w3.heap.size:=World.lt_of_block HB3.out
   have hww:w.heap.size<w1.heap.size:=by omega
   have HPQ3:=hid (HPQ.out w3.drew (HR3.out.below (Below.refl _ w3).drew))
   clear HPQ HR2 HF2 HB2 HE2 HU2
   go_wp2_with fail
   go_region_with (first
    | (
       go_at_call 280;refine HPQ3.out.mono ?_
       rintro e w4 ⟨u,rfl,hu,hr4,hf4⟩
       obtain⟨k4,op4,tb4,nm4,vk4,vn4,vs4,ys4,aa4,nn4,cc4,hxe4,rfl,ha4⟩:=hu
       have k14:=cells8f ((hf4.block w1.heap.size hw1r (by omega)).trans HE3.out)
       have hb0a:=fun o=>(Below.heap_alloc w4 o w.heap.size (Nat.lt_of_lt_of_le hw0r hf4.size)).trans ((hf4.block w.heap.size hw0r (by omega)).trans HB3.out)
       have k04a:=fun o=>cells8f (hb0a o)
       have HB04:=hid hb0a
       have HU4:=hid ha4
       have HXE4:=hid hxe4
       have HR4:=hid hr4
       have HFR4:=hid hf4
       clear hr4 hf4 hb0a ha4 hxe4)
    | fail)
   all_goals
    obtain⟨U,hU,hbU,hzU,hcU⟩:=box8 w4 (.cells #[.int .i64 k3,.int .i64 op3,.string (str8 tb3),.string (str8 nm3),.int .i64 vk3,.int .i64 vn3,.string (str8 vs3),.slice aa3 nn3 cc3,.int .i64 k4,.int .i64 op4,.string (str8 tb4),.string (str8 nm4),.int .i64 vk4,.int .i64 vn4,.string (str8 vs4),.slice aa4 nn4 cc4] 130)
    have hB0U:=HB04.out (.cells #[.int .i64 k3,.int .i64 op3,.string (str8 tb3),.string (str8 nm3),.int .i64 vk3,.int .i64 vn3,.string (str8 vs3),.slice aa3 nn3 cc3,.int .i64 k4,.int .i64 op4,.string (str8 tb4),.string (str8 nm4),.int .i64 vk4,.int .i64 vn4,.string (str8 vs4),.slice aa4 nn4 cc4] 130)
    rw[hU] at hB0U ⊢
    clear hU
    rw[set8 hB0U]
    have hz4:w3.heap.size≤w4.heap.size:=HFR4.out.size
    have hF4:Fr g w3 w4:=(Spares.of_new (S:=fun k=>k=g) (Below.refl _ w3).drew).then HFR4.out
    have hFU:Fr g w U:=(HF3.out.then hF4).thenNew hbU
    obtain⟨Z,hZ,hZB,hZs,hZR,hZF⟩:=put_box (w:=w) #[.int .i64 3,.int .i64 oo,.string ⟨#[]⟩,.string ⟨#[]⟩,.int .i64 0,.int .i64 0,.string ⟨#[]⟩,.slice (some ⟨w4.heap.size,0,none⟩) 2 2] hB0U (Nat.le_refl _) hgw (HR4.out.below hbU) hFU
    rw[hZ]
    clear hZ
    have HZA:Hid (ArgsAt (fun b=>w.heap.size≤b) Z [.mk k3 op3 tb3 nm3 ⟨vk3,vn3,vs3⟩ ys3,.mk k4 op4 tb4 nm4 ⟨vk4,vn4,vs4⟩ ys4] (.slice (some ⟨w4.heap.size,0,none⟩) 2 2)):=hid (by
      refine args_two (t:=130) (show w.heap.size≤w4.heap.size by omega) ((hZs.block w4.heap.size hzU (by omega)).trans hcU) ?_ ?_
      · exact ((HU3.out.to (T:=fun b=>w.heap.size≤b∧b≠w.heap.size∧b≠w1.heap.size) hF4 (fun b hb _=>⟨by omega,hb⟩)).to (R:=fun _=>False) (T:=fun b=>w.heap.size≤b∧b≠w.heap.size∧b≠w1.heap.size) (Spares.of_new hbU) (fun b hb _=>⟨id,hb⟩)).to hZs (fun b hb _=>⟨hb.2.1,hb.1⟩)
      · exact (HU4.out.to (R:=fun _=>False) (T:=fun b=>w.heap.size≤b∧b≠w.heap.size∧b≠w1.heap.size) (Spares.of_new hbU) (fun b hb _=>by have hb':w3.heap.size≤b:=hb;exact⟨id,by omega,by omega,by omega⟩)).to hZs (fun b hb _=>⟨hb.2.1,hb.1⟩))
    have HZF:=hid hZF
    have HZR:=hid hZR
    have kc:=cells8 hZB
    clear hZs hZR hZF hB0U hcU hbU hFU hF4 k14 k04a HB04 HU4 HFR4 HR4 HU3 k1
    go_wp2
    exact bodyPost_ret (v:=.agg #[.int .i64 3,.int .i64 oo,.string ⟨#[]⟩,.string ⟨#[]⟩,.int .i64 0,.int .i64 0,.string ⟨#[]⟩,.slice (some ⟨w4.heap.size,0,none⟩) 2 2]) (by simp[results,Tryz.results264,go_sem,kc]) rfl ⟨_,rfl,⟨3,oo,[],[],0,0,[],_,_,_,_,by rw[HXE3.out,HXE4.out];rfl,rfl,HZA.out⟩,HZR.out,HZF.out⟩
end Go.Proofs.YtaaggohjmhifbaaGreatDoor
