/- Packed for the hand-in: PItemB -/
import Derived.Test.YtaaggohjmhifbaaGreatDoorP26
namespace Go.Proofs.YtaaggohjmhifbaaGreatDoor
open Go.RowKit Go.Shelf
set_option linter.unusedSimpArgs false
set_option linter.unusedVariables false
set_option maxRecDepth 20000
set_option maxHeartbeats 8000000
theorem it_star {ex:Pa Ex} {r:Rd} (h:isR [42] r=true):itemP ex r=(⟨1,[]⟩,nextR r):=by
 unfold itemP ifP
 rw[if_pos h]
 rfl
theorem it_expr {ex:Pa Ex} {r q:Rd} (h:isR [42] r=false) (hc:chooseP itemsB r=(0,q)):itemP ex r=(⟨2,[(ex q).1]⟩,(ex q).2):=by
 unfold itemP ifP bindP
 rw[if_neg (by rw[h];exact Bool.false_ne_true),hc]
 rfl
theorem it_rows {ex:Pa Ex} {r q:Rd} (h:isR [42] r=false) (hc:chooseP itemsB r=(4,q)) (hs:isR [42] (mustsP [[40]] q).2=true):itemP ex r=(⟨3,[]⟩,(mustsP [[41]] (nextR (mustsP [[40]] q).2)).2):=by
 have hs':isR [42] (mustP [40] q).2=true:=hs
 have e:skipP [42] (mustP [40] q).2=(true,nextR (mustP [40] q).2):=by rw[skipP_eq,hs'];unfold skipR;rw[if_pos hs']
 unfold itemP ifP bindP
 rw[if_neg (by rw[h];exact Bool.false_ne_true),hc]
 dsimp only
 rw[if_neg (by decide),if_pos rfl,e]
 rfl
theorem it_fn {ex:Pa Ex} {r q:Rd} {k:Int} (h:isR [42] r=false) (hc:chooseP itemsB r=(k,q)) (h0:k≠0) (hs:k≠4∨isR [42] (mustsP [[40]] q).2=false):itemP ex r=(⟨k,[(ex (mustsP [[40]] q).2).1]⟩,(mustsP [[41]] (ex (mustsP [[40]] q).2).2).2):=by
 unfold itemP ifP bindP
 rw[if_neg (by rw[h];exact Bool.false_ne_true),hc]
 dsimp only
 rw[if_neg h0]
 have e:((if k=4 then skipP [42] else retP false) (mustP [40] q).2)=(false,(mustP [40] q).2):=by
  split
  ·rename_i h4
   have hs':isR [42] (mustP [40] q).2=false:=by
    rcases hs with hs | hs
    ·exact absurd h4 hs
    ·exact hs
   rw[skipP_eq,hs'];unfold skipR;rw[if_neg (by rw[hs'];exact Bool.false_ne_true)]
  ·rfl
 rw[e]
 rfl
theorem item_any (F:Nat) (ex:Pa Ex) (hx:RdsE F D0 116 ex) (hN:Nice false F ex):RdsX F ItE 188 (itemP ex):=fun g r w h hD=>by
 have hgw:=h.lt
 have hG:=h.good
 obtain⟨w0,hW,hbW,hzW,hcW⟩:=box8 w (.cells #[.int .i64 0,.slice none 0 0] 135)
 have HCW:=hid hcW
 have HR0:=hid (h.below hbW)
 have HF0:=hid (Spares.of_new (S:=fun k=>k=g) hbW)
 obtain⟨⟨Y1,Y2⟩,hY⟩:∃Y,itemP ex r=Y:=⟨_,rfl⟩
 have q1:=it_star (ex:=ex) (r:=r)
 have q2:=fun q=>it_expr (ex:=ex) (r:=r) (q:=q)
 have q3:=fun q=>it_rows (ex:=ex) (r:=r) (q:=q)
 have q4:=fun q k=>it_fn (ex:=ex) (r:=r) (q:=q) (k:=k)
 rw[hY] at q1 q2 q3 q4 ⊢
 dsimp only
 clear hY h hcW hbW
 by_cases hs:isR [42] r=true
 ·have hYY:=q1 hs
  simp only[Prod.mk.injEq] at hYY
  obtain⟨rfl,rfl⟩:=hYY
  have HS:Hid (∀V,RdAt F V g r→Calls Tryz.prog 118 #[.pointer (some ⟨g,0,none⟩),.string ⟨#[42]⟩] V fun e w'=>e = .returned (.bool true)∧RdAt F w' g (nextR r)∧Fr g V w'):=hid (fun V hV=>skip_yes F g r V hV [42] hs)
  clear q1 q2 q3 q4 hs hx hN hD hG
  go_enter Tryz.func188,Tryz.ntmps188
  go_wp2_with fail
  try rw[hW]
  clear hW
  refine (HS.out w0 HR0.out).mono ?_
  rintro e w1 ⟨rfl,hr1,hf1⟩
  have hz1:=hf1.size
  have HR1:=hid hr1
  have HF1:=hid (HF0.out.then hf1)
  have HB1:=hid ((hf1.block w.heap.size hzW (by omega)).trans HCW.out)
  clear hr1 hf1 HS
  have hall:(#[.int .i64 1,.slice none 0 0]:Array Value).all (·.oneCell')=true:=by simp[Value.oneCell']
  go_wp2_with (first
   | (
     refine wpList_store_row rfl 135 (.tmp 2) (.tmp 7) rfl w.heap.size #[.int .i64 1,.slice none 0 0] rfl rfl 135 _ HB1.out Tryz.itemInfo rfl hall ?_
     obtain⟨Z,hZ,hZB,hZs,hZR,hZF⟩:=put_box (w:=w) #[.int .i64 1,.slice none 0 0] HB1.out (Nat.le_refl _) hgw HR1.out HF1.out
     rw[hZ]
     clear hZ)
   | fail)
  have kc:=cells2 hZB
  refine bodyPost_ret (v:=.agg #[.int .i64 1,.slice none 0 0]) (by simp[results,Tryz.results188,go_sem,kc]) rfl ⟨_,rfl,?_,hZR,hZF⟩
  exact⟨none,0,0,rfl,.nil _ _ (by unfold maxLen;omega)⟩
 ·have hs:isR [42] r=false:=by simpa using hs
  have HS:Hid (∀V,RdAt F V g r→Calls Tryz.prog 118 #[.pointer (some ⟨g,0,none⟩),.string ⟨#[42]⟩] V fun e w'=>e = .returned (.bool false)∧RdAt F w' g r∧Fr g V w'):=hid (fun V hV=>skip_no F g r V hV [42] hs)
  obtain⟨⟨k,q⟩,hq⟩:∃x,chooseP itemsB r=x:=⟨_,rfl⟩
  have hDq:=hD.after (nice_choose (b:=false) itemsB (fun e=>by cases e)) hG
  have hGq:=(nice_choose (b:=false) (F:=F) itemsB (fun e=>by cases e)).fine r trivial hG
  rw[hq] at hDq hGq
  have hGg:=hGq.1
  clear hGq
  dsimp only at hDq hGg
  by_cases h0:k=0
  ·subst h0
   have HC:Hid (∀V,RdAt F V g r→Calls Tryz.prog 109 #[.pointer (some ⟨g,0,none⟩),.slice (some ⟨V.heap.size,0,none⟩) 4 4] (V.alloc (.cells #[.string ⟨#[67,79,85,78,84]⟩,.int .i64 4,.string ⟨#[83,85,77]⟩,.int .i64 5,.string ⟨#[77,73,78]⟩,.int .i64 6,.string ⟨#[77,65,88]⟩,.int .i64 7] 155)) fun e w'=>e = .returned (.int .i64 (chooseP itemsB r).1)∧RdAt F w' g (chooseP itemsB r).2∧Fr g V w'):=hid (fun V hV=>choose_new F g r itemsB (by decide) V hV)
   rw[hq] at HC
   dsimp only at HC
   have hYY:=q2 q hs hq
   have HX:=hid (fun V (hV:RdAt F V g q)=>hx g q V hV hDq)
   generalize (ex q).1=y1 at HX hYY
   generalize (ex q).2=y2 at HX hYY
   simp only[Prod.mk.injEq] at hYY
   obtain⟨rfl,rfl⟩:=hYY
   clear q1 q2 q3 q4 hs hx hN hD hG hq hDq hGg
   go_enter Tryz.func188,Tryz.ntmps188
   go_wp2_with fail
   try rw[hW]
   clear hW
   refine (HS.out w0 HR0.out).mono ?_
   rintro e w1 ⟨rfl,hr1,hf1⟩
   have hz1:=hf1.size
   have HR1:=hid hr1
   have HF1:=hid (HF0.out.then hf1)
   have HB1:=hid ((hf1.block w.heap.size hzW (by omega)).trans HCW.out)
   clear hr1 hf1 HS
   go_wp2_with fail
   refine (HC.out w1 HR1.out).mono ?_
   rintro e w2 ⟨rfl,hr2,hf2⟩
   have hz2:=hf2.size
   have HR2:=hid hr2
   have HF2:=hid (HF1.out.then hf2)
   have HB2:=hid ((hf2.block w.heap.size (by omega) (by omega)).trans HB1.out)
   clear hr2 hf2 HC
   go_wp2_with fail
   refine (HX.out w2 HR2.out).mono ?_
   rintro e w3 ⟨u,rfl,hu,hr3,hf3⟩
   obtain⟨k3,op3,tb3,nm3,vk3,vn3,vs3,ys3,aa3,nn3,cc3,hxe,rfl,ha3⟩:=hu
   have hz3:=hf3.size
   obtain⟨U,hU,hbU,hzU,hcU⟩:=box8 w3 (.cells #[.int .i64 k3,.int .i64 op3,.string (str8 tb3),.string (str8 nm3),.int .i64 vk3,.int .i64 vn3,.string (str8 vs3),.slice aa3 nn3 cc3] 130)
   have HRU:=hid (hr3.below hbU)
   have HFU:=hid ((HF2.out.then hf3).thenNew hbU)
   have HBU:=hid ((hbU.block w.heap.size (by omega)).trans ((hf3.block w.heap.size (by omega) (by omega)).trans HB2.out))
   have HCU:=hid hcU
   have HAU:=hid (ha3.to (R:=fun _=>False) (T:=fun b=>w2.heap.size≤b) (Spares.of_new hbU) (fun b hb _=>⟨id,hb⟩))
   have HXE:=hid hxe
   clear hr3 hf3 hbU hcU ha3 hxe HX
   have hall:(#[.int .i64 2,.slice (some ⟨w3.heap.size,0,none⟩) 1 1]:Array Value).all (·.oneCell')=true:=by simp[Value.oneCell']
   go_wp2_with (first
    | (
       refine wpList_store_row rfl 135 (.tmp 2) (.tmp 20) rfl w.heap.size #[.int .i64 2,.slice (some ⟨w3.heap.size,0,none⟩) 1 1] rfl rfl 135 _ HBU.out Tryz.itemInfo rfl hall ?_
       obtain⟨Z,hZ,hZB,hZs,hZR,hZF⟩:=put_box (w:=w) #[.int .i64 2,.slice (some ⟨w3.heap.size,0,none⟩) 1 1] HBU.out (Nat.le_refl _) hgw HRU.out HFU.out
       rw[hZ]
       clear hZ)
    | fail)
   have kc:=cells2 hZB
   refine bodyPost_ret (v:=.agg #[.int .i64 2,.slice (some ⟨w3.heap.size,0,none⟩) 1 1]) (by simp[results,Tryz.results188,go_sem,kc]) rfl ⟨_,rfl,?_,hZR,hZF⟩
   refine ⟨_,1,1,rfl,?_⟩
   dsimp only
   rw[HXE.out]
   exact args_one (show w.heap.size≤w3.heap.size by omega) ((hZs.block w3.heap.size hzU (by omega)).trans HCU.out) (HAU.out.to hZs (fun b hb _=>⟨by omega,by omega⟩))
  ·by_cases h4:k=4
   ·subst h4
    clear h0
    have HC:Hid (∀V,RdAt F V g r→Calls Tryz.prog 109 #[.pointer (some ⟨g,0,none⟩),.slice (some ⟨V.heap.size,0,none⟩) 4 4] (V.alloc (.cells #[.string ⟨#[67,79,85,78,84]⟩,.int .i64 4,.string ⟨#[83,85,77]⟩,.int .i64 5,.string ⟨#[77,73,78]⟩,.int .i64 6,.string ⟨#[77,65,88]⟩,.int .i64 7] 155)) fun e w'=>e = .returned (.int .i64 (chooseP itemsB r).1)∧RdAt F w' g (chooseP itemsB r).2∧Fr g V w'):=hid (fun V hV=>choose_new F g r itemsB (by decide) V hV)
    rw[hq] at HC
    dsimp only at HC
    have HM:Hid (∀V,RdAt F V g q→Calls Tryz.prog 111 #[.pointer (some ⟨g,0,none⟩),.slice (some ⟨V.heap.size,0,none⟩) 1 1] (V.alloc (.cells #[.string ⟨#[40]⟩] 9)) fun e w'=>e = .returned (.tuple #[])∧RdAt F w' g (mustsP [[40]] q).2∧Fr g V w'):=hid (fun V hV=>must_new F g q [[40]] (by decide) V hV)
    have hD3:=hDq.after (nice_musts (b:=false) [[40]]) hGg
    obtain⟨r2,hr2e⟩:∃x,(mustsP [[40]] q).2=x:=⟨_,rfl⟩
    rw[hr2e] at HM hD3
    cases hs2:isR [42] (mustsP [[40]] q).2 with
    |
      true =>
      have hYY:=q3 q hs hq hs2
      rw[hr2e] at hYY hs2
      have HS2:Hid (∀V,RdAt F V g r2→Calls Tryz.prog 118 #[.pointer (some ⟨g,0,none⟩),.string ⟨#[42]⟩] V fun e w'=>e = .returned (.bool true)∧RdAt F w' g (nextR r2)∧Fr g V w'):=hid (fun V hV=>skip_yes F g r2 V hV [42] hs2)
      have HN:Hid (∀V,RdAt F V g (nextR r2)→Calls Tryz.prog 111 #[.pointer (some ⟨g,0,none⟩),.slice (some ⟨V.heap.size,0,none⟩) 1 1] (V.alloc (.cells #[.string ⟨#[41]⟩] 9)) fun e w'=>e = .returned (.tuple #[])∧RdAt F w' g (mustsP [[41]] (nextR r2)).2∧Fr g V w'):=hid (fun V hV=>must_new F g (nextR r2) [[41]] (by decide) V hV)
      generalize (mustsP [[41]] (nextR r2)).2=r4 at HN hYY
      simp only[Prod.mk.injEq] at hYY
      obtain⟨rfl,rfl⟩:=hYY
      clear q1 q2 q3 q4 hs hs2 hx hN hD hG hq hDq hGg hD3 hr2e
      go_enter Tryz.func188,Tryz.ntmps188
      go_wp2_with fail
      try rw[hW]
      clear hW
      refine (HS.out w0 HR0.out).mono ?_
      rintro e w1 ⟨rfl,hr1,hf1⟩
      have hz1:=hf1.size
      have HR1:=hid hr1
      have HF1:=hid (HF0.out.then hf1)
      have HB1:=hid ((hf1.block w.heap.size hzW (by omega)).trans HCW.out)
      clear hr1 hf1 HS
      go_wp2_with fail
      refine (HC.out w1 HR1.out).mono ?_
      rintro e w2 ⟨rfl,hr2,hf2⟩
      have hz2:=hf2.size
      have HR2:=hid hr2
      have HF2:=hid (HF1.out.then hf2)
      have HB2:=hid ((hf2.block w.heap.size (by omega) (by omega)).trans HB1.out)
      clear hr2 hf2 HC
      go_wp2_with fail
      refine (HM.out w2 HR2.out).mono ?_
      rintro e w3 ⟨rfl,hr3,hf3⟩
      have hz3:=hf3.size
      have HR3:=hid hr3
      have HF3:=hid (HF2.out.then hf3)
      have HB3:=hid ((hf3.block w.heap.size (by omega) (by omega)).trans HB2.out)
      clear hr3 hf3 HM
      go_wp2_with fail
      obtain⟨V3,hV3,hbV3,hzV3,hcV3⟩:=box8 w3 (.cells #[.int .i64 4,.slice none 0 0] 135)
      rw[hV3]
      have HRV:=hid (HR3.out.below hbV3)
      have HFV:=hid (HF3.out.thenNew hbV3)
      have HBV:=hid ((hbV3.block w.heap.size (by omega)).trans HB3.out)
      have HEV:=hid hcV3
      clear hV3 hbV3 hcV3
      refine (HS2.out V3 HRV.out).mono ?_
      rintro e w4 ⟨rfl,hr4,hf4⟩
      have hz4:=hf4.size
      have HR4:=hid hr4
      have HF4:=hid (HFV.out.then hf4)
      have HB4:=hid ((hf4.block w.heap.size (by omega) (by omega)).trans HBV.out)
      have HE4:=hid ((hf4.block w3.heap.size (by omega) (by omega)).trans HEV.out)
      clear hr4 hf4 HS2
      have k4:=cells2 HE4.out
      obtain⟨V4,hV4,hcV4,hsV4⟩:=boxset HE4.out 0 (.int .i64 3)
      have hcV4:V4.heap[w3.heap.size]?=some (.cells #[.int .i64 3,.slice none 0 0] 135):=hcV4
      have hzV4:=hsV4.size
      have HRV4:=hid (HR4.out.keeps hsV4 (fun i hi e=>by omega))
      have HFV4:Hid (Fr g w V4):=hid (HF4.out.andThen hsV4 (fun i hi=>.inr (by omega)))
      have HBV4:=hid ((hsV4.block w.heap.size (by omega) (by omega)).trans HB4.out)
      have HEV4:=hid hcV4
      clear hcV4 hsV4
      go_wp2_with fail
      clear hV4 k4
      refine (HN.out V4 HRV4.out).mono ?_
      rintro e w5 ⟨rfl,hr5,hf5⟩
      have hz5:=hf5.size
      have HR5:=hid hr5
      have HF5:=hid (HFV4.out.then hf5)
      have HB5:=hid ((hf5.block w.heap.size (by omega) (by omega)).trans HBV4.out)
      have k5:=cells2 ((hf5.block w3.heap.size (by omega) (by omega)).trans HEV4.out)
      clear hr5 hf5 HN
      have hall:(#[.int .i64 3,.slice none 0 0]:Array Value).all (·.oneCell')=true:=by simp[Value.oneCell']
      go_wp2_with (first
        | (
          refine wpList_store_row rfl 135 (.tmp 2) (.tmp 40) rfl w.heap.size #[.int .i64 3,.slice none 0 0] rfl rfl 135 _ HB5.out Tryz.itemInfo rfl hall ?_
          obtain⟨Z,hZ,hZB,hZs,hZR,hZF⟩:=put_box (w:=w) #[.int .i64 3,.slice none 0 0] HB5.out (Nat.le_refl _) hgw HR5.out HF5.out
          rw[hZ]
          clear hZ)
        | fail)
      have kc:=cells2 hZB
      refine bodyPost_ret (v:=.agg #[.int .i64 3,.slice none 0 0]) (by simp[results,Tryz.results188,go_sem,kc]) rfl ⟨_,rfl,?_,hZR,hZF⟩
      exact⟨none,0,0,rfl,.nil _ _ (by unfold maxLen;omega)⟩
    |
      false =>
      have hYY:=q4 q 4 hs hq (by first | decide | exact h0) (.inr hs2)
      rw[hr2e] at hYY
      rw[hr2e] at hs2
      have HS2:Hid (∀V,RdAt F V g r2→Calls Tryz.prog 118 #[.pointer (some ⟨g,0,none⟩),.string ⟨#[42]⟩] V fun e w'=>e = .returned (.bool false)∧RdAt F w' g r2∧Fr g V w'):=hid (fun V hV=>skip_no F g r2 V hV [42] hs2)
      have HX:=hid (fun V (hV:RdAt F V g r2)=>hx g r2 V hV hD3)
      generalize (ex r2).1=y1 at HX hYY
      generalize (ex r2).2=y2 at HX hYY
      have HN:Hid (∀V,RdAt F V g y2→Calls Tryz.prog 111 #[.pointer (some ⟨g,0,none⟩),.slice (some ⟨V.heap.size,0,none⟩) 1 1] (V.alloc (.cells #[.string ⟨#[41]⟩] 9)) fun e w'=>e = .returned (.tuple #[])∧RdAt F w' g (mustsP [[41]] y2).2∧Fr g V w'):=hid (fun V hV=>must_new F g y2 [[41]] (by decide) V hV)
      generalize (mustsP [[41]] y2).2=r4 at HN hYY
      simp only[Prod.mk.injEq] at hYY
      obtain⟨rfl,rfl⟩:=hYY
      clear q1 q2 q3 q4 hs hs2 hx hN hD hG hq hDq hGg hD3 hr2e
      go_enter Tryz.func188,Tryz.ntmps188
      go_wp2_with fail
      try rw[hW]
      clear hW
      refine (HS.out w0 HR0.out).mono ?_
      rintro e w1 ⟨rfl,hr1,hf1⟩
      have hz1:=hf1.size
      have HR1:=hid hr1
      have HF1:=hid (HF0.out.then hf1)
      have HB1:=hid ((hf1.block w.heap.size hzW (by omega)).trans HCW.out)
      clear hr1 hf1 HS
      go_wp2_with fail
      refine (HC.out w1 HR1.out).mono ?_
      rintro e w2 ⟨rfl,hr2,hf2⟩
      have hz2:=hf2.size
      have HR2:=hid hr2
      have HF2:=hid (HF1.out.then hf2)
      have HB2:=hid ((hf2.block w.heap.size (by omega) (by omega)).trans HB1.out)
      clear hr2 hf2 HC
      go_wp2_with fail
      refine (HM.out w2 HR2.out).mono ?_
      rintro e w3 ⟨rfl,hr3,hf3⟩
      have hz3:=hf3.size
      have HR3:=hid hr3
      have HF3:=hid (HF2.out.then hf3)
      have HB3:=hid ((hf3.block w.heap.size (by omega) (by omega)).trans HB2.out)
      clear hr3 hf3 HM
      go_wp2_with fail
      obtain⟨V3,hV3,hbV3,hzV3,hcV3⟩:=box8 w3 (.cells #[.int .i64 4,.slice none 0 0] 135)
      rw[hV3]
      have HRV:=hid (HR3.out.below hbV3)
      have HFV:=hid (HF3.out.thenNew hbV3)
      have HBV:=hid ((hbV3.block w.heap.size (by omega)).trans HB3.out)
      have HEV:=hid hcV3
      clear hV3 hbV3 hcV3
      refine (HS2.out V3 HRV.out).mono ?_
      rintro e w4 ⟨rfl,hr4,hf4⟩
      have hz4:=hf4.size
      have HR4:=hid hr4
      have HF4:=hid (HFV.out.then hf4)
      have HB4:=hid ((hf4.block w.heap.size (by omega) (by omega)).trans HBV.out)
      have HE4:=hid ((hf4.block w3.heap.size (by omega) (by omega)).trans HEV.out)
      clear hr4 hf4 HS2
      go_wp2_with fail
      refine (HX.out w4 HR4.out).mono ?_
      rintro e w5 ⟨u,rfl,hu,hr5,hf5⟩
      obtain⟨k3,op3,tb3,nm3,vk3,vn3,vs3,ys3,aa3,nn3,cc3,hxe,rfl,ha3⟩:=hu
      have hz5:=hf5.size
      obtain⟨U,hU,hbU,hzU,hcU⟩:=box8 w5 (.cells #[.int .i64 k3,.int .i64 op3,.string (str8 tb3),.string (str8 nm3),.int .i64 vk3,.int .i64 vn3,.string (str8 vs3),.slice aa3 nn3 cc3] 130)
      have hEU:=(hbU.block w3.heap.size (by omega)).trans ((hf5.block w3.heap.size (by omega) (by omega)).trans HE4.out)
      have kU:=cells2 hEU
      obtain⟨V6,hV6,hcV6,hsV6⟩:=boxset hEU 1 (.slice (some ⟨w5.heap.size,0,none⟩) 1 1)
      have hcV6:V6.heap[w3.heap.size]?=some (.cells #[.int .i64 4,.slice (some ⟨w5.heap.size,0,none⟩) 1 1] 135):=hcV6
      have hzV6:=hsV6.size
      have HRV6:=hid ((hr5.below hbU).keeps hsV6 (fun i hi e=>by omega))
      have HFV6:Hid (Fr g w V6):=hid (((HF4.out.then hf5).thenNew hbU).andThen hsV6 (fun i hi=>.inr (by omega)))
      have HBV6:=hid ((hsV6.block w.heap.size (by omega) (by omega)).trans ((hbU.block w.heap.size (by omega)).trans ((hf5.block w.heap.size (by omega) (by omega)).trans HB4.out)))
      have HEV6:=hid hcV6
      have HAV6:Hid (ArgsAt (fun b=>w.heap.size≤b∧b≠w.heap.size∧b≠g) V6 [y1] (.slice (some ⟨w5.heap.size,0,none⟩) 1 1)):=hid (by
        rw[hxe]
        exact args_one (t:=130) ⟨by omega,by omega,by omega⟩ ((hsV6.block w5.heap.size hzU (by omega)).trans hcU) ((ha3.to (R:=fun _=>False) (T:=fun b=>w4.heap.size≤b) (Spares.of_new hbU) (fun b hb _=>⟨id,hb⟩)).to hsV6 (fun b hb _=>⟨by omega,by omega,by omega,by omega⟩)))
      clear hr5 hf5 hbU hcU hEU hcV6 hsV6 ha3 hxe HX
      go_wp2_with fail
      clear hV6 hU kU
      refine (HN.out V6 HRV6.out).mono ?_
      rintro e w7 ⟨rfl,hr7,hf7⟩
      have hz7:=hf7.size
      have HR7:=hid hr7
      have HF7:=hid (HFV6.out.then hf7)
      have HB7:=hid ((hf7.block w.heap.size (by omega) (by omega)).trans HBV6.out)
      have k7:=cells2 ((hf7.block w3.heap.size (by omega) (by omega)).trans HEV6.out)
      have HA7:=hid (HAV6.out.to (T:=fun b=>w.heap.size≤b∧b≠w.heap.size) hf7 (fun b hb _=>⟨hb.2.2,hb.1,hb.2.1⟩))
      clear hr7 hf7 HN
      have hall:(#[.int .i64 4,.slice (some ⟨w5.heap.size,0,none⟩) 1 1]:Array Value).all (·.oneCell')=true:=by simp[Value.oneCell']
      go_wp2_with (first
        | (
          refine wpList_store_row rfl 135 (.tmp 2) (.tmp 40) rfl w.heap.size #[.int .i64 4,.slice (some ⟨w5.heap.size,0,none⟩) 1 1] rfl rfl 135 _ HB7.out Tryz.itemInfo rfl hall ?_
          obtain⟨Z,hZ,hZB,hZs,hZR,hZF⟩:=put_box (w:=w) #[.int .i64 4,.slice (some ⟨w5.heap.size,0,none⟩) 1 1] HB7.out (Nat.le_refl _) hgw HR7.out HF7.out
          rw[hZ]
          clear hZ)
        | fail)
      have kc:=cells2 hZB
      refine bodyPost_ret (v:=.agg #[.int .i64 4,.slice (some ⟨w5.heap.size,0,none⟩) 1 1]) (by simp[results,Tryz.results188,go_sem,kc]) rfl ⟨_,rfl,?_,hZR,hZF⟩
      exact⟨_,1,1,rfl,HA7.out.to hZs (fun b hb _=>⟨hb.2,hb.1⟩)⟩
   ·have h0':(k==0)=false:=by simpa using h0
    have h4':(k==4)=false:=by simpa using h4
    have HC:Hid (∀V,RdAt F V g r→Calls Tryz.prog 109 #[.pointer (some ⟨g,0,none⟩),.slice (some ⟨V.heap.size,0,none⟩) 4 4] (V.alloc (.cells #[.string ⟨#[67,79,85,78,84]⟩,.int .i64 4,.string ⟨#[83,85,77]⟩,.int .i64 5,.string ⟨#[77,73,78]⟩,.int .i64 6,.string ⟨#[77,65,88]⟩,.int .i64 7] 155)) fun e w'=>e = .returned (.int .i64 (chooseP itemsB r).1)∧RdAt F w' g (chooseP itemsB r).2∧Fr g V w'):=hid (fun V hV=>choose_new F g r itemsB (by decide) V hV)
    rw[hq] at HC
    dsimp only at HC
    have HM:Hid (∀V,RdAt F V g q→Calls Tryz.prog 111 #[.pointer (some ⟨g,0,none⟩),.slice (some ⟨V.heap.size,0,none⟩) 1 1] (V.alloc (.cells #[.string ⟨#[40]⟩] 9)) fun e w'=>e = .returned (.tuple #[])∧RdAt F w' g (mustsP [[40]] q).2∧Fr g V w'):=hid (fun V hV=>must_new F g q [[40]] (by decide) V hV)
    have hD3:=hDq.after (nice_musts (b:=false) [[40]]) hGg
    obtain⟨r2,hr2e⟩:∃x,(mustsP [[40]] q).2=x:=⟨_,rfl⟩
    rw[hr2e] at HM hD3
    have hYY:=q4 q k hs hq (by first | decide | exact h0) (.inl h4)
    rw[hr2e] at hYY
    have HX:=hid (fun V (hV:RdAt F V g r2)=>hx g r2 V hV hD3)
    generalize (ex r2).1=y1 at HX hYY
    generalize (ex r2).2=y2 at HX hYY
    have HN:Hid (∀V,RdAt F V g y2→Calls Tryz.prog 111 #[.pointer (some ⟨g,0,none⟩),.slice (some ⟨V.heap.size,0,none⟩) 1 1] (V.alloc (.cells #[.string ⟨#[41]⟩] 9)) fun e w'=>e = .returned (.tuple #[])∧RdAt F w' g (mustsP [[41]] y2).2∧Fr g V w'):=hid (fun V hV=>must_new F g y2 [[41]] (by decide) V hV)
    generalize (mustsP [[41]] y2).2=r4 at HN hYY
    simp only[Prod.mk.injEq] at hYY
    obtain⟨rfl,rfl⟩:=hYY
    clear q1 q2 q3 q4 hs hx hN hD hG hq hDq hGg hD3 hr2e
    clear h0 h4
    go_enter Tryz.func188,Tryz.ntmps188
    go_wp2_with fail
    try rw[hW]
    clear hW
    refine (HS.out w0 HR0.out).mono ?_
    rintro e w1 ⟨rfl,hr1,hf1⟩
    have hz1:=hf1.size
    have HR1:=hid hr1
    have HF1:=hid (HF0.out.then hf1)
    have HB1:=hid ((hf1.block w.heap.size hzW (by omega)).trans HCW.out)
    clear hr1 hf1 HS
    go_wp2_with fail
    refine (HC.out w1 HR1.out).mono ?_
    rintro e w2 ⟨rfl,hr2,hf2⟩
    have hz2:=hf2.size
    have HR2:=hid hr2
    have HF2:=hid (HF1.out.then hf2)
    have HB2:=hid ((hf2.block w.heap.size (by omega) (by omega)).trans HB1.out)
    clear hr2 hf2 HC
    go_wp2_with fail
    refine (HM.out w2 HR2.out).mono ?_
    rintro e w3 ⟨rfl,hr3,hf3⟩
    have hz3:=hf3.size
    have HR3:=hid hr3
    have HF3:=hid (HF2.out.then hf3)
    have HB3:=hid ((hf3.block w.heap.size (by omega) (by omega)).trans HB2.out)
    clear hr3 hf3 HM
    go_wp2_with fail
    obtain⟨V3,hV3,hbV3,hzV3,hcV3⟩:=box8 w3 (.cells #[.int .i64 k,.slice none 0 0] 135)
    rw[hV3]
    have HRV:=hid (HR3.out.below hbV3)
    have HFV:=hid (HF3.out.thenNew hbV3)
    have HBV:=hid ((hbV3.block w.heap.size (by omega)).trans HB3.out)
    have HEV:=hid hcV3
    clear hV3 hbV3 hcV3
    obtain⟨w4,hw4⟩:∃x,x=V3:=⟨_,rfl⟩
    subst hw4
    have hz4:=Nat.le_refl w4.heap.size
    have HR4:=HRV
    have HF4:=HFV
    have HB4:=HBV
    have HE4:=HEV
    refine (HX.out w4 HR4.out).mono ?_
    rintro e w5 ⟨u,rfl,hu,hr5,hf5⟩
    obtain⟨k3,op3,tb3,nm3,vk3,vn3,vs3,ys3,aa3,nn3,cc3,hxe,rfl,ha3⟩:=hu
    have hz5:=hf5.size
    obtain⟨U,hU,hbU,hzU,hcU⟩:=box8 w5 (.cells #[.int .i64 k3,.int .i64 op3,.string (str8 tb3),.string (str8 nm3),.int .i64 vk3,.int .i64 vn3,.string (str8 vs3),.slice aa3 nn3 cc3] 130)
    have hEU:=(hbU.block w3.heap.size (by omega)).trans ((hf5.block w3.heap.size (by omega) (by omega)).trans HE4.out)
    have kU:=cells2 hEU
    obtain⟨V6,hV6,hcV6,hsV6⟩:=boxset hEU 1 (.slice (some ⟨w5.heap.size,0,none⟩) 1 1)
    have hcV6:V6.heap[w3.heap.size]?=some (.cells #[.int .i64 k,.slice (some ⟨w5.heap.size,0,none⟩) 1 1] 135):=hcV6
    have hzV6:=hsV6.size
    have HRV6:=hid ((hr5.below hbU).keeps hsV6 (fun i hi e=>by omega))
    have HFV6:Hid (Fr g w V6):=hid (((HF4.out.then hf5).thenNew hbU).andThen hsV6 (fun i hi=>.inr (by omega)))
    have HBV6:=hid ((hsV6.block w.heap.size (by omega) (by omega)).trans ((hbU.block w.heap.size (by omega)).trans ((hf5.block w.heap.size (by omega) (by omega)).trans HB4.out)))
    have HEV6:=hid hcV6
    have HAV6:Hid (ArgsAt (fun b=>w.heap.size≤b∧b≠w.heap.size∧b≠g) V6 [y1] (.slice (some ⟨w5.heap.size,0,none⟩) 1 1)):=hid (by
      rw[hxe]
      exact args_one (t:=130) ⟨by omega,by omega,by omega⟩ ((hsV6.block w5.heap.size hzU (by omega)).trans hcU) ((ha3.to (R:=fun _=>False) (T:=fun b=>w4.heap.size≤b) (Spares.of_new hbU) (fun b hb _=>⟨id,hb⟩)).to hsV6 (fun b hb _=>⟨by omega,by omega,by omega,by omega⟩)))
    clear hr5 hf5 hbU hcU hEU hcV6 hsV6 ha3 hxe HX
    go_wp2_with fail
    clear hV6 hU kU
    refine (HN.out V6 HRV6.out).mono ?_
    rintro e w7 ⟨rfl,hr7,hf7⟩
    have hz7:=hf7.size
    have HR7:=hid hr7
    have HF7:=hid (HFV6.out.then hf7)
    have HB7:=hid ((hf7.block w.heap.size (by omega) (by omega)).trans HBV6.out)
    have k7:=cells2 ((hf7.block w3.heap.size (by omega) (by omega)).trans HEV6.out)
    have HA7:=hid (HAV6.out.to (T:=fun b=>w.heap.size≤b∧b≠w.heap.size) hf7 (fun b hb _=>⟨hb.2.2,hb.1,hb.2.1⟩))
    clear hr7 hf7 HN
    have hall:(#[.int .i64 k,.slice (some ⟨w5.heap.size,0,none⟩) 1 1]:Array Value).all (·.oneCell')=true:=by simp[Value.oneCell']
    go_wp2_with (first
      | (
         refine wpList_store_row rfl 135 (.tmp 2) (.tmp 40) rfl w.heap.size #[.int .i64 k,.slice (some ⟨w5.heap.size,0,none⟩) 1 1] rfl rfl 135 _ HB7.out Tryz.itemInfo rfl hall ?_
         obtain⟨Z,hZ,hZB,hZs,hZR,hZF⟩:=put_box (w:=w) #[.int .i64 k,.slice (some ⟨w5.heap.size,0,none⟩) 1 1] HB7.out (Nat.le_refl _) hgw HR7.out HF7.out
         rw[hZ]
         clear hZ)
      | fail)
    have kc:=cells2 hZB
    refine bodyPost_ret (v:=.agg #[.int .i64 k,.slice (some ⟨w5.heap.size,0,none⟩) 1 1]) (by simp[results,Tryz.results188,go_sem,kc]) rfl ⟨_,rfl,?_,hZR,hZF⟩
    exact⟨_,1,1,rfl,HA7.out.to hZs (fun b hb _=>⟨hb.2,hb.1⟩)⟩
end Go.Proofs.YtaaggohjmhifbaaGreatDoor
