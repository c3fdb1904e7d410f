/- Packed for the hand-in: WRightW6 -/
import Derived.Test.YtfeglkleoijlaaaGreatDoorZ22
namespace Go.Proofs.YtfeglkleoijlaaaGreatDoor
open Go.RowKit Go.Shelf
set_option linter.unusedSimpArgs false
set_option linter.unusedVariables false
set_option maxRecDepth 20000
set_option maxHeartbeats 8000000
theorem Ai (w:World) (tn prim jn:List UInt8) (desc:Bool) (lim:Int) (a1 a2 a3 a4 a5 a6 a7 a8:Option Addr) (n1 n2 n3 n4 n5 n6 n7 n8 c1 c2 c3 c4 c5 c6 c7 c8:Nat) (BS BT:Bool)
  (HSL:Hid (∀V,Below w.heap.size w V→Calls Tryz.prog 96 #[.agg #[.int .i64 6,.string (aj tn),.slice a1 n1 c1,.string (aj prim),.slice a2 n2 c2,.slice a3 n3 c3,.slice a4 n4 c4,.string (aj jn),.slice a5 n5 c5,.slice a6 n6 c6,.slice a7 n7 c7,.slice a8 n8 c8,.bool desc,.int .i64 lim]] V fun e w'=>e = .returned (.bool BS)∧Below V.heap.size V w')) (HNT:Hid (∀V,Calls Tryz.prog 90 #[.string (aj tn)] V fun e w'=>e = .returned (.bool BT)∧Below V.heap.size V w')) :
  Calls Tryz.prog 47 #[.agg #[.int .i64 6,.string (aj tn),.slice a1 n1 c1,.string (aj prim),.slice a2 n2 c2,.slice a3 n3 c3,.slice a4 n4 c4,.string (aj jn),.slice a5 n5 c5,.slice a6 n6 c6,.slice a7 n7 c7,.slice a8 n8 c8,.bool desc,.int .i64 lim]] w fun e w'=>e = .returned (.bool (BS&&(BT&&jU n1 prim n2 n3 0 [] 0 0 0 0 false (-1))))∧Below w.heap.size w w':=by
 have HEM:=hid (fun V=>cu (w:=V))
 obtain⟨W,hW,hbW,hzW,hc0,hc1⟩:=eG w 6 tn prim jn desc lim a1 a2 a3 a4 a5 a6 a7 a8 n1 n2 n3 n4 n5 n6 n7 n8 c1 c2 c3 c4 c5 c6 c7 c8
 have q0:=ay hc0
 have q1:=ay hc1
 have q1f:=aO hc1
 have HB:=hid hbW
 have HC0:=hid hc0
 have HC1:=hid hc1
 have hz0:w.heap.size<W.heap.size:=by omega
 clear hbW hc0 hc1
 cases BS with
 |
  true =>
  simp only[Bool.true_and]
  cases BT with
  |
   true =>
   simp only[Bool.true_and]
   go_enter Tryz.func47,Tryz.ntmps47
   go_wp2_with (first | (refine wpList_store_row rfl 29 (.tmp 3) (.tmp 5) rfl (w.heap.size+1) #[.int .i64 6,.string (aj tn),.slice a1 n1 c1,.string (aj prim),.slice a2 n2 c2,.slice a3 n3 c3,.slice a4 n4 c4,.string (aj jn),.slice a5 n5 c5,.slice a6 n6 c6,.slice a7 n7 c7,.slice a8 n8 c8,.bool desc,.int .i64 lim] rfl rfl 29 #[.int .i64 0,.string ⟨#[]⟩,.slice none 0 0,.string ⟨#[]⟩,.slice none 0 0,.slice none 0 0,.slice none 0 0,.string ⟨#[]⟩,.slice none 0 0,.slice none 0 0,.slice none 0 0,.slice none 0 0,.bool false,.int .i64 0] (heap_alloc2_new w _ _) Tryz.dh rfl rfl ?_;rw[aV]) | fail)
   try rw[hW]
   clear hW
   refine (HSL.out W HB.out).mono ?_
   rintro e v1 ⟨rfl,hb⟩
   have BL_v1:=hid (hb)
   have p0:=ay ((BL_v1.out.block w.heap.size hz0).trans HC0.out)
   have p1:=ay ((BL_v1.out.block (w.heap.size+1) hzW).trans HC1.out)
   have p1f:=aO ((BL_v1.out.block (w.heap.size+1) hzW).trans HC1.out)
   clear hb q0 q1 q1f
   obtain⟨Y1,hY1,hYc1,hYs1⟩:=bG [(6,.slice none 0 0)] v1 _ ((BL_v1.out.block (w.heap.size+1) hzW).trans HC1.out)
   simp only[List.foldl_cons,List.foldl_nil] at hY1
   have hYe1:Y1.heap[w.heap.size+1]?=some (.cells #[.int .i64 0,.string ⟨#[]⟩,.slice a1 n1 c1,.string (aj prim),.slice a2 n2 c2,.slice a3 n3 c3,.slice none 0 0,.string (aj jn),.slice a5 n5 c5,.slice a6 n6 c6,.slice a7 n7 c7,.slice a8 n8 c8,.bool desc,.int .i64 lim] 29):=hYc1
   have hYf1:=aO hYe1
   have hYn1:Y1.cell? ⟨w.heap.size+1,7,none⟩=some (.string (aj jn)):=by rw[aD _ _ _ _ _ _ hYe1];rfl
   have HYS1:=hid hYs1
   obtain⟨Y2,hY2,hYc2,hYs2⟩:=bG [(7,.string ⟨#[]⟩)] Y1 _ hYe1
   simp only[List.foldl_cons,List.foldl_nil] at hY2
   have hYe2:Y2.heap[w.heap.size+1]?=some (.cells #[.int .i64 0,.string ⟨#[]⟩,.slice a1 n1 c1,.string (aj prim),.slice a2 n2 c2,.slice a3 n3 c3,.slice none 0 0,.string ⟨#[]⟩,.slice a5 n5 c5,.slice a6 n6 c6,.slice a7 n7 c7,.slice a8 n8 c8,.bool desc,.int .i64 lim] 29):=hYc2
   have hYf2:=aO hYe2
   have hYn2:Y2.cell? ⟨w.heap.size+1,8,none⟩=some (.slice a5 n5 c5):=by rw[aD _ _ _ _ _ _ hYe2];rfl
   have HYS2:Hid (aA (fun k=>k=w.heap.size+1) v1 Y2):=hid (HYS1.out.then hYs2)
   obtain⟨Y3,hY3,hYc3,hYs3⟩:=bG [(8,.slice none 0 0)] Y2 _ hYe2
   simp only[List.foldl_cons,List.foldl_nil] at hY3
   have hYe3:Y3.heap[w.heap.size+1]?=some (.cells #[.int .i64 0,.string ⟨#[]⟩,.slice a1 n1 c1,.string (aj prim),.slice a2 n2 c2,.slice a3 n3 c3,.slice none 0 0,.string ⟨#[]⟩,.slice none 0 0,.slice a6 n6 c6,.slice a7 n7 c7,.slice a8 n8 c8,.bool desc,.int .i64 lim] 29):=hYc3
   have hYf3:=aO hYe3
   have hYn3:Y3.cell? ⟨w.heap.size+1,9,none⟩=some (.slice a6 n6 c6):=by rw[aD _ _ _ _ _ _ hYe3];rfl
   have HYS3:Hid (aA (fun k=>k=w.heap.size+1) v1 Y3):=hid (HYS2.out.then hYs3)
   obtain⟨Y4,hY4,hYc4,hYs4⟩:=bG [(9,.slice none 0 0)] Y3 _ hYe3
   simp only[List.foldl_cons,List.foldl_nil] at hY4
   have hYe4:Y4.heap[w.heap.size+1]?=some (.cells #[.int .i64 0,.string ⟨#[]⟩,.slice a1 n1 c1,.string (aj prim),.slice a2 n2 c2,.slice a3 n3 c3,.slice none 0 0,.string ⟨#[]⟩,.slice none 0 0,.slice none 0 0,.slice a7 n7 c7,.slice a8 n8 c8,.bool desc,.int .i64 lim] 29):=hYc4
   have hYf4:=aO hYe4
   have hYn4:Y4.cell? ⟨w.heap.size+1,10,none⟩=some (.slice a7 n7 c7):=by rw[aD _ _ _ _ _ _ hYe4];rfl
   have HYS4:Hid (aA (fun k=>k=w.heap.size+1) v1 Y4):=hid (HYS3.out.then hYs4)
   obtain⟨Y5,hY5,hYc5,hYs5⟩:=bG [(10,.slice none 0 0)] Y4 _ hYe4
   simp only[List.foldl_cons,List.foldl_nil] at hY5
   have hYe5:Y5.heap[w.heap.size+1]?=some (.cells #[.int .i64 0,.string ⟨#[]⟩,.slice a1 n1 c1,.string (aj prim),.slice a2 n2 c2,.slice a3 n3 c3,.slice none 0 0,.string ⟨#[]⟩,.slice none 0 0,.slice none 0 0,.slice none 0 0,.slice a8 n8 c8,.bool desc,.int .i64 lim] 29):=hYc5
   have hYf5:=aO hYe5
   have hYn5:Y5.cell? ⟨w.heap.size+1,11,none⟩=some (.slice a8 n8 c8):=by rw[aD _ _ _ _ _ _ hYe5];rfl
   have HYS5:Hid (aA (fun k=>k=w.heap.size+1) v1 Y5):=hid (HYS4.out.then hYs5)
   obtain⟨Y6,hY6,hYc6,hYs6⟩:=bG [(11,.slice none 0 0)] Y5 _ hYe5
   simp only[List.foldl_cons,List.foldl_nil] at hY6
   have hYe6:Y6.heap[w.heap.size+1]?=some (.cells #[.int .i64 0,.string ⟨#[]⟩,.slice a1 n1 c1,.string (aj prim),.slice a2 n2 c2,.slice a3 n3 c3,.slice none 0 0,.string ⟨#[]⟩,.slice none 0 0,.slice none 0 0,.slice none 0 0,.slice none 0 0,.bool desc,.int .i64 lim] 29):=hYc6
   have hYf6:=aO hYe6
   have hYn6:Y6.cell? ⟨w.heap.size+1,12,none⟩=some (.bool desc):=by rw[aD _ _ _ _ _ _ hYe6];rfl
   have HYS6:Hid (aA (fun k=>k=w.heap.size+1) v1 Y6):=hid (HYS5.out.then hYs6)
   obtain⟨Y7,hY7,hYc7,hYs7⟩:=bG [(12,.bool false)] Y6 _ hYe6
   simp only[List.foldl_cons,List.foldl_nil] at hY7
   have hYe7:Y7.heap[w.heap.size+1]?=some (.cells #[.int .i64 0,.string ⟨#[]⟩,.slice a1 n1 c1,.string (aj prim),.slice a2 n2 c2,.slice a3 n3 c3,.slice none 0 0,.string ⟨#[]⟩,.slice none 0 0,.slice none 0 0,.slice none 0 0,.slice none 0 0,.bool false,.int .i64 lim] 29):=hYc7
   have hYf7:=aO hYe7
   have hYn7:Y7.cell? ⟨w.heap.size+1,13,none⟩=some (.int .i64 lim):=by rw[aD _ _ _ _ _ _ hYe7];rfl
   have HYS7:Hid (aA (fun k=>k=w.heap.size+1) v1 Y7):=hid (HYS6.out.then hYs7)
   obtain⟨Y8,hY8,hYc8,hYs8⟩:=bG [(13,.int .i64 (-1))] Y7 _ hYe7
   simp only[List.foldl_cons,List.foldl_nil] at hY8
   have hYe8:Y8.heap[w.heap.size+1]?=some (.cells #[.int .i64 0,.string ⟨#[]⟩,.slice a1 n1 c1,.string (aj prim),.slice a2 n2 c2,.slice a3 n3 c3,.slice none 0 0,.string ⟨#[]⟩,.slice none 0 0,.slice none 0 0,.slice none 0 0,.slice none 0 0,.bool false,.int .i64 (-1)] 29):=hYc8
   have hYf8:=aO hYe8
   have HYS8:Hid (aA (fun k=>k=w.heap.size+1) v1 Y8):=hid (HYS7.out.then hYs8)
   obtain⟨X,hXe⟩:∃X,X=Y8:=⟨_,rfl⟩
   subst hXe
   have HXB:Hid (Below w.heap.size w X):=hid ((HB.out.trans (BL_v1.out.mono HB.out.size)).trans (HYS8.out.below (B:=w.heap.size) (fun i hi=>by omega) (by have:=BL_v1.out.size;omega)))
   have hx0:=ay ((HYS8.out.block w.heap.size (by have:=BL_v1.out.size;omega) (by omega)).trans ((BL_v1.out.block w.heap.size hz0).trans HC0.out))
   have hx14:=ay hYe8
   have HX1:Hid (X.heap[w.heap.size+1]?=some (.cells #[.int .i64 0,.string ⟨#[]⟩,.slice a1 n1 c1,.string (aj prim),.slice a2 n2 c2,.slice a3 n3 c3,.slice none 0 0,.string ⟨#[]⟩,.slice none 0 0,.slice none 0 0,.slice none 0 0,.slice none 0 0,.bool false,.int .i64 (-1)] 29)):=hid hYe8
   have hXz:w.heap.size+1<X.heap.size:=World.lt_of_block HX1.out
   clear hYc1 hYs1 hYe1 hYc2 hYs2 hYe2 hYc3 hYs3 hYe3 hYc4 hYs4 hYe4 hYc5 hYs5 hYe5 hYc6 hYs6 hYe6 hYc7 hYs7 hYe7 hYc8 hYs8 hYe8
   go_wp2_with fail
   try rw[hX]
   refine (HNT.out X).mono ?_
   rintro e w8 ⟨rfl,hb8⟩
   have HB8:=hid (HXB.out.trans (hb8.mono HXB.out.size))
   have hx1:=ay ((hb8.block (w.heap.size+1) hXz).trans HX1.out)
   clear hb8
   have HE:=hid (HEM.out w8 prim [] false (-1) a1 a2 a3 none none none none none n1 n2 n3 0 0 0 0 0 c1 c2 c3 0 0 0 0 0)
   go_wp2_with fail
   refine HE.out.mono ?_
   rintro e w9 ⟨rfl,hb9⟩
   have HB9:=hid (HB8.out.trans (hb9.mono HB8.out.size))
   clear hb9
   go_wp2
   go_ret
   exact⟨rfl,HB9.out⟩
  |
   false =>
   simp only[Bool.false_and]
   go_enter Tryz.func47,Tryz.ntmps47
   go_wp2_with (first | (refine wpList_store_row rfl 29 (.tmp 3) (.tmp 5) rfl (w.heap.size+1) #[.int .i64 6,.string (aj tn),.slice a1 n1 c1,.string (aj prim),.slice a2 n2 c2,.slice a3 n3 c3,.slice a4 n4 c4,.string (aj jn),.slice a5 n5 c5,.slice a6 n6 c6,.slice a7 n7 c7,.slice a8 n8 c8,.bool desc,.int .i64 lim] rfl rfl 29 #[.int .i64 0,.string ⟨#[]⟩,.slice none 0 0,.string ⟨#[]⟩,.slice none 0 0,.slice none 0 0,.slice none 0 0,.string ⟨#[]⟩,.slice none 0 0,.slice none 0 0,.slice none 0 0,.slice none 0 0,.bool false,.int .i64 0] (heap_alloc2_new w _ _) Tryz.dh rfl rfl ?_;rw[aV]) | fail)
   try rw[hW]
   clear hW
   refine (HSL.out W HB.out).mono ?_
   rintro e v1 ⟨rfl,hb⟩
   have BL_v1:=hid (hb)
   have p0:=ay ((BL_v1.out.block w.heap.size hz0).trans HC0.out)
   have p1:=ay ((BL_v1.out.block (w.heap.size+1) hzW).trans HC1.out)
   have p1f:=aO ((BL_v1.out.block (w.heap.size+1) hzW).trans HC1.out)
   clear hb q0 q1 q1f
   obtain⟨Y1,hY1,hYc1,hYs1⟩:=bG [(6,.slice none 0 0)] v1 _ ((BL_v1.out.block (w.heap.size+1) hzW).trans HC1.out)
   simp only[List.foldl_cons,List.foldl_nil] at hY1
   have hYe1:Y1.heap[w.heap.size+1]?=some (.cells #[.int .i64 0,.string ⟨#[]⟩,.slice a1 n1 c1,.string (aj prim),.slice a2 n2 c2,.slice a3 n3 c3,.slice none 0 0,.string (aj jn),.slice a5 n5 c5,.slice a6 n6 c6,.slice a7 n7 c7,.slice a8 n8 c8,.bool desc,.int .i64 lim] 29):=hYc1
   have hYf1:=aO hYe1
   have hYn1:Y1.cell? ⟨w.heap.size+1,7,none⟩=some (.string (aj jn)):=by rw[aD _ _ _ _ _ _ hYe1];rfl
   have HYS1:=hid hYs1
   obtain⟨Y2,hY2,hYc2,hYs2⟩:=bG [(7,.string ⟨#[]⟩)] Y1 _ hYe1
   simp only[List.foldl_cons,List.foldl_nil] at hY2
   have hYe2:Y2.heap[w.heap.size+1]?=some (.cells #[.int .i64 0,.string ⟨#[]⟩,.slice a1 n1 c1,.string (aj prim),.slice a2 n2 c2,.slice a3 n3 c3,.slice none 0 0,.string ⟨#[]⟩,.slice a5 n5 c5,.slice a6 n6 c6,.slice a7 n7 c7,.slice a8 n8 c8,.bool desc,.int .i64 lim] 29):=hYc2
   have hYf2:=aO hYe2
   have hYn2:Y2.cell? ⟨w.heap.size+1,8,none⟩=some (.slice a5 n5 c5):=by rw[aD _ _ _ _ _ _ hYe2];rfl
   have HYS2:Hid (aA (fun k=>k=w.heap.size+1) v1 Y2):=hid (HYS1.out.then hYs2)
   obtain⟨Y3,hY3,hYc3,hYs3⟩:=bG [(8,.slice none 0 0)] Y2 _ hYe2
   simp only[List.foldl_cons,List.foldl_nil] at hY3
   have hYe3:Y3.heap[w.heap.size+1]?=some (.cells #[.int .i64 0,.string ⟨#[]⟩,.slice a1 n1 c1,.string (aj prim),.slice a2 n2 c2,.slice a3 n3 c3,.slice none 0 0,.string ⟨#[]⟩,.slice none 0 0,.slice a6 n6 c6,.slice a7 n7 c7,.slice a8 n8 c8,.bool desc,.int .i64 lim] 29):=hYc3
   have hYf3:=aO hYe3
   have hYn3:Y3.cell? ⟨w.heap.size+1,9,none⟩=some (.slice a6 n6 c6):=by rw[aD _ _ _ _ _ _ hYe3];rfl
   have HYS3:Hid (aA (fun k=>k=w.heap.size+1) v1 Y3):=hid (HYS2.out.then hYs3)
   obtain⟨Y4,hY4,hYc4,hYs4⟩:=bG [(9,.slice none 0 0)] Y3 _ hYe3
   simp only[List.foldl_cons,List.foldl_nil] at hY4
   have hYe4:Y4.heap[w.heap.size+1]?=some (.cells #[.int .i64 0,.string ⟨#[]⟩,.slice a1 n1 c1,.string (aj prim),.slice a2 n2 c2,.slice a3 n3 c3,.slice none 0 0,.string ⟨#[]⟩,.slice none 0 0,.slice none 0 0,.slice a7 n7 c7,.slice a8 n8 c8,.bool desc,.int .i64 lim] 29):=hYc4
   have hYf4:=aO hYe4
   have hYn4:Y4.cell? ⟨w.heap.size+1,10,none⟩=some (.slice a7 n7 c7):=by rw[aD _ _ _ _ _ _ hYe4];rfl
   have HYS4:Hid (aA (fun k=>k=w.heap.size+1) v1 Y4):=hid (HYS3.out.then hYs4)
   obtain⟨Y5,hY5,hYc5,hYs5⟩:=bG [(10,.slice none 0 0)] Y4 _ hYe4
   simp only[List.foldl_cons,List.foldl_nil] at hY5
   have hYe5:Y5.heap[w.heap.size+1]?=some (.cells #[.int .i64 0,.string ⟨#[]⟩,.slice a1 n1 c1,.string (aj prim),.slice a2 n2 c2,.slice a3 n3 c3,.slice none 0 0,.string ⟨#[]⟩,.slice none 0 0,.slice none 0 0,.slice none 0 0,.slice a8 n8 c8,.bool desc,.int .i64 lim] 29):=hYc5
   have hYf5:=aO hYe5
   have hYn5:Y5.cell? ⟨w.heap.size+1,11,none⟩=some (.slice a8 n8 c8):=by rw[aD _ _ _ _ _ _ hYe5];rfl
   have HYS5:Hid (aA (fun k=>k=w.heap.size+1) v1 Y5):=hid (HYS4.out.then hYs5)
   obtain⟨Y6,hY6,hYc6,hYs6⟩:=bG [(11,.slice none 0 0)] Y5 _ hYe5
   simp only[List.foldl_cons,List.foldl_nil] at hY6
   have hYe6:Y6.heap[w.heap.size+1]?=some (.cells #[.int .i64 0,.string ⟨#[]⟩,.slice a1 n1 c1,.string (aj prim),.slice a2 n2 c2,.slice a3 n3 c3,.slice none 0 0,.string ⟨#[]⟩,.slice none 0 0,.slice none 0 0,.slice none 0 0,.slice none 0 0,.bool desc,.int .i64 lim] 29):=hYc6
   have hYf6:=aO hYe6
   have hYn6:Y6.cell? ⟨w.heap.size+1,12,none⟩=some (.bool desc):=by rw[aD _ _ _ _ _ _ hYe6];rfl
   have HYS6:Hid (aA (fun k=>k=w.heap.size+1) v1 Y6):=hid (HYS5.out.then hYs6)
   obtain⟨Y7,hY7,hYc7,hYs7⟩:=bG [(12,.bool false)] Y6 _ hYe6
   simp only[List.foldl_cons,List.foldl_nil] at hY7
   have hYe7:Y7.heap[w.heap.size+1]?=some (.cells #[.int .i64 0,.string ⟨#[]⟩,.slice a1 n1 c1,.string (aj prim),.slice a2 n2 c2,.slice a3 n3 c3,.slice none 0 0,.string ⟨#[]⟩,.slice none 0 0,.slice none 0 0,.slice none 0 0,.slice none 0 0,.bool false,.int .i64 lim] 29):=hYc7
   have hYf7:=aO hYe7
   have hYn7:Y7.cell? ⟨w.heap.size+1,13,none⟩=some (.int .i64 lim):=by rw[aD _ _ _ _ _ _ hYe7];rfl
   have HYS7:Hid (aA (fun k=>k=w.heap.size+1) v1 Y7):=hid (HYS6.out.then hYs7)
   obtain⟨Y8,hY8,hYc8,hYs8⟩:=bG [(13,.int .i64 (-1))] Y7 _ hYe7
   simp only[List.foldl_cons,List.foldl_nil] at hY8
   have hYe8:Y8.heap[w.heap.size+1]?=some (.cells #[.int .i64 0,.string ⟨#[]⟩,.slice a1 n1 c1,.string (aj prim),.slice a2 n2 c2,.slice a3 n3 c3,.slice none 0 0,.string ⟨#[]⟩,.slice none 0 0,.slice none 0 0,.slice none 0 0,.slice none 0 0,.bool false,.int .i64 (-1)] 29):=hYc8
   have hYf8:=aO hYe8
   have HYS8:Hid (aA (fun k=>k=w.heap.size+1) v1 Y8):=hid (HYS7.out.then hYs8)
   obtain⟨X,hXe⟩:∃X,X=Y8:=⟨_,rfl⟩
   subst hXe
   have HXB:Hid (Below w.heap.size w X):=hid ((HB.out.trans (BL_v1.out.mono HB.out.size)).trans (HYS8.out.below (B:=w.heap.size) (fun i hi=>by omega) (by have:=BL_v1.out.size;omega)))
   have hx0:=ay ((HYS8.out.block w.heap.size (by have:=BL_v1.out.size;omega) (by omega)).trans ((BL_v1.out.block w.heap.size hz0).trans HC0.out))
   have hx14:=ay hYe8
   have HX1:Hid (X.heap[w.heap.size+1]?=some (.cells #[.int .i64 0,.string ⟨#[]⟩,.slice a1 n1 c1,.string (aj prim),.slice a2 n2 c2,.slice a3 n3 c3,.slice none 0 0,.string ⟨#[]⟩,.slice none 0 0,.slice none 0 0,.slice none 0 0,.slice none 0 0,.bool false,.int .i64 (-1)] 29)):=hid hYe8
   have hXz:w.heap.size+1<X.heap.size:=World.lt_of_block HX1.out
   clear hYc1 hYs1 hYe1 hYc2 hYs2 hYe2 hYc3 hYs3 hYe3 hYc4 hYs4 hYe4 hYc5 hYs5 hYe5 hYc6 hYs6 hYe6 hYc7 hYs7 hYe7 hYc8 hYs8 hYe8
   go_wp2_with fail
   try rw[hX]
   refine (HNT.out X).mono ?_
   rintro e w8 ⟨rfl,hb8⟩
   have HB8:=hid (HXB.out.trans (hb8.mono HXB.out.size))
   clear hb8
   go_wp2
   go_ret
   exact⟨rfl,HB8.out⟩
 |
  false =>
  simp only[Bool.false_and,Bool.true_and]
  go_enter Tryz.func47,Tryz.ntmps47
  go_wp2_with (first | (refine wpList_store_row rfl 29 (.tmp 3) (.tmp 5) rfl (w.heap.size+1) #[.int .i64 6,.string (aj tn),.slice a1 n1 c1,.string (aj prim),.slice a2 n2 c2,.slice a3 n3 c3,.slice a4 n4 c4,.string (aj jn),.slice a5 n5 c5,.slice a6 n6 c6,.slice a7 n7 c7,.slice a8 n8 c8,.bool desc,.int .i64 lim] rfl rfl 29 #[.int .i64 0,.string ⟨#[]⟩,.slice none 0 0,.string ⟨#[]⟩,.slice none 0 0,.slice none 0 0,.slice none 0 0,.string ⟨#[]⟩,.slice none 0 0,.slice none 0 0,.slice none 0 0,.slice none 0 0,.bool false,.int .i64 0] (heap_alloc2_new w _ _) Tryz.dh rfl rfl ?_;rw[aV]) | fail)
  try rw[hW]
  clear hW
  refine (HSL.out W HB.out).mono ?_
  rintro e v1 ⟨rfl,hb⟩
  have BL_v1:=hid (hb)
  have p0:=ay ((BL_v1.out.block w.heap.size hz0).trans HC0.out)
  have p1:=ay ((BL_v1.out.block (w.heap.size+1) hzW).trans HC1.out)
  have p1f:=aO ((BL_v1.out.block (w.heap.size+1) hzW).trans HC1.out)
  clear hb q0 q1 q1f
  obtain⟨Y1,hY1,hYc1,hYs1⟩:=bG [(6,.slice none 0 0)] v1 _ ((BL_v1.out.block (w.heap.size+1) hzW).trans HC1.out)
  simp only[List.foldl_cons,List.foldl_nil] at hY1
  have hYe1:Y1.heap[w.heap.size+1]?=some (.cells #[.int .i64 0,.string ⟨#[]⟩,.slice a1 n1 c1,.string (aj prim),.slice a2 n2 c2,.slice a3 n3 c3,.slice none 0 0,.string (aj jn),.slice a5 n5 c5,.slice a6 n6 c6,.slice a7 n7 c7,.slice a8 n8 c8,.bool desc,.int .i64 lim] 29):=hYc1
  have hYf1:=aO hYe1
  have hYn1:Y1.cell? ⟨w.heap.size+1,7,none⟩=some (.string (aj jn)):=by rw[aD _ _ _ _ _ _ hYe1];rfl
  have HYS1:=hid hYs1
  obtain⟨Y2,hY2,hYc2,hYs2⟩:=bG [(7,.string ⟨#[]⟩)] Y1 _ hYe1
  simp only[List.foldl_cons,List.foldl_nil] at hY2
  have hYe2:Y2.heap[w.heap.size+1]?=some (.cells #[.int .i64 0,.string ⟨#[]⟩,.slice a1 n1 c1,.string (aj prim),.slice a2 n2 c2,.slice a3 n3 c3,.slice none 0 0,.string ⟨#[]⟩,.slice a5 n5 c5,.slice a6 n6 c6,.slice a7 n7 c7,.slice a8 n8 c8,.bool desc,.int .i64 lim] 29):=hYc2
  have hYf2:=aO hYe2
  have hYn2:Y2.cell? ⟨w.heap.size+1,8,none⟩=some (.slice a5 n5 c5):=by rw[aD _ _ _ _ _ _ hYe2];rfl
  have HYS2:Hid (aA (fun k=>k=w.heap.size+1) v1 Y2):=hid (HYS1.out.then hYs2)
  obtain⟨Y3,hY3,hYc3,hYs3⟩:=bG [(8,.slice none 0 0)] Y2 _ hYe2
  simp only[List.foldl_cons,List.foldl_nil] at hY3
  have hYe3:Y3.heap[w.heap.size+1]?=some (.cells #[.int .i64 0,.string ⟨#[]⟩,.slice a1 n1 c1,.string (aj prim),.slice a2 n2 c2,.slice a3 n3 c3,.slice none 0 0,.string ⟨#[]⟩,.slice none 0 0,.slice a6 n6 c6,.slice a7 n7 c7,.slice a8 n8 c8,.bool desc,.int .i64 lim] 29):=hYc3
  have hYf3:=aO hYe3
  have hYn3:Y3.cell? ⟨w.heap.size+1,9,none⟩=some (.slice a6 n6 c6):=by rw[aD _ _ _ _ _ _ hYe3];rfl
  have HYS3:Hid (aA (fun k=>k=w.heap.size+1) v1 Y3):=hid (HYS2.out.then hYs3)
  obtain⟨Y4,hY4,hYc4,hYs4⟩:=bG [(9,.slice none 0 0)] Y3 _ hYe3
  simp only[List.foldl_cons,List.foldl_nil] at hY4
  have hYe4:Y4.heap[w.heap.size+1]?=some (.cells #[.int .i64 0,.string ⟨#[]⟩,.slice a1 n1 c1,.string (aj prim),.slice a2 n2 c2,.slice a3 n3 c3,.slice none 0 0,.string ⟨#[]⟩,.slice none 0 0,.slice none 0 0,.slice a7 n7 c7,.slice a8 n8 c8,.bool desc,.int .i64 lim] 29):=hYc4
  have hYf4:=aO hYe4
  have hYn4:Y4.cell? ⟨w.heap.size+1,10,none⟩=some (.slice a7 n7 c7):=by rw[aD _ _ _ _ _ _ hYe4];rfl
  have HYS4:Hid (aA (fun k=>k=w.heap.size+1) v1 Y4):=hid (HYS3.out.then hYs4)
  obtain⟨Y5,hY5,hYc5,hYs5⟩:=bG [(10,.slice none 0 0)] Y4 _ hYe4
  simp only[List.foldl_cons,List.foldl_nil] at hY5
  have hYe5:Y5.heap[w.heap.size+1]?=some (.cells #[.int .i64 0,.string ⟨#[]⟩,.slice a1 n1 c1,.string (aj prim),.slice a2 n2 c2,.slice a3 n3 c3,.slice none 0 0,.string ⟨#[]⟩,.slice none 0 0,.slice none 0 0,.slice none 0 0,.slice a8 n8 c8,.bool desc,.int .i64 lim] 29):=hYc5
  have hYf5:=aO hYe5
  have hYn5:Y5.cell? ⟨w.heap.size+1,11,none⟩=some (.slice a8 n8 c8):=by rw[aD _ _ _ _ _ _ hYe5];rfl
  have HYS5:Hid (aA (fun k=>k=w.heap.size+1) v1 Y5):=hid (HYS4.out.then hYs5)
  obtain⟨Y6,hY6,hYc6,hYs6⟩:=bG [(11,.slice none 0 0)] Y5 _ hYe5
  simp only[List.foldl_cons,List.foldl_nil] at hY6
  have hYe6:Y6.heap[w.heap.size+1]?=some (.cells #[.int .i64 0,.string ⟨#[]⟩,.slice a1 n1 c1,.string (aj prim),.slice a2 n2 c2,.slice a3 n3 c3,.slice none 0 0,.string ⟨#[]⟩,.slice none 0 0,.slice none 0 0,.slice none 0 0,.slice none 0 0,.bool desc,.int .i64 lim] 29):=hYc6
  have hYf6:=aO hYe6
  have hYn6:Y6.cell? ⟨w.heap.size+1,12,none⟩=some (.bool desc):=by rw[aD _ _ _ _ _ _ hYe6];rfl
  have HYS6:Hid (aA (fun k=>k=w.heap.size+1) v1 Y6):=hid (HYS5.out.then hYs6)
  obtain⟨Y7,hY7,hYc7,hYs7⟩:=bG [(12,.bool false)] Y6 _ hYe6
  simp only[List.foldl_cons,List.foldl_nil] at hY7
  have hYe7:Y7.heap[w.heap.size+1]?=some (.cells #[.int .i64 0,.string ⟨#[]⟩,.slice a1 n1 c1,.string (aj prim),.slice a2 n2 c2,.slice a3 n3 c3,.slice none 0 0,.string ⟨#[]⟩,.slice none 0 0,.slice none 0 0,.slice none 0 0,.slice none 0 0,.bool false,.int .i64 lim] 29):=hYc7
  have hYf7:=aO hYe7
  have hYn7:Y7.cell? ⟨w.heap.size+1,13,none⟩=some (.int .i64 lim):=by rw[aD _ _ _ _ _ _ hYe7];rfl
  have HYS7:Hid (aA (fun k=>k=w.heap.size+1) v1 Y7):=hid (HYS6.out.then hYs7)
  obtain⟨Y8,hY8,hYc8,hYs8⟩:=bG [(13,.int .i64 (-1))] Y7 _ hYe7
  simp only[List.foldl_cons,List.foldl_nil] at hY8
  have hYe8:Y8.heap[w.heap.size+1]?=some (.cells #[.int .i64 0,.string ⟨#[]⟩,.slice a1 n1 c1,.string (aj prim),.slice a2 n2 c2,.slice a3 n3 c3,.slice none 0 0,.string ⟨#[]⟩,.slice none 0 0,.slice none 0 0,.slice none 0 0,.slice none 0 0,.bool false,.int .i64 (-1)] 29):=hYc8
  have hYf8:=aO hYe8
  have HYS8:Hid (aA (fun k=>k=w.heap.size+1) v1 Y8):=hid (HYS7.out.then hYs8)
  obtain⟨X,hXe⟩:∃X,X=Y8:=⟨_,rfl⟩
  subst hXe
  have HXB:Hid (Below w.heap.size w X):=hid ((HB.out.trans (BL_v1.out.mono HB.out.size)).trans (HYS8.out.below (B:=w.heap.size) (fun i hi=>by omega) (by have:=BL_v1.out.size;omega)))
  have hx0:=ay ((HYS8.out.block w.heap.size (by have:=BL_v1.out.size;omega) (by omega)).trans ((BL_v1.out.block w.heap.size hz0).trans HC0.out))
  have hx14:=ay hYe8
  have HX1:Hid (X.heap[w.heap.size+1]?=some (.cells #[.int .i64 0,.string ⟨#[]⟩,.slice a1 n1 c1,.string (aj prim),.slice a2 n2 c2,.slice a3 n3 c3,.slice none 0 0,.string ⟨#[]⟩,.slice none 0 0,.slice none 0 0,.slice none 0 0,.slice none 0 0,.bool false,.int .i64 (-1)] 29)):=hid hYe8
  have hXz:w.heap.size+1<X.heap.size:=World.lt_of_block HX1.out
  clear hYc1 hYs1 hYe1 hYc2 hYs2 hYe2 hYc3 hYs3 hYe3 hYc4 hYs4 hYe4 hYc5 hYs5 hYe5 hYc6 hYs6 hYe6 hYc7 hYs7 hYe7 hYc8 hYs8 hYe8
  go_wp2
  go_ret
  exact⟨rfl,HXB.out⟩
end Go.Proofs.YtfeglkleoijlaaaGreatDoor
