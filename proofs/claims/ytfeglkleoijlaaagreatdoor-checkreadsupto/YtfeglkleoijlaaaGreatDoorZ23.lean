/- Packed for the hand-in: WRightW4 WRightW5 -/
import Derived.Test.YtfeglkleoijlaaaGreatDoorZ22
namespace Go.Proofs.YtfeglkleoijlaaaGreatDoor
open Go.RowKit Go.Shelf
set_option linter.unusedSimpArgs false
set_option linter.unusedVariables false
set_option maxRecDepth 20000
set_option maxHeartbeats 8000000
theorem Ap (w:World) (tn prim jn:List UInt8) (desc:Bool) (lim:Int) (a1 a2 a3 a4 a5 a6 a7 a8:Option Addr) (n1 n2 n3 n4 n5 n6 n7 n8 c1 c2 c3 c4 c5 c6 c7 c8:Nat) (BE BW BT:Bool)
  (HSE:Hid (∀V,Below w.heap.size w V→Calls Tryz.prog 93 #[.slice a3 n3 c3,.int .i64 1,.int .i64 8,.func (.func 94) #[] #[]] V fun e w'=>e = .returned (.bool BE)∧Below V.heap.size V w')) (HWH:Hid (∀V,Below w.heap.size w V→Calls Tryz.prog 95 #[.slice a6 n6 c6,.int .i64 0,.int .i64 1,.func (.func 82) #[] #[]] V fun e w'=>e = .returned (.bool BW)∧Below V.heap.size V w')) (HNT:Hid (∀V,Calls Tryz.prog 90 #[.string (aj tn)] V fun e w'=>e = .returned (.bool BT)∧Below V.heap.size V w')) :
  Calls Tryz.prog 47 #[.agg #[.int .i64 4,.string (aj tn),.slice a1 n1 c1,.string (aj prim),.slice a2 n2 c2,.slice a3 n3 c3,.slice a4 n4 c4,.string (aj jn),.slice a5 n5 c5,.slice a6 n6 c6,.slice a7 n7 c7,.slice a8 n8 c8,.bool desc,.int .i64 lim]] w fun e w'=>e = .returned (.bool ((BE&&BW)&&(BT&&jU n1 prim n2 0 n4 jn n5 0 n7 n8 desc lim)))∧Below w.heap.size w w':=by
 have HEM:=hid (fun V=>cu (w:=V))
 obtain⟨W,hW,hbW,hzW,hc0,hc1⟩:=eG w 4 tn prim jn desc lim a1 a2 a3 a4 a5 a6 a7 a8 n1 n2 n3 n4 n5 n6 n7 n8 c1 c2 c3 c4 c5 c6 c7 c8
 have q0:=ay hc0
 have q1:=ay hc1
 have q1f:=aO hc1
 have HB:=hid hbW
 have HC0:=hid hc0
 have HC1:=hid hc1
 have hz0:w.heap.size<W.heap.size:=by omega
 clear hbW hc0 hc1
 cases BE with
 |
  true =>
  simp only[Bool.true_and]
  cases BW with
  |
   true =>
   simp only[Bool.true_and]
   cases BT with
   |
    true =>
    simp only[Bool.true_and]
    go_enter Tryz.func47,Tryz.ntmps47
    go_wp2_with (first | (refine wpList_store_row rfl 29 (.tmp 3) (.tmp 5) rfl (w.heap.size+1) #[.int .i64 4,.string (aj tn),.slice a1 n1 c1,.string (aj prim),.slice a2 n2 c2,.slice a3 n3 c3,.slice a4 n4 c4,.string (aj jn),.slice a5 n5 c5,.slice a6 n6 c6,.slice a7 n7 c7,.slice a8 n8 c8,.bool desc,.int .i64 lim] rfl rfl 29 #[.int .i64 0,.string ⟨#[]⟩,.slice none 0 0,.string ⟨#[]⟩,.slice none 0 0,.slice none 0 0,.slice none 0 0,.string ⟨#[]⟩,.slice none 0 0,.slice none 0 0,.slice none 0 0,.slice none 0 0,.bool false,.int .i64 0] (heap_alloc2_new w _ _) Tryz.dh rfl rfl ?_;rw[aV]) | fail)
    try rw[hW]
    clear hW
    refine (HSE.out W HB.out).mono ?_
    rintro e v1 ⟨rfl,hb⟩
    have BL_v1:=hid (hb)
    have p0:=ay ((BL_v1.out.block w.heap.size hz0).trans HC0.out)
    have p1:=ay ((BL_v1.out.block (w.heap.size+1) hzW).trans HC1.out)
    have p1f:=aO ((BL_v1.out.block (w.heap.size+1) hzW).trans HC1.out)
    clear hb q0 q1 q1f
    go_wp2_with fail
    refine (HWH.out v1 (HB.out.trans (BL_v1.out.mono HB.out.size))).mono ?_
    rintro e v2 ⟨rfl,hb⟩
    have BL_v2:=hid (BL_v1.out.trans (hb.mono BL_v1.out.size))
    have p0:=ay ((BL_v2.out.block w.heap.size hz0).trans HC0.out)
    have p1:=ay ((BL_v2.out.block (w.heap.size+1) hzW).trans HC1.out)
    have p1f:=aO ((BL_v2.out.block (w.heap.size+1) hzW).trans HC1.out)
    clear hb
    obtain⟨X,hX,hXc,hXs⟩:=bG [(5,.slice none 0 0),(9,.slice none 0 0)] v2 _ ((BL_v2.out.block (w.heap.size+1) hzW).trans HC1.out)
    simp only[List.foldl_cons,List.foldl_nil] at hX
    have HXB:Hid (Below w.heap.size w X):=hid ((HB.out.trans (BL_v2.out.mono HB.out.size)).trans (hXs.below (B:=w.heap.size) (fun i hi=>by omega) (by have:=BL_v2.out.size;omega)))
    have hx0:=ay ((hXs.block w.heap.size (by have:=BL_v2.out.size;omega) (by omega)).trans ((BL_v2.out.block w.heap.size hz0).trans HC0.out))
    have HX1:Hid (X.heap[w.heap.size+1]?=some (.cells #[.int .i64 0,.string ⟨#[]⟩,.slice a1 n1 c1,.string (aj prim),.slice a2 n2 c2,.slice none 0 0,.slice a4 n4 c4,.string (aj jn),.slice a5 n5 c5,.slice none 0 0,.slice a7 n7 c7,.slice a8 n8 c8,.bool desc,.int .i64 lim] 29)):=hid hXc
    have hXz:w.heap.size+1<X.heap.size:=World.lt_of_block HX1.out
    clear hXc hXs
    go_wp2_with fail
    try rw[hX]
    refine (HNT.out X).mono ?_
    rintro e w8 ⟨rfl,hb8⟩
    have HB8:=hid (HXB.out.trans (hb8.mono HXB.out.size))
    have hx1:=ay ((hb8.block (w.heap.size+1) hXz).trans HX1.out)
    clear hb8
    have HE:=hid (HEM.out w8 prim jn desc lim a1 a2 none a4 a5 none a7 a8 n1 n2 0 n4 n5 0 n7 n8 c1 c2 0 c4 c5 0 c7 c8)
    go_wp2_with fail
    refine HE.out.mono ?_
    rintro e w9 ⟨rfl,hb9⟩
    have HB9:=hid (HB8.out.trans (hb9.mono HB8.out.size))
    clear hb9
    go_wp2
    go_ret
    exact⟨rfl,HB9.out⟩
   |
    false =>
    simp only[Bool.false_and]
    go_enter Tryz.func47,Tryz.ntmps47
    go_wp2_with (first | (refine wpList_store_row rfl 29 (.tmp 3) (.tmp 5) rfl (w.heap.size+1) #[.int .i64 4,.string (aj tn),.slice a1 n1 c1,.string (aj prim),.slice a2 n2 c2,.slice a3 n3 c3,.slice a4 n4 c4,.string (aj jn),.slice a5 n5 c5,.slice a6 n6 c6,.slice a7 n7 c7,.slice a8 n8 c8,.bool desc,.int .i64 lim] rfl rfl 29 #[.int .i64 0,.string ⟨#[]⟩,.slice none 0 0,.string ⟨#[]⟩,.slice none 0 0,.slice none 0 0,.slice none 0 0,.string ⟨#[]⟩,.slice none 0 0,.slice none 0 0,.slice none 0 0,.slice none 0 0,.bool false,.int .i64 0] (heap_alloc2_new w _ _) Tryz.dh rfl rfl ?_;rw[aV]) | fail)
    try rw[hW]
    clear hW
    refine (HSE.out W HB.out).mono ?_
    rintro e v1 ⟨rfl,hb⟩
    have BL_v1:=hid (hb)
    have p0:=ay ((BL_v1.out.block w.heap.size hz0).trans HC0.out)
    have p1:=ay ((BL_v1.out.block (w.heap.size+1) hzW).trans HC1.out)
    have p1f:=aO ((BL_v1.out.block (w.heap.size+1) hzW).trans HC1.out)
    clear hb q0 q1 q1f
    go_wp2_with fail
    refine (HWH.out v1 (HB.out.trans (BL_v1.out.mono HB.out.size))).mono ?_
    rintro e v2 ⟨rfl,hb⟩
    have BL_v2:=hid (BL_v1.out.trans (hb.mono BL_v1.out.size))
    have p0:=ay ((BL_v2.out.block w.heap.size hz0).trans HC0.out)
    have p1:=ay ((BL_v2.out.block (w.heap.size+1) hzW).trans HC1.out)
    have p1f:=aO ((BL_v2.out.block (w.heap.size+1) hzW).trans HC1.out)
    clear hb
    obtain⟨X,hX,hXc,hXs⟩:=bG [(5,.slice none 0 0),(9,.slice none 0 0)] v2 _ ((BL_v2.out.block (w.heap.size+1) hzW).trans HC1.out)
    simp only[List.foldl_cons,List.foldl_nil] at hX
    have HXB:Hid (Below w.heap.size w X):=hid ((HB.out.trans (BL_v2.out.mono HB.out.size)).trans (hXs.below (B:=w.heap.size) (fun i hi=>by omega) (by have:=BL_v2.out.size;omega)))
    have hx0:=ay ((hXs.block w.heap.size (by have:=BL_v2.out.size;omega) (by omega)).trans ((BL_v2.out.block w.heap.size hz0).trans HC0.out))
    have HX1:Hid (X.heap[w.heap.size+1]?=some (.cells #[.int .i64 0,.string ⟨#[]⟩,.slice a1 n1 c1,.string (aj prim),.slice a2 n2 c2,.slice none 0 0,.slice a4 n4 c4,.string (aj jn),.slice a5 n5 c5,.slice none 0 0,.slice a7 n7 c7,.slice a8 n8 c8,.bool desc,.int .i64 lim] 29)):=hid hXc
    have hXz:w.heap.size+1<X.heap.size:=World.lt_of_block HX1.out
    clear hXc hXs
    go_wp2_with fail
    try rw[hX]
    refine (HNT.out X).mono ?_
    rintro e w8 ⟨rfl,hb8⟩
    have HB8:=hid (HXB.out.trans (hb8.mono HXB.out.size))
    clear hb8
    go_wp2
    go_ret
    exact⟨rfl,HB8.out⟩
  |
   false =>
   simp only[Bool.false_and,Bool.true_and]
   go_enter Tryz.func47,Tryz.ntmps47
   go_wp2_with (first | (refine wpList_store_row rfl 29 (.tmp 3) (.tmp 5) rfl (w.heap.size+1) #[.int .i64 4,.string (aj tn),.slice a1 n1 c1,.string (aj prim),.slice a2 n2 c2,.slice a3 n3 c3,.slice a4 n4 c4,.string (aj jn),.slice a5 n5 c5,.slice a6 n6 c6,.slice a7 n7 c7,.slice a8 n8 c8,.bool desc,.int .i64 lim] rfl rfl 29 #[.int .i64 0,.string ⟨#[]⟩,.slice none 0 0,.string ⟨#[]⟩,.slice none 0 0,.slice none 0 0,.slice none 0 0,.string ⟨#[]⟩,.slice none 0 0,.slice none 0 0,.slice none 0 0,.slice none 0 0,.bool false,.int .i64 0] (heap_alloc2_new w _ _) Tryz.dh rfl rfl ?_;rw[aV]) | fail)
   try rw[hW]
   clear hW
   refine (HSE.out W HB.out).mono ?_
   rintro e v1 ⟨rfl,hb⟩
   have BL_v1:=hid (hb)
   have p0:=ay ((BL_v1.out.block w.heap.size hz0).trans HC0.out)
   have p1:=ay ((BL_v1.out.block (w.heap.size+1) hzW).trans HC1.out)
   have p1f:=aO ((BL_v1.out.block (w.heap.size+1) hzW).trans HC1.out)
   clear hb q0 q1 q1f
   go_wp2_with fail
   refine (HWH.out v1 (HB.out.trans (BL_v1.out.mono HB.out.size))).mono ?_
   rintro e v2 ⟨rfl,hb⟩
   have BL_v2:=hid (BL_v1.out.trans (hb.mono BL_v1.out.size))
   have p0:=ay ((BL_v2.out.block w.heap.size hz0).trans HC0.out)
   have p1:=ay ((BL_v2.out.block (w.heap.size+1) hzW).trans HC1.out)
   have p1f:=aO ((BL_v2.out.block (w.heap.size+1) hzW).trans HC1.out)
   clear hb
   obtain⟨X,hX,hXc,hXs⟩:=bG [(5,.slice none 0 0),(9,.slice none 0 0)] v2 _ ((BL_v2.out.block (w.heap.size+1) hzW).trans HC1.out)
   simp only[List.foldl_cons,List.foldl_nil] at hX
   have HXB:Hid (Below w.heap.size w X):=hid ((HB.out.trans (BL_v2.out.mono HB.out.size)).trans (hXs.below (B:=w.heap.size) (fun i hi=>by omega) (by have:=BL_v2.out.size;omega)))
   have hx0:=ay ((hXs.block w.heap.size (by have:=BL_v2.out.size;omega) (by omega)).trans ((BL_v2.out.block w.heap.size hz0).trans HC0.out))
   have HX1:Hid (X.heap[w.heap.size+1]?=some (.cells #[.int .i64 0,.string ⟨#[]⟩,.slice a1 n1 c1,.string (aj prim),.slice a2 n2 c2,.slice none 0 0,.slice a4 n4 c4,.string (aj jn),.slice a5 n5 c5,.slice none 0 0,.slice a7 n7 c7,.slice a8 n8 c8,.bool desc,.int .i64 lim] 29)):=hid hXc
   have hXz:w.heap.size+1<X.heap.size:=World.lt_of_block HX1.out
   clear hXc hXs
   go_wp2
   go_ret
   exact⟨rfl,HXB.out⟩
 |
  false =>
  simp only[Bool.false_and,Bool.true_and]
  go_enter Tryz.func47,Tryz.ntmps47
  go_wp2_with (first | (refine wpList_store_row rfl 29 (.tmp 3) (.tmp 5) rfl (w.heap.size+1) #[.int .i64 4,.string (aj tn),.slice a1 n1 c1,.string (aj prim),.slice a2 n2 c2,.slice a3 n3 c3,.slice a4 n4 c4,.string (aj jn),.slice a5 n5 c5,.slice a6 n6 c6,.slice a7 n7 c7,.slice a8 n8 c8,.bool desc,.int .i64 lim] rfl rfl 29 #[.int .i64 0,.string ⟨#[]⟩,.slice none 0 0,.string ⟨#[]⟩,.slice none 0 0,.slice none 0 0,.slice none 0 0,.string ⟨#[]⟩,.slice none 0 0,.slice none 0 0,.slice none 0 0,.slice none 0 0,.bool false,.int .i64 0] (heap_alloc2_new w _ _) Tryz.dh rfl rfl ?_;rw[aV]) | fail)
  try rw[hW]
  clear hW
  refine (HSE.out W HB.out).mono ?_
  rintro e v1 ⟨rfl,hb⟩
  have BL_v1:=hid (hb)
  have p0:=ay ((BL_v1.out.block w.heap.size hz0).trans HC0.out)
  have p1:=ay ((BL_v1.out.block (w.heap.size+1) hzW).trans HC1.out)
  have p1f:=aO ((BL_v1.out.block (w.heap.size+1) hzW).trans HC1.out)
  clear hb q0 q1 q1f
  obtain⟨X,hX,hXc,hXs⟩:=bG [(5,.slice none 0 0),(9,.slice none 0 0)] v1 _ ((BL_v1.out.block (w.heap.size+1) hzW).trans HC1.out)
  simp only[List.foldl_cons,List.foldl_nil] at hX
  have HXB:Hid (Below w.heap.size w X):=hid ((HB.out.trans (BL_v1.out.mono HB.out.size)).trans (hXs.below (B:=w.heap.size) (fun i hi=>by omega) (by have:=BL_v1.out.size;omega)))
  have hx0:=ay ((hXs.block w.heap.size (by have:=BL_v1.out.size;omega) (by omega)).trans ((BL_v1.out.block w.heap.size hz0).trans HC0.out))
  have HX1:Hid (X.heap[w.heap.size+1]?=some (.cells #[.int .i64 0,.string ⟨#[]⟩,.slice a1 n1 c1,.string (aj prim),.slice a2 n2 c2,.slice none 0 0,.slice a4 n4 c4,.string (aj jn),.slice a5 n5 c5,.slice none 0 0,.slice a7 n7 c7,.slice a8 n8 c8,.bool desc,.int .i64 lim] 29)):=hid hXc
  have hXz:w.heap.size+1<X.heap.size:=World.lt_of_block HX1.out
  clear hXc hXs
  go_wp2
  go_ret
  exact⟨rfl,HXB.out⟩
theorem zZ (w:World) (tn prim jn:List UInt8) (desc:Bool) (lim:Int) (a1 a2 a3 a4 a5 a6 a7 a8:Option Addr) (n1 n2 n3 n4 n5 n6 n7 n8 c1 c2 c3 c4 c5 c6 c7 c8:Nat) (BW BT:Bool)
  (HWH:Hid (∀V,Below w.heap.size w V→Calls Tryz.prog 95 #[.slice a6 n6 c6,.int .i64 0,.int .i64 1,.func (.func 82) #[] #[]] V fun e w'=>e = .returned (.bool BW)∧Below V.heap.size V w')) (HNT:Hid (∀V,Calls Tryz.prog 90 #[.string (aj tn)] V fun e w'=>e = .returned (.bool BT)∧Below V.heap.size V w')) :
  Calls Tryz.prog 47 #[.agg #[.int .i64 5,.string (aj tn),.slice a1 n1 c1,.string (aj prim),.slice a2 n2 c2,.slice a3 n3 c3,.slice a4 n4 c4,.string (aj jn),.slice a5 n5 c5,.slice a6 n6 c6,.slice a7 n7 c7,.slice a8 n8 c8,.bool desc,.int .i64 lim]] w fun e w'=>e = .returned (.bool (BW&&(BT&&jU n1 prim n2 n3 n4 jn n5 0 n7 n8 desc lim)))∧Below w.heap.size w w':=by
 have HEM:=hid (fun V=>cu (w:=V))
 obtain⟨W,hW,hbW,hzW,hc0,hc1⟩:=eG w 5 tn prim jn desc lim a1 a2 a3 a4 a5 a6 a7 a8 n1 n2 n3 n4 n5 n6 n7 n8 c1 c2 c3 c4 c5 c6 c7 c8
 have q0:=ay hc0
 have q1:=ay hc1
 have q1f:=aO hc1
 have HB:=hid hbW
 have HC0:=hid hc0
 have HC1:=hid hc1
 have hz0:w.heap.size<W.heap.size:=by omega
 clear hbW hc0 hc1
 cases BW with
 |
  true =>
  simp only[Bool.true_and]
  cases BT with
  |
   true =>
   simp only[Bool.true_and]
   go_enter Tryz.func47,Tryz.ntmps47
   go_wp2_with (first | (refine wpList_store_row rfl 29 (.tmp 3) (.tmp 5) rfl (w.heap.size+1) #[.int .i64 5,.string (aj tn),.slice a1 n1 c1,.string (aj prim),.slice a2 n2 c2,.slice a3 n3 c3,.slice a4 n4 c4,.string (aj jn),.slice a5 n5 c5,.slice a6 n6 c6,.slice a7 n7 c7,.slice a8 n8 c8,.bool desc,.int .i64 lim] rfl rfl 29 #[.int .i64 0,.string ⟨#[]⟩,.slice none 0 0,.string ⟨#[]⟩,.slice none 0 0,.slice none 0 0,.slice none 0 0,.string ⟨#[]⟩,.slice none 0 0,.slice none 0 0,.slice none 0 0,.slice none 0 0,.bool false,.int .i64 0] (heap_alloc2_new w _ _) Tryz.dh rfl rfl ?_;rw[aV]) | fail)
   try rw[hW]
   clear hW
   refine (HWH.out W HB.out).mono ?_
   rintro e v1 ⟨rfl,hb⟩
   have BL_v1:=hid (hb)
   have p0:=ay ((BL_v1.out.block w.heap.size hz0).trans HC0.out)
   have p1:=ay ((BL_v1.out.block (w.heap.size+1) hzW).trans HC1.out)
   have p1f:=aO ((BL_v1.out.block (w.heap.size+1) hzW).trans HC1.out)
   clear hb q0 q1 q1f
   obtain⟨X,hX,hXc,hXs⟩:=bG [(9,.slice none 0 0)] v1 _ ((BL_v1.out.block (w.heap.size+1) hzW).trans HC1.out)
   simp only[List.foldl_cons,List.foldl_nil] at hX
   have HXB:Hid (Below w.heap.size w X):=hid ((HB.out.trans (BL_v1.out.mono HB.out.size)).trans (hXs.below (B:=w.heap.size) (fun i hi=>by omega) (by have:=BL_v1.out.size;omega)))
   have hx0:=ay ((hXs.block w.heap.size (by have:=BL_v1.out.size;omega) (by omega)).trans ((BL_v1.out.block w.heap.size hz0).trans HC0.out))
   have HX1:Hid (X.heap[w.heap.size+1]?=some (.cells #[.int .i64 0,.string ⟨#[]⟩,.slice a1 n1 c1,.string (aj prim),.slice a2 n2 c2,.slice a3 n3 c3,.slice a4 n4 c4,.string (aj jn),.slice a5 n5 c5,.slice none 0 0,.slice a7 n7 c7,.slice a8 n8 c8,.bool desc,.int .i64 lim] 29)):=hid hXc
   have hXz:w.heap.size+1<X.heap.size:=World.lt_of_block HX1.out
   clear hXc hXs
   go_wp2_with fail
   try rw[hX]
   refine (HNT.out X).mono ?_
   rintro e w8 ⟨rfl,hb8⟩
   have HB8:=hid (HXB.out.trans (hb8.mono HXB.out.size))
   have hx1:=ay ((hb8.block (w.heap.size+1) hXz).trans HX1.out)
   clear hb8
   have HE:=hid (HEM.out w8 prim jn desc lim a1 a2 a3 a4 a5 none a7 a8 n1 n2 n3 n4 n5 0 n7 n8 c1 c2 c3 c4 c5 0 c7 c8)
   go_wp2_with fail
   refine HE.out.mono ?_
   rintro e w9 ⟨rfl,hb9⟩
   have HB9:=hid (HB8.out.trans (hb9.mono HB8.out.size))
   clear hb9
   go_wp2
   go_ret
   exact⟨rfl,HB9.out⟩
  |
   false =>
   simp only[Bool.false_and]
   go_enter Tryz.func47,Tryz.ntmps47
   go_wp2_with (first | (refine wpList_store_row rfl 29 (.tmp 3) (.tmp 5) rfl (w.heap.size+1) #[.int .i64 5,.string (aj tn),.slice a1 n1 c1,.string (aj prim),.slice a2 n2 c2,.slice a3 n3 c3,.slice a4 n4 c4,.string (aj jn),.slice a5 n5 c5,.slice a6 n6 c6,.slice a7 n7 c7,.slice a8 n8 c8,.bool desc,.int .i64 lim] rfl rfl 29 #[.int .i64 0,.string ⟨#[]⟩,.slice none 0 0,.string ⟨#[]⟩,.slice none 0 0,.slice none 0 0,.slice none 0 0,.string ⟨#[]⟩,.slice none 0 0,.slice none 0 0,.slice none 0 0,.slice none 0 0,.bool false,.int .i64 0] (heap_alloc2_new w _ _) Tryz.dh rfl rfl ?_;rw[aV]) | fail)
   try rw[hW]
   clear hW
   refine (HWH.out W HB.out).mono ?_
   rintro e v1 ⟨rfl,hb⟩
   have BL_v1:=hid (hb)
   have p0:=ay ((BL_v1.out.block w.heap.size hz0).trans HC0.out)
   have p1:=ay ((BL_v1.out.block (w.heap.size+1) hzW).trans HC1.out)
   have p1f:=aO ((BL_v1.out.block (w.heap.size+1) hzW).trans HC1.out)
   clear hb q0 q1 q1f
   obtain⟨X,hX,hXc,hXs⟩:=bG [(9,.slice none 0 0)] v1 _ ((BL_v1.out.block (w.heap.size+1) hzW).trans HC1.out)
   simp only[List.foldl_cons,List.foldl_nil] at hX
   have HXB:Hid (Below w.heap.size w X):=hid ((HB.out.trans (BL_v1.out.mono HB.out.size)).trans (hXs.below (B:=w.heap.size) (fun i hi=>by omega) (by have:=BL_v1.out.size;omega)))
   have hx0:=ay ((hXs.block w.heap.size (by have:=BL_v1.out.size;omega) (by omega)).trans ((BL_v1.out.block w.heap.size hz0).trans HC0.out))
   have HX1:Hid (X.heap[w.heap.size+1]?=some (.cells #[.int .i64 0,.string ⟨#[]⟩,.slice a1 n1 c1,.string (aj prim),.slice a2 n2 c2,.slice a3 n3 c3,.slice a4 n4 c4,.string (aj jn),.slice a5 n5 c5,.slice none 0 0,.slice a7 n7 c7,.slice a8 n8 c8,.bool desc,.int .i64 lim] 29)):=hid hXc
   have hXz:w.heap.size+1<X.heap.size:=World.lt_of_block HX1.out
   clear hXc hXs
   go_wp2_with fail
   try rw[hX]
   refine (HNT.out X).mono ?_
   rintro e w8 ⟨rfl,hb8⟩
   have HB8:=hid (HXB.out.trans (hb8.mono HXB.out.size))
   clear hb8
   go_wp2
   go_ret
   exact⟨rfl,HB8.out⟩
 |
  false =>
  simp only[Bool.false_and,Bool.true_and]
  go_enter Tryz.func47,Tryz.ntmps47
  go_wp2_with (first | (refine wpList_store_row rfl 29 (.tmp 3) (.tmp 5) rfl (w.heap.size+1) #[.int .i64 5,.string (aj tn),.slice a1 n1 c1,.string (aj prim),.slice a2 n2 c2,.slice a3 n3 c3,.slice a4 n4 c4,.string (aj jn),.slice a5 n5 c5,.slice a6 n6 c6,.slice a7 n7 c7,.slice a8 n8 c8,.bool desc,.int .i64 lim] rfl rfl 29 #[.int .i64 0,.string ⟨#[]⟩,.slice none 0 0,.string ⟨#[]⟩,.slice none 0 0,.slice none 0 0,.slice none 0 0,.string ⟨#[]⟩,.slice none 0 0,.slice none 0 0,.slice none 0 0,.slice none 0 0,.bool false,.int .i64 0] (heap_alloc2_new w _ _) Tryz.dh rfl rfl ?_;rw[aV]) | fail)
  try rw[hW]
  clear hW
  refine (HWH.out W HB.out).mono ?_
  rintro e v1 ⟨rfl,hb⟩
  have BL_v1:=hid (hb)
  have p0:=ay ((BL_v1.out.block w.heap.size hz0).trans HC0.out)
  have p1:=ay ((BL_v1.out.block (w.heap.size+1) hzW).trans HC1.out)
  have p1f:=aO ((BL_v1.out.block (w.heap.size+1) hzW).trans HC1.out)
  clear hb q0 q1 q1f
  obtain⟨X,hX,hXc,hXs⟩:=bG [(9,.slice none 0 0)] v1 _ ((BL_v1.out.block (w.heap.size+1) hzW).trans HC1.out)
  simp only[List.foldl_cons,List.foldl_nil] at hX
  have HXB:Hid (Below w.heap.size w X):=hid ((HB.out.trans (BL_v1.out.mono HB.out.size)).trans (hXs.below (B:=w.heap.size) (fun i hi=>by omega) (by have:=BL_v1.out.size;omega)))
  have hx0:=ay ((hXs.block w.heap.size (by have:=BL_v1.out.size;omega) (by omega)).trans ((BL_v1.out.block w.heap.size hz0).trans HC0.out))
  have HX1:Hid (X.heap[w.heap.size+1]?=some (.cells #[.int .i64 0,.string ⟨#[]⟩,.slice a1 n1 c1,.string (aj prim),.slice a2 n2 c2,.slice a3 n3 c3,.slice a4 n4 c4,.string (aj jn),.slice a5 n5 c5,.slice none 0 0,.slice a7 n7 c7,.slice a8 n8 c8,.bool desc,.int .i64 lim] 29)):=hid hXc
  have hXz:w.heap.size+1<X.heap.size:=World.lt_of_block HX1.out
  clear hXc hXs
  go_wp2
  go_ret
  exact⟨rfl,HXB.out⟩
end Go.Proofs.YtfeglkleoijlaaaGreatDoor
