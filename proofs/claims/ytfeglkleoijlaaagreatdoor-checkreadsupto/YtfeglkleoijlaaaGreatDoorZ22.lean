/- Packed for the hand-in: WRightW WRightW1 WRightW2 WRightW3 -/
import Derived.Test.YtfeglkleoijlaaaGreatDoorZ20
import Derived.Test.YtfeglkleoijlaaaGreatDoorZ21
import Derived.Test.YtfeglkleoijlaaaGreatDoorZ17
namespace Go.Proofs.YtfeglkleoijlaaaGreatDoor
open Go.RowKit Go.Shelf
set_option linter.unusedSimpArgs false
set_option linter.unusedVariables false
set_option maxRecDepth 20000
set_option maxHeartbeats 8000000
theorem aO {w:World} {g:Nat} {d0 d1 d2 d3 d4 d5 d6 d7 d8 d9 d10 d11 d12 d13:Value} {t:TypeId} (h:w.heap[g]?=some (.cells #[d0,d1,d2,d3,d4,d5,d6,d7,d8,d9,d10,d11,d12,d13] t)):∀i,w.frozen? ⟨g,i,none⟩=false:=fun i=>by simp[World.frozen?,h]
theorem bG {b:Nat} {t:TypeId}:∀(l:List (Nat × Value)) (w:World) (cs:Array Value),w.heap[b]?=some (.cells cs t) →
  ∃X,l.foldl (fun W p=>W.setCell ⟨b,p.1,none⟩ p.2) w=X∧X.heap[b]?=some (.cells (l.foldl (fun c p=>c.setIfInBounds p.1 p.2) cs) t)∧aA (fun k=>k=b) w X
 | [],w,cs,h=>⟨w,rfl,h,aA.refl _ _⟩
 |
  p::l,w,cs,h=>by
  have h1:(w.setCell ⟨b,p.1,none⟩ p.2).heap[b]?=some (.cells (cs.setIfInBounds p.1 p.2) t):=by
   rw[setCell_eq_setRow w b p.1 _ _ _ p.2 h,setRow_heap w b _ _ _ _ h]
  obtain⟨X,hX,h2,h3⟩:=bG l _ _ h1
  exact⟨X,hX,h2,(aA.setCell (S:=fun k=>k=b) (aA.refl _ w) (p:=⟨b,p.1,none⟩) (.inl rfl) p.2).then h3⟩
theorem eG (w:World) (k:Int) (tn:List UInt8) (prim jn:List UInt8) (desc:Bool) (lim:Int) (a1 a2 a3 a4 a5 a6 a7 a8:Option Addr) (n1 n2 n3 n4 n5 n6 n7 n8 c1 c2 c3 c4 c5 c6 c7 c8:Nat) :
  ∃W,(w.alloc (.cells #[.int .i64 k,.string (aj tn),.slice a1 n1 c1,.string (aj prim),.slice a2 n2 c2,.slice a3 n3 c3,.slice a4 n4 c4,.string (aj jn),.slice a5 n5 c5,.slice a6 n6 c6,.slice a7 n7 c7,.slice a8 n8 c8,.bool desc,.int .i64 lim] 29)).alloc (.cells #[.int .i64 0,.string ⟨#[]⟩,.slice a1 n1 c1,.string (aj prim),.slice a2 n2 c2,.slice a3 n3 c3,.slice a4 n4 c4,.string (aj jn),.slice a5 n5 c5,.slice a6 n6 c6,.slice a7 n7 c7,.slice a8 n8 c8,.bool desc,.int .i64 lim] 29)=W∧Below w.heap.size w W∧w.heap.size+1<W.heap.size∧W.heap[w.heap.size]?=some (.cells #[.int .i64 k,.string (aj tn),.slice a1 n1 c1,.string (aj prim),.slice a2 n2 c2,.slice a3 n3 c3,.slice a4 n4 c4,.string (aj jn),.slice a5 n5 c5,.slice a6 n6 c6,.slice a7 n7 c7,.slice a8 n8 c8,.bool desc,.int .i64 lim] 29)∧W.heap[w.heap.size+1]?=some (.cells #[.int .i64 0,.string ⟨#[]⟩,.slice a1 n1 c1,.string (aj prim),.slice a2 n2 c2,.slice a3 n3 c3,.slice a4 n4 c4,.string (aj jn),.slice a5 n5 c5,.slice a6 n6 c6,.slice a7 n7 c7,.slice a8 n8 c8,.bool desc,.int .i64 lim] 29):=by
 refine ⟨_,rfl,((Below.refl _ w).alloc (Nat.le_refl _) _).alloc (by simp) _,by simp,?_,heap_alloc2_new w _ _⟩
 rw[Below.heap_alloc _ _ _ (by simp)]
 exact heap_alloc_new w _
structure xH (s:St):Prop where
 tb:s.tb.length≤9223372036854775807
 prim:s.prim.length≤9223372036854775807
 jn:s.jn.length≤9223372036854775807
 lim:s.lim≤9223372036854775807
 cols : ∀c∈s.cols,c.nm.length≤9223372036854775807
 rows : ∀r∈s.rows,∀v∈r,Jc v
 sets : ∀x∈s.sets,x.nm.length≤9223372036854775807∧jD x.e
 items : ∀i∈s.items,∀x∈i.xs,jD x
 on : ∀x∈s.on,jD x
 wh : ∀x∈s.wh,jD x
 gr : ∀x∈s.gr,jD x
 od : ∀x∈s.od,jD x
theorem jo (s:St) (hk:s.k=0) (ht:s.tb=[]):wK s=jU s.cols.length s.prim s.rows.length s.sets.length s.items.length s.jn s.on.length s.wh.length s.gr.length s.od.length s.desc s.lim:=by
 unfold wK jU
 rw[Bool.eq_iff_iff]
 simp only[Bool.and_eq_true,decide_eq_true_eq,Bool.not_eq_true',hk,ht,true_and]
theorem sO (w:World) (tn prim jn:List UInt8) (desc:Bool) (lim:Int) (a1 a2 a3 a4 a5 a6 a7 a8:Option Addr) (n1 n2 n3 n4 n5 n6 n7 n8 c1 c2 c3 c4 c5 c6 c7 c8:Nat) (BC BP BT:Bool)
  (HCO:Hid (∀V,Below w.heap.size w V→Calls Tryz.prog 88 #[.slice a1 n1 c1,.int .i64 1,.int .i64 8,.func (.func 89) #[] #[]] V fun e w'=>e = .returned (.bool BC)∧Below V.heap.size V w')) (HNP:Hid (∀V,Calls Tryz.prog 90 #[.string (aj prim)] V fun e w'=>e = .returned (.bool BP)∧Below V.heap.size V w')) (HNT:Hid (∀V,Calls Tryz.prog 90 #[.string (aj tn)] V fun e w'=>e = .returned (.bool BT)∧Below V.heap.size V w')) :
  Calls Tryz.prog 47 #[.agg #[.int .i64 1,.string (aj tn),.slice a1 n1 c1,.string (aj prim),.slice a2 n2 c2,.slice a3 n3 c3,.slice a4 n4 c4,.string (aj jn),.slice a5 n5 c5,.slice a6 n6 c6,.slice a7 n7 c7,.slice a8 n8 c8,.bool desc,.int .i64 lim]] w fun e w'=>e = .returned (.bool ((BC&&BP)&&(BT&&jU 0 [] n2 n3 n4 jn n5 n6 n7 n8 desc lim)))∧Below w.heap.size w w':=by
 have HEM:=hid (fun V=>cu (w:=V))
 obtain⟨W,hW,hbW,hzW,hc0,hc1⟩:=eG w 1 tn prim jn desc lim a1 a2 a3 a4 a5 a6 a7 a8 n1 n2 n3 n4 n5 n6 n7 n8 c1 c2 c3 c4 c5 c6 c7 c8
 have q0:=ay hc0
 have q1:=ay hc1
 have q1f:=aO hc1
 have HB:=hid hbW
 have HC0:=hid hc0
 have HC1:=hid hc1
 have hz0:w.heap.size<W.heap.size:=by omega
 clear hbW hc0 hc1
 cases BC with
 |
  true =>
  simp only[Bool.true_and]
  cases BP with
  |
   true =>
   simp only[Bool.true_and]
   cases BT with
   |
    true =>
    simp only[Bool.true_and]
    go_enter Tryz.func47,Tryz.ntmps47
    go_wp2_with (first | (refine wpList_store_row rfl 29 (.tmp 3) (.tmp 5) rfl (w.heap.size+1) #[.int .i64 1,.string (aj tn),.slice a1 n1 c1,.string (aj prim),.slice a2 n2 c2,.slice a3 n3 c3,.slice a4 n4 c4,.string (aj jn),.slice a5 n5 c5,.slice a6 n6 c6,.slice a7 n7 c7,.slice a8 n8 c8,.bool desc,.int .i64 lim] rfl rfl 29 #[.int .i64 0,.string ⟨#[]⟩,.slice none 0 0,.string ⟨#[]⟩,.slice none 0 0,.slice none 0 0,.slice none 0 0,.string ⟨#[]⟩,.slice none 0 0,.slice none 0 0,.slice none 0 0,.slice none 0 0,.bool false,.int .i64 0] (heap_alloc2_new w _ _) Tryz.dh rfl rfl ?_;rw[aV]) | fail)
    try rw[hW]
    clear hW
    refine (HCO.out W HB.out).mono ?_
    rintro e v1 ⟨rfl,hb⟩
    have BL_v1:=hid (hb)
    have p0:=ay ((BL_v1.out.block w.heap.size hz0).trans HC0.out)
    have p1:=ay ((BL_v1.out.block (w.heap.size+1) hzW).trans HC1.out)
    have p1f:=aO ((BL_v1.out.block (w.heap.size+1) hzW).trans HC1.out)
    clear hb q0 q1 q1f
    go_wp2_with fail
    refine (HNP.out v1).mono ?_
    rintro e v2 ⟨rfl,hb⟩
    have BL_v2:=hid (BL_v1.out.trans (hb.mono BL_v1.out.size))
    have p0:=ay ((BL_v2.out.block w.heap.size hz0).trans HC0.out)
    have p1:=ay ((BL_v2.out.block (w.heap.size+1) hzW).trans HC1.out)
    have p1f:=aO ((BL_v2.out.block (w.heap.size+1) hzW).trans HC1.out)
    clear hb
    obtain⟨X,hX,hXc,hXs⟩:=bG [(2,.slice none 0 0),(3,.string ⟨#[]⟩)] v2 _ ((BL_v2.out.block (w.heap.size+1) hzW).trans HC1.out)
    simp only[List.foldl_cons,List.foldl_nil] at hX
    have HXB:Hid (Below w.heap.size w X):=hid ((HB.out.trans (BL_v2.out.mono HB.out.size)).trans (hXs.below (B:=w.heap.size) (fun i hi=>by omega) (by have:=BL_v2.out.size;omega)))
    have hx0:=ay ((hXs.block w.heap.size (by have:=BL_v2.out.size;omega) (by omega)).trans ((BL_v2.out.block w.heap.size hz0).trans HC0.out))
    have HX1:Hid (X.heap[w.heap.size+1]?=some (.cells #[.int .i64 0,.string ⟨#[]⟩,.slice none 0 0,.string ⟨#[]⟩,.slice a2 n2 c2,.slice a3 n3 c3,.slice a4 n4 c4,.string (aj jn),.slice a5 n5 c5,.slice a6 n6 c6,.slice a7 n7 c7,.slice a8 n8 c8,.bool desc,.int .i64 lim] 29)):=hid hXc
    have hXz:w.heap.size+1<X.heap.size:=World.lt_of_block HX1.out
    clear hXc hXs
    go_wp2_with fail
    try rw[hX]
    refine (HNT.out X).mono ?_
    rintro e w8 ⟨rfl,hb8⟩
    have HB8:=hid (HXB.out.trans (hb8.mono HXB.out.size))
    have hx1:=ay ((hb8.block (w.heap.size+1) hXz).trans HX1.out)
    clear hb8
    have HE:=hid (HEM.out w8 [] jn desc lim none a2 a3 a4 a5 a6 a7 a8 0 n2 n3 n4 n5 n6 n7 n8 0 c2 c3 c4 c5 c6 c7 c8)
    go_wp2_with fail
    refine HE.out.mono ?_
    rintro e w9 ⟨rfl,hb9⟩
    have HB9:=hid (HB8.out.trans (hb9.mono HB8.out.size))
    clear hb9
    go_wp2
    go_ret
    exact⟨rfl,HB9.out⟩
   |
    false =>
    simp only[Bool.false_and]
    go_enter Tryz.func47,Tryz.ntmps47
    go_wp2_with (first | (refine wpList_store_row rfl 29 (.tmp 3) (.tmp 5) rfl (w.heap.size+1) #[.int .i64 1,.string (aj tn),.slice a1 n1 c1,.string (aj prim),.slice a2 n2 c2,.slice a3 n3 c3,.slice a4 n4 c4,.string (aj jn),.slice a5 n5 c5,.slice a6 n6 c6,.slice a7 n7 c7,.slice a8 n8 c8,.bool desc,.int .i64 lim] rfl rfl 29 #[.int .i64 0,.string ⟨#[]⟩,.slice none 0 0,.string ⟨#[]⟩,.slice none 0 0,.slice none 0 0,.slice none 0 0,.string ⟨#[]⟩,.slice none 0 0,.slice none 0 0,.slice none 0 0,.slice none 0 0,.bool false,.int .i64 0] (heap_alloc2_new w _ _) Tryz.dh rfl rfl ?_;rw[aV]) | fail)
    try rw[hW]
    clear hW
    refine (HCO.out W HB.out).mono ?_
    rintro e v1 ⟨rfl,hb⟩
    have BL_v1:=hid (hb)
    have p0:=ay ((BL_v1.out.block w.heap.size hz0).trans HC0.out)
    have p1:=ay ((BL_v1.out.block (w.heap.size+1) hzW).trans HC1.out)
    have p1f:=aO ((BL_v1.out.block (w.heap.size+1) hzW).trans HC1.out)
    clear hb q0 q1 q1f
    go_wp2_with fail
    refine (HNP.out v1).mono ?_
    rintro e v2 ⟨rfl,hb⟩
    have BL_v2:=hid (BL_v1.out.trans (hb.mono BL_v1.out.size))
    have p0:=ay ((BL_v2.out.block w.heap.size hz0).trans HC0.out)
    have p1:=ay ((BL_v2.out.block (w.heap.size+1) hzW).trans HC1.out)
    have p1f:=aO ((BL_v2.out.block (w.heap.size+1) hzW).trans HC1.out)
    clear hb
    obtain⟨X,hX,hXc,hXs⟩:=bG [(2,.slice none 0 0),(3,.string ⟨#[]⟩)] v2 _ ((BL_v2.out.block (w.heap.size+1) hzW).trans HC1.out)
    simp only[List.foldl_cons,List.foldl_nil] at hX
    have HXB:Hid (Below w.heap.size w X):=hid ((HB.out.trans (BL_v2.out.mono HB.out.size)).trans (hXs.below (B:=w.heap.size) (fun i hi=>by omega) (by have:=BL_v2.out.size;omega)))
    have hx0:=ay ((hXs.block w.heap.size (by have:=BL_v2.out.size;omega) (by omega)).trans ((BL_v2.out.block w.heap.size hz0).trans HC0.out))
    have HX1:Hid (X.heap[w.heap.size+1]?=some (.cells #[.int .i64 0,.string ⟨#[]⟩,.slice none 0 0,.string ⟨#[]⟩,.slice a2 n2 c2,.slice a3 n3 c3,.slice a4 n4 c4,.string (aj jn),.slice a5 n5 c5,.slice a6 n6 c6,.slice a7 n7 c7,.slice a8 n8 c8,.bool desc,.int .i64 lim] 29)):=hid hXc
    have hXz:w.heap.size+1<X.heap.size:=World.lt_of_block HX1.out
    clear hXc hXs
    go_wp2_with fail
    try rw[hX]
    refine (HNT.out X).mono ?_
    rintro e w8 ⟨rfl,hb8⟩
    have HB8:=hid (HXB.out.trans (hb8.mono HXB.out.size))
    clear hb8
    go_wp2
    go_ret
    exact⟨rfl,HB8.out⟩
  |
   false =>
   simp only[Bool.false_and,Bool.true_and]
   go_enter Tryz.func47,Tryz.ntmps47
   go_wp2_with (first | (refine wpList_store_row rfl 29 (.tmp 3) (.tmp 5) rfl (w.heap.size+1) #[.int .i64 1,.string (aj tn),.slice a1 n1 c1,.string (aj prim),.slice a2 n2 c2,.slice a3 n3 c3,.slice a4 n4 c4,.string (aj jn),.slice a5 n5 c5,.slice a6 n6 c6,.slice a7 n7 c7,.slice a8 n8 c8,.bool desc,.int .i64 lim] rfl rfl 29 #[.int .i64 0,.string ⟨#[]⟩,.slice none 0 0,.string ⟨#[]⟩,.slice none 0 0,.slice none 0 0,.slice none 0 0,.string ⟨#[]⟩,.slice none 0 0,.slice none 0 0,.slice none 0 0,.slice none 0 0,.bool false,.int .i64 0] (heap_alloc2_new w _ _) Tryz.dh rfl rfl ?_;rw[aV]) | fail)
   try rw[hW]
   clear hW
   refine (HCO.out W HB.out).mono ?_
   rintro e v1 ⟨rfl,hb⟩
   have BL_v1:=hid (hb)
   have p0:=ay ((BL_v1.out.block w.heap.size hz0).trans HC0.out)
   have p1:=ay ((BL_v1.out.block (w.heap.size+1) hzW).trans HC1.out)
   have p1f:=aO ((BL_v1.out.block (w.heap.size+1) hzW).trans HC1.out)
   clear hb q0 q1 q1f
   go_wp2_with fail
   refine (HNP.out v1).mono ?_
   rintro e v2 ⟨rfl,hb⟩
   have BL_v2:=hid (BL_v1.out.trans (hb.mono BL_v1.out.size))
   have p0:=ay ((BL_v2.out.block w.heap.size hz0).trans HC0.out)
   have p1:=ay ((BL_v2.out.block (w.heap.size+1) hzW).trans HC1.out)
   have p1f:=aO ((BL_v2.out.block (w.heap.size+1) hzW).trans HC1.out)
   clear hb
   obtain⟨X,hX,hXc,hXs⟩:=bG [(2,.slice none 0 0),(3,.string ⟨#[]⟩)] v2 _ ((BL_v2.out.block (w.heap.size+1) hzW).trans HC1.out)
   simp only[List.foldl_cons,List.foldl_nil] at hX
   have HXB:Hid (Below w.heap.size w X):=hid ((HB.out.trans (BL_v2.out.mono HB.out.size)).trans (hXs.below (B:=w.heap.size) (fun i hi=>by omega) (by have:=BL_v2.out.size;omega)))
   have hx0:=ay ((hXs.block w.heap.size (by have:=BL_v2.out.size;omega) (by omega)).trans ((BL_v2.out.block w.heap.size hz0).trans HC0.out))
   have HX1:Hid (X.heap[w.heap.size+1]?=some (.cells #[.int .i64 0,.string ⟨#[]⟩,.slice none 0 0,.string ⟨#[]⟩,.slice a2 n2 c2,.slice a3 n3 c3,.slice a4 n4 c4,.string (aj jn),.slice a5 n5 c5,.slice a6 n6 c6,.slice a7 n7 c7,.slice a8 n8 c8,.bool desc,.int .i64 lim] 29)):=hid hXc
   have hXz:w.heap.size+1<X.heap.size:=World.lt_of_block HX1.out
   clear hXc hXs
   go_wp2
   go_ret
   exact⟨rfl,HXB.out⟩
 |
  false =>
  simp only[Bool.false_and,Bool.true_and]
  go_enter Tryz.func47,Tryz.ntmps47
  go_wp2_with (first | (refine wpList_store_row rfl 29 (.tmp 3) (.tmp 5) rfl (w.heap.size+1) #[.int .i64 1,.string (aj tn),.slice a1 n1 c1,.string (aj prim),.slice a2 n2 c2,.slice a3 n3 c3,.slice a4 n4 c4,.string (aj jn),.slice a5 n5 c5,.slice a6 n6 c6,.slice a7 n7 c7,.slice a8 n8 c8,.bool desc,.int .i64 lim] rfl rfl 29 #[.int .i64 0,.string ⟨#[]⟩,.slice none 0 0,.string ⟨#[]⟩,.slice none 0 0,.slice none 0 0,.slice none 0 0,.string ⟨#[]⟩,.slice none 0 0,.slice none 0 0,.slice none 0 0,.slice none 0 0,.bool false,.int .i64 0] (heap_alloc2_new w _ _) Tryz.dh rfl rfl ?_;rw[aV]) | fail)
  try rw[hW]
  clear hW
  refine (HCO.out W HB.out).mono ?_
  rintro e v1 ⟨rfl,hb⟩
  have BL_v1:=hid (hb)
  have p0:=ay ((BL_v1.out.block w.heap.size hz0).trans HC0.out)
  have p1:=ay ((BL_v1.out.block (w.heap.size+1) hzW).trans HC1.out)
  have p1f:=aO ((BL_v1.out.block (w.heap.size+1) hzW).trans HC1.out)
  clear hb q0 q1 q1f
  obtain⟨X,hX,hXc,hXs⟩:=bG [(2,.slice none 0 0),(3,.string ⟨#[]⟩)] v1 _ ((BL_v1.out.block (w.heap.size+1) hzW).trans HC1.out)
  simp only[List.foldl_cons,List.foldl_nil] at hX
  have HXB:Hid (Below w.heap.size w X):=hid ((HB.out.trans (BL_v1.out.mono HB.out.size)).trans (hXs.below (B:=w.heap.size) (fun i hi=>by omega) (by have:=BL_v1.out.size;omega)))
  have hx0:=ay ((hXs.block w.heap.size (by have:=BL_v1.out.size;omega) (by omega)).trans ((BL_v1.out.block w.heap.size hz0).trans HC0.out))
  have HX1:Hid (X.heap[w.heap.size+1]?=some (.cells #[.int .i64 0,.string ⟨#[]⟩,.slice none 0 0,.string ⟨#[]⟩,.slice a2 n2 c2,.slice a3 n3 c3,.slice a4 n4 c4,.string (aj jn),.slice a5 n5 c5,.slice a6 n6 c6,.slice a7 n7 c7,.slice a8 n8 c8,.bool desc,.int .i64 lim] 29)):=hid hXc
  have hXz:w.heap.size+1<X.heap.size:=World.lt_of_block HX1.out
  clear hXc hXs
  go_wp2
  go_ret
  exact⟨rfl,HXB.out⟩
theorem Bu (w:World) (tn prim jn:List UInt8) (desc:Bool) (lim:Int) (a1 a2 a3 a4 a5 a6 a7 a8:Option Addr) (n1 n2 n3 n4 n5 n6 n7 n8 c1 c2 c3 c4 c5 c6 c7 c8:Nat) (BT:Bool)
  (HNT:Hid (∀V,Calls Tryz.prog 90 #[.string (aj tn)] V fun e w'=>e = .returned (.bool BT)∧Below V.heap.size V w')) :
  Calls Tryz.prog 47 #[.agg #[.int .i64 2,.string (aj tn),.slice a1 n1 c1,.string (aj prim),.slice a2 n2 c2,.slice a3 n3 c3,.slice a4 n4 c4,.string (aj jn),.slice a5 n5 c5,.slice a6 n6 c6,.slice a7 n7 c7,.slice a8 n8 c8,.bool desc,.int .i64 lim]] w fun e w'=>e = .returned (.bool (true&&(BT&&jU n1 prim n2 n3 n4 jn n5 n6 n7 n8 desc lim)))∧Below w.heap.size w w':=by
 have HEM:=hid (fun V=>cu (w:=V))
 obtain⟨W,hW,hbW,hzW,hc0,hc1⟩:=eG w 2 tn prim jn desc lim a1 a2 a3 a4 a5 a6 a7 a8 n1 n2 n3 n4 n5 n6 n7 n8 c1 c2 c3 c4 c5 c6 c7 c8
 have q0:=ay hc0
 have q1:=ay hc1
 have q1f:=aO hc1
 have HB:=hid hbW
 have HC0:=hid hc0
 have HC1:=hid hc1
 have hz0:w.heap.size<W.heap.size:=by omega
 clear hbW hc0 hc1
 simp only[Bool.true_and]
 cases BT with
 |
  true =>
  simp only[Bool.true_and]
  go_enter Tryz.func47,Tryz.ntmps47
  go_wp2_with (first | (refine wpList_store_row rfl 29 (.tmp 3) (.tmp 5) rfl (w.heap.size+1) #[.int .i64 2,.string (aj tn),.slice a1 n1 c1,.string (aj prim),.slice a2 n2 c2,.slice a3 n3 c3,.slice a4 n4 c4,.string (aj jn),.slice a5 n5 c5,.slice a6 n6 c6,.slice a7 n7 c7,.slice a8 n8 c8,.bool desc,.int .i64 lim] rfl rfl 29 #[.int .i64 0,.string ⟨#[]⟩,.slice none 0 0,.string ⟨#[]⟩,.slice none 0 0,.slice none 0 0,.slice none 0 0,.string ⟨#[]⟩,.slice none 0 0,.slice none 0 0,.slice none 0 0,.slice none 0 0,.bool false,.int .i64 0] (heap_alloc2_new w _ _) Tryz.dh rfl rfl ?_;rw[aV]) | fail)
  try rw[hW]
  clear hW
  have BL_W:=hid (Below.refl W.heap.size W)
  obtain⟨X,hXe⟩:∃X,X=W:=⟨_,rfl⟩
  subst hXe
  have HXB:Hid (Below w.heap.size w X):=hid (HB.out.trans (BL_W.out.mono HB.out.size))
  have HX1:Hid (X.heap[w.heap.size+1]?=some (.cells #[.int .i64 0,.string ⟨#[]⟩,.slice a1 n1 c1,.string (aj prim),.slice a2 n2 c2,.slice a3 n3 c3,.slice a4 n4 c4,.string (aj jn),.slice a5 n5 c5,.slice a6 n6 c6,.slice a7 n7 c7,.slice a8 n8 c8,.bool desc,.int .i64 lim] 29)):=hid ((BL_W.out.block (w.heap.size+1) hzW).trans HC1.out)
  have hXz:w.heap.size+1<X.heap.size:=World.lt_of_block HX1.out
  go_wp2_with fail
  skip
  refine (HNT.out X).mono ?_
  rintro e w8 ⟨rfl,hb8⟩
  have HB8:=hid (HXB.out.trans (hb8.mono HXB.out.size))
  have hx1:=ay ((hb8.block (w.heap.size+1) hXz).trans HX1.out)
  clear hb8
  have HE:=hid (HEM.out w8 prim jn desc lim a1 a2 a3 a4 a5 a6 a7 a8 n1 n2 n3 n4 n5 n6 n7 n8 c1 c2 c3 c4 c5 c6 c7 c8)
  go_wp2_with fail
  refine HE.out.mono ?_
  rintro e w9 ⟨rfl,hb9⟩
  have HB9:=hid (HB8.out.trans (hb9.mono HB8.out.size))
  clear hb9
  go_wp2
  go_ret
  exact⟨rfl,HB9.out⟩
 |
  false =>
  simp only[Bool.false_and]
  go_enter Tryz.func47,Tryz.ntmps47
  go_wp2_with (first | (refine wpList_store_row rfl 29 (.tmp 3) (.tmp 5) rfl (w.heap.size+1) #[.int .i64 2,.string (aj tn),.slice a1 n1 c1,.string (aj prim),.slice a2 n2 c2,.slice a3 n3 c3,.slice a4 n4 c4,.string (aj jn),.slice a5 n5 c5,.slice a6 n6 c6,.slice a7 n7 c7,.slice a8 n8 c8,.bool desc,.int .i64 lim] rfl rfl 29 #[.int .i64 0,.string ⟨#[]⟩,.slice none 0 0,.string ⟨#[]⟩,.slice none 0 0,.slice none 0 0,.slice none 0 0,.string ⟨#[]⟩,.slice none 0 0,.slice none 0 0,.slice none 0 0,.slice none 0 0,.bool false,.int .i64 0] (heap_alloc2_new w _ _) Tryz.dh rfl rfl ?_;rw[aV]) | fail)
  try rw[hW]
  clear hW
  have BL_W:=hid (Below.refl W.heap.size W)
  obtain⟨X,hXe⟩:∃X,X=W:=⟨_,rfl⟩
  subst hXe
  have HXB:Hid (Below w.heap.size w X):=hid (HB.out.trans (BL_W.out.mono HB.out.size))
  have HX1:Hid (X.heap[w.heap.size+1]?=some (.cells #[.int .i64 0,.string ⟨#[]⟩,.slice a1 n1 c1,.string (aj prim),.slice a2 n2 c2,.slice a3 n3 c3,.slice a4 n4 c4,.string (aj jn),.slice a5 n5 c5,.slice a6 n6 c6,.slice a7 n7 c7,.slice a8 n8 c8,.bool desc,.int .i64 lim] 29)):=hid ((BL_W.out.block (w.heap.size+1) hzW).trans HC1.out)
  have hXz:w.heap.size+1<X.heap.size:=World.lt_of_block HX1.out
  go_wp2_with fail
  skip
  refine (HNT.out X).mono ?_
  rintro e w8 ⟨rfl,hb8⟩
  have HB8:=hid (HXB.out.trans (hb8.mono HXB.out.size))
  clear hb8
  go_wp2
  go_ret
  exact⟨rfl,HB8.out⟩
theorem Aw (w:World) (tn prim jn:List UInt8) (desc:Bool) (lim:Int) (a1 a2 a3 a4 a5 a6 a7 a8:Option Addr) (n1 n2 n3 n4 n5 n6 n7 n8 c1 c2 c3 c4 c5 c6 c7 c8:Nat) (BR BT:Bool)
  (HRO:Hid (∀V,Below w.heap.size w V→Calls Tryz.prog 91 #[.slice a2 n2 c2,.int .i64 1,.int .i64 16,.func (.func 92) #[] #[]] V fun e w'=>e = .returned (.bool BR)∧Below V.heap.size V w')) (HNT:Hid (∀V,Calls Tryz.prog 90 #[.string (aj tn)] V fun e w'=>e = .returned (.bool BT)∧Below V.heap.size V w')) :
  Calls Tryz.prog 47 #[.agg #[.int .i64 3,.string (aj tn),.slice a1 n1 c1,.string (aj prim),.slice a2 n2 c2,.slice a3 n3 c3,.slice a4 n4 c4,.string (aj jn),.slice a5 n5 c5,.slice a6 n6 c6,.slice a7 n7 c7,.slice a8 n8 c8,.bool desc,.int .i64 lim]] w fun e w'=>e = .returned (.bool (BR&&(BT&&jU n1 prim 0 n3 n4 jn n5 n6 n7 n8 desc lim)))∧Below w.heap.size w w':=by
 have HEM:=hid (fun V=>cu (w:=V))
 obtain⟨W,hW,hbW,hzW,hc0,hc1⟩:=eG w 3 tn prim jn desc lim a1 a2 a3 a4 a5 a6 a7 a8 n1 n2 n3 n4 n5 n6 n7 n8 c1 c2 c3 c4 c5 c6 c7 c8
 have q0:=ay hc0
 have q1:=ay hc1
 have q1f:=aO hc1
 have HB:=hid hbW
 have HC0:=hid hc0
 have HC1:=hid hc1
 have hz0:w.heap.size<W.heap.size:=by omega
 clear hbW hc0 hc1
 cases BR with
 |
  true =>
  simp only[Bool.true_and]
  cases BT with
  |
   true =>
   simp only[Bool.true_and]
   go_enter Tryz.func47,Tryz.ntmps47
   go_wp2_with (first | (refine wpList_store_row rfl 29 (.tmp 3) (.tmp 5) rfl (w.heap.size+1) #[.int .i64 3,.string (aj tn),.slice a1 n1 c1,.string (aj prim),.slice a2 n2 c2,.slice a3 n3 c3,.slice a4 n4 c4,.string (aj jn),.slice a5 n5 c5,.slice a6 n6 c6,.slice a7 n7 c7,.slice a8 n8 c8,.bool desc,.int .i64 lim] rfl rfl 29 #[.int .i64 0,.string ⟨#[]⟩,.slice none 0 0,.string ⟨#[]⟩,.slice none 0 0,.slice none 0 0,.slice none 0 0,.string ⟨#[]⟩,.slice none 0 0,.slice none 0 0,.slice none 0 0,.slice none 0 0,.bool false,.int .i64 0] (heap_alloc2_new w _ _) Tryz.dh rfl rfl ?_;rw[aV]) | fail)
   try rw[hW]
   clear hW
   refine (HRO.out W HB.out).mono ?_
   rintro e v1 ⟨rfl,hb⟩
   have BL_v1:=hid (hb)
   have p0:=ay ((BL_v1.out.block w.heap.size hz0).trans HC0.out)
   have p1:=ay ((BL_v1.out.block (w.heap.size+1) hzW).trans HC1.out)
   have p1f:=aO ((BL_v1.out.block (w.heap.size+1) hzW).trans HC1.out)
   clear hb q0 q1 q1f
   obtain⟨X,hX,hXc,hXs⟩:=bG [(4,.slice none 0 0)] v1 _ ((BL_v1.out.block (w.heap.size+1) hzW).trans HC1.out)
   simp only[List.foldl_cons,List.foldl_nil] at hX
   have HXB:Hid (Below w.heap.size w X):=hid ((HB.out.trans (BL_v1.out.mono HB.out.size)).trans (hXs.below (B:=w.heap.size) (fun i hi=>by omega) (by have:=BL_v1.out.size;omega)))
   have hx0:=ay ((hXs.block w.heap.size (by have:=BL_v1.out.size;omega) (by omega)).trans ((BL_v1.out.block w.heap.size hz0).trans HC0.out))
   have HX1:Hid (X.heap[w.heap.size+1]?=some (.cells #[.int .i64 0,.string ⟨#[]⟩,.slice a1 n1 c1,.string (aj prim),.slice none 0 0,.slice a3 n3 c3,.slice a4 n4 c4,.string (aj jn),.slice a5 n5 c5,.slice a6 n6 c6,.slice a7 n7 c7,.slice a8 n8 c8,.bool desc,.int .i64 lim] 29)):=hid hXc
   have hXz:w.heap.size+1<X.heap.size:=World.lt_of_block HX1.out
   clear hXc hXs
   go_wp2_with fail
   try rw[hX]
   refine (HNT.out X).mono ?_
   rintro e w8 ⟨rfl,hb8⟩
   have HB8:=hid (HXB.out.trans (hb8.mono HXB.out.size))
   have hx1:=ay ((hb8.block (w.heap.size+1) hXz).trans HX1.out)
   clear hb8
   have HE:=hid (HEM.out w8 prim jn desc lim a1 none a3 a4 a5 a6 a7 a8 n1 0 n3 n4 n5 n6 n7 n8 c1 0 c3 c4 c5 c6 c7 c8)
   go_wp2_with fail
   refine HE.out.mono ?_
   rintro e w9 ⟨rfl,hb9⟩
   have HB9:=hid (HB8.out.trans (hb9.mono HB8.out.size))
   clear hb9
   go_wp2
   go_ret
   exact⟨rfl,HB9.out⟩
  |
   false =>
   simp only[Bool.false_and]
   go_enter Tryz.func47,Tryz.ntmps47
   go_wp2_with (first | (refine wpList_store_row rfl 29 (.tmp 3) (.tmp 5) rfl (w.heap.size+1) #[.int .i64 3,.string (aj tn),.slice a1 n1 c1,.string (aj prim),.slice a2 n2 c2,.slice a3 n3 c3,.slice a4 n4 c4,.string (aj jn),.slice a5 n5 c5,.slice a6 n6 c6,.slice a7 n7 c7,.slice a8 n8 c8,.bool desc,.int .i64 lim] rfl rfl 29 #[.int .i64 0,.string ⟨#[]⟩,.slice none 0 0,.string ⟨#[]⟩,.slice none 0 0,.slice none 0 0,.slice none 0 0,.string ⟨#[]⟩,.slice none 0 0,.slice none 0 0,.slice none 0 0,.slice none 0 0,.bool false,.int .i64 0] (heap_alloc2_new w _ _) Tryz.dh rfl rfl ?_;rw[aV]) | fail)
   try rw[hW]
   clear hW
   refine (HRO.out W HB.out).mono ?_
   rintro e v1 ⟨rfl,hb⟩
   have BL_v1:=hid (hb)
   have p0:=ay ((BL_v1.out.block w.heap.size hz0).trans HC0.out)
   have p1:=ay ((BL_v1.out.block (w.heap.size+1) hzW).trans HC1.out)
   have p1f:=aO ((BL_v1.out.block (w.heap.size+1) hzW).trans HC1.out)
   clear hb q0 q1 q1f
   obtain⟨X,hX,hXc,hXs⟩:=bG [(4,.slice none 0 0)] v1 _ ((BL_v1.out.block (w.heap.size+1) hzW).trans HC1.out)
   simp only[List.foldl_cons,List.foldl_nil] at hX
   have HXB:Hid (Below w.heap.size w X):=hid ((HB.out.trans (BL_v1.out.mono HB.out.size)).trans (hXs.below (B:=w.heap.size) (fun i hi=>by omega) (by have:=BL_v1.out.size;omega)))
   have hx0:=ay ((hXs.block w.heap.size (by have:=BL_v1.out.size;omega) (by omega)).trans ((BL_v1.out.block w.heap.size hz0).trans HC0.out))
   have HX1:Hid (X.heap[w.heap.size+1]?=some (.cells #[.int .i64 0,.string ⟨#[]⟩,.slice a1 n1 c1,.string (aj prim),.slice none 0 0,.slice a3 n3 c3,.slice a4 n4 c4,.string (aj jn),.slice a5 n5 c5,.slice a6 n6 c6,.slice a7 n7 c7,.slice a8 n8 c8,.bool desc,.int .i64 lim] 29)):=hid hXc
   have hXz:w.heap.size+1<X.heap.size:=World.lt_of_block HX1.out
   clear hXc hXs
   go_wp2_with fail
   try rw[hX]
   refine (HNT.out X).mono ?_
   rintro e w8 ⟨rfl,hb8⟩
   have HB8:=hid (HXB.out.trans (hb8.mono HXB.out.size))
   clear hb8
   go_wp2
   go_ret
   exact⟨rfl,HB8.out⟩
 |
  false =>
  simp only[Bool.false_and,Bool.true_and]
  go_enter Tryz.func47,Tryz.ntmps47
  go_wp2_with (first | (refine wpList_store_row rfl 29 (.tmp 3) (.tmp 5) rfl (w.heap.size+1) #[.int .i64 3,.string (aj tn),.slice a1 n1 c1,.string (aj prim),.slice a2 n2 c2,.slice a3 n3 c3,.slice a4 n4 c4,.string (aj jn),.slice a5 n5 c5,.slice a6 n6 c6,.slice a7 n7 c7,.slice a8 n8 c8,.bool desc,.int .i64 lim] rfl rfl 29 #[.int .i64 0,.string ⟨#[]⟩,.slice none 0 0,.string ⟨#[]⟩,.slice none 0 0,.slice none 0 0,.slice none 0 0,.string ⟨#[]⟩,.slice none 0 0,.slice none 0 0,.slice none 0 0,.slice none 0 0,.bool false,.int .i64 0] (heap_alloc2_new w _ _) Tryz.dh rfl rfl ?_;rw[aV]) | fail)
  try rw[hW]
  clear hW
  refine (HRO.out W HB.out).mono ?_
  rintro e v1 ⟨rfl,hb⟩
  have BL_v1:=hid (hb)
  have p0:=ay ((BL_v1.out.block w.heap.size hz0).trans HC0.out)
  have p1:=ay ((BL_v1.out.block (w.heap.size+1) hzW).trans HC1.out)
  have p1f:=aO ((BL_v1.out.block (w.heap.size+1) hzW).trans HC1.out)
  clear hb q0 q1 q1f
  obtain⟨X,hX,hXc,hXs⟩:=bG [(4,.slice none 0 0)] v1 _ ((BL_v1.out.block (w.heap.size+1) hzW).trans HC1.out)
  simp only[List.foldl_cons,List.foldl_nil] at hX
  have HXB:Hid (Below w.heap.size w X):=hid ((HB.out.trans (BL_v1.out.mono HB.out.size)).trans (hXs.below (B:=w.heap.size) (fun i hi=>by omega) (by have:=BL_v1.out.size;omega)))
  have hx0:=ay ((hXs.block w.heap.size (by have:=BL_v1.out.size;omega) (by omega)).trans ((BL_v1.out.block w.heap.size hz0).trans HC0.out))
  have HX1:Hid (X.heap[w.heap.size+1]?=some (.cells #[.int .i64 0,.string ⟨#[]⟩,.slice a1 n1 c1,.string (aj prim),.slice none 0 0,.slice a3 n3 c3,.slice a4 n4 c4,.string (aj jn),.slice a5 n5 c5,.slice a6 n6 c6,.slice a7 n7 c7,.slice a8 n8 c8,.bool desc,.int .i64 lim] 29)):=hid hXc
  have hXz:w.heap.size+1<X.heap.size:=World.lt_of_block HX1.out
  clear hXc hXs
  go_wp2
  go_ret
  exact⟨rfl,HXB.out⟩
end Go.Proofs.YtfeglkleoijlaaaGreatDoor
