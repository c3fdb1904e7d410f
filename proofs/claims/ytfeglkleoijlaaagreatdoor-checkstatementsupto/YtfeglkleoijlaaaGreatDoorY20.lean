import Derived.Test.YtfeglkleoijlaaaGreatDoorY19
namespace Go.Proofs.YtfeglkleoijlaaaGreatDoor
open Go.RowKit Go.Shelf
set_option linter.unusedSimpArgs false
set_option linter.unusedVariables false
set_option maxRecDepth 20000
set_option maxHeartbeats 8000000
theorem KC (w:World) (tn aD jn:List UInt8) (desc:Bool) (lim:Int) (a1 a2 a3 a4 a5 a6 a7 a8:Option Addr) (n1 n2 n3 n4 n5 n6 n7 n8 c1 c2 c3 c4 c5 c6 c7 c8:Nat) (BE BW BT:Bool)
  (Jm:Hid (∀V,Below w.heap.size w V→Calls Tryz.prog 93 #[.slice a3 n3 c3,.int .i64 1,.int .i64 8,.func (.func 94) #[] #[]] V fun e w'=>e = .returned (.bool BE)∧Below V.heap.size V w')) (DC:Hid (∀V,Below w.heap.size w V→Calls Tryz.prog 95 #[.slice a6 n6 c6,.int .i64 0,.int .i64 1,.func (.func 82) #[] #[]] V fun e w'=>e = .returned (.bool BW)∧Below V.heap.size V w')) (jI:Hid (∀V,Calls Tryz.prog 90 #[.string (aj tn)] V fun e w'=>e = .returned (.bool BT)∧Below V.heap.size V w')) :
  Calls Tryz.prog 47 #[.agg #[.int .i64 4,.string (aj tn),.slice a1 n1 c1,.string (aj aD),.slice a2 n2 c2,.slice a3 n3 c3,.slice a4 n4 c4,.string (aj jn),.slice a5 n5 c5,.slice a6 n6 c6,.slice a7 n7 c7,.slice a8 n8 c8,.bool desc,.int .i64 lim]] w fun e w'=>e = .returned (.bool ((BE&&BW)&&(BT&&qj n1 aD n2 0 n4 jn n5 0 n7 n8 desc lim)))∧Below w.heap.size w w':=by
 have Cy:=hid (fun V=>dL (w:=V))
 obtain⟨W,hW,hbW,aJ,hc0,hc1⟩:=iB w 4 tn aD jn desc lim a1 a2 a3 a4 a5 a6 a7 a8 n1 n2 n3 n4 n5 n6 n7 n8 c1 c2 c3 c4 c5 c6 c7 c8
 have q0:=au hc0
 have q1:=au hc1
 have wY:=aT hc1
 have HB:=hid hbW
 have dI:=hid hc0
 have dB:=hid hc1
 have hz0:w.heap.size<W.heap.size:=by omega
 clear hbW hc0 hc1
 cases BE with
 |
  true =>
  simp only[aaA]
  cases BW with
  |
   true =>
   simp only[aaA]
   cases BT with
   |
    true =>
    simp only[aaA]
    go_enter Tryz.func47,Tryz.ntmps47
    go_wp2_with (first | (refine lC (heap_alloc2_new w _ _) ?_;rw[aY]) | fail)
    try rw[hW]
    clear hW
    refine (Jm.out W HB.out).mono ?_
    rintro e v1 ⟨rfl,hb⟩
    have aL:=hid (hb)
    have p0:=au ((aL.out.block w.heap.size hz0).trans dI.out)
    have p1:=au ((aL.out.block (w.heap.size+1) aJ).trans dB.out)
    have zf:=aT ((aL.out.block (w.heap.size+1) aJ).trans dB.out)
    clear hb q0 q1 wY
    go_wp2_with fail
    refine (DC.out v1 (HB.out.trans (aL.out.mono HB.out.size))).mono ?_
    rintro e v2 ⟨rfl,hb⟩
    have bR:=htr aL hb
    have p0:=au ((bR.out.block w.heap.size hz0).trans dI.out)
    have p1:=au ((bR.out.block (w.heap.size+1) aJ).trans dB.out)
    have zf:=aT ((bR.out.block (w.heap.size+1) aJ).trans dB.out)
    clear hb
    obtain⟨X,hX,nN,jT⟩:=bJ [(5,.slice none 0 0),(9,.slice none 0 0)] v2 _ ((bR.out.block (w.heap.size+1) aJ).trans dB.out)
    simp only[List.foldl_cons,List.foldl_nil] at hX
    have HXB:Hid (Below w.heap.size w X):=hid ((HB.out.trans (bR.out.mono HB.out.size)).trans (jT.below (B:=w.heap.size) (fun i hi=>by omega) (by have:=bR.out.size;omega)))
    have hx0:=au ((jT.block w.heap.size (by have:=bR.out.size;omega) (by omega)).trans ((bR.out.block w.heap.size hz0).trans dI.out))
    have gP:Hid (X.heap[w.heap.size+1]?=some (.cells #[.int .i64 0,.string ⟨#[]⟩,.slice a1 n1 c1,.string (aj aD),.slice a2 n2 c2,.slice none 0 0,.slice a4 n4 c4,.string (aj jn),.slice a5 n5 c5,.slice none 0 0,.slice a7 n7 c7,.slice a8 n8 c8,.bool desc,.int .i64 lim] 29)):=hid nN
    have wu:w.heap.size+1<X.heap.size:=World.lt_of_block gP.out
    clear nN jT
    go_wp2_with fail
    try rw[hX]
    refine (jI.out X).mono ?_
    rintro e w8 ⟨rfl,mg⟩
    have yK:=htr HXB mg
    have hx1:=au ((mg.block (w.heap.size+1) wu).trans gP.out)
    clear mg
    have HE:=hid (Cy.out w8 aD jn desc lim a1 a2 none a4 a5 none a7 a8 n1 n2 0 n4 n5 0 n7 n8 c1 c2 0 c4 c5 0 c7 c8)
    go_wp2_with fail
    refine HE.out.mono ?_
    rintro e w9 ⟨rfl,kM⟩
    have nQ:=htr yK kM
    clear kM
    go_wp2
    go_ret
    exact⟨rfl,nQ.out⟩
   |
    false =>
    simp only[aaz]
    go_enter Tryz.func47,Tryz.ntmps47
    go_wp2_with (first | (refine lC (heap_alloc2_new w _ _) ?_;rw[aY]) | fail)
    try rw[hW]
    clear hW
    refine (Jm.out W HB.out).mono ?_
    rintro e v1 ⟨rfl,hb⟩
    have aL:=hid (hb)
    have p0:=au ((aL.out.block w.heap.size hz0).trans dI.out)
    have p1:=au ((aL.out.block (w.heap.size+1) aJ).trans dB.out)
    have zf:=aT ((aL.out.block (w.heap.size+1) aJ).trans dB.out)
    clear hb q0 q1 wY
    go_wp2_with fail
    refine (DC.out v1 (HB.out.trans (aL.out.mono HB.out.size))).mono ?_
    rintro e v2 ⟨rfl,hb⟩
    have bR:=htr aL hb
    have p0:=au ((bR.out.block w.heap.size hz0).trans dI.out)
    have p1:=au ((bR.out.block (w.heap.size+1) aJ).trans dB.out)
    have zf:=aT ((bR.out.block (w.heap.size+1) aJ).trans dB.out)
    clear hb
    obtain⟨X,hX,nN,jT⟩:=bJ [(5,.slice none 0 0),(9,.slice none 0 0)] v2 _ ((bR.out.block (w.heap.size+1) aJ).trans dB.out)
    simp only[List.foldl_cons,List.foldl_nil] at hX
    have HXB:Hid (Below w.heap.size w X):=hid ((HB.out.trans (bR.out.mono HB.out.size)).trans (jT.below (B:=w.heap.size) (fun i hi=>by omega) (by have:=bR.out.size;omega)))
    have hx0:=au ((jT.block w.heap.size (by have:=bR.out.size;omega) (by omega)).trans ((bR.out.block w.heap.size hz0).trans dI.out))
    have gP:Hid (X.heap[w.heap.size+1]?=some (.cells #[.int .i64 0,.string ⟨#[]⟩,.slice a1 n1 c1,.string (aj aD),.slice a2 n2 c2,.slice none 0 0,.slice a4 n4 c4,.string (aj jn),.slice a5 n5 c5,.slice none 0 0,.slice a7 n7 c7,.slice a8 n8 c8,.bool desc,.int .i64 lim] 29)):=hid nN
    have wu:w.heap.size+1<X.heap.size:=World.lt_of_block gP.out
    clear nN jT
    go_wp2_with fail
    try rw[hX]
    refine (jI.out X).mono ?_
    rintro e w8 ⟨rfl,mg⟩
    have yK:=htr HXB mg
    clear mg
    go_wp2
    go_ret
    exact⟨rfl,yK.out⟩
  |
   false =>
   simp only[aaz,aaA]
   go_enter Tryz.func47,Tryz.ntmps47
   go_wp2_with (first | (refine lC (heap_alloc2_new w _ _) ?_;rw[aY]) | fail)
   try rw[hW]
   clear hW
   refine (Jm.out W HB.out).mono ?_
   rintro e v1 ⟨rfl,hb⟩
   have aL:=hid (hb)
   have p0:=au ((aL.out.block w.heap.size hz0).trans dI.out)
   have p1:=au ((aL.out.block (w.heap.size+1) aJ).trans dB.out)
   have zf:=aT ((aL.out.block (w.heap.size+1) aJ).trans dB.out)
   clear hb q0 q1 wY
   go_wp2_with fail
   refine (DC.out v1 (HB.out.trans (aL.out.mono HB.out.size))).mono ?_
   rintro e v2 ⟨rfl,hb⟩
   have bR:=htr aL hb
   have p0:=au ((bR.out.block w.heap.size hz0).trans dI.out)
   have p1:=au ((bR.out.block (w.heap.size+1) aJ).trans dB.out)
   have zf:=aT ((bR.out.block (w.heap.size+1) aJ).trans dB.out)
   clear hb
   obtain⟨X,hX,nN,jT⟩:=bJ [(5,.slice none 0 0),(9,.slice none 0 0)] v2 _ ((bR.out.block (w.heap.size+1) aJ).trans dB.out)
   simp only[List.foldl_cons,List.foldl_nil] at hX
   have HXB:Hid (Below w.heap.size w X):=hid ((HB.out.trans (bR.out.mono HB.out.size)).trans (jT.below (B:=w.heap.size) (fun i hi=>by omega) (by have:=bR.out.size;omega)))
   have hx0:=au ((jT.block w.heap.size (by have:=bR.out.size;omega) (by omega)).trans ((bR.out.block w.heap.size hz0).trans dI.out))
   have gP:Hid (X.heap[w.heap.size+1]?=some (.cells #[.int .i64 0,.string ⟨#[]⟩,.slice a1 n1 c1,.string (aj aD),.slice a2 n2 c2,.slice none 0 0,.slice a4 n4 c4,.string (aj jn),.slice a5 n5 c5,.slice none 0 0,.slice a7 n7 c7,.slice a8 n8 c8,.bool desc,.int .i64 lim] 29)):=hid nN
   have wu:w.heap.size+1<X.heap.size:=World.lt_of_block gP.out
   clear nN jT
   go_wp2
   go_ret
   exact⟨rfl,HXB.out⟩
 |
  false =>
  simp only[aaz,aaA]
  go_enter Tryz.func47,Tryz.ntmps47
  go_wp2_with (first | (refine lC (heap_alloc2_new w _ _) ?_;rw[aY]) | fail)
  try rw[hW]
  clear hW
  refine (Jm.out W HB.out).mono ?_
  rintro e v1 ⟨rfl,hb⟩
  have aL:=hid (hb)
  have p0:=au ((aL.out.block w.heap.size hz0).trans dI.out)
  have p1:=au ((aL.out.block (w.heap.size+1) aJ).trans dB.out)
  have zf:=aT ((aL.out.block (w.heap.size+1) aJ).trans dB.out)
  clear hb q0 q1 wY
  obtain⟨X,hX,nN,jT⟩:=bJ [(5,.slice none 0 0),(9,.slice none 0 0)] v1 _ ((aL.out.block (w.heap.size+1) aJ).trans dB.out)
  simp only[List.foldl_cons,List.foldl_nil] at hX
  have HXB:Hid (Below w.heap.size w X):=hid ((HB.out.trans (aL.out.mono HB.out.size)).trans (jT.below (B:=w.heap.size) (fun i hi=>by omega) (by have:=aL.out.size;omega)))
  have hx0:=au ((jT.block w.heap.size (by have:=aL.out.size;omega) (by omega)).trans ((aL.out.block w.heap.size hz0).trans dI.out))
  have gP:Hid (X.heap[w.heap.size+1]?=some (.cells #[.int .i64 0,.string ⟨#[]⟩,.slice a1 n1 c1,.string (aj aD),.slice a2 n2 c2,.slice none 0 0,.slice a4 n4 c4,.string (aj jn),.slice a5 n5 c5,.slice none 0 0,.slice a7 n7 c7,.slice a8 n8 c8,.bool desc,.int .i64 lim] 29)):=hid nN
  have wu:w.heap.size+1<X.heap.size:=World.lt_of_block gP.out
  clear nN jT
  go_wp2
  go_ret
  exact⟨rfl,HXB.out⟩
theorem J7 (w:World) (tn aD jn:List UInt8) (desc:Bool) (lim:Int) (a1 a2 a3 a4 a5 a6 a7 a8:Option Addr) (n1 n2 n3 n4 n5 n6 n7 n8 c1 c2 c3 c4 c5 c6 c7 c8:Nat) (BW BT:Bool)
  (DC:Hid (∀V,Below w.heap.size w V→Calls Tryz.prog 95 #[.slice a6 n6 c6,.int .i64 0,.int .i64 1,.func (.func 82) #[] #[]] V fun e w'=>e = .returned (.bool BW)∧Below V.heap.size V w')) (jI:Hid (∀V,Calls Tryz.prog 90 #[.string (aj tn)] V fun e w'=>e = .returned (.bool BT)∧Below V.heap.size V w')) :
  Calls Tryz.prog 47 #[.agg #[.int .i64 5,.string (aj tn),.slice a1 n1 c1,.string (aj aD),.slice a2 n2 c2,.slice a3 n3 c3,.slice a4 n4 c4,.string (aj jn),.slice a5 n5 c5,.slice a6 n6 c6,.slice a7 n7 c7,.slice a8 n8 c8,.bool desc,.int .i64 lim]] w fun e w'=>e = .returned (.bool (BW&&(BT&&qj n1 aD n2 n3 n4 jn n5 0 n7 n8 desc lim)))∧Below w.heap.size w w':=by
 have Cy:=hid (fun V=>dL (w:=V))
 obtain⟨W,hW,hbW,aJ,hc0,hc1⟩:=iB w 5 tn aD jn desc lim a1 a2 a3 a4 a5 a6 a7 a8 n1 n2 n3 n4 n5 n6 n7 n8 c1 c2 c3 c4 c5 c6 c7 c8
 have q0:=au hc0
 have q1:=au hc1
 have wY:=aT hc1
 have HB:=hid hbW
 have dI:=hid hc0
 have dB:=hid hc1
 have hz0:w.heap.size<W.heap.size:=by omega
 clear hbW hc0 hc1
 cases BW with
 |
  true =>
  simp only[aaA]
  cases BT with
  |
   true =>
   simp only[aaA]
   go_enter Tryz.func47,Tryz.ntmps47
   go_wp2_with (first | (refine lC (heap_alloc2_new w _ _) ?_;rw[aY]) | fail)
   try rw[hW]
   clear hW
   refine (DC.out W HB.out).mono ?_
   rintro e v1 ⟨rfl,hb⟩
   have aL:=hid (hb)
   have p0:=au ((aL.out.block w.heap.size hz0).trans dI.out)
   have p1:=au ((aL.out.block (w.heap.size+1) aJ).trans dB.out)
   have zf:=aT ((aL.out.block (w.heap.size+1) aJ).trans dB.out)
   clear hb q0 q1 wY
   obtain⟨X,hX,nN,jT⟩:=bJ [(9,.slice none 0 0)] v1 _ ((aL.out.block (w.heap.size+1) aJ).trans dB.out)
   simp only[List.foldl_cons,List.foldl_nil] at hX
   have HXB:Hid (Below w.heap.size w X):=hid ((HB.out.trans (aL.out.mono HB.out.size)).trans (jT.below (B:=w.heap.size) (fun i hi=>by omega) (by have:=aL.out.size;omega)))
   have hx0:=au ((jT.block w.heap.size (by have:=aL.out.size;omega) (by omega)).trans ((aL.out.block w.heap.size hz0).trans dI.out))
   have gP:Hid (X.heap[w.heap.size+1]?=some (.cells #[.int .i64 0,.string ⟨#[]⟩,.slice a1 n1 c1,.string (aj aD),.slice a2 n2 c2,.slice a3 n3 c3,.slice a4 n4 c4,.string (aj jn),.slice a5 n5 c5,.slice none 0 0,.slice a7 n7 c7,.slice a8 n8 c8,.bool desc,.int .i64 lim] 29)):=hid nN
   have wu:w.heap.size+1<X.heap.size:=World.lt_of_block gP.out
   clear nN jT
   go_wp2_with fail
   try rw[hX]
   refine (jI.out X).mono ?_
   rintro e w8 ⟨rfl,mg⟩
   have yK:=htr HXB mg
   have hx1:=au ((mg.block (w.heap.size+1) wu).trans gP.out)
   clear mg
   have HE:=hid (Cy.out w8 aD jn desc lim a1 a2 a3 a4 a5 none a7 a8 n1 n2 n3 n4 n5 0 n7 n8 c1 c2 c3 c4 c5 0 c7 c8)
   go_wp2_with fail
   refine HE.out.mono ?_
   rintro e w9 ⟨rfl,kM⟩
   have nQ:=htr yK kM
   clear kM
   go_wp2
   go_ret
   exact⟨rfl,nQ.out⟩
  |
   false =>
   simp only[aaz]
   go_enter Tryz.func47,Tryz.ntmps47
   go_wp2_with (first | (refine lC (heap_alloc2_new w _ _) ?_;rw[aY]) | fail)
   try rw[hW]
   clear hW
   refine (DC.out W HB.out).mono ?_
   rintro e v1 ⟨rfl,hb⟩
   have aL:=hid (hb)
   have p0:=au ((aL.out.block w.heap.size hz0).trans dI.out)
   have p1:=au ((aL.out.block (w.heap.size+1) aJ).trans dB.out)
   have zf:=aT ((aL.out.block (w.heap.size+1) aJ).trans dB.out)
   clear hb q0 q1 wY
   obtain⟨X,hX,nN,jT⟩:=bJ [(9,.slice none 0 0)] v1 _ ((aL.out.block (w.heap.size+1) aJ).trans dB.out)
   simp only[List.foldl_cons,List.foldl_nil] at hX
   have HXB:Hid (Below w.heap.size w X):=hid ((HB.out.trans (aL.out.mono HB.out.size)).trans (jT.below (B:=w.heap.size) (fun i hi=>by omega) (by have:=aL.out.size;omega)))
   have hx0:=au ((jT.block w.heap.size (by have:=aL.out.size;omega) (by omega)).trans ((aL.out.block w.heap.size hz0).trans dI.out))
   have gP:Hid (X.heap[w.heap.size+1]?=some (.cells #[.int .i64 0,.string ⟨#[]⟩,.slice a1 n1 c1,.string (aj aD),.slice a2 n2 c2,.slice a3 n3 c3,.slice a4 n4 c4,.string (aj jn),.slice a5 n5 c5,.slice none 0 0,.slice a7 n7 c7,.slice a8 n8 c8,.bool desc,.int .i64 lim] 29)):=hid nN
   have wu:w.heap.size+1<X.heap.size:=World.lt_of_block gP.out
   clear nN jT
   go_wp2_with fail
   try rw[hX]
   refine (jI.out X).mono ?_
   rintro e w8 ⟨rfl,mg⟩
   have yK:=htr HXB mg
   clear mg
   go_wp2
   go_ret
   exact⟨rfl,yK.out⟩
 |
  false =>
  simp only[aaz,aaA]
  go_enter Tryz.func47,Tryz.ntmps47
  go_wp2_with (first | (refine lC (heap_alloc2_new w _ _) ?_;rw[aY]) | fail)
  try rw[hW]
  clear hW
  refine (DC.out W HB.out).mono ?_
  rintro e v1 ⟨rfl,hb⟩
  have aL:=hid (hb)
  have p0:=au ((aL.out.block w.heap.size hz0).trans dI.out)
  have p1:=au ((aL.out.block (w.heap.size+1) aJ).trans dB.out)
  have zf:=aT ((aL.out.block (w.heap.size+1) aJ).trans dB.out)
  clear hb q0 q1 wY
  obtain⟨X,hX,nN,jT⟩:=bJ [(9,.slice none 0 0)] v1 _ ((aL.out.block (w.heap.size+1) aJ).trans dB.out)
  simp only[List.foldl_cons,List.foldl_nil] at hX
  have HXB:Hid (Below w.heap.size w X):=hid ((HB.out.trans (aL.out.mono HB.out.size)).trans (jT.below (B:=w.heap.size) (fun i hi=>by omega) (by have:=aL.out.size;omega)))
  have hx0:=au ((jT.block w.heap.size (by have:=aL.out.size;omega) (by omega)).trans ((aL.out.block w.heap.size hz0).trans dI.out))
  have gP:Hid (X.heap[w.heap.size+1]?=some (.cells #[.int .i64 0,.string ⟨#[]⟩,.slice a1 n1 c1,.string (aj aD),.slice a2 n2 c2,.slice a3 n3 c3,.slice a4 n4 c4,.string (aj jn),.slice a5 n5 c5,.slice none 0 0,.slice a7 n7 c7,.slice a8 n8 c8,.bool desc,.int .i64 lim] 29)):=hid nN
  have wu:w.heap.size+1<X.heap.size:=World.lt_of_block gP.out
  clear nN jT
  go_wp2
  go_ret
  exact⟨rfl,HXB.out⟩
theorem Jg (w:World) (tn aD jn:List UInt8) (desc:Bool) (lim:Int) (a1 a2 a3 a4 a5 a6 a7 a8:Option Addr) (n1 n2 n3 n4 n5 n6 n7 n8 c1 c2 c3 c4 c5 c6 c7 c8:Nat) (BS BT:Bool)
  (HSL:Hid (∀V,Below w.heap.size w V→Calls Tryz.prog 96 #[.agg #[.int .i64 6,.string (aj tn),.slice a1 n1 c1,.string (aj aD),.slice a2 n2 c2,.slice a3 n3 c3,.slice a4 n4 c4,.string (aj jn),.slice a5 n5 c5,.slice a6 n6 c6,.slice a7 n7 c7,.slice a8 n8 c8,.bool desc,.int .i64 lim]] V fun e w'=>e = .returned (.bool BS)∧Below V.heap.size V w')) (jI:Hid (∀V,Calls Tryz.prog 90 #[.string (aj tn)] V fun e w'=>e = .returned (.bool BT)∧Below V.heap.size V w')) :
  Calls Tryz.prog 47 #[.agg #[.int .i64 6,.string (aj tn),.slice a1 n1 c1,.string (aj aD),.slice a2 n2 c2,.slice a3 n3 c3,.slice a4 n4 c4,.string (aj jn),.slice a5 n5 c5,.slice a6 n6 c6,.slice a7 n7 c7,.slice a8 n8 c8,.bool desc,.int .i64 lim]] w fun e w'=>e = .returned (.bool (BS&&(BT&&qj n1 aD n2 n3 0 [] 0 0 0 0 false (-1))))∧Below w.heap.size w w':=by
 have Cy:=hid (fun V=>dL (w:=V))
 obtain⟨W,hW,hbW,aJ,hc0,hc1⟩:=iB w 6 tn aD jn desc lim a1 a2 a3 a4 a5 a6 a7 a8 n1 n2 n3 n4 n5 n6 n7 n8 c1 c2 c3 c4 c5 c6 c7 c8
 have q0:=au hc0
 have q1:=au hc1
 have wY:=aT hc1
 have HB:=hid hbW
 have dI:=hid hc0
 have dB:=hid hc1
 have hz0:w.heap.size<W.heap.size:=by omega
 clear hbW hc0 hc1
 cases BS with
 |
  true =>
  simp only[aaA]
  cases BT with
  |
   true =>
   simp only[aaA]
   go_enter Tryz.func47,Tryz.ntmps47
   go_wp2_with (first | (refine lC (heap_alloc2_new w _ _) ?_;rw[aY]) | fail)
   try rw[hW]
   clear hW
   refine (HSL.out W HB.out).mono ?_
   rintro e v1 ⟨rfl,hb⟩
   have aL:=hid (hb)
   have p0:=au ((aL.out.block w.heap.size hz0).trans dI.out)
   have p1:=au ((aL.out.block (w.heap.size+1) aJ).trans dB.out)
   have zf:=aT ((aL.out.block (w.heap.size+1) aJ).trans dB.out)
   clear hb q0 q1 wY
   obtain⟨Y1,WZ,EL,CU⟩:=bJ [(6,.slice none 0 0)] v1 _ ((aL.out.block (w.heap.size+1) aJ).trans dB.out)
   simp only[List.foldl_cons,List.foldl_nil] at WZ
   have rW:Y1.heap[w.heap.size+1]?=some (.cells #[.int .i64 0,.string ⟨#[]⟩,.slice a1 n1 c1,.string (aj aD),.slice a2 n2 c2,.slice a3 n3 c3,.slice none 0 0,.string (aj jn),.slice a5 n5 c5,.slice a6 n6 c6,.slice a7 n7 c7,.slice a8 n8 c8,.bool desc,.int .i64 lim] 29):=EL
   have WR:=aT rW
   have Xc:Y1.cell? ⟨w.heap.size+1,7,none⟩=some (.string (aj jn)):=by rw[aB _ _ _ _ _ _ rW];rfl
   have M9:=hid CU
   obtain⟨Y2,hY2,Et,Df⟩:=bJ [(7,.string ⟨#[]⟩)] Y1 _ rW
   simp only[List.foldl_cons,List.foldl_nil] at hY2
   have sQ:Y2.heap[w.heap.size+1]?=some (.cells #[.int .i64 0,.string ⟨#[]⟩,.slice a1 n1 c1,.string (aj aD),.slice a2 n2 c2,.slice a3 n3 c3,.slice none 0 0,.string ⟨#[]⟩,.slice a5 n5 c5,.slice a6 n6 c6,.slice a7 n7 c7,.slice a8 n8 c8,.bool desc,.int .i64 lim] 29):=Et
   have XR:=aT sQ
   have Yn:Y2.cell? ⟨w.heap.size+1,8,none⟩=some (.slice a5 n5 c5):=by rw[aB _ _ _ _ _ _ sQ];rfl
   have Ov:Hid (ak (fun k=>k=w.heap.size+1) v1 Y2):=hid (M9.out.then Df)
   obtain⟨Y3,Xe,EB,DF⟩:=bJ [(8,.slice none 0 0)] Y2 _ sQ
   simp only[List.foldl_cons,List.foldl_nil] at Xe
   have sO:Y3.heap[w.heap.size+1]?=some (.cells #[.int .i64 0,.string ⟨#[]⟩,.slice a1 n1 c1,.string (aj aD),.slice a2 n2 c2,.slice a3 n3 c3,.slice none 0 0,.string ⟨#[]⟩,.slice none 0 0,.slice a6 n6 c6,.slice a7 n7 c7,.slice a8 n8 c8,.bool desc,.int .i64 lim] 29):=EB
   have Yq:=aT sO
   have Wh:Y3.cell? ⟨w.heap.size+1,9,none⟩=some (.slice a6 n6 c6):=by rw[aB _ _ _ _ _ _ sO];rfl
   have Oc:Hid (ak (fun k=>k=w.heap.size+1) v1 Y3):=hid (Ov.out.then DF)
   obtain⟨Y4,Sn,DX,Fa⟩:=bJ [(9,.slice none 0 0)] Y3 _ sO
   simp only[List.foldl_cons,List.foldl_nil] at Sn
   have sw:Y4.heap[w.heap.size+1]?=some (.cells #[.int .i64 0,.string ⟨#[]⟩,.slice a1 n1 c1,.string (aj aD),.slice a2 n2 c2,.slice a3 n3 c3,.slice none 0 0,.string ⟨#[]⟩,.slice none 0 0,.slice none 0 0,.slice a7 n7 c7,.slice a8 n8 c8,.bool desc,.int .i64 lim] 29):=DX
   have Wx:=aT sw
   have Yi:Y4.cell? ⟨w.heap.size+1,10,none⟩=some (.slice a7 n7 c7):=by rw[aB _ _ _ _ _ _ sw];rfl
   have Nv:Hid (ak (fun k=>k=w.heap.size+1) v1 Y4):=hid (Oc.out.then Fa)
   obtain⟨Y5,XL,Dw,CF⟩:=bJ [(10,.slice none 0 0)] Y4 _ sw
   simp only[List.foldl_cons,List.foldl_nil] at XL
   have tK:Y5.heap[w.heap.size+1]?=some (.cells #[.int .i64 0,.string ⟨#[]⟩,.slice a1 n1 c1,.string (aj aD),.slice a2 n2 c2,.slice a3 n3 c3,.slice none 0 0,.string ⟨#[]⟩,.slice none 0 0,.slice none 0 0,.slice none 0 0,.slice a8 n8 c8,.bool desc,.int .i64 lim] 29):=Dw
   have Wp:=aT tK
   have VT:Y5.cell? ⟨w.heap.size+1,11,none⟩=some (.slice a8 n8 c8):=by rw[aB _ _ _ _ _ _ tK];rfl
   have Lj:Hid (ak (fun k=>k=w.heap.size+1) v1 Y5):=hid (Nv.out.then CF)
   obtain⟨Y6,WL,CY,DU⟩:=bJ [(11,.slice none 0 0)] Y5 _ tK
   simp only[List.foldl_cons,List.foldl_nil] at WL
   have sV:Y6.heap[w.heap.size+1]?=some (.cells #[.int .i64 0,.string ⟨#[]⟩,.slice a1 n1 c1,.string (aj aD),.slice a2 n2 c2,.slice a3 n3 c3,.slice none 0 0,.string ⟨#[]⟩,.slice none 0 0,.slice none 0 0,.slice none 0 0,.slice none 0 0,.bool desc,.int .i64 lim] 29):=CY
   have Wi:=aT sV
   have YR:Y6.cell? ⟨w.heap.size+1,12,none⟩=some (.bool desc):=by rw[aB _ _ _ _ _ _ sV];rfl
   have Mh:Hid (ak (fun k=>k=w.heap.size+1) v1 Y6):=hid (Lj.out.then DU)
   obtain⟨Y7,WI,E8,DK⟩:=bJ [(12,.bool false)] Y6 _ sV
   simp only[List.foldl_cons,List.foldl_nil] at WI
   have sZ:Y7.heap[w.heap.size+1]?=some (.cells #[.int .i64 0,.string ⟨#[]⟩,.slice a1 n1 c1,.string (aj aD),.slice a2 n2 c2,.slice a3 n3 c3,.slice none 0 0,.string ⟨#[]⟩,.slice none 0 0,.slice none 0 0,.slice none 0 0,.slice none 0 0,.bool false,.int .i64 lim] 29):=E8
   have Xf:=aT sZ
   have XM:Y7.cell? ⟨w.heap.size+1,13,none⟩=some (.int .i64 lim):=by rw[aB _ _ _ _ _ _ sZ];rfl
   have Og:Hid (ak (fun k=>k=w.heap.size+1) v1 Y7):=hid (Mh.out.then DK)
   obtain⟨Y8,Wq,EY,C9⟩:=bJ [(13,.int .i64 (-1))] Y7 _ sZ
   simp only[List.foldl_cons,List.foldl_nil] at Wq
   have sP:Y8.heap[w.heap.size+1]?=some (.cells #[.int .i64 0,.string ⟨#[]⟩,.slice a1 n1 c1,.string (aj aD),.slice a2 n2 c2,.slice a3 n3 c3,.slice none 0 0,.string ⟨#[]⟩,.slice none 0 0,.slice none 0 0,.slice none 0 0,.slice none 0 0,.bool false,.int .i64 (-1)] 29):=EY
   have YE:=aT sP
   have EI:Hid (ak (fun k=>k=w.heap.size+1) v1 Y8):=hid (Og.out.then C9)
   obtain⟨X,gT⟩:∃X,X=Y8:=⟨_,rfl⟩
   subst gT
   have HXB:Hid (Below w.heap.size w X):=hid ((HB.out.trans (aL.out.mono HB.out.size)).trans (EI.out.below (B:=w.heap.size) (fun i hi=>by omega) (by have:=aL.out.size;omega)))
   have hx0:=au ((EI.out.block w.heap.size (by have:=aL.out.size;omega) (by omega)).trans ((aL.out.block w.heap.size hz0).trans dI.out))
   have YW:=au sP
   have gP:Hid (X.heap[w.heap.size+1]?=some (.cells #[.int .i64 0,.string ⟨#[]⟩,.slice a1 n1 c1,.string (aj aD),.slice a2 n2 c2,.slice a3 n3 c3,.slice none 0 0,.string ⟨#[]⟩,.slice none 0 0,.slice none 0 0,.slice none 0 0,.slice none 0 0,.bool false,.int .i64 (-1)] 29)):=hid sP
   have wu:w.heap.size+1<X.heap.size:=World.lt_of_block gP.out
   clear EL CU rW Et Df sQ EB DF sO DX Fa sw Dw CF tK CY DU sV E8 DK sZ EY C9 sP
   go_wp2_with fail
   try rw[hX]
   refine (jI.out X).mono ?_
   rintro e w8 ⟨rfl,mg⟩
   have yK:=htr HXB mg
   have hx1:=au ((mg.block (w.heap.size+1) wu).trans gP.out)
   clear mg
   have HE:=hid (Cy.out w8 aD [] false (-1) a1 a2 a3 none none none none none n1 n2 n3 0 0 0 0 0 c1 c2 c3 0 0 0 0 0)
   go_wp2_with fail
   refine HE.out.mono ?_
   rintro e w9 ⟨rfl,kM⟩
   have nQ:=htr yK kM
   clear kM
   go_wp2
   go_ret
   exact⟨rfl,nQ.out⟩
  |
   false =>
   simp only[aaz]
   go_enter Tryz.func47,Tryz.ntmps47
   go_wp2_with (first | (refine lC (heap_alloc2_new w _ _) ?_;rw[aY]) | fail)
   try rw[hW]
   clear hW
   refine (HSL.out W HB.out).mono ?_
   rintro e v1 ⟨rfl,hb⟩
   have aL:=hid (hb)
   have p0:=au ((aL.out.block w.heap.size hz0).trans dI.out)
   have p1:=au ((aL.out.block (w.heap.size+1) aJ).trans dB.out)
   have zf:=aT ((aL.out.block (w.heap.size+1) aJ).trans dB.out)
   clear hb q0 q1 wY
   obtain⟨Y1,WZ,EL,CU⟩:=bJ [(6,.slice none 0 0)] v1 _ ((aL.out.block (w.heap.size+1) aJ).trans dB.out)
   simp only[List.foldl_cons,List.foldl_nil] at WZ
   have rW:Y1.heap[w.heap.size+1]?=some (.cells #[.int .i64 0,.string ⟨#[]⟩,.slice a1 n1 c1,.string (aj aD),.slice a2 n2 c2,.slice a3 n3 c3,.slice none 0 0,.string (aj jn),.slice a5 n5 c5,.slice a6 n6 c6,.slice a7 n7 c7,.slice a8 n8 c8,.bool desc,.int .i64 lim] 29):=EL
   have WR:=aT rW
   have Xc:Y1.cell? ⟨w.heap.size+1,7,none⟩=some (.string (aj jn)):=by rw[aB _ _ _ _ _ _ rW];rfl
   have M9:=hid CU
   obtain⟨Y2,hY2,Et,Df⟩:=bJ [(7,.string ⟨#[]⟩)] Y1 _ rW
   simp only[List.foldl_cons,List.foldl_nil] at hY2
   have sQ:Y2.heap[w.heap.size+1]?=some (.cells #[.int .i64 0,.string ⟨#[]⟩,.slice a1 n1 c1,.string (aj aD),.slice a2 n2 c2,.slice a3 n3 c3,.slice none 0 0,.string ⟨#[]⟩,.slice a5 n5 c5,.slice a6 n6 c6,.slice a7 n7 c7,.slice a8 n8 c8,.bool desc,.int .i64 lim] 29):=Et
   have XR:=aT sQ
   have Yn:Y2.cell? ⟨w.heap.size+1,8,none⟩=some (.slice a5 n5 c5):=by rw[aB _ _ _ _ _ _ sQ];rfl
   have Ov:Hid (ak (fun k=>k=w.heap.size+1) v1 Y2):=hid (M9.out.then Df)
   obtain⟨Y3,Xe,EB,DF⟩:=bJ [(8,.slice none 0 0)] Y2 _ sQ
   simp only[List.foldl_cons,List.foldl_nil] at Xe
   have sO:Y3.heap[w.heap.size+1]?=some (.cells #[.int .i64 0,.string ⟨#[]⟩,.slice a1 n1 c1,.string (aj aD),.slice a2 n2 c2,.slice a3 n3 c3,.slice none 0 0,.string ⟨#[]⟩,.slice none 0 0,.slice a6 n6 c6,.slice a7 n7 c7,.slice a8 n8 c8,.bool desc,.int .i64 lim] 29):=EB
   have Yq:=aT sO
   have Wh:Y3.cell? ⟨w.heap.size+1,9,none⟩=some (.slice a6 n6 c6):=by rw[aB _ _ _ _ _ _ sO];rfl
   have Oc:Hid (ak (fun k=>k=w.heap.size+1) v1 Y3):=hid (Ov.out.then DF)
   obtain⟨Y4,Sn,DX,Fa⟩:=bJ [(9,.slice none 0 0)] Y3 _ sO
   simp only[List.foldl_cons,List.foldl_nil] at Sn
   have sw:Y4.heap[w.heap.size+1]?=some (.cells #[.int .i64 0,.string ⟨#[]⟩,.slice a1 n1 c1,.string (aj aD),.slice a2 n2 c2,.slice a3 n3 c3,.slice none 0 0,.string ⟨#[]⟩,.slice none 0 0,.slice none 0 0,.slice a7 n7 c7,.slice a8 n8 c8,.bool desc,.int .i64 lim] 29):=DX
   have Wx:=aT sw
   have Yi:Y4.cell? ⟨w.heap.size+1,10,none⟩=some (.slice a7 n7 c7):=by rw[aB _ _ _ _ _ _ sw];rfl
   have Nv:Hid (ak (fun k=>k=w.heap.size+1) v1 Y4):=hid (Oc.out.then Fa)
   obtain⟨Y5,XL,Dw,CF⟩:=bJ [(10,.slice none 0 0)] Y4 _ sw
   simp only[List.foldl_cons,List.foldl_nil] at XL
   have tK:Y5.heap[w.heap.size+1]?=some (.cells #[.int .i64 0,.string ⟨#[]⟩,.slice a1 n1 c1,.string (aj aD),.slice a2 n2 c2,.slice a3 n3 c3,.slice none 0 0,.string ⟨#[]⟩,.slice none 0 0,.slice none 0 0,.slice none 0 0,.slice a8 n8 c8,.bool desc,.int .i64 lim] 29):=Dw
   have Wp:=aT tK
   have VT:Y5.cell? ⟨w.heap.size+1,11,none⟩=some (.slice a8 n8 c8):=by rw[aB _ _ _ _ _ _ tK];rfl
   have Lj:Hid (ak (fun k=>k=w.heap.size+1) v1 Y5):=hid (Nv.out.then CF)
   obtain⟨Y6,WL,CY,DU⟩:=bJ [(11,.slice none 0 0)] Y5 _ tK
   simp only[List.foldl_cons,List.foldl_nil] at WL
   have sV:Y6.heap[w.heap.size+1]?=some (.cells #[.int .i64 0,.string ⟨#[]⟩,.slice a1 n1 c1,.string (aj aD),.slice a2 n2 c2,.slice a3 n3 c3,.slice none 0 0,.string ⟨#[]⟩,.slice none 0 0,.slice none 0 0,.slice none 0 0,.slice none 0 0,.bool desc,.int .i64 lim] 29):=CY
   have Wi:=aT sV
   have YR:Y6.cell? ⟨w.heap.size+1,12,none⟩=some (.bool desc):=by rw[aB _ _ _ _ _ _ sV];rfl
   have Mh:Hid (ak (fun k=>k=w.heap.size+1) v1 Y6):=hid (Lj.out.then DU)
   obtain⟨Y7,WI,E8,DK⟩:=bJ [(12,.bool false)] Y6 _ sV
   simp only[List.foldl_cons,List.foldl_nil] at WI
   have sZ:Y7.heap[w.heap.size+1]?=some (.cells #[.int .i64 0,.string ⟨#[]⟩,.slice a1 n1 c1,.string (aj aD),.slice a2 n2 c2,.slice a3 n3 c3,.slice none 0 0,.string ⟨#[]⟩,.slice none 0 0,.slice none 0 0,.slice none 0 0,.slice none 0 0,.bool false,.int .i64 lim] 29):=E8
   have Xf:=aT sZ
   have XM:Y7.cell? ⟨w.heap.size+1,13,none⟩=some (.int .i64 lim):=by rw[aB _ _ _ _ _ _ sZ];rfl
   have Og:Hid (ak (fun k=>k=w.heap.size+1) v1 Y7):=hid (Mh.out.then DK)
   obtain⟨Y8,Wq,EY,C9⟩:=bJ [(13,.int .i64 (-1))] Y7 _ sZ
   simp only[List.foldl_cons,List.foldl_nil] at Wq
   have sP:Y8.heap[w.heap.size+1]?=some (.cells #[.int .i64 0,.string ⟨#[]⟩,.slice a1 n1 c1,.string (aj aD),.slice a2 n2 c2,.slice a3 n3 c3,.slice none 0 0,.string ⟨#[]⟩,.slice none 0 0,.slice none 0 0,.slice none 0 0,.slice none 0 0,.bool false,.int .i64 (-1)] 29):=EY
   have YE:=aT sP
   have EI:Hid (ak (fun k=>k=w.heap.size+1) v1 Y8):=hid (Og.out.then C9)
   obtain⟨X,gT⟩:∃X,X=Y8:=⟨_,rfl⟩
   subst gT
   have HXB:Hid (Below w.heap.size w X):=hid ((HB.out.trans (aL.out.mono HB.out.size)).trans (EI.out.below (B:=w.heap.size) (fun i hi=>by omega) (by have:=aL.out.size;omega)))
   have hx0:=au ((EI.out.block w.heap.size (by have:=aL.out.size;omega) (by omega)).trans ((aL.out.block w.heap.size hz0).trans dI.out))
   have YW:=au sP
   have gP:Hid (X.heap[w.heap.size+1]?=some (.cells #[.int .i64 0,.string ⟨#[]⟩,.slice a1 n1 c1,.string (aj aD),.slice a2 n2 c2,.slice a3 n3 c3,.slice none 0 0,.string ⟨#[]⟩,.slice none 0 0,.slice none 0 0,.slice none 0 0,.slice none 0 0,.bool false,.int .i64 (-1)] 29)):=hid sP
   have wu:w.heap.size+1<X.heap.size:=World.lt_of_block gP.out
   clear EL CU rW Et Df sQ EB DF sO DX Fa sw Dw CF tK CY DU sV E8 DK sZ EY C9 sP
   go_wp2_with fail
   try rw[hX]
   refine (jI.out X).mono ?_
   rintro e w8 ⟨rfl,mg⟩
   have yK:=htr HXB mg
   clear mg
   go_wp2
   go_ret
   exact⟨rfl,yK.out⟩
 |
  false =>
  simp only[aaz,aaA]
  go_enter Tryz.func47,Tryz.ntmps47
  go_wp2_with (first | (refine lC (heap_alloc2_new w _ _) ?_;rw[aY]) | fail)
  try rw[hW]
  clear hW
  refine (HSL.out W HB.out).mono ?_
  rintro e v1 ⟨rfl,hb⟩
  have aL:=hid (hb)
  have p0:=au ((aL.out.block w.heap.size hz0).trans dI.out)
  have p1:=au ((aL.out.block (w.heap.size+1) aJ).trans dB.out)
  have zf:=aT ((aL.out.block (w.heap.size+1) aJ).trans dB.out)
  clear hb q0 q1 wY
  obtain⟨Y1,WZ,EL,CU⟩:=bJ [(6,.slice none 0 0)] v1 _ ((aL.out.block (w.heap.size+1) aJ).trans dB.out)
  simp only[List.foldl_cons,List.foldl_nil] at WZ
  have rW:Y1.heap[w.heap.size+1]?=some (.cells #[.int .i64 0,.string ⟨#[]⟩,.slice a1 n1 c1,.string (aj aD),.slice a2 n2 c2,.slice a3 n3 c3,.slice none 0 0,.string (aj jn),.slice a5 n5 c5,.slice a6 n6 c6,.slice a7 n7 c7,.slice a8 n8 c8,.bool desc,.int .i64 lim] 29):=EL
  have WR:=aT rW
  have Xc:Y1.cell? ⟨w.heap.size+1,7,none⟩=some (.string (aj jn)):=by rw[aB _ _ _ _ _ _ rW];rfl
  have M9:=hid CU
  obtain⟨Y2,hY2,Et,Df⟩:=bJ [(7,.string ⟨#[]⟩)] Y1 _ rW
  simp only[List.foldl_cons,List.foldl_nil] at hY2
  have sQ:Y2.heap[w.heap.size+1]?=some (.cells #[.int .i64 0,.string ⟨#[]⟩,.slice a1 n1 c1,.string (aj aD),.slice a2 n2 c2,.slice a3 n3 c3,.slice none 0 0,.string ⟨#[]⟩,.slice a5 n5 c5,.slice a6 n6 c6,.slice a7 n7 c7,.slice a8 n8 c8,.bool desc,.int .i64 lim] 29):=Et
  have XR:=aT sQ
  have Yn:Y2.cell? ⟨w.heap.size+1,8,none⟩=some (.slice a5 n5 c5):=by rw[aB _ _ _ _ _ _ sQ];rfl
  have Ov:Hid (ak (fun k=>k=w.heap.size+1) v1 Y2):=hid (M9.out.then Df)
  obtain⟨Y3,Xe,EB,DF⟩:=bJ [(8,.slice none 0 0)] Y2 _ sQ
  simp only[List.foldl_cons,List.foldl_nil] at Xe
  have sO:Y3.heap[w.heap.size+1]?=some (.cells #[.int .i64 0,.string ⟨#[]⟩,.slice a1 n1 c1,.string (aj aD),.slice a2 n2 c2,.slice a3 n3 c3,.slice none 0 0,.string ⟨#[]⟩,.slice none 0 0,.slice a6 n6 c6,.slice a7 n7 c7,.slice a8 n8 c8,.bool desc,.int .i64 lim] 29):=EB
  have Yq:=aT sO
  have Wh:Y3.cell? ⟨w.heap.size+1,9,none⟩=some (.slice a6 n6 c6):=by rw[aB _ _ _ _ _ _ sO];rfl
  have Oc:Hid (ak (fun k=>k=w.heap.size+1) v1 Y3):=hid (Ov.out.then DF)
  obtain⟨Y4,Sn,DX,Fa⟩:=bJ [(9,.slice none 0 0)] Y3 _ sO
  simp only[List.foldl_cons,List.foldl_nil] at Sn
  have sw:Y4.heap[w.heap.size+1]?=some (.cells #[.int .i64 0,.string ⟨#[]⟩,.slice a1 n1 c1,.string (aj aD),.slice a2 n2 c2,.slice a3 n3 c3,.slice none 0 0,.string ⟨#[]⟩,.slice none 0 0,.slice none 0 0,.slice a7 n7 c7,.slice a8 n8 c8,.bool desc,.int .i64 lim] 29):=DX
  have Wx:=aT sw
  have Yi:Y4.cell? ⟨w.heap.size+1,10,none⟩=some (.slice a7 n7 c7):=by rw[aB _ _ _ _ _ _ sw];rfl
  have Nv:Hid (ak (fun k=>k=w.heap.size+1) v1 Y4):=hid (Oc.out.then Fa)
  obtain⟨Y5,XL,Dw,CF⟩:=bJ [(10,.slice none 0 0)] Y4 _ sw
  simp only[List.foldl_cons,List.foldl_nil] at XL
  have tK:Y5.heap[w.heap.size+1]?=some (.cells #[.int .i64 0,.string ⟨#[]⟩,.slice a1 n1 c1,.string (aj aD),.slice a2 n2 c2,.slice a3 n3 c3,.slice none 0 0,.string ⟨#[]⟩,.slice none 0 0,.slice none 0 0,.slice none 0 0,.slice a8 n8 c8,.bool desc,.int .i64 lim] 29):=Dw
  have Wp:=aT tK
  have VT:Y5.cell? ⟨w.heap.size+1,11,none⟩=some (.slice a8 n8 c8):=by rw[aB _ _ _ _ _ _ tK];rfl
  have Lj:Hid (ak (fun k=>k=w.heap.size+1) v1 Y5):=hid (Nv.out.then CF)
  obtain⟨Y6,WL,CY,DU⟩:=bJ [(11,.slice none 0 0)] Y5 _ tK
  simp only[List.foldl_cons,List.foldl_nil] at WL
  have sV:Y6.heap[w.heap.size+1]?=some (.cells #[.int .i64 0,.string ⟨#[]⟩,.slice a1 n1 c1,.string (aj aD),.slice a2 n2 c2,.slice a3 n3 c3,.slice none 0 0,.string ⟨#[]⟩,.slice none 0 0,.slice none 0 0,.slice none 0 0,.slice none 0 0,.bool desc,.int .i64 lim] 29):=CY
  have Wi:=aT sV
  have YR:Y6.cell? ⟨w.heap.size+1,12,none⟩=some (.bool desc):=by rw[aB _ _ _ _ _ _ sV];rfl
  have Mh:Hid (ak (fun k=>k=w.heap.size+1) v1 Y6):=hid (Lj.out.then DU)
  obtain⟨Y7,WI,E8,DK⟩:=bJ [(12,.bool false)] Y6 _ sV
  simp only[List.foldl_cons,List.foldl_nil] at WI
  have sZ:Y7.heap[w.heap.size+1]?=some (.cells #[.int .i64 0,.string ⟨#[]⟩,.slice a1 n1 c1,.string (aj aD),.slice a2 n2 c2,.slice a3 n3 c3,.slice none 0 0,.string ⟨#[]⟩,.slice none 0 0,.slice none 0 0,.slice none 0 0,.slice none 0 0,.bool false,.int .i64 lim] 29):=E8
  have Xf:=aT sZ
  have XM:Y7.cell? ⟨w.heap.size+1,13,none⟩=some (.int .i64 lim):=by rw[aB _ _ _ _ _ _ sZ];rfl
  have Og:Hid (ak (fun k=>k=w.heap.size+1) v1 Y7):=hid (Mh.out.then DK)
  obtain⟨Y8,Wq,EY,C9⟩:=bJ [(13,.int .i64 (-1))] Y7 _ sZ
  simp only[List.foldl_cons,List.foldl_nil] at Wq
  have sP:Y8.heap[w.heap.size+1]?=some (.cells #[.int .i64 0,.string ⟨#[]⟩,.slice a1 n1 c1,.string (aj aD),.slice a2 n2 c2,.slice a3 n3 c3,.slice none 0 0,.string ⟨#[]⟩,.slice none 0 0,.slice none 0 0,.slice none 0 0,.slice none 0 0,.bool false,.int .i64 (-1)] 29):=EY
  have YE:=aT sP
  have EI:Hid (ak (fun k=>k=w.heap.size+1) v1 Y8):=hid (Og.out.then C9)
  obtain⟨X,gT⟩:∃X,X=Y8:=⟨_,rfl⟩
  subst gT
  have HXB:Hid (Below w.heap.size w X):=hid ((HB.out.trans (aL.out.mono HB.out.size)).trans (EI.out.below (B:=w.heap.size) (fun i hi=>by omega) (by have:=aL.out.size;omega)))
  have hx0:=au ((EI.out.block w.heap.size (by have:=aL.out.size;omega) (by omega)).trans ((aL.out.block w.heap.size hz0).trans dI.out))
  have YW:=au sP
  have gP:Hid (X.heap[w.heap.size+1]?=some (.cells #[.int .i64 0,.string ⟨#[]⟩,.slice a1 n1 c1,.string (aj aD),.slice a2 n2 c2,.slice a3 n3 c3,.slice none 0 0,.string ⟨#[]⟩,.slice none 0 0,.slice none 0 0,.slice none 0 0,.slice none 0 0,.bool false,.int .i64 (-1)] 29)):=hid sP
  have wu:w.heap.size+1<X.heap.size:=World.lt_of_block gP.out
  clear EL CU rW Et Df sQ EB DF sO DX Fa sw Dw CF tK CY DU sV E8 DK sZ EY C9 sP
  go_wp2
  go_ret
  exact⟨rfl,HXB.out⟩
end Go.Proofs.YtfeglkleoijlaaaGreatDoor
