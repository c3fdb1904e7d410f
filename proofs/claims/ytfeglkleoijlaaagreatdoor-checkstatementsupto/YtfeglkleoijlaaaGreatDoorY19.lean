import Derived.Test.YtfeglkleoijlaaaGreatDoorY17
import Derived.Test.YtfeglkleoijlaaaGreatDoorY18
import Derived.Test.YtfeglkleoijlaaaGreatDoorY14
namespace Go.Proofs.YtfeglkleoijlaaaGreatDoor
open Go.RowKit Go.Shelf
set_option linter.unusedSimpArgs false
set_option linter.unusedVariables false
set_option maxRecDepth 20000
set_option maxHeartbeats 8000000
theorem aT {w:World} {g:Nat} {d0 d1 d2 d3 d4 d5 d6 d7 d8 d9 R3 VF XE XK:Value} {t:TypeId} (h:w.heap[g]?=some (.cells #[d0,d1,d2,d3,d4,d5,d6,d7,d8,d9,R3,VF,XE,XK] t)):∀i,w.frozen? ⟨g,i,none⟩=false:=fun i=>by simp[World.frozen?,h]
theorem bJ {b:Nat} {t:TypeId}:∀(l:List (Nat × Value)) (w:World) (cs:Array Value),w.heap[b]?=some (.cells cs t) →
  ∃X,l.foldl (fun W p=>W.setCell ⟨b,p.1,none⟩ p.2) w=X∧X.heap[b]?=some (.cells (l.foldl (fun c p=>c.setIfInBounds p.1 p.2) cs) t)∧ak (fun k=>k=b) w X
 | [],w,cs,h=>⟨w,rfl,h,ak.refl _ _⟩
 |
  p::l,w,cs,h=>by
  have h1:(w.setCell ⟨b,p.1,none⟩ p.2).heap[b]?=some (.cells (cs.setIfInBounds p.1 p.2) t):=by
   rw[setCell_eq_setRow w b p.1 _ _ _ p.2 h,setRow_heap w b _ _ _ _ h]
  obtain⟨X,hX,h2,h3⟩:=bJ l _ _ h1
  exact⟨X,hX,h2,(ak.setCell (S:=fun k=>k=b) (ak.refl _ w) (p:=⟨b,p.1,none⟩) (.inl rfl) p.2).then h3⟩
theorem iB (w:World) (k:Int) (tn:List UInt8) (aD jn:List UInt8) (desc:Bool) (lim:Int) (a1 a2 a3 a4 a5 a6 a7 a8:Option Addr) (n1 n2 n3 n4 n5 n6 n7 n8 c1 c2 c3 c4 c5 c6 c7 c8:Nat) :
  ∃W,(w.alloc (.cells #[.int .i64 k,.string (aj tn),.slice a1 n1 c1,.string (aj aD),.slice a2 n2 c2,.slice a3 n3 c3,.slice a4 n4 c4,.string (aj jn),.slice a5 n5 c5,.slice a6 n6 c6,.slice a7 n7 c7,.slice a8 n8 c8,.bool desc,.int .i64 lim] 29)).alloc (.cells #[.int .i64 0,.string ⟨#[]⟩,.slice a1 n1 c1,.string (aj aD),.slice a2 n2 c2,.slice a3 n3 c3,.slice a4 n4 c4,.string (aj jn),.slice a5 n5 c5,.slice a6 n6 c6,.slice a7 n7 c7,.slice a8 n8 c8,.bool desc,.int .i64 lim] 29)=W∧Below w.heap.size w W∧w.heap.size+1<W.heap.size∧W.heap[w.heap.size]?=some (.cells #[.int .i64 k,.string (aj tn),.slice a1 n1 c1,.string (aj aD),.slice a2 n2 c2,.slice a3 n3 c3,.slice a4 n4 c4,.string (aj jn),.slice a5 n5 c5,.slice a6 n6 c6,.slice a7 n7 c7,.slice a8 n8 c8,.bool desc,.int .i64 lim] 29)∧W.heap[w.heap.size+1]?=some (.cells #[.int .i64 0,.string ⟨#[]⟩,.slice a1 n1 c1,.string (aj aD),.slice a2 n2 c2,.slice a3 n3 c3,.slice a4 n4 c4,.string (aj jn),.slice a5 n5 c5,.slice a6 n6 c6,.slice a7 n7 c7,.slice a8 n8 c8,.bool desc,.int .i64 lim] 29):=by
 refine ⟨_,rfl,((Below.refl _ w).alloc (aaF _) _).alloc (by simp) _,by simp,?_,heap_alloc2_new w _ _⟩
 rw[Below.heap_alloc _ _ _ (by simp)]
 exact heap_alloc_new w _
structure vZ (s:St):Prop where
 tb:s.tb.length≤9223372036854775807
 aD:s.aD.length≤9223372036854775807
 jn:s.jn.length≤9223372036854775807
 lim:s.lim≤9223372036854775807
 aC : ∀c∈s.aC,c.nm.length≤9223372036854775807
 rows : ∀r∈s.rows,∀v∈r,Xz v
 sets : ∀x∈s.sets,x.nm.length≤9223372036854775807∧mO x.e
 items : ∀i∈s.items,∀x∈i.xs,mO x
 on : ∀x∈s.on,mO x
 wh : ∀x∈s.wh,mO x
 gr : ∀x∈s.gr,mO x
 od : ∀x∈s.od,mO x
theorem oH (s:St) (hk:s.k=0) (ht:s.tb=[]):oF s=qj s.aC.length s.aD s.rows.length s.sets.length s.items.length s.jn s.on.length s.wh.length s.gr.length s.od.length s.desc s.lim:=by
 unfold oF qj
 rw[Bool.eq_iff_iff]
 simp only[aaC,aaI,Bool.not_eq_true',hk,ht,true_and]
theorem zT (w:World) (tn aD jn:List UInt8) (desc:Bool) (lim:Int) (a1 a2 a3 a4 a5 a6 a7 a8:Option Addr) (n1 n2 n3 n4 n5 n6 n7 n8 c1 c2 c3 c4 c5 c6 c7 c8:Nat) (BC BP BT:Bool)
  (zq:Hid (∀V,Below w.heap.size w V→Calls Tryz.prog 88 #[.slice a1 n1 c1,.int .i64 1,.int .i64 8,.func (.func 89) #[] #[]] V fun e w'=>e = .returned (.bool BC)∧Below V.heap.size V w')) (QA:Hid (∀V,Calls Tryz.prog 90 #[.string (aj aD)] V fun e w'=>e = .returned (.bool BP)∧Below V.heap.size V w')) (jI:Hid (∀V,Calls Tryz.prog 90 #[.string (aj tn)] V fun e w'=>e = .returned (.bool BT)∧Below V.heap.size V w')) :
  Calls Tryz.prog 47 #[.agg #[.int .i64 1,.string (aj tn),.slice a1 n1 c1,.string (aj aD),.slice a2 n2 c2,.slice a3 n3 c3,.slice a4 n4 c4,.string (aj jn),.slice a5 n5 c5,.slice a6 n6 c6,.slice a7 n7 c7,.slice a8 n8 c8,.bool desc,.int .i64 lim]] w fun e w'=>e = .returned (.bool ((BC&&BP)&&(BT&&qj 0 [] n2 n3 n4 jn n5 n6 n7 n8 desc lim)))∧Below w.heap.size w w':=by
 have Cy:=hid (fun V=>dL (w:=V))
 obtain⟨W,hW,hbW,aJ,hc0,hc1⟩:=iB w 1 tn aD jn desc lim a1 a2 a3 a4 a5 a6 a7 a8 n1 n2 n3 n4 n5 n6 n7 n8 c1 c2 c3 c4 c5 c6 c7 c8
 have q0:=au hc0
 have q1:=au hc1
 have wY:=aT hc1
 have HB:=hid hbW
 have dI:=hid hc0
 have dB:=hid hc1
 have hz0:w.heap.size<W.heap.size:=by omega
 clear hbW hc0 hc1
 cases BC with
 |
  true =>
  simp only[aaA]
  cases BP with
  |
   true =>
   simp only[aaA]
   cases BT with
   |
    true =>
    simp only[aaA]
    go_enter Tryz.func47,Tryz.ntmps47
    go_wp2_with (first | (refine lC (heap_alloc2_new w _ _) ?_;rw[aY]) | fail)
    try rw[hW]
    clear hW
    refine (zq.out W HB.out).mono ?_
    rintro e v1 ⟨rfl,hb⟩
    have aL:=hid (hb)
    have p0:=au ((aL.out.block w.heap.size hz0).trans dI.out)
    have p1:=au ((aL.out.block (w.heap.size+1) aJ).trans dB.out)
    have zf:=aT ((aL.out.block (w.heap.size+1) aJ).trans dB.out)
    clear hb q0 q1 wY
    go_wp2_with fail
    refine (QA.out v1).mono ?_
    rintro e v2 ⟨rfl,hb⟩
    have bR:=htr aL hb
    have p0:=au ((bR.out.block w.heap.size hz0).trans dI.out)
    have p1:=au ((bR.out.block (w.heap.size+1) aJ).trans dB.out)
    have zf:=aT ((bR.out.block (w.heap.size+1) aJ).trans dB.out)
    clear hb
    obtain⟨X,hX,nN,jT⟩:=bJ [(2,.slice none 0 0),(3,.string ⟨#[]⟩)] v2 _ ((bR.out.block (w.heap.size+1) aJ).trans dB.out)
    simp only[List.foldl_cons,List.foldl_nil] at hX
    have HXB:Hid (Below w.heap.size w X):=hid ((HB.out.trans (bR.out.mono HB.out.size)).trans (jT.below (B:=w.heap.size) (fun i hi=>by omega) (by have:=bR.out.size;omega)))
    have hx0:=au ((jT.block w.heap.size (by have:=bR.out.size;omega) (by omega)).trans ((bR.out.block w.heap.size hz0).trans dI.out))
    have gP:Hid (X.heap[w.heap.size+1]?=some (.cells #[.int .i64 0,.string ⟨#[]⟩,.slice none 0 0,.string ⟨#[]⟩,.slice a2 n2 c2,.slice a3 n3 c3,.slice a4 n4 c4,.string (aj jn),.slice a5 n5 c5,.slice a6 n6 c6,.slice a7 n7 c7,.slice a8 n8 c8,.bool desc,.int .i64 lim] 29)):=hid nN
    have wu:w.heap.size+1<X.heap.size:=World.lt_of_block gP.out
    clear nN jT
    go_wp2_with fail
    try rw[hX]
    refine (jI.out X).mono ?_
    rintro e w8 ⟨rfl,mg⟩
    have yK:=htr HXB mg
    have hx1:=au ((mg.block (w.heap.size+1) wu).trans gP.out)
    clear mg
    have HE:=hid (Cy.out w8 [] jn desc lim none a2 a3 a4 a5 a6 a7 a8 0 n2 n3 n4 n5 n6 n7 n8 0 c2 c3 c4 c5 c6 c7 c8)
    go_wp2_with fail
    refine HE.out.mono ?_
    rintro e w9 ⟨rfl,kM⟩
    have nQ:=htr yK kM
    clear kM
    go_wp2
    go_ret
    exact⟨rfl,nQ.out⟩
   |
    false =>
    simp only[aaz]
    go_enter Tryz.func47,Tryz.ntmps47
    go_wp2_with (first | (refine lC (heap_alloc2_new w _ _) ?_;rw[aY]) | fail)
    try rw[hW]
    clear hW
    refine (zq.out W HB.out).mono ?_
    rintro e v1 ⟨rfl,hb⟩
    have aL:=hid (hb)
    have p0:=au ((aL.out.block w.heap.size hz0).trans dI.out)
    have p1:=au ((aL.out.block (w.heap.size+1) aJ).trans dB.out)
    have zf:=aT ((aL.out.block (w.heap.size+1) aJ).trans dB.out)
    clear hb q0 q1 wY
    go_wp2_with fail
    refine (QA.out v1).mono ?_
    rintro e v2 ⟨rfl,hb⟩
    have bR:=htr aL hb
    have p0:=au ((bR.out.block w.heap.size hz0).trans dI.out)
    have p1:=au ((bR.out.block (w.heap.size+1) aJ).trans dB.out)
    have zf:=aT ((bR.out.block (w.heap.size+1) aJ).trans dB.out)
    clear hb
    obtain⟨X,hX,nN,jT⟩:=bJ [(2,.slice none 0 0),(3,.string ⟨#[]⟩)] v2 _ ((bR.out.block (w.heap.size+1) aJ).trans dB.out)
    simp only[List.foldl_cons,List.foldl_nil] at hX
    have HXB:Hid (Below w.heap.size w X):=hid ((HB.out.trans (bR.out.mono HB.out.size)).trans (jT.below (B:=w.heap.size) (fun i hi=>by omega) (by have:=bR.out.size;omega)))
    have hx0:=au ((jT.block w.heap.size (by have:=bR.out.size;omega) (by omega)).trans ((bR.out.block w.heap.size hz0).trans dI.out))
    have gP:Hid (X.heap[w.heap.size+1]?=some (.cells #[.int .i64 0,.string ⟨#[]⟩,.slice none 0 0,.string ⟨#[]⟩,.slice a2 n2 c2,.slice a3 n3 c3,.slice a4 n4 c4,.string (aj jn),.slice a5 n5 c5,.slice a6 n6 c6,.slice a7 n7 c7,.slice a8 n8 c8,.bool desc,.int .i64 lim] 29)):=hid nN
    have wu:w.heap.size+1<X.heap.size:=World.lt_of_block gP.out
    clear nN jT
    go_wp2_with fail
    try rw[hX]
    refine (jI.out X).mono ?_
    rintro e w8 ⟨rfl,mg⟩
    have yK:=htr HXB mg
    clear mg
    go_wp2
    go_ret
    exact⟨rfl,yK.out⟩
  |
   false =>
   simp only[aaz,aaA]
   go_enter Tryz.func47,Tryz.ntmps47
   go_wp2_with (first | (refine lC (heap_alloc2_new w _ _) ?_;rw[aY]) | fail)
   try rw[hW]
   clear hW
   refine (zq.out W HB.out).mono ?_
   rintro e v1 ⟨rfl,hb⟩
   have aL:=hid (hb)
   have p0:=au ((aL.out.block w.heap.size hz0).trans dI.out)
   have p1:=au ((aL.out.block (w.heap.size+1) aJ).trans dB.out)
   have zf:=aT ((aL.out.block (w.heap.size+1) aJ).trans dB.out)
   clear hb q0 q1 wY
   go_wp2_with fail
   refine (QA.out v1).mono ?_
   rintro e v2 ⟨rfl,hb⟩
   have bR:=htr aL hb
   have p0:=au ((bR.out.block w.heap.size hz0).trans dI.out)
   have p1:=au ((bR.out.block (w.heap.size+1) aJ).trans dB.out)
   have zf:=aT ((bR.out.block (w.heap.size+1) aJ).trans dB.out)
   clear hb
   obtain⟨X,hX,nN,jT⟩:=bJ [(2,.slice none 0 0),(3,.string ⟨#[]⟩)] v2 _ ((bR.out.block (w.heap.size+1) aJ).trans dB.out)
   simp only[List.foldl_cons,List.foldl_nil] at hX
   have HXB:Hid (Below w.heap.size w X):=hid ((HB.out.trans (bR.out.mono HB.out.size)).trans (jT.below (B:=w.heap.size) (fun i hi=>by omega) (by have:=bR.out.size;omega)))
   have hx0:=au ((jT.block w.heap.size (by have:=bR.out.size;omega) (by omega)).trans ((bR.out.block w.heap.size hz0).trans dI.out))
   have gP:Hid (X.heap[w.heap.size+1]?=some (.cells #[.int .i64 0,.string ⟨#[]⟩,.slice none 0 0,.string ⟨#[]⟩,.slice a2 n2 c2,.slice a3 n3 c3,.slice a4 n4 c4,.string (aj jn),.slice a5 n5 c5,.slice a6 n6 c6,.slice a7 n7 c7,.slice a8 n8 c8,.bool desc,.int .i64 lim] 29)):=hid nN
   have wu:w.heap.size+1<X.heap.size:=World.lt_of_block gP.out
   clear nN jT
   go_wp2
   go_ret
   exact⟨rfl,HXB.out⟩
 |
  false =>
  simp only[aaz,aaA]
  go_enter Tryz.func47,Tryz.ntmps47
  go_wp2_with (first | (refine lC (heap_alloc2_new w _ _) ?_;rw[aY]) | fail)
  try rw[hW]
  clear hW
  refine (zq.out W HB.out).mono ?_
  rintro e v1 ⟨rfl,hb⟩
  have aL:=hid (hb)
  have p0:=au ((aL.out.block w.heap.size hz0).trans dI.out)
  have p1:=au ((aL.out.block (w.heap.size+1) aJ).trans dB.out)
  have zf:=aT ((aL.out.block (w.heap.size+1) aJ).trans dB.out)
  clear hb q0 q1 wY
  obtain⟨X,hX,nN,jT⟩:=bJ [(2,.slice none 0 0),(3,.string ⟨#[]⟩)] v1 _ ((aL.out.block (w.heap.size+1) aJ).trans dB.out)
  simp only[List.foldl_cons,List.foldl_nil] at hX
  have HXB:Hid (Below w.heap.size w X):=hid ((HB.out.trans (aL.out.mono HB.out.size)).trans (jT.below (B:=w.heap.size) (fun i hi=>by omega) (by have:=aL.out.size;omega)))
  have hx0:=au ((jT.block w.heap.size (by have:=aL.out.size;omega) (by omega)).trans ((aL.out.block w.heap.size hz0).trans dI.out))
  have gP:Hid (X.heap[w.heap.size+1]?=some (.cells #[.int .i64 0,.string ⟨#[]⟩,.slice none 0 0,.string ⟨#[]⟩,.slice a2 n2 c2,.slice a3 n3 c3,.slice a4 n4 c4,.string (aj jn),.slice a5 n5 c5,.slice a6 n6 c6,.slice a7 n7 c7,.slice a8 n8 c8,.bool desc,.int .i64 lim] 29)):=hid nN
  have wu:w.heap.size+1<X.heap.size:=World.lt_of_block gP.out
  clear nN jT
  go_wp2
  go_ret
  exact⟨rfl,HXB.out⟩
theorem Kg (w:World) (tn aD jn:List UInt8) (desc:Bool) (lim:Int) (a1 a2 a3 a4 a5 a6 a7 a8:Option Addr) (n1 n2 n3 n4 n5 n6 n7 n8 c1 c2 c3 c4 c5 c6 c7 c8:Nat) (BT:Bool)
  (jI:Hid (∀V,Calls Tryz.prog 90 #[.string (aj tn)] V fun e w'=>e = .returned (.bool BT)∧Below V.heap.size V w')) :
  Calls Tryz.prog 47 #[.agg #[.int .i64 2,.string (aj tn),.slice a1 n1 c1,.string (aj aD),.slice a2 n2 c2,.slice a3 n3 c3,.slice a4 n4 c4,.string (aj jn),.slice a5 n5 c5,.slice a6 n6 c6,.slice a7 n7 c7,.slice a8 n8 c8,.bool desc,.int .i64 lim]] w fun e w'=>e = .returned (.bool (true&&(BT&&qj n1 aD n2 n3 n4 jn n5 n6 n7 n8 desc lim)))∧Below w.heap.size w w':=by
 have Cy:=hid (fun V=>dL (w:=V))
 obtain⟨W,hW,hbW,aJ,hc0,hc1⟩:=iB w 2 tn aD jn desc lim a1 a2 a3 a4 a5 a6 a7 a8 n1 n2 n3 n4 n5 n6 n7 n8 c1 c2 c3 c4 c5 c6 c7 c8
 have q0:=au hc0
 have q1:=au hc1
 have wY:=aT hc1
 have HB:=hid hbW
 have dI:=hid hc0
 have dB:=hid hc1
 have hz0:w.heap.size<W.heap.size:=by omega
 clear hbW hc0 hc1
 simp only[aaA]
 cases BT with
 |
  true =>
  simp only[aaA]
  go_enter Tryz.func47,Tryz.ntmps47
  go_wp2_with (first | (refine lC (heap_alloc2_new w _ _) ?_;rw[aY]) | fail)
  try rw[hW]
  clear hW
  have Nf:=hid (Below.refl W.heap.size W)
  obtain⟨X,gT⟩:∃X,X=W:=⟨_,rfl⟩
  subst gT
  have HXB:Hid (Below w.heap.size w X):=hid (HB.out.trans (Nf.out.mono HB.out.size))
  have gP:Hid (X.heap[w.heap.size+1]?=some (.cells #[.int .i64 0,.string ⟨#[]⟩,.slice a1 n1 c1,.string (aj aD),.slice a2 n2 c2,.slice a3 n3 c3,.slice a4 n4 c4,.string (aj jn),.slice a5 n5 c5,.slice a6 n6 c6,.slice a7 n7 c7,.slice a8 n8 c8,.bool desc,.int .i64 lim] 29)):=hid ((Nf.out.block (w.heap.size+1) aJ).trans dB.out)
  have wu:w.heap.size+1<X.heap.size:=World.lt_of_block gP.out
  go_wp2_with fail
  skip
  refine (jI.out X).mono ?_
  rintro e w8 ⟨rfl,mg⟩
  have yK:=htr HXB mg
  have hx1:=au ((mg.block (w.heap.size+1) wu).trans gP.out)
  clear mg
  have HE:=hid (Cy.out w8 aD jn desc lim a1 a2 a3 a4 a5 a6 a7 a8 n1 n2 n3 n4 n5 n6 n7 n8 c1 c2 c3 c4 c5 c6 c7 c8)
  go_wp2_with fail
  refine HE.out.mono ?_
  rintro e w9 ⟨rfl,kM⟩
  have nQ:=htr yK kM
  clear kM
  go_wp2
  go_ret
  exact⟨rfl,nQ.out⟩
 |
  false =>
  simp only[aaz]
  go_enter Tryz.func47,Tryz.ntmps47
  go_wp2_with (first | (refine lC (heap_alloc2_new w _ _) ?_;rw[aY]) | fail)
  try rw[hW]
  clear hW
  have Nf:=hid (Below.refl W.heap.size W)
  obtain⟨X,gT⟩:∃X,X=W:=⟨_,rfl⟩
  subst gT
  have HXB:Hid (Below w.heap.size w X):=hid (HB.out.trans (Nf.out.mono HB.out.size))
  have gP:Hid (X.heap[w.heap.size+1]?=some (.cells #[.int .i64 0,.string ⟨#[]⟩,.slice a1 n1 c1,.string (aj aD),.slice a2 n2 c2,.slice a3 n3 c3,.slice a4 n4 c4,.string (aj jn),.slice a5 n5 c5,.slice a6 n6 c6,.slice a7 n7 c7,.slice a8 n8 c8,.bool desc,.int .i64 lim] 29)):=hid ((Nf.out.block (w.heap.size+1) aJ).trans dB.out)
  have wu:w.heap.size+1<X.heap.size:=World.lt_of_block gP.out
  go_wp2_with fail
  skip
  refine (jI.out X).mono ?_
  rintro e w8 ⟨rfl,mg⟩
  have yK:=htr HXB mg
  clear mg
  go_wp2
  go_ret
  exact⟨rfl,yK.out⟩
theorem KR (w:World) (tn aD jn:List UInt8) (desc:Bool) (lim:Int) (a1 a2 a3 a4 a5 a6 a7 a8:Option Addr) (n1 n2 n3 n4 n5 n6 n7 n8 c1 c2 c3 c4 c5 c6 c7 c8:Nat) (BR BT:Bool)
  (U8:Hid (∀V,Below w.heap.size w V→Calls Tryz.prog 91 #[.slice a2 n2 c2,.int .i64 1,.int .i64 16,.func (.func 92) #[] #[]] V fun e w'=>e = .returned (.bool BR)∧Below V.heap.size V w')) (jI:Hid (∀V,Calls Tryz.prog 90 #[.string (aj tn)] V fun e w'=>e = .returned (.bool BT)∧Below V.heap.size V w')) :
  Calls Tryz.prog 47 #[.agg #[.int .i64 3,.string (aj tn),.slice a1 n1 c1,.string (aj aD),.slice a2 n2 c2,.slice a3 n3 c3,.slice a4 n4 c4,.string (aj jn),.slice a5 n5 c5,.slice a6 n6 c6,.slice a7 n7 c7,.slice a8 n8 c8,.bool desc,.int .i64 lim]] w fun e w'=>e = .returned (.bool (BR&&(BT&&qj n1 aD 0 n3 n4 jn n5 n6 n7 n8 desc lim)))∧Below w.heap.size w w':=by
 have Cy:=hid (fun V=>dL (w:=V))
 obtain⟨W,hW,hbW,aJ,hc0,hc1⟩:=iB w 3 tn aD jn desc lim a1 a2 a3 a4 a5 a6 a7 a8 n1 n2 n3 n4 n5 n6 n7 n8 c1 c2 c3 c4 c5 c6 c7 c8
 have q0:=au hc0
 have q1:=au hc1
 have wY:=aT hc1
 have HB:=hid hbW
 have dI:=hid hc0
 have dB:=hid hc1
 have hz0:w.heap.size<W.heap.size:=by omega
 clear hbW hc0 hc1
 cases BR with
 |
  true =>
  simp only[aaA]
  cases BT with
  |
   true =>
   simp only[aaA]
   go_enter Tryz.func47,Tryz.ntmps47
   go_wp2_with (first | (refine lC (heap_alloc2_new w _ _) ?_;rw[aY]) | fail)
   try rw[hW]
   clear hW
   refine (U8.out W HB.out).mono ?_
   rintro e v1 ⟨rfl,hb⟩
   have aL:=hid (hb)
   have p0:=au ((aL.out.block w.heap.size hz0).trans dI.out)
   have p1:=au ((aL.out.block (w.heap.size+1) aJ).trans dB.out)
   have zf:=aT ((aL.out.block (w.heap.size+1) aJ).trans dB.out)
   clear hb q0 q1 wY
   obtain⟨X,hX,nN,jT⟩:=bJ [(4,.slice none 0 0)] v1 _ ((aL.out.block (w.heap.size+1) aJ).trans dB.out)
   simp only[List.foldl_cons,List.foldl_nil] at hX
   have HXB:Hid (Below w.heap.size w X):=hid ((HB.out.trans (aL.out.mono HB.out.size)).trans (jT.below (B:=w.heap.size) (fun i hi=>by omega) (by have:=aL.out.size;omega)))
   have hx0:=au ((jT.block w.heap.size (by have:=aL.out.size;omega) (by omega)).trans ((aL.out.block w.heap.size hz0).trans dI.out))
   have gP:Hid (X.heap[w.heap.size+1]?=some (.cells #[.int .i64 0,.string ⟨#[]⟩,.slice a1 n1 c1,.string (aj aD),.slice none 0 0,.slice a3 n3 c3,.slice a4 n4 c4,.string (aj jn),.slice a5 n5 c5,.slice a6 n6 c6,.slice a7 n7 c7,.slice a8 n8 c8,.bool desc,.int .i64 lim] 29)):=hid nN
   have wu:w.heap.size+1<X.heap.size:=World.lt_of_block gP.out
   clear nN jT
   go_wp2_with fail
   try rw[hX]
   refine (jI.out X).mono ?_
   rintro e w8 ⟨rfl,mg⟩
   have yK:=htr HXB mg
   have hx1:=au ((mg.block (w.heap.size+1) wu).trans gP.out)
   clear mg
   have HE:=hid (Cy.out w8 aD jn desc lim a1 none a3 a4 a5 a6 a7 a8 n1 0 n3 n4 n5 n6 n7 n8 c1 0 c3 c4 c5 c6 c7 c8)
   go_wp2_with fail
   refine HE.out.mono ?_
   rintro e w9 ⟨rfl,kM⟩
   have nQ:=htr yK kM
   clear kM
   go_wp2
   go_ret
   exact⟨rfl,nQ.out⟩
  |
   false =>
   simp only[aaz]
   go_enter Tryz.func47,Tryz.ntmps47
   go_wp2_with (first | (refine lC (heap_alloc2_new w _ _) ?_;rw[aY]) | fail)
   try rw[hW]
   clear hW
   refine (U8.out W HB.out).mono ?_
   rintro e v1 ⟨rfl,hb⟩
   have aL:=hid (hb)
   have p0:=au ((aL.out.block w.heap.size hz0).trans dI.out)
   have p1:=au ((aL.out.block (w.heap.size+1) aJ).trans dB.out)
   have zf:=aT ((aL.out.block (w.heap.size+1) aJ).trans dB.out)
   clear hb q0 q1 wY
   obtain⟨X,hX,nN,jT⟩:=bJ [(4,.slice none 0 0)] v1 _ ((aL.out.block (w.heap.size+1) aJ).trans dB.out)
   simp only[List.foldl_cons,List.foldl_nil] at hX
   have HXB:Hid (Below w.heap.size w X):=hid ((HB.out.trans (aL.out.mono HB.out.size)).trans (jT.below (B:=w.heap.size) (fun i hi=>by omega) (by have:=aL.out.size;omega)))
   have hx0:=au ((jT.block w.heap.size (by have:=aL.out.size;omega) (by omega)).trans ((aL.out.block w.heap.size hz0).trans dI.out))
   have gP:Hid (X.heap[w.heap.size+1]?=some (.cells #[.int .i64 0,.string ⟨#[]⟩,.slice a1 n1 c1,.string (aj aD),.slice none 0 0,.slice a3 n3 c3,.slice a4 n4 c4,.string (aj jn),.slice a5 n5 c5,.slice a6 n6 c6,.slice a7 n7 c7,.slice a8 n8 c8,.bool desc,.int .i64 lim] 29)):=hid nN
   have wu:w.heap.size+1<X.heap.size:=World.lt_of_block gP.out
   clear nN jT
   go_wp2_with fail
   try rw[hX]
   refine (jI.out X).mono ?_
   rintro e w8 ⟨rfl,mg⟩
   have yK:=htr HXB mg
   clear mg
   go_wp2
   go_ret
   exact⟨rfl,yK.out⟩
 |
  false =>
  simp only[aaz,aaA]
  go_enter Tryz.func47,Tryz.ntmps47
  go_wp2_with (first | (refine lC (heap_alloc2_new w _ _) ?_;rw[aY]) | fail)
  try rw[hW]
  clear hW
  refine (U8.out W HB.out).mono ?_
  rintro e v1 ⟨rfl,hb⟩
  have aL:=hid (hb)
  have p0:=au ((aL.out.block w.heap.size hz0).trans dI.out)
  have p1:=au ((aL.out.block (w.heap.size+1) aJ).trans dB.out)
  have zf:=aT ((aL.out.block (w.heap.size+1) aJ).trans dB.out)
  clear hb q0 q1 wY
  obtain⟨X,hX,nN,jT⟩:=bJ [(4,.slice none 0 0)] v1 _ ((aL.out.block (w.heap.size+1) aJ).trans dB.out)
  simp only[List.foldl_cons,List.foldl_nil] at hX
  have HXB:Hid (Below w.heap.size w X):=hid ((HB.out.trans (aL.out.mono HB.out.size)).trans (jT.below (B:=w.heap.size) (fun i hi=>by omega) (by have:=aL.out.size;omega)))
  have hx0:=au ((jT.block w.heap.size (by have:=aL.out.size;omega) (by omega)).trans ((aL.out.block w.heap.size hz0).trans dI.out))
  have gP:Hid (X.heap[w.heap.size+1]?=some (.cells #[.int .i64 0,.string ⟨#[]⟩,.slice a1 n1 c1,.string (aj aD),.slice none 0 0,.slice a3 n3 c3,.slice a4 n4 c4,.string (aj jn),.slice a5 n5 c5,.slice a6 n6 c6,.slice a7 n7 c7,.slice a8 n8 c8,.bool desc,.int .i64 lim] 29)):=hid nN
  have wu:w.heap.size+1<X.heap.size:=World.lt_of_block gP.out
  clear nN jT
  go_wp2
  go_ret
  exact⟨rfl,HXB.out⟩
end Go.Proofs.YtfeglkleoijlaaaGreatDoor
