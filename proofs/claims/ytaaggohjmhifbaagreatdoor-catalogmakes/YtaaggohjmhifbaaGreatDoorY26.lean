/- Packed for the hand-in: WRightT WRightW WRightW1 -/
import Derived.Test.YtaaggohjmhifbaaGreatDoorY23
import Derived.Test.YtaaggohjmhifbaaGreatDoorY25
namespace Go.Proofs.YtaaggohjmhifbaaGreatDoor
open Go.RowKit Go.Shelf
set_option linter.unusedSimpArgs false
set_option linter.unusedVariables false
set_option maxRecDepth 20000
set_option maxHeartbeats 8000000
def CZ (n1:Nat) (prim:List UInt8) (n2 n3 n4:Nat) (jn:List UInt8) (n5 n6 n7 n8:Nat) (desc:Bool) (lim:Int):Bool:=decide (n1=0)&&(decide (prim=[])&&(decide (n2=0)&&(decide (n3=0)&&(decide (n4=0)&&(decide (jn=[])&&(decide (n5=0)&&(decide (n6=0)&&(decide (n7=0)&&(decide (n8=0)&&((!desc)&&decide (lim = -1)))))))))))
theorem qd (prim jn:List UInt8) (desc:Bool) (lim:Int) (a1 a2 a3 a4 a5 a6 a7 a8:Option Addr) (n1 n2 n3 n4 n5 n6 n7 n8 c1 c2 c3 c4 c5 c6 c7 c8:Nat) (w:World) :
  Calls Tryz.prog 96 #[.agg #[.int .i64 0,.string ⟨#[]⟩,.slice a1 n1 c1,.string (ah prim),.slice a2 n2 c2,.slice a3 n3 c3,.slice a4 n4 c4,.string (ah jn),.slice a5 n5 c5,.slice a6 n6 c6,.slice a7 n7 c7,.slice a8 n8 c8,.bool desc,.int .i64 lim]] w fun e w'=>e = .returned (.bool (CZ n1 prim n2 n3 n4 jn n5 n6 n7 n8 desc lim))∧Below w.heap.size w w':=by
 have heprim:=bE prim
 have hejn:=bE jn
 unfold CZ
 obtain⟨W,hW,hbW,hzW,hcW⟩:=bF w (.cells #[.int .i64 0,.string ⟨#[]⟩,.slice a1 n1 c1,.string (ah prim),.slice a2 n2 c2,.slice a3 n3 c3,.slice a4 n4 c4,.string (ah jn),.slice a5 n5 c5,.slice a6 n6 c6,.slice a7 n7 c7,.slice a8 n8 c8,.bool desc,.int .i64 lim] 28)
 have k0:=aG hcW
 have HB:=hid hbW
 have HC:=hid hcW
 have HQ0:=hid (Below.refl W.heap.size W)
 clear hbW hcW
 cases hv0:decide (n1=0) with
 |
  true =>
  rw[Bool.true_and]
  have gn1:((n1:Int)==0)=true:=by rw[of_decide_eq_true hv0];rfl
  clear hv0
  cases hv1:decide (prim=[]) with
  |
   true =>
   rw[Bool.true_and]
   rw[hv1] at heprim
   clear hv1
   cases hv2:decide (n2=0) with
   |
    true =>
    rw[Bool.true_and]
    have gn2:((n2:Int)==0)=true:=by rw[of_decide_eq_true hv2];rfl
    clear hv2
    cases hv3:decide (n3=0) with
    |
     true =>
     rw[Bool.true_and]
     have gn3:((n3:Int)==0)=true:=by rw[of_decide_eq_true hv3];rfl
     clear hv3
     cases hv4:decide (n4=0) with
     |
      true =>
      rw[Bool.true_and]
      have gn4:((n4:Int)==0)=true:=by rw[of_decide_eq_true hv4];rfl
      clear hv4
      cases hv5:decide (jn=[]) with
      |
       true =>
       rw[Bool.true_and]
       rw[hv5] at hejn
       clear hv5
       cases hv6:decide (n5=0) with
       |
        true =>
        rw[Bool.true_and]
        have gn5:((n5:Int)==0)=true:=by rw[of_decide_eq_true hv6];rfl
        clear hv6
        cases hv7:decide (n6=0) with
        |
         true =>
         rw[Bool.true_and]
         have gn6:((n6:Int)==0)=true:=by rw[of_decide_eq_true hv7];rfl
         clear hv7
         cases hv8:decide (n7=0) with
         |
          true =>
          rw[Bool.true_and]
          have gn7:((n7:Int)==0)=true:=by rw[of_decide_eq_true hv8];rfl
          clear hv8
          cases hv9:decide (n8=0) with
          |
           true =>
           rw[Bool.true_and]
           have gn8:((n8:Int)==0)=true:=by rw[of_decide_eq_true hv9];rfl
           clear hv9
           cases hv10:(!desc) with
           |
            true =>
            rw[Bool.true_and]
            obtain hde:desc=false:=by simpa using hv10
            subst hde
            clear hv10
            cases hv11:decide (lim = -1) with
            |
             true =>
             have glim:(lim==-1)=true:=by rw[of_decide_eq_true hv11];rfl
             clear hv11
             go_enter Tryz.func96,Tryz.ntmps96
             go_wp2
             go_ret
             exact⟨rfl,HB.out.trans (HQ0.out.mono HB.out.size)⟩
            |
             false =>
             have glim:(lim==-1)=false:=by rw[beq_eq_false_iff_ne];exact of_decide_eq_false hv11
             clear hv11
             go_enter Tryz.func96,Tryz.ntmps96
             go_wp2
             go_ret
             exact⟨rfl,HB.out.trans (HQ0.out.mono HB.out.size)⟩
           |
            false =>
            rw[Bool.false_and]
            obtain hde:desc=true:=by simpa using hv10
            subst hde
            clear hv10
            go_enter Tryz.func96,Tryz.ntmps96
            go_wp2
            go_ret
            exact⟨rfl,HB.out.trans (HQ0.out.mono HB.out.size)⟩
          |
           false =>
           rw[Bool.false_and]
           have gn8:((n8:Int)==0)=false:=by have:=of_decide_eq_false hv9;rw[beq_eq_false_iff_ne];omega
           clear hv9
           go_enter Tryz.func96,Tryz.ntmps96
           go_wp2
           go_ret
           exact⟨rfl,HB.out.trans (HQ0.out.mono HB.out.size)⟩
         |
          false =>
          rw[Bool.false_and]
          have gn7:((n7:Int)==0)=false:=by have:=of_decide_eq_false hv8;rw[beq_eq_false_iff_ne];omega
          clear hv8
          go_enter Tryz.func96,Tryz.ntmps96
          go_wp2
          go_ret
          exact⟨rfl,HB.out.trans (HQ0.out.mono HB.out.size)⟩
        |
         false =>
         rw[Bool.false_and]
         have gn6:((n6:Int)==0)=false:=by have:=of_decide_eq_false hv7;rw[beq_eq_false_iff_ne];omega
         clear hv7
         go_enter Tryz.func96,Tryz.ntmps96
         go_wp2
         go_ret
         exact⟨rfl,HB.out.trans (HQ0.out.mono HB.out.size)⟩
       |
        false =>
        rw[Bool.false_and]
        have gn5:((n5:Int)==0)=false:=by have:=of_decide_eq_false hv6;rw[beq_eq_false_iff_ne];omega
        clear hv6
        go_enter Tryz.func96,Tryz.ntmps96
        go_wp2
        go_ret
        exact⟨rfl,HB.out.trans (HQ0.out.mono HB.out.size)⟩
      |
       false =>
       rw[Bool.false_and]
       rw[hv5] at hejn
       clear hv5
       go_enter Tryz.func96,Tryz.ntmps96
       go_wp2
       go_ret
       exact⟨rfl,HB.out.trans (HQ0.out.mono HB.out.size)⟩
     |
      false =>
      rw[Bool.false_and]
      have gn4:((n4:Int)==0)=false:=by have:=of_decide_eq_false hv4;rw[beq_eq_false_iff_ne];omega
      clear hv4
      go_enter Tryz.func96,Tryz.ntmps96
      go_wp2
      go_ret
      exact⟨rfl,HB.out.trans (HQ0.out.mono HB.out.size)⟩
    |
     false =>
     rw[Bool.false_and]
     have gn3:((n3:Int)==0)=false:=by have:=of_decide_eq_false hv3;rw[beq_eq_false_iff_ne];omega
     clear hv3
     go_enter Tryz.func96,Tryz.ntmps96
     go_wp2
     go_ret
     exact⟨rfl,HB.out.trans (HQ0.out.mono HB.out.size)⟩
   |
    false =>
    rw[Bool.false_and]
    have gn2:((n2:Int)==0)=false:=by have:=of_decide_eq_false hv2;rw[beq_eq_false_iff_ne];omega
    clear hv2
    go_enter Tryz.func96,Tryz.ntmps96
    go_wp2
    go_ret
    exact⟨rfl,HB.out.trans (HQ0.out.mono HB.out.size)⟩
  |
   false =>
   rw[Bool.false_and]
   rw[hv1] at heprim
   clear hv1
   go_enter Tryz.func96,Tryz.ntmps96
   go_wp2
   go_ret
   exact⟨rfl,HB.out.trans (HQ0.out.mono HB.out.size)⟩
 |
  false =>
  rw[Bool.false_and]
  have gn1:((n1:Int)==0)=false:=by have:=of_decide_eq_false hv0;rw[beq_eq_false_iff_ne];omega
  clear hv0
  go_enter Tryz.func96,Tryz.ntmps96
  go_wp2
  go_ret
  exact⟨rfl,HB.out.trans (HQ0.out.mono HB.out.size)⟩
theorem jd {w:World} {g:Nat} {d0 d1 d2 d3 d4 d5 d6 d7 d8 d9 d10 d11 d12 d13:Value} {t:TypeId} (h:w.heap[g]?=some (.cells #[d0,d1,d2,d3,d4,d5,d6,d7,d8,d9,d10,d11,d12,d13] t)):∀i,w.frozen? ⟨g,i,none⟩=false:=fun i=>by simp[World.frozen?,h]
theorem qL {b:Nat} {t:TypeId}:∀(l:List (Nat × Value)) (w:World) (cs:Array Value),w.heap[b]?=some (.cells cs t) →
  ∃X,l.foldl (fun W p=>W.setCell ⟨b,p.1,none⟩ p.2) w=X∧X.heap[b]?=some (.cells (l.foldl (fun c p=>c.setIfInBounds p.1 p.2) cs) t)∧aj (fun k=>k=b) w X
 | [],w,cs,h=>⟨w,rfl,h,aj.refl _ _⟩
 |
  p::l,w,cs,h=>by
  have h1:(w.setCell ⟨b,p.1,none⟩ p.2).heap[b]?=some (.cells (cs.setIfInBounds p.1 p.2) t):=by
   rw[setCell_eq_setRow w b p.1 _ _ _ p.2 h,setRow_heap w b _ _ _ _ h]
  obtain⟨X,hX,h2,h3⟩:=qL l _ _ h1
  exact⟨X,hX,h2,(aj.setCell (S:=fun k=>k=b) (aj.refl _ w) (p:=⟨b,p.1,none⟩) (.inl rfl) p.2).then h3⟩
theorem yB (w:World) (k:Int) (tn:List UInt8) (prim jn:List UInt8) (desc:Bool) (lim:Int) (a1 a2 a3 a4 a5 a6 a7 a8:Option Addr) (n1 n2 n3 n4 n5 n6 n7 n8 c1 c2 c3 c4 c5 c6 c7 c8:Nat) :
  ∃W,(w.alloc (.cells #[.int .i64 k,.string (ah tn),.slice a1 n1 c1,.string (ah prim),.slice a2 n2 c2,.slice a3 n3 c3,.slice a4 n4 c4,.string (ah jn),.slice a5 n5 c5,.slice a6 n6 c6,.slice a7 n7 c7,.slice a8 n8 c8,.bool desc,.int .i64 lim] 28)).alloc (.cells #[.int .i64 0,.string ⟨#[]⟩,.slice a1 n1 c1,.string (ah prim),.slice a2 n2 c2,.slice a3 n3 c3,.slice a4 n4 c4,.string (ah jn),.slice a5 n5 c5,.slice a6 n6 c6,.slice a7 n7 c7,.slice a8 n8 c8,.bool desc,.int .i64 lim] 28)=W∧Below w.heap.size w W∧w.heap.size+1<W.heap.size∧W.heap[w.heap.size]?=some (.cells #[.int .i64 k,.string (ah tn),.slice a1 n1 c1,.string (ah prim),.slice a2 n2 c2,.slice a3 n3 c3,.slice a4 n4 c4,.string (ah jn),.slice a5 n5 c5,.slice a6 n6 c6,.slice a7 n7 c7,.slice a8 n8 c8,.bool desc,.int .i64 lim] 28)∧W.heap[w.heap.size+1]?=some (.cells #[.int .i64 0,.string ⟨#[]⟩,.slice a1 n1 c1,.string (ah prim),.slice a2 n2 c2,.slice a3 n3 c3,.slice a4 n4 c4,.string (ah jn),.slice a5 n5 c5,.slice a6 n6 c6,.slice a7 n7 c7,.slice a8 n8 c8,.bool desc,.int .i64 lim] 28):=by
 refine ⟨_,rfl,((Below.refl _ w).alloc (Nat.le_refl _) _).alloc (by simp) _,by simp,?_,heap_alloc2_new w _ _⟩
 rw[Below.heap_alloc _ _ _ (by simp)]
 exact heap_alloc_new w _
structure yc (s:St):Prop where
 tb:s.tb.length≤9223372036854775807
 prim:s.prim.length≤9223372036854775807
 jn:s.jn.length≤9223372036854775807
 lim:s.lim≤9223372036854775807
 cols : ∀c∈s.cols,c.nm.length≤9223372036854775807
 rows : ∀r∈s.rows,∀v∈r,KD v
 sets : ∀x∈s.sets,x.nm.length≤9223372036854775807∧tH x.e
 items : ∀i∈s.items,∀x∈i.xs,tH x
 on : ∀x∈s.on,tH x
 wh : ∀x∈s.wh,tH x
 gr : ∀x∈s.gr,tH x
 od : ∀x∈s.od,tH x
theorem H9 (s:St) (hk:s.k=0) (ht:s.tb=[]):mQ s=CZ s.cols.length s.prim s.rows.length s.sets.length s.items.length s.jn s.on.length s.wh.length s.gr.length s.od.length s.desc s.lim:=by
 unfold mQ CZ
 rw[Bool.eq_iff_iff]
 simp only[Bool.and_eq_true,decide_eq_true_eq,Bool.not_eq_true',hk,ht,true_and]
theorem C9 (w:World) (tn prim jn:List UInt8) (desc:Bool) (lim:Int) (a1 a2 a3 a4 a5 a6 a7 a8:Option Addr) (n1 n2 n3 n4 n5 n6 n7 n8 c1 c2 c3 c4 c5 c6 c7 c8:Nat) (BC BP BT:Bool)
  (HCO:Hid (∀V,Below w.heap.size w V→Calls Tryz.prog 86 #[.slice a1 n1 c1,.int .i64 1,.int .i64 8,.func (.func 87) #[] #[]] V fun e w'=>e = .returned (.bool BC)∧Below V.heap.size V w')) (HNP:Hid (∀V,Calls Tryz.prog 88 #[.string (ah prim)] V fun e w'=>e = .returned (.bool BP)∧Below V.heap.size V w')) (HNT:Hid (∀V,Calls Tryz.prog 88 #[.string (ah tn)] V fun e w'=>e = .returned (.bool BT)∧Below V.heap.size V w')) :
  Calls Tryz.prog 59 #[.agg #[.int .i64 1,.string (ah tn),.slice a1 n1 c1,.string (ah prim),.slice a2 n2 c2,.slice a3 n3 c3,.slice a4 n4 c4,.string (ah jn),.slice a5 n5 c5,.slice a6 n6 c6,.slice a7 n7 c7,.slice a8 n8 c8,.bool desc,.int .i64 lim]] w fun e w'=>e = .returned (.bool ((BC&&BP)&&(BT&&CZ 0 [] n2 n3 n4 jn n5 n6 n7 n8 desc lim)))∧Below w.heap.size w w':=by
 have HEM:=hid (fun V=>qd (w:=V))
 obtain⟨W,hW,hbW,hzW,hc0,hc1⟩:=yB w 1 tn prim jn desc lim a1 a2 a3 a4 a5 a6 a7 a8 n1 n2 n3 n4 n5 n6 n7 n8 c1 c2 c3 c4 c5 c6 c7 c8
 have q0:=aG hc0
 have q1:=aG hc1
 have q1f:=jd hc1
 have HB:=hid hbW
 have HC0:=hid hc0
 have HC1:=hid hc1
 have hz0:w.heap.size<W.heap.size:=by omega
 clear hbW hc0 hc1
 cases BC with
 |
  true =>
  simp only[Bool.true_and]
  cases BP with
  |
   true =>
   simp only[Bool.true_and]
   cases BT with
   |
    true =>
    simp only[Bool.true_and]
    go_enter Tryz.func59,Tryz.ntmps59
    go_wp2_with (first | (refine wpList_store_row rfl 28 (.tmp 3) (.tmp 5) rfl (w.heap.size+1) #[.int .i64 1,.string (ah tn),.slice a1 n1 c1,.string (ah prim),.slice a2 n2 c2,.slice a3 n3 c3,.slice a4 n4 c4,.string (ah jn),.slice a5 n5 c5,.slice a6 n6 c6,.slice a7 n7 c7,.slice a8 n8 c8,.bool desc,.int .i64 lim] rfl rfl 28 #[.int .i64 0,.string ⟨#[]⟩,.slice none 0 0,.string ⟨#[]⟩,.slice none 0 0,.slice none 0 0,.slice none 0 0,.string ⟨#[]⟩,.slice none 0 0,.slice none 0 0,.slice none 0 0,.slice none 0 0,.bool false,.int .i64 0] (heap_alloc2_new w _ _) Tryz.nY rfl rfl ?_;rw[mK]) | fail)
    try rw[hW]
    clear hW
    refine (HCO.out W HB.out).mono ?_
    rintro e v1 ⟨rfl,hb⟩
    have BL_v1:=hid (hb)
    have p0:=aG ((BL_v1.out.block w.heap.size hz0).trans HC0.out)
    have p1:=aG ((BL_v1.out.block (w.heap.size+1) hzW).trans HC1.out)
    have p1f:=jd ((BL_v1.out.block (w.heap.size+1) hzW).trans HC1.out)
    clear hb q0 q1 q1f
    go_wp2_with fail
    refine (HNP.out v1).mono ?_
    rintro e v2 ⟨rfl,hb⟩
    have BL_v2:=hid (BL_v1.out.trans (hb.mono BL_v1.out.size))
    have p0:=aG ((BL_v2.out.block w.heap.size hz0).trans HC0.out)
    have p1:=aG ((BL_v2.out.block (w.heap.size+1) hzW).trans HC1.out)
    have p1f:=jd ((BL_v2.out.block (w.heap.size+1) hzW).trans HC1.out)
    clear hb
    obtain⟨X,hX,hXc,hXs⟩:=qL [(2,.slice none 0 0),(3,.string ⟨#[]⟩)] v2 _ ((BL_v2.out.block (w.heap.size+1) hzW).trans HC1.out)
    simp only[List.foldl_cons,List.foldl_nil] at hX
    have HXB:Hid (Below w.heap.size w X):=hid ((HB.out.trans (BL_v2.out.mono HB.out.size)).trans (hXs.below (B:=w.heap.size) (fun i hi=>by omega) (by have:=BL_v2.out.size;omega)))
    have hx0:=aG ((hXs.block w.heap.size (by have:=BL_v2.out.size;omega) (by omega)).trans ((BL_v2.out.block w.heap.size hz0).trans HC0.out))
    have HX1:Hid (X.heap[w.heap.size+1]?=some (.cells #[.int .i64 0,.string ⟨#[]⟩,.slice none 0 0,.string ⟨#[]⟩,.slice a2 n2 c2,.slice a3 n3 c3,.slice a4 n4 c4,.string (ah jn),.slice a5 n5 c5,.slice a6 n6 c6,.slice a7 n7 c7,.slice a8 n8 c8,.bool desc,.int .i64 lim] 28)):=hid hXc
    have hXz:w.heap.size+1<X.heap.size:=World.lt_of_block HX1.out
    clear hXc hXs
    go_wp2_with fail
    try rw[hX]
    refine (HNT.out X).mono ?_
    rintro e w8 ⟨rfl,hb8⟩
    have HB8:=hid (HXB.out.trans (hb8.mono HXB.out.size))
    have hx1:=aG ((hb8.block (w.heap.size+1) hXz).trans HX1.out)
    clear hb8
    have HE:=hid (HEM.out w8 [] jn desc lim none a2 a3 a4 a5 a6 a7 a8 0 n2 n3 n4 n5 n6 n7 n8 0 c2 c3 c4 c5 c6 c7 c8)
    go_wp2_with fail
    refine HE.out.mono ?_
    rintro e w9 ⟨rfl,hb9⟩
    have HB9:=hid (HB8.out.trans (hb9.mono HB8.out.size))
    clear hb9
    go_wp2
    go_ret
    exact⟨rfl,HB9.out⟩
   |
    false =>
    simp only[Bool.false_and]
    go_enter Tryz.func59,Tryz.ntmps59
    go_wp2_with (first | (refine wpList_store_row rfl 28 (.tmp 3) (.tmp 5) rfl (w.heap.size+1) #[.int .i64 1,.string (ah tn),.slice a1 n1 c1,.string (ah prim),.slice a2 n2 c2,.slice a3 n3 c3,.slice a4 n4 c4,.string (ah jn),.slice a5 n5 c5,.slice a6 n6 c6,.slice a7 n7 c7,.slice a8 n8 c8,.bool desc,.int .i64 lim] rfl rfl 28 #[.int .i64 0,.string ⟨#[]⟩,.slice none 0 0,.string ⟨#[]⟩,.slice none 0 0,.slice none 0 0,.slice none 0 0,.string ⟨#[]⟩,.slice none 0 0,.slice none 0 0,.slice none 0 0,.slice none 0 0,.bool false,.int .i64 0] (heap_alloc2_new w _ _) Tryz.nY rfl rfl ?_;rw[mK]) | fail)
    try rw[hW]
    clear hW
    refine (HCO.out W HB.out).mono ?_
    rintro e v1 ⟨rfl,hb⟩
    have BL_v1:=hid (hb)
    have p0:=aG ((BL_v1.out.block w.heap.size hz0).trans HC0.out)
    have p1:=aG ((BL_v1.out.block (w.heap.size+1) hzW).trans HC1.out)
    have p1f:=jd ((BL_v1.out.block (w.heap.size+1) hzW).trans HC1.out)
    clear hb q0 q1 q1f
    go_wp2_with fail
    refine (HNP.out v1).mono ?_
    rintro e v2 ⟨rfl,hb⟩
    have BL_v2:=hid (BL_v1.out.trans (hb.mono BL_v1.out.size))
    have p0:=aG ((BL_v2.out.block w.heap.size hz0).trans HC0.out)
    have p1:=aG ((BL_v2.out.block (w.heap.size+1) hzW).trans HC1.out)
    have p1f:=jd ((BL_v2.out.block (w.heap.size+1) hzW).trans HC1.out)
    clear hb
    obtain⟨X,hX,hXc,hXs⟩:=qL [(2,.slice none 0 0),(3,.string ⟨#[]⟩)] v2 _ ((BL_v2.out.block (w.heap.size+1) hzW).trans HC1.out)
    simp only[List.foldl_cons,List.foldl_nil] at hX
    have HXB:Hid (Below w.heap.size w X):=hid ((HB.out.trans (BL_v2.out.mono HB.out.size)).trans (hXs.below (B:=w.heap.size) (fun i hi=>by omega) (by have:=BL_v2.out.size;omega)))
    have hx0:=aG ((hXs.block w.heap.size (by have:=BL_v2.out.size;omega) (by omega)).trans ((BL_v2.out.block w.heap.size hz0).trans HC0.out))
    have HX1:Hid (X.heap[w.heap.size+1]?=some (.cells #[.int .i64 0,.string ⟨#[]⟩,.slice none 0 0,.string ⟨#[]⟩,.slice a2 n2 c2,.slice a3 n3 c3,.slice a4 n4 c4,.string (ah jn),.slice a5 n5 c5,.slice a6 n6 c6,.slice a7 n7 c7,.slice a8 n8 c8,.bool desc,.int .i64 lim] 28)):=hid hXc
    have hXz:w.heap.size+1<X.heap.size:=World.lt_of_block HX1.out
    clear hXc hXs
    go_wp2_with fail
    try rw[hX]
    refine (HNT.out X).mono ?_
    rintro e w8 ⟨rfl,hb8⟩
    have HB8:=hid (HXB.out.trans (hb8.mono HXB.out.size))
    clear hb8
    go_wp2
    go_ret
    exact⟨rfl,HB8.out⟩
  |
   false =>
   simp only[Bool.false_and,Bool.true_and]
   go_enter Tryz.func59,Tryz.ntmps59
   go_wp2_with (first | (refine wpList_store_row rfl 28 (.tmp 3) (.tmp 5) rfl (w.heap.size+1) #[.int .i64 1,.string (ah tn),.slice a1 n1 c1,.string (ah prim),.slice a2 n2 c2,.slice a3 n3 c3,.slice a4 n4 c4,.string (ah jn),.slice a5 n5 c5,.slice a6 n6 c6,.slice a7 n7 c7,.slice a8 n8 c8,.bool desc,.int .i64 lim] rfl rfl 28 #[.int .i64 0,.string ⟨#[]⟩,.slice none 0 0,.string ⟨#[]⟩,.slice none 0 0,.slice none 0 0,.slice none 0 0,.string ⟨#[]⟩,.slice none 0 0,.slice none 0 0,.slice none 0 0,.slice none 0 0,.bool false,.int .i64 0] (heap_alloc2_new w _ _) Tryz.nY rfl rfl ?_;rw[mK]) | fail)
   try rw[hW]
   clear hW
   refine (HCO.out W HB.out).mono ?_
   rintro e v1 ⟨rfl,hb⟩
   have BL_v1:=hid (hb)
   have p0:=aG ((BL_v1.out.block w.heap.size hz0).trans HC0.out)
   have p1:=aG ((BL_v1.out.block (w.heap.size+1) hzW).trans HC1.out)
   have p1f:=jd ((BL_v1.out.block (w.heap.size+1) hzW).trans HC1.out)
   clear hb q0 q1 q1f
   go_wp2_with fail
   refine (HNP.out v1).mono ?_
   rintro e v2 ⟨rfl,hb⟩
   have BL_v2:=hid (BL_v1.out.trans (hb.mono BL_v1.out.size))
   have p0:=aG ((BL_v2.out.block w.heap.size hz0).trans HC0.out)
   have p1:=aG ((BL_v2.out.block (w.heap.size+1) hzW).trans HC1.out)
   have p1f:=jd ((BL_v2.out.block (w.heap.size+1) hzW).trans HC1.out)
   clear hb
   obtain⟨X,hX,hXc,hXs⟩:=qL [(2,.slice none 0 0),(3,.string ⟨#[]⟩)] v2 _ ((BL_v2.out.block (w.heap.size+1) hzW).trans HC1.out)
   simp only[List.foldl_cons,List.foldl_nil] at hX
   have HXB:Hid (Below w.heap.size w X):=hid ((HB.out.trans (BL_v2.out.mono HB.out.size)).trans (hXs.below (B:=w.heap.size) (fun i hi=>by omega) (by have:=BL_v2.out.size;omega)))
   have hx0:=aG ((hXs.block w.heap.size (by have:=BL_v2.out.size;omega) (by omega)).trans ((BL_v2.out.block w.heap.size hz0).trans HC0.out))
   have HX1:Hid (X.heap[w.heap.size+1]?=some (.cells #[.int .i64 0,.string ⟨#[]⟩,.slice none 0 0,.string ⟨#[]⟩,.slice a2 n2 c2,.slice a3 n3 c3,.slice a4 n4 c4,.string (ah jn),.slice a5 n5 c5,.slice a6 n6 c6,.slice a7 n7 c7,.slice a8 n8 c8,.bool desc,.int .i64 lim] 28)):=hid hXc
   have hXz:w.heap.size+1<X.heap.size:=World.lt_of_block HX1.out
   clear hXc hXs
   go_wp2
   go_ret
   exact⟨rfl,HXB.out⟩
 |
  false =>
  simp only[Bool.false_and,Bool.true_and]
  go_enter Tryz.func59,Tryz.ntmps59
  go_wp2_with (first | (refine wpList_store_row rfl 28 (.tmp 3) (.tmp 5) rfl (w.heap.size+1) #[.int .i64 1,.string (ah tn),.slice a1 n1 c1,.string (ah prim),.slice a2 n2 c2,.slice a3 n3 c3,.slice a4 n4 c4,.string (ah jn),.slice a5 n5 c5,.slice a6 n6 c6,.slice a7 n7 c7,.slice a8 n8 c8,.bool desc,.int .i64 lim] rfl rfl 28 #[.int .i64 0,.string ⟨#[]⟩,.slice none 0 0,.string ⟨#[]⟩,.slice none 0 0,.slice none 0 0,.slice none 0 0,.string ⟨#[]⟩,.slice none 0 0,.slice none 0 0,.slice none 0 0,.slice none 0 0,.bool false,.int .i64 0] (heap_alloc2_new w _ _) Tryz.nY rfl rfl ?_;rw[mK]) | fail)
  try rw[hW]
  clear hW
  refine (HCO.out W HB.out).mono ?_
  rintro e v1 ⟨rfl,hb⟩
  have BL_v1:=hid (hb)
  have p0:=aG ((BL_v1.out.block w.heap.size hz0).trans HC0.out)
  have p1:=aG ((BL_v1.out.block (w.heap.size+1) hzW).trans HC1.out)
  have p1f:=jd ((BL_v1.out.block (w.heap.size+1) hzW).trans HC1.out)
  clear hb q0 q1 q1f
  obtain⟨X,hX,hXc,hXs⟩:=qL [(2,.slice none 0 0),(3,.string ⟨#[]⟩)] v1 _ ((BL_v1.out.block (w.heap.size+1) hzW).trans HC1.out)
  simp only[List.foldl_cons,List.foldl_nil] at hX
  have HXB:Hid (Below w.heap.size w X):=hid ((HB.out.trans (BL_v1.out.mono HB.out.size)).trans (hXs.below (B:=w.heap.size) (fun i hi=>by omega) (by have:=BL_v1.out.size;omega)))
  have hx0:=aG ((hXs.block w.heap.size (by have:=BL_v1.out.size;omega) (by omega)).trans ((BL_v1.out.block w.heap.size hz0).trans HC0.out))
  have HX1:Hid (X.heap[w.heap.size+1]?=some (.cells #[.int .i64 0,.string ⟨#[]⟩,.slice none 0 0,.string ⟨#[]⟩,.slice a2 n2 c2,.slice a3 n3 c3,.slice a4 n4 c4,.string (ah jn),.slice a5 n5 c5,.slice a6 n6 c6,.slice a7 n7 c7,.slice a8 n8 c8,.bool desc,.int .i64 lim] 28)):=hid hXc
  have hXz:w.heap.size+1<X.heap.size:=World.lt_of_block HX1.out
  clear hXc hXs
  go_wp2
  go_ret
  exact⟨rfl,HXB.out⟩
end Go.Proofs.YtaaggohjmhifbaaGreatDoor
