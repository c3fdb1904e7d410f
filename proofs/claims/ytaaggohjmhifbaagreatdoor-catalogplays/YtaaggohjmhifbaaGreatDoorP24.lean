/- Packed for the hand-in: WRightT WRightW WRightW1 WSize WTopS WRgA -/
import Derived.Test.YtaaggohjmhifbaaGreatDoorP21
import Derived.Test.YtaaggohjmhifbaaGreatDoorP23
import Derived.Test.YtaaggohjmhifbaaGreatDoorP20
namespace Go.Proofs.YtaaggohjmhifbaaGreatDoor
open Go.RowKit Go.Shelf
set_option linter.unusedSimpArgs false
set_option linter.unusedVariables false
set_option maxRecDepth 20000
set_option maxHeartbeats 8000000
def empC (n1:Nat) (prim:List UInt8) (n2 n3 n4:Nat) (jn:List UInt8) (n5 n6 n7 n8:Nat) (desc:Bool) (lim:Int):Bool:=decide (n1=0)&&(decide (prim=[])&&(decide (n2=0)&&(decide (n3=0)&&(decide (n4=0)&&(decide (jn=[])&&(decide (n5=0)&&(decide (n6=0)&&(decide (n7=0)&&(decide (n8=0)&&((!desc)&&decide (lim = -1)))))))))))
theorem emptyStatement_any (prim jn:List UInt8) (desc:Bool) (lim:Int) (a1 a2 a3 a4 a5 a6 a7 a8:Option Addr) (n1 n2 n3 n4 n5 n6 n7 n8 c1 c2 c3 c4 c5 c6 c7 c8:Nat) (w:World) :
  Calls Tryz.prog 96 #[.agg #[.int .i64 0,.string ⟨#[]⟩,.slice a1 n1 c1,.string (str8 prim),.slice a2 n2 c2,.slice a3 n3 c3,.slice a4 n4 c4,.string (str8 jn),.slice a5 n5 c5,.slice a6 n6 c6,.slice a7 n7 c7,.slice a8 n8 c8,.bool desc,.int .i64 lim]] w fun e w'=>e = .returned (.bool (empC n1 prim n2 n3 n4 jn n5 n6 n7 n8 desc lim))∧Below w.heap.size w w':=by
 have heprim:=str8_empty prim
 have hejn:=str8_empty jn
 unfold empC
 obtain⟨W,hW,hbW,hzW,hcW⟩:=box8 w (.cells #[.int .i64 0,.string ⟨#[]⟩,.slice a1 n1 c1,.string (str8 prim),.slice a2 n2 c2,.slice a3 n3 c3,.slice a4 n4 c4,.string (str8 jn),.slice a5 n5 c5,.slice a6 n6 c6,.slice a7 n7 c7,.slice a8 n8 c8,.bool desc,.int .i64 lim] 28)
 have k0:=cells14 hcW
 have HB:=hid hbW
 have HC:=hid hcW
 have HQ0:=hid (Below.refl W.heap.size W)
 clear hbW hcW
 cases hv0:decide (n1=0) with
 |
  true =>
  rw[Bool.true_and]
  have gn1:((n1:Int)==0)=true:=by rw[of_decide_eq_true hv0];rfl
  clear hv0
  cases hv1:decide (prim=[]) with
  |
   true =>
   rw[Bool.true_and]
   rw[hv1] at heprim
   clear hv1
   cases hv2:decide (n2=0) with
   |
    true =>
    rw[Bool.true_and]
    have gn2:((n2:Int)==0)=true:=by rw[of_decide_eq_true hv2];rfl
    clear hv2
    cases hv3:decide (n3=0) with
    |
     true =>
     rw[Bool.true_and]
     have gn3:((n3:Int)==0)=true:=by rw[of_decide_eq_true hv3];rfl
     clear hv3
     cases hv4:decide (n4=0) with
     |
      true =>
      rw[Bool.true_and]
      have gn4:((n4:Int)==0)=true:=by rw[of_decide_eq_true hv4];rfl
      clear hv4
      cases hv5:decide (jn=[]) with
      |
       true =>
       rw[Bool.true_and]
       rw[hv5] at hejn
       clear hv5
       cases hv6:decide (n5=0) with
       |
        true =>
        rw[Bool.true_and]
        have gn5:((n5:Int)==0)=true:=by rw[of_decide_eq_true hv6];rfl
        clear hv6
        cases hv7:decide (n6=0) with
        |
         true =>
         rw[Bool.true_and]
         have gn6:((n6:Int)==0)=true:=by rw[of_decide_eq_true hv7];rfl
         clear hv7
         cases hv8:decide (n7=0) with
         |
          true =>
          rw[Bool.true_and]
          have gn7:((n7:Int)==0)=true:=by rw[of_decide_eq_true hv8];rfl
          clear hv8
          cases hv9:decide (n8=0) with
          |
           true =>
           rw[Bool.true_and]
           have gn8:((n8:Int)==0)=true:=by rw[of_decide_eq_true hv9];rfl
           clear hv9
           cases hv10:(!desc) with
           |
            true =>
            rw[Bool.true_and]
            obtain hde:desc=false:=by simpa using hv10
            subst hde
            clear hv10
            cases hv11:decide (lim = -1) with
            |
             true =>
             have glim:(lim==-1)=true:=by rw[of_decide_eq_true hv11];rfl
             clear hv11
             go_enter Tryz.func96,Tryz.ntmps96
             go_wp2
             go_ret
             exact⟨rfl,HB.out.trans (HQ0.out.mono HB.out.size)⟩
            |
             false =>
             have glim:(lim==-1)=false:=by rw[beq_eq_false_iff_ne];exact of_decide_eq_false hv11
             clear hv11
             go_enter Tryz.func96,Tryz.ntmps96
             go_wp2
             go_ret
             exact⟨rfl,HB.out.trans (HQ0.out.mono HB.out.size)⟩
           |
            false =>
            rw[Bool.false_and]
            obtain hde:desc=true:=by simpa using hv10
            subst hde
            clear hv10
            go_enter Tryz.func96,Tryz.ntmps96
            go_wp2
            go_ret
            exact⟨rfl,HB.out.trans (HQ0.out.mono HB.out.size)⟩
          |
           false =>
           rw[Bool.false_and]
           have gn8:((n8:Int)==0)=false:=by have:=of_decide_eq_false hv9;rw[beq_eq_false_iff_ne];omega
           clear hv9
           go_enter Tryz.func96,Tryz.ntmps96
           go_wp2
           go_ret
           exact⟨rfl,HB.out.trans (HQ0.out.mono HB.out.size)⟩
         |
          false =>
          rw[Bool.false_and]
          have gn7:((n7:Int)==0)=false:=by have:=of_decide_eq_false hv8;rw[beq_eq_false_iff_ne];omega
          clear hv8
          go_enter Tryz.func96,Tryz.ntmps96
          go_wp2
          go_ret
          exact⟨rfl,HB.out.trans (HQ0.out.mono HB.out.size)⟩
        |
         false =>
         rw[Bool.false_and]
         have gn6:((n6:Int)==0)=false:=by have:=of_decide_eq_false hv7;rw[beq_eq_false_iff_ne];omega
         clear hv7
         go_enter Tryz.func96,Tryz.ntmps96
         go_wp2
         go_ret
         exact⟨rfl,HB.out.trans (HQ0.out.mono HB.out.size)⟩
       |
        false =>
        rw[Bool.false_and]
        have gn5:((n5:Int)==0)=false:=by have:=of_decide_eq_false hv6;rw[beq_eq_false_iff_ne];omega
        clear hv6
        go_enter Tryz.func96,Tryz.ntmps96
        go_wp2
        go_ret
        exact⟨rfl,HB.out.trans (HQ0.out.mono HB.out.size)⟩
      |
       false =>
       rw[Bool.false_and]
       rw[hv5] at hejn
       clear hv5
       go_enter Tryz.func96,Tryz.ntmps96
       go_wp2
       go_ret
       exact⟨rfl,HB.out.trans (HQ0.out.mono HB.out.size)⟩
     |
      false =>
      rw[Bool.false_and]
      have gn4:((n4:Int)==0)=false:=by have:=of_decide_eq_false hv4;rw[beq_eq_false_iff_ne];omega
      clear hv4
      go_enter Tryz.func96,Tryz.ntmps96
      go_wp2
      go_ret
      exact⟨rfl,HB.out.trans (HQ0.out.mono HB.out.size)⟩
    |
     false =>
     rw[Bool.false_and]
     have gn3:((n3:Int)==0)=false:=by have:=of_decide_eq_false hv3;rw[beq_eq_false_iff_ne];omega
     clear hv3
     go_enter Tryz.func96,Tryz.ntmps96
     go_wp2
     go_ret
     exact⟨rfl,HB.out.trans (HQ0.out.mono HB.out.size)⟩
   |
    false =>
    rw[Bool.false_and]
    have gn2:((n2:Int)==0)=false:=by have:=of_decide_eq_false hv2;rw[beq_eq_false_iff_ne];omega
    clear hv2
    go_enter Tryz.func96,Tryz.ntmps96
    go_wp2
    go_ret
    exact⟨rfl,HB.out.trans (HQ0.out.mono HB.out.size)⟩
  |
   false =>
   rw[Bool.false_and]
   rw[hv1] at heprim
   clear hv1
   go_enter Tryz.func96,Tryz.ntmps96
   go_wp2
   go_ret
   exact⟨rfl,HB.out.trans (HQ0.out.mono HB.out.size)⟩
 |
  false =>
  rw[Bool.false_and]
  have gn1:((n1:Int)==0)=false:=by have:=of_decide_eq_false hv0;rw[beq_eq_false_iff_ne];omega
  clear hv0
  go_enter Tryz.func96,Tryz.ntmps96
  go_wp2
  go_ret
  exact⟨rfl,HB.out.trans (HQ0.out.mono HB.out.size)⟩
theorem cells14F {w:World} {g:Nat} {d0 d1 d2 d3 d4 d5 d6 d7 d8 d9 d10 d11 d12 d13:Value} {t:TypeId} (h:w.heap[g]?=some (.cells #[d0,d1,d2,d3,d4,d5,d6,d7,d8,d9,d10,d11,d12,d13] t)):∀i,w.frozen? ⟨g,i,none⟩=false:=fun i=>by simp[World.frozen?,h]
theorem sets_at {b:Nat} {t:TypeId}:∀(l:List (Nat × Value)) (w:World) (cs:Array Value),w.heap[b]?=some (.cells cs t) →
  ∃X,l.foldl (fun W p=>W.setCell ⟨b,p.1,none⟩ p.2) w=X∧X.heap[b]?=some (.cells (l.foldl (fun c p=>c.setIfInBounds p.1 p.2) cs) t)∧Spares (fun k=>k=b) w X
 | [],w,cs,h=>⟨w,rfl,h,Spares.refl _ _⟩
 |
  p::l,w,cs,h=>by
  have h1:(w.setCell ⟨b,p.1,none⟩ p.2).heap[b]?=some (.cells (cs.setIfInBounds p.1 p.2) t):=by
   rw[setCell_eq_setRow w b p.1 _ _ _ p.2 h,setRow_heap w b _ _ _ _ h]
  obtain⟨X,hX,h2,h3⟩:=sets_at l _ _ h1
  exact⟨X,hX,h2,(Spares.setCell (S:=fun k=>k=b) (Spares.refl _ w) (p:=⟨b,p.1,none⟩) (.inl rfl) p.2).then h3⟩
theorem restS_boxes (w:World) (k:Int) (tn:List UInt8) (prim jn:List UInt8) (desc:Bool) (lim:Int) (a1 a2 a3 a4 a5 a6 a7 a8:Option Addr) (n1 n2 n3 n4 n5 n6 n7 n8 c1 c2 c3 c4 c5 c6 c7 c8:Nat) :
  ∃W,(w.alloc (.cells #[.int .i64 k,.string (str8 tn),.slice a1 n1 c1,.string (str8 prim),.slice a2 n2 c2,.slice a3 n3 c3,.slice a4 n4 c4,.string (str8 jn),.slice a5 n5 c5,.slice a6 n6 c6,.slice a7 n7 c7,.slice a8 n8 c8,.bool desc,.int .i64 lim] 28)).alloc (.cells #[.int .i64 0,.string ⟨#[]⟩,.slice a1 n1 c1,.string (str8 prim),.slice a2 n2 c2,.slice a3 n3 c3,.slice a4 n4 c4,.string (str8 jn),.slice a5 n5 c5,.slice a6 n6 c6,.slice a7 n7 c7,.slice a8 n8 c8,.bool desc,.int .i64 lim] 28)=W∧Below w.heap.size w W∧w.heap.size+1<W.heap.size∧W.heap[w.heap.size]?=some (.cells #[.int .i64 k,.string (str8 tn),.slice a1 n1 c1,.string (str8 prim),.slice a2 n2 c2,.slice a3 n3 c3,.slice a4 n4 c4,.string (str8 jn),.slice a5 n5 c5,.slice a6 n6 c6,.slice a7 n7 c7,.slice a8 n8 c8,.bool desc,.int .i64 lim] 28)∧W.heap[w.heap.size+1]?=some (.cells #[.int .i64 0,.string ⟨#[]⟩,.slice a1 n1 c1,.string (str8 prim),.slice a2 n2 c2,.slice a3 n3 c3,.slice a4 n4 c4,.string (str8 jn),.slice a5 n5 c5,.slice a6 n6 c6,.slice a7 n7 c7,.slice a8 n8 c8,.bool desc,.int .i64 lim] 28):=by
 refine ⟨_,rfl,((Below.refl _ w).alloc (Nat.le_refl _) _).alloc (by simp) _,by simp,?_,heap_alloc2_new w _ _⟩
 rw[Below.heap_alloc _ _ _ (by simp)]
 exact heap_alloc_new w _
structure RgS (s:St):Prop where
 tb:s.tb.length≤9223372036854775807
 prim:s.prim.length≤9223372036854775807
 jn:s.jn.length≤9223372036854775807
 lim:s.lim≤9223372036854775807
 cols : ∀c∈s.cols,c.nm.length≤9223372036854775807
 rows : ∀r∈s.rows,∀v∈r,RgV v
 sets : ∀x∈s.sets,x.nm.length≤9223372036854775807∧RgE x.e
 items : ∀i∈s.items,∀x∈i.xs,RgE x
 on : ∀x∈s.on,RgE x
 wh : ∀x∈s.wh,RgE x
 gr : ∀x∈s.gr,RgE x
 od : ∀x∈s.od,RgE x
theorem empS_eq (s:St) (hk:s.k=0) (ht:s.tb=[]):empS s=empC s.cols.length s.prim s.rows.length s.sets.length s.items.length s.jn s.on.length s.wh.length s.gr.length s.od.length s.desc s.lim:=by
 unfold empS empC
 rw[Bool.eq_iff_iff]
 simp only[Bool.and_eq_true,decide_eq_true_eq,Bool.not_eq_true',hk,ht,true_and]
theorem rightSt_1 (w:World) (tn prim jn:List UInt8) (desc:Bool) (lim:Int) (a1 a2 a3 a4 a5 a6 a7 a8:Option Addr) (n1 n2 n3 n4 n5 n6 n7 n8 c1 c2 c3 c4 c5 c6 c7 c8:Nat) (BC BP BT:Bool)
  (HCO:Hid (∀V,Below w.heap.size w V→Calls Tryz.prog 86 #[.slice a1 n1 c1,.int .i64 1,.int .i64 8,.func (.func 87) #[] #[]] V fun e w'=>e = .returned (.bool BC)∧Below V.heap.size V w')) (HNP:Hid (∀V,Calls Tryz.prog 88 #[.string (str8 prim)] V fun e w'=>e = .returned (.bool BP)∧Below V.heap.size V w')) (HNT:Hid (∀V,Calls Tryz.prog 88 #[.string (str8 tn)] V fun e w'=>e = .returned (.bool BT)∧Below V.heap.size V w')) :
  Calls Tryz.prog 59 #[.agg #[.int .i64 1,.string (str8 tn),.slice a1 n1 c1,.string (str8 prim),.slice a2 n2 c2,.slice a3 n3 c3,.slice a4 n4 c4,.string (str8 jn),.slice a5 n5 c5,.slice a6 n6 c6,.slice a7 n7 c7,.slice a8 n8 c8,.bool desc,.int .i64 lim]] w fun e w'=>e = .returned (.bool ((BC&&BP)&&(BT&&empC 0 [] n2 n3 n4 jn n5 n6 n7 n8 desc lim)))∧Below w.heap.size w w':=by
 have HEM:=hid (fun V=>emptyStatement_any (w:=V))
 obtain⟨W,hW,hbW,hzW,hc0,hc1⟩:=restS_boxes w 1 tn prim jn desc lim a1 a2 a3 a4 a5 a6 a7 a8 n1 n2 n3 n4 n5 n6 n7 n8 c1 c2 c3 c4 c5 c6 c7 c8
 have q0:=cells14 hc0
 have q1:=cells14 hc1
 have q1f:=cells14F hc1
 have HB:=hid hbW
 have HC0:=hid hc0
 have HC1:=hid hc1
 have hz0:w.heap.size<W.heap.size:=by omega
 clear hbW hc0 hc1
 cases BC with
 |
  true =>
  simp only[Bool.true_and]
  cases BP with
  |
   true =>
   simp only[Bool.true_and]
   cases BT with
   |
    true =>
    simp only[Bool.true_and]
    go_enter Tryz.func59,Tryz.ntmps59
    go_wp2_with (first | (refine wpList_store_row rfl 28 (.tmp 3) (.tmp 5) rfl (w.heap.size+1) #[.int .i64 1,.string (str8 tn),.slice a1 n1 c1,.string (str8 prim),.slice a2 n2 c2,.slice a3 n3 c3,.slice a4 n4 c4,.string (str8 jn),.slice a5 n5 c5,.slice a6 n6 c6,.slice a7 n7 c7,.slice a8 n8 c8,.bool desc,.int .i64 lim] rfl rfl 28 #[.int .i64 0,.string ⟨#[]⟩,.slice none 0 0,.string ⟨#[]⟩,.slice none 0 0,.slice none 0 0,.slice none 0 0,.string ⟨#[]⟩,.slice none 0 0,.slice none 0 0,.slice none 0 0,.slice none 0 0,.bool false,.int .i64 0] (heap_alloc2_new w _ _) Tryz.sizeSt rfl rfl ?_;rw[rest_store]) | fail)
    try rw[hW]
    clear hW
    refine (HCO.out W HB.out).mono ?_
    rintro e v1 ⟨rfl,hb⟩
    have BL_v1:=hid (hb)
    have p0:=cells14 ((BL_v1.out.block w.heap.size hz0).trans HC0.out)
    have p1:=cells14 ((BL_v1.out.block (w.heap.size+1) hzW).trans HC1.out)
    have p1f:=cells14F ((BL_v1.out.block (w.heap.size+1) hzW).trans HC1.out)
    clear hb q0 q1 q1f
    go_wp2_with fail
    refine (HNP.out v1).mono ?_
    rintro e v2 ⟨rfl,hb⟩
    have BL_v2:=hid (BL_v1.out.trans (hb.mono BL_v1.out.size))
    have p0:=cells14 ((BL_v2.out.block w.heap.size hz0).trans HC0.out)
    have p1:=cells14 ((BL_v2.out.block (w.heap.size+1) hzW).trans HC1.out)
    have p1f:=cells14F ((BL_v2.out.block (w.heap.size+1) hzW).trans HC1.out)
    clear hb
    obtain⟨X,hX,hXc,hXs⟩:=sets_at [(2,.slice none 0 0),(3,.string ⟨#[]⟩)] v2 _ ((BL_v2.out.block (w.heap.size+1) hzW).trans HC1.out)
    simp only[List.foldl_cons,List.foldl_nil] at hX
    have HXB:Hid (Below w.heap.size w X):=hid ((HB.out.trans (BL_v2.out.mono HB.out.size)).trans (hXs.below (B:=w.heap.size) (fun i hi=>by omega) (by have:=BL_v2.out.size;omega)))
    have hx0:=cells14 ((hXs.block w.heap.size (by have:=BL_v2.out.size;omega) (by omega)).trans ((BL_v2.out.block w.heap.size hz0).trans HC0.out))
    have HX1:Hid (X.heap[w.heap.size+1]?=some (.cells #[.int .i64 0,.string ⟨#[]⟩,.slice none 0 0,.string ⟨#[]⟩,.slice a2 n2 c2,.slice a3 n3 c3,.slice a4 n4 c4,.string (str8 jn),.slice a5 n5 c5,.slice a6 n6 c6,.slice a7 n7 c7,.slice a8 n8 c8,.bool desc,.int .i64 lim] 28)):=hid hXc
    have hXz:w.heap.size+1<X.heap.size:=World.lt_of_block HX1.out
    clear hXc hXs
    go_wp2_with fail
    try rw[hX]
    refine (HNT.out X).mono ?_
    rintro e w8 ⟨rfl,hb8⟩
    have HB8:=hid (HXB.out.trans (hb8.mono HXB.out.size))
    have hx1:=cells14 ((hb8.block (w.heap.size+1) hXz).trans HX1.out)
    clear hb8
    have HE:=hid (HEM.out w8 [] jn desc lim none a2 a3 a4 a5 a6 a7 a8 0 n2 n3 n4 n5 n6 n7 n8 0 c2 c3 c4 c5 c6 c7 c8)
    go_wp2_with fail
    refine HE.out.mono ?_
    rintro e w9 ⟨rfl,hb9⟩
    have HB9:=hid (HB8.out.trans (hb9.mono HB8.out.size))
    clear hb9
    go_wp2
    go_ret
    exact⟨rfl,HB9.out⟩
   |
    false =>
    simp only[Bool.false_and]
    go_enter Tryz.func59,Tryz.ntmps59
    go_wp2_with (first | (refine wpList_store_row rfl 28 (.tmp 3) (.tmp 5) rfl (w.heap.size+1) #[.int .i64 1,.string (str8 tn),.slice a1 n1 c1,.string (str8 prim),.slice a2 n2 c2,.slice a3 n3 c3,.slice a4 n4 c4,.string (str8 jn),.slice a5 n5 c5,.slice a6 n6 c6,.slice a7 n7 c7,.slice a8 n8 c8,.bool desc,.int .i64 lim] rfl rfl 28 #[.int .i64 0,.string ⟨#[]⟩,.slice none 0 0,.string ⟨#[]⟩,.slice none 0 0,.slice none 0 0,.slice none 0 0,.string ⟨#[]⟩,.slice none 0 0,.slice none 0 0,.slice none 0 0,.slice none 0 0,.bool false,.int .i64 0] (heap_alloc2_new w _ _) Tryz.sizeSt rfl rfl ?_;rw[rest_store]) | fail)
    try rw[hW]
    clear hW
    refine (HCO.out W HB.out).mono ?_
    rintro e v1 ⟨rfl,hb⟩
    have BL_v1:=hid (hb)
    have p0:=cells14 ((BL_v1.out.block w.heap.size hz0).trans HC0.out)
    have p1:=cells14 ((BL_v1.out.block (w.heap.size+1) hzW).trans HC1.out)
    have p1f:=cells14F ((BL_v1.out.block (w.heap.size+1) hzW).trans HC1.out)
    clear hb q0 q1 q1f
    go_wp2_with fail
    refine (HNP.out v1).mono ?_
    rintro e v2 ⟨rfl,hb⟩
    have BL_v2:=hid (BL_v1.out.trans (hb.mono BL_v1.out.size))
    have p0:=cells14 ((BL_v2.out.block w.heap.size hz0).trans HC0.out)
    have p1:=cells14 ((BL_v2.out.block (w.heap.size+1) hzW).trans HC1.out)
    have p1f:=cells14F ((BL_v2.out.block (w.heap.size+1) hzW).trans HC1.out)
    clear hb
    obtain⟨X,hX,hXc,hXs⟩:=sets_at [(2,.slice none 0 0),(3,.string ⟨#[]⟩)] v2 _ ((BL_v2.out.block (w.heap.size+1) hzW).trans HC1.out)
    simp only[List.foldl_cons,List.foldl_nil] at hX
    have HXB:Hid (Below w.heap.size w X):=hid ((HB.out.trans (BL_v2.out.mono HB.out.size)).trans (hXs.below (B:=w.heap.size) (fun i hi=>by omega) (by have:=BL_v2.out.size;omega)))
    have hx0:=cells14 ((hXs.block w.heap.size (by have:=BL_v2.out.size;omega) (by omega)).trans ((BL_v2.out.block w.heap.size hz0).trans HC0.out))
    have HX1:Hid (X.heap[w.heap.size+1]?=some (.cells #[.int .i64 0,.string ⟨#[]⟩,.slice none 0 0,.string ⟨#[]⟩,.slice a2 n2 c2,.slice a3 n3 c3,.slice a4 n4 c4,.string (str8 jn),.slice a5 n5 c5,.slice a6 n6 c6,.slice a7 n7 c7,.slice a8 n8 c8,.bool desc,.int .i64 lim] 28)):=hid hXc
    have hXz:w.heap.size+1<X.heap.size:=World.lt_of_block HX1.out
    clear hXc hXs
    go_wp2_with fail
    try rw[hX]
    refine (HNT.out X).mono ?_
    rintro e w8 ⟨rfl,hb8⟩
    have HB8:=hid (HXB.out.trans (hb8.mono HXB.out.size))
    clear hb8
    go_wp2
    go_ret
    exact⟨rfl,HB8.out⟩
  |
   false =>
   simp only[Bool.false_and,Bool.true_and]
   go_enter Tryz.func59,Tryz.ntmps59
   go_wp2_with (first | (refine wpList_store_row rfl 28 (.tmp 3) (.tmp 5) rfl (w.heap.size+1) #[.int .i64 1,.string (str8 tn),.slice a1 n1 c1,.string (str8 prim),.slice a2 n2 c2,.slice a3 n3 c3,.slice a4 n4 c4,.string (str8 jn),.slice a5 n5 c5,.slice a6 n6 c6,.slice a7 n7 c7,.slice a8 n8 c8,.bool desc,.int .i64 lim] rfl rfl 28 #[.int .i64 0,.string ⟨#[]⟩,.slice none 0 0,.string ⟨#[]⟩,.slice none 0 0,.slice none 0 0,.slice none 0 0,.string ⟨#[]⟩,.slice none 0 0,.slice none 0 0,.slice none 0 0,.slice none 0 0,.bool false,.int .i64 0] (heap_alloc2_new w _ _) Tryz.sizeSt rfl rfl ?_;rw[rest_store]) | fail)
   try rw[hW]
   clear hW
   refine (HCO.out W HB.out).mono ?_
   rintro e v1 ⟨rfl,hb⟩
   have BL_v1:=hid (hb)
   have p0:=cells14 ((BL_v1.out.block w.heap.size hz0).trans HC0.out)
   have p1:=cells14 ((BL_v1.out.block (w.heap.size+1) hzW).trans HC1.out)
   have p1f:=cells14F ((BL_v1.out.block (w.heap.size+1) hzW).trans HC1.out)
   clear hb q0 q1 q1f
   go_wp2_with fail
   refine (HNP.out v1).mono ?_
   rintro e v2 ⟨rfl,hb⟩
   have BL_v2:=hid (BL_v1.out.trans (hb.mono BL_v1.out.size))
   have p0:=cells14 ((BL_v2.out.block w.heap.size hz0).trans HC0.out)
   have p1:=cells14 ((BL_v2.out.block (w.heap.size+1) hzW).trans HC1.out)
   have p1f:=cells14F ((BL_v2.out.block (w.heap.size+1) hzW).trans HC1.out)
   clear hb
   obtain⟨X,hX,hXc,hXs⟩:=sets_at [(2,.slice none 0 0),(3,.string ⟨#[]⟩)] v2 _ ((BL_v2.out.block (w.heap.size+1) hzW).trans HC1.out)
   simp only[List.foldl_cons,List.foldl_nil] at hX
   have HXB:Hid (Below w.heap.size w X):=hid ((HB.out.trans (BL_v2.out.mono HB.out.size)).trans (hXs.below (B:=w.heap.size) (fun i hi=>by omega) (by have:=BL_v2.out.size;omega)))
   have hx0:=cells14 ((hXs.block w.heap.size (by have:=BL_v2.out.size;omega) (by omega)).trans ((BL_v2.out.block w.heap.size hz0).trans HC0.out))
   have HX1:Hid (X.heap[w.heap.size+1]?=some (.cells #[.int .i64 0,.string ⟨#[]⟩,.slice none 0 0,.string ⟨#[]⟩,.slice a2 n2 c2,.slice a3 n3 c3,.slice a4 n4 c4,.string (str8 jn),.slice a5 n5 c5,.slice a6 n6 c6,.slice a7 n7 c7,.slice a8 n8 c8,.bool desc,.int .i64 lim] 28)):=hid hXc
   have hXz:w.heap.size+1<X.heap.size:=World.lt_of_block HX1.out
   clear hXc hXs
   go_wp2
   go_ret
   exact⟨rfl,HXB.out⟩
 |
  false =>
  simp only[Bool.false_and,Bool.true_and]
  go_enter Tryz.func59,Tryz.ntmps59
  go_wp2_with (first | (refine wpList_store_row rfl 28 (.tmp 3) (.tmp 5) rfl (w.heap.size+1) #[.int .i64 1,.string (str8 tn),.slice a1 n1 c1,.string (str8 prim),.slice a2 n2 c2,.slice a3 n3 c3,.slice a4 n4 c4,.string (str8 jn),.slice a5 n5 c5,.slice a6 n6 c6,.slice a7 n7 c7,.slice a8 n8 c8,.bool desc,.int .i64 lim] rfl rfl 28 #[.int .i64 0,.string ⟨#[]⟩,.slice none 0 0,.string ⟨#[]⟩,.slice none 0 0,.slice none 0 0,.slice none 0 0,.string ⟨#[]⟩,.slice none 0 0,.slice none 0 0,.slice none 0 0,.slice none 0 0,.bool false,.int .i64 0] (heap_alloc2_new w _ _) Tryz.sizeSt rfl rfl ?_;rw[rest_store]) | fail)
  try rw[hW]
  clear hW
  refine (HCO.out W HB.out).mono ?_
  rintro e v1 ⟨rfl,hb⟩
  have BL_v1:=hid (hb)
  have p0:=cells14 ((BL_v1.out.block w.heap.size hz0).trans HC0.out)
  have p1:=cells14 ((BL_v1.out.block (w.heap.size+1) hzW).trans HC1.out)
  have p1f:=cells14F ((BL_v1.out.block (w.heap.size+1) hzW).trans HC1.out)
  clear hb q0 q1 q1f
  obtain⟨X,hX,hXc,hXs⟩:=sets_at [(2,.slice none 0 0),(3,.string ⟨#[]⟩)] v1 _ ((BL_v1.out.block (w.heap.size+1) hzW).trans HC1.out)
  simp only[List.foldl_cons,List.foldl_nil] at hX
  have HXB:Hid (Below w.heap.size w X):=hid ((HB.out.trans (BL_v1.out.mono HB.out.size)).trans (hXs.below (B:=w.heap.size) (fun i hi=>by omega) (by have:=BL_v1.out.size;omega)))
  have hx0:=cells14 ((hXs.block w.heap.size (by have:=BL_v1.out.size;omega) (by omega)).trans ((BL_v1.out.block w.heap.size hz0).trans HC0.out))
  have HX1:Hid (X.heap[w.heap.size+1]?=some (.cells #[.int .i64 0,.string ⟨#[]⟩,.slice none 0 0,.string ⟨#[]⟩,.slice a2 n2 c2,.slice a3 n3 c3,.slice a4 n4 c4,.string (str8 jn),.slice a5 n5 c5,.slice a6 n6 c6,.slice a7 n7 c7,.slice a8 n8 c8,.bool desc,.int .i64 lim] 28)):=hid hXc
  have hXz:w.heap.size+1<X.heap.size:=World.lt_of_block HX1.out
  clear hXc hXs
  go_wp2
  go_ret
  exact⟨rfl,HXB.out⟩
end Go.Proofs.YtaaggohjmhifbaaGreatDoor
namespace Go.Proofs.YtaaggohjmhifbaaGreatDoor
set_option linter.unusedSimpArgs false
set_option linter.unusedVariables false
set_option maxHeartbeats 8000000
def exsS (s:St):List Ex:=s.sets.map (fun x=>x.e)++(s.items.flatMap (fun i=>i.xs)++(s.on++(s.wh++(s.gr++s.od))))
theorem sepK_le {α:Type} (sep:Tk) (tk:α→List Tk) (B:Nat) (l:List α) (h : ∀x∈l,(tk x).length≤B):(sepK sep (l.map tk)).length≤l.length*(B+1):=by
 have h2 : ∀l:List α,(∀x∈l,(tk x).length≤B)→((l.map tk).flatMap fun y=>sep::y).length≤l.length*(B+1):=fun l=>by
  induction l with
  | nil=>intro _;simp
  |
   cons x l ih =>
   intro h
   have h1:=h x (by simp)
   have h3:=ih (fun y hy=>h y (by simp[hy]))
   simp only[List.map_cons,List.flatMap_cons,List.length_append,List.length_cons,Nat.add_mul]
   omega
 cases l with
 | nil=>simp[sepK]
 |
  cons x l =>
  have h1:=h x (by simp)
  have h3:=h2 l (fun y hy=>h y (by simp[hy]))
  simp only[List.map_cons,sepK,List.length_append,List.length_cons,Nat.add_mul]
  omega
theorem exK_le (e:Ex):(exK e).length≤8*exZ e:=by
 have:=(tk_len (tmE e)).2
 unfold exK exZ
 omega
theorem exD_le (e:Ex):exD e≤2*exZ e:=by
 have:=dp_le (tmE e)
 unfold exD exZ
 omega
theorem maxL_up {l:List Nat} {n:Nat} (h : ∀x∈l,x≤n):maxL l≤n:=by
 unfold maxL
 induction l with
 | nil=>simp
 |
  cons x l ih =>
  have h1:=h x (by simp)
  have h2:=ih (fun y hy=>h y (by simp[hy]))
  simp only[List.foldr_cons]
  omega
theorem partK_le {xs:List Ex} {ws:List (List UInt8)} {Z:Nat} (hl:xs.length≤1) (h : ∀e∈xs,exZ e≤Z):(partK xs ws).length≤ws.length+8*Z:=by
 match xs,hl with
 | [],_=>simp[partK]
 |
  [x],_ =>
  have h1:=exK_le x
  have h2:=h x (by simp)
  simp only[partK,wordsK,List.flatMap_cons,List.flatMap_nil,List.append_nil,List.length_append,List.length_map]
  omega
 | _::_::_,hl=>simp at hl
theorem areB_len {α:Type} {xs:List α} {a b:Nat} {p:α→Bool} (h:areB xs a b p=true):a≤xs.length∧xs.length≤b:=by
 unfold areB at h
 simp only[Bool.and_eq_true,decide_eq_true_eq] at h
 exact h.1
theorem litK_le (v:Vl):(litK v).length≤2:=(litK_len v).2
theorem colK_le (c:Co):(colK c).length≤5:=by
 unfold colK
 simp only[List.length_cons,List.length_append]
 split<;>split<;>simp[wordsK]
theorem vrowK_le {r:List Vl} (h:rowB r=true):(vrowK r).length≤26:=by
 have h1:=(areB_len h).2
 have h2:=sepK_le (fxT [44]) litK 2 r (fun x _=>litK_le x)
 unfold vrowK
 simp only[List.length_cons,List.length_append,List.length_nil]
 omega
theorem itK_le {i:It} {Z:Nat} (h:itB i=true) (hz : ∀e∈i.xs,exZ e≤Z):(itK i).length≤8*Z+4:=by
 have hd:(exK (i.xs.headD zEx)).length≤8*Z∨(i.k=1∨i.k=3):=by
  unfold itB at h
  by_cases h1:i.k=1∨i.k=3
  ·exact .inr h1
  ·rw[if_neg h1] at h
   split at h
   ·obtain⟨x,l,hx,_,_⟩:=areB_cons h
    refine .inl ?_
    rw[hx]
    have h3:=exK_le x
    have h4:=hz x (by rw[hx];simp)
    show (exK x).length≤_
    omega
   ·cases h
 unfold itK
 split
 ·simp
 ·rename_i h1
  split
  ·rename_i h2
   rcases hd with hd | hd
   ·omega
   ·omega
  ·split
   ·simp[wordsK]
   ·rename_i h3
    rcases hd with hd | hd
    ·simp only[wordsK,List.map_cons,List.map_nil,List.length_append,List.length_cons,List.length_nil]
     omega
    ·omega
theorem tkS_le {s:St} {Z:Nat} (h:rightS s=true) (hz : ∀e∈exsS s,exZ e≤Z):(tkS s).length≤100*Z+1000:=by
 unfold rightS at h
 simp only[Bool.and_eq_true] at h
 have hk:=h.1
 clear h
 unfold kindB at hk
 unfold exsS at hz
 have z1 : ∀x∈s.sets,exZ x.e≤Z:=fun x hx=>hz _ (List.mem_append_left _ (List.mem_map.2 ⟨x,hx,rfl⟩))
 have z2 : ∀x∈s.items,∀e∈x.xs,exZ e≤Z:=fun x hx e he=>hz _ (List.mem_append_right _ (List.mem_append_left _ (List.mem_flatMap.2 ⟨x,hx,he⟩)))
 have z3 : ∀e∈s.on,exZ e≤Z:=fun e he=>hz _ (by simp[he])
 have z4 : ∀e∈s.wh,exZ e≤Z:=fun e he=>hz _ (by simp[he])
 have z5 : ∀e∈s.gr,exZ e≤Z:=fun e he=>hz _ (by simp[he])
 have z6 : ∀e∈s.od,exZ e≤Z:=fun e he=>hz _ (by simp[he])
 clear hz
 unfold tkS
 split at hk
 ·rename_i h1
  rw[if_pos h1]
  rw[Bool.and_eq_true] at hk
  have h2:=(areB_len hk.1).2
  have h3:=sepK_le (fxT [44]) colK 5 s.cols (fun x _=>colK_le x)
  unfold crK
  simp only[wordsK,List.map_cons,List.map_nil,List.length_append,List.length_cons,List.length_nil]
  omega
 ·rename_i h1
  rw[if_neg h1]
  split at hk
  ·rename_i h2
   rw[if_pos h2]
   simp only[wordsK,List.map_cons,List.map_nil,List.length_append,List.length_cons,List.length_nil]
   omega
  ·rename_i h2
   rw[if_neg h2]
   split at hk
   ·rename_i h3
    rw[if_pos h3]
    have h4:=(areB_len hk).2
    have h5:=sepK_le (fxT [44]) vrowK 26 s.rows (fun x hx=>vrowK_le (areB_mem hk x hx))
    simp only[wordsK,List.map_cons,List.map_nil,List.length_append,List.length_cons,List.length_nil]
    omega
   ·rename_i h3
    rw[if_neg h3]
    split at hk
    ·rename_i h4
     rw[if_pos h4]
     rw[Bool.and_eq_true] at hk
     have h5:=(areB_len hk.1).2
     have h6:=sepK_le (fxT [44]) setK (8*Z+2) s.sets (fun x hx=>by
      have a1:=exK_le x.e
      have a2:=z1 x hx
      simp only[setK,List.length_cons]
      omega)
     have h7:=partK_le (ws:=[[87,72,69,82,69]]) (areB_len hk.2).2 z4
     have h8:s.sets.length*(8*Z+2+1)≤8*(8*Z+2+1):=Nat.mul_le_mul_right _ h5
     simp only[List.length_append,List.length_cons,List.length_nil] at h7 ⊢
     omega
    ·rename_i h4
     rw[if_neg h4]
     split at hk
     ·rename_i h5
      rw[if_pos h5]
      have h7:=partK_le (ws:=[[87,72,69,82,69]]) (areB_len hk).2 z4
      simp only[wordsK,List.map_cons,List.map_nil,List.length_append,List.length_cons,List.length_nil] at h7 ⊢
      omega
     ·rename_i h5
      rw[if_neg h5]
      split at hk
      ·unfold selB at hk
       simp only[Bool.and_eq_true] at hk
       obtain⟨q1,q2,q3,q4,q5,q6,q7,q8⟩:=hk
       have j1:joinN s.jn≤1:=by unfold joinN;split<;>omega
       have l1:=partK_le (ws:=[[79,78]]) (Nat.le_trans (areB_len q3).2 j1) z3
       have l2:=partK_le (ws:=[[87,72,69,82,69]]) (areB_len q4).2 z4
       have l3:=partK_le (ws:=[[71,82,79,85,80],[66,89]]) (areB_len q5).2 z5
       have l4:=partK_le (ws:=[[79,82,68,69,82],[66,89]]) (areB_len q6).2 z6
       have h5:=(areB_len q1).2
       have h6:=sepK_le (fxT [44]) itK (8*Z+4) s.items (fun x hx=>itK_le (areB_mem q1 x hx) (z2 x hx))
       have h8:s.items.length*(8*Z+4+1)≤8*(8*Z+4+1):=Nat.mul_le_mul_right _ h5
       have m1:(if s.jn=[] then [] else [fxT [74,79,73,78],nmT s.jn]).length≤2:=by split<;>simp
       have m2:(if s.desc=true then [fxT [68,69,83,67]] else []).length≤1:=by split<;>simp
       have m3:(if s.lim = -1 then [] else [fxT [76,73,77,73,84],nuT s.lim]).length≤2:=by split<;>simp
       unfold selK
       simp only[List.length_append,List.length_cons,List.length_nil] at l1 l2 l3 l4 ⊢
       omega
      ·cases hk
theorem dpS_le {s:St} {Z:Nat} (hz : ∀e∈exsS s,exZ e≤Z):dpS s≤2*Z:=by
 unfold exsS at hz
 have z1 : ∀x∈s.sets,exZ x.e≤Z:=fun x hx=>hz _ (List.mem_append_left _ (List.mem_map.2 ⟨x,hx,rfl⟩))
 have z2 : ∀x∈s.items,∀e∈x.xs,exZ e≤Z:=fun x hx e he=>hz _ (List.mem_append_right _ (List.mem_append_left _ (List.mem_flatMap.2 ⟨x,hx,he⟩)))
 have up : ∀l:List Ex,(∀e∈l,exZ e≤Z)→exDs l≤2*Z:=fun l h=>maxL_up (fun n hn=>by
  obtain⟨e,he,rfl⟩:=List.mem_map.1 hn
  have a1:=exD_le e
  have a2:=h e he
  omega)
 have u1:maxL (s.sets.map fun x=>exD x.e)≤2*Z:=maxL_up (fun n hn=>by
  obtain⟨x,hx,rfl⟩:=List.mem_map.1 hn
  have a1:=exD_le x.e
  have a2:=z1 x hx
  omega)
 have u2:maxL (s.items.map itD)≤2*Z:=maxL_up (fun n hn=>by
  obtain⟨x,hx,rfl⟩:=List.mem_map.1 hn
  exact up _ (z2 x hx))
 have u3:=up s.on (fun e he=>hz _ (by simp[he]))
 have u4:=up s.wh (fun e he=>hz _ (by simp[he]))
 have u5:=up s.gr (fun e he=>hz _ (by simp[he]))
 have u6:=up s.od (fun e he=>hz _ (by simp[he]))
 unfold dpS
 split
 ·omega
 ·split
  ·omega
  ·split
   ·omega
   ·omega
end Go.Proofs.YtaaggohjmhifbaaGreatDoor
namespace Go.Proofs.YtaaggohjmhifbaaGreatDoor
open Go.RowKit Go.Shelf
set_option linter.unusedSimpArgs false
set_option linter.unusedVariables false
set_option maxRecDepth 20000
set_option maxHeartbeats 8000000
def scrA (l:List St):List UInt8 × Int:=if 8<l.length then ([],2) else if areB l 1 8 rightS=true then srcA (sepK (fxT [59]) (l.map tkS)) ((maxL (l.map dpS):Nat):Int) else ([],4)
end Go.Proofs.YtaaggohjmhifbaaGreatDoor
namespace Go.Proofs.YtaaggohjmhifbaaGreatDoor
set_option linter.unusedSimpArgs false
set_option linter.unusedVariables false
set_option maxHeartbeats 8000000
theorem nameOk_len {s:List UInt8} (h:nameOk s=true):s.length≤16:=by
 unfold nameOk at h
 simp only[Bool.and_eq_true,decide_eq_true_eq] at h
 exact h.2.1
theorem valOk_rg {v:Vl} (h:valOk v=true):RgV v:=by
 rcases val_kind h with⟨_,h2,h3⟩ | ⟨_,h2,h3⟩ | ⟨_,h2,h3,h4⟩
 ·refine ⟨by omega,by omega,by omega⟩
 ·refine ⟨by omega,by omega,by rw[h3];simp⟩
 ·refine ⟨by omega,by omega,by rw[h2];simp⟩
theorem tm_rg (t:Tm) (h:t.ok):RgE t.ex:=by
 have z:RgV zV:=⟨by decide,by decide,by decide⟩
 have one : ∀(k op:Int) (l:List Ex),(∀x∈l,RgE x)→RgE (.mk k op [] [] zV l):=fun k op l hl=>.mk k op _ _ _ _ z.1 z.2.1 z.2.2 (by simp) (by simp) hl
 induction t with
 |
  val v =>
  have hv:=valOk_rg (v:=v) h
  exact .mk 1 0 _ _ _ _ hv.1 hv.2.1 hv.2.2 (by simp) (by simp) (by simp)
 |
  col t n =>
  have hn:=nameOk_len h.1
  have ht:t.length≤16:=by
   rcases h.2 with e | e
   ·rw[e];simp
   ·exact nameOk_len e
  exact .mk 2 0 _ _ _ _ z.1 z.2.1 z.2.2 (by omega) (by omega) (by simp)
 |
  op o a b ha hb =>
  refine one 3 o _ (fun x hx=>?_)
  rcases List.mem_cons.1 hx with rfl | hx
  ·exact ha h.2.2.1
  ·rw[List.mem_singleton.1 hx];exact hb h.2.2.2
 | not a ha=>exact one 4 0 _ (fun x hx=>by rw[List.mem_singleton.1 hx];exact ha h.2)
 | neg a ha=>exact one 5 0 _ (fun x hx=>by rw[List.mem_singleton.1 hx];exact ha h)
 | nul a ha=>exact one 6 0 _ (fun x hx=>by rw[List.mem_singleton.1 hx];exact ha h)
 | nnul a ha=>exact one 4 0 _ (fun x hx=>by rw[List.mem_singleton.1 hx];exact one 6 0 _ (fun x hx=>by rw[List.mem_singleton.1 hx];exact ha h))
theorem right_rg {x:Ex} (h:rightE x=true):RgE x:=by
 obtain⟨h1,h2⟩:=right_ok h
 rw[← h2]
 exact tm_rg _ h1
theorem colE_rg {x:Ex} (h:colEB x=true):RgE x:=right_rg (colE_right h)
theorem right_rgS {s:St} (h:rightS s=true):RgS s:=by
 have hk0:=rightS_k h
 unfold rightS at h
 simp only[Bool.and_eq_true] at h
 obtain⟨hk,hn,he⟩:=h
 have hz:=emp_parts he
 have htb:s.tb.length≤9223372036854775807:=by have:=nameOk_len hn;omega
 clear he hn
 obtain⟨k,tb,cols,prim,rows,sets,items,jn,on,wh,gr,od,desc,lim⟩:=s
 unfold kindB at hk
 unfold restS zSt at hz
 dsimp only at hk hz hk0 htb
 rcases hk0 with rfl | rfl | rfl | rfl | rfl | rfl
 ·rw[if_pos rfl] at hk hz
  simp only[St.mk.injEq,true_and,and_true] at hz
  obtain⟨rfl,rfl,rfl,rfl,rfl,rfl,rfl,rfl,rfl,rfl⟩:=hz
  rw[Bool.and_eq_true] at hk
  refine ⟨htb,by have:=nameOk_len hk.2;show prim.length≤_;omega,by simp,by simp,fun c hc=>?_,by simp,by simp,by simp,by simp,by simp,by simp,by simp⟩
  have:=areB_mem hk.1 c hc
  unfold colB at this
  simp only[Bool.and_eq_true] at this
  have:=nameOk_len this.1
  omega
 ·rw[if_neg (by decide),if_neg (by decide),if_neg (by decide),if_neg (by decide),if_neg (by decide)] at hz
  simp only[St.mk.injEq,true_and,and_true] at hz
  obtain⟨rfl,rfl,rfl,rfl,rfl,rfl,rfl,rfl,rfl,rfl,rfl,rfl⟩:=hz
  exact⟨htb,by simp,by simp,by simp,by simp,by simp,by simp,by simp,by simp,by simp,by simp,by simp⟩
 ·rw[if_neg (by decide),if_neg (by decide),if_pos rfl] at hk
  rw[if_neg (by decide),if_pos rfl] at hz
  simp only[St.mk.injEq,true_and,and_true] at hz
  obtain⟨rfl,rfl,rfl,rfl,rfl,rfl,rfl,rfl,rfl,rfl,rfl⟩:=hz
  exact⟨htb,by simp,by simp,by simp,by simp,fun r hr v hv=>valOk_rg (areB_mem (areB_mem hk r hr) v hv),by simp,by simp,by simp,by simp,by simp,by simp⟩
 ·rw[if_neg (by decide),if_neg (by decide),if_neg (by decide),if_pos rfl,Bool.and_eq_true] at hk
  rw[if_neg (by decide),if_neg (by decide),if_pos rfl] at hz
  simp only[St.mk.injEq,true_and,and_true] at hz
  obtain⟨rfl,rfl,rfl,rfl,rfl,rfl,rfl,rfl,rfl,rfl⟩:=hz
  refine ⟨htb,by simp,by simp,by simp,by simp,by simp,fun x hx=>?_,by simp,by simp,fun x hx=>right_rg (areB_mem hk.2 x hx),by simp,by simp⟩
  have:=areB_mem hk.1 x hx
  unfold setB at this
  simp only[Bool.and_eq_true] at this
  have h1:=nameOk_len this.1
  exact⟨by omega,right_rg this.2⟩
 ·rw[if_neg (by decide),if_neg (by decide),if_neg (by decide),if_neg (by decide),if_pos rfl] at hk
  rw[if_neg (by decide),if_neg (by decide),if_neg (by decide),if_pos rfl] at hz
  simp only[St.mk.injEq,true_and,and_true] at hz
  obtain⟨rfl,rfl,rfl,rfl,rfl,rfl,rfl,rfl,rfl,rfl,rfl⟩:=hz
  exact⟨htb,by simp,by simp,by simp,by simp,by simp,by simp,by simp,by simp,fun x hx=>right_rg (areB_mem hk x hx),by simp,by simp⟩
 ·rw[if_neg (by decide),if_neg (by decide),if_neg (by decide),if_neg (by decide),if_neg (by decide),if_pos rfl] at hk
  rw[if_neg (by decide),if_neg (by decide),if_neg (by decide),if_neg (by decide),if_pos rfl] at hz
  simp only[St.mk.injEq,true_and,and_true] at hz
  obtain⟨rfl,rfl,rfl,rfl⟩:=hz
  unfold selB at hk
  simp only[Bool.and_eq_true,decide_eq_true_eq] at hk
  obtain⟨q1,q2,q3,q4,q5,q6,q7,q8⟩:=hk
  refine ⟨htb,by simp,?_,q8.2,by simp,by simp,by simp,fun i hi x hx=>?_,fun x hx=>right_rg (areB_mem q3 x hx),fun x hx=>right_rg (areB_mem q4 x hx),fun x hx=>colE_rg (areB_mem q5 x hx),fun x hx=>colE_rg (areB_mem q6 x hx)⟩
  ·unfold noeB at q2
   dsimp only at q2 ⊢
   rw[Bool.or_eq_true,decide_eq_true_eq] at q2
   rcases q2 with e | e
   ·rw[e];simp
   ·have:=nameOk_len e;omega
  ·have hb:=areB_mem q1 i hi
   unfold itB at hb
   split at hb
   ·have:i.xs=[]:=List.eq_nil_of_length_eq_zero (by simpa using hb)
    rw[this] at hx;cases hx
   ·split at hb
    ·exact right_rg (areB_mem hb x hx)
    ·cases hb
end Go.Proofs.YtaaggohjmhifbaaGreatDoor
