/- Packed for the hand-in: WRightS WStmA -/
import Derived.Test.YtaaggohjmhifbaaGreatDoorZ23
import Derived.Test.YtaaggohjmhifbaaGreatDoorZ18
import Derived.Test.YtaaggohjmhifbaaGreatDoorZ25
import Derived.Test.YtaaggohjmhifbaaGreatDoorZ20
import Derived.Deep.RegionHeld3
namespace Go.Proofs.YtaaggohjmhifbaaGreatDoor
open Go.RowKit Go.Shelf
set_option linter.unusedSimpArgs false
set_option linter.unusedVariables false
set_option maxRecDepth 20000
set_option maxHeartbeats 8000000
theorem bK {w:World} {g:Nat} {a b c d:Value} {t:TypeId} (h:w.heap[g]?=some (.cells #[a,b,c,d] t)):w.cell? ⟨g,0,none⟩=some a∧w.cell? ⟨g,1,none⟩=some b∧w.cell? ⟨g,2,none⟩=some c∧w.cell? ⟨g,3,none⟩=some d :=
 ⟨by rw[aC _ _ _ _ _ _ h];rfl,by rw[aC _ _ _ _ _ _ h];rfl,by rw[aC _ _ _ _ _ _ h];rfl,by rw[aC _ _ _ _ _ _ h];rfl⟩
theorem gL {w:World} {g:Nat} {a b:Value} {t:TypeId} (h:w.heap[g]?=some (.cells #[a,b] t)):w.cell? ⟨g,0,none⟩=some a∧w.cell? ⟨g,1,none⟩=some b :=
 ⟨by rw[aC _ _ _ _ _ _ h];rfl,by rw[aC _ _ _ _ _ _ h];rfl⟩
theorem jD {w:World} {g:Nat} {a b c d e f i j k:Value} {t:TypeId} (h:w.heap[g]?=some (.cells #[a,b,c,d,e,f,i,j,k] t)):w.cell? ⟨g,0,none⟩=some a∧w.cell? ⟨g,1,none⟩=some b∧w.cell? ⟨g,2,none⟩=some c∧w.cell? ⟨g,3,none⟩=some d∧w.cell? ⟨g,4,none⟩=some e∧w.cell? ⟨g,5,none⟩=some f∧w.cell? ⟨g,6,none⟩=some i∧w.cell? ⟨g,7,none⟩=some j∧w.cell? ⟨g,8,none⟩=some k :=
 ⟨by rw[aC _ _ _ _ _ _ h];rfl,by rw[aC _ _ _ _ _ _ h];rfl,by rw[aC _ _ _ _ _ _ h];rfl,by rw[aC _ _ _ _ _ _ h];rfl,by rw[aC _ _ _ _ _ _ h];rfl,by rw[aC _ _ _ _ _ _ h];rfl,by rw[aC _ _ _ _ _ _ h];rfl,by rw[aC _ _ _ _ _ _ h];rfl,by rw[aC _ _ _ _ _ _ h];rfl⟩
theorem qz (S:Nat→Prop) (x:Ex) (v:Value) (w:World) (hR:rT x) (hx:jU S w x v):Calls Tryz.prog 94 #[v] w fun e w'=>e = .returned (.bool (aP x))∧Below w.heap.size w w' :=
 wm S _ x v w (Nat.lt_succ_self _) hR hx
theorem l8 (S:Nat→Prop) (xs:List Ex) (v:Value) (lo hi:Nat) (w:World) (h1:lo≤100) (h2:hi≤100) (hR : ∀x∈xs,rT x) (hx:aV S w xs v):Calls Tryz.prog 93 #[v,.int .i64 lo,.int .i64 hi,.func (.func 94) #[] #[]] w fun e w'=>e = .returned (.bool (aZ xs lo hi aP))∧Below w.heap.size w w' :=
 pU S 94 (enters_of Tryz.func94 (by kernel_rfl) rfl) aP xs v lo hi w h1 h2 (qW hx) (hid (fun y hy U hU cs hcs=>qz S y _ U (hR y hy) hcs.v))
theorem um (c:Co) (w:World) (h1:c.nm.length≤9223372036854775807) :
  Calls Tryz.prog 87 #[.agg #[.string (aj c.nm),.int .i64 c.k,.bool c.nn,.bool c.uq]] w fun e w'=>e = .returned (.bool (jT c))∧Below w.heap.size w w':=by
 obtain⟨nm,k,nn,uq⟩:=c
 dsimp only at h1 ⊢
 have HN:=hid (fun V=>kN nm V h1)
 have hd:jT ⟨nm,k,nn,uq⟩=(bL nm&&(decide (k=1)||decide (k=2))):=by unfold jT;simp
 rw[hd]
 clear hd h1
 obtain⟨W,hW,hbW,hzW,hcW⟩:=aQ w (.cells #[.string (aj nm),.int .i64 k,.bool nn,.bool uq] 37)
 have k0:=bK hcW
 have HB:=hid hbW
 have HC:=hid hcW
 have HQ0:=hid (Below.refl W.heap.size W)
 clear hbW hcW
 cases hv0:bL nm with
 |
  true =>
  rw[Bool.true_and]
  rw[hv0] at HN
  clear hv0
  cases hv1:decide (k=1) with
  |
   true =>
   rw[Bool.true_or]
   have g1:(k==1)=true:=by rw[of_decide_eq_true hv1];rfl
   clear hv1
   go_enter Tryz.func87,Tryz.ntmps87
   go_wp2_with fail
   refine (HN.out _).mono ?_
   rintro e v1 ⟨rfl,hb1⟩
   have HQ1:Hid (Below W.heap.size W v1):=hid (HQ0.out.trans (hb1.mono HQ0.out.size))
   have kk1:=bK ((HQ1.out.block w.heap.size hzW).trans HC.out)
   clear hb1
   go_wp2
   go_ret
   exact⟨rfl,HB.out.trans (HQ1.out.mono HB.out.size)⟩
  |
   false =>
   rw[Bool.false_or]
   have g1:(k==1)=false:=by rw[beq_eq_false_iff_ne];exact of_decide_eq_false hv1
   clear hv1
   cases hv2:decide (k=2) with
   |
    true =>
    have g2:(k==2)=true:=by rw[of_decide_eq_true hv2];rfl
    clear hv2
    go_enter Tryz.func87,Tryz.ntmps87
    go_wp2_with fail
    refine (HN.out _).mono ?_
    rintro e v1 ⟨rfl,hb1⟩
    have HQ1:Hid (Below W.heap.size W v1):=hid (HQ0.out.trans (hb1.mono HQ0.out.size))
    have kk1:=bK ((HQ1.out.block w.heap.size hzW).trans HC.out)
    clear hb1
    go_wp2
    go_ret
    exact⟨rfl,HB.out.trans (HQ1.out.mono HB.out.size)⟩
   |
    false =>
    have g2:(k==2)=false:=by rw[beq_eq_false_iff_ne];exact of_decide_eq_false hv2
    clear hv2
    go_enter Tryz.func87,Tryz.ntmps87
    go_wp2_with fail
    refine (HN.out _).mono ?_
    rintro e v1 ⟨rfl,hb1⟩
    have HQ1:Hid (Below W.heap.size W v1):=hid (HQ0.out.trans (hb1.mono HQ0.out.size))
    have kk1:=bK ((HQ1.out.block w.heap.size hzW).trans HC.out)
    clear hb1
    go_wp2
    go_ret
    exact⟨rfl,HB.out.trans (HQ1.out.mono HB.out.size)⟩
 |
  false =>
  rw[Bool.false_and]
  rw[hv0] at HN
  clear hv0
  go_enter Tryz.func87,Tryz.ntmps87
  go_wp2_with fail
  refine (HN.out _).mono ?_
  rintro e v1 ⟨rfl,hb1⟩
  have HQ1:Hid (Below W.heap.size W v1):=hid (HQ0.out.trans (hb1.mono HQ0.out.size))
  have kk1:=bK ((HQ1.out.block w.heap.size hzW).trans HC.out)
  clear hb1
  go_wp2
  go_ret
  exact⟨rfl,HB.out.trans (HQ1.out.mono HB.out.size)⟩
def K3 (v:Vl):Prop:=-9223372036854775808≤v.n∧v.n≤9223372036854775807∧v.s.length≤9223372036854775807
theorem yK (S:Nat→Prop) (r:List Vl) (aa:Option Addr) (nn cc:Nat) (w:World) (hR : ∀v∈r,K3 v) (hv:bT 3 wC S w r (.slice aa nn cc)) :
  Calls Tryz.prog 90 #[.slice aa nn cc] w fun e w'=>e = .returned (.bool (ru r))∧Below w.heap.size w w':=by
 have HA:Hid (Calls Tryz.prog 155 #[.slice aa nn cc,.int .i64 1,.int .i64 8,.func (.func 156) #[] #[]] w fun e w'=>e = .returned (.bool (ru r))∧Below w.heap.size w w'):=hid (Ew S 156 (enters_of Tryz.func156 (by kernel_rfl) rfl) gG r _ 1 8 w (by omega) (by omega) hv (hid (fun y hy U hU cs hcs=>by
  obtain⟨h1,h2,h3⟩:=hR y hy
  obtain rfl:=hcs
  exact oP y.k y.n y.s U h1 h2 h3)))
 clear hR hv
 go_enter Tryz.func90,Tryz.ntmps90
 go_wp2_with fail
 refine HA.out.mono ?_
 rintro e w1 ⟨rfl,hb1⟩
 have HB:=hid hb1
 clear hb1 HA
 go_wp2
 go_ret
 exact⟨rfl,HB.out⟩
theorem yR (S:Nat→Prop) (x:Se) (cs:List Value) (w:World) (h1:x.nm.length≤9223372036854775807) (hR:rT x.e) (hx:wY S w x cs) :
  Calls Tryz.prog 92 #[.agg cs.toArray] w fun e w'=>e = .returned (.bool (pW x))∧Below w.heap.size w w':=by
 obtain⟨k,op,tb,nm,vk,vn,vs,ys,aa,nn,cc,he,rfl,ha⟩:=hx
 have HN:=hid (fun V=>kN x.nm V h1)
 have HE:=hid (fun V (hV:Below w.heap.size w V)=>qz S x.e _ V hR (jU.mk' he (ha.new hV)))
 show Calls Tryz.prog 92 _ w fun e w'=>e = .returned (.bool (bL x.nm&&aP x.e))∧_
 clear h1 hR ha he
 obtain⟨W,hW,hbW,hzW,hcW⟩:=aQ w (.cells #[.string (aj x.nm),.int .i64 k,.int .i64 op,.string (aj tb),.string (aj nm),.int .i64 vk,.int .i64 vn,.string (aj vs),.slice aa nn cc] 132)
 have k0:=jD hcW
 have HB:=hid hbW
 have HC:=hid hcW
 have HQ0:=hid (Below.refl W.heap.size W)
 clear hbW hcW
 cases hv0:bL x.nm with
 |
  true =>
  rw[Bool.true_and]
  rw[hv0] at HN
  clear hv0
  cases hv1:aP x.e with
  |
   true =>
   rw[hv1] at HE
   clear hv1
   go_enter Tryz.func92,Tryz.ntmps92
   go_wp2_with fail
   refine (HN.out _).mono ?_
   rintro e v1 ⟨rfl,hb1⟩
   have HQ1:Hid (Below W.heap.size W v1):=hid (HQ0.out.trans (hb1.mono HQ0.out.size))
   have kk1:=jD ((HQ1.out.block w.heap.size hzW).trans HC.out)
   clear hb1
   go_wp2_with fail
   refine (HE.out _ (HB.out.trans (HQ1.out.mono HB.out.size))).mono ?_
   rintro e v2 ⟨rfl,hb2⟩
   have HQ2:Hid (Below W.heap.size W v2):=hid (HQ1.out.trans (hb2.mono HQ1.out.size))
   have kk2:=jD ((HQ2.out.block w.heap.size hzW).trans HC.out)
   clear hb2
   go_wp2
   go_ret
   exact⟨rfl,HB.out.trans (HQ2.out.mono HB.out.size)⟩
  |
   false =>
   rw[hv1] at HE
   clear hv1
   go_enter Tryz.func92,Tryz.ntmps92
   go_wp2_with fail
   refine (HN.out _).mono ?_
   rintro e v1 ⟨rfl,hb1⟩
   have HQ1:Hid (Below W.heap.size W v1):=hid (HQ0.out.trans (hb1.mono HQ0.out.size))
   have kk1:=jD ((HQ1.out.block w.heap.size hzW).trans HC.out)
   clear hb1
   go_wp2_with fail
   refine (HE.out _ (HB.out.trans (HQ1.out.mono HB.out.size))).mono ?_
   rintro e v2 ⟨rfl,hb2⟩
   have HQ2:Hid (Below W.heap.size W v2):=hid (HQ1.out.trans (hb2.mono HQ1.out.size))
   have kk2:=jD ((HQ2.out.block w.heap.size hzW).trans HC.out)
   clear hb2
   go_wp2
   go_ret
   exact⟨rfl,HB.out.trans (HQ2.out.mono HB.out.size)⟩
 |
  false =>
  rw[Bool.false_and]
  rw[hv0] at HN
  clear hv0
  go_enter Tryz.func92,Tryz.ntmps92
  go_wp2_with fail
  refine (HN.out _).mono ?_
  rintro e v1 ⟨rfl,hb1⟩
  have HQ1:Hid (Below W.heap.size W v1):=hid (HQ0.out.trans (hb1.mono HQ0.out.size))
  have kk1:=jD ((HQ1.out.block w.heap.size hzW).trans HC.out)
  clear hb1
  go_wp2
  go_ret
  exact⟨rfl,HB.out.trans (HQ1.out.mono HB.out.size)⟩
theorem kD (S:Nat→Prop) (x:Ex) (v:Value) (w:World) (hR:rT x) (hx:jU S w x v) :
  Calls Tryz.prog 162 #[v] w fun e w'=>e = .returned (.bool (fq x))∧Below w.heap.size w w':=by
 have HE:=hid (fun V (hV:Below w.heap.size w V)=>qz S x v V hR (hx.new hV))
 obtain⟨k,op,tb,nm,vk,vn,vs,ys,aa,nn,cc,rfl,rfl,ha⟩:=hx
 show Calls Tryz.prog 162 _ w fun e w'=>e = .returned (.bool (decide (k=2)&&aP (.mk k op tb nm ⟨vk,vn,vs⟩ ys)))∧_
 clear hR ha
 generalize aP (.mk k op tb nm ⟨vk,vn,vs⟩ ys)=R at HE ⊢
 obtain⟨W,hW,hbW,hzW,hcW⟩:=aQ w (.cells #[.int .i64 k,.int .i64 op,.string (aj tb),.string (aj nm),.int .i64 vk,.int .i64 vn,.string (aj vs),.slice aa nn cc] 130)
 have k0:=aY hcW
 have HB:=hid hbW
 have HC:=hid hcW
 have HQ0:=hid (Below.refl W.heap.size W)
 clear hbW hcW
 cases hv0:decide (k=2) with
 |
  true =>
  rw[Bool.true_and]
  have g2:(k==2)=true:=by rw[of_decide_eq_true hv0];rfl
  clear hv0
  cases hv1:R with
  |
   true =>
   rw[hv1] at HE
   clear hv1
   go_enter Tryz.func162,Tryz.ntmps162
   go_wp2_with fail
   refine (HE.out _ (HB.out.trans (HQ0.out.mono HB.out.size))).mono ?_
   rintro e v1 ⟨rfl,hb1⟩
   have HQ1:Hid (Below W.heap.size W v1):=hid (HQ0.out.trans (hb1.mono HQ0.out.size))
   have kk1:=aY ((HQ1.out.block w.heap.size hzW).trans HC.out)
   clear hb1
   go_wp2
   go_ret
   exact⟨rfl,HB.out.trans (HQ1.out.mono HB.out.size)⟩
  |
   false =>
   rw[hv1] at HE
   clear hv1
   go_enter Tryz.func162,Tryz.ntmps162
   go_wp2_with fail
   refine (HE.out _ (HB.out.trans (HQ0.out.mono HB.out.size))).mono ?_
   rintro e v1 ⟨rfl,hb1⟩
   have HQ1:Hid (Below W.heap.size W v1):=hid (HQ0.out.trans (hb1.mono HQ0.out.size))
   have kk1:=aY ((HQ1.out.block w.heap.size hzW).trans HC.out)
   clear hb1
   go_wp2
   go_ret
   exact⟨rfl,HB.out.trans (HQ1.out.mono HB.out.size)⟩
 |
  false =>
  rw[Bool.false_and]
  have g2:(k==2)=false:=by rw[beq_eq_false_iff_ne];exact of_decide_eq_false hv0
  clear hv0
  go_enter Tryz.func162,Tryz.ntmps162
  go_wp2
  go_ret
  exact⟨rfl,HB.out.trans (HQ0.out.mono HB.out.size)⟩
theorem wD (S:Nat→Prop) (x:It) (cs:List Value) (w:World) (hR : ∀y∈x.xs,rT y) (hx:vX S w x cs) :
  Calls Tryz.prog 161 #[.agg cs.toArray] w fun e w'=>e = .returned (.bool (uQ x))∧Below w.heap.size w w':=by
 obtain⟨aa,nn,cc,rfl,ha⟩:=hx
 obtain⟨k,xs⟩:=x
 dsimp only at ha hR ⊢
 obtain⟨a',c',hsl,_⟩:=ha.form
 simp only[Value.slice.injEq] at hsl
 obtain⟨rfl,rfl,rfl⟩:=hsl
 have HE:Hid (∀V,Below w.heap.size w V→Calls Tryz.prog 93 #[.slice aa xs.length cc,.int .i64 1,.int .i64 1,.func (.func 94) #[] #[]] V fun e w'=>e = .returned (.bool (aZ xs 1 1 aP))∧Below V.heap.size V w'):=hid (fun V (hV:Below w.heap.size w V)=>l8 S xs _ 1 1 V (by omega) (by omega) hR (ha.new hV))
 unfold uQ
 dsimp only
 clear hR ha
 obtain⟨W,hW,hbW,hzW,hcW⟩:=aQ w (.cells #[.int .i64 k,.slice aa xs.length cc] 135)
 have k0:=gL hcW
 have HB:=hid hbW
 have HC:=hid hcW
 have HQ0:=hid (Below.refl W.heap.size W)
 clear hbW hcW
 by_cases h13:k=1∨k=3
 ·rw[if_pos h13]
  have hz:decide (xs.length=0)=((xs.length:Int)==0):=by rw[Bool.eq_iff_iff,decide_eq_true_eq,beq_iff_eq];omega
  rw[hz]
  clear hz HE
  rcases h13 with rfl | rfl
  ·go_enter Tryz.func161,Tryz.ntmps161
   go_wp2
   go_ret
   exact⟨rfl,HB.out⟩
  ·go_enter Tryz.func161,Tryz.ntmps161
   go_wp2
   go_ret
   exact⟨rfl,HB.out⟩
 ·rw[if_neg h13]
  by_cases h2:k=2∨k=4∨k=5∨k=6∨k=7
  ·rw[if_pos h2]
   generalize aZ xs 1 1 aP=R at HE ⊢
   clear h13
   rcases h2 with rfl | rfl | rfl | rfl | rfl
   ·go_enter Tryz.func161,Tryz.ntmps161
    go_wp2_with fail
    refine (HE.out _ (HB.out.trans (HQ0.out.mono HB.out.size))).mono ?_
    rintro e v1 ⟨rfl,hb1⟩
    have HQ1:Hid (Below W.heap.size W v1):=hid (HQ0.out.trans (hb1.mono HQ0.out.size))
    have kk1:=gL ((HQ1.out.block w.heap.size hzW).trans HC.out)
    clear hb1
    go_wp2
    go_ret
    exact⟨rfl,HB.out.trans (HQ1.out.mono HB.out.size)⟩
   ·go_enter Tryz.func161,Tryz.ntmps161
    go_wp2_with fail
    refine (HE.out _ (HB.out.trans (HQ0.out.mono HB.out.size))).mono ?_
    rintro e v1 ⟨rfl,hb1⟩
    have HQ1:Hid (Below W.heap.size W v1):=hid (HQ0.out.trans (hb1.mono HQ0.out.size))
    have kk1:=gL ((HQ1.out.block w.heap.size hzW).trans HC.out)
    clear hb1
    go_wp2
    go_ret
    exact⟨rfl,HB.out.trans (HQ1.out.mono HB.out.size)⟩
   ·go_enter Tryz.func161,Tryz.ntmps161
    go_wp2_with fail
    refine (HE.out _ (HB.out.trans (HQ0.out.mono HB.out.size))).mono ?_
    rintro e v1 ⟨rfl,hb1⟩
    have HQ1:Hid (Below W.heap.size W v1):=hid (HQ0.out.trans (hb1.mono HQ0.out.size))
    have kk1:=gL ((HQ1.out.block w.heap.size hzW).trans HC.out)
    clear hb1
    go_wp2
    go_ret
    exact⟨rfl,HB.out.trans (HQ1.out.mono HB.out.size)⟩
   ·go_enter Tryz.func161,Tryz.ntmps161
    go_wp2_with fail
    refine (HE.out _ (HB.out.trans (HQ0.out.mono HB.out.size))).mono ?_
    rintro e v1 ⟨rfl,hb1⟩
    have HQ1:Hid (Below W.heap.size W v1):=hid (HQ0.out.trans (hb1.mono HQ0.out.size))
    have kk1:=gL ((HQ1.out.block w.heap.size hzW).trans HC.out)
    clear hb1
    go_wp2
    go_ret
    exact⟨rfl,HB.out.trans (HQ1.out.mono HB.out.size)⟩
   ·go_enter Tryz.func161,Tryz.ntmps161
    go_wp2_with fail
    refine (HE.out _ (HB.out.trans (HQ0.out.mono HB.out.size))).mono ?_
    rintro e v1 ⟨rfl,hb1⟩
    have HQ1:Hid (Below W.heap.size W v1):=hid (HQ0.out.trans (hb1.mono HQ0.out.size))
    have kk1:=gL ((HQ1.out.block w.heap.size hzW).trans HC.out)
    clear hb1
    go_wp2
    go_ret
    exact⟨rfl,HB.out.trans (HQ1.out.mono HB.out.size)⟩
  ·rw[if_neg h2]
   have g1:(k==1)=false:=by rw[beq_eq_false_iff_ne];intro e;omega
   have g2:(k==2)=false:=by rw[beq_eq_false_iff_ne];intro e;omega
   have g3:(k==3)=false:=by rw[beq_eq_false_iff_ne];intro e;omega
   have g4:(k==4)=false:=by rw[beq_eq_false_iff_ne];intro e;omega
   have g5:(k==5)=false:=by rw[beq_eq_false_iff_ne];intro e;omega
   have g6:(k==6)=false:=by rw[beq_eq_false_iff_ne];intro e;omega
   have g7:(k==7)=false:=by rw[beq_eq_false_iff_ne];intro e;omega
   clear h13 h2 HE
   go_enter Tryz.func161,Tryz.ntmps161
   go_wp2
   go_ret
   exact⟨rfl,HB.out⟩
theorem aD {g:Nat} {tb tb1 tb2:Option Nat} {W w1 w2:World} (h1 : ∀k,tb1=some k→tb=some k∨W.heap.size≤k) (hf:eO g tb W w1) (h2 : ∀k,tb2=some k→tb1=some k∨w1.heap.size≤k) (hf2:eO g tb1 w1 w2):(∀k,tb2=some k→tb=some k∨W.heap.size≤k)∧eO g tb W w2:=by
 refine ⟨fun k hk=>?_,hf.andThen hf2 fun i hi=>?_⟩
 ·rcases h2 k hk with e | e
  ·exact h1 k e
  ·exact .inr (Nat.le_trans hf.size e)
 ·rcases hi with rfl | e
  ·exact .inl (.inl rfl)
  ·rcases h1 i e with e | e
   ·exact .inl (.inr e)
   ·exact .inr e
theorem dw {g:Nat} {tb tb1 tb2:Option Nat} {W w1 w2:World} (h1 : ∀k,tb1=some k→tb=some k∨W.heap.size≤k) (hf:eO g tb W w1) (h2 : ∀k,tb2=some k→tb1=some k∨w1.drew.heap.size≤k) (hf2:eO g tb1 w1.drew w2):(∀k,tb2=some k→tb=some k∨W.heap.size≤k)∧eO g tb W w2 :=
 aD h1 hf h2 ((ay.aI (Below.refl _ w1).drew).then hf2)
theorem JC (x:Ex) (hr:aP x=true) (v:Value) (g:Nat) (tb:Option Nat) (L:List Tk) (d m:Int) (w:World) (h:cB w g tb L d m) (hx:jU (fun b=>b<g) w x v) (hL:L.length+(jV x).length≤1000000000) (h0:0≤d) (hdm:d≤m) (hm:m≤1000000000) (hd:d+(iX x:Nat)≤1000000000) :
  Calls Tryz.prog 168 #[.pointer (some ⟨g,0,none⟩),v] w fun e w'=>e = .returned (.tuple #[])∧Wrote g tb w w' (L++jV x) d (max m (d+(iX x:Nat))):=by
 obtain⟨hok,hex⟩:=lS hr
 exact KR (p8 x) hok g tb L d m w v h (by rw[hex];exact hx) hL h0 hdm hd hm
theorem KU (xs:List Ex) (ws:List (List UInt8)) (hws : ∀t∈ws,t≠[]) (hwl:ws.length≤10) (v wv:Value) (g:Nat) (tb:Option Nat) (L:List Tk) (d m:Int) (w:World) (h:cB w g tb L d m) (hx:aV (fun b=>b<g) w xs v) (hwv:wR g tb w wv ws) (hr : ∀x∈xs,aP x=true) (h0:0≤d) (hdm:d≤m) (hm:m≤1000000000) (hd : ∀x∈xs,d+(iX x:Nat)≤1000000000) (hL:L.length+(aT xs ws).length≤1000000000) :
  Calls Tryz.prog 104 #[.pointer (some ⟨g,0,none⟩),v,wv] w fun e w'=>e = .returned (.tuple #[])∧Wrote g tb w w' (L++aT xs ws) d (max m (d+(dH xs:Nat))):=by
 have HV:=hid (qW hx)
 have HW:=hid h
 have HWV:=hid hwv
 have HR:=hid hr
 have HD:=hid hd
 have hdl : ∀k,d+(dH (xs.take k):Nat)≤1000000000:=fun k=>by
  have : ∀l:List Ex,(∀x∈l,d+(iX x:Nat)≤1000000000)→d+(dH l:Nat)≤1000000000:=fun l=>by
   induction l with
   | nil=>intro _;show d+((0:Nat):Int)≤_;omega
   |
    cons x l ih =>
    intro hh
    have h1:=hh x (by simp)
    have h2:=ih (fun y hy=>hh y (by simp[hy]))
    show d+((max (iX x) (dH l):Nat):Int)≤_
    omega
  exact this _ (fun x hx=>hd x (List.mem_of_mem_take hx))
 have HDL:=hid hdl
 have hsl : ∀k,(aT (xs.take k) ws).length≤(aT xs ws).length:=fun k=>by
  have e:aT xs ws=aT (xs.take k) ws++aT (xs.drop k) ws:=by unfold aT;rw[← List.flatMap_append,List.take_append_drop]
  rw[e,List.length_append];omega
 have HSL:=hid hsl
 have hsn : ∀k x,xs[k]?=some x→aT (xs.take (k+1)) ws=aT (xs.take k) ws++(ah ws++jV x)∧dH (xs.take (k+1))=max (dH (xs.take k)) (iX x):=fun k x hx=>by
  obtain⟨h1,h2⟩:=List.getElem?_eq_some_iff.1 hx
  rw[List.take_succ_eq_append_getElem h1,h2]
  refine ⟨by unfold aT;rw[List.flatMap_append];simp,?_⟩
  have : ∀(l:List Ex),dH (l++[x])=max (dH l) (iX x):=fun l=>by
   induction l with
   | nil=>show max (iX x) 0=max 0 (iX x);omega
   | cons a l ih=>show max (iX a) (dH (l++[x]))=max (max (iX a) (dH l)) (iX x);rw[ih];omega
  exact this _
 have HSN:=hid hsn
 obtain⟨aa,cc,hvf,hcm⟩:=hx.form
 subst hvf
 obtain⟨wa,wc,rfl,hwn,_⟩:=id hwv
 unfold maxLen at hcm
 clear h hdl hsl hsn hd hr hx hwv
 go_enter Tryz.func104,Tryz.ntmps104
 go_wp2_with fail
 go_loopw [7,10] (fun _ i wr=>∃(k:Nat),k≤xs.length∧i = .int .i64 k∧Wrote g tb w wr (L++aT (xs.take k) ws) d (max m (d+(dH (xs.take k):Nat)))) (fun _ i _=>xs.length-(intOf i).toNat)
 case atStart =>
  refine ⟨0,Nat.zero_le _,rfl,?_⟩
  have e:max m (d+(dH (xs.take 0):Nat))=m:=by show max m (d+((0:Nat):Int))=m;omega
  rw[e]
  simpa [aT] using HW.out.here
 case round =>
  obtain⟨k,hk,rfl,hq⟩:=hrel
  by_cases hlt:k<xs.length
  ·obtain⟨x,hx⟩:∃x,xs[k]?=some x:=⟨_,List.getElem?_eq_getElem hlt⟩
   have hlt':((k:Int)<(xs.length:Int)):=by omega
   obtain⟨tw1,hw1,ht1,hf1⟩:=hq
   obtain⟨_,_,_,b,off,cs,rfl,_,hel,hcell⟩:=jE (HV.out.to (T:=fun b=>b<g) (by decide) hf1 (eO.keeps HW.out hf1) (fun _ _ e=>e.to hf1 (eO.keeps HW.out hf1))) hx
   obtain⟨hs1,hs2⟩:=HSN.out k x hx
   have hxm:=List.mem_of_getElem? hx
   have hxr:=HR.out x hxm
   have hxd:=HD.out x hxm
   have hll:=HSL.out (k+1)
   have hmm:=HDL.out k
   rw[hs1] at hll
   simp only[List.length_append] at hll
   have hEV:=hel.v
   obtain⟨k1,op1,tb1,nm1,vk1,vn1,vs1,ys1,aa1,nn1,cc1,_,rfl,_⟩:=hel
   have q0:=hcell 0 _ rfl
   have q1:=hcell 1 _ rfl
   have q2:=hcell 2 _ rfl
   have q3:=hcell 3 _ rfl
   have q4:=hcell 4 _ rfl
   have q5:=hcell 5 _ rfl
   have q6:=hcell 6 _ rfl
   have q7:=hcell 7 _ rfl
   simp only[Nat.add_zero] at q0
   obtain⟨U,hU,hbU,hzU,hcU⟩:=aQ wr (.cells #[.int .i64 k1,.int .i64 op1,.string (aj tb1),.string (aj nm1),.int .i64 vk1,.int .i64 vn1,.string (aj vs1),.slice aa1 nn1 cc1] 130)
   have kU:=aY hcU
   have hwU:=hw1.below hbU
   have HBX:=hid (fA.mk' hw1 hcU (Nat.le_refl _))
   have HEV:=hid (hEV.new hbU)
   have HX:=hid (sD g tw1 _ d _ U hwU _ ws (((HWV.out.on ht1 hf1)).on (fun k hk=>.inl hk) (ay.aI hbU)) hws (by simp[ah] at hll ⊢;omega))
   have HT1:=hid ht1
   have HF1:=hid (hf1.aM hbU)
   have HWU:=hid hwU
   have HS1:=hid hs1
   have HS2:=hid hs2
   generalize hPT:aT (xs.take k) ws=PT at *
   generalize hPD:dH (xs.take k)=PD at *
   clear hw1 ht1 hf1 hbU hcU hwU hs1 hs2 hPT hPD hcell hx hEV hxm
   go_wp2_with (first | (refine wpList_store_row rfl 130 (.tmp 7) (.tmp 13) rfl wr.heap.size #[.int .i64 k1,.int .i64 op1,.string (aj tb1),.string (aj nm1),.int .i64 vk1,.int .i64 vn1,.string (aj vs1),.slice aa1 nn1 cc1] rfl rfl 130 #[.int .i64 0,.int .i64 0,.string ⟨#[]⟩,.string ⟨#[]⟩,.int .i64 0,.int .i64 0,.string ⟨#[]⟩,.slice none 0 0] (heap_alloc_new wr _) Tryz.gW rfl rfl ?_;rw[bF,hU];clear hU) | fail)
   refine HX.out.mono ?_
   rintro e w2 ⟨rfl,tw2,hw2,ht2,hf2⟩
   have kX:=aY (HBX.out.on ht2 hf2).at'
   have hCA:=JC x hxr _ g tw2 _ d _ w2 hw2 (HEV.out.wz HWU.out hf2) (by simp[ah] at hll ⊢;omega) h0 (by omega) (by omega) hxd
   have HC:Hid (Calls Tryz.prog 168 #[.pointer (some ⟨g,0,none⟩),.agg #[.int .i64 k1,.int .i64 op1,.string (aj tb1),.string (aj nm1),.int .i64 vk1,.int .i64 vn1,.string (aj vs1),.slice aa1 nn1 cc1]] w2 fun e w'=>e = .returned (.tuple #[])∧Wrote g tw2 w2 w' (L++aT (xs.take (k+1)) ws) d (max m (d+(dH (xs.take (k+1)):Nat)))):=hid (by
    rw[HS1.out,HS2.out]
    rw[show max m (d+((max PD (iX x):Nat):Int))=max (max m (d+(PD:Int))) (d+(iX x:Int)) by omega]
    rw[show L++PT++ah ws++jV x=L++(PT++(ah ws++jV x)) by simp] at hCA
    exact hCA)
   have HT2:=hid ht2
   have HF2:=hid hf2
   clear hCA ht2 hf2 hw2 HX
   go_wp2_with fail
   refine HC.out.mono ?_
   rintro e w3 ⟨rfl,h3⟩
   have HQ:=hid (Wrote.then HT1.out HF1.out (Wrote.then (fun k hk=>HT2.out k hk) HF2.out h3))
   clear h3 HC
   go_wp2
   go_roundw
   case rel=>exact⟨k+1,by omega,by go_num,HQ.out⟩
   case measure=>simp[intOf];omega
  ·have hlt' : ¬((k:Int)<(xs.length:Int)):=by omega
   have HQ:Hid (Wrote g tb w wr (L++aT xs ws) d (max m (d+(dH xs:Nat)))):=hid (by rw[List.take_of_length_le (by omega)] at hq;exact hq)
   clear hq
   go_wp2
   exact bodyPost_end (v:=.tuple #[]) (by simp[results,Tryz.results104,go_sem]) rfl ⟨rfl,HQ.out⟩
theorem xY (word:List UInt8) (hw0:word≠[]) (x:Ex) (hr:aP x=true) (v:Value) (g:Nat) (tb:Option Nat) (L:List Tk) (d m:Int) (w:World) (h:cB w g tb L d m) (hx:jU (fun b=>b<g) w x v) (hL:L.length+((jV x).length+3)≤1000000000) (h0:0≤d) (hdm:d≤m) (hm:m≤1000000000) (hd:d+(iX x:Nat)≤1000000000) :
  Calls Tryz.prog 217 #[.pointer (some ⟨g,0,none⟩),.string (aj word),v] w fun e w'=>e = .returned (.tuple #[])∧Wrote g tb w w' (L++(ah [word,[40]]++(jV x++[aH [41]]))) d (max m (d+(iX x:Nat))):=by
 have HXV:=hid hx
 obtain⟨k,op,tn,nm,vk,vn,vs,ys,aa,nn,cc,he,rfl,ha⟩:=hx
 obtain⟨W,hW,hbW,hzW,hcW⟩:=aQ w (.cells #[.int .i64 k,.int .i64 op,.string (aj tn),.string (aj nm),.int .i64 vk,.int .i64 vn,.string (aj vs),.slice aa nn cc] 130)
 have kk0:=aY hcW
 have HB:=hid hbW
 have HW0:=hid (h.below hbW)
 have HBX0:=hid (fA.mk' h hcW (Nat.le_refl _))
 have HT0:Hid (∀k,tb=some k→tb=some k∨W.heap.size≤k):=hid (fun k hk=>.inl hk)
 have HF0:Hid (eO g tb W W):=hid (ay.refl _ _)
 have HXW:=hid (HXV.out.new hbW)
 have HE:Hid (∀(V:World) (tb':Option Nat) (L':List Tk) (m':Int),cB V g tb' L' d m'→eO g tb W V→(∀k,tb'=some k→tb=some k∨W.heap.size≤k)→L'.length+(jV x).length≤1000000000→d≤m'→m'≤1000000000→Calls Tryz.prog 168 #[.pointer (some ⟨g,0,none⟩),.agg #[.int .i64 k,.int .i64 op,.string (aj tn),.string (aj nm),.int .i64 vk,.int .i64 vn,.string (aj vs),.slice aa nn cc]] V fun e w'=>e = .returned (.tuple #[])∧Wrote g tb' V w' (L'++jV x) d (max m' (d+(iX x:Nat)))):=hid (fun V tb' L' m' hV hF _ hl h1 h2=>JC x hr _ g tb' L' d m' V hV (HXW.out.wz HW0.out hF) hl h0 h1 h2 hd)
 clear h hbW hcW ha he HXV hr
 generalize jV x=T at HE hL ⊢
 generalize iX x=D at HE hd ⊢
 go_enter Tryz.func217,Tryz.ntmps217
 have HX0:Hid (Calls Tryz.prog 97 #[.pointer (some ⟨g,0,none⟩),.slice (some ⟨W.heap.size,0,none⟩) 2 2] (W.alloc (.cells #[.string (aj word),.string ⟨#[40]⟩] 9)) fun e w'=>e = .returned (.tuple #[])∧Wrote g tb W w' (L++ah [word,[40]]) d (m)):=hid (aG g tb _ d _ [word,[40]] W HW0.out (by simp) (by simpa using hw0) (by simp[ah]<;>omega))
 go_wp2_with fail
 refine HX0.out.mono ?_
 rintro e w1 ⟨rfl,tw1,hw,ht,hf⟩
 have HW1:=hid hw
 obtain⟨ht2,hf2⟩:=aD HT0.out HF0.out ht hf
 have HT1:=hid ht2
 have HF1:=hid hf2
 have HBX1:=hid (HBX0.out.on ht hf)
 have kk1:=aY HBX1.out.at'
 clear hw ht hf ht2 hf2 HX0 kk0
 have HX1:=hid (HE.out w1 tw1 (L++ah [word,[40]]) (m) HW1.out HF1.out HT1.out (by simp[ah]<;>omega) (by omega) (by omega))
 go_wp2_with fail
 refine HX1.out.mono ?_
 rintro e w2 ⟨rfl,tw2,hw,ht,hf⟩
 have HW2:=hid hw
 obtain⟨ht2,hf2⟩:=aD HT1.out HF1.out ht hf
 have HT2:=hid ht2
 have HF2:=hid hf2
 have HBX2:=hid (HBX1.out.on ht hf)
 have kk2:=aY HBX2.out.at'
 clear hw ht hf ht2 hf2 HX1 kk1
 have HX2:Hid (Calls Tryz.prog 97 #[.pointer (some ⟨g,0,none⟩),.slice (some ⟨w2.heap.size,0,none⟩) 1 1] (w2.alloc (.cells #[.string ⟨#[41]⟩] 9)) fun e w'=>e = .returned (.tuple #[])∧Wrote g tw2 w2 w' (L++ah [word,[40]]++T++ah [[41]]) d (max (m) (d+((D:Nat):Int)))):=hid (aG g tw2 _ d _ [[41]] w2 HW2.out (by simp) (by decide) (by simp[ah]<;>omega))
 go_wp2_with fail
 refine HX2.out.mono ?_
 rintro e w3 ⟨rfl,tw3,hw,ht,hf⟩
 have HW3:=hid hw
 obtain⟨ht2,hf2⟩:=aD HT2.out HF2.out ht hf
 have HT3:=hid ht2
 have HF3:=hid hf2
 have HBX3:=hid (HBX2.out.on ht hf)
 have kk3:=aY HBX3.out.at'
 clear hw ht hf ht2 hf2 HX2 kk2
 have HQ:Hid (Wrote g tb w w3 (L++(ah [word,[40]]++(T++[aH [41]]))) d (max m (d+((D:Nat):Int)))):=hid (by
  have h9:Wrote g tb W w3 (L++ah [word,[40]]++T++ah [[41]]) d (max (m) (d+((D:Nat):Int))):=⟨tw3,HW3.out,HT3.out,HF3.out⟩
  have h8:=Wrote.new HB.out h9
  rw[show max (m) (d+((D:Nat):Int))=max m (d+((D:Nat):Int)) by omega] at h8
  rw[show L++ah [word,[40]]++T++ah [[41]]=L++(ah [word,[40]]++(T++[aH [41]])) by simp[ah]] at h8
  exact h8)
 go_wp2
 exact bodyPost_end (v:=.tuple #[]) (by simp[results,Tryz.results217,go_sem]) rfl ⟨rfl,HQ.out⟩
end Go.Proofs.YtaaggohjmhifbaaGreatDoor
