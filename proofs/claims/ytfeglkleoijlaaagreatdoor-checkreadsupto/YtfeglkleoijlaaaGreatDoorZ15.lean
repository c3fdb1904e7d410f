/- Packed for the hand-in: WRightS WStmA -/
import Derived.Test.YtfeglkleoijlaaaGreatDoorZ12
import Derived.Test.YtfeglkleoijlaaaGreatDoorZ09
import Derived.Test.YtfeglkleoijlaaaGreatDoorZ14
import Derived.Test.YtfeglkleoijlaaaGreatDoorZ11
import Derived.Deep.RegionHeld3
namespace Go.Proofs.YtfeglkleoijlaaaGreatDoor
open Go.RowKit Go.Shelf
set_option linter.unusedSimpArgs false
set_option linter.unusedVariables false
set_option maxRecDepth 20000
set_option maxHeartbeats 8000000
theorem bq {w:World} {g:Nat} {a b c d:Value} {t:TypeId} (h:w.heap[g]?=some (.cells #[a,b,c,d] t)):w.cell? ⟨g,0,none⟩=some a∧w.cell? ⟨g,1,none⟩=some b∧w.cell? ⟨g,2,none⟩=some c∧w.cell? ⟨g,3,none⟩=some d :=
 ⟨by rw[aD _ _ _ _ _ _ h];rfl,by rw[aD _ _ _ _ _ _ h];rfl,by rw[aD _ _ _ _ _ _ h];rfl,by rw[aD _ _ _ _ _ _ h];rfl⟩
theorem dQ {w:World} {g:Nat} {a b:Value} {t:TypeId} (h:w.heap[g]?=some (.cells #[a,b] t)):w.cell? ⟨g,0,none⟩=some a∧w.cell? ⟨g,1,none⟩=some b :=
 ⟨by rw[aD _ _ _ _ _ _ h];rfl,by rw[aD _ _ _ _ _ _ h];rfl⟩
theorem fP {w:World} {g:Nat} {a b c d e f i j k:Value} {t:TypeId} (h:w.heap[g]?=some (.cells #[a,b,c,d,e,f,i,j,k] t)):w.cell? ⟨g,0,none⟩=some a∧w.cell? ⟨g,1,none⟩=some b∧w.cell? ⟨g,2,none⟩=some c∧w.cell? ⟨g,3,none⟩=some d∧w.cell? ⟨g,4,none⟩=some e∧w.cell? ⟨g,5,none⟩=some f∧w.cell? ⟨g,6,none⟩=some i∧w.cell? ⟨g,7,none⟩=some j∧w.cell? ⟨g,8,none⟩=some k :=
 ⟨by rw[aD _ _ _ _ _ _ h];rfl,by rw[aD _ _ _ _ _ _ h];rfl,by rw[aD _ _ _ _ _ _ h];rfl,by rw[aD _ _ _ _ _ _ h];rfl,by rw[aD _ _ _ _ _ _ h];rfl,by rw[aD _ _ _ _ _ _ h];rfl,by rw[aD _ _ _ _ _ _ h];rfl,by rw[aD _ _ _ _ _ _ h];rfl,by rw[aD _ _ _ _ _ _ h];rfl⟩
theorem lT (S:Nat→Prop) (x:Ex) (v:Value) (w:World) (hR:jD x) (hx:fB S w x v):Calls Tryz.prog 82 #[v] w fun e w'=>e = .returned (.bool (aJ x))∧Below w.heap.size w w' :=
 lC S _ x v w (Nat.lt_succ_self _) hR hx
theorem iH (S:Nat→Prop) (xs:List Ex) (v:Value) (lo hi:Nat) (w:World) (h1:lo≤100) (h2:hi≤100) (hR : ∀x∈xs,jD x) (hx:bF S w xs v):Calls Tryz.prog 95 #[v,.int .i64 lo,.int .i64 hi,.func (.func 82) #[] #[]] w fun e w'=>e = .returned (.bool (bf xs lo hi aJ))∧Below w.heap.size w w' :=
 kg S 82 (enters_of Tryz.func82 (by kernel_rfl) rfl) aJ xs v lo hi w h1 h2 (dN hx) (hid (fun y hy U hU cs hcs=>lT S y _ U (hR y hy) hcs.v))
theorem jy (c:Co) (w:World) (h1:c.nm.length≤9223372036854775807) :
  Calls Tryz.prog 89 #[.agg #[.string (aj c.nm),.int .i64 c.k,.bool c.nn,.bool c.uq]] w fun e w'=>e = .returned (.bool (eY c))∧Below w.heap.size w w':=by
 obtain⟨nm,k,nn,uq⟩:=c
 dsimp only at h1 ⊢
 have HN:=hid (fun V=>fD nm V h1)
 have hd:eY ⟨nm,k,nn,uq⟩=(bC nm&&(decide (k=1)||decide (k=2))):=by unfold eY;simp
 rw[hd]
 clear hd h1
 obtain⟨W,hW,hbW,hzW,hcW⟩:=aL w (.cells #[.string (aj nm),.int .i64 k,.bool nn,.bool uq] 60)
 have k0:=bq hcW
 have HB:=hid hbW
 have HC:=hid hcW
 have HQ0:=hid (Below.refl W.heap.size W)
 clear hbW hcW
 cases hv0:bC nm with
 |
  true =>
  rw[Bool.true_and]
  rw[hv0] at HN
  clear hv0
  cases hv1:decide (k=1) with
  |
   true =>
   rw[Bool.true_or]
   have g1:(k==1)=true:=by rw[of_decide_eq_true hv1];rfl
   clear hv1
   go_enter Tryz.func89,Tryz.ntmps89
   go_wp2_with fail
   refine (HN.out _).mono ?_
   rintro e v1 ⟨rfl,hb1⟩
   have HQ1:Hid (Below W.heap.size W v1):=hid (HQ0.out.trans (hb1.mono HQ0.out.size))
   have kk1:=bq ((HQ1.out.block w.heap.size hzW).trans HC.out)
   clear hb1
   go_wp2
   go_ret
   exact⟨rfl,HB.out.trans (HQ1.out.mono HB.out.size)⟩
  |
   false =>
   rw[Bool.false_or]
   have g1:(k==1)=false:=by rw[beq_eq_false_iff_ne];exact of_decide_eq_false hv1
   clear hv1
   cases hv2:decide (k=2) with
   |
    true =>
    have g2:(k==2)=true:=by rw[of_decide_eq_true hv2];rfl
    clear hv2
    go_enter Tryz.func89,Tryz.ntmps89
    go_wp2_with fail
    refine (HN.out _).mono ?_
    rintro e v1 ⟨rfl,hb1⟩
    have HQ1:Hid (Below W.heap.size W v1):=hid (HQ0.out.trans (hb1.mono HQ0.out.size))
    have kk1:=bq ((HQ1.out.block w.heap.size hzW).trans HC.out)
    clear hb1
    go_wp2
    go_ret
    exact⟨rfl,HB.out.trans (HQ1.out.mono HB.out.size)⟩
   |
    false =>
    have g2:(k==2)=false:=by rw[beq_eq_false_iff_ne];exact of_decide_eq_false hv2
    clear hv2
    go_enter Tryz.func89,Tryz.ntmps89
    go_wp2_with fail
    refine (HN.out _).mono ?_
    rintro e v1 ⟨rfl,hb1⟩
    have HQ1:Hid (Below W.heap.size W v1):=hid (HQ0.out.trans (hb1.mono HQ0.out.size))
    have kk1:=bq ((HQ1.out.block w.heap.size hzW).trans HC.out)
    clear hb1
    go_wp2
    go_ret
    exact⟨rfl,HB.out.trans (HQ1.out.mono HB.out.size)⟩
 |
  false =>
  rw[Bool.false_and]
  rw[hv0] at HN
  clear hv0
  go_enter Tryz.func89,Tryz.ntmps89
  go_wp2_with fail
  refine (HN.out _).mono ?_
  rintro e v1 ⟨rfl,hb1⟩
  have HQ1:Hid (Below W.heap.size W v1):=hid (HQ0.out.trans (hb1.mono HQ0.out.size))
  have kk1:=bq ((HQ1.out.block w.heap.size hzW).trans HC.out)
  clear hb1
  go_wp2
  go_ret
  exact⟨rfl,HB.out.trans (HQ1.out.mono HB.out.size)⟩
def Jc (v:Vl):Prop:=-9223372036854775808≤v.n∧v.n≤9223372036854775807∧v.s.length≤9223372036854775807
theorem uI (S:Nat→Prop) (r:List Vl) (aa:Option Addr) (nn cc:Nat) (w:World) (hR : ∀v∈r,Jc v) (hv:aQ 3 Aq S w r (.slice aa nn cc)) :
  Calls Tryz.prog 92 #[.slice aa nn cc] w fun e w'=>e = .returned (.bool (uQ r))∧Below w.heap.size w w':=by
 have HA:Hid (Calls Tryz.prog 140 #[.slice aa nn cc,.int .i64 1,.int .i64 8,.func (.func 127) #[] #[]] w fun e w'=>e = .returned (.bool (uQ r))∧Below w.heap.size w w'):=hid (Bz S 127 (enters_of Tryz.func127 (by kernel_rfl) rfl) gK r _ 1 8 w (by omega) (by omega) hv (hid (fun y hy U hU cs hcs=>by
  obtain⟨h1,h2,h3⟩:=hR y hy
  obtain rfl:=hcs
  exact jM y.k y.n y.s U h1 h2 h3)))
 clear hR hv
 go_enter Tryz.func92,Tryz.ntmps92
 go_wp2_with fail
 refine HA.out.mono ?_
 rintro e w1 ⟨rfl,hb1⟩
 have HB:=hid hb1
 clear hb1 HA
 go_wp2
 go_ret
 exact⟨rfl,HB.out⟩
theorem tJ (S:Nat→Prop) (x:Se) (cs:List Value) (w:World) (h1:x.nm.length≤9223372036854775807) (hR:jD x.e) (hx:yx S w x cs) :
  Calls Tryz.prog 94 #[.agg cs.toArray] w fun e w'=>e = .returned (.bool (mP x))∧Below w.heap.size w w':=by
 obtain⟨k,op,tb,nm,vk,vn,vs,ys,aa,nn,cc,he,rfl,ha⟩:=hx
 have HN:=hid (fun V=>fD x.nm V h1)
 have HE:=hid (fun V (hV:Below w.heap.size w V)=>lT S x.e _ V hR (fB.mk' he (ha.new hV)))
 show Calls Tryz.prog 94 _ w fun e w'=>e = .returned (.bool (bC x.nm&&aJ x.e))∧_
 clear h1 hR ha he
 obtain⟨W,hW,hbW,hzW,hcW⟩:=aL w (.cells #[.string (aj x.nm),.int .i64 k,.int .i64 op,.string (aj tb),.string (aj nm),.int .i64 vk,.int .i64 vn,.string (aj vs),.slice aa nn cc] 53)
 have k0:=fP hcW
 have HB:=hid hbW
 have HC:=hid hcW
 have HQ0:=hid (Below.refl W.heap.size W)
 clear hbW hcW
 cases hv0:bC x.nm with
 |
  true =>
  rw[Bool.true_and]
  rw[hv0] at HN
  clear hv0
  cases hv1:aJ x.e with
  |
   true =>
   rw[hv1] at HE
   clear hv1
   go_enter Tryz.func94,Tryz.ntmps94
   go_wp2_with fail
   refine (HN.out _).mono ?_
   rintro e v1 ⟨rfl,hb1⟩
   have HQ1:Hid (Below W.heap.size W v1):=hid (HQ0.out.trans (hb1.mono HQ0.out.size))
   have kk1:=fP ((HQ1.out.block w.heap.size hzW).trans HC.out)
   clear hb1
   go_wp2_with fail
   refine (HE.out _ (HB.out.trans (HQ1.out.mono HB.out.size))).mono ?_
   rintro e v2 ⟨rfl,hb2⟩
   have HQ2:Hid (Below W.heap.size W v2):=hid (HQ1.out.trans (hb2.mono HQ1.out.size))
   have kk2:=fP ((HQ2.out.block w.heap.size hzW).trans HC.out)
   clear hb2
   go_wp2
   go_ret
   exact⟨rfl,HB.out.trans (HQ2.out.mono HB.out.size)⟩
  |
   false =>
   rw[hv1] at HE
   clear hv1
   go_enter Tryz.func94,Tryz.ntmps94
   go_wp2_with fail
   refine (HN.out _).mono ?_
   rintro e v1 ⟨rfl,hb1⟩
   have HQ1:Hid (Below W.heap.size W v1):=hid (HQ0.out.trans (hb1.mono HQ0.out.size))
   have kk1:=fP ((HQ1.out.block w.heap.size hzW).trans HC.out)
   clear hb1
   go_wp2_with fail
   refine (HE.out _ (HB.out.trans (HQ1.out.mono HB.out.size))).mono ?_
   rintro e v2 ⟨rfl,hb2⟩
   have HQ2:Hid (Below W.heap.size W v2):=hid (HQ1.out.trans (hb2.mono HQ1.out.size))
   have kk2:=fP ((HQ2.out.block w.heap.size hzW).trans HC.out)
   clear hb2
   go_wp2
   go_ret
   exact⟨rfl,HB.out.trans (HQ2.out.mono HB.out.size)⟩
 |
  false =>
  rw[Bool.false_and]
  rw[hv0] at HN
  clear hv0
  go_enter Tryz.func94,Tryz.ntmps94
  go_wp2_with fail
  refine (HN.out _).mono ?_
  rintro e v1 ⟨rfl,hb1⟩
  have HQ1:Hid (Below W.heap.size W v1):=hid (HQ0.out.trans (hb1.mono HQ0.out.size))
  have kk1:=fP ((HQ1.out.block w.heap.size hzW).trans HC.out)
  clear hb1
  go_wp2
  go_ret
  exact⟨rfl,HB.out.trans (HQ1.out.mono HB.out.size)⟩
theorem gM (S:Nat→Prop) (x:Ex) (v:Value) (w:World) (hR:jD x) (hx:fB S w x v) :
  Calls Tryz.prog 143 #[v] w fun e w'=>e = .returned (.bool (eF x))∧Below w.heap.size w w':=by
 have HE:=hid (fun V (hV:Below w.heap.size w V)=>lT S x v V hR (hx.new hV))
 obtain⟨k,op,tb,nm,vk,vn,vs,ys,aa,nn,cc,rfl,rfl,ha⟩:=hx
 show Calls Tryz.prog 143 _ w fun e w'=>e = .returned (.bool (decide (k=2)&&aJ (.mk k op tb nm ⟨vk,vn,vs⟩ ys)))∧_
 clear hR ha
 generalize aJ (.mk k op tb nm ⟨vk,vn,vs⟩ ys)=R at HE ⊢
 obtain⟨W,hW,hbW,hzW,hcW⟩:=aL w (.cells #[.int .i64 k,.int .i64 op,.string (aj tb),.string (aj nm),.int .i64 vk,.int .i64 vn,.string (aj vs),.slice aa nn cc] 48)
 have k0:=aN hcW
 have HB:=hid hbW
 have HC:=hid hcW
 have HQ0:=hid (Below.refl W.heap.size W)
 clear hbW hcW
 cases hv0:decide (k=2) with
 |
  true =>
  rw[Bool.true_and]
  have g2:(k==2)=true:=by rw[of_decide_eq_true hv0];rfl
  clear hv0
  cases hv1:R with
  |
   true =>
   rw[hv1] at HE
   clear hv1
   go_enter Tryz.func143,Tryz.ntmps143
   go_wp2_with fail
   refine (HE.out _ (HB.out.trans (HQ0.out.mono HB.out.size))).mono ?_
   rintro e v1 ⟨rfl,hb1⟩
   have HQ1:Hid (Below W.heap.size W v1):=hid (HQ0.out.trans (hb1.mono HQ0.out.size))
   have kk1:=aN ((HQ1.out.block w.heap.size hzW).trans HC.out)
   clear hb1
   go_wp2
   go_ret
   exact⟨rfl,HB.out.trans (HQ1.out.mono HB.out.size)⟩
  |
   false =>
   rw[hv1] at HE
   clear hv1
   go_enter Tryz.func143,Tryz.ntmps143
   go_wp2_with fail
   refine (HE.out _ (HB.out.trans (HQ0.out.mono HB.out.size))).mono ?_
   rintro e v1 ⟨rfl,hb1⟩
   have HQ1:Hid (Below W.heap.size W v1):=hid (HQ0.out.trans (hb1.mono HQ0.out.size))
   have kk1:=aN ((HQ1.out.block w.heap.size hzW).trans HC.out)
   clear hb1
   go_wp2
   go_ret
   exact⟨rfl,HB.out.trans (HQ1.out.mono HB.out.size)⟩
 |
  false =>
  rw[Bool.false_and]
  have g2:(k==2)=false:=by rw[beq_eq_false_iff_ne];exact of_decide_eq_false hv0
  clear hv0
  go_enter Tryz.func143,Tryz.ntmps143
  go_wp2
  go_ret
  exact⟨rfl,HB.out.trans (HQ0.out.mono HB.out.size)⟩
theorem qX (S:Nat→Prop) (x:It) (cs:List Value) (w:World) (hR : ∀y∈x.xs,jD y) (hx:qo S w x cs) :
  Calls Tryz.prog 142 #[.agg cs.toArray] w fun e w'=>e = .returned (.bool (sw x))∧Below w.heap.size w w':=by
 obtain⟨aa,nn,cc,rfl,ha⟩:=hx
 obtain⟨k,xs⟩:=x
 dsimp only at ha hR ⊢
 obtain⟨a',c',hsl,_⟩:=ha.form
 simp only[Value.slice.injEq] at hsl
 obtain⟨rfl,rfl,rfl⟩:=hsl
 have HE:Hid (∀V,Below w.heap.size w V→Calls Tryz.prog 95 #[.slice aa xs.length cc,.int .i64 1,.int .i64 1,.func (.func 82) #[] #[]] V fun e w'=>e = .returned (.bool (bf xs 1 1 aJ))∧Below V.heap.size V w'):=hid (fun V (hV:Below w.heap.size w V)=>iH S xs _ 1 1 V (by omega) (by omega) hR (ha.new hV))
 unfold sw
 dsimp only
 clear hR ha
 obtain⟨W,hW,hbW,hzW,hcW⟩:=aL w (.cells #[.int .i64 k,.slice aa xs.length cc] 55)
 have k0:=dQ hcW
 have HB:=hid hbW
 have HC:=hid hcW
 have HQ0:=hid (Below.refl W.heap.size W)
 clear hbW hcW
 by_cases h13:k=1∨k=3
 ·rw[if_pos h13]
  have hz:decide (xs.length=0)=((xs.length:Int)==0):=by rw[Bool.eq_iff_iff,decide_eq_true_eq,beq_iff_eq];omega
  rw[hz]
  clear hz HE
  rcases h13 with rfl | rfl
  ·go_enter Tryz.func142,Tryz.ntmps142
   go_wp2
   go_ret
   exact⟨rfl,HB.out⟩
  ·go_enter Tryz.func142,Tryz.ntmps142
   go_wp2
   go_ret
   exact⟨rfl,HB.out⟩
 ·rw[if_neg h13]
  by_cases h2:k=2∨k=4∨k=5∨k=6∨k=7
  ·rw[if_pos h2]
   generalize bf xs 1 1 aJ=R at HE ⊢
   clear h13
   rcases h2 with rfl | rfl | rfl | rfl | rfl
   ·go_enter Tryz.func142,Tryz.ntmps142
    go_wp2_with fail
    refine (HE.out _ (HB.out.trans (HQ0.out.mono HB.out.size))).mono ?_
    rintro e v1 ⟨rfl,hb1⟩
    have HQ1:Hid (Below W.heap.size W v1):=hid (HQ0.out.trans (hb1.mono HQ0.out.size))
    have kk1:=dQ ((HQ1.out.block w.heap.size hzW).trans HC.out)
    clear hb1
    go_wp2
    go_ret
    exact⟨rfl,HB.out.trans (HQ1.out.mono HB.out.size)⟩
   ·go_enter Tryz.func142,Tryz.ntmps142
    go_wp2_with fail
    refine (HE.out _ (HB.out.trans (HQ0.out.mono HB.out.size))).mono ?_
    rintro e v1 ⟨rfl,hb1⟩
    have HQ1:Hid (Below W.heap.size W v1):=hid (HQ0.out.trans (hb1.mono HQ0.out.size))
    have kk1:=dQ ((HQ1.out.block w.heap.size hzW).trans HC.out)
    clear hb1
    go_wp2
    go_ret
    exact⟨rfl,HB.out.trans (HQ1.out.mono HB.out.size)⟩
   ·go_enter Tryz.func142,Tryz.ntmps142
    go_wp2_with fail
    refine (HE.out _ (HB.out.trans (HQ0.out.mono HB.out.size))).mono ?_
    rintro e v1 ⟨rfl,hb1⟩
    have HQ1:Hid (Below W.heap.size W v1):=hid (HQ0.out.trans (hb1.mono HQ0.out.size))
    have kk1:=dQ ((HQ1.out.block w.heap.size hzW).trans HC.out)
    clear hb1
    go_wp2
    go_ret
    exact⟨rfl,HB.out.trans (HQ1.out.mono HB.out.size)⟩
   ·go_enter Tryz.func142,Tryz.ntmps142
    go_wp2_with fail
    refine (HE.out _ (HB.out.trans (HQ0.out.mono HB.out.size))).mono ?_
    rintro e v1 ⟨rfl,hb1⟩
    have HQ1:Hid (Below W.heap.size W v1):=hid (HQ0.out.trans (hb1.mono HQ0.out.size))
    have kk1:=dQ ((HQ1.out.block w.heap.size hzW).trans HC.out)
    clear hb1
    go_wp2
    go_ret
    exact⟨rfl,HB.out.trans (HQ1.out.mono HB.out.size)⟩
   ·go_enter Tryz.func142,Tryz.ntmps142
    go_wp2_with fail
    refine (HE.out _ (HB.out.trans (HQ0.out.mono HB.out.size))).mono ?_
    rintro e v1 ⟨rfl,hb1⟩
    have HQ1:Hid (Below W.heap.size W v1):=hid (HQ0.out.trans (hb1.mono HQ0.out.size))
    have kk1:=dQ ((HQ1.out.block w.heap.size hzW).trans HC.out)
    clear hb1
    go_wp2
    go_ret
    exact⟨rfl,HB.out.trans (HQ1.out.mono HB.out.size)⟩
  ·rw[if_neg h2]
   have g1:(k==1)=false:=by rw[beq_eq_false_iff_ne];intro e;omega
   have g2:(k==2)=false:=by rw[beq_eq_false_iff_ne];intro e;omega
   have g3:(k==3)=false:=by rw[beq_eq_false_iff_ne];intro e;omega
   have g4:(k==4)=false:=by rw[beq_eq_false_iff_ne];intro e;omega
   have g5:(k==5)=false:=by rw[beq_eq_false_iff_ne];intro e;omega
   have g6:(k==6)=false:=by rw[beq_eq_false_iff_ne];intro e;omega
   have g7:(k==7)=false:=by rw[beq_eq_false_iff_ne];intro e;omega
   clear h13 h2 HE
   go_enter Tryz.func142,Tryz.ntmps142
   go_wp2
   go_ret
   exact⟨rfl,HB.out⟩
theorem aF {g:Nat} {tb tb1 tb2:Option Nat} {W w1 w2:World} (h1 : ∀k,tb1=some k→tb=some k∨W.heap.size≤k) (hf:cB g tb W w1) (h2 : ∀k,tb2=some k→tb1=some k∨w1.heap.size≤k) (hf2:cB g tb1 w1 w2):(∀k,tb2=some k→tb=some k∨W.heap.size≤k)∧cB g tb W w2:=by
 refine ⟨fun k hk=>?_,hf.andThen hf2 fun i hi=>?_⟩
 ·rcases h2 k hk with e | e
  ·exact h1 k e
  ·exact .inr (Nat.le_trans hf.size e)
 ·rcases hi with rfl | e
  ·exact .inl (.inl rfl)
  ·rcases h1 i e with e | e
   ·exact .inl (.inr e)
   ·exact .inr e
theorem bM {g:Nat} {tb tb1 tb2:Option Nat} {W w1 w2:World} (h1 : ∀k,tb1=some k→tb=some k∨W.heap.size≤k) (hf:cB g tb W w1) (h2 : ∀k,tb2=some k→tb1=some k∨w1.drew.heap.size≤k) (hf2:cB g tb1 w1.drew w2):(∀k,tb2=some k→tb=some k∨W.heap.size≤k)∧cB g tb W w2 :=
 aF h1 hf h2 ((aA.aC (Below.refl _ w1).drew).then hf2)
theorem Fg (x:Ex) (hr:aJ x=true) (v:Value) (g:Nat) (tb:Option Nat) (L:List Tk) (d m:Int) (w:World) (h:bJ w g tb L d m) (hx:fB (fun b=>b<g) w x v) (hL:L.length+(jG x).length≤1000000000) (h0:0≤d) (hdm:d≤m) (hm:m≤1000000000) (hd:d+(fJ x:Nat)≤1000000000) :
  Calls Tryz.prog 83 #[.pointer (some ⟨g,0,none⟩),v] w fun e w'=>e = .returned (.tuple #[])∧Wrote g tb w w' (L++jG x) d (max m (d+(fJ x:Nat))):=by
 obtain⟨hok,hex⟩:=l8 hr
 exact Dm (iP x) hok g tb L d m w v h (by rw[hex];exact hx) hL h0 hdm hd hm
theorem GD (xs:List Ex) (ws:List (List UInt8)) (hws : ∀t∈ws,t≠[]) (hwl:ws.length≤10) (v wv:Value) (g:Nat) (tb:Option Nat) (L:List Tk) (d m:Int) (w:World) (h:bJ w g tb L d m) (hx:bF (fun b=>b<g) w xs v) (hwv:rT g tb w wv ws) (hr : ∀x∈xs,aJ x=true) (h0:0≤d) (hdm:d≤m) (hm:m≤1000000000) (hd : ∀x∈xs,d+(fJ x:Nat)≤1000000000) (hL:L.length+(bH xs ws).length≤1000000000) :
  Calls Tryz.prog 105 #[.pointer (some ⟨g,0,none⟩),v,wv] w fun e w'=>e = .returned (.tuple #[])∧Wrote g tb w w' (L++bH xs ws) d (max m (d+(bY xs:Nat))):=by
 have HV:=hid (dN hx)
 have HW:=hid h
 have HWV:=hid hwv
 have HR:=hid hr
 have HD:=hid hd
 have hdl : ∀k,d+(bY (xs.take k):Nat)≤1000000000:=fun k=>by
  have : ∀l:List Ex,(∀x∈l,d+(fJ x:Nat)≤1000000000)→d+(bY l:Nat)≤1000000000:=fun l=>by
   induction l with
   | nil=>intro _;show d+((0:Nat):Int)≤_;omega
   |
    cons x l ih =>
    intro hh
    have h1:=hh x (by simp)
    have h2:=ih (fun y hy=>hh y (by simp[hy]))
    show d+((max (fJ x) (bY l):Nat):Int)≤_
    omega
  exact this _ (fun x hx=>hd x (List.mem_of_mem_take hx))
 have HDL:=hid hdl
 have hsl : ∀k,(bH (xs.take k) ws).length≤(bH xs ws).length:=fun k=>by
  have e:bH xs ws=bH (xs.take k) ws++bH (xs.drop k) ws:=by unfold bH;rw[← List.flatMap_append,List.take_append_drop]
  rw[e,List.length_append];omega
 have HSL:=hid hsl
 have hsn : ∀k x,xs[k]?=some x→bH (xs.take (k+1)) ws=bH (xs.take k) ws++(au ws++jG x)∧bY (xs.take (k+1))=max (bY (xs.take k)) (fJ x):=fun k x hx=>by
  obtain⟨h1,h2⟩:=List.getElem?_eq_some_iff.1 hx
  rw[List.take_succ_eq_append_getElem h1,h2]
  refine ⟨by unfold bH;rw[List.flatMap_append];simp,?_⟩
  have : ∀(l:List Ex),bY (l++[x])=max (bY l) (fJ x):=fun l=>by
   induction l with
   | nil=>show max (fJ x) 0=max 0 (fJ x);omega
   | cons a l ih=>show max (fJ a) (bY (l++[x]))=max (max (fJ a) (bY l)) (fJ x);rw[ih];omega
  exact this _
 have HSN:=hid hsn
 obtain⟨aa,cc,hvf,hcm⟩:=hx.form
 subst hvf
 obtain⟨wa,wc,rfl,hwn,_⟩:=id hwv
 unfold maxLen at hcm
 clear h hdl hsl hsn hd hr hx hwv
 go_enter Tryz.func105,Tryz.ntmps105
 go_wp2_with fail
 go_loopw [7,10] (fun _ i wr=>∃(k:Nat),k≤xs.length∧i = .int .i64 k∧Wrote g tb w wr (L++bH (xs.take k) ws) d (max m (d+(bY (xs.take k):Nat)))) (fun _ i _=>xs.length-(intOf i).toNat)
 case atStart =>
  refine ⟨0,Nat.zero_le _,rfl,?_⟩
  have e:max m (d+(bY (xs.take 0):Nat))=m:=by show max m (d+((0:Nat):Int))=m;omega
  rw[e]
  simpa [bH] using HW.out.here
 case round =>
  obtain⟨k,hk,rfl,hq⟩:=hrel
  by_cases hlt:k<xs.length
  ·obtain⟨x,hx⟩:∃x,xs[k]?=some x:=⟨_,List.getElem?_eq_getElem hlt⟩
   have hlt':((k:Int)<(xs.length:Int)):=by omega
   obtain⟨tw1,hw1,ht1,hf1⟩:=hq
   obtain⟨_,_,_,b,off,cs,rfl,_,hel,hcell⟩:=bN (HV.out.to (T:=fun b=>b<g) (by decide) hf1 (cB.keeps HW.out hf1) (fun _ _ e=>e.to hf1 (cB.keeps HW.out hf1))) hx
   obtain⟨hs1,hs2⟩:=HSN.out k x hx
   have hxm:=List.mem_of_getElem? hx
   have hxr:=HR.out x hxm
   have hxd:=HD.out x hxm
   have hll:=HSL.out (k+1)
   have hmm:=HDL.out k
   rw[hs1] at hll
   simp only[List.length_append] at hll
   have hEV:=hel.v
   obtain⟨k1,op1,tb1,nm1,vk1,vn1,vs1,ys1,aa1,nn1,cc1,_,rfl,_⟩:=hel
   have q0:=hcell 0 _ rfl
   have q1:=hcell 1 _ rfl
   have q2:=hcell 2 _ rfl
   have q3:=hcell 3 _ rfl
   have q4:=hcell 4 _ rfl
   have q5:=hcell 5 _ rfl
   have q6:=hcell 6 _ rfl
   have q7:=hcell 7 _ rfl
   simp only[Nat.add_zero] at q0
   obtain⟨U,hU,hbU,hzU,hcU⟩:=aL wr (.cells #[.int .i64 k1,.int .i64 op1,.string (aj tb1),.string (aj nm1),.int .i64 vk1,.int .i64 vn1,.string (aj vs1),.slice aa1 nn1 cc1] 48)
   have kU:=aN hcU
   have hwU:=hw1.below hbU
   have HBX:=hid (dn.mk' hw1 hcU (Nat.le_refl _))
   have HEV:=hid (hEV.new hbU)
   have HX:=hid (nk g tw1 _ d _ U hwU _ ws (((HWV.out.on ht1 hf1)).on (fun k hk=>.inl hk) (aA.aC hbU)) hws (by simp[au] at hll ⊢;omega))
   have HT1:=hid ht1
   have HF1:=hid (hf1.eU hbU)
   have HWU:=hid hwU
   have HS1:=hid hs1
   have HS2:=hid hs2
   generalize hPT:bH (xs.take k) ws=PT at *
   generalize hPD:bY (xs.take k)=PD at *
   clear hw1 ht1 hf1 hbU hcU hwU hs1 hs2 hPT hPD hcell hx hEV hxm
   go_wp2_with (first | (refine wpList_store_row rfl 48 (.tmp 7) (.tmp 13) rfl wr.heap.size #[.int .i64 k1,.int .i64 op1,.string (aj tb1),.string (aj nm1),.int .i64 vk1,.int .i64 vn1,.string (aj vs1),.slice aa1 nn1 cc1] rfl rfl 48 #[.int .i64 0,.int .i64 0,.string ⟨#[]⟩,.string ⟨#[]⟩,.int .i64 0,.int .i64 0,.string ⟨#[]⟩,.slice none 0 0] (heap_alloc_new wr _) Tryz.bA rfl rfl ?_;rw[aB,hU];clear hU) | fail)
   refine HX.out.mono ?_
   rintro e w2 ⟨rfl,tw2,hw2,ht2,hf2⟩
   have kX:=aN (HBX.out.on ht2 hf2).at'
   have hCA:=Fg x hxr _ g tw2 _ d _ w2 hw2 (HEV.out.qV HWU.out hf2) (by simp[au] at hll ⊢;omega) h0 (by omega) (by omega) hxd
   have HC:Hid (Calls Tryz.prog 83 #[.pointer (some ⟨g,0,none⟩),.agg #[.int .i64 k1,.int .i64 op1,.string (aj tb1),.string (aj nm1),.int .i64 vk1,.int .i64 vn1,.string (aj vs1),.slice aa1 nn1 cc1]] w2 fun e w'=>e = .returned (.tuple #[])∧Wrote g tw2 w2 w' (L++bH (xs.take (k+1)) ws) d (max m (d+(bY (xs.take (k+1)):Nat)))):=hid (by
    rw[HS1.out,HS2.out]
    rw[show max m (d+((max PD (fJ x):Nat):Int))=max (max m (d+(PD:Int))) (d+(fJ x:Int)) by omega]
    rw[show L++PT++au ws++jG x=L++(PT++(au ws++jG x)) by simp] at hCA
    exact hCA)
   have HT2:=hid ht2
   have HF2:=hid hf2
   clear hCA ht2 hf2 hw2 HX
   go_wp2_with fail
   refine HC.out.mono ?_
   rintro e w3 ⟨rfl,h3⟩
   have HQ:=hid (Wrote.then HT1.out HF1.out (Wrote.then (fun k hk=>HT2.out k hk) HF2.out h3))
   clear h3 HC
   go_wp2
   go_roundw
   case rel=>exact⟨k+1,by omega,by go_num,HQ.out⟩
   case measure=>simp[intOf];omega
  ·have hlt' : ¬((k:Int)<(xs.length:Int)):=by omega
   have HQ:Hid (Wrote g tb w wr (L++bH xs ws) d (max m (d+(bY xs:Nat)))):=hid (by rw[List.take_of_length_le (by omega)] at hq;exact hq)
   clear hq
   go_wp2
   exact bodyPost_end (v:=.tuple #[]) (by simp[results,Tryz.results105,go_sem]) rfl ⟨rfl,HQ.out⟩
theorem uW (word:List UInt8) (hw0:word≠[]) (x:Ex) (hr:aJ x=true) (v:Value) (g:Nat) (tb:Option Nat) (L:List Tk) (d m:Int) (w:World) (h:bJ w g tb L d m) (hx:fB (fun b=>b<g) w x v) (hL:L.length+((jG x).length+3)≤1000000000) (h0:0≤d) (hdm:d≤m) (hm:m≤1000000000) (hd:d+(fJ x:Nat)≤1000000000) :
  Calls Tryz.prog 166 #[.pointer (some ⟨g,0,none⟩),.string (aj word),v] w fun e w'=>e = .returned (.tuple #[])∧Wrote g tb w w' (L++(au [word,[40]]++(jG x++[aK [41]]))) d (max m (d+(fJ x:Nat))):=by
 have HXV:=hid hx
 obtain⟨k,op,tn,nm,vk,vn,vs,ys,aa,nn,cc,he,rfl,ha⟩:=hx
 obtain⟨W,hW,hbW,hzW,hcW⟩:=aL w (.cells #[.int .i64 k,.int .i64 op,.string (aj tn),.string (aj nm),.int .i64 vk,.int .i64 vn,.string (aj vs),.slice aa nn cc] 48)
 have kk0:=aN hcW
 have HB:=hid hbW
 have HW0:=hid (h.below hbW)
 have HBX0:=hid (dn.mk' h hcW (Nat.le_refl _))
 have HT0:Hid (∀k,tb=some k→tb=some k∨W.heap.size≤k):=hid (fun k hk=>.inl hk)
 have HF0:Hid (cB g tb W W):=hid (aA.refl _ _)
 have HXW:=hid (HXV.out.new hbW)
 have HE:Hid (∀(V:World) (tb':Option Nat) (L':List Tk) (m':Int),bJ V g tb' L' d m'→cB g tb W V→(∀k,tb'=some k→tb=some k∨W.heap.size≤k)→L'.length+(jG x).length≤1000000000→d≤m'→m'≤1000000000→Calls Tryz.prog 83 #[.pointer (some ⟨g,0,none⟩),.agg #[.int .i64 k,.int .i64 op,.string (aj tn),.string (aj nm),.int .i64 vk,.int .i64 vn,.string (aj vs),.slice aa nn cc]] V fun e w'=>e = .returned (.tuple #[])∧Wrote g tb' V w' (L'++jG x) d (max m' (d+(fJ x:Nat)))):=hid (fun V tb' L' m' hV hF _ hl h1 h2=>Fg x hr _ g tb' L' d m' V hV (HXW.out.qV HW0.out hF) hl h0 h1 h2 hd)
 clear h hbW hcW ha he HXV hr
 generalize jG x=T at HE hL ⊢
 generalize fJ x=D at HE hd ⊢
 go_enter Tryz.func166,Tryz.ntmps166
 have HX0:Hid (Calls Tryz.prog 98 #[.pointer (some ⟨g,0,none⟩),.slice (some ⟨W.heap.size,0,none⟩) 2 2] (W.alloc (.cells #[.string (aj word),.string ⟨#[40]⟩] 9)) fun e w'=>e = .returned (.tuple #[])∧Wrote g tb W w' (L++au [word,[40]]) d (m)):=hid (aG g tb _ d _ [word,[40]] W HW0.out (by simp) (by simpa using hw0) (by simp[au]<;>omega))
 go_wp2_with fail
 refine HX0.out.mono ?_
 rintro e w1 ⟨rfl,tw1,hw,ht,hf⟩
 have HW1:=hid hw
 obtain⟨ht2,hf2⟩:=aF HT0.out HF0.out ht hf
 have HT1:=hid ht2
 have HF1:=hid hf2
 have HBX1:=hid (HBX0.out.on ht hf)
 have kk1:=aN HBX1.out.at'
 clear hw ht hf ht2 hf2 HX0 kk0
 have HX1:=hid (HE.out w1 tw1 (L++au [word,[40]]) (m) HW1.out HF1.out HT1.out (by simp[au]<;>omega) (by omega) (by omega))
 go_wp2_with fail
 refine HX1.out.mono ?_
 rintro e w2 ⟨rfl,tw2,hw,ht,hf⟩
 have HW2:=hid hw
 obtain⟨ht2,hf2⟩:=aF HT1.out HF1.out ht hf
 have HT2:=hid ht2
 have HF2:=hid hf2
 have HBX2:=hid (HBX1.out.on ht hf)
 have kk2:=aN HBX2.out.at'
 clear hw ht hf ht2 hf2 HX1 kk1
 have HX2:Hid (Calls Tryz.prog 98 #[.pointer (some ⟨g,0,none⟩),.slice (some ⟨w2.heap.size,0,none⟩) 1 1] (w2.alloc (.cells #[.string ⟨#[41]⟩] 9)) fun e w'=>e = .returned (.tuple #[])∧Wrote g tw2 w2 w' (L++au [word,[40]]++T++au [[41]]) d (max (m) (d+((D:Nat):Int)))):=hid (aG g tw2 _ d _ [[41]] w2 HW2.out (by simp) (by decide) (by simp[au]<;>omega))
 go_wp2_with fail
 refine HX2.out.mono ?_
 rintro e w3 ⟨rfl,tw3,hw,ht,hf⟩
 have HW3:=hid hw
 obtain⟨ht2,hf2⟩:=aF HT2.out HF2.out ht hf
 have HT3:=hid ht2
 have HF3:=hid hf2
 have HBX3:=hid (HBX2.out.on ht hf)
 have kk3:=aN HBX3.out.at'
 clear hw ht hf ht2 hf2 HX2 kk2
 have HQ:Hid (Wrote g tb w w3 (L++(au [word,[40]]++(T++[aK [41]]))) d (max m (d+((D:Nat):Int)))):=hid (by
  have h9:Wrote g tb W w3 (L++au [word,[40]]++T++au [[41]]) d (max (m) (d+((D:Nat):Int))):=⟨tw3,HW3.out,HT3.out,HF3.out⟩
  have h8:=Wrote.new HB.out h9
  rw[show max (m) (d+((D:Nat):Int))=max m (d+((D:Nat):Int)) by omega] at h8
  rw[show L++au [word,[40]]++T++au [[41]]=L++(au [word,[40]]++(T++[aK [41]])) by simp[au]] at h8
  exact h8)
 go_wp2
 exact bodyPost_end (v:=.tuple #[]) (by simp[results,Tryz.results166,go_sem]) rfl ⟨rfl,HQ.out⟩
end Go.Proofs.YtfeglkleoijlaaaGreatDoor
