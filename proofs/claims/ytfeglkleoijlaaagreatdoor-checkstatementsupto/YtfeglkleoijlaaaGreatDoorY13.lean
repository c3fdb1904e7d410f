import Derived.Test.YtfeglkleoijlaaaGreatDoorY11
import Derived.Test.YtfeglkleoijlaaaGreatDoorY08
import Derived.Test.YtfeglkleoijlaaaGreatDoorY12
import Derived.Test.YtfeglkleoijlaaaGreatDoorY10
import Derived.Deep.RegionHeld3
namespace Go.Proofs.YtfeglkleoijlaaaGreatDoor
open Go.RowKit Go.Shelf
set_option linter.unusedSimpArgs false
set_option linter.unusedVariables false
set_option maxRecDepth 20000
set_option maxHeartbeats 8000000
theorem jZ {w:World} {g:Nat} {a b c d:Value} {t:TypeId} (h:w.heap[g]?=some (.cells #[a,b,c,d] t)):w.cell? ⟨g,0,none⟩=some a∧w.cell? ⟨g,1,none⟩=some b∧w.cell? ⟨g,2,none⟩=some c∧w.cell? ⟨g,3,none⟩=some d :=
 ⟨by rw[aB _ _ _ _ _ _ h];rfl,by rw[aB _ _ _ _ _ _ h];rfl,by rw[aB _ _ _ _ _ _ h];rfl,by rw[aB _ _ _ _ _ _ h];rfl⟩
theorem gK {w:World} {g:Nat} {a b:Value} {t:TypeId} (h:w.heap[g]?=some (.cells #[a,b] t)):w.cell? ⟨g,0,none⟩=some a∧w.cell? ⟨g,1,none⟩=some b :=
 ⟨by rw[aB _ _ _ _ _ _ h];rfl,by rw[aB _ _ _ _ _ _ h];rfl⟩
theorem jv {w:World} {g:Nat} {a b c d e f i j k:Value} {t:TypeId} (h:w.heap[g]?=some (.cells #[a,b,c,d,e,f,i,j,k] t)):w.cell? ⟨g,0,none⟩=some a∧w.cell? ⟨g,1,none⟩=some b∧w.cell? ⟨g,2,none⟩=some c∧w.cell? ⟨g,3,none⟩=some d∧w.cell? ⟨g,4,none⟩=some e∧w.cell? ⟨g,5,none⟩=some f∧w.cell? ⟨g,6,none⟩=some i∧w.cell? ⟨g,7,none⟩=some j∧w.cell? ⟨g,8,none⟩=some k :=
 ⟨by rw[aB _ _ _ _ _ _ h];rfl,by rw[aB _ _ _ _ _ _ h];rfl,by rw[aB _ _ _ _ _ _ h];rfl,by rw[aB _ _ _ _ _ _ h];rfl,by rw[aB _ _ _ _ _ _ h];rfl,by rw[aB _ _ _ _ _ _ h];rfl,by rw[aB _ _ _ _ _ _ h];rfl,by rw[aB _ _ _ _ _ _ h];rfl,by rw[aB _ _ _ _ _ _ h];rfl⟩
theorem ru (S:Nat→Prop) (x:Ex) (v:Value) (w:World) (hR:mO x) (hx:gH S w x v):Calls Tryz.prog 82 #[v] w fun e w'=>e = .returned (.bool (aF x))∧Below w.heap.size w w' :=
 qM S _ x v w (Nat.lt_succ_self _) hR hx
theorem mJ (S:Nat→Prop) (xs:List Ex) (v:Value) (lo hi:Nat) (w:World) (h1:lo≤100) (h2:hi≤100) (hR : ∀x∈xs,mO x) (hx:bA S w xs v):Calls Tryz.prog 95 #[v,.int .i64 lo,.int .i64 hi,.func (.func 82) #[] #[]] w fun e w'=>e = .returned (.bool (aR xs lo hi aF))∧Below w.heap.size w w' :=
 qB S 82 (enters_of Tryz.func82 (by kernel_rfl) rfl) aF xs v lo hi w h1 h2 (eZ hx) (hid (fun y hy U hU cs hcs=>ru S y _ U (hR y hy) hcs.v))
theorem oO (c:Co) (w:World) (h1:c.nm.length≤9223372036854775807) :
  Calls Tryz.prog 89 #[.agg #[.string (aj c.nm),.int .i64 c.k,.bool c.nn,.bool c.uq]] w fun e w'=>e = .returned (.bool (iV c))∧Below w.heap.size w w':=by
 obtain⟨nm,k,nn,uq⟩:=c
 dsimp only at h1 ⊢
 have HN:=hid (fun V=>je nm V h1)
 have hd:iV ⟨nm,k,nn,uq⟩=(aU nm&&(decide (k=1)||decide (k=2))):=by unfold iV;simp
 rw[hd]
 clear hd h1
 obtain⟨W,hW,hbW,aJ,hcW⟩:=aK w (.cells #[.string (aj nm),.int .i64 k,.bool nn,.bool uq] 60)
 have k0:=jZ hcW
 have HB:=hid hbW
 have HC:=hid hcW
 have dn:=hid (Below.refl W.heap.size W)
 clear hbW hcW
 cases hv0:aU nm with
 |
  true =>
  rw[aaA]
  rw[hv0] at HN
  clear hv0
  cases hv1:decide (k=1) with
  |
   true =>
   rw[Bool.true_or]
   have g1:(k==1)=true:=by rw[of_decide_eq_true hv1];rfl
   clear hv1
   go_enter Tryz.func89,Tryz.ntmps89
   go_wp2_with fail
   refine (HN.out _).mono ?_
   rintro e v1 ⟨rfl,hb1⟩
   have cZ:=htr dn hb1
   have iU:=jZ ((cZ.out.block w.heap.size aJ).trans HC.out)
   clear hb1
   go_wp2
   go_ret
   exact⟨rfl,HB.out.trans (cZ.out.mono HB.out.size)⟩
  |
   false =>
   rw[Bool.false_or]
   have g1:(k==1)=false:=by rw[aai];exact of_decide_eq_false hv1
   clear hv1
   cases hv2:decide (k=2) with
   |
    true =>
    have g2:(k==2)=true:=by rw[of_decide_eq_true hv2];rfl
    clear hv2
    go_enter Tryz.func89,Tryz.ntmps89
    go_wp2_with fail
    refine (HN.out _).mono ?_
    rintro e v1 ⟨rfl,hb1⟩
    have cZ:=htr dn hb1
    have iU:=jZ ((cZ.out.block w.heap.size aJ).trans HC.out)
    clear hb1
    go_wp2
    go_ret
    exact⟨rfl,HB.out.trans (cZ.out.mono HB.out.size)⟩
   |
    false =>
    have g2:(k==2)=false:=by rw[aai];exact of_decide_eq_false hv2
    clear hv2
    go_enter Tryz.func89,Tryz.ntmps89
    go_wp2_with fail
    refine (HN.out _).mono ?_
    rintro e v1 ⟨rfl,hb1⟩
    have cZ:=htr dn hb1
    have iU:=jZ ((cZ.out.block w.heap.size aJ).trans HC.out)
    clear hb1
    go_wp2
    go_ret
    exact⟨rfl,HB.out.trans (cZ.out.mono HB.out.size)⟩
 |
  false =>
  rw[aaz]
  rw[hv0] at HN
  clear hv0
  go_enter Tryz.func89,Tryz.ntmps89
  go_wp2_with fail
  refine (HN.out _).mono ?_
  rintro e v1 ⟨rfl,hb1⟩
  have cZ:=htr dn hb1
  have iU:=jZ ((cZ.out.block w.heap.size aJ).trans HC.out)
  clear hb1
  go_wp2
  go_ret
  exact⟨rfl,HB.out.trans (cZ.out.mono HB.out.size)⟩
def Xz (v:Vl):Prop:=-9223372036854775808≤v.n∧v.n≤9223372036854775807∧v.s.length≤9223372036854775807
theorem Bv (S:Nat→Prop) (r:List Vl) (aa:Option Addr) (nn cc:Nat) (w:World) (hR : ∀v∈r,Xz v) (hv:aM 3 Ib S w r (.slice aa nn cc)) :
  Calls Tryz.prog 92 #[.slice aa nn cc] w fun e w'=>e = .returned (.bool (om r))∧Below w.heap.size w w':=by
 have HA:Hid (Calls Tryz.prog 140 #[.slice aa nn cc,.int .i64 1,.int .i64 8,.func (.func 127) #[] #[]] w fun e w'=>e = .returned (.bool (om r))∧Below w.heap.size w w'):=hid (Kz S 127 (enters_of Tryz.func127 (by kernel_rfl) rfl) dV r _ 1 8 w (by omega) (by omega) hv (hid (fun y hy U hU cs hcs=>by
  obtain⟨h1,h2,h3⟩:=hR y hy
  obtain rfl:=hcs
  exact qd y.k y.n y.s U h1 h2 h3)))
 clear hR hv
 go_enter Tryz.func92,Tryz.ntmps92
 go_wp2_with fail
 refine HA.out.mono ?_
 rintro e w1 ⟨rfl,hb1⟩
 have HB:=hid hb1
 clear hb1 HA
 go_wp2
 go_ret
 exact⟨rfl,HB.out⟩
theorem BQ (S:Nat→Prop) (x:Se) (cs:List Value) (w:World) (h1:x.nm.length≤9223372036854775807) (hR:mO x.e) (hx:BM S w x cs) :
  Calls Tryz.prog 94 #[.agg cs.toArray] w fun e w'=>e = .returned (.bool (j6 x))∧Below w.heap.size w w':=by
 obtain⟨k,op,tb,nm,vk,vn,vs,ys,aa,nn,cc,he,rfl,ha⟩:=hx
 have HN:=hid (fun V=>je x.nm V h1)
 have HE:=hid (fun V (hV:Below w.heap.size w V)=>ru S x.e _ V hR (gH.mk' he (ha.new hV)))
 show Calls Tryz.prog 94 _ w fun e w'=>e = .returned (.bool (aU x.nm&&aF x.e))∧_
 clear h1 hR ha he
 obtain⟨W,hW,hbW,aJ,hcW⟩:=aK w (.cells #[.string (aj x.nm),.int .i64 k,.int .i64 op,.string (aj tb),.string (aj nm),.int .i64 vk,.int .i64 vn,.string (aj vs),.slice aa nn cc] 53)
 have k0:=jv hcW
 have HB:=hid hbW
 have HC:=hid hcW
 have dn:=hid (Below.refl W.heap.size W)
 clear hbW hcW
 cases hv0:aU x.nm with
 |
  true =>
  rw[aaA]
  rw[hv0] at HN
  clear hv0
  cases hv1:aF x.e with
  |
   true =>
   rw[hv1] at HE
   clear hv1
   go_enter Tryz.func94,Tryz.ntmps94
   go_wp2_with fail
   refine (HN.out _).mono ?_
   rintro e v1 ⟨rfl,hb1⟩
   have cZ:=htr dn hb1
   have iU:=jv ((cZ.out.block w.heap.size aJ).trans HC.out)
   clear hb1
   go_wp2_with fail
   refine (HE.out _ (HB.out.trans (cZ.out.mono HB.out.size))).mono ?_
   rintro e v2 ⟨rfl,hb2⟩
   have dA:=htr cZ hb2
   have j4:=jv ((dA.out.block w.heap.size aJ).trans HC.out)
   clear hb2
   go_wp2
   go_ret
   exact⟨rfl,HB.out.trans (dA.out.mono HB.out.size)⟩
  |
   false =>
   rw[hv1] at HE
   clear hv1
   go_enter Tryz.func94,Tryz.ntmps94
   go_wp2_with fail
   refine (HN.out _).mono ?_
   rintro e v1 ⟨rfl,hb1⟩
   have cZ:=htr dn hb1
   have iU:=jv ((cZ.out.block w.heap.size aJ).trans HC.out)
   clear hb1
   go_wp2_with fail
   refine (HE.out _ (HB.out.trans (cZ.out.mono HB.out.size))).mono ?_
   rintro e v2 ⟨rfl,hb2⟩
   have dA:=htr cZ hb2
   have j4:=jv ((dA.out.block w.heap.size aJ).trans HC.out)
   clear hb2
   go_wp2
   go_ret
   exact⟨rfl,HB.out.trans (dA.out.mono HB.out.size)⟩
 |
  false =>
  rw[aaz]
  rw[hv0] at HN
  clear hv0
  go_enter Tryz.func94,Tryz.ntmps94
  go_wp2_with fail
  refine (HN.out _).mono ?_
  rintro e v1 ⟨rfl,hb1⟩
  have cZ:=htr dn hb1
  have iU:=jv ((cZ.out.block w.heap.size aJ).trans HC.out)
  clear hb1
  go_wp2
  go_ret
  exact⟨rfl,HB.out.trans (cZ.out.mono HB.out.size)⟩
theorem lD (S:Nat→Prop) (x:Ex) (v:Value) (w:World) (hR:mO x) (hx:gH S w x v) :
  Calls Tryz.prog 143 #[v] w fun e w'=>e = .returned (.bool (dO x))∧Below w.heap.size w w':=by
 have HE:=hid (fun V (hV:Below w.heap.size w V)=>ru S x v V hR (hx.new hV))
 obtain⟨k,op,tb,nm,vk,vn,vs,ys,aa,nn,cc,rfl,rfl,ha⟩:=hx
 show Calls Tryz.prog 143 _ w fun e w'=>e = .returned (.bool (decide (k=2)&&aF (.mk k op tb nm ⟨vk,vn,vs⟩ ys)))∧_
 clear hR ha
 generalize aF (.mk k op tb nm ⟨vk,vn,vs⟩ ys)=R at HE ⊢
 obtain⟨W,hW,hbW,aJ,hcW⟩:=aK w (.cells #[.int .i64 k,.int .i64 op,.string (aj tb),.string (aj nm),.int .i64 vk,.int .i64 vn,.string (aj vs),.slice aa nn cc] 48)
 have k0:=aG hcW
 have HB:=hid hbW
 have HC:=hid hcW
 have dn:=hid (Below.refl W.heap.size W)
 clear hbW hcW
 cases hv0:decide (k=2) with
 |
  true =>
  rw[aaA]
  have g2:(k==2)=true:=by rw[of_decide_eq_true hv0];rfl
  clear hv0
  cases hv1:R with
  |
   true =>
   rw[hv1] at HE
   clear hv1
   go_enter Tryz.func143,Tryz.ntmps143
   go_wp2_with fail
   refine (HE.out _ (HB.out.trans (dn.out.mono HB.out.size))).mono ?_
   rintro e v1 ⟨rfl,hb1⟩
   have cZ:=htr dn hb1
   have iU:=aG ((cZ.out.block w.heap.size aJ).trans HC.out)
   clear hb1
   go_wp2
   go_ret
   exact⟨rfl,HB.out.trans (cZ.out.mono HB.out.size)⟩
  |
   false =>
   rw[hv1] at HE
   clear hv1
   go_enter Tryz.func143,Tryz.ntmps143
   go_wp2_with fail
   refine (HE.out _ (HB.out.trans (dn.out.mono HB.out.size))).mono ?_
   rintro e v1 ⟨rfl,hb1⟩
   have cZ:=htr dn hb1
   have iU:=aG ((cZ.out.block w.heap.size aJ).trans HC.out)
   clear hb1
   go_wp2
   go_ret
   exact⟨rfl,HB.out.trans (cZ.out.mono HB.out.size)⟩
 |
  false =>
  rw[aaz]
  have g2:(k==2)=false:=by rw[aai];exact of_decide_eq_false hv0
  clear hv0
  go_enter Tryz.func143,Tryz.ntmps143
  go_wp2
  go_ret
  exact⟨rfl,HB.out.trans (dn.out.mono HB.out.size)⟩
theorem zk (S:Nat→Prop) (x:It) (cs:List Value) (w:World) (hR : ∀y∈x.xs,mO y) (hx:vY S w x cs) :
  Calls Tryz.prog 142 #[.agg cs.toArray] w fun e w'=>e = .returned (.bool (oQ x))∧Below w.heap.size w w':=by
 obtain⟨aa,nn,cc,rfl,ha⟩:=hx
 obtain⟨k,xs⟩:=x
 dsimp only at ha hR ⊢
 obtain⟨a',c',hsl,_⟩:=ha.form
 simp only[aah] at hsl
 obtain⟨rfl,rfl,rfl⟩:=hsl
 have HE:Hid (∀V,Below w.heap.size w V→Calls Tryz.prog 95 #[.slice aa xs.length cc,.int .i64 1,.int .i64 1,.func (.func 82) #[] #[]] V fun e w'=>e = .returned (.bool (aR xs 1 1 aF))∧Below V.heap.size V w'):=hid (fun V (hV:Below w.heap.size w V)=>mJ S xs _ 1 1 V (by omega) (by omega) hR (ha.new hV))
 unfold oQ
 dsimp only
 clear hR ha
 obtain⟨W,hW,hbW,aJ,hcW⟩:=aK w (.cells #[.int .i64 k,.slice aa xs.length cc] 55)
 have k0:=gK hcW
 have HB:=hid hbW
 have HC:=hid hcW
 have dn:=hid (Below.refl W.heap.size W)
 clear hbW hcW
 by_cases YP:k=1∨k=3
 ·rw[if_pos YP]
  have hz:decide (xs.length=0)=((xs.length:Int)==0):=by rw[Bool.eq_iff_iff,aaI,beq_iff_eq];omega
  rw[hz]
  clear hz HE
  rcases YP with rfl | rfl
  ·go_enter Tryz.func142,Tryz.ntmps142
   go_wp2
   go_ret
   exact⟨rfl,HB.out⟩
  ·go_enter Tryz.func142,Tryz.ntmps142
   go_wp2
   go_ret
   exact⟨rfl,HB.out⟩
 ·rw[if_neg YP]
  by_cases h2:k=2∨k=4∨k=5∨k=6∨k=7
  ·rw[if_pos h2]
   generalize aR xs 1 1 aF=R at HE ⊢
   clear YP
   rcases h2 with rfl | rfl | rfl | rfl | rfl
   ·go_enter Tryz.func142,Tryz.ntmps142
    go_wp2_with fail
    refine (HE.out _ (HB.out.trans (dn.out.mono HB.out.size))).mono ?_
    rintro e v1 ⟨rfl,hb1⟩
    have cZ:=htr dn hb1
    have iU:=gK ((cZ.out.block w.heap.size aJ).trans HC.out)
    clear hb1
    go_wp2
    go_ret
    exact⟨rfl,HB.out.trans (cZ.out.mono HB.out.size)⟩
   ·go_enter Tryz.func142,Tryz.ntmps142
    go_wp2_with fail
    refine (HE.out _ (HB.out.trans (dn.out.mono HB.out.size))).mono ?_
    rintro e v1 ⟨rfl,hb1⟩
    have cZ:=htr dn hb1
    have iU:=gK ((cZ.out.block w.heap.size aJ).trans HC.out)
    clear hb1
    go_wp2
    go_ret
    exact⟨rfl,HB.out.trans (cZ.out.mono HB.out.size)⟩
   ·go_enter Tryz.func142,Tryz.ntmps142
    go_wp2_with fail
    refine (HE.out _ (HB.out.trans (dn.out.mono HB.out.size))).mono ?_
    rintro e v1 ⟨rfl,hb1⟩
    have cZ:=htr dn hb1
    have iU:=gK ((cZ.out.block w.heap.size aJ).trans HC.out)
    clear hb1
    go_wp2
    go_ret
    exact⟨rfl,HB.out.trans (cZ.out.mono HB.out.size)⟩
   ·go_enter Tryz.func142,Tryz.ntmps142
    go_wp2_with fail
    refine (HE.out _ (HB.out.trans (dn.out.mono HB.out.size))).mono ?_
    rintro e v1 ⟨rfl,hb1⟩
    have cZ:=htr dn hb1
    have iU:=gK ((cZ.out.block w.heap.size aJ).trans HC.out)
    clear hb1
    go_wp2
    go_ret
    exact⟨rfl,HB.out.trans (cZ.out.mono HB.out.size)⟩
   ·go_enter Tryz.func142,Tryz.ntmps142
    go_wp2_with fail
    refine (HE.out _ (HB.out.trans (dn.out.mono HB.out.size))).mono ?_
    rintro e v1 ⟨rfl,hb1⟩
    have cZ:=htr dn hb1
    have iU:=gK ((cZ.out.block w.heap.size aJ).trans HC.out)
    clear hb1
    go_wp2
    go_ret
    exact⟨rfl,HB.out.trans (cZ.out.mono HB.out.size)⟩
  ·rw[if_neg h2]
   have g1:(k==1)=false:=by rw[aai];intro e;omega
   have g2:(k==2)=false:=by rw[aai];intro e;omega
   have g3:(k==3)=false:=by rw[aai];intro e;omega
   have g4:(k==4)=false:=by rw[aai];intro e;omega
   have g5:(k==5)=false:=by rw[aai];intro e;omega
   have g6:(k==6)=false:=by rw[aai];intro e;omega
   have g7:(k==7)=false:=by rw[aai];intro e;omega
   clear YP h2 HE
   go_enter Tryz.func142,Tryz.ntmps142
   go_wp2
   go_ret
   exact⟨rfl,HB.out⟩
theorem bY {g:Nat} {tb dN bX:Option Nat} {W w1 w2:World} (h1 : ∀k,dN=some k→tb=some k∨W.heap.size≤k) (hf:eP g tb W w1) (h2 : ∀k,bX=some k→dN=some k∨w1.heap.size≤k) (hf2:eP g dN w1 w2):(∀k,bX=some k→tb=some k∨W.heap.size≤k)∧eP g tb W w2:=by
 refine ⟨fun k hk=>?_,hf.andThen hf2 fun i hi=>?_⟩
 ·rcases h2 k hk with e | e
  ·exact h1 k e
  ·exact .inr (Nat.le_trans hf.size e)
 ·rcases hi with rfl | e
  ·exact .inl (.inl rfl)
  ·rcases h1 i e with e | e
   ·exact .inl (.inr e)
   ·exact .inr e
theorem og {g:Nat} {tb dN bX:Option Nat} {W w1 w2:World} (h1 : ∀k,dN=some k→tb=some k∨W.heap.size≤k) (hf:eP g tb W w1) (h2 : ∀k,bX=some k→dN=some k∨w1.drew.heap.size≤k) (hf2:eP g dN w1.drew w2):(∀k,bX=some k→tb=some k∨W.heap.size≤k)∧eP g tb W w2 :=
 bY h1 hf h2 ((ak.aA (Below.refl _ w1).drew).then hf2)
theorem QX (x:Ex) (hr:aF x=true) (v:Value) (g:Nat) (tb:Option Nat) (L:List Tk) (d m:Int) (w:World) (h:bO w g tb L d m) (hx:gH (fun b=>b<g) w x v) (hL:L.length+(qb x).length≤1000000000) (h0:0≤d) (jy:d≤m) (hm:m≤1000000000) (hd:d+(jw x:Nat)≤1000000000) :
  Calls Tryz.prog 83 #[.pointer (some ⟨g,0,none⟩),v] w fun e w'=>e = .returned (.tuple #[])∧Wrote g tb w w' (L++qb x) d (max m (d+(jw x:Nat))):=by
 obtain⟨hok,hex⟩:=tq hr
 exact Lb (nD x) hok g tb L d m w v h (by rw[hex];exact hx) hL h0 jy hd hm
theorem Uv (xs:List Ex) (ws:List (List UInt8)) (hws : ∀t∈ws,t≠[]) (hwl:ws.length≤10) (v wv:Value) (g:Nat) (tb:Option Nat) (L:List Tk) (d m:Int) (w:World) (h:bO w g tb L d m) (hx:bA (fun b=>b<g) w xs v) (hwv:zM g tb w wv ws) (hr : ∀x∈xs,aF x=true) (h0:0≤d) (jy:d≤m) (hm:m≤1000000000) (hd : ∀x∈xs,d+(jw x:Nat)≤1000000000) (hL:L.length+(bM xs ws).length≤1000000000) :
  Calls Tryz.prog 105 #[.pointer (some ⟨g,0,none⟩),v,wv] w fun e w'=>e = .returned (.tuple #[])∧Wrote g tb w w' (L++bM xs ws) d (max m (d+(dH xs:Nat))):=by
 have HV:=hid (eZ hx)
 have HW:=hid h
 have ZO:=hid hwv
 have HR:=hid hr
 have HD:=hid hd
 have hdl : ∀k,d+(dH (xs.take k):Nat)≤1000000000:=fun k=>by
  have : ∀l:List Ex,(∀x∈l,d+(jw x:Nat)≤1000000000)→d+(dH l:Nat)≤1000000000:=fun l=>by
   induction l with
   | nil=>intro _;show d+((0:Nat):Int)≤_;omega
   |
    cons x l ih =>
    intro hh
    have h1:=hh x (by simp)
    have h2:=ih (fun y hy=>hh y (by simp[hy]))
    show d+((max (jw x) (dH l):Nat):Int)≤_
    omega
  exact this _ (fun x hx=>hd x (List.mem_of_mem_take hx))
 have Ko:=hid hdl
 have hsl : ∀k,(bM (xs.take k) ws).length≤(bM xs ws).length:=fun k=>by
  have e:bM xs ws=bM (xs.take k) ws++bM (xs.drop k) ws:=by unfold bM;rw[← List.flatMap_append,List.take_append_drop]
  rw[e,aaN];omega
 have HSL:=hid hsl
 have hsn : ∀k x,xs[k]?=some x→bM (xs.take (k+1)) ws=bM (xs.take k) ws++(ay ws++qb x)∧dH (xs.take (k+1))=max (dH (xs.take k)) (jw x):=fun k x hx=>by
  obtain⟨h1,h2⟩:=aam.1 hx
  rw[aaJ h1,h2]
  refine ⟨by unfold bM;rw[List.flatMap_append];simp,?_⟩
  have : ∀(l:List Ex),dH (l++[x])=max (dH l) (jw x):=fun l=>by
   induction l with
   | nil=>show max (jw x) 0=max 0 (jw x);omega
   | cons a l ih=>show max (jw a) (dH (l++[x]))=max (max (jw a) (dH l)) (jw x);rw[ih];omega
  exact this _
 have Jc:=hid hsn
 obtain⟨aa,cc,hvf,hcm⟩:=hx.form
 subst hvf
 obtain⟨wa,wc,rfl,hwn,_⟩:=id hwv
 unfold maxLen at hcm
 clear h hdl hsl hsn hd hr hx hwv
 go_enter Tryz.func105,Tryz.ntmps105
 go_wp2_with fail
 go_loopw [7,10] (fun _ i wr=>∃(k:Nat),k≤xs.length∧i = .int .i64 k∧Wrote g tb w wr (L++bM (xs.take k) ws) d (max m (d+(dH (xs.take k):Nat)))) (fun _ i _=>xs.length-(intOf i).toNat)
 case atStart =>
  refine ⟨0,aaV _,rfl,?_⟩
  have e:max m (d+(dH (xs.take 0):Nat))=m:=by show max m (d+((0:Nat):Int))=m;omega
  rw[e]
  simpa [bM] using HW.out.here
 case round =>
  obtain⟨k,hk,rfl,hq⟩:=hrel
  by_cases hlt:k<xs.length
  ·obtain⟨x,hx⟩:∃x,xs[k]?=some x:=⟨_,aaf hlt⟩
   have hlt':((k:Int)<(xs.length:Int)):=by omega
   obtain⟨kK,hw1,ht1,hf1⟩:=hq
   obtain⟨_,_,_,b,off,cs,rfl,_,hel,hcell⟩:=bC (HV.out.to (T:=fun b=>b<g) (by decide) hf1 (eP.keeps HW.out hf1) (fun _ _ e=>e.to hf1 (eP.keeps HW.out hf1))) hx
   obtain⟨hs1,hs2⟩:=Jc.out k x hx
   have hxm:=aaP hx
   have K7:=HR.out x hxm
   have hxd:=HD.out x hxm
   have hll:=HSL.out (k+1)
   have hmm:=Ko.out k
   rw[hs1] at hll
   simp only[aaN] at hll
   have hEV:=hel.v
   obtain⟨k1,op1,dN,fU,fJ,fI,vs1,ys1,eD,dF,eB,_,rfl,_⟩:=hel
   have q0:=hcell 0 _ rfl
   have q1:=hcell 1 _ rfl
   have q2:=hcell 2 _ rfl
   have q3:=hcell 3 _ rfl
   have q4:=hcell 4 _ rfl
   have q5:=hcell 5 _ rfl
   have q6:=hcell 6 _ rfl
   have q7:=hcell 7 _ rfl
   simp only[aa2] at q0
   obtain⟨U,hU,bB,jc,eU⟩:=aK wr (.cells #[.int .i64 k1,.int .i64 op1,.string (aj dN),.string (aj fU),.int .i64 fJ,.int .i64 fI,.string (aj vs1),.slice eD dF eB] 48)
   have kU:=aG eU
   have oK:=hw1.below bB
   have iq:=hid (fP.mk' hw1 eU (aaF _))
   have HEV:=hid (hEV.new bB)
   have HX:=hid (uh g kK _ d _ U oK _ ws (((ZO.out.on ht1 hf1)).on (fun k hk=>.inl hk) (ak.aA bB)) hws (by simp[ay] at hll ⊢;omega))
   have HT1:=hid ht1
   have jG:=hid (hf1.iI bB)
   have Gs:=hid oK
   have iY:=hid hs1
   have HS2:=hid hs2
   generalize vR:bM (xs.take k) ws=PT at *
   generalize AO:dH (xs.take k)=PD at *
   clear hw1 ht1 hf1 bB eU oK hs1 hs2 vR AO hcell hx hEV hxm
   go_wp2_with (first | (refine eX hU ?_;clear hU) | fail)
   refine HX.out.mono ?_
   rintro e w2 ⟨rfl,nH,hw2,ht2,hf2⟩
   have kX:=aG (iq.out.on ht2 hf2).at'
   have lg:=QX x K7 _ g nH _ d _ w2 hw2 (HEV.out.zC Gs.out hf2) (by simp[ay] at hll ⊢;omega) h0 (by omega) (by omega) hxd
   have HC:Hid (Calls Tryz.prog 83 #[.pointer (some ⟨g,0,none⟩),.agg #[.int .i64 k1,.int .i64 op1,.string (aj dN),.string (aj fU),.int .i64 fJ,.int .i64 fI,.string (aj vs1),.slice eD dF eB]] w2 fun e w'=>e = .returned (.tuple #[])∧Wrote g nH w2 w' (L++bM (xs.take (k+1)) ws) d (max m (d+(dH (xs.take (k+1)):Nat)))):=hid (by
    rw[iY.out,HS2.out]
    rw[show max m (d+((max PD (jw x):Nat):Int))=max (max m (d+(PD:Int))) (d+(jw x:Int)) by omega]
    rw[show L++PT++ay ws++qb x=L++(PT++(ay ws++qb x)) by simp] at lg
    exact lg)
   have HT2:=hid ht2
   have jW:=hid hf2
   clear lg ht2 hf2 hw2 HX
   go_wp2_with fail
   refine HC.out.mono ?_
   rintro e w3 ⟨rfl,h3⟩
   have HQ:=hid (Wrote.then HT1.out jG.out (Wrote.then (fun k hk=>HT2.out k hk) jW.out h3))
   clear h3 HC
   go_wp2
   go_roundw
   case rel=>exact⟨k+1,by omega,by go_num,HQ.out⟩
   case measure=>simp[intOf];omega
  ·have hlt' : ¬((k:Int)<(xs.length:Int)):=by omega
   have HQ:Hid (Wrote g tb w wr (L++bM xs ws) d (max m (d+(dH xs:Nat)))):=hid (by rw[aaU (by omega)] at hq;exact hq)
   clear hq
   go_wp2
   exact bodyPost_end (v:=.tuple #[]) (by simp[results,Tryz.results105,go_sem]) rfl ⟨rfl,HQ.out⟩
theorem Ca (word:List UInt8) (hw0:word≠[]) (x:Ex) (hr:aF x=true) (v:Value) (g:Nat) (tb:Option Nat) (L:List Tk) (d m:Int) (w:World) (h:bO w g tb L d m) (hx:gH (fun b=>b<g) w x v) (hL:L.length+((qb x).length+3)≤1000000000) (h0:0≤d) (jy:d≤m) (hm:m≤1000000000) (hd:d+(jw x:Nat)≤1000000000) :
  Calls Tryz.prog 166 #[.pointer (some ⟨g,0,none⟩),.string (aj word),v] w fun e w'=>e = .returned (.tuple #[])∧Wrote g tb w w' (L++(ay [word,[40]]++(qb x++[bg [41]]))) d (max m (d+(jw x:Nat))):=by
 have Q6:=hid hx
 obtain⟨k,op,tn,nm,vk,vn,vs,ys,aa,nn,cc,he,rfl,ha⟩:=hx
 obtain⟨W,hW,hbW,aJ,hcW⟩:=aK w (.cells #[.int .i64 k,.int .i64 op,.string (aj tn),.string (aj nm),.int .i64 vk,.int .i64 vn,.string (aj vs),.slice aa nn cc] 48)
 have rG:=aG hcW
 have HB:=hid hbW
 have HW0:=hid (h.below hbW)
 have iD:=hid (fP.mk' h hcW (aaF _))
 have HT0:Hid (∀k,tb=some k→tb=some k∨W.heap.size≤k):=hid (fun k hk=>.inl hk)
 have o9:Hid (eP g tb W W):=hid (ak.refl _ _)
 have Zc:=hid (Q6.out.new hbW)
 have HE:Hid (∀(V:World) (tb':Option Nat) (L':List Tk) (m':Int),bO V g tb' L' d m'→eP g tb W V→(∀k,tb'=some k→tb=some k∨W.heap.size≤k)→L'.length+(qb x).length≤1000000000→d≤m'→m'≤1000000000→Calls Tryz.prog 83 #[.pointer (some ⟨g,0,none⟩),.agg #[.int .i64 k,.int .i64 op,.string (aj tn),.string (aj nm),.int .i64 vk,.int .i64 vn,.string (aj vs),.slice aa nn cc]] V fun e w'=>e = .returned (.tuple #[])∧Wrote g tb' V w' (L'++qb x) d (max m' (d+(jw x:Nat)))):=hid (fun V tb' L' m' hV hF _ hl h1 h2=>QX x hr _ g tb' L' d m' V hV (Zc.out.zC HW0.out hF) hl h0 h1 h2 hd)
 clear h hbW hcW ha he Q6 hr
 generalize qb x=T at HE hL ⊢
 generalize jw x=D at HE hd ⊢
 go_enter Tryz.func166,Tryz.ntmps166
 have HX0:Hid (Calls Tryz.prog 98 #[.pointer (some ⟨g,0,none⟩),.slice (some ⟨W.heap.size,0,none⟩) 2 2] (W.alloc (.cells #[.string (aj word),.string ⟨#[40]⟩] 9)) fun e w'=>e = .returned (.tuple #[])∧Wrote g tb W w' (L++ay [word,[40]]) d (m)):=hid (aX g tb _ d _ [word,[40]] W HW0.out (by simp) (by simpa using hw0) (by simp[ay]<;>omega))
 go_wp2_with fail
 refine HX0.out.mono ?_
 rintro e w1 ⟨rfl,kK,hw,ht,hf⟩
 have HW1:=hid hw
 obtain⟨ht2,hf2⟩:=bY HT0.out o9.out ht hf
 have HT1:=hid ht2
 have jG:=hid hf2
 have iy:=hid (iD.out.on ht hf)
 have iU:=aG iy.out.at'
 clear hw ht hf ht2 hf2 HX0 rG
 have gP:=hid (HE.out w1 kK (L++ay [word,[40]]) (m) HW1.out jG.out HT1.out (by simp[ay]<;>omega) (by omega) (by omega))
 go_wp2_with fail
 refine gP.out.mono ?_
 rintro e w2 ⟨rfl,nH,hw,ht,hf⟩
 have HW2:=hid hw
 obtain⟨ht2,hf2⟩:=bY HT1.out jG.out ht hf
 have HT2:=hid ht2
 have jW:=hid hf2
 have kH:=hid (iy.out.on ht hf)
 have j4:=aG kH.out.at'
 clear hw ht hf ht2 hf2 gP iU
 have tN:Hid (Calls Tryz.prog 98 #[.pointer (some ⟨g,0,none⟩),.slice (some ⟨w2.heap.size,0,none⟩) 1 1] (w2.alloc (.cells #[.string ⟨#[41]⟩] 9)) fun e w'=>e = .returned (.tuple #[])∧Wrote g nH w2 w' (L++ay [word,[40]]++T++ay [[41]]) d (max (m) (d+((D:Nat):Int)))):=hid (aX g nH _ d _ [[41]] w2 HW2.out (by simp) (by decide) (by simp[ay]<;>omega))
 go_wp2_with fail
 refine tN.out.mono ?_
 rintro e w3 ⟨rfl,Ku,hw,ht,hf⟩
 have HW3:=hid hw
 obtain⟨ht2,hf2⟩:=bY HT2.out jW.out ht hf
 have HT3:=hid ht2
 have za:=hid hf2
 have pI:=hid (kH.out.on ht hf)
 have nX:=aG pI.out.at'
 clear hw ht hf ht2 hf2 tN j4
 have HQ:Hid (Wrote g tb w w3 (L++(ay [word,[40]]++(T++[bg [41]]))) d (max m (d+((D:Nat):Int)))):=hid (by
  have h9:Wrote g tb W w3 (L++ay [word,[40]]++T++ay [[41]]) d (max (m) (d+((D:Nat):Int))):=⟨Ku,HW3.out,HT3.out,za.out⟩
  have h8:=Wrote.new HB.out h9
  rw[show max (m) (d+((D:Nat):Int))=max m (d+((D:Nat):Int)) by omega] at h8
  rw[show L++ay [word,[40]]++T++ay [[41]]=L++(ay [word,[40]]++(T++[bg [41]])) by simp[ay]] at h8
  exact h8)
 go_wp2
 exact bodyPost_end (v:=.tuple #[]) (by simp[results,Tryz.results166,go_sem]) rfl ⟨rfl,HQ.out⟩
def wP (W:World) (g:Nat) (tb:Option Nat) (q:Nat) (o:Obj) (d:Int) (V:World) (t:Option Nat) (L:List Tk) (m:Int):Prop:=bO V g t L d m∧(∀k,t=some k→tb=some k∨W.heap.size≤k)∧eP g tb W V∧fP g t V q o
theorem wP.step {W V V':World} {g q:Nat} {tb t:Option Nat} {o:Obj} {d m m':Int} {L L':List Tk} (h:wP W g tb q o d V t L m) (hw:Wrote g t V V' L' d m'):∃t',wP W g tb q o d V' t' L' m':=by
 obtain⟨t',h1,ht,hf⟩:=hw
 obtain⟨ht2,hf2⟩:=bY h.2.1 h.2.2.1 ht hf
 exact⟨t',h1,ht2,hf2,h.2.2.2.on ht hf⟩
theorem wP.dr {W V:World} {g q:Nat} {tb t:Option Nat} {o:Obj} {d m:Int} {L:List Tk} (h:wP W g tb q o d V t L m):wP W g tb q o d V.drew t L m :=
 ⟨h.1.below (Below.refl _ V).drew,h.2.1,(bY h.2.1 h.2.2.1 (fun k hk=>.inl hk) (ak.aA (Below.refl _ V).drew)).2,h.2.2.2.below (Below.refl _ V).drew⟩
end Go.Proofs.YtfeglkleoijlaaaGreatDoor
