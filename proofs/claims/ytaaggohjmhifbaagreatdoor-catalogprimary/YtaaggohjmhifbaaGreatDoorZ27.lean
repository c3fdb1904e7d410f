/- Packed for the hand-in: WStmB -/
import Derived.Test.YtaaggohjmhifbaaGreatDoorZ26
import Derived.Test.YtaaggohjmhifbaaGreatDoorZ24
import Derived.Deep.RegionHeld3
namespace Go.Proofs.YtaaggohjmhifbaaGreatDoor
open Go.RowKit Go.Shelf
set_option linter.unusedSimpArgs false
set_option linter.unusedVariables false
set_option maxRecDepth 20000
set_option maxHeartbeats 8000000
theorem pI {α:Type}:∀l:List α,bq (l.map fun _=>0)=0
 | []=>rfl
 | x::l=>by show max 0 (bq (l.map fun _=>0))=0;rw[pI l];rfl
theorem iK {α:Type} (f:α→Nat):∀(l:List α) (x:α),x∈l→f x≤bq (l.map f)
 |
  a::l,x,h=>by
  show f x≤max (f a) (bq (l.map f))
  rcases List.mem_cons.1 h with rfl | h
  ·omega
  ·have:=iK f l x h;omega
theorem Kc (i:It) (hb:uQ i=true) (cs:List Value) (g:Nat) (tb:Option Nat) (L:List Tk) (d m:Int) (w:World) (h:cB w g tb L d m) (hx:vX (fun b=>b<g) w i cs) (hL:L.length+(tK i).length≤1000000000) (h0:0≤d) (hdm:d≤m) (hm:m≤1000000000) (hd:d+(zT i:Nat)≤1000000000) :
  Calls Tryz.prog 170 #[.pointer (some ⟨g,0,none⟩),.agg cs.toArray] w fun e w'=>e = .returned (.tuple #[])∧Wrote g tb w w' (L++tK i) d (max m (d+(zT i:Nat))):=by
 obtain⟨aa,nn,cc,rfl,ha⟩:=hx
 obtain⟨k,xs⟩:=i
 unfold uQ at hb
 unfold tK at hL ⊢
 unfold zT at hd ⊢
 dsimp only at ha hb hL hd ⊢
 by_cases hk1:k=1
 ·subst hk1
  have hz:xs.length=0:=by rw[if_pos (by omega)] at hb;simpa using hb
  obtain rfl:xs=[]:=List.eq_nil_of_length_eq_zero hz
  have e0:max m (d+((dH []:Nat):Int))=m:=by show max m (d+((0:Nat):Int))=m;omega
  rw[e0]
  clear e0 hb hz hd
  obtain⟨W,hW,hbW,hzW,hcW⟩:=aQ w (.cells #[.int .i64 1,.slice aa nn cc] 135)
  have kk0:=gL hcW
  have HB:=hid hbW
  have HW0:=hid (h.below hbW)
  have HBX0:=hid (fA.mk' h hcW (Nat.le_refl _))
  have HT0:Hid (∀k,tb=some k→tb=some k∨W.heap.size≤k):=hid (fun k hk=>.inl hk)
  have HF0:Hid (eO g tb W W):=hid (ay.refl _ _)
  clear h hbW hcW ha
  have hL:L.length+1≤1000000000:=by simpa [ah] using hL
  show Calls Tryz.prog 170 _ w fun e w'=>_∧Wrote g tb w w' (L++ah [[42]]) d m
  go_enter Tryz.func170,Tryz.ntmps170
  have HX0:Hid (Calls Tryz.prog 97 #[.pointer (some ⟨g,0,none⟩),.slice (some ⟨W.heap.size,0,none⟩) 1 1] (W.alloc (.cells #[.string ⟨#[42]⟩] 9)) fun e w'=>e = .returned (.tuple #[])∧Wrote g tb W w' (L++ah [[42]]) d (m)):=hid (aG g tb _ d _ [[42]] W HW0.out (by simp) (by decide) (by simp[ah]<;>omega))
  go_wp2_with fail
  refine HX0.out.mono ?_
  rintro e w1 ⟨rfl,tw1,hw,ht,hf⟩
  have HW1:=hid hw
  obtain⟨ht2,hf2⟩:=aD HT0.out HF0.out ht hf
  have HT1:=hid ht2
  have HF1:=hid hf2
  have HBX1:=hid (HBX0.out.on ht hf)
  have kk1:=gL HBX1.out.at'
  clear hw ht hf ht2 hf2 HX0 kk0
  have HQ:Hid (Wrote g tb w w1 (L++(ah [[42]])) d (m)):=hid (by
   have h9:Wrote g tb W w1 (L++ah [[42]]) d (m):=⟨tw1,HW1.out,HT1.out,HF1.out⟩
   have h8:=Wrote.new HB.out h9
   skip
   rw[show L++ah [[42]]=L++(ah [[42]]) by simp[ah]] at h8
   exact h8)
  go_wp2
  exact bodyPost_end (v:=.tuple #[]) (by simp[results,Tryz.results170,go_sem]) rfl ⟨rfl,HQ.out⟩
 by_cases hk3:k=3
 ·subst hk3
  have hz:xs.length=0:=by rw[if_pos (by omega)] at hb;simpa using hb
  obtain rfl:xs=[]:=List.eq_nil_of_length_eq_zero hz
  have e0:max m (d+((dH []:Nat):Int))=m:=by show max m (d+((0:Nat):Int))=m;omega
  rw[e0]
  clear e0 hb hz hd
  obtain⟨W,hW,hbW,hzW,hcW⟩:=aQ w (.cells #[.int .i64 3,.slice aa nn cc] 135)
  have kk0:=gL hcW
  have HB:=hid hbW
  have HW0:=hid (h.below hbW)
  have HBX0:=hid (fA.mk' h hcW (Nat.le_refl _))
  have HT0:Hid (∀k,tb=some k→tb=some k∨W.heap.size≤k):=hid (fun k hk=>.inl hk)
  have HF0:Hid (eO g tb W W):=hid (ay.refl _ _)
  clear h hbW hcW ha
  have hL:L.length+4≤1000000000:=by simpa [ah] using hL
  show Calls Tryz.prog 170 _ w fun e w'=>_∧Wrote g tb w w' (L++ah [[67,79,85,78,84],[40],[42],[41]]) d m
  go_enter Tryz.func170,Tryz.ntmps170
  have HX0:Hid (Calls Tryz.prog 97 #[.pointer (some ⟨g,0,none⟩),.slice (some ⟨W.heap.size,0,none⟩) 4 4] (W.alloc (.cells #[.string ⟨#[67,79,85,78,84]⟩,.string ⟨#[40]⟩,.string ⟨#[42]⟩,.string ⟨#[41]⟩] 9)) fun e w'=>e = .returned (.tuple #[])∧Wrote g tb W w' (L++ah [[67,79,85,78,84],[40],[42],[41]]) d (m)):=hid (aG g tb _ d _ [[67,79,85,78,84],[40],[42],[41]] W HW0.out (by simp) (by decide) (by simp[ah]<;>omega))
  go_wp2_with fail
  refine HX0.out.mono ?_
  rintro e w1 ⟨rfl,tw1,hw,ht,hf⟩
  have HW1:=hid hw
  obtain⟨ht2,hf2⟩:=aD HT0.out HF0.out ht hf
  have HT1:=hid ht2
  have HF1:=hid hf2
  have HBX1:=hid (HBX0.out.on ht hf)
  have kk1:=gL HBX1.out.at'
  clear hw ht hf ht2 hf2 HX0 kk0
  have HQ:Hid (Wrote g tb w w1 (L++(ah [[67,79,85,78,84],[40],[42],[41]])) d (m)):=hid (by
   have h9:Wrote g tb W w1 (L++ah [[67,79,85,78,84],[40],[42],[41]]) d (m):=⟨tw1,HW1.out,HT1.out,HF1.out⟩
   have h8:=Wrote.new HB.out h9
   skip
   rw[show L++ah [[67,79,85,78,84],[40],[42],[41]]=L++(ah [[67,79,85,78,84],[40],[42],[41]]) by simp[ah]] at h8
   exact h8)
  go_wp2
  exact bodyPost_end (v:=.tuple #[]) (by simp[results,Tryz.results170,go_sem]) rfl ⟨rfl,HQ.out⟩
 rw[if_neg (by omega)] at hb
 rw[if_neg hk1] at hL ⊢
 split at hb
 ·rename_i hkk
  obtain⟨x,l,rfl,hl1,hp⟩:=gq hb
  obtain rfl:l=[]:=List.eq_nil_of_length_eq_zero (by omega)
  have hr:=hp x (by simp)
  have hD:dH [x]=iX x:=by show max (iX x) 0=iX x;omega
  rw[hD] at hd ⊢
  rw[show [x].headD Dr=x from rfl] at hL ⊢
  clear hb hp hD hl1
  by_cases hk2:k=2
  ·rw[if_pos hk2] at hL ⊢
   subst hk2
   obtain⟨W,hW,hbW,hzW,hcW⟩:=aQ w (.cells #[.int .i64 2,.slice aa nn cc] 135)
   have kk0:=gL hcW
   have HB:=hid hbW
   have HW0:=hid (h.below hbW)
   have HBX0:=hid (fA.mk' h hcW (Nat.le_refl _))
   have HT0:Hid (∀k,tb=some k→tb=some k∨W.heap.size≤k):=hid (fun k hk=>.inl hk)
   have HF0:Hid (eO g tb W W):=hid (ay.refl _ _)
   obtain⟨g1,g2,g3,b,off,k1,op1,tn1,nm1,vk1,vn1,vs1,ys1,aa1,nn1,cc1,hxe,rfl,_,c1,r1⟩:=gF (ha.new hbW)
   rw[List.length_nil,Nat.zero_add] at g1
   subst g1
   unfold maxLen at g3
   have HX0:=hid (JC x hr _ g tb L d m W HW0.out (jU.mk' hxe r1) hL h0 hdm hm hd)
   unfold Cells8 at c1
   clear h hbW hcW ha r1 hxe hr
   generalize jV x=T at HX0 hL ⊢
   generalize iX x=D at HX0 hd ⊢
   go_enter Tryz.func170,Tryz.ntmps170
   go_wp2_with fail
   refine HX0.out.mono ?_
   rintro e w1 ⟨rfl,h1⟩
   have HQ:=hid (Wrote.new HB.out h1)
   clear h1 HX0
   go_wp2
   exact bodyPost_end (v:=.tuple #[]) (by simp[results,Tryz.results170,go_sem]) rfl ⟨rfl,HQ.out⟩
  ·rw[if_neg hk2,if_neg hk3] at hL ⊢
   have hL3:L.length+((jV x).length+3)≤1000000000:=by simp[ah] at hL;omega
   have hk4:k=4∨k=5∨k=6∨k=7:=by omega
   clear hkk hk1 hk2 hk3 hL
   rcases hk4 with rfl | rfl | rfl | rfl
   ·obtain⟨W,hW,hbW,hzW,hcW⟩:=aQ w (.cells #[.int .i64 4,.slice aa nn cc] 135)
    have kk0:=gL hcW
    have HB:=hid hbW
    have HW0:=hid (h.below hbW)
    have HBX0:=hid (fA.mk' h hcW (Nat.le_refl _))
    have HT0:Hid (∀k,tb=some k→tb=some k∨W.heap.size≤k):=hid (fun k hk=>.inl hk)
    have HF0:Hid (eO g tb W W):=hid (ay.refl _ _)
    obtain⟨g1,g2,g3,b,off,k1,op1,tn1,nm1,vk1,vn1,vs1,ys1,aa1,nn1,cc1,hxe,rfl,_,c1,r1⟩:=gF (ha.new hbW)
    rw[List.length_nil,Nat.zero_add] at g1
    subst g1
    unfold maxLen at g3
    have HX0:Hid (Calls Tryz.prog 217 #[.pointer (some ⟨g,0,none⟩),.string ⟨#[67,79,85,78,84]⟩,.agg #[.int .i64 k1,.int .i64 op1,.string (aj tn1),.string (aj nm1),.int .i64 vk1,.int .i64 vn1,.string (aj vs1),.slice aa1 nn1 cc1]] W fun e w'=>e = .returned (.tuple #[])∧Wrote g tb W w' (L++(ah [Cx 4,[40]]++(jV x++[aH [41]]))) d (max m (d+(iX x:Nat)))):=hid (xY [67,79,85,78,84] (by decide) x hr _ g tb L d m W HW0.out (jU.mk' hxe r1) hL3 h0 hdm hm hd)
    unfold Cells8 at c1
    clear h hbW hcW ha r1 hxe hr
    generalize ah [Cx 4,[40]]++(jV x++[aH [41]])=T at HX0 ⊢
    generalize iX x=D at HX0 hd ⊢
    go_enter Tryz.func170,Tryz.ntmps170
    go_wp2_with fail
    refine HX0.out.mono ?_
    rintro e w1 ⟨rfl,h1⟩
    have HQ:=hid (Wrote.new HB.out h1)
    clear h1 HX0
    go_wp2
    exact bodyPost_end (v:=.tuple #[]) (by simp[results,Tryz.results170,go_sem]) rfl ⟨rfl,HQ.out⟩
   ·obtain⟨W,hW,hbW,hzW,hcW⟩:=aQ w (.cells #[.int .i64 5,.slice aa nn cc] 135)
    have kk0:=gL hcW
    have HB:=hid hbW
    have HW0:=hid (h.below hbW)
    have HBX0:=hid (fA.mk' h hcW (Nat.le_refl _))
    have HT0:Hid (∀k,tb=some k→tb=some k∨W.heap.size≤k):=hid (fun k hk=>.inl hk)
    have HF0:Hid (eO g tb W W):=hid (ay.refl _ _)
    obtain⟨g1,g2,g3,b,off,k1,op1,tn1,nm1,vk1,vn1,vs1,ys1,aa1,nn1,cc1,hxe,rfl,_,c1,r1⟩:=gF (ha.new hbW)
    rw[List.length_nil,Nat.zero_add] at g1
    subst g1
    unfold maxLen at g3
    have HX0:Hid (Calls Tryz.prog 217 #[.pointer (some ⟨g,0,none⟩),.string ⟨#[83,85,77]⟩,.agg #[.int .i64 k1,.int .i64 op1,.string (aj tn1),.string (aj nm1),.int .i64 vk1,.int .i64 vn1,.string (aj vs1),.slice aa1 nn1 cc1]] W fun e w'=>e = .returned (.tuple #[])∧Wrote g tb W w' (L++(ah [Cx 5,[40]]++(jV x++[aH [41]]))) d (max m (d+(iX x:Nat)))):=hid (xY [83,85,77] (by decide) x hr _ g tb L d m W HW0.out (jU.mk' hxe r1) hL3 h0 hdm hm hd)
    unfold Cells8 at c1
    clear h hbW hcW ha r1 hxe hr
    generalize ah [Cx 5,[40]]++(jV x++[aH [41]])=T at HX0 ⊢
    generalize iX x=D at HX0 hd ⊢
    go_enter Tryz.func170,Tryz.ntmps170
    go_wp2_with fail
    refine HX0.out.mono ?_
    rintro e w1 ⟨rfl,h1⟩
    have HQ:=hid (Wrote.new HB.out h1)
    clear h1 HX0
    go_wp2
    exact bodyPost_end (v:=.tuple #[]) (by simp[results,Tryz.results170,go_sem]) rfl ⟨rfl,HQ.out⟩
   ·obtain⟨W,hW,hbW,hzW,hcW⟩:=aQ w (.cells #[.int .i64 6,.slice aa nn cc] 135)
    have kk0:=gL hcW
    have HB:=hid hbW
    have HW0:=hid (h.below hbW)
    have HBX0:=hid (fA.mk' h hcW (Nat.le_refl _))
    have HT0:Hid (∀k,tb=some k→tb=some k∨W.heap.size≤k):=hid (fun k hk=>.inl hk)
    have HF0:Hid (eO g tb W W):=hid (ay.refl _ _)
    obtain⟨g1,g2,g3,b,off,k1,op1,tn1,nm1,vk1,vn1,vs1,ys1,aa1,nn1,cc1,hxe,rfl,_,c1,r1⟩:=gF (ha.new hbW)
    rw[List.length_nil,Nat.zero_add] at g1
    subst g1
    unfold maxLen at g3
    have HX0:Hid (Calls Tryz.prog 217 #[.pointer (some ⟨g,0,none⟩),.string ⟨#[77,73,78]⟩,.agg #[.int .i64 k1,.int .i64 op1,.string (aj tn1),.string (aj nm1),.int .i64 vk1,.int .i64 vn1,.string (aj vs1),.slice aa1 nn1 cc1]] W fun e w'=>e = .returned (.tuple #[])∧Wrote g tb W w' (L++(ah [Cx 6,[40]]++(jV x++[aH [41]]))) d (max m (d+(iX x:Nat)))):=hid (xY [77,73,78] (by decide) x hr _ g tb L d m W HW0.out (jU.mk' hxe r1) hL3 h0 hdm hm hd)
    unfold Cells8 at c1
    clear h hbW hcW ha r1 hxe hr
    generalize ah [Cx 6,[40]]++(jV x++[aH [41]])=T at HX0 ⊢
    generalize iX x=D at HX0 hd ⊢
    go_enter Tryz.func170,Tryz.ntmps170
    go_wp2_with fail
    refine HX0.out.mono ?_
    rintro e w1 ⟨rfl,h1⟩
    have HQ:=hid (Wrote.new HB.out h1)
    clear h1 HX0
    go_wp2
    exact bodyPost_end (v:=.tuple #[]) (by simp[results,Tryz.results170,go_sem]) rfl ⟨rfl,HQ.out⟩
   ·obtain⟨W,hW,hbW,hzW,hcW⟩:=aQ w (.cells #[.int .i64 7,.slice aa nn cc] 135)
    have kk0:=gL hcW
    have HB:=hid hbW
    have HW0:=hid (h.below hbW)
    have HBX0:=hid (fA.mk' h hcW (Nat.le_refl _))
    have HT0:Hid (∀k,tb=some k→tb=some k∨W.heap.size≤k):=hid (fun k hk=>.inl hk)
    have HF0:Hid (eO g tb W W):=hid (ay.refl _ _)
    obtain⟨g1,g2,g3,b,off,k1,op1,tn1,nm1,vk1,vn1,vs1,ys1,aa1,nn1,cc1,hxe,rfl,_,c1,r1⟩:=gF (ha.new hbW)
    rw[List.length_nil,Nat.zero_add] at g1
    subst g1
    unfold maxLen at g3
    have HX0:Hid (Calls Tryz.prog 217 #[.pointer (some ⟨g,0,none⟩),.string ⟨#[77,65,88]⟩,.agg #[.int .i64 k1,.int .i64 op1,.string (aj tn1),.string (aj nm1),.int .i64 vk1,.int .i64 vn1,.string (aj vs1),.slice aa1 nn1 cc1]] W fun e w'=>e = .returned (.tuple #[])∧Wrote g tb W w' (L++(ah [Cx 7,[40]]++(jV x++[aH [41]]))) d (max m (d+(iX x:Nat)))):=hid (xY [77,65,88] (by decide) x hr _ g tb L d m W HW0.out (jU.mk' hxe r1) hL3 h0 hdm hm hd)
    unfold Cells8 at c1
    clear h hbW hcW ha r1 hxe hr
    generalize ah [Cx 7,[40]]++(jV x++[aH [41]])=T at HX0 ⊢
    generalize iX x=D at HX0 hd ⊢
    go_enter Tryz.func170,Tryz.ntmps170
    go_wp2_with fail
    refine HX0.out.mono ?_
    rintro e w1 ⟨rfl,h1⟩
    have HQ:=hid (Wrote.new HB.out h1)
    clear h1 HX0
    go_wp2
    exact bodyPost_end (v:=.tuple #[]) (by simp[results,Tryz.results170,go_sem]) rfl ⟨rfl,HQ.out⟩
 ·cases hb
theorem Lp (x:Se) (hb:pW x=true) (cs:List Value) (g:Nat) (tb:Option Nat) (L:List Tk) (d m:Int) (w:World) (h:cB w g tb L d m) (hx:wY (fun b=>b<g) w x cs) (hL:L.length+(lU x).length≤1000000000) (h0:0≤d) (hdm:d≤m) (hm:m≤1000000000) (hd:d+(iX x.e:Nat)≤1000000000) :
  Calls Tryz.prog 103 #[.pointer (some ⟨g,0,none⟩),.agg cs.toArray] w fun e w'=>e = .returned (.tuple #[])∧Wrote g tb w w' (L++lU x) d (max m (d+(iX x.e:Nat))):=by
 obtain⟨k,op,tn,nm,vk,vn,vs,ys,aa,nn,cc,he,rfl,ha⟩:=hx
 obtain⟨sn,x⟩:=x
 unfold pW at hb
 simp only[Bool.and_eq_true] at hb
 have hr:=hb.2
 show Calls Tryz.prog 103 _ w fun e w'=>_∧Wrote g tb w w' (L++(aR sn::aH [61]::jV x)) d (max m (d+(iX x:Nat)))
 have hL:L.length+((jV x).length+2)≤1000000000:=by simp[lU] at hL;omega
 dsimp only at hd he hr
 obtain⟨W,hW,hbW,hzW,hcW⟩:=aQ w (.cells #[.string (aj sn),.int .i64 k,.int .i64 op,.string (aj tn),.string (aj nm),.int .i64 vk,.int .i64 vn,.string (aj vs),.slice aa nn cc] 132)
 have kk0:=jD hcW
 have HB:=hid hbW
 have HW0:=hid (h.below hbW)
 have HBX0:=hid (fA.mk' h hcW (Nat.le_refl _))
 have HT0:Hid (∀k,tb=some k→tb=some k∨W.heap.size≤k):=hid (fun k hk=>.inl hk)
 have HF0:Hid (eO g tb W W):=hid (ay.refl _ _)
 have HXW:=hid (jU.mk' he (ha.new hbW))
 have HE:Hid (∀(V:World) (tb':Option Nat) (L':List Tk) (m':Int),cB V g tb' L' d m'→eO g tb W V→(∀k,tb'=some k→tb=some k∨W.heap.size≤k)→L'.length+(jV x).length≤1000000000→d≤m'→m'≤1000000000→Calls Tryz.prog 168 #[.pointer (some ⟨g,0,none⟩),.agg #[.int .i64 k,.int .i64 op,.string (aj tn),.string (aj nm),.int .i64 vk,.int .i64 vn,.string (aj vs),.slice aa nn cc]] V fun e w'=>e = .returned (.tuple #[])∧Wrote g tb' V w' (L'++jV x) d (max m' (d+((iX x:Nat):Int)))):=hid (fun V tb' L' m' hV hF hT hl h1 h2=>JC x hr _ g tb' L' d m' V hV (HXW.out.wz HW0.out hF) hl h0 h1 h2 hd)
 clear h hbW hcW ha he hr hb
 generalize jV x=T at HE hL ⊢
 generalize iX x=D at HE hd ⊢
 go_enter Tryz.func103,Tryz.ntmps103
 have HX0:=hid (dS g tb (L) d (m) W.drew (HW0.out.below (Below.refl _ W).drew) sn (by simp[ah]<;>omega))
 have HS0:Hid (W.drew.cell? ⟨w.heap.size,0,none⟩=some (.string (aj sn))):=hid ((jD (HBX0.out.below (Below.refl _ W).drew).at').1)
 go_wp2_with fail
 go_region_held3 (fun w'=>w'.cell? ⟨w.heap.size,0,none⟩=some (.string (aj sn))) (first | exact HS0.out | exact HS1.out)
  (first
   | (
    go_at_call 99;refine HX0.out.mono ?_
    rintro e w1 ⟨rfl,tw1,hw,ht,hf⟩
    have HW1:=hid hw
    obtain⟨ht2,hf2⟩:=dw HT0.out HF0.out ht hf
    have HT1:=hid ht2
    have HF1:=hid hf2
    have HBX1:=hid ((HBX0.out.below (Below.refl _ W).drew).on ht hf)
    have kk1:=jD HBX1.out.at'
    clear hw ht hf ht2 hf2 HX0 kk0
    have HS1:=hid (kk1.1))
   | fail)
 clear HS0 HS1
 have HX1:Hid (Calls Tryz.prog 97 #[.pointer (some ⟨g,0,none⟩),.slice (some ⟨w1.heap.size,0,none⟩) 1 1] (w1.alloc (.cells #[.string ⟨#[61]⟩] 9)) fun e w'=>e = .returned (.tuple #[])∧Wrote g tw1 w1 w' (L++[aR sn]++ah [[61]]) d (m)):=hid (aG g tw1 _ d _ [[61]] w1 HW1.out (by simp) (by decide) (by simp[ah]<;>omega))
 go_wp2_with fail
 refine HX1.out.mono ?_
 rintro e w2 ⟨rfl,tw2,hw,ht,hf⟩
 have HW2:=hid hw
 obtain⟨ht2,hf2⟩:=aD HT1.out HF1.out ht hf
 have HT2:=hid ht2
 have HF2:=hid hf2
 have HBX2:=hid (HBX1.out.on ht hf)
 have kk2:=jD HBX2.out.at'
 clear hw ht hf ht2 hf2 HX1 kk1
 have HX2:=hid (HE.out w2 tw2 (L++[aR sn]++ah [[61]]) (m) HW2.out HF2.out HT2.out (by simp[ah]<;>omega) (by omega) (by omega))
 go_wp2_with fail
 refine HX2.out.mono ?_
 rintro e w3 ⟨rfl,tw3,hw,ht,hf⟩
 have HW3:=hid hw
 obtain⟨ht2,hf2⟩:=aD HT2.out HF2.out ht hf
 have HT3:=hid ht2
 have HF3:=hid hf2
 have HBX3:=hid (HBX2.out.on ht hf)
 have kk3:=jD HBX3.out.at'
 clear hw ht hf ht2 hf2 HX2 kk2
 have HQ:Hid (Wrote g tb w w3 (L++(aR sn::aH [61]::T)) d (max m (d+((D:Nat):Int)))):=hid (by
  have h9:Wrote g tb W w3 (L++[aR sn]++ah [[61]]++T) d (max (m) (d+((D:Nat):Int))):=⟨tw3,HW3.out,HT3.out,HF3.out⟩
  have h8:=Wrote.new HB.out h9
  rw[show max (m) (d+((D:Nat):Int))=max m (d+((D:Nat):Int)) by omega] at h8
  rw[show L++[aR sn]++ah [[61]]++T=L++(aR sn::aH [61]::T) by simp[ah]] at h8
  exact h8)
 go_wp2
 exact bodyPost_end (v:=.tuple #[]) (by simp[results,Tryz.results103,go_sem]) rfl ⟨rfl,HQ.out⟩
theorem Gz (r:List Vl) (hb:ru r=true) (aa:Option Addr) (nn cc:Nat) (g:Nat) (tb:Option Nat) (L:List Tk) (d m:Int) (w:World) (h:cB w g tb L d m) (hx:bT 3 wC (fun b=>b<g) w r (.slice aa nn cc)) (hL:L.length+(jZ r).length≤1000000000) (h0:0≤d) (hdm:d≤m) (hm:m≤1000000000) :
  Calls Tryz.prog 101 #[.pointer (some ⟨g,0,none⟩),.slice aa nn cc] w fun e w'=>e = .returned (.tuple #[])∧Wrote g tb w w' (L++jZ r) d m:=by
 obtain⟨W,hWe⟩:∃W,W=w:=⟨_,rfl⟩
 subst hWe
 have HW0:=hid h
 have HB:=hid (Below.refl W.heap.size W)
 have HT0:Hid (∀k,tb=some k→tb=some k∨W.heap.size≤k):=hid (fun k hk=>.inl hk)
 have HF0:Hid (eO g tb W W):=hid (ay.refl _ _)
 have hm2:=aX hb
 have hL2:L.length+((aN (aH [44]) (r.map iy)).length+2)≤1000000000:=by simp[jZ] at hL;omega
 have HL:Hid (∀(V:World) (tb':Option Nat) (L':List Tk) (m':Int),cB V g tb' L' d m'→eO g tb W V→(∀k,tb'=some k→tb=some k∨W.heap.size≤k)→L'.length+(aN (aH [44]) (r.map iy)).length≤1000000000→d≤m'→m'≤1000000000→Calls Tryz.prog 166 #[.pointer (some ⟨g,0,none⟩),.string ⟨#[44]⟩,.slice aa nn cc,.func (.func 167) #[.pointer (some ⟨g,0,none⟩)] #[]] V fun e w'=>e = .returned (.tuple #[])∧Wrote g tb' V w' (L'++aN (aH [44]) (r.map iy)) d (max m' (d+((bq (r.map fun _=>0):Nat):Int)))):=hid (fun V tb' L' m' hV hF hT hl h1 h2=>FV 167 (enters_of Tryz.func167 (by kernel_rfl) rfl) iy (fun _=>0) [44] (by decide) r _ g tb' L' d m' V hV (hx.to (by decide) hF (eO.keeps HW0.out hF) (fun _ _ e=>e)) h1 h2 (fun _ _=>by show d+((0:Nat):Int)≤_;omega) hl (hid (fun x hxm U tb2 L2 m2 hU cs hcs hl2 h3 h4=>by obtain rfl:=hcs;rw[show max m2 (d+((0:Nat):Int))=m2 by omega];exact xA g tb2 L2 d m2 U hU x (hm2 x hxm) hl2)))
 show Calls Tryz.prog 101 _ W fun e w'=>_∧Wrote g tb W w' (L++(aH [40]::(aN (aH [44]) (r.map iy)++[aH [41]]))) d m
 have hD0:=pI r
 generalize bq (r.map fun _=>0)=D at HL hD0
 clear h hx hm2 hb hL
 generalize aN (aH [44]) (r.map iy)=T at HL hL2 ⊢
 go_enter Tryz.func101,Tryz.ntmps101
 have HX0:Hid (Calls Tryz.prog 97 #[.pointer (some ⟨g,0,none⟩),.slice (some ⟨W.heap.size,0,none⟩) 1 1] (W.alloc (.cells #[.string ⟨#[40]⟩] 9)) fun e w'=>e = .returned (.tuple #[])∧Wrote g tb W w' (L++ah [[40]]) d (m)):=hid (aG g tb _ d _ [[40]] W HW0.out (by simp) (by decide) (by simp[ah]<;>omega))
 go_wp2_with fail
 refine HX0.out.mono ?_
 rintro e w1 ⟨rfl,tw1,hw,ht,hf⟩
 have HW1:=hid hw
 obtain⟨ht2,hf2⟩:=aD HT0.out HF0.out ht hf
 have HT1:=hid ht2
 have HF1:=hid hf2
 clear hw ht hf ht2 hf2 HX0
 have HX1:=hid (HL.out w1 tw1 (L++ah [[40]]) (m) HW1.out HF1.out HT1.out (by simp[ah]<;>omega) (by omega) (by omega))
 go_wp2_with fail
 refine HX1.out.mono ?_
 rintro e w2 ⟨rfl,tw2,hw,ht,hf⟩
 have HW2:=hid hw
 obtain⟨ht2,hf2⟩:=aD HT1.out HF1.out ht hf
 have HT2:=hid ht2
 have HF2:=hid hf2
 clear hw ht hf ht2 hf2 HX1
 have HX2:Hid (Calls Tryz.prog 97 #[.pointer (some ⟨g,0,none⟩),.slice (some ⟨w2.heap.size,0,none⟩) 1 1] (w2.alloc (.cells #[.string ⟨#[41]⟩] 9)) fun e w'=>e = .returned (.tuple #[])∧Wrote g tw2 w2 w' (L++ah [[40]]++T++ah [[41]]) d (max (m) (d+((D:Nat):Int)))):=hid (aG g tw2 _ d _ [[41]] w2 HW2.out (by simp) (by decide) (by simp[ah]<;>omega))
 go_wp2_with fail
 refine HX2.out.mono ?_
 rintro e w3 ⟨rfl,tw3,hw,ht,hf⟩
 have HW3:=hid hw
 obtain⟨ht2,hf2⟩:=aD HT2.out HF2.out ht hf
 have HT3:=hid ht2
 have HF3:=hid hf2
 clear hw ht hf ht2 hf2 HX2
 have HQ:Hid (Wrote g tb W w3 (L++(aH [40]::(T++[aH [41]]))) d (m)):=hid (by
  have h9:Wrote g tb W w3 (L++ah [[40]]++T++ah [[41]]) d (max (m) (d+((D:Nat):Int))):=⟨tw3,HW3.out,HT3.out,HF3.out⟩
  have h8:=Wrote.new HB.out h9
  rw[show max (m) (d+((D:Nat):Int))=m by omega] at h8
  rw[show L++ah [[40]]++T++ah [[41]]=L++(aH [40]::(T++[aH [41]])) by simp[ah]] at h8
  exact h8)
 go_wp2
 exact bodyPost_end (v:=.tuple #[]) (by simp[results,Tryz.results101,go_sem]) rfl ⟨rfl,HQ.out⟩
theorem wE (c:Co) (hb:jT c=true) (g:Nat) (tb:Option Nat) (L:List Tk) (d m:Int) (w:World) (h:cB w g tb L d m) (hL:L.length+(jQ c).length≤1000000000) (h0:0≤d) (hdm:d≤m) (hm:m≤1000000000) :
  Calls Tryz.prog 165 #[.pointer (some ⟨g,0,none⟩),.agg #[.string (aj c.nm),.int .i64 c.k,.bool c.nn,.bool c.uq]] w fun e w'=>e = .returned (.tuple #[])∧Wrote g tb w w' (L++jQ c) d m:=by
 obtain⟨cn,k,nn,uq⟩:=c
 unfold jT at hb
 simp only[Bool.and_eq_true,decide_eq_true_eq] at hb
 have hk:=hb.2
 clear hb
 dsimp only at hk ⊢
 rcases hk with rfl | rfl
 ·cases nn with
  |
   true =>
   cases uq with
   |
    true =>
    show Calls Tryz.prog 165 _ w fun e w'=>_∧Wrote g tb w w' (L++[aR cn,aH [73,78,84],aH [78,79,84],aH [78,85,76,76],aH [85,78,73,81,85,69]]) d m
    have hL:L.length+5≤1000000000:=hL
    obtain⟨W,hW,hbW,hzW,hcW⟩:=aQ w (.cells #[.string (aj cn),.int .i64 1,.bool true,.bool true] 37)
    have kk0:=bK hcW
    have HB:=hid hbW
    have HW0:=hid (h.below hbW)
    have HBX0:=hid (fA.mk' h hcW (Nat.le_refl _))
    have HT0:Hid (∀k,tb=some k→tb=some k∨W.heap.size≤k):=hid (fun k hk=>.inl hk)
    have HF0:Hid (eO g tb W W):=hid (ay.refl _ _)
    clear h hbW hcW
    go_enter Tryz.func165,Tryz.ntmps165
    have HX0:=hid (dS g tb (L) d (m) W.drew (HW0.out.below (Below.refl _ W).drew) cn (by simp[ah]<;>omega))
    have HS0:Hid (W.drew.cell? ⟨w.heap.size,0,none⟩=some (.string (aj cn))):=hid ((bK (HBX0.out.below (Below.refl _ W).drew).at').1)
    go_wp2_with fail
    go_region_held3 (fun w'=>w'.cell? ⟨w.heap.size,0,none⟩=some (.string (aj cn))) (first | exact HS0.out | exact HS1.out)
     (first
      | (
       go_at_call 99;refine HX0.out.mono ?_
       rintro e w1 ⟨rfl,tw1,hw,ht,hf⟩
       have HW1:=hid hw
       obtain⟨ht2,hf2⟩:=dw HT0.out HF0.out ht hf
       have HT1:=hid ht2
       have HF1:=hid hf2
       have HBX1:=hid ((HBX0.out.below (Below.refl _ W).drew).on ht hf)
       have kk1:=bK HBX1.out.at'
       clear hw ht hf ht2 hf2 HX0 kk0
       have HS1:=hid (kk1.1))
      | fail)
    clear HS0 HS1
    have HX1:Hid (Calls Tryz.prog 97 #[.pointer (some ⟨g,0,none⟩),.slice (some ⟨w1.heap.size,0,none⟩) 1 1] (w1.alloc (.cells #[.string ⟨#[73,78,84]⟩] 9)) fun e w'=>e = .returned (.tuple #[])∧Wrote g tw1 w1 w' (L++[aR cn]++ah [[73,78,84]]) d (m)):=hid (aG g tw1 _ d _ [[73,78,84]] w1 HW1.out (by simp) (by decide) (by simp[ah]<;>omega))
    go_wp2_with fail
    refine HX1.out.mono ?_
    rintro e w2 ⟨rfl,tw2,hw,ht,hf⟩
    have HW2:=hid hw
    obtain⟨ht2,hf2⟩:=aD HT1.out HF1.out ht hf
    have HT2:=hid ht2
    have HF2:=hid hf2
    have HBX2:=hid (HBX1.out.on ht hf)
    have kk2:=bK HBX2.out.at'
    clear hw ht hf ht2 hf2 HX1 kk1
    have HX2:Hid (Calls Tryz.prog 97 #[.pointer (some ⟨g,0,none⟩),.slice (some ⟨w2.heap.size,0,none⟩) 2 2] (w2.alloc (.cells #[.string ⟨#[78,79,84]⟩,.string ⟨#[78,85,76,76]⟩] 9)) fun e w'=>e = .returned (.tuple #[])∧Wrote g tw2 w2 w' (L++[aR cn]++ah [[73,78,84]]++ah [[78,79,84],[78,85,76,76]]) d (m)):=hid (aG g tw2 _ d _ [[78,79,84],[78,85,76,76]] w2 HW2.out (by simp) (by decide) (by simp[ah]<;>omega))
    go_wp2_with fail
    refine HX2.out.mono ?_
    rintro e w3 ⟨rfl,tw3,hw,ht,hf⟩
    have HW3:=hid hw
    obtain⟨ht2,hf2⟩:=aD HT2.out HF2.out ht hf
    have HT3:=hid ht2
    have HF3:=hid hf2
    have HBX3:=hid (HBX2.out.on ht hf)
    have kk3:=bK HBX3.out.at'
    clear hw ht hf ht2 hf2 HX2 kk2
    have HX3:Hid (Calls Tryz.prog 97 #[.pointer (some ⟨g,0,none⟩),.slice (some ⟨w3.heap.size,0,none⟩) 1 1] (w3.alloc (.cells #[.string ⟨#[85,78,73,81,85,69]⟩] 9)) fun e w'=>e = .returned (.tuple #[])∧Wrote g tw3 w3 w' (L++[aR cn]++ah [[73,78,84]]++ah [[78,79,84],[78,85,76,76]]++ah [[85,78,73,81,85,69]]) d (m)):=hid (aG g tw3 _ d _ [[85,78,73,81,85,69]] w3 HW3.out (by simp) (by decide) (by simp[ah]<;>omega))
    go_wp2_with fail
    refine HX3.out.mono ?_
    rintro e w4 ⟨rfl,tw4,hw,ht,hf⟩
    have HW4:=hid hw
    obtain⟨ht2,hf2⟩:=aD HT3.out HF3.out ht hf
    have HT4:=hid ht2
    have HF4:=hid hf2
    have HBX4:=hid (HBX3.out.on ht hf)
    have kk4:=bK HBX4.out.at'
    clear hw ht hf ht2 hf2 HX3 kk3
    have HQ:Hid (Wrote g tb w w4 (L++([aR cn,aH [73,78,84],aH [78,79,84],aH [78,85,76,76],aH [85,78,73,81,85,69]])) d (m)):=hid (by
     have h9:Wrote g tb W w4 (L++[aR cn]++ah [[73,78,84]]++ah [[78,79,84],[78,85,76,76]]++ah [[85,78,73,81,85,69]]) d (m):=⟨tw4,HW4.out,HT4.out,HF4.out⟩
     have h8:=Wrote.new HB.out h9
     skip
     rw[show L++[aR cn]++ah [[73,78,84]]++ah [[78,79,84],[78,85,76,76]]++ah [[85,78,73,81,85,69]]=L++([aR cn,aH [73,78,84],aH [78,79,84],aH [78,85,76,76],aH [85,78,73,81,85,69]]) by simp[ah]] at h8
     exact h8)
    go_wp2
    exact bodyPost_end (v:=.tuple #[]) (by simp[results,Tryz.results165,go_sem]) rfl ⟨rfl,HQ.out⟩
   |
    false =>
    show Calls Tryz.prog 165 _ w fun e w'=>_∧Wrote g tb w w' (L++[aR cn,aH [73,78,84],aH [78,79,84],aH [78,85,76,76]]) d m
    have hL:L.length+4≤1000000000:=hL
    obtain⟨W,hW,hbW,hzW,hcW⟩:=aQ w (.cells #[.string (aj cn),.int .i64 1,.bool true,.bool false] 37)
    have kk0:=bK hcW
    have HB:=hid hbW
    have HW0:=hid (h.below hbW)
    have HBX0:=hid (fA.mk' h hcW (Nat.le_refl _))
    have HT0:Hid (∀k,tb=some k→tb=some k∨W.heap.size≤k):=hid (fun k hk=>.inl hk)
    have HF0:Hid (eO g tb W W):=hid (ay.refl _ _)
    clear h hbW hcW
    go_enter Tryz.func165,Tryz.ntmps165
    have HX0:=hid (dS g tb (L) d (m) W.drew (HW0.out.below (Below.refl _ W).drew) cn (by simp[ah]<;>omega))
    have HS0:Hid (W.drew.cell? ⟨w.heap.size,0,none⟩=some (.string (aj cn))):=hid ((bK (HBX0.out.below (Below.refl _ W).drew).at').1)
    go_wp2_with fail
    go_region_held3 (fun w'=>w'.cell? ⟨w.heap.size,0,none⟩=some (.string (aj cn))) (first | exact HS0.out | exact HS1.out)
     (first
      | (
       go_at_call 99;refine HX0.out.mono ?_
       rintro e w1 ⟨rfl,tw1,hw,ht,hf⟩
       have HW1:=hid hw
       obtain⟨ht2,hf2⟩:=dw HT0.out HF0.out ht hf
       have HT1:=hid ht2
       have HF1:=hid hf2
       have HBX1:=hid ((HBX0.out.below (Below.refl _ W).drew).on ht hf)
       have kk1:=bK HBX1.out.at'
       clear hw ht hf ht2 hf2 HX0 kk0
       have HS1:=hid (kk1.1))
      | fail)
    clear HS0 HS1
    have HX1:Hid (Calls Tryz.prog 97 #[.pointer (some ⟨g,0,none⟩),.slice (some ⟨w1.heap.size,0,none⟩) 1 1] (w1.alloc (.cells #[.string ⟨#[73,78,84]⟩] 9)) fun e w'=>e = .returned (.tuple #[])∧Wrote g tw1 w1 w' (L++[aR cn]++ah [[73,78,84]]) d (m)):=hid (aG g tw1 _ d _ [[73,78,84]] w1 HW1.out (by simp) (by decide) (by simp[ah]<;>omega))
    go_wp2_with fail
    refine HX1.out.mono ?_
    rintro e w2 ⟨rfl,tw2,hw,ht,hf⟩
    have HW2:=hid hw
    obtain⟨ht2,hf2⟩:=aD HT1.out HF1.out ht hf
    have HT2:=hid ht2
    have HF2:=hid hf2
    have HBX2:=hid (HBX1.out.on ht hf)
    have kk2:=bK HBX2.out.at'
    clear hw ht hf ht2 hf2 HX1 kk1
    have HX2:Hid (Calls Tryz.prog 97 #[.pointer (some ⟨g,0,none⟩),.slice (some ⟨w2.heap.size,0,none⟩) 2 2] (w2.alloc (.cells #[.string ⟨#[78,79,84]⟩,.string ⟨#[78,85,76,76]⟩] 9)) fun e w'=>e = .returned (.tuple #[])∧Wrote g tw2 w2 w' (L++[aR cn]++ah [[73,78,84]]++ah [[78,79,84],[78,85,76,76]]) d (m)):=hid (aG g tw2 _ d _ [[78,79,84],[78,85,76,76]] w2 HW2.out (by simp) (by decide) (by simp[ah]<;>omega))
    go_wp2_with fail
    refine HX2.out.mono ?_
    rintro e w3 ⟨rfl,tw3,hw,ht,hf⟩
    have HW3:=hid hw
    obtain⟨ht2,hf2⟩:=aD HT2.out HF2.out ht hf
    have HT3:=hid ht2
    have HF3:=hid hf2
    have HBX3:=hid (HBX2.out.on ht hf)
    have kk3:=bK HBX3.out.at'
    clear hw ht hf ht2 hf2 HX2 kk2
    have HQ:Hid (Wrote g tb w w3 (L++([aR cn,aH [73,78,84],aH [78,79,84],aH [78,85,76,76]])) d (m)):=hid (by
     have h9:Wrote g tb W w3 (L++[aR cn]++ah [[73,78,84]]++ah [[78,79,84],[78,85,76,76]]) d (m):=⟨tw3,HW3.out,HT3.out,HF3.out⟩
     have h8:=Wrote.new HB.out h9
     skip
     rw[show L++[aR cn]++ah [[73,78,84]]++ah [[78,79,84],[78,85,76,76]]=L++([aR cn,aH [73,78,84],aH [78,79,84],aH [78,85,76,76]]) by simp[ah]] at h8
     exact h8)
    go_wp2
    exact bodyPost_end (v:=.tuple #[]) (by simp[results,Tryz.results165,go_sem]) rfl ⟨rfl,HQ.out⟩
  |
   false =>
   cases uq with
   |
    true =>
    show Calls Tryz.prog 165 _ w fun e w'=>_∧Wrote g tb w w' (L++[aR cn,aH [73,78,84],aH [85,78,73,81,85,69]]) d m
    have hL:L.length+3≤1000000000:=hL
    obtain⟨W,hW,hbW,hzW,hcW⟩:=aQ w (.cells #[.string (aj cn),.int .i64 1,.bool false,.bool true] 37)
    have kk0:=bK hcW
    have HB:=hid hbW
    have HW0:=hid (h.below hbW)
    have HBX0:=hid (fA.mk' h hcW (Nat.le_refl _))
    have HT0:Hid (∀k,tb=some k→tb=some k∨W.heap.size≤k):=hid (fun k hk=>.inl hk)
    have HF0:Hid (eO g tb W W):=hid (ay.refl _ _)
    clear h hbW hcW
    go_enter Tryz.func165,Tryz.ntmps165
    have HX0:=hid (dS g tb (L) d (m) W.drew (HW0.out.below (Below.refl _ W).drew) cn (by simp[ah]<;>omega))
    have HS0:Hid (W.drew.cell? ⟨w.heap.size,0,none⟩=some (.string (aj cn))):=hid ((bK (HBX0.out.below (Below.refl _ W).drew).at').1)
    go_wp2_with fail
    go_region_held3 (fun w'=>w'.cell? ⟨w.heap.size,0,none⟩=some (.string (aj cn))) (first | exact HS0.out | exact HS1.out)
     (first
      | (
       go_at_call 99;refine HX0.out.mono ?_
       rintro e w1 ⟨rfl,tw1,hw,ht,hf⟩
       have HW1:=hid hw
       obtain⟨ht2,hf2⟩:=dw HT0.out HF0.out ht hf
       have HT1:=hid ht2
       have HF1:=hid hf2
       have HBX1:=hid ((HBX0.out.below (Below.refl _ W).drew).on ht hf)
       have kk1:=bK HBX1.out.at'
       clear hw ht hf ht2 hf2 HX0 kk0
       have HS1:=hid (kk1.1))
      | fail)
    clear HS0 HS1
    have HX1:Hid (Calls Tryz.prog 97 #[.pointer (some ⟨g,0,none⟩),.slice (some ⟨w1.heap.size,0,none⟩) 1 1] (w1.alloc (.cells #[.string ⟨#[73,78,84]⟩] 9)) fun e w'=>e = .returned (.tuple #[])∧Wrote g tw1 w1 w' (L++[aR cn]++ah [[73,78,84]]) d (m)):=hid (aG g tw1 _ d _ [[73,78,84]] w1 HW1.out (by simp) (by decide) (by simp[ah]<;>omega))
    go_wp2_with fail
    refine HX1.out.mono ?_
    rintro e w2 ⟨rfl,tw2,hw,ht,hf⟩
    have HW2:=hid hw
    obtain⟨ht2,hf2⟩:=aD HT1.out HF1.out ht hf
    have HT2:=hid ht2
    have HF2:=hid hf2
    have HBX2:=hid (HBX1.out.on ht hf)
    have kk2:=bK HBX2.out.at'
    clear hw ht hf ht2 hf2 HX1 kk1
    have HX2:Hid (Calls Tryz.prog 97 #[.pointer (some ⟨g,0,none⟩),.slice (some ⟨w2.heap.size,0,none⟩) 1 1] (w2.alloc (.cells #[.string ⟨#[85,78,73,81,85,69]⟩] 9)) fun e w'=>e = .returned (.tuple #[])∧Wrote g tw2 w2 w' (L++[aR cn]++ah [[73,78,84]]++ah [[85,78,73,81,85,69]]) d (m)):=hid (aG g tw2 _ d _ [[85,78,73,81,85,69]] w2 HW2.out (by simp) (by decide) (by simp[ah]<;>omega))
    go_wp2_with fail
    refine HX2.out.mono ?_
    rintro e w3 ⟨rfl,tw3,hw,ht,hf⟩
    have HW3:=hid hw
    obtain⟨ht2,hf2⟩:=aD HT2.out HF2.out ht hf
    have HT3:=hid ht2
    have HF3:=hid hf2
    have HBX3:=hid (HBX2.out.on ht hf)
    have kk3:=bK HBX3.out.at'
    clear hw ht hf ht2 hf2 HX2 kk2
    have HQ:Hid (Wrote g tb w w3 (L++([aR cn,aH [73,78,84],aH [85,78,73,81,85,69]])) d (m)):=hid (by
     have h9:Wrote g tb W w3 (L++[aR cn]++ah [[73,78,84]]++ah [[85,78,73,81,85,69]]) d (m):=⟨tw3,HW3.out,HT3.out,HF3.out⟩
     have h8:=Wrote.new HB.out h9
     skip
     rw[show L++[aR cn]++ah [[73,78,84]]++ah [[85,78,73,81,85,69]]=L++([aR cn,aH [73,78,84],aH [85,78,73,81,85,69]]) by simp[ah]] at h8
     exact h8)
    go_wp2
    exact bodyPost_end (v:=.tuple #[]) (by simp[results,Tryz.results165,go_sem]) rfl ⟨rfl,HQ.out⟩
   |
    false =>
    show Calls Tryz.prog 165 _ w fun e w'=>_∧Wrote g tb w w' (L++[aR cn,aH [73,78,84]]) d m
    have hL:L.length+2≤1000000000:=hL
    obtain⟨W,hW,hbW,hzW,hcW⟩:=aQ w (.cells #[.string (aj cn),.int .i64 1,.bool false,.bool false] 37)
    have kk0:=bK hcW
    have HB:=hid hbW
    have HW0:=hid (h.below hbW)
    have HBX0:=hid (fA.mk' h hcW (Nat.le_refl _))
    have HT0:Hid (∀k,tb=some k→tb=some k∨W.heap.size≤k):=hid (fun k hk=>.inl hk)
    have HF0:Hid (eO g tb W W):=hid (ay.refl _ _)
    clear h hbW hcW
    go_enter Tryz.func165,Tryz.ntmps165
    have HX0:=hid (dS g tb (L) d (m) W.drew (HW0.out.below (Below.refl _ W).drew) cn (by simp[ah]<;>omega))
    have HS0:Hid (W.drew.cell? ⟨w.heap.size,0,none⟩=some (.string (aj cn))):=hid ((bK (HBX0.out.below (Below.refl _ W).drew).at').1)
    go_wp2_with fail
    go_region_held3 (fun w'=>w'.cell? ⟨w.heap.size,0,none⟩=some (.string (aj cn))) (first | exact HS0.out | exact HS1.out)
     (first
      | (
       go_at_call 99;refine HX0.out.mono ?_
       rintro e w1 ⟨rfl,tw1,hw,ht,hf⟩
       have HW1:=hid hw
       obtain⟨ht2,hf2⟩:=dw HT0.out HF0.out ht hf
       have HT1:=hid ht2
       have HF1:=hid hf2
       have HBX1:=hid ((HBX0.out.below (Below.refl _ W).drew).on ht hf)
       have kk1:=bK HBX1.out.at'
       clear hw ht hf ht2 hf2 HX0 kk0
       have HS1:=hid (kk1.1))
      | fail)
    clear HS0 HS1
    have HX1:Hid (Calls Tryz.prog 97 #[.pointer (some ⟨g,0,none⟩),.slice (some ⟨w1.heap.size,0,none⟩) 1 1] (w1.alloc (.cells #[.string ⟨#[73,78,84]⟩] 9)) fun e w'=>e = .returned (.tuple #[])∧Wrote g tw1 w1 w' (L++[aR cn]++ah [[73,78,84]]) d (m)):=hid (aG g tw1 _ d _ [[73,78,84]] w1 HW1.out (by simp) (by decide) (by simp[ah]<;>omega))
    go_wp2_with fail
    refine HX1.out.mono ?_
    rintro e w2 ⟨rfl,tw2,hw,ht,hf⟩
    have HW2:=hid hw
    obtain⟨ht2,hf2⟩:=aD HT1.out HF1.out ht hf
    have HT2:=hid ht2
    have HF2:=hid hf2
    have HBX2:=hid (HBX1.out.on ht hf)
    have kk2:=bK HBX2.out.at'
    clear hw ht hf ht2 hf2 HX1 kk1
    have HQ:Hid (Wrote g tb w w2 (L++([aR cn,aH [73,78,84]])) d (m)):=hid (by
     have h9:Wrote g tb W w2 (L++[aR cn]++ah [[73,78,84]]) d (m):=⟨tw2,HW2.out,HT2.out,HF2.out⟩
     have h8:=Wrote.new HB.out h9
     skip
     rw[show L++[aR cn]++ah [[73,78,84]]=L++([aR cn,aH [73,78,84]]) by simp[ah]] at h8
     exact h8)
    go_wp2
    exact bodyPost_end (v:=.tuple #[]) (by simp[results,Tryz.results165,go_sem]) rfl ⟨rfl,HQ.out⟩
 ·cases nn with
  |
   true =>
   cases uq with
   |
    true =>
    show Calls Tryz.prog 165 _ w fun e w'=>_∧Wrote g tb w w' (L++[aR cn,aH [84,69,88,84],aH [78,79,84],aH [78,85,76,76],aH [85,78,73,81,85,69]]) d m
    have hL:L.length+5≤1000000000:=hL
    obtain⟨W,hW,hbW,hzW,hcW⟩:=aQ w (.cells #[.string (aj cn),.int .i64 2,.bool true,.bool true] 37)
    have kk0:=bK hcW
    have HB:=hid hbW
    have HW0:=hid (h.below hbW)
    have HBX0:=hid (fA.mk' h hcW (Nat.le_refl _))
    have HT0:Hid (∀k,tb=some k→tb=some k∨W.heap.size≤k):=hid (fun k hk=>.inl hk)
    have HF0:Hid (eO g tb W W):=hid (ay.refl _ _)
    clear h hbW hcW
    go_enter Tryz.func165,Tryz.ntmps165
    have HX0:=hid (dS g tb (L) d (m) W.drew (HW0.out.below (Below.refl _ W).drew) cn (by simp[ah]<;>omega))
    have HS0:Hid (W.drew.cell? ⟨w.heap.size,0,none⟩=some (.string (aj cn))):=hid ((bK (HBX0.out.below (Below.refl _ W).drew).at').1)
    go_wp2_with fail
    go_region_held3 (fun w'=>w'.cell? ⟨w.heap.size,0,none⟩=some (.string (aj cn))) (first | exact HS0.out | exact HS1.out)
     (first
      | (
       go_at_call 99;refine HX0.out.mono ?_
       rintro e w1 ⟨rfl,tw1,hw,ht,hf⟩
       have HW1:=hid hw
       obtain⟨ht2,hf2⟩:=dw HT0.out HF0.out ht hf
       have HT1:=hid ht2
       have HF1:=hid hf2
       have HBX1:=hid ((HBX0.out.below (Below.refl _ W).drew).on ht hf)
       have kk1:=bK HBX1.out.at'
       clear hw ht hf ht2 hf2 HX0 kk0
       have HS1:=hid (kk1.1))
      | fail)
    clear HS0 HS1
    have HX1:Hid (Calls Tryz.prog 97 #[.pointer (some ⟨g,0,none⟩),.slice (some ⟨w1.heap.size,0,none⟩) 1 1] (w1.alloc (.cells #[.string ⟨#[84,69,88,84]⟩] 9)) fun e w'=>e = .returned (.tuple #[])∧Wrote g tw1 w1 w' (L++[aR cn]++ah [[84,69,88,84]]) d (m)):=hid (aG g tw1 _ d _ [[84,69,88,84]] w1 HW1.out (by simp) (by decide) (by simp[ah]<;>omega))
    go_wp2_with fail
    refine HX1.out.mono ?_
    rintro e w2 ⟨rfl,tw2,hw,ht,hf⟩
    have HW2:=hid hw
    obtain⟨ht2,hf2⟩:=aD HT1.out HF1.out ht hf
    have HT2:=hid ht2
    have HF2:=hid hf2
    have HBX2:=hid (HBX1.out.on ht hf)
    have kk2:=bK HBX2.out.at'
    clear hw ht hf ht2 hf2 HX1 kk1
    have HX2:Hid (Calls Tryz.prog 97 #[.pointer (some ⟨g,0,none⟩),.slice (some ⟨w2.heap.size,0,none⟩) 2 2] (w2.alloc (.cells #[.string ⟨#[78,79,84]⟩,.string ⟨#[78,85,76,76]⟩] 9)) fun e w'=>e = .returned (.tuple #[])∧Wrote g tw2 w2 w' (L++[aR cn]++ah [[84,69,88,84]]++ah [[78,79,84],[78,85,76,76]]) d (m)):=hid (aG g tw2 _ d _ [[78,79,84],[78,85,76,76]] w2 HW2.out (by simp) (by decide) (by simp[ah]<;>omega))
    go_wp2_with fail
    refine HX2.out.mono ?_
    rintro e w3 ⟨rfl,tw3,hw,ht,hf⟩
    have HW3:=hid hw
    obtain⟨ht2,hf2⟩:=aD HT2.out HF2.out ht hf
    have HT3:=hid ht2
    have HF3:=hid hf2
    have HBX3:=hid (HBX2.out.on ht hf)
    have kk3:=bK HBX3.out.at'
    clear hw ht hf ht2 hf2 HX2 kk2
    have HX3:Hid (Calls Tryz.prog 97 #[.pointer (some ⟨g,0,none⟩),.slice (some ⟨w3.heap.size,0,none⟩) 1 1] (w3.alloc (.cells #[.string ⟨#[85,78,73,81,85,69]⟩] 9)) fun e w'=>e = .returned (.tuple #[])∧Wrote g tw3 w3 w' (L++[aR cn]++ah [[84,69,88,84]]++ah [[78,79,84],[78,85,76,76]]++ah [[85,78,73,81,85,69]]) d (m)):=hid (aG g tw3 _ d _ [[85,78,73,81,85,69]] w3 HW3.out (by simp) (by decide) (by simp[ah]<;>omega))
    go_wp2_with fail
    refine HX3.out.mono ?_
    rintro e w4 ⟨rfl,tw4,hw,ht,hf⟩
    have HW4:=hid hw
    obtain⟨ht2,hf2⟩:=aD HT3.out HF3.out ht hf
    have HT4:=hid ht2
    have HF4:=hid hf2
    have HBX4:=hid (HBX3.out.on ht hf)
    have kk4:=bK HBX4.out.at'
    clear hw ht hf ht2 hf2 HX3 kk3
    have HQ:Hid (Wrote g tb w w4 (L++([aR cn,aH [84,69,88,84],aH [78,79,84],aH [78,85,76,76],aH [85,78,73,81,85,69]])) d (m)):=hid (by
     have h9:Wrote g tb W w4 (L++[aR cn]++ah [[84,69,88,84]]++ah [[78,79,84],[78,85,76,76]]++ah [[85,78,73,81,85,69]]) d (m):=⟨tw4,HW4.out,HT4.out,HF4.out⟩
     have h8:=Wrote.new HB.out h9
     skip
     rw[show L++[aR cn]++ah [[84,69,88,84]]++ah [[78,79,84],[78,85,76,76]]++ah [[85,78,73,81,85,69]]=L++([aR cn,aH [84,69,88,84],aH [78,79,84],aH [78,85,76,76],aH [85,78,73,81,85,69]]) by simp[ah]] at h8
     exact h8)
    go_wp2
    exact bodyPost_end (v:=.tuple #[]) (by simp[results,Tryz.results165,go_sem]) rfl ⟨rfl,HQ.out⟩
   |
    false =>
    show Calls Tryz.prog 165 _ w fun e w'=>_∧Wrote g tb w w' (L++[aR cn,aH [84,69,88,84],aH [78,79,84],aH [78,85,76,76]]) d m
    have hL:L.length+4≤1000000000:=hL
    obtain⟨W,hW,hbW,hzW,hcW⟩:=aQ w (.cells #[.string (aj cn),.int .i64 2,.bool true,.bool false] 37)
    have kk0:=bK hcW
    have HB:=hid hbW
    have HW0:=hid (h.below hbW)
    have HBX0:=hid (fA.mk' h hcW (Nat.le_refl _))
    have HT0:Hid (∀k,tb=some k→tb=some k∨W.heap.size≤k):=hid (fun k hk=>.inl hk)
    have HF0:Hid (eO g tb W W):=hid (ay.refl _ _)
    clear h hbW hcW
    go_enter Tryz.func165,Tryz.ntmps165
    have HX0:=hid (dS g tb (L) d (m) W.drew (HW0.out.below (Below.refl _ W).drew) cn (by simp[ah]<;>omega))
    have HS0:Hid (W.drew.cell? ⟨w.heap.size,0,none⟩=some (.string (aj cn))):=hid ((bK (HBX0.out.below (Below.refl _ W).drew).at').1)
    go_wp2_with fail
    go_region_held3 (fun w'=>w'.cell? ⟨w.heap.size,0,none⟩=some (.string (aj cn))) (first | exact HS0.out | exact HS1.out)
     (first
      | (
       go_at_call 99;refine HX0.out.mono ?_
       rintro e w1 ⟨rfl,tw1,hw,ht,hf⟩
       have HW1:=hid hw
       obtain⟨ht2,hf2⟩:=dw HT0.out HF0.out ht hf
       have HT1:=hid ht2
       have HF1:=hid hf2
       have HBX1:=hid ((HBX0.out.below (Below.refl _ W).drew).on ht hf)
       have kk1:=bK HBX1.out.at'
       clear hw ht hf ht2 hf2 HX0 kk0
       have HS1:=hid (kk1.1))
      | fail)
    clear HS0 HS1
    have HX1:Hid (Calls Tryz.prog 97 #[.pointer (some ⟨g,0,none⟩),.slice (some ⟨w1.heap.size,0,none⟩) 1 1] (w1.alloc (.cells #[.string ⟨#[84,69,88,84]⟩] 9)) fun e w'=>e = .returned (.tuple #[])∧Wrote g tw1 w1 w' (L++[aR cn]++ah [[84,69,88,84]]) d (m)):=hid (aG g tw1 _ d _ [[84,69,88,84]] w1 HW1.out (by simp) (by decide) (by simp[ah]<;>omega))
    go_wp2_with fail
    refine HX1.out.mono ?_
    rintro e w2 ⟨rfl,tw2,hw,ht,hf⟩
    have HW2:=hid hw
    obtain⟨ht2,hf2⟩:=aD HT1.out HF1.out ht hf
    have HT2:=hid ht2
    have HF2:=hid hf2
    have HBX2:=hid (HBX1.out.on ht hf)
    have kk2:=bK HBX2.out.at'
    clear hw ht hf ht2 hf2 HX1 kk1
    have HX2:Hid (Calls Tryz.prog 97 #[.pointer (some ⟨g,0,none⟩),.slice (some ⟨w2.heap.size,0,none⟩) 2 2] (w2.alloc (.cells #[.string ⟨#[78,79,84]⟩,.string ⟨#[78,85,76,76]⟩] 9)) fun e w'=>e = .returned (.tuple #[])∧Wrote g tw2 w2 w' (L++[aR cn]++ah [[84,69,88,84]]++ah [[78,79,84],[78,85,76,76]]) d (m)):=hid (aG g tw2 _ d _ [[78,79,84],[78,85,76,76]] w2 HW2.out (by simp) (by decide) (by simp[ah]<;>omega))
    go_wp2_with fail
    refine HX2.out.mono ?_
    rintro e w3 ⟨rfl,tw3,hw,ht,hf⟩
    have HW3:=hid hw
    obtain⟨ht2,hf2⟩:=aD HT2.out HF2.out ht hf
    have HT3:=hid ht2
    have HF3:=hid hf2
    have HBX3:=hid (HBX2.out.on ht hf)
    have kk3:=bK HBX3.out.at'
    clear hw ht hf ht2 hf2 HX2 kk2
    have HQ:Hid (Wrote g tb w w3 (L++([aR cn,aH [84,69,88,84],aH [78,79,84],aH [78,85,76,76]])) d (m)):=hid (by
     have h9:Wrote g tb W w3 (L++[aR cn]++ah [[84,69,88,84]]++ah [[78,79,84],[78,85,76,76]]) d (m):=⟨tw3,HW3.out,HT3.out,HF3.out⟩
     have h8:=Wrote.new HB.out h9
     skip
     rw[show L++[aR cn]++ah [[84,69,88,84]]++ah [[78,79,84],[78,85,76,76]]=L++([aR cn,aH [84,69,88,84],aH [78,79,84],aH [78,85,76,76]]) by simp[ah]] at h8
     exact h8)
    go_wp2
    exact bodyPost_end (v:=.tuple #[]) (by simp[results,Tryz.results165,go_sem]) rfl ⟨rfl,HQ.out⟩
  |
   false =>
   cases uq with
   |
    true =>
    show Calls Tryz.prog 165 _ w fun e w'=>_∧Wrote g tb w w' (L++[aR cn,aH [84,69,88,84],aH [85,78,73,81,85,69]]) d m
    have hL:L.length+3≤1000000000:=hL
    obtain⟨W,hW,hbW,hzW,hcW⟩:=aQ w (.cells #[.string (aj cn),.int .i64 2,.bool false,.bool true] 37)
    have kk0:=bK hcW
    have HB:=hid hbW
    have HW0:=hid (h.below hbW)
    have HBX0:=hid (fA.mk' h hcW (Nat.le_refl _))
    have HT0:Hid (∀k,tb=some k→tb=some k∨W.heap.size≤k):=hid (fun k hk=>.inl hk)
    have HF0:Hid (eO g tb W W):=hid (ay.refl _ _)
    clear h hbW hcW
    go_enter Tryz.func165,Tryz.ntmps165
    have HX0:=hid (dS g tb (L) d (m) W.drew (HW0.out.below (Below.refl _ W).drew) cn (by simp[ah]<;>omega))
    have HS0:Hid (W.drew.cell? ⟨w.heap.size,0,none⟩=some (.string (aj cn))):=hid ((bK (HBX0.out.below (Below.refl _ W).drew).at').1)
    go_wp2_with fail
    go_region_held3 (fun w'=>w'.cell? ⟨w.heap.size,0,none⟩=some (.string (aj cn))) (first | exact HS0.out | exact HS1.out)
     (first
      | (
       go_at_call 99;refine HX0.out.mono ?_
       rintro e w1 ⟨rfl,tw1,hw,ht,hf⟩
       have HW1:=hid hw
       obtain⟨ht2,hf2⟩:=dw HT0.out HF0.out ht hf
       have HT1:=hid ht2
       have HF1:=hid hf2
       have HBX1:=hid ((HBX0.out.below (Below.refl _ W).drew).on ht hf)
       have kk1:=bK HBX1.out.at'
       clear hw ht hf ht2 hf2 HX0 kk0
       have HS1:=hid (kk1.1))
      | fail)
    clear HS0 HS1
    have HX1:Hid (Calls Tryz.prog 97 #[.pointer (some ⟨g,0,none⟩),.slice (some ⟨w1.heap.size,0,none⟩) 1 1] (w1.alloc (.cells #[.string ⟨#[84,69,88,84]⟩] 9)) fun e w'=>e = .returned (.tuple #[])∧Wrote g tw1 w1 w' (L++[aR cn]++ah [[84,69,88,84]]) d (m)):=hid (aG g tw1 _ d _ [[84,69,88,84]] w1 HW1.out (by simp) (by decide) (by simp[ah]<;>omega))
    go_wp2_with fail
    refine HX1.out.mono ?_
    rintro e w2 ⟨rfl,tw2,hw,ht,hf⟩
    have HW2:=hid hw
    obtain⟨ht2,hf2⟩:=aD HT1.out HF1.out ht hf
    have HT2:=hid ht2
    have HF2:=hid hf2
    have HBX2:=hid (HBX1.out.on ht hf)
    have kk2:=bK HBX2.out.at'
    clear hw ht hf ht2 hf2 HX1 kk1
    have HX2:Hid (Calls Tryz.prog 97 #[.pointer (some ⟨g,0,none⟩),.slice (some ⟨w2.heap.size,0,none⟩) 1 1] (w2.alloc (.cells #[.string ⟨#[85,78,73,81,85,69]⟩] 9)) fun e w'=>e = .returned (.tuple #[])∧Wrote g tw2 w2 w' (L++[aR cn]++ah [[84,69,88,84]]++ah [[85,78,73,81,85,69]]) d (m)):=hid (aG g tw2 _ d _ [[85,78,73,81,85,69]] w2 HW2.out (by simp) (by decide) (by simp[ah]<;>omega))
    go_wp2_with fail
    refine HX2.out.mono ?_
    rintro e w3 ⟨rfl,tw3,hw,ht,hf⟩
    have HW3:=hid hw
    obtain⟨ht2,hf2⟩:=aD HT2.out HF2.out ht hf
    have HT3:=hid ht2
    have HF3:=hid hf2
    have HBX3:=hid (HBX2.out.on ht hf)
    have kk3:=bK HBX3.out.at'
    clear hw ht hf ht2 hf2 HX2 kk2
    have HQ:Hid (Wrote g tb w w3 (L++([aR cn,aH [84,69,88,84],aH [85,78,73,81,85,69]])) d (m)):=hid (by
     have h9:Wrote g tb W w3 (L++[aR cn]++ah [[84,69,88,84]]++ah [[85,78,73,81,85,69]]) d (m):=⟨tw3,HW3.out,HT3.out,HF3.out⟩
     have h8:=Wrote.new HB.out h9
     skip
     rw[show L++[aR cn]++ah [[84,69,88,84]]++ah [[85,78,73,81,85,69]]=L++([aR cn,aH [84,69,88,84],aH [85,78,73,81,85,69]]) by simp[ah]] at h8
     exact h8)
    go_wp2
    exact bodyPost_end (v:=.tuple #[]) (by simp[results,Tryz.results165,go_sem]) rfl ⟨rfl,HQ.out⟩
   |
    false =>
    show Calls Tryz.prog 165 _ w fun e w'=>_∧Wrote g tb w w' (L++[aR cn,aH [84,69,88,84]]) d m
    have hL:L.length+2≤1000000000:=hL
    obtain⟨W,hW,hbW,hzW,hcW⟩:=aQ w (.cells #[.string (aj cn),.int .i64 2,.bool false,.bool false] 37)
    have kk0:=bK hcW
    have HB:=hid hbW
    have HW0:=hid (h.below hbW)
    have HBX0:=hid (fA.mk' h hcW (Nat.le_refl _))
    have HT0:Hid (∀k,tb=some k→tb=some k∨W.heap.size≤k):=hid (fun k hk=>.inl hk)
    have HF0:Hid (eO g tb W W):=hid (ay.refl _ _)
    clear h hbW hcW
    go_enter Tryz.func165,Tryz.ntmps165
    have HX0:=hid (dS g tb (L) d (m) W.drew (HW0.out.below (Below.refl _ W).drew) cn (by simp[ah]<;>omega))
    have HS0:Hid (W.drew.cell? ⟨w.heap.size,0,none⟩=some (.string (aj cn))):=hid ((bK (HBX0.out.below (Below.refl _ W).drew).at').1)
    go_wp2_with fail
    go_region_held3 (fun w'=>w'.cell? ⟨w.heap.size,0,none⟩=some (.string (aj cn))) (first | exact HS0.out | exact HS1.out)
     (first
      | (
       go_at_call 99;refine HX0.out.mono ?_
       rintro e w1 ⟨rfl,tw1,hw,ht,hf⟩
       have HW1:=hid hw
       obtain⟨ht2,hf2⟩:=dw HT0.out HF0.out ht hf
       have HT1:=hid ht2
       have HF1:=hid hf2
       have HBX1:=hid ((HBX0.out.below (Below.refl _ W).drew).on ht hf)
       have kk1:=bK HBX1.out.at'
       clear hw ht hf ht2 hf2 HX0 kk0
       have HS1:=hid (kk1.1))
      | fail)
    clear HS0 HS1
    have HX1:Hid (Calls Tryz.prog 97 #[.pointer (some ⟨g,0,none⟩),.slice (some ⟨w1.heap.size,0,none⟩) 1 1] (w1.alloc (.cells #[.string ⟨#[84,69,88,84]⟩] 9)) fun e w'=>e = .returned (.tuple #[])∧Wrote g tw1 w1 w' (L++[aR cn]++ah [[84,69,88,84]]) d (m)):=hid (aG g tw1 _ d _ [[84,69,88,84]] w1 HW1.out (by simp) (by decide) (by simp[ah]<;>omega))
    go_wp2_with fail
    refine HX1.out.mono ?_
    rintro e w2 ⟨rfl,tw2,hw,ht,hf⟩
    have HW2:=hid hw
    obtain⟨ht2,hf2⟩:=aD HT1.out HF1.out ht hf
    have HT2:=hid ht2
    have HF2:=hid hf2
    have HBX2:=hid (HBX1.out.on ht hf)
    have kk2:=bK HBX2.out.at'
    clear hw ht hf ht2 hf2 HX1 kk1
    have HQ:Hid (Wrote g tb w w2 (L++([aR cn,aH [84,69,88,84]])) d (m)):=hid (by
     have h9:Wrote g tb W w2 (L++[aR cn]++ah [[84,69,88,84]]) d (m):=⟨tw2,HW2.out,HT2.out,HF2.out⟩
     have h8:=Wrote.new HB.out h9
     skip
     rw[show L++[aR cn]++ah [[84,69,88,84]]=L++([aR cn,aH [84,69,88,84]]) by simp[ah]] at h8
     exact h8)
    go_wp2
    exact bodyPost_end (v:=.tuple #[]) (by simp[results,Tryz.results165,go_sem]) rfl ⟨rfl,HQ.out⟩
end Go.Proofs.YtaaggohjmhifbaaGreatDoor
