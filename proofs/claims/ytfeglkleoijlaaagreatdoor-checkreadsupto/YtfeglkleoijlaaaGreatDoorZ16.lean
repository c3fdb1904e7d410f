/- Packed for the hand-in: WStmB -/
import Derived.Test.YtfeglkleoijlaaaGreatDoorZ15
import Derived.Test.YtfeglkleoijlaaaGreatDoorZ13
import Derived.Deep.RegionHeld3
namespace Go.Proofs.YtfeglkleoijlaaaGreatDoor
open Go.RowKit Go.Shelf
set_option linter.unusedSimpArgs false
set_option linter.unusedVariables false
set_option maxRecDepth 20000
set_option maxHeartbeats 8000000
theorem kH {α:Type}:∀l:List α,aY (l.map fun _=>0)=0
 | []=>rfl
 | x::l=>by show max 0 (aY (l.map fun _=>0))=0;rw[kH l];rfl
theorem eD {α:Type} (f:α→Nat):∀(l:List α) (x:α),x∈l→f x≤aY (l.map f)
 |
  a::l,x,h=>by
  show f x≤max (f a) (aY (l.map f))
  rcases List.mem_cons.1 h with rfl | h
  ·omega
  ·have:=eD f l x h;omega
theorem Gw (i:It) (hb:sw i=true) (cs:List Value) (g:Nat) (tb:Option Nat) (L:List Tk) (d m:Int) (w:World) (h:bJ w g tb L d m) (hx:qo (fun b=>b<g) w i cs) (hL:L.length+(xG i).length≤1000000000) (h0:0≤d) (hdm:d≤m) (hm:m≤1000000000) (hd:d+(z8 i:Nat)≤1000000000) :
  Calls Tryz.prog 149 #[.pointer (some ⟨g,0,none⟩),.agg cs.toArray] w fun e w'=>e = .returned (.tuple #[])∧Wrote g tb w w' (L++xG i) d (max m (d+(z8 i:Nat))):=by
 obtain⟨aa,nn,cc,rfl,ha⟩:=hx
 obtain⟨k,xs⟩:=i
 unfold sw at hb
 unfold xG at hL ⊢
 unfold z8 at hd ⊢
 dsimp only at ha hb hL hd ⊢
 by_cases hk1:k=1
 ·subst hk1
  have hz:xs.length=0:=by rw[if_pos (by omega)] at hb;simpa using hb
  obtain rfl:xs=[]:=List.eq_nil_of_length_eq_zero hz
  have e0:max m (d+((bY []:Nat):Int))=m:=by show max m (d+((0:Nat):Int))=m;omega
  rw[e0]
  clear e0 hb hz hd
  obtain⟨W,hW,hbW,hzW,hcW⟩:=aL w (.cells #[.int .i64 1,.slice aa nn cc] 55)
  have kk0:=dQ hcW
  have HB:=hid hbW
  have HW0:=hid (h.below hbW)
  have HBX0:=hid (dn.mk' h hcW (Nat.le_refl _))
  have HT0:Hid (∀k,tb=some k→tb=some k∨W.heap.size≤k):=hid (fun k hk=>.inl hk)
  have HF0:Hid (cB g tb W W):=hid (aA.refl _ _)
  clear h hbW hcW ha
  have hL:L.length+1≤1000000000:=by simpa [au] using hL
  show Calls Tryz.prog 149 _ w fun e w'=>_∧Wrote g tb w w' (L++au [[42]]) d m
  go_enter Tryz.func149,Tryz.ntmps149
  have HX0:Hid (Calls Tryz.prog 98 #[.pointer (some ⟨g,0,none⟩),.slice (some ⟨W.heap.size,0,none⟩) 1 1] (W.alloc (.cells #[.string ⟨#[42]⟩] 9)) fun e w'=>e = .returned (.tuple #[])∧Wrote g tb W w' (L++au [[42]]) d (m)):=hid (aG g tb _ d _ [[42]] W HW0.out (by simp) (by decide) (by simp[au]<;>omega))
  go_wp2_with fail
  refine HX0.out.mono ?_
  rintro e w1 ⟨rfl,tw1,hw,ht,hf⟩
  have HW1:=hid hw
  obtain⟨ht2,hf2⟩:=aF HT0.out HF0.out ht hf
  have HT1:=hid ht2
  have HF1:=hid hf2
  have HBX1:=hid (HBX0.out.on ht hf)
  have kk1:=dQ HBX1.out.at'
  clear hw ht hf ht2 hf2 HX0 kk0
  have HQ:Hid (Wrote g tb w w1 (L++(au [[42]])) d (m)):=hid (by
   have h9:Wrote g tb W w1 (L++au [[42]]) d (m):=⟨tw1,HW1.out,HT1.out,HF1.out⟩
   have h8:=Wrote.new HB.out h9
   skip
   rw[show L++au [[42]]=L++(au [[42]]) by simp[au]] at h8
   exact h8)
  go_wp2
  exact bodyPost_end (v:=.tuple #[]) (by simp[results,Tryz.results149,go_sem]) rfl ⟨rfl,HQ.out⟩
 by_cases hk3:k=3
 ·subst hk3
  have hz:xs.length=0:=by rw[if_pos (by omega)] at hb;simpa using hb
  obtain rfl:xs=[]:=List.eq_nil_of_length_eq_zero hz
  have e0:max m (d+((bY []:Nat):Int))=m:=by show max m (d+((0:Nat):Int))=m;omega
  rw[e0]
  clear e0 hb hz hd
  obtain⟨W,hW,hbW,hzW,hcW⟩:=aL w (.cells #[.int .i64 3,.slice aa nn cc] 55)
  have kk0:=dQ hcW
  have HB:=hid hbW
  have HW0:=hid (h.below hbW)
  have HBX0:=hid (dn.mk' h hcW (Nat.le_refl _))
  have HT0:Hid (∀k,tb=some k→tb=some k∨W.heap.size≤k):=hid (fun k hk=>.inl hk)
  have HF0:Hid (cB g tb W W):=hid (aA.refl _ _)
  clear h hbW hcW ha
  have hL:L.length+4≤1000000000:=by simpa [au] using hL
  show Calls Tryz.prog 149 _ w fun e w'=>_∧Wrote g tb w w' (L++au [[67,79,85,78,84],[40],[42],[41]]) d m
  go_enter Tryz.func149,Tryz.ntmps149
  have HX0:Hid (Calls Tryz.prog 98 #[.pointer (some ⟨g,0,none⟩),.slice (some ⟨W.heap.size,0,none⟩) 4 4] (W.alloc (.cells #[.string ⟨#[67,79,85,78,84]⟩,.string ⟨#[40]⟩,.string ⟨#[42]⟩,.string ⟨#[41]⟩] 9)) fun e w'=>e = .returned (.tuple #[])∧Wrote g tb W w' (L++au [[67,79,85,78,84],[40],[42],[41]]) d (m)):=hid (aG g tb _ d _ [[67,79,85,78,84],[40],[42],[41]] W HW0.out (by simp) (by decide) (by simp[au]<;>omega))
  go_wp2_with fail
  refine HX0.out.mono ?_
  rintro e w1 ⟨rfl,tw1,hw,ht,hf⟩
  have HW1:=hid hw
  obtain⟨ht2,hf2⟩:=aF HT0.out HF0.out ht hf
  have HT1:=hid ht2
  have HF1:=hid hf2
  have HBX1:=hid (HBX0.out.on ht hf)
  have kk1:=dQ HBX1.out.at'
  clear hw ht hf ht2 hf2 HX0 kk0
  have HQ:Hid (Wrote g tb w w1 (L++(au [[67,79,85,78,84],[40],[42],[41]])) d (m)):=hid (by
   have h9:Wrote g tb W w1 (L++au [[67,79,85,78,84],[40],[42],[41]]) d (m):=⟨tw1,HW1.out,HT1.out,HF1.out⟩
   have h8:=Wrote.new HB.out h9
   skip
   rw[show L++au [[67,79,85,78,84],[40],[42],[41]]=L++(au [[67,79,85,78,84],[40],[42],[41]]) by simp[au]] at h8
   exact h8)
  go_wp2
  exact bodyPost_end (v:=.tuple #[]) (by simp[results,Tryz.results149,go_sem]) rfl ⟨rfl,HQ.out⟩
 rw[if_neg (by omega)] at hb
 rw[if_neg hk1] at hL ⊢
 split at hb
 ·rename_i hkk
  obtain⟨x,l,rfl,hl1,hp⟩:=ny hb
  obtain rfl:l=[]:=List.eq_nil_of_length_eq_zero (by omega)
  have hr:=hp x (by simp)
  have hD:bY [x]=fJ x:=by show max (fJ x) 0=fJ x;omega
  rw[hD] at hd ⊢
  rw[show [x].headD mW=x from rfl] at hL ⊢
  clear hb hp hD hl1
  by_cases hk2:k=2
  ·rw[if_pos hk2] at hL ⊢
   subst hk2
   obtain⟨W,hW,hbW,hzW,hcW⟩:=aL w (.cells #[.int .i64 2,.slice aa nn cc] 55)
   have kk0:=dQ hcW
   have HB:=hid hbW
   have HW0:=hid (h.below hbW)
   have HBX0:=hid (dn.mk' h hcW (Nat.le_refl _))
   have HT0:Hid (∀k,tb=some k→tb=some k∨W.heap.size≤k):=hid (fun k hk=>.inl hk)
   have HF0:Hid (cB g tb W W):=hid (aA.refl _ _)
   obtain⟨g1,g2,g3,b,off,k1,op1,tn1,nm1,vk1,vn1,vs1,ys1,aa1,nn1,cc1,hxe,rfl,_,c1,r1⟩:=dI (ha.new hbW)
   rw[List.length_nil,Nat.zero_add] at g1
   subst g1
   unfold maxLen at g3
   have HX0:=hid (Fg x hr _ g tb L d m W HW0.out (fB.mk' hxe r1) hL h0 hdm hm hd)
   unfold Cells8 at c1
   clear h hbW hcW ha r1 hxe hr
   generalize jG x=T at HX0 hL ⊢
   generalize fJ x=D at HX0 hd ⊢
   go_enter Tryz.func149,Tryz.ntmps149
   go_wp2_with fail
   refine HX0.out.mono ?_
   rintro e w1 ⟨rfl,h1⟩
   have HQ:=hid (Wrote.new HB.out h1)
   clear h1 HX0
   go_wp2
   exact bodyPost_end (v:=.tuple #[]) (by simp[results,Tryz.results149,go_sem]) rfl ⟨rfl,HQ.out⟩
  ·rw[if_neg hk2,if_neg hk3] at hL ⊢
   have hL3:L.length+((jG x).length+3)≤1000000000:=by simp[au] at hL;omega
   have hk4:k=4∨k=5∨k=6∨k=7:=by omega
   clear hkk hk1 hk2 hk3 hL
   rcases hk4 with rfl | rfl | rfl | rfl
   ·obtain⟨W,hW,hbW,hzW,hcW⟩:=aL w (.cells #[.int .i64 4,.slice aa nn cc] 55)
    have kk0:=dQ hcW
    have HB:=hid hbW
    have HW0:=hid (h.below hbW)
    have HBX0:=hid (dn.mk' h hcW (Nat.le_refl _))
    have HT0:Hid (∀k,tb=some k→tb=some k∨W.heap.size≤k):=hid (fun k hk=>.inl hk)
    have HF0:Hid (cB g tb W W):=hid (aA.refl _ _)
    obtain⟨g1,g2,g3,b,off,k1,op1,tn1,nm1,vk1,vn1,vs1,ys1,aa1,nn1,cc1,hxe,rfl,_,c1,r1⟩:=dI (ha.new hbW)
    rw[List.length_nil,Nat.zero_add] at g1
    subst g1
    unfold maxLen at g3
    have HX0:Hid (Calls Tryz.prog 166 #[.pointer (some ⟨g,0,none⟩),.string ⟨#[67,79,85,78,84]⟩,.agg #[.int .i64 k1,.int .i64 op1,.string (aj tn1),.string (aj nm1),.int .i64 vk1,.int .i64 vn1,.string (aj vs1),.slice aa1 nn1 cc1]] W fun e w'=>e = .returned (.tuple #[])∧Wrote g tb W w' (L++(au [ER 4,[40]]++(jG x++[aK [41]]))) d (max m (d+(fJ x:Nat)))):=hid (uW [67,79,85,78,84] (by decide) x hr _ g tb L d m W HW0.out (fB.mk' hxe r1) hL3 h0 hdm hm hd)
    unfold Cells8 at c1
    clear h hbW hcW ha r1 hxe hr
    generalize au [ER 4,[40]]++(jG x++[aK [41]])=T at HX0 ⊢
    generalize fJ x=D at HX0 hd ⊢
    go_enter Tryz.func149,Tryz.ntmps149
    go_wp2_with fail
    refine HX0.out.mono ?_
    rintro e w1 ⟨rfl,h1⟩
    have HQ:=hid (Wrote.new HB.out h1)
    clear h1 HX0
    go_wp2
    exact bodyPost_end (v:=.tuple #[]) (by simp[results,Tryz.results149,go_sem]) rfl ⟨rfl,HQ.out⟩
   ·obtain⟨W,hW,hbW,hzW,hcW⟩:=aL w (.cells #[.int .i64 5,.slice aa nn cc] 55)
    have kk0:=dQ hcW
    have HB:=hid hbW
    have HW0:=hid (h.below hbW)
    have HBX0:=hid (dn.mk' h hcW (Nat.le_refl _))
    have HT0:Hid (∀k,tb=some k→tb=some k∨W.heap.size≤k):=hid (fun k hk=>.inl hk)
    have HF0:Hid (cB g tb W W):=hid (aA.refl _ _)
    obtain⟨g1,g2,g3,b,off,k1,op1,tn1,nm1,vk1,vn1,vs1,ys1,aa1,nn1,cc1,hxe,rfl,_,c1,r1⟩:=dI (ha.new hbW)
    rw[List.length_nil,Nat.zero_add] at g1
    subst g1
    unfold maxLen at g3
    have HX0:Hid (Calls Tryz.prog 166 #[.pointer (some ⟨g,0,none⟩),.string ⟨#[83,85,77]⟩,.agg #[.int .i64 k1,.int .i64 op1,.string (aj tn1),.string (aj nm1),.int .i64 vk1,.int .i64 vn1,.string (aj vs1),.slice aa1 nn1 cc1]] W fun e w'=>e = .returned (.tuple #[])∧Wrote g tb W w' (L++(au [ER 5,[40]]++(jG x++[aK [41]]))) d (max m (d+(fJ x:Nat)))):=hid (uW [83,85,77] (by decide) x hr _ g tb L d m W HW0.out (fB.mk' hxe r1) hL3 h0 hdm hm hd)
    unfold Cells8 at c1
    clear h hbW hcW ha r1 hxe hr
    generalize au [ER 5,[40]]++(jG x++[aK [41]])=T at HX0 ⊢
    generalize fJ x=D at HX0 hd ⊢
    go_enter Tryz.func149,Tryz.ntmps149
    go_wp2_with fail
    refine HX0.out.mono ?_
    rintro e w1 ⟨rfl,h1⟩
    have HQ:=hid (Wrote.new HB.out h1)
    clear h1 HX0
    go_wp2
    exact bodyPost_end (v:=.tuple #[]) (by simp[results,Tryz.results149,go_sem]) rfl ⟨rfl,HQ.out⟩
   ·obtain⟨W,hW,hbW,hzW,hcW⟩:=aL w (.cells #[.int .i64 6,.slice aa nn cc] 55)
    have kk0:=dQ hcW
    have HB:=hid hbW
    have HW0:=hid (h.below hbW)
    have HBX0:=hid (dn.mk' h hcW (Nat.le_refl _))
    have HT0:Hid (∀k,tb=some k→tb=some k∨W.heap.size≤k):=hid (fun k hk=>.inl hk)
    have HF0:Hid (cB g tb W W):=hid (aA.refl _ _)
    obtain⟨g1,g2,g3,b,off,k1,op1,tn1,nm1,vk1,vn1,vs1,ys1,aa1,nn1,cc1,hxe,rfl,_,c1,r1⟩:=dI (ha.new hbW)
    rw[List.length_nil,Nat.zero_add] at g1
    subst g1
    unfold maxLen at g3
    have HX0:Hid (Calls Tryz.prog 166 #[.pointer (some ⟨g,0,none⟩),.string ⟨#[77,73,78]⟩,.agg #[.int .i64 k1,.int .i64 op1,.string (aj tn1),.string (aj nm1),.int .i64 vk1,.int .i64 vn1,.string (aj vs1),.slice aa1 nn1 cc1]] W fun e w'=>e = .returned (.tuple #[])∧Wrote g tb W w' (L++(au [ER 6,[40]]++(jG x++[aK [41]]))) d (max m (d+(fJ x:Nat)))):=hid (uW [77,73,78] (by decide) x hr _ g tb L d m W HW0.out (fB.mk' hxe r1) hL3 h0 hdm hm hd)
    unfold Cells8 at c1
    clear h hbW hcW ha r1 hxe hr
    generalize au [ER 6,[40]]++(jG x++[aK [41]])=T at HX0 ⊢
    generalize fJ x=D at HX0 hd ⊢
    go_enter Tryz.func149,Tryz.ntmps149
    go_wp2_with fail
    refine HX0.out.mono ?_
    rintro e w1 ⟨rfl,h1⟩
    have HQ:=hid (Wrote.new HB.out h1)
    clear h1 HX0
    go_wp2
    exact bodyPost_end (v:=.tuple #[]) (by simp[results,Tryz.results149,go_sem]) rfl ⟨rfl,HQ.out⟩
   ·obtain⟨W,hW,hbW,hzW,hcW⟩:=aL w (.cells #[.int .i64 7,.slice aa nn cc] 55)
    have kk0:=dQ hcW
    have HB:=hid hbW
    have HW0:=hid (h.below hbW)
    have HBX0:=hid (dn.mk' h hcW (Nat.le_refl _))
    have HT0:Hid (∀k,tb=some k→tb=some k∨W.heap.size≤k):=hid (fun k hk=>.inl hk)
    have HF0:Hid (cB g tb W W):=hid (aA.refl _ _)
    obtain⟨g1,g2,g3,b,off,k1,op1,tn1,nm1,vk1,vn1,vs1,ys1,aa1,nn1,cc1,hxe,rfl,_,c1,r1⟩:=dI (ha.new hbW)
    rw[List.length_nil,Nat.zero_add] at g1
    subst g1
    unfold maxLen at g3
    have HX0:Hid (Calls Tryz.prog 166 #[.pointer (some ⟨g,0,none⟩),.string ⟨#[77,65,88]⟩,.agg #[.int .i64 k1,.int .i64 op1,.string (aj tn1),.string (aj nm1),.int .i64 vk1,.int .i64 vn1,.string (aj vs1),.slice aa1 nn1 cc1]] W fun e w'=>e = .returned (.tuple #[])∧Wrote g tb W w' (L++(au [ER 7,[40]]++(jG x++[aK [41]]))) d (max m (d+(fJ x:Nat)))):=hid (uW [77,65,88] (by decide) x hr _ g tb L d m W HW0.out (fB.mk' hxe r1) hL3 h0 hdm hm hd)
    unfold Cells8 at c1
    clear h hbW hcW ha r1 hxe hr
    generalize au [ER 7,[40]]++(jG x++[aK [41]])=T at HX0 ⊢
    generalize fJ x=D at HX0 hd ⊢
    go_enter Tryz.func149,Tryz.ntmps149
    go_wp2_with fail
    refine HX0.out.mono ?_
    rintro e w1 ⟨rfl,h1⟩
    have HQ:=hid (Wrote.new HB.out h1)
    clear h1 HX0
    go_wp2
    exact bodyPost_end (v:=.tuple #[]) (by simp[results,Tryz.results149,go_sem]) rfl ⟨rfl,HQ.out⟩
 ·cases hb
theorem Ib (x:Se) (hb:mP x=true) (cs:List Value) (g:Nat) (tb:Option Nat) (L:List Tk) (d m:Int) (w:World) (h:bJ w g tb L d m) (hx:yx (fun b=>b<g) w x cs) (hL:L.length+(pY x).length≤1000000000) (h0:0≤d) (hdm:d≤m) (hm:m≤1000000000) (hd:d+(fJ x.e:Nat)≤1000000000) :
  Calls Tryz.prog 104 #[.pointer (some ⟨g,0,none⟩),.agg cs.toArray] w fun e w'=>e = .returned (.tuple #[])∧Wrote g tb w w' (L++pY x) d (max m (d+(fJ x.e:Nat))):=by
 obtain⟨k,op,tn,nm,vk,vn,vs,ys,aa,nn,cc,he,rfl,ha⟩:=hx
 obtain⟨sn,x⟩:=x
 unfold mP at hb
 simp only[Bool.and_eq_true] at hb
 have hr:=hb.2
 show Calls Tryz.prog 104 _ w fun e w'=>_∧Wrote g tb w w' (L++(aW sn::aK [61]::jG x)) d (max m (d+(fJ x:Nat)))
 have hL:L.length+((jG x).length+2)≤1000000000:=by simp[pY] at hL;omega
 dsimp only at hd he hr
 obtain⟨W,hW,hbW,hzW,hcW⟩:=aL w (.cells #[.string (aj sn),.int .i64 k,.int .i64 op,.string (aj tn),.string (aj nm),.int .i64 vk,.int .i64 vn,.string (aj vs),.slice aa nn cc] 53)
 have kk0:=fP hcW
 have HB:=hid hbW
 have HW0:=hid (h.below hbW)
 have HBX0:=hid (dn.mk' h hcW (Nat.le_refl _))
 have HT0:Hid (∀k,tb=some k→tb=some k∨W.heap.size≤k):=hid (fun k hk=>.inl hk)
 have HF0:Hid (cB g tb W W):=hid (aA.refl _ _)
 have HXW:=hid (fB.mk' he (ha.new hbW))
 have HE:Hid (∀(V:World) (tb':Option Nat) (L':List Tk) (m':Int),bJ V g tb' L' d m'→cB g tb W V→(∀k,tb'=some k→tb=some k∨W.heap.size≤k)→L'.length+(jG x).length≤1000000000→d≤m'→m'≤1000000000→Calls Tryz.prog 83 #[.pointer (some ⟨g,0,none⟩),.agg #[.int .i64 k,.int .i64 op,.string (aj tn),.string (aj nm),.int .i64 vk,.int .i64 vn,.string (aj vs),.slice aa nn cc]] V fun e w'=>e = .returned (.tuple #[])∧Wrote g tb' V w' (L'++jG x) d (max m' (d+((fJ x:Nat):Int)))):=hid (fun V tb' L' m' hV hF hT hl h1 h2=>Fg x hr _ g tb' L' d m' V hV (HXW.out.qV HW0.out hF) hl h0 h1 h2 hd)
 clear h hbW hcW ha he hr hb
 generalize jG x=T at HE hL ⊢
 generalize fJ x=D at HE hd ⊢
 go_enter Tryz.func104,Tryz.ntmps104
 have HX0:=hid (bX g tb (L) d (m) W.drew (HW0.out.below (Below.refl _ W).drew) sn (by simp[au]<;>omega))
 have HS0:Hid (W.drew.cell? ⟨w.heap.size,0,none⟩=some (.string (aj sn))):=hid ((fP (HBX0.out.below (Below.refl _ W).drew).at').1)
 go_wp2_with fail
 go_region_held3 (fun w'=>w'.cell? ⟨w.heap.size,0,none⟩=some (.string (aj sn))) (first | exact HS0.out | exact HS1.out)
  (first
   | (
    go_at_call 100;refine HX0.out.mono ?_
    rintro e w1 ⟨rfl,tw1,hw,ht,hf⟩
    have HW1:=hid hw
    obtain⟨ht2,hf2⟩:=bM HT0.out HF0.out ht hf
    have HT1:=hid ht2
    have HF1:=hid hf2
    have HBX1:=hid ((HBX0.out.below (Below.refl _ W).drew).on ht hf)
    have kk1:=fP HBX1.out.at'
    clear hw ht hf ht2 hf2 HX0 kk0
    have HS1:=hid (kk1.1))
   | fail)
 clear HS0 HS1
 have HX1:Hid (Calls Tryz.prog 98 #[.pointer (some ⟨g,0,none⟩),.slice (some ⟨w1.heap.size,0,none⟩) 1 1] (w1.alloc (.cells #[.string ⟨#[61]⟩] 9)) fun e w'=>e = .returned (.tuple #[])∧Wrote g tw1 w1 w' (L++[aW sn]++au [[61]]) d (m)):=hid (aG g tw1 _ d _ [[61]] w1 HW1.out (by simp) (by decide) (by simp[au]<;>omega))
 go_wp2_with fail
 refine HX1.out.mono ?_
 rintro e w2 ⟨rfl,tw2,hw,ht,hf⟩
 have HW2:=hid hw
 obtain⟨ht2,hf2⟩:=aF HT1.out HF1.out ht hf
 have HT2:=hid ht2
 have HF2:=hid hf2
 have HBX2:=hid (HBX1.out.on ht hf)
 have kk2:=fP HBX2.out.at'
 clear hw ht hf ht2 hf2 HX1 kk1
 have HX2:=hid (HE.out w2 tw2 (L++[aW sn]++au [[61]]) (m) HW2.out HF2.out HT2.out (by simp[au]<;>omega) (by omega) (by omega))
 go_wp2_with fail
 refine HX2.out.mono ?_
 rintro e w3 ⟨rfl,tw3,hw,ht,hf⟩
 have HW3:=hid hw
 obtain⟨ht2,hf2⟩:=aF HT2.out HF2.out ht hf
 have HT3:=hid ht2
 have HF3:=hid hf2
 have HBX3:=hid (HBX2.out.on ht hf)
 have kk3:=fP HBX3.out.at'
 clear hw ht hf ht2 hf2 HX2 kk2
 have HQ:Hid (Wrote g tb w w3 (L++(aW sn::aK [61]::T)) d (max m (d+((D:Nat):Int)))):=hid (by
  have h9:Wrote g tb W w3 (L++[aW sn]++au [[61]]++T) d (max (m) (d+((D:Nat):Int))):=⟨tw3,HW3.out,HT3.out,HF3.out⟩
  have h8:=Wrote.new HB.out h9
  rw[show max (m) (d+((D:Nat):Int))=max m (d+((D:Nat):Int)) by omega] at h8
  rw[show L++[aW sn]++au [[61]]++T=L++(aW sn::aK [61]::T) by simp[au]] at h8
  exact h8)
 go_wp2
 exact bodyPost_end (v:=.tuple #[]) (by simp[results,Tryz.results104,go_sem]) rfl ⟨rfl,HQ.out⟩
theorem Du (r:List Vl) (hb:uQ r=true) (aa:Option Addr) (nn cc:Nat) (g:Nat) (tb:Option Nat) (L:List Tk) (d m:Int) (w:World) (h:bJ w g tb L d m) (hx:aQ 3 Aq (fun b=>b<g) w r (.slice aa nn cc)) (hL:L.length+(jA r).length≤1000000000) (h0:0≤d) (hdm:d≤m) (hm:m≤1000000000) :
  Calls Tryz.prog 102 #[.pointer (some ⟨g,0,none⟩),.slice aa nn cc] w fun e w'=>e = .returned (.tuple #[])∧Wrote g tb w w' (L++jA r) d m:=by
 obtain⟨W,hWe⟩:∃W,W=w:=⟨_,rfl⟩
 subst hWe
 have HW0:=hid h
 have HB:=hid (Below.refl W.heap.size W)
 have HT0:Hid (∀k,tb=some k→tb=some k∨W.heap.size≤k):=hid (fun k hk=>.inl hk)
 have HF0:Hid (cB g tb W W):=hid (aA.refl _ _)
 have hm2:=aU hb
 have hL2:L.length+((aS (aK [44]) (r.map iX)).length+2)≤1000000000:=by simp[jA] at hL;omega
 have HL:Hid (∀(V:World) (tb':Option Nat) (L':List Tk) (m':Int),bJ V g tb' L' d m'→cB g tb W V→(∀k,tb'=some k→tb=some k∨W.heap.size≤k)→L'.length+(aS (aK [44]) (r.map iX)).length≤1000000000→d≤m'→m'≤1000000000→Calls Tryz.prog 147 #[.pointer (some ⟨g,0,none⟩),.string ⟨#[44]⟩,.slice aa nn cc,.func (.func 131) #[.pointer (some ⟨g,0,none⟩)] #[]] V fun e w'=>e = .returned (.tuple #[])∧Wrote g tb' V w' (L'++aS (aK [44]) (r.map iX)) d (max m' (d+((aY (r.map fun _=>0):Nat):Int)))):=hid (fun V tb' L' m' hV hF hT hl h1 h2=>Eb 131 (enters_of Tryz.func131 (by kernel_rfl) rfl) iX (fun _=>0) [44] (by decide) r _ g tb' L' d m' V hV (hx.to (by decide) hF (cB.keeps HW0.out hF) (fun _ _ e=>e)) h1 h2 (fun _ _=>by show d+((0:Nat):Int)≤_;omega) hl (hid (fun x hxm U tb2 L2 m2 hU cs hcs hl2 h3 h4=>by obtain rfl:=hcs;rw[show max m2 (d+((0:Nat):Int))=m2 by omega];exact tq g tb2 L2 d m2 U hU x (hm2 x hxm) hl2)))
 show Calls Tryz.prog 102 _ W fun e w'=>_∧Wrote g tb W w' (L++(aK [40]::(aS (aK [44]) (r.map iX)++[aK [41]]))) d m
 have hD0:=kH r
 generalize aY (r.map fun _=>0)=D at HL hD0
 clear h hx hm2 hb hL
 generalize aS (aK [44]) (r.map iX)=T at HL hL2 ⊢
 go_enter Tryz.func102,Tryz.ntmps102
 have HX0:Hid (Calls Tryz.prog 98 #[.pointer (some ⟨g,0,none⟩),.slice (some ⟨W.heap.size,0,none⟩) 1 1] (W.alloc (.cells #[.string ⟨#[40]⟩] 9)) fun e w'=>e = .returned (.tuple #[])∧Wrote g tb W w' (L++au [[40]]) d (m)):=hid (aG g tb _ d _ [[40]] W HW0.out (by simp) (by decide) (by simp[au]<;>omega))
 go_wp2_with fail
 refine HX0.out.mono ?_
 rintro e w1 ⟨rfl,tw1,hw,ht,hf⟩
 have HW1:=hid hw
 obtain⟨ht2,hf2⟩:=aF HT0.out HF0.out ht hf
 have HT1:=hid ht2
 have HF1:=hid hf2
 clear hw ht hf ht2 hf2 HX0
 have HX1:=hid (HL.out w1 tw1 (L++au [[40]]) (m) HW1.out HF1.out HT1.out (by simp[au]<;>omega) (by omega) (by omega))
 go_wp2_with fail
 refine HX1.out.mono ?_
 rintro e w2 ⟨rfl,tw2,hw,ht,hf⟩
 have HW2:=hid hw
 obtain⟨ht2,hf2⟩:=aF HT1.out HF1.out ht hf
 have HT2:=hid ht2
 have HF2:=hid hf2
 clear hw ht hf ht2 hf2 HX1
 have HX2:Hid (Calls Tryz.prog 98 #[.pointer (some ⟨g,0,none⟩),.slice (some ⟨w2.heap.size,0,none⟩) 1 1] (w2.alloc (.cells #[.string ⟨#[41]⟩] 9)) fun e w'=>e = .returned (.tuple #[])∧Wrote g tw2 w2 w' (L++au [[40]]++T++au [[41]]) d (max (m) (d+((D:Nat):Int)))):=hid (aG g tw2 _ d _ [[41]] w2 HW2.out (by simp) (by decide) (by simp[au]<;>omega))
 go_wp2_with fail
 refine HX2.out.mono ?_
 rintro e w3 ⟨rfl,tw3,hw,ht,hf⟩
 have HW3:=hid hw
 obtain⟨ht2,hf2⟩:=aF HT2.out HF2.out ht hf
 have HT3:=hid ht2
 have HF3:=hid hf2
 clear hw ht hf ht2 hf2 HX2
 have HQ:Hid (Wrote g tb W w3 (L++(aK [40]::(T++[aK [41]]))) d (m)):=hid (by
  have h9:Wrote g tb W w3 (L++au [[40]]++T++au [[41]]) d (max (m) (d+((D:Nat):Int))):=⟨tw3,HW3.out,HT3.out,HF3.out⟩
  have h8:=Wrote.new HB.out h9
  rw[show max (m) (d+((D:Nat):Int))=m by omega] at h8
  rw[show L++au [[40]]++T++au [[41]]=L++(aK [40]::(T++[aK [41]])) by simp[au]] at h8
  exact h8)
 go_wp2
 exact bodyPost_end (v:=.tuple #[]) (by simp[results,Tryz.results102,go_sem]) rfl ⟨rfl,HQ.out⟩
theorem rA (c:Co) (hb:eY c=true) (g:Nat) (tb:Option Nat) (L:List Tk) (d m:Int) (w:World) (h:bJ w g tb L d m) (hL:L.length+(iN c).length≤1000000000) (h0:0≤d) (hdm:d≤m) (hm:m≤1000000000) :
  Calls Tryz.prog 146 #[.pointer (some ⟨g,0,none⟩),.agg #[.string (aj c.nm),.int .i64 c.k,.bool c.nn,.bool c.uq]] w fun e w'=>e = .returned (.tuple #[])∧Wrote g tb w w' (L++iN c) d m:=by
 obtain⟨cn,k,nn,uq⟩:=c
 unfold eY at hb
 simp only[Bool.and_eq_true,decide_eq_true_eq] at hb
 have hk:=hb.2
 clear hb
 dsimp only at hk ⊢
 rcases hk with rfl | rfl
 ·cases nn with
  |
   true =>
   cases uq with
   |
    true =>
    show Calls Tryz.prog 146 _ w fun e w'=>_∧Wrote g tb w w' (L++[aW cn,aK [73,78,84],aK [78,79,84],aK [78,85,76,76],aK [85,78,73,81,85,69]]) d m
    have hL:L.length+5≤1000000000:=hL
    obtain⟨W,hW,hbW,hzW,hcW⟩:=aL w (.cells #[.string (aj cn),.int .i64 1,.bool true,.bool true] 60)
    have kk0:=bq hcW
    have HB:=hid hbW
    have HW0:=hid (h.below hbW)
    have HBX0:=hid (dn.mk' h hcW (Nat.le_refl _))
    have HT0:Hid (∀k,tb=some k→tb=some k∨W.heap.size≤k):=hid (fun k hk=>.inl hk)
    have HF0:Hid (cB g tb W W):=hid (aA.refl _ _)
    clear h hbW hcW
    go_enter Tryz.func146,Tryz.ntmps146
    have HX0:=hid (bX g tb (L) d (m) W.drew (HW0.out.below (Below.refl _ W).drew) cn (by simp[au]<;>omega))
    have HS0:Hid (W.drew.cell? ⟨w.heap.size,0,none⟩=some (.string (aj cn))):=hid ((bq (HBX0.out.below (Below.refl _ W).drew).at').1)
    go_wp2_with fail
    go_region_held3 (fun w'=>w'.cell? ⟨w.heap.size,0,none⟩=some (.string (aj cn))) (first | exact HS0.out | exact HS1.out)
     (first
      | (
       go_at_call 100;refine HX0.out.mono ?_
       rintro e w1 ⟨rfl,tw1,hw,ht,hf⟩
       have HW1:=hid hw
       obtain⟨ht2,hf2⟩:=bM HT0.out HF0.out ht hf
       have HT1:=hid ht2
       have HF1:=hid hf2
       have HBX1:=hid ((HBX0.out.below (Below.refl _ W).drew).on ht hf)
       have kk1:=bq HBX1.out.at'
       clear hw ht hf ht2 hf2 HX0 kk0
       have HS1:=hid (kk1.1))
      | fail)
    clear HS0 HS1
    have HX1:Hid (Calls Tryz.prog 98 #[.pointer (some ⟨g,0,none⟩),.slice (some ⟨w1.heap.size,0,none⟩) 1 1] (w1.alloc (.cells #[.string ⟨#[73,78,84]⟩] 9)) fun e w'=>e = .returned (.tuple #[])∧Wrote g tw1 w1 w' (L++[aW cn]++au [[73,78,84]]) d (m)):=hid (aG g tw1 _ d _ [[73,78,84]] w1 HW1.out (by simp) (by decide) (by simp[au]<;>omega))
    go_wp2_with fail
    refine HX1.out.mono ?_
    rintro e w2 ⟨rfl,tw2,hw,ht,hf⟩
    have HW2:=hid hw
    obtain⟨ht2,hf2⟩:=aF HT1.out HF1.out ht hf
    have HT2:=hid ht2
    have HF2:=hid hf2
    have HBX2:=hid (HBX1.out.on ht hf)
    have kk2:=bq HBX2.out.at'
    clear hw ht hf ht2 hf2 HX1 kk1
    have HX2:Hid (Calls Tryz.prog 98 #[.pointer (some ⟨g,0,none⟩),.slice (some ⟨w2.heap.size,0,none⟩) 2 2] (w2.alloc (.cells #[.string ⟨#[78,79,84]⟩,.string ⟨#[78,85,76,76]⟩] 9)) fun e w'=>e = .returned (.tuple #[])∧Wrote g tw2 w2 w' (L++[aW cn]++au [[73,78,84]]++au [[78,79,84],[78,85,76,76]]) d (m)):=hid (aG g tw2 _ d _ [[78,79,84],[78,85,76,76]] w2 HW2.out (by simp) (by decide) (by simp[au]<;>omega))
    go_wp2_with fail
    refine HX2.out.mono ?_
    rintro e w3 ⟨rfl,tw3,hw,ht,hf⟩
    have HW3:=hid hw
    obtain⟨ht2,hf2⟩:=aF HT2.out HF2.out ht hf
    have HT3:=hid ht2
    have HF3:=hid hf2
    have HBX3:=hid (HBX2.out.on ht hf)
    have kk3:=bq HBX3.out.at'
    clear hw ht hf ht2 hf2 HX2 kk2
    have HX3:Hid (Calls Tryz.prog 98 #[.pointer (some ⟨g,0,none⟩),.slice (some ⟨w3.heap.size,0,none⟩) 1 1] (w3.alloc (.cells #[.string ⟨#[85,78,73,81,85,69]⟩] 9)) fun e w'=>e = .returned (.tuple #[])∧Wrote g tw3 w3 w' (L++[aW cn]++au [[73,78,84]]++au [[78,79,84],[78,85,76,76]]++au [[85,78,73,81,85,69]]) d (m)):=hid (aG g tw3 _ d _ [[85,78,73,81,85,69]] w3 HW3.out (by simp) (by decide) (by simp[au]<;>omega))
    go_wp2_with fail
    refine HX3.out.mono ?_
    rintro e w4 ⟨rfl,tw4,hw,ht,hf⟩
    have HW4:=hid hw
    obtain⟨ht2,hf2⟩:=aF HT3.out HF3.out ht hf
    have HT4:=hid ht2
    have HF4:=hid hf2
    have HBX4:=hid (HBX3.out.on ht hf)
    have kk4:=bq HBX4.out.at'
    clear hw ht hf ht2 hf2 HX3 kk3
    have HQ:Hid (Wrote g tb w w4 (L++([aW cn,aK [73,78,84],aK [78,79,84],aK [78,85,76,76],aK [85,78,73,81,85,69]])) d (m)):=hid (by
     have h9:Wrote g tb W w4 (L++[aW cn]++au [[73,78,84]]++au [[78,79,84],[78,85,76,76]]++au [[85,78,73,81,85,69]]) d (m):=⟨tw4,HW4.out,HT4.out,HF4.out⟩
     have h8:=Wrote.new HB.out h9
     skip
     rw[show L++[aW cn]++au [[73,78,84]]++au [[78,79,84],[78,85,76,76]]++au [[85,78,73,81,85,69]]=L++([aW cn,aK [73,78,84],aK [78,79,84],aK [78,85,76,76],aK [85,78,73,81,85,69]]) by simp[au]] at h8
     exact h8)
    go_wp2
    exact bodyPost_end (v:=.tuple #[]) (by simp[results,Tryz.results146,go_sem]) rfl ⟨rfl,HQ.out⟩
   |
    false =>
    show Calls Tryz.prog 146 _ w fun e w'=>_∧Wrote g tb w w' (L++[aW cn,aK [73,78,84],aK [78,79,84],aK [78,85,76,76]]) d m
    have hL:L.length+4≤1000000000:=hL
    obtain⟨W,hW,hbW,hzW,hcW⟩:=aL w (.cells #[.string (aj cn),.int .i64 1,.bool true,.bool false] 60)
    have kk0:=bq hcW
    have HB:=hid hbW
    have HW0:=hid (h.below hbW)
    have HBX0:=hid (dn.mk' h hcW (Nat.le_refl _))
    have HT0:Hid (∀k,tb=some k→tb=some k∨W.heap.size≤k):=hid (fun k hk=>.inl hk)
    have HF0:Hid (cB g tb W W):=hid (aA.refl _ _)
    clear h hbW hcW
    go_enter Tryz.func146,Tryz.ntmps146
    have HX0:=hid (bX g tb (L) d (m) W.drew (HW0.out.below (Below.refl _ W).drew) cn (by simp[au]<;>omega))
    have HS0:Hid (W.drew.cell? ⟨w.heap.size,0,none⟩=some (.string (aj cn))):=hid ((bq (HBX0.out.below (Below.refl _ W).drew).at').1)
    go_wp2_with fail
    go_region_held3 (fun w'=>w'.cell? ⟨w.heap.size,0,none⟩=some (.string (aj cn))) (first | exact HS0.out | exact HS1.out)
     (first
      | (
       go_at_call 100;refine HX0.out.mono ?_
       rintro e w1 ⟨rfl,tw1,hw,ht,hf⟩
       have HW1:=hid hw
       obtain⟨ht2,hf2⟩:=bM HT0.out HF0.out ht hf
       have HT1:=hid ht2
       have HF1:=hid hf2
       have HBX1:=hid ((HBX0.out.below (Below.refl _ W).drew).on ht hf)
       have kk1:=bq HBX1.out.at'
       clear hw ht hf ht2 hf2 HX0 kk0
       have HS1:=hid (kk1.1))
      | fail)
    clear HS0 HS1
    have HX1:Hid (Calls Tryz.prog 98 #[.pointer (some ⟨g,0,none⟩),.slice (some ⟨w1.heap.size,0,none⟩) 1 1] (w1.alloc (.cells #[.string ⟨#[73,78,84]⟩] 9)) fun e w'=>e = .returned (.tuple #[])∧Wrote g tw1 w1 w' (L++[aW cn]++au [[73,78,84]]) d (m)):=hid (aG g tw1 _ d _ [[73,78,84]] w1 HW1.out (by simp) (by decide) (by simp[au]<;>omega))
    go_wp2_with fail
    refine HX1.out.mono ?_
    rintro e w2 ⟨rfl,tw2,hw,ht,hf⟩
    have HW2:=hid hw
    obtain⟨ht2,hf2⟩:=aF HT1.out HF1.out ht hf
    have HT2:=hid ht2
    have HF2:=hid hf2
    have HBX2:=hid (HBX1.out.on ht hf)
    have kk2:=bq HBX2.out.at'
    clear hw ht hf ht2 hf2 HX1 kk1
    have HX2:Hid (Calls Tryz.prog 98 #[.pointer (some ⟨g,0,none⟩),.slice (some ⟨w2.heap.size,0,none⟩) 2 2] (w2.alloc (.cells #[.string ⟨#[78,79,84]⟩,.string ⟨#[78,85,76,76]⟩] 9)) fun e w'=>e = .returned (.tuple #[])∧Wrote g tw2 w2 w' (L++[aW cn]++au [[73,78,84]]++au [[78,79,84],[78,85,76,76]]) d (m)):=hid (aG g tw2 _ d _ [[78,79,84],[78,85,76,76]] w2 HW2.out (by simp) (by decide) (by simp[au]<;>omega))
    go_wp2_with fail
    refine HX2.out.mono ?_
    rintro e w3 ⟨rfl,tw3,hw,ht,hf⟩
    have HW3:=hid hw
    obtain⟨ht2,hf2⟩:=aF HT2.out HF2.out ht hf
    have HT3:=hid ht2
    have HF3:=hid hf2
    have HBX3:=hid (HBX2.out.on ht hf)
    have kk3:=bq HBX3.out.at'
    clear hw ht hf ht2 hf2 HX2 kk2
    have HQ:Hid (Wrote g tb w w3 (L++([aW cn,aK [73,78,84],aK [78,79,84],aK [78,85,76,76]])) d (m)):=hid (by
     have h9:Wrote g tb W w3 (L++[aW cn]++au [[73,78,84]]++au [[78,79,84],[78,85,76,76]]) d (m):=⟨tw3,HW3.out,HT3.out,HF3.out⟩
     have h8:=Wrote.new HB.out h9
     skip
     rw[show L++[aW cn]++au [[73,78,84]]++au [[78,79,84],[78,85,76,76]]=L++([aW cn,aK [73,78,84],aK [78,79,84],aK [78,85,76,76]]) by simp[au]] at h8
     exact h8)
    go_wp2
    exact bodyPost_end (v:=.tuple #[]) (by simp[results,Tryz.results146,go_sem]) rfl ⟨rfl,HQ.out⟩
  |
   false =>
   cases uq with
   |
    true =>
    show Calls Tryz.prog 146 _ w fun e w'=>_∧Wrote g tb w w' (L++[aW cn,aK [73,78,84],aK [85,78,73,81,85,69]]) d m
    have hL:L.length+3≤1000000000:=hL
    obtain⟨W,hW,hbW,hzW,hcW⟩:=aL w (.cells #[.string (aj cn),.int .i64 1,.bool false,.bool true] 60)
    have kk0:=bq hcW
    have HB:=hid hbW
    have HW0:=hid (h.below hbW)
    have HBX0:=hid (dn.mk' h hcW (Nat.le_refl _))
    have HT0:Hid (∀k,tb=some k→tb=some k∨W.heap.size≤k):=hid (fun k hk=>.inl hk)
    have HF0:Hid (cB g tb W W):=hid (aA.refl _ _)
    clear h hbW hcW
    go_enter Tryz.func146,Tryz.ntmps146
    have HX0:=hid (bX g tb (L) d (m) W.drew (HW0.out.below (Below.refl _ W).drew) cn (by simp[au]<;>omega))
    have HS0:Hid (W.drew.cell? ⟨w.heap.size,0,none⟩=some (.string (aj cn))):=hid ((bq (HBX0.out.below (Below.refl _ W).drew).at').1)
    go_wp2_with fail
    go_region_held3 (fun w'=>w'.cell? ⟨w.heap.size,0,none⟩=some (.string (aj cn))) (first | exact HS0.out | exact HS1.out)
     (first
      | (
       go_at_call 100;refine HX0.out.mono ?_
       rintro e w1 ⟨rfl,tw1,hw,ht,hf⟩
       have HW1:=hid hw
       obtain⟨ht2,hf2⟩:=bM HT0.out HF0.out ht hf
       have HT1:=hid ht2
       have HF1:=hid hf2
       have HBX1:=hid ((HBX0.out.below (Below.refl _ W).drew).on ht hf)
       have kk1:=bq HBX1.out.at'
       clear hw ht hf ht2 hf2 HX0 kk0
       have HS1:=hid (kk1.1))
      | fail)
    clear HS0 HS1
    have HX1:Hid (Calls Tryz.prog 98 #[.pointer (some ⟨g,0,none⟩),.slice (some ⟨w1.heap.size,0,none⟩) 1 1] (w1.alloc (.cells #[.string ⟨#[73,78,84]⟩] 9)) fun e w'=>e = .returned (.tuple #[])∧Wrote g tw1 w1 w' (L++[aW cn]++au [[73,78,84]]) d (m)):=hid (aG g tw1 _ d _ [[73,78,84]] w1 HW1.out (by simp) (by decide) (by simp[au]<;>omega))
    go_wp2_with fail
    refine HX1.out.mono ?_
    rintro e w2 ⟨rfl,tw2,hw,ht,hf⟩
    have HW2:=hid hw
    obtain⟨ht2,hf2⟩:=aF HT1.out HF1.out ht hf
    have HT2:=hid ht2
    have HF2:=hid hf2
    have HBX2:=hid (HBX1.out.on ht hf)
    have kk2:=bq HBX2.out.at'
    clear hw ht hf ht2 hf2 HX1 kk1
    have HX2:Hid (Calls Tryz.prog 98 #[.pointer (some ⟨g,0,none⟩),.slice (some ⟨w2.heap.size,0,none⟩) 1 1] (w2.alloc (.cells #[.string ⟨#[85,78,73,81,85,69]⟩] 9)) fun e w'=>e = .returned (.tuple #[])∧Wrote g tw2 w2 w' (L++[aW cn]++au [[73,78,84]]++au [[85,78,73,81,85,69]]) d (m)):=hid (aG g tw2 _ d _ [[85,78,73,81,85,69]] w2 HW2.out (by simp) (by decide) (by simp[au]<;>omega))
    go_wp2_with fail
    refine HX2.out.mono ?_
    rintro e w3 ⟨rfl,tw3,hw,ht,hf⟩
    have HW3:=hid hw
    obtain⟨ht2,hf2⟩:=aF HT2.out HF2.out ht hf
    have HT3:=hid ht2
    have HF3:=hid hf2
    have HBX3:=hid (HBX2.out.on ht hf)
    have kk3:=bq HBX3.out.at'
    clear hw ht hf ht2 hf2 HX2 kk2
    have HQ:Hid (Wrote g tb w w3 (L++([aW cn,aK [73,78,84],aK [85,78,73,81,85,69]])) d (m)):=hid (by
     have h9:Wrote g tb W w3 (L++[aW cn]++au [[73,78,84]]++au [[85,78,73,81,85,69]]) d (m):=⟨tw3,HW3.out,HT3.out,HF3.out⟩
     have h8:=Wrote.new HB.out h9
     skip
     rw[show L++[aW cn]++au [[73,78,84]]++au [[85,78,73,81,85,69]]=L++([aW cn,aK [73,78,84],aK [85,78,73,81,85,69]]) by simp[au]] at h8
     exact h8)
    go_wp2
    exact bodyPost_end (v:=.tuple #[]) (by simp[results,Tryz.results146,go_sem]) rfl ⟨rfl,HQ.out⟩
   |
    false =>
    show Calls Tryz.prog 146 _ w fun e w'=>_∧Wrote g tb w w' (L++[aW cn,aK [73,78,84]]) d m
    have hL:L.length+2≤1000000000:=hL
    obtain⟨W,hW,hbW,hzW,hcW⟩:=aL w (.cells #[.string (aj cn),.int .i64 1,.bool false,.bool false] 60)
    have kk0:=bq hcW
    have HB:=hid hbW
    have HW0:=hid (h.below hbW)
    have HBX0:=hid (dn.mk' h hcW (Nat.le_refl _))
    have HT0:Hid (∀k,tb=some k→tb=some k∨W.heap.size≤k):=hid (fun k hk=>.inl hk)
    have HF0:Hid (cB g tb W W):=hid (aA.refl _ _)
    clear h hbW hcW
    go_enter Tryz.func146,Tryz.ntmps146
    have HX0:=hid (bX g tb (L) d (m) W.drew (HW0.out.below (Below.refl _ W).drew) cn (by simp[au]<;>omega))
    have HS0:Hid (W.drew.cell? ⟨w.heap.size,0,none⟩=some (.string (aj cn))):=hid ((bq (HBX0.out.below (Below.refl _ W).drew).at').1)
    go_wp2_with fail
    go_region_held3 (fun w'=>w'.cell? ⟨w.heap.size,0,none⟩=some (.string (aj cn))) (first | exact HS0.out | exact HS1.out)
     (first
      | (
       go_at_call 100;refine HX0.out.mono ?_
       rintro e w1 ⟨rfl,tw1,hw,ht,hf⟩
       have HW1:=hid hw
       obtain⟨ht2,hf2⟩:=bM HT0.out HF0.out ht hf
       have HT1:=hid ht2
       have HF1:=hid hf2
       have HBX1:=hid ((HBX0.out.below (Below.refl _ W).drew).on ht hf)
       have kk1:=bq HBX1.out.at'
       clear hw ht hf ht2 hf2 HX0 kk0
       have HS1:=hid (kk1.1))
      | fail)
    clear HS0 HS1
    have HX1:Hid (Calls Tryz.prog 98 #[.pointer (some ⟨g,0,none⟩),.slice (some ⟨w1.heap.size,0,none⟩) 1 1] (w1.alloc (.cells #[.string ⟨#[73,78,84]⟩] 9)) fun e w'=>e = .returned (.tuple #[])∧Wrote g tw1 w1 w' (L++[aW cn]++au [[73,78,84]]) d (m)):=hid (aG g tw1 _ d _ [[73,78,84]] w1 HW1.out (by simp) (by decide) (by simp[au]<;>omega))
    go_wp2_with fail
    refine HX1.out.mono ?_
    rintro e w2 ⟨rfl,tw2,hw,ht,hf⟩
    have HW2:=hid hw
    obtain⟨ht2,hf2⟩:=aF HT1.out HF1.out ht hf
    have HT2:=hid ht2
    have HF2:=hid hf2
    have HBX2:=hid (HBX1.out.on ht hf)
    have kk2:=bq HBX2.out.at'
    clear hw ht hf ht2 hf2 HX1 kk1
    have HQ:Hid (Wrote g tb w w2 (L++([aW cn,aK [73,78,84]])) d (m)):=hid (by
     have h9:Wrote g tb W w2 (L++[aW cn]++au [[73,78,84]]) d (m):=⟨tw2,HW2.out,HT2.out,HF2.out⟩
     have h8:=Wrote.new HB.out h9
     skip
     rw[show L++[aW cn]++au [[73,78,84]]=L++([aW cn,aK [73,78,84]]) by simp[au]] at h8
     exact h8)
    go_wp2
    exact bodyPost_end (v:=.tuple #[]) (by simp[results,Tryz.results146,go_sem]) rfl ⟨rfl,HQ.out⟩
 ·cases nn with
  |
   true =>
   cases uq with
   |
    true =>
    show Calls Tryz.prog 146 _ w fun e w'=>_∧Wrote g tb w w' (L++[aW cn,aK [84,69,88,84],aK [78,79,84],aK [78,85,76,76],aK [85,78,73,81,85,69]]) d m
    have hL:L.length+5≤1000000000:=hL
    obtain⟨W,hW,hbW,hzW,hcW⟩:=aL w (.cells #[.string (aj cn),.int .i64 2,.bool true,.bool true] 60)
    have kk0:=bq hcW
    have HB:=hid hbW
    have HW0:=hid (h.below hbW)
    have HBX0:=hid (dn.mk' h hcW (Nat.le_refl _))
    have HT0:Hid (∀k,tb=some k→tb=some k∨W.heap.size≤k):=hid (fun k hk=>.inl hk)
    have HF0:Hid (cB g tb W W):=hid (aA.refl _ _)
    clear h hbW hcW
    go_enter Tryz.func146,Tryz.ntmps146
    have HX0:=hid (bX g tb (L) d (m) W.drew (HW0.out.below (Below.refl _ W).drew) cn (by simp[au]<;>omega))
    have HS0:Hid (W.drew.cell? ⟨w.heap.size,0,none⟩=some (.string (aj cn))):=hid ((bq (HBX0.out.below (Below.refl _ W).drew).at').1)
    go_wp2_with fail
    go_region_held3 (fun w'=>w'.cell? ⟨w.heap.size,0,none⟩=some (.string (aj cn))) (first | exact HS0.out | exact HS1.out)
     (first
      | (
       go_at_call 100;refine HX0.out.mono ?_
       rintro e w1 ⟨rfl,tw1,hw,ht,hf⟩
       have HW1:=hid hw
       obtain⟨ht2,hf2⟩:=bM HT0.out HF0.out ht hf
       have HT1:=hid ht2
       have HF1:=hid hf2
       have HBX1:=hid ((HBX0.out.below (Below.refl _ W).drew).on ht hf)
       have kk1:=bq HBX1.out.at'
       clear hw ht hf ht2 hf2 HX0 kk0
       have HS1:=hid (kk1.1))
      | fail)
    clear HS0 HS1
    have HX1:Hid (Calls Tryz.prog 98 #[.pointer (some ⟨g,0,none⟩),.slice (some ⟨w1.heap.size,0,none⟩) 1 1] (w1.alloc (.cells #[.string ⟨#[84,69,88,84]⟩] 9)) fun e w'=>e = .returned (.tuple #[])∧Wrote g tw1 w1 w' (L++[aW cn]++au [[84,69,88,84]]) d (m)):=hid (aG g tw1 _ d _ [[84,69,88,84]] w1 HW1.out (by simp) (by decide) (by simp[au]<;>omega))
    go_wp2_with fail
    refine HX1.out.mono ?_
    rintro e w2 ⟨rfl,tw2,hw,ht,hf⟩
    have HW2:=hid hw
    obtain⟨ht2,hf2⟩:=aF HT1.out HF1.out ht hf
    have HT2:=hid ht2
    have HF2:=hid hf2
    have HBX2:=hid (HBX1.out.on ht hf)
    have kk2:=bq HBX2.out.at'
    clear hw ht hf ht2 hf2 HX1 kk1
    have HX2:Hid (Calls Tryz.prog 98 #[.pointer (some ⟨g,0,none⟩),.slice (some ⟨w2.heap.size,0,none⟩) 2 2] (w2.alloc (.cells #[.string ⟨#[78,79,84]⟩,.string ⟨#[78,85,76,76]⟩] 9)) fun e w'=>e = .returned (.tuple #[])∧Wrote g tw2 w2 w' (L++[aW cn]++au [[84,69,88,84]]++au [[78,79,84],[78,85,76,76]]) d (m)):=hid (aG g tw2 _ d _ [[78,79,84],[78,85,76,76]] w2 HW2.out (by simp) (by decide) (by simp[au]<;>omega))
    go_wp2_with fail
    refine HX2.out.mono ?_
    rintro e w3 ⟨rfl,tw3,hw,ht,hf⟩
    have HW3:=hid hw
    obtain⟨ht2,hf2⟩:=aF HT2.out HF2.out ht hf
    have HT3:=hid ht2
    have HF3:=hid hf2
    have HBX3:=hid (HBX2.out.on ht hf)
    have kk3:=bq HBX3.out.at'
    clear hw ht hf ht2 hf2 HX2 kk2
    have HX3:Hid (Calls Tryz.prog 98 #[.pointer (some ⟨g,0,none⟩),.slice (some ⟨w3.heap.size,0,none⟩) 1 1] (w3.alloc (.cells #[.string ⟨#[85,78,73,81,85,69]⟩] 9)) fun e w'=>e = .returned (.tuple #[])∧Wrote g tw3 w3 w' (L++[aW cn]++au [[84,69,88,84]]++au [[78,79,84],[78,85,76,76]]++au [[85,78,73,81,85,69]]) d (m)):=hid (aG g tw3 _ d _ [[85,78,73,81,85,69]] w3 HW3.out (by simp) (by decide) (by simp[au]<;>omega))
    go_wp2_with fail
    refine HX3.out.mono ?_
    rintro e w4 ⟨rfl,tw4,hw,ht,hf⟩
    have HW4:=hid hw
    obtain⟨ht2,hf2⟩:=aF HT3.out HF3.out ht hf
    have HT4:=hid ht2
    have HF4:=hid hf2
    have HBX4:=hid (HBX3.out.on ht hf)
    have kk4:=bq HBX4.out.at'
    clear hw ht hf ht2 hf2 HX3 kk3
    have HQ:Hid (Wrote g tb w w4 (L++([aW cn,aK [84,69,88,84],aK [78,79,84],aK [78,85,76,76],aK [85,78,73,81,85,69]])) d (m)):=hid (by
     have h9:Wrote g tb W w4 (L++[aW cn]++au [[84,69,88,84]]++au [[78,79,84],[78,85,76,76]]++au [[85,78,73,81,85,69]]) d (m):=⟨tw4,HW4.out,HT4.out,HF4.out⟩
     have h8:=Wrote.new HB.out h9
     skip
     rw[show L++[aW cn]++au [[84,69,88,84]]++au [[78,79,84],[78,85,76,76]]++au [[85,78,73,81,85,69]]=L++([aW cn,aK [84,69,88,84],aK [78,79,84],aK [78,85,76,76],aK [85,78,73,81,85,69]]) by simp[au]] at h8
     exact h8)
    go_wp2
    exact bodyPost_end (v:=.tuple #[]) (by simp[results,Tryz.results146,go_sem]) rfl ⟨rfl,HQ.out⟩
   |
    false =>
    show Calls Tryz.prog 146 _ w fun e w'=>_∧Wrote g tb w w' (L++[aW cn,aK [84,69,88,84],aK [78,79,84],aK [78,85,76,76]]) d m
    have hL:L.length+4≤1000000000:=hL
    obtain⟨W,hW,hbW,hzW,hcW⟩:=aL w (.cells #[.string (aj cn),.int .i64 2,.bool true,.bool false] 60)
    have kk0:=bq hcW
    have HB:=hid hbW
    have HW0:=hid (h.below hbW)
    have HBX0:=hid (dn.mk' h hcW (Nat.le_refl _))
    have HT0:Hid (∀k,tb=some k→tb=some k∨W.heap.size≤k):=hid (fun k hk=>.inl hk)
    have HF0:Hid (cB g tb W W):=hid (aA.refl _ _)
    clear h hbW hcW
    go_enter Tryz.func146,Tryz.ntmps146
    have HX0:=hid (bX g tb (L) d (m) W.drew (HW0.out.below (Below.refl _ W).drew) cn (by simp[au]<;>omega))
    have HS0:Hid (W.drew.cell? ⟨w.heap.size,0,none⟩=some (.string (aj cn))):=hid ((bq (HBX0.out.below (Below.refl _ W).drew).at').1)
    go_wp2_with fail
    go_region_held3 (fun w'=>w'.cell? ⟨w.heap.size,0,none⟩=some (.string (aj cn))) (first | exact HS0.out | exact HS1.out)
     (first
      | (
       go_at_call 100;refine HX0.out.mono ?_
       rintro e w1 ⟨rfl,tw1,hw,ht,hf⟩
       have HW1:=hid hw
       obtain⟨ht2,hf2⟩:=bM HT0.out HF0.out ht hf
       have HT1:=hid ht2
       have HF1:=hid hf2
       have HBX1:=hid ((HBX0.out.below (Below.refl _ W).drew).on ht hf)
       have kk1:=bq HBX1.out.at'
       clear hw ht hf ht2 hf2 HX0 kk0
       have HS1:=hid (kk1.1))
      | fail)
    clear HS0 HS1
    have HX1:Hid (Calls Tryz.prog 98 #[.pointer (some ⟨g,0,none⟩),.slice (some ⟨w1.heap.size,0,none⟩) 1 1] (w1.alloc (.cells #[.string ⟨#[84,69,88,84]⟩] 9)) fun e w'=>e = .returned (.tuple #[])∧Wrote g tw1 w1 w' (L++[aW cn]++au [[84,69,88,84]]) d (m)):=hid (aG g tw1 _ d _ [[84,69,88,84]] w1 HW1.out (by simp) (by decide) (by simp[au]<;>omega))
    go_wp2_with fail
    refine HX1.out.mono ?_
    rintro e w2 ⟨rfl,tw2,hw,ht,hf⟩
    have HW2:=hid hw
    obtain⟨ht2,hf2⟩:=aF HT1.out HF1.out ht hf
    have HT2:=hid ht2
    have HF2:=hid hf2
    have HBX2:=hid (HBX1.out.on ht hf)
    have kk2:=bq HBX2.out.at'
    clear hw ht hf ht2 hf2 HX1 kk1
    have HX2:Hid (Calls Tryz.prog 98 #[.pointer (some ⟨g,0,none⟩),.slice (some ⟨w2.heap.size,0,none⟩) 2 2] (w2.alloc (.cells #[.string ⟨#[78,79,84]⟩,.string ⟨#[78,85,76,76]⟩] 9)) fun e w'=>e = .returned (.tuple #[])∧Wrote g tw2 w2 w' (L++[aW cn]++au [[84,69,88,84]]++au [[78,79,84],[78,85,76,76]]) d (m)):=hid (aG g tw2 _ d _ [[78,79,84],[78,85,76,76]] w2 HW2.out (by simp) (by decide) (by simp[au]<;>omega))
    go_wp2_with fail
    refine HX2.out.mono ?_
    rintro e w3 ⟨rfl,tw3,hw,ht,hf⟩
    have HW3:=hid hw
    obtain⟨ht2,hf2⟩:=aF HT2.out HF2.out ht hf
    have HT3:=hid ht2
    have HF3:=hid hf2
    have HBX3:=hid (HBX2.out.on ht hf)
    have kk3:=bq HBX3.out.at'
    clear hw ht hf ht2 hf2 HX2 kk2
    have HQ:Hid (Wrote g tb w w3 (L++([aW cn,aK [84,69,88,84],aK [78,79,84],aK [78,85,76,76]])) d (m)):=hid (by
     have h9:Wrote g tb W w3 (L++[aW cn]++au [[84,69,88,84]]++au [[78,79,84],[78,85,76,76]]) d (m):=⟨tw3,HW3.out,HT3.out,HF3.out⟩
     have h8:=Wrote.new HB.out h9
     skip
     rw[show L++[aW cn]++au [[84,69,88,84]]++au [[78,79,84],[78,85,76,76]]=L++([aW cn,aK [84,69,88,84],aK [78,79,84],aK [78,85,76,76]]) by simp[au]] at h8
     exact h8)
    go_wp2
    exact bodyPost_end (v:=.tuple #[]) (by simp[results,Tryz.results146,go_sem]) rfl ⟨rfl,HQ.out⟩
  |
   false =>
   cases uq with
   |
    true =>
    show Calls Tryz.prog 146 _ w fun e w'=>_∧Wrote g tb w w' (L++[aW cn,aK [84,69,88,84],aK [85,78,73,81,85,69]]) d m
    have hL:L.length+3≤1000000000:=hL
    obtain⟨W,hW,hbW,hzW,hcW⟩:=aL w (.cells #[.string (aj cn),.int .i64 2,.bool false,.bool true] 60)
    have kk0:=bq hcW
    have HB:=hid hbW
    have HW0:=hid (h.below hbW)
    have HBX0:=hid (dn.mk' h hcW (Nat.le_refl _))
    have HT0:Hid (∀k,tb=some k→tb=some k∨W.heap.size≤k):=hid (fun k hk=>.inl hk)
    have HF0:Hid (cB g tb W W):=hid (aA.refl _ _)
    clear h hbW hcW
    go_enter Tryz.func146,Tryz.ntmps146
    have HX0:=hid (bX g tb (L) d (m) W.drew (HW0.out.below (Below.refl _ W).drew) cn (by simp[au]<;>omega))
    have HS0:Hid (W.drew.cell? ⟨w.heap.size,0,none⟩=some (.string (aj cn))):=hid ((bq (HBX0.out.below (Below.refl _ W).drew).at').1)
    go_wp2_with fail
    go_region_held3 (fun w'=>w'.cell? ⟨w.heap.size,0,none⟩=some (.string (aj cn))) (first | exact HS0.out | exact HS1.out)
     (first
      | (
       go_at_call 100;refine HX0.out.mono ?_
       rintro e w1 ⟨rfl,tw1,hw,ht,hf⟩
       have HW1:=hid hw
       obtain⟨ht2,hf2⟩:=bM HT0.out HF0.out ht hf
       have HT1:=hid ht2
       have HF1:=hid hf2
       have HBX1:=hid ((HBX0.out.below (Below.refl _ W).drew).on ht hf)
       have kk1:=bq HBX1.out.at'
       clear hw ht hf ht2 hf2 HX0 kk0
       have HS1:=hid (kk1.1))
      | fail)
    clear HS0 HS1
    have HX1:Hid (Calls Tryz.prog 98 #[.pointer (some ⟨g,0,none⟩),.slice (some ⟨w1.heap.size,0,none⟩) 1 1] (w1.alloc (.cells #[.string ⟨#[84,69,88,84]⟩] 9)) fun e w'=>e = .returned (.tuple #[])∧Wrote g tw1 w1 w' (L++[aW cn]++au [[84,69,88,84]]) d (m)):=hid (aG g tw1 _ d _ [[84,69,88,84]] w1 HW1.out (by simp) (by decide) (by simp[au]<;>omega))
    go_wp2_with fail
    refine HX1.out.mono ?_
    rintro e w2 ⟨rfl,tw2,hw,ht,hf⟩
    have HW2:=hid hw
    obtain⟨ht2,hf2⟩:=aF HT1.out HF1.out ht hf
    have HT2:=hid ht2
    have HF2:=hid hf2
    have HBX2:=hid (HBX1.out.on ht hf)
    have kk2:=bq HBX2.out.at'
    clear hw ht hf ht2 hf2 HX1 kk1
    have HX2:Hid (Calls Tryz.prog 98 #[.pointer (some ⟨g,0,none⟩),.slice (some ⟨w2.heap.size,0,none⟩) 1 1] (w2.alloc (.cells #[.string ⟨#[85,78,73,81,85,69]⟩] 9)) fun e w'=>e = .returned (.tuple #[])∧Wrote g tw2 w2 w' (L++[aW cn]++au [[84,69,88,84]]++au [[85,78,73,81,85,69]]) d (m)):=hid (aG g tw2 _ d _ [[85,78,73,81,85,69]] w2 HW2.out (by simp) (by decide) (by simp[au]<;>omega))
    go_wp2_with fail
    refine HX2.out.mono ?_
    rintro e w3 ⟨rfl,tw3,hw,ht,hf⟩
    have HW3:=hid hw
    obtain⟨ht2,hf2⟩:=aF HT2.out HF2.out ht hf
    have HT3:=hid ht2
    have HF3:=hid hf2
    have HBX3:=hid (HBX2.out.on ht hf)
    have kk3:=bq HBX3.out.at'
    clear hw ht hf ht2 hf2 HX2 kk2
    have HQ:Hid (Wrote g tb w w3 (L++([aW cn,aK [84,69,88,84],aK [85,78,73,81,85,69]])) d (m)):=hid (by
     have h9:Wrote g tb W w3 (L++[aW cn]++au [[84,69,88,84]]++au [[85,78,73,81,85,69]]) d (m):=⟨tw3,HW3.out,HT3.out,HF3.out⟩
     have h8:=Wrote.new HB.out h9
     skip
     rw[show L++[aW cn]++au [[84,69,88,84]]++au [[85,78,73,81,85,69]]=L++([aW cn,aK [84,69,88,84],aK [85,78,73,81,85,69]]) by simp[au]] at h8
     exact h8)
    go_wp2
    exact bodyPost_end (v:=.tuple #[]) (by simp[results,Tryz.results146,go_sem]) rfl ⟨rfl,HQ.out⟩
   |
    false =>
    show Calls Tryz.prog 146 _ w fun e w'=>_∧Wrote g tb w w' (L++[aW cn,aK [84,69,88,84]]) d m
    have hL:L.length+2≤1000000000:=hL
    obtain⟨W,hW,hbW,hzW,hcW⟩:=aL w (.cells #[.string (aj cn),.int .i64 2,.bool false,.bool false] 60)
    have kk0:=bq hcW
    have HB:=hid hbW
    have HW0:=hid (h.below hbW)
    have HBX0:=hid (dn.mk' h hcW (Nat.le_refl _))
    have HT0:Hid (∀k,tb=some k→tb=some k∨W.heap.size≤k):=hid (fun k hk=>.inl hk)
    have HF0:Hid (cB g tb W W):=hid (aA.refl _ _)
    clear h hbW hcW
    go_enter Tryz.func146,Tryz.ntmps146
    have HX0:=hid (bX g tb (L) d (m) W.drew (HW0.out.below (Below.refl _ W).drew) cn (by simp[au]<;>omega))
    have HS0:Hid (W.drew.cell? ⟨w.heap.size,0,none⟩=some (.string (aj cn))):=hid ((bq (HBX0.out.below (Below.refl _ W).drew).at').1)
    go_wp2_with fail
    go_region_held3 (fun w'=>w'.cell? ⟨w.heap.size,0,none⟩=some (.string (aj cn))) (first | exact HS0.out | exact HS1.out)
     (first
      | (
       go_at_call 100;refine HX0.out.mono ?_
       rintro e w1 ⟨rfl,tw1,hw,ht,hf⟩
       have HW1:=hid hw
       obtain⟨ht2,hf2⟩:=bM HT0.out HF0.out ht hf
       have HT1:=hid ht2
       have HF1:=hid hf2
       have HBX1:=hid ((HBX0.out.below (Below.refl _ W).drew).on ht hf)
       have kk1:=bq HBX1.out.at'
       clear hw ht hf ht2 hf2 HX0 kk0
       have HS1:=hid (kk1.1))
      | fail)
    clear HS0 HS1
    have HX1:Hid (Calls Tryz.prog 98 #[.pointer (some ⟨g,0,none⟩),.slice (some ⟨w1.heap.size,0,none⟩) 1 1] (w1.alloc (.cells #[.string ⟨#[84,69,88,84]⟩] 9)) fun e w'=>e = .returned (.tuple #[])∧Wrote g tw1 w1 w' (L++[aW cn]++au [[84,69,88,84]]) d (m)):=hid (aG g tw1 _ d _ [[84,69,88,84]] w1 HW1.out (by simp) (by decide) (by simp[au]<;>omega))
    go_wp2_with fail
    refine HX1.out.mono ?_
    rintro e w2 ⟨rfl,tw2,hw,ht,hf⟩
    have HW2:=hid hw
    obtain⟨ht2,hf2⟩:=aF HT1.out HF1.out ht hf
    have HT2:=hid ht2
    have HF2:=hid hf2
    have HBX2:=hid (HBX1.out.on ht hf)
    have kk2:=bq HBX2.out.at'
    clear hw ht hf ht2 hf2 HX1 kk1
    have HQ:Hid (Wrote g tb w w2 (L++([aW cn,aK [84,69,88,84]])) d (m)):=hid (by
     have h9:Wrote g tb W w2 (L++[aW cn]++au [[84,69,88,84]]) d (m):=⟨tw2,HW2.out,HT2.out,HF2.out⟩
     have h8:=Wrote.new HB.out h9
     skip
     rw[show L++[aW cn]++au [[84,69,88,84]]=L++([aW cn,aK [84,69,88,84]]) by simp[au]] at h8
     exact h8)
    go_wp2
    exact bodyPost_end (v:=.tuple #[]) (by simp[results,Tryz.results146,go_sem]) rfl ⟨rfl,HQ.out⟩
end Go.Proofs.YtfeglkleoijlaaaGreatDoor
