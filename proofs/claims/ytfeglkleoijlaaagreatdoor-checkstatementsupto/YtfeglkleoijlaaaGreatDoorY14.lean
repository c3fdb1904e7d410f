import Derived.Test.YtfeglkleoijlaaaGreatDoorY13
import Derived.Test.YtfeglkleoijlaaaGreatDoorY11
import Derived.Deep.RegionHeld3
import Derived.Test.YtfeglkleoijlaaaGreatDoorY04
import Derived.Deep.QuietTactic
import Derived.BigQuiet
namespace Go.Proofs.YtfeglkleoijlaaaGreatDoor
open Go.RowKit Go.Shelf
set_option linter.unusedSimpArgs false
set_option linter.unusedVariables false
set_option maxRecDepth 20000
set_option maxHeartbeats 8000000
theorem qC {α:Type}:∀l:List α,aZ (l.map fun _=>0)=0
 | []=>rfl
 | x::l=>by show max 0 (aZ (l.map fun _=>0))=0;rw[qC l];rfl
theorem iE {α:Type} (f:α→Nat):∀(l:List α) (x:α),x∈l→f x≤aZ (l.map f)
 |
  a::l,x,h=>by
  show f x≤max (f a) (aZ (l.map f))
  rcases abg.1 h with rfl | h
  ·omega
  ·have:=iE f l x h;omega
theorem UW (i:It) (hb:oQ i=true) (cs:List Value) (g:Nat) (tb:Option Nat) (L:List Tk) (d m:Int) (w:World) (h:bO w g tb L d m) (hx:vY (fun b=>b<g) w i cs) (hL:L.length+(Fx i).length≤1000000000) (h0:0≤d) (jy:d≤m) (hm:m≤1000000000) (hd:d+(KJ i:Nat)≤1000000000) :
  Calls Tryz.prog 149 #[.pointer (some ⟨g,0,none⟩),.agg cs.toArray] w fun e w'=>e = .returned (.tuple #[])∧Wrote g tb w w' (L++Fx i) d (max m (d+(KJ i:Nat))):=by
 obtain⟨aa,nn,cc,rfl,ha⟩:=hx
 obtain⟨k,xs⟩:=i
 unfold oQ at hb
 unfold Fx at hL ⊢
 unfold KJ at hd ⊢
 dsimp only at ha hb hL hd ⊢
 by_cases hk1:k=1
 ·subst hk1
  have hz:xs.length=0:=by rw[if_pos (by omega)] at hb;simpa using hb
  obtain rfl:xs=[]:=aaR hz
  have e0:max m (d+((dH []:Nat):Int))=m:=by show max m (d+((0:Nat):Int))=m;omega
  rw[e0]
  clear e0 hb hz hd
  obtain⟨W,hW,hbW,aJ,hcW⟩:=aK w (.cells #[.int .i64 1,.slice aa nn cc] 55)
  have rG:=gK hcW
  have HB:=hid hbW
  have HW0:=hid (h.below hbW)
  have iD:=hid (fP.mk' h hcW (aaF _))
  have HT0:Hid (∀k,tb=some k→tb=some k∨W.heap.size≤k):=hid (fun k hk=>.inl hk)
  have o9:Hid (eP g tb W W):=hid (ak.refl _ _)
  clear h hbW hcW ha
  have hL:L.length+1≤1000000000:=by simpa [ay] using hL
  show Calls Tryz.prog 149 _ w fun e w'=>_∧Wrote g tb w w' (L++ay [[42]]) d m
  go_enter Tryz.func149,Tryz.ntmps149
  have HX0:Hid (Calls Tryz.prog 98 #[.pointer (some ⟨g,0,none⟩),.slice (some ⟨W.heap.size,0,none⟩) 1 1] (W.alloc (.cells #[.string ⟨#[42]⟩] 9)) fun e w'=>e = .returned (.tuple #[])∧Wrote g tb W w' (L++ay [[42]]) d (m)):=hid (aX g tb _ d _ [[42]] W HW0.out (by simp) (by decide) (by simp[ay]<;>omega))
  go_wp2_with fail
  refine HX0.out.mono ?_
  rintro e w1 ⟨rfl,kK,hw,ht,hf⟩
  have HW1:=hid hw
  obtain⟨ht2,hf2⟩:=bY HT0.out o9.out ht hf
  have HT1:=hid ht2
  have jG:=hid hf2
  have iy:=hid (iD.out.on ht hf)
  have iU:=gK iy.out.at'
  clear hw ht hf ht2 hf2 HX0 rG
  have HQ:Hid (Wrote g tb w w1 (L++(ay [[42]])) d (m)):=hid (by
   have h9:Wrote g tb W w1 (L++ay [[42]]) d (m):=⟨kK,HW1.out,HT1.out,jG.out⟩
   have h8:=Wrote.new HB.out h9
   skip
   rw[show L++ay [[42]]=L++(ay [[42]]) by simp[ay]] at h8
   exact h8)
  go_wp2
  exact bodyPost_end (v:=.tuple #[]) (by simp[results,Tryz.results149,go_sem]) rfl ⟨rfl,HQ.out⟩
 by_cases hk3:k=3
 ·subst hk3
  have hz:xs.length=0:=by rw[if_pos (by omega)] at hb;simpa using hb
  obtain rfl:xs=[]:=aaR hz
  have e0:max m (d+((dH []:Nat):Int))=m:=by show max m (d+((0:Nat):Int))=m;omega
  rw[e0]
  clear e0 hb hz hd
  obtain⟨W,hW,hbW,aJ,hcW⟩:=aK w (.cells #[.int .i64 3,.slice aa nn cc] 55)
  have rG:=gK hcW
  have HB:=hid hbW
  have HW0:=hid (h.below hbW)
  have iD:=hid (fP.mk' h hcW (aaF _))
  have HT0:Hid (∀k,tb=some k→tb=some k∨W.heap.size≤k):=hid (fun k hk=>.inl hk)
  have o9:Hid (eP g tb W W):=hid (ak.refl _ _)
  clear h hbW hcW ha
  have hL:L.length+4≤1000000000:=by simpa [ay] using hL
  show Calls Tryz.prog 149 _ w fun e w'=>_∧Wrote g tb w w' (L++ay [[67,79,85,78,84],[40],[42],[41]]) d m
  go_enter Tryz.func149,Tryz.ntmps149
  have HX0:Hid (Calls Tryz.prog 98 #[.pointer (some ⟨g,0,none⟩),.slice (some ⟨W.heap.size,0,none⟩) 4 4] (W.alloc (.cells #[.string ⟨#[67,79,85,78,84]⟩,.string ⟨#[40]⟩,.string ⟨#[42]⟩,.string ⟨#[41]⟩] 9)) fun e w'=>e = .returned (.tuple #[])∧Wrote g tb W w' (L++ay [[67,79,85,78,84],[40],[42],[41]]) d (m)):=hid (aX g tb _ d _ [[67,79,85,78,84],[40],[42],[41]] W HW0.out (by simp) (by decide) (by simp[ay]<;>omega))
  go_wp2_with fail
  refine HX0.out.mono ?_
  rintro e w1 ⟨rfl,kK,hw,ht,hf⟩
  have HW1:=hid hw
  obtain⟨ht2,hf2⟩:=bY HT0.out o9.out ht hf
  have HT1:=hid ht2
  have jG:=hid hf2
  have iy:=hid (iD.out.on ht hf)
  have iU:=gK iy.out.at'
  clear hw ht hf ht2 hf2 HX0 rG
  have HQ:Hid (Wrote g tb w w1 (L++(ay [[67,79,85,78,84],[40],[42],[41]])) d (m)):=hid (by
   have h9:Wrote g tb W w1 (L++ay [[67,79,85,78,84],[40],[42],[41]]) d (m):=⟨kK,HW1.out,HT1.out,jG.out⟩
   have h8:=Wrote.new HB.out h9
   skip
   rw[show L++ay [[67,79,85,78,84],[40],[42],[41]]=L++(ay [[67,79,85,78,84],[40],[42],[41]]) by simp[ay]] at h8
   exact h8)
  go_wp2
  exact bodyPost_end (v:=.tuple #[]) (by simp[results,Tryz.results149,go_sem]) rfl ⟨rfl,HQ.out⟩
 rw[if_neg (by omega)] at hb
 rw[if_neg hk1] at hL ⊢
 split at hb
 ·rename_i hkk
  obtain⟨x,l,rfl,hl1,hp⟩:=ug hb
  obtain rfl:l=[]:=aaR (by omega)
  have hr:=hp x (by simp)
  have hD:dH [x]=jw x:=by show max (jw x) 0=jw x;omega
  rw[hD] at hd ⊢
  rw[show [x].headD tO=x from rfl] at hL ⊢
  clear hb hp hD hl1
  by_cases hk2:k=2
  ·rw[if_pos hk2] at hL ⊢
   subst hk2
   obtain⟨W,hW,hbW,aJ,hcW⟩:=aK w (.cells #[.int .i64 2,.slice aa nn cc] 55)
   have rG:=gK hcW
   have HB:=hid hbW
   have HW0:=hid (h.below hbW)
   have iD:=hid (fP.mk' h hcW (aaF _))
   have HT0:Hid (∀k,tb=some k→tb=some k∨W.heap.size≤k):=hid (fun k hk=>.inl hk)
   have o9:Hid (eP g tb W W):=hid (ak.refl _ _)
   obtain⟨g1,g2,g3,b,off,k1,op1,KY,fU,fJ,fI,vs1,ys1,eD,dF,eB,hxe,rfl,_,c1,r1⟩:=fH (ha.new hbW)
   rw[List.length_nil,Nat.zero_add] at g1
   subst g1
   unfold maxLen at g3
   have HX0:=hid (QX x hr _ g tb L d m W HW0.out (gH.mk' hxe r1) hL h0 jy hm hd)
   unfold Cells8 at c1
   clear h hbW hcW ha r1 hxe hr
   generalize qb x=T at HX0 hL ⊢
   generalize jw x=D at HX0 hd ⊢
   go_enter Tryz.func149,Tryz.ntmps149
   go_wp2_with fail
   refine HX0.out.mono ?_
   rintro e w1 ⟨rfl,h1⟩
   have HQ:=hid (Wrote.new HB.out h1)
   clear h1 HX0
   go_wp2
   exact bodyPost_end (v:=.tuple #[]) (by simp[results,Tryz.results149,go_sem]) rfl ⟨rfl,HQ.out⟩
  ·rw[if_neg hk2,if_neg hk3] at hL ⊢
   have hL3:L.length+((qb x).length+3)≤1000000000:=by simp[ay] at hL;omega
   have hk4:k=4∨k=5∨k=6∨k=7:=by omega
   clear hkk hk1 hk2 hk3 hL
   rcases hk4 with rfl | rfl | rfl | rfl
   ·obtain⟨W,hW,hbW,aJ,hcW⟩:=aK w (.cells #[.int .i64 4,.slice aa nn cc] 55)
    have rG:=gK hcW
    have HB:=hid hbW
    have HW0:=hid (h.below hbW)
    have iD:=hid (fP.mk' h hcW (aaF _))
    have HT0:Hid (∀k,tb=some k→tb=some k∨W.heap.size≤k):=hid (fun k hk=>.inl hk)
    have o9:Hid (eP g tb W W):=hid (ak.refl _ _)
    obtain⟨g1,g2,g3,b,off,k1,op1,KY,fU,fJ,fI,vs1,ys1,eD,dF,eB,hxe,rfl,_,c1,r1⟩:=fH (ha.new hbW)
    rw[List.length_nil,Nat.zero_add] at g1
    subst g1
    unfold maxLen at g3
    have HX0:Hid (Calls Tryz.prog 166 #[.pointer (some ⟨g,0,none⟩),.string ⟨#[67,79,85,78,84]⟩,.agg #[.int .i64 k1,.int .i64 op1,.string (aj KY),.string (aj fU),.int .i64 fJ,.int .i64 fI,.string (aj vs1),.slice eD dF eB]] W fun e w'=>e = .returned (.tuple #[])∧Wrote g tb W w' (L++(ay [PE 4,[40]]++(qb x++[bg [41]]))) d (max m (d+(jw x:Nat)))):=hid (Ca [67,79,85,78,84] (by decide) x hr _ g tb L d m W HW0.out (gH.mk' hxe r1) hL3 h0 jy hm hd)
    unfold Cells8 at c1
    clear h hbW hcW ha r1 hxe hr
    generalize ay [PE 4,[40]]++(qb x++[bg [41]])=T at HX0 ⊢
    generalize jw x=D at HX0 hd ⊢
    go_enter Tryz.func149,Tryz.ntmps149
    go_wp2_with fail
    refine HX0.out.mono ?_
    rintro e w1 ⟨rfl,h1⟩
    have HQ:=hid (Wrote.new HB.out h1)
    clear h1 HX0
    go_wp2
    exact bodyPost_end (v:=.tuple #[]) (by simp[results,Tryz.results149,go_sem]) rfl ⟨rfl,HQ.out⟩
   ·obtain⟨W,hW,hbW,aJ,hcW⟩:=aK w (.cells #[.int .i64 5,.slice aa nn cc] 55)
    have rG:=gK hcW
    have HB:=hid hbW
    have HW0:=hid (h.below hbW)
    have iD:=hid (fP.mk' h hcW (aaF _))
    have HT0:Hid (∀k,tb=some k→tb=some k∨W.heap.size≤k):=hid (fun k hk=>.inl hk)
    have o9:Hid (eP g tb W W):=hid (ak.refl _ _)
    obtain⟨g1,g2,g3,b,off,k1,op1,KY,fU,fJ,fI,vs1,ys1,eD,dF,eB,hxe,rfl,_,c1,r1⟩:=fH (ha.new hbW)
    rw[List.length_nil,Nat.zero_add] at g1
    subst g1
    unfold maxLen at g3
    have HX0:Hid (Calls Tryz.prog 166 #[.pointer (some ⟨g,0,none⟩),.string ⟨#[83,85,77]⟩,.agg #[.int .i64 k1,.int .i64 op1,.string (aj KY),.string (aj fU),.int .i64 fJ,.int .i64 fI,.string (aj vs1),.slice eD dF eB]] W fun e w'=>e = .returned (.tuple #[])∧Wrote g tb W w' (L++(ay [PE 5,[40]]++(qb x++[bg [41]]))) d (max m (d+(jw x:Nat)))):=hid (Ca [83,85,77] (by decide) x hr _ g tb L d m W HW0.out (gH.mk' hxe r1) hL3 h0 jy hm hd)
    unfold Cells8 at c1
    clear h hbW hcW ha r1 hxe hr
    generalize ay [PE 5,[40]]++(qb x++[bg [41]])=T at HX0 ⊢
    generalize jw x=D at HX0 hd ⊢
    go_enter Tryz.func149,Tryz.ntmps149
    go_wp2_with fail
    refine HX0.out.mono ?_
    rintro e w1 ⟨rfl,h1⟩
    have HQ:=hid (Wrote.new HB.out h1)
    clear h1 HX0
    go_wp2
    exact bodyPost_end (v:=.tuple #[]) (by simp[results,Tryz.results149,go_sem]) rfl ⟨rfl,HQ.out⟩
   ·obtain⟨W,hW,hbW,aJ,hcW⟩:=aK w (.cells #[.int .i64 6,.slice aa nn cc] 55)
    have rG:=gK hcW
    have HB:=hid hbW
    have HW0:=hid (h.below hbW)
    have iD:=hid (fP.mk' h hcW (aaF _))
    have HT0:Hid (∀k,tb=some k→tb=some k∨W.heap.size≤k):=hid (fun k hk=>.inl hk)
    have o9:Hid (eP g tb W W):=hid (ak.refl _ _)
    obtain⟨g1,g2,g3,b,off,k1,op1,KY,fU,fJ,fI,vs1,ys1,eD,dF,eB,hxe,rfl,_,c1,r1⟩:=fH (ha.new hbW)
    rw[List.length_nil,Nat.zero_add] at g1
    subst g1
    unfold maxLen at g3
    have HX0:Hid (Calls Tryz.prog 166 #[.pointer (some ⟨g,0,none⟩),.string ⟨#[77,73,78]⟩,.agg #[.int .i64 k1,.int .i64 op1,.string (aj KY),.string (aj fU),.int .i64 fJ,.int .i64 fI,.string (aj vs1),.slice eD dF eB]] W fun e w'=>e = .returned (.tuple #[])∧Wrote g tb W w' (L++(ay [PE 6,[40]]++(qb x++[bg [41]]))) d (max m (d+(jw x:Nat)))):=hid (Ca [77,73,78] (by decide) x hr _ g tb L d m W HW0.out (gH.mk' hxe r1) hL3 h0 jy hm hd)
    unfold Cells8 at c1
    clear h hbW hcW ha r1 hxe hr
    generalize ay [PE 6,[40]]++(qb x++[bg [41]])=T at HX0 ⊢
    generalize jw x=D at HX0 hd ⊢
    go_enter Tryz.func149,Tryz.ntmps149
    go_wp2_with fail
    refine HX0.out.mono ?_
    rintro e w1 ⟨rfl,h1⟩
    have HQ:=hid (Wrote.new HB.out h1)
    clear h1 HX0
    go_wp2
    exact bodyPost_end (v:=.tuple #[]) (by simp[results,Tryz.results149,go_sem]) rfl ⟨rfl,HQ.out⟩
   ·obtain⟨W,hW,hbW,aJ,hcW⟩:=aK w (.cells #[.int .i64 7,.slice aa nn cc] 55)
    have rG:=gK hcW
    have HB:=hid hbW
    have HW0:=hid (h.below hbW)
    have iD:=hid (fP.mk' h hcW (aaF _))
    have HT0:Hid (∀k,tb=some k→tb=some k∨W.heap.size≤k):=hid (fun k hk=>.inl hk)
    have o9:Hid (eP g tb W W):=hid (ak.refl _ _)
    obtain⟨g1,g2,g3,b,off,k1,op1,KY,fU,fJ,fI,vs1,ys1,eD,dF,eB,hxe,rfl,_,c1,r1⟩:=fH (ha.new hbW)
    rw[List.length_nil,Nat.zero_add] at g1
    subst g1
    unfold maxLen at g3
    have HX0:Hid (Calls Tryz.prog 166 #[.pointer (some ⟨g,0,none⟩),.string ⟨#[77,65,88]⟩,.agg #[.int .i64 k1,.int .i64 op1,.string (aj KY),.string (aj fU),.int .i64 fJ,.int .i64 fI,.string (aj vs1),.slice eD dF eB]] W fun e w'=>e = .returned (.tuple #[])∧Wrote g tb W w' (L++(ay [PE 7,[40]]++(qb x++[bg [41]]))) d (max m (d+(jw x:Nat)))):=hid (Ca [77,65,88] (by decide) x hr _ g tb L d m W HW0.out (gH.mk' hxe r1) hL3 h0 jy hm hd)
    unfold Cells8 at c1
    clear h hbW hcW ha r1 hxe hr
    generalize ay [PE 7,[40]]++(qb x++[bg [41]])=T at HX0 ⊢
    generalize jw x=D at HX0 hd ⊢
    go_enter Tryz.func149,Tryz.ntmps149
    go_wp2_with fail
    refine HX0.out.mono ?_
    rintro e w1 ⟨rfl,h1⟩
    have HQ:=hid (Wrote.new HB.out h1)
    clear h1 HX0
    go_wp2
    exact bodyPost_end (v:=.tuple #[]) (by simp[results,Tryz.results149,go_sem]) rfl ⟨rfl,HQ.out⟩
 ·cases hb
theorem XC (x:Se) (hb:j6 x=true) (cs:List Value) (g:Nat) (tb:Option Nat) (L:List Tk) (d m:Int) (w:World) (h:bO w g tb L d m) (hx:BM (fun b=>b<g) w x cs) (hL:L.length+(xR x).length≤1000000000) (h0:0≤d) (jy:d≤m) (hm:m≤1000000000) (hd:d+(jw x.e:Nat)≤1000000000) :
  Calls Tryz.prog 104 #[.pointer (some ⟨g,0,none⟩),.agg cs.toArray] w fun e w'=>e = .returned (.tuple #[])∧Wrote g tb w w' (L++xR x) d (max m (d+(jw x.e:Nat))):=by
 obtain⟨k,op,tn,nm,vk,vn,vs,ys,aa,nn,cc,he,rfl,ha⟩:=hx
 obtain⟨sn,x⟩:=x
 unfold j6 at hb
 simp only[aaC] at hb
 have hr:=hb.2
 show Calls Tryz.prog 104 _ w fun e w'=>_∧Wrote g tb w w' (L++(dQ sn::bg [61]::qb x)) d (max m (d+(jw x:Nat)))
 have hL:L.length+((qb x).length+2)≤1000000000:=by simp[xR] at hL;omega
 dsimp only at hd he hr
 obtain⟨W,hW,hbW,aJ,hcW⟩:=aK w (.cells #[.string (aj sn),.int .i64 k,.int .i64 op,.string (aj tn),.string (aj nm),.int .i64 vk,.int .i64 vn,.string (aj vs),.slice aa nn cc] 53)
 have rG:=jv hcW
 have HB:=hid hbW
 have HW0:=hid (h.below hbW)
 have iD:=hid (fP.mk' h hcW (aaF _))
 have HT0:Hid (∀k,tb=some k→tb=some k∨W.heap.size≤k):=hid (fun k hk=>.inl hk)
 have o9:Hid (eP g tb W W):=hid (ak.refl _ _)
 have Zc:=hid (gH.mk' he (ha.new hbW))
 have HE:Hid (∀(V:World) (tb':Option Nat) (L':List Tk) (m':Int),bO V g tb' L' d m'→eP g tb W V→(∀k,tb'=some k→tb=some k∨W.heap.size≤k)→L'.length+(qb x).length≤1000000000→d≤m'→m'≤1000000000→Calls Tryz.prog 83 #[.pointer (some ⟨g,0,none⟩),.agg #[.int .i64 k,.int .i64 op,.string (aj tn),.string (aj nm),.int .i64 vk,.int .i64 vn,.string (aj vs),.slice aa nn cc]] V fun e w'=>e = .returned (.tuple #[])∧Wrote g tb' V w' (L'++qb x) d (max m' (d+((jw x:Nat):Int)))):=hid (fun V tb' L' m' hV hF hT hl h1 h2=>QX x hr _ g tb' L' d m' V hV (Zc.out.zC HW0.out hF) hl h0 h1 h2 hd)
 clear h hbW hcW ha he hr hb
 generalize qb x=T at HE hL ⊢
 generalize jw x=D at HE hd ⊢
 go_enter Tryz.func104,Tryz.ntmps104
 have HX0:=hid (jP g tb (L) d (m) W.drew (HW0.out.below (Below.refl _ W).drew) sn (by simp[ay]<;>omega))
 have jJ:Hid (W.drew.cell? ⟨w.heap.size,0,none⟩=some (.string (aj sn))):=hid ((jv (iD.out.below (Below.refl _ W).drew).at').1)
 go_wp2_with fail
 go_region_held3 (fun w'=>w'.cell? ⟨w.heap.size,0,none⟩=some (.string (aj sn))) (first | exact jJ.out | exact iY.out)
  (first
   | (
    go_at_call 100;refine HX0.out.mono ?_
    rintro e w1 ⟨rfl,kK,hw,ht,hf⟩
    have HW1:=hid hw
    obtain⟨ht2,hf2⟩:=og HT0.out o9.out ht hf
    have HT1:=hid ht2
    have jG:=hid hf2
    have iy:=hid ((iD.out.below (Below.refl _ W).drew).on ht hf)
    have iU:=jv iy.out.at'
    clear hw ht hf ht2 hf2 HX0 rG
    have iY:=hid (iU.1))
   | fail)
 clear jJ iY
 have gP:Hid (Calls Tryz.prog 98 #[.pointer (some ⟨g,0,none⟩),.slice (some ⟨w1.heap.size,0,none⟩) 1 1] (w1.alloc (.cells #[.string ⟨#[61]⟩] 9)) fun e w'=>e = .returned (.tuple #[])∧Wrote g kK w1 w' (L++[dQ sn]++ay [[61]]) d (m)):=hid (aX g kK _ d _ [[61]] w1 HW1.out (by simp) (by decide) (by simp[ay]<;>omega))
 go_wp2_with fail
 refine gP.out.mono ?_
 rintro e w2 ⟨rfl,nH,hw,ht,hf⟩
 have HW2:=hid hw
 obtain⟨ht2,hf2⟩:=bY HT1.out jG.out ht hf
 have HT2:=hid ht2
 have jW:=hid hf2
 have kH:=hid (iy.out.on ht hf)
 have j4:=jv kH.out.at'
 clear hw ht hf ht2 hf2 gP iU
 have tN:=hid (HE.out w2 nH (L++[dQ sn]++ay [[61]]) (m) HW2.out jW.out HT2.out (by simp[ay]<;>omega) (by omega) (by omega))
 go_wp2_with fail
 refine tN.out.mono ?_
 rintro e w3 ⟨rfl,Ku,hw,ht,hf⟩
 have HW3:=hid hw
 obtain⟨ht2,hf2⟩:=bY HT2.out jW.out ht hf
 have HT3:=hid ht2
 have za:=hid hf2
 have pI:=hid (kH.out.on ht hf)
 have nX:=jv pI.out.at'
 clear hw ht hf ht2 hf2 tN j4
 have HQ:Hid (Wrote g tb w w3 (L++(dQ sn::bg [61]::T)) d (max m (d+((D:Nat):Int)))):=hid (by
  have h9:Wrote g tb W w3 (L++[dQ sn]++ay [[61]]++T) d (max (m) (d+((D:Nat):Int))):=⟨Ku,HW3.out,HT3.out,za.out⟩
  have h8:=Wrote.new HB.out h9
  rw[show max (m) (d+((D:Nat):Int))=max m (d+((D:Nat):Int)) by omega] at h8
  rw[show L++[dQ sn]++ay [[61]]++T=L++(dQ sn::bg [61]::T) by simp[ay]] at h8
  exact h8)
 go_wp2
 exact bodyPost_end (v:=.tuple #[]) (by simp[results,Tryz.results104,go_sem]) rfl ⟨rfl,HQ.out⟩
theorem Nk (r:List Vl) (hb:om r=true) (aa:Option Addr) (nn cc:Nat) (g:Nat) (tb:Option Nat) (L:List Tk) (d m:Int) (w:World) (h:bO w g tb L d m) (hx:aM 3 Ib (fun b=>b<g) w r (.slice aa nn cc)) (hL:L.length+(oU r).length≤1000000000) (h0:0≤d) (jy:d≤m) (hm:m≤1000000000) :
  Calls Tryz.prog 102 #[.pointer (some ⟨g,0,none⟩),.slice aa nn cc] w fun e w'=>e = .returned (.tuple #[])∧Wrote g tb w w' (L++oU r) d m:=by
 obtain⟨W,hWe⟩:∃W,W=w:=⟨_,rfl⟩
 subst hWe
 have HW0:=hid h
 have HB:=hid (Below.refl W.heap.size W)
 have HT0:Hid (∀k,tb=some k→tb=some k∨W.heap.size≤k):=hid (fun k hk=>.inl hk)
 have o9:Hid (eP g tb W W):=hid (ak.refl _ _)
 have hm2:=aP hb
 have hL2:L.length+((aV (bg [44]) (r.map nK)).length+2)≤1000000000:=by simp[oU] at hL;omega
 have HL:Hid (∀(V:World) (tb':Option Nat) (L':List Tk) (m':Int),bO V g tb' L' d m'→eP g tb W V→(∀k,tb'=some k→tb=some k∨W.heap.size≤k)→L'.length+(aV (bg [44]) (r.map nK)).length≤1000000000→d≤m'→m'≤1000000000→Calls Tryz.prog 147 #[.pointer (some ⟨g,0,none⟩),.string ⟨#[44]⟩,.slice aa nn cc,.func (.func 131) #[.pointer (some ⟨g,0,none⟩)] #[]] V fun e w'=>e = .returned (.tuple #[])∧Wrote g tb' V w' (L'++aV (bg [44]) (r.map nK)) d (max m' (d+((aZ (r.map fun _=>0):Nat):Int)))):=hid (fun V tb' L' m' hV hF hT hl h1 h2=>LK 131 (enters_of Tryz.func131 (by kernel_rfl) rfl) nK (fun _=>0) [44] (by decide) r _ g tb' L' d m' V hV (hx.to (by decide) hF (eP.keeps HW0.out hF) (fun _ _ e=>e)) h1 h2 (fun _ _=>by show d+((0:Nat):Int)≤_;omega) hl (hid (fun x hxm U bX L2 m2 hU cs hcs hl2 h3 h4=>by obtain rfl:=hcs;rw[show max m2 (d+((0:Nat):Int))=m2 by omega];exact Ar g bX L2 d m2 U hU x (hm2 x hxm) hl2)))
 show Calls Tryz.prog 102 _ W fun e w'=>_∧Wrote g tb W w' (L++(bg [40]::(aV (bg [44]) (r.map nK)++[bg [41]]))) d m
 have hD0:=qC r
 generalize aZ (r.map fun _=>0)=D at HL hD0
 clear h hx hm2 hb hL
 generalize aV (bg [44]) (r.map nK)=T at HL hL2 ⊢
 go_enter Tryz.func102,Tryz.ntmps102
 have HX0:Hid (Calls Tryz.prog 98 #[.pointer (some ⟨g,0,none⟩),.slice (some ⟨W.heap.size,0,none⟩) 1 1] (W.alloc (.cells #[.string ⟨#[40]⟩] 9)) fun e w'=>e = .returned (.tuple #[])∧Wrote g tb W w' (L++ay [[40]]) d (m)):=hid (aX g tb _ d _ [[40]] W HW0.out (by simp) (by decide) (by simp[ay]<;>omega))
 go_wp2_with fail
 refine HX0.out.mono ?_
 rintro e w1 ⟨rfl,kK,hw,ht,hf⟩
 have HW1:=hid hw
 obtain⟨ht2,hf2⟩:=bY HT0.out o9.out ht hf
 have HT1:=hid ht2
 have jG:=hid hf2
 clear hw ht hf ht2 hf2 HX0
 have gP:=hid (HL.out w1 kK (L++ay [[40]]) (m) HW1.out jG.out HT1.out (by simp[ay]<;>omega) (by omega) (by omega))
 go_wp2_with fail
 refine gP.out.mono ?_
 rintro e w2 ⟨rfl,nH,hw,ht,hf⟩
 have HW2:=hid hw
 obtain⟨ht2,hf2⟩:=bY HT1.out jG.out ht hf
 have HT2:=hid ht2
 have jW:=hid hf2
 clear hw ht hf ht2 hf2 gP
 have tN:Hid (Calls Tryz.prog 98 #[.pointer (some ⟨g,0,none⟩),.slice (some ⟨w2.heap.size,0,none⟩) 1 1] (w2.alloc (.cells #[.string ⟨#[41]⟩] 9)) fun e w'=>e = .returned (.tuple #[])∧Wrote g nH w2 w' (L++ay [[40]]++T++ay [[41]]) d (max (m) (d+((D:Nat):Int)))):=hid (aX g nH _ d _ [[41]] w2 HW2.out (by simp) (by decide) (by simp[ay]<;>omega))
 go_wp2_with fail
 refine tN.out.mono ?_
 rintro e w3 ⟨rfl,Ku,hw,ht,hf⟩
 have HW3:=hid hw
 obtain⟨ht2,hf2⟩:=bY HT2.out jW.out ht hf
 have HT3:=hid ht2
 have za:=hid hf2
 clear hw ht hf ht2 hf2 tN
 have HQ:Hid (Wrote g tb W w3 (L++(bg [40]::(T++[bg [41]]))) d (m)):=hid (by
  have h9:Wrote g tb W w3 (L++ay [[40]]++T++ay [[41]]) d (max (m) (d+((D:Nat):Int))):=⟨Ku,HW3.out,HT3.out,za.out⟩
  have h8:=Wrote.new HB.out h9
  rw[show max (m) (d+((D:Nat):Int))=m by omega] at h8
  rw[show L++ay [[40]]++T++ay [[41]]=L++(bg [40]::(T++[bg [41]])) by simp[ay]] at h8
  exact h8)
 go_wp2
 exact bodyPost_end (v:=.tuple #[]) (by simp[results,Tryz.results102,go_sem]) rfl ⟨rfl,HQ.out⟩
theorem zu (c:Co) (hb:iV c=true) (g:Nat) (tb:Option Nat) (L:List Tk) (d m:Int) (w:World) (h:bO w g tb L d m) (hL:L.length+(mG c).length≤1000000000) (h0:0≤d) (jy:d≤m) (hm:m≤1000000000) :
  Calls Tryz.prog 146 #[.pointer (some ⟨g,0,none⟩),.agg #[.string (aj c.nm),.int .i64 c.k,.bool c.nn,.bool c.uq]] w fun e w'=>e = .returned (.tuple #[])∧Wrote g tb w w' (L++mG c) d m:=by
 obtain⟨cn,k,nn,uq⟩:=c
 unfold iV at hb
 simp only[aaC,aaI] at hb
 have hk:=hb.2
 unfold mG at hL ⊢
 dsimp only at hk hL ⊢
 obtain⟨KN,hKN⟩:∃KN,bg (if k=1 then [73,78,84] else [84,69,88,84])=KN:=⟨_,rfl⟩
 obtain⟨NS,hNS⟩:∃NS,(if nn=true then ay [[78,79,84],[78,85,76,76]] else ([]:List Tk))=NS:=⟨_,rfl⟩
 obtain⟨US,hUS⟩:∃US,(if uq=true then ay [[85,78,73,81,85,69]] else ([]:List Tk))=US:=⟨_,rfl⟩
 rw[hKN,hNS,hUS] at hL ⊢
 simp only[aaN,aa1] at hL
 have HKN:=hid hKN
 have HNS:=hid hNS
 have HUS:=hid hUS
 obtain⟨W,hW,hbW,aJ,hcW⟩:=aK w (.cells #[.string (aj cn),.int .i64 k,.bool nn,.bool uq] 60)
 have rG:=jZ hcW
 have HB:=hid hbW
 have hd0:wP W g tb w.heap.size (.cells #[.string (aj cn),.int .i64 k,.bool nn,.bool uq] 60) d W.drew tb L m:=wP.dr ⟨h.below hbW,fun k hk=>.inl hk,ak.refl _ _,fP.mk' h hcW (aaF _)⟩
 have HX:=hid (jP g tb _ d _ W.drew hd0.1 cn (by omega))
 have jJ:Hid (W.drew.cell? ⟨w.heap.size,0,none⟩=some (.string (aj cn))):=hid (jZ hd0.2.2.2.at').1
 have HD0:=hid hd0
 clear h hb hbW hcW hKN hNS hUS hd0
 go_enter Tryz.func146,Tryz.ntmps146
 go_wp2_with fail
 go_region_held3 (fun w'=>w'.cell? ⟨w.heap.size,0,none⟩=some (.string (aj cn))) (first | exact jJ.out | exact iY.out)
  (first
   | (
     go_at_call 100;refine HX.out.mono ?_
     rintro e w1 ⟨rfl,hw⟩
     obtain⟨t1,h1⟩:=HD0.out.step hw
     have H1:=hid h1
     have iU:=jZ h1.2.2.2.at'
     clear hw h1 HX rG
     have iY:=hid (iU.1))
   | fail)
 clear jJ iY
 go_upto_if 12 with fail
 go_cut [13] from 13 (fun _ wx=>∃t,Hid (wP W g tb w.heap.size (.cells #[.string (aj cn),.int .i64 k,.bool nn,.bool uq] 60) d wx t (L++[dQ cn]++[KN]) m))
 case first =>
  rcases hk with rfl | rfl
  ·have HK:Hid (KN=bg [73,78,84]):=hid HKN.out.symm
   have HX:=hid (aX g t1 _ d _ [[73,78,84]] w1 H1.out.1 (by simp) (by decide) (by simp[ay]<;>omega))
   go_wp2_with fail
   refine HX.out.mono ?_
   rintro e w2 ⟨rfl,hw⟩
   obtain⟨t2,h2⟩:=H1.out.step hw
   have H2:=hid h2
   clear hw h2 HX
   have HF:Hid (wP W g tb w.heap.size (.cells #[.string (aj cn),.int .i64 1,.bool nn,.bool uq] 60) d w2 t2 (L++[dQ cn]++[KN]) m):=hid (by have:=H2.out;rw[HK.out];simpa [ay] using this)
   go_wp2_with fail
   go_meet
   case rel=>exact⟨_,HF⟩
  ·have HK:Hid (KN=bg [84,69,88,84]):=hid HKN.out.symm
   have HX:=hid (aX g t1 _ d _ [[84,69,88,84]] w1 H1.out.1 (by simp) (by decide) (by simp[ay]<;>omega))
   go_wp2_with fail
   refine HX.out.mono ?_
   rintro e w2 ⟨rfl,hw⟩
   obtain⟨t2,h2⟩:=H1.out.step hw
   have H2:=hid h2
   clear hw h2 HX
   have HF:Hid (wP W g tb w.heap.size (.cells #[.string (aj cn),.int .i64 2,.bool nn,.bool uq] 60) d w2 t2 (L++[dQ cn]++[KN]) m):=hid (by have:=H2.out;rw[HK.out];simpa [ay] using this)
   go_wp2_with fail
   go_meet
   case rel=>exact⟨_,HF⟩
 case rest =>
  obtain⟨t3,H3⟩:=hcut
  obtain⟨w3,hw3⟩:∃w3,w3=wc:=⟨_,rfl⟩
  rw[← hw3] at H3 ⊢
  have nX:=jZ H3.out.2.2.2.at'
  clear hw3 iU H1 hk
  go_upto_if 24 with fail
  go_cut [25] from 26 (fun _ wx=>∃t,Hid (wP W g tb w.heap.size (.cells #[.string (aj cn),.int .i64 k,.bool nn,.bool uq] 60) d wx t (L++[dQ cn]++[KN]++NS) m))
  case first =>
   cases nn with
   |
    false =>
    have HF:Hid (wP W g tb w.heap.size (.cells #[.string (aj cn),.int .i64 k,.bool false,.bool uq] 60) d w3 t3 (L++[dQ cn]++[KN]++NS) m):=hid (by rw[show NS=[] by rw[← HNS.out];rfl,List.append_nil];exact H3.out)
    go_wp2_with fail
    go_meet
    case rel=>exact⟨_,HF⟩
   |
    true =>
    have hN:NS=ay [[78,79,84],[78,85,76,76]]:=by rw[← HNS.out];rfl
    have hNl:NS.length=2:=by rw[hN];rfl
    have HN:=hid hN
    clear hN
    have HX:=hid (aX g t3 _ d _ [[78,79,84],[78,85,76,76]] w3 H3.out.1 (by simp) (by decide) (by simp[ay]<;>omega))
    go_wp2_with fail
    refine HX.out.mono ?_
    rintro e w4 ⟨rfl,hw⟩
    obtain⟨t4,h4⟩:=H3.out.step hw
    have H4:=hid h4
    clear hw h4 HX
    have HF:Hid (wP W g tb w.heap.size (.cells #[.string (aj cn),.int .i64 k,.bool true,.bool uq] 60) d w4 t4 (L++[dQ cn]++[KN]++NS) m):=hid (by have:=H4.out;rw[HN.out];exact this)
    go_wp2_with fail
    go_meet
    case rel=>exact⟨_,HF⟩
  case rest =>
   obtain⟨t5,H5⟩:=hcut
   obtain⟨w5,XA⟩:∃w5,w5=wc:=⟨_,rfl⟩
   rw[← XA] at H5 ⊢
   have AQ:=jZ H5.out.2.2.2.at'
   clear XA nX H3
   have HQ:Hid (∀(V:World) (t:Option Nat) (o:Obj),wP W g tb w.heap.size o d V t (L++[dQ cn]++[KN]++NS++US) m→Wrote g tb w V (L++dQ cn::KN::(NS++US)) d m):=hid (fun V t o h=>by
    have h8:=Wrote.new HB.out (⟨t,h.1,h.2.1,h.2.2.1⟩:Wrote g tb W V _ d _)
    simpa using h8)
   cases uq with
   |
    false =>
    have HF:=hid (HQ.out w5 t5 _ (by rw[show US=[] by rw[← HUS.out];rfl,List.append_nil];exact H5.out))
    go_wp2_with fail
    exact bodyPost_end (v:=.tuple #[]) (by simp[results,Tryz.results146,go_sem]) rfl ⟨rfl,HF.out⟩
   |
    true =>
    have hU:US=ay [[85,78,73,81,85,69]]:=by rw[← HUS.out];rfl
    have hUl:US.length=1:=by rw[hU];rfl
    have HU:=hid hU
    clear hU
    have HX:=hid (aX g t5 _ d _ [[85,78,73,81,85,69]] w5 H5.out.1 (by simp) (by decide) (by simp[ay]<;>omega))
    go_wp2_with fail
    refine HX.out.mono ?_
    rintro e w6 ⟨rfl,hw⟩
    obtain⟨t6,h6⟩:=H5.out.step hw
    have H6:=hid h6
    clear hw h6 HX
    have HF:=hid (HQ.out w6 t6 _ (by have:=H6.out;rw[HU.out];exact this))
    go_wp2_with fail
    exact bodyPost_end (v:=.tuple #[]) (by simp[results,Tryz.results146,go_sem]) rfl ⟨rfl,HF.out⟩
theorem uW (k op vk vn:Int) (tb nm vs:List UInt8) (aa Fu:Option Addr) (nn KL cc cc':Nat) (W:World)
  (H : ∀V,Below W.heap.size W V→Calls Tryz.prog 158 #[.slice aa nn cc,.slice Fu KL cc'] V fun e w'=>e = .returned (.bool true)∧Below V.heap.size V w') :
  Calls Tryz.prog 125 #[.agg #[.int .i64 k,.int .i64 op,.string (aj tb),.string (aj nm),.int .i64 vk,.int .i64 vn,.string (aj vs),.slice aa nn cc],.agg #[.int .i64 k,.int .i64 op,.string (aj tb),.string (aj nm),.int .i64 vk,.int .i64 vn,.string (aj vs),.slice Fu KL cc']] W fun e w'=>e = .returned (.bool true)∧Below W.heap.size W w':=by
 have hq:=wC ⟨vk,vn,vs⟩ ⟨vk,vn,vs⟩
 have he:eqv ⟨vk,vn,vs⟩ ⟨vk,vn,vs⟩=true:=jB.2 rfl
 rw[he] at hq
 dsimp only at hq
 have hgd:=Tryz.jV
 obtain⟨U,hU,bB,jc,hcA,hcB⟩:=two W (.cells #[.int .i64 k,.int .i64 op,.string (aj tb),.string (aj nm),.int .i64 vk,.int .i64 vn,.string (aj vs),.slice aa nn cc] 48) (.cells #[.int .i64 k,.int .i64 op,.string (aj tb),.string (aj nm),.int .i64 vk,.int .i64 vn,.string (aj vs),.slice Fu KL cc'] 48)
 have HC:=hid (H U bB)
 have HB:=hid bB
 have kA:=aG hcA
 have kB:=aG hcB
 have e1:((aj tb).toList==(aj tb).toList)=true:=by simp
 have e2:((aj nm).toList==(aj nm).toList)=true:=by simp
 clear H bB hcA hcB he
 go_enter Tryz.func125,Tryz.ntmps125
 go_wp2_with fail
 try rw[hU]
 clear hU
 refine HC.out.mono ?_
 rintro e w1 ⟨rfl,hb1⟩
 have HB1:=htr HB hb1
 clear hb1 HC
 go_wp2
 go_ret
 exact⟨by simp,HB1.out⟩
theorem zo (S T:Nat→Prop) (W:World) (xs:List Ex) (v:Value) (h:bA S W xs v):∀(V:World) (u:Value),Below W.heap.size W V→bA T V xs u →
  Calls Tryz.prog 158 #[v,u] V fun e w'=>e = .returned (.bool true)∧Below V.heap.size V w':=by
 induction h with
 |
  nil a c hc =>
  intro V u hV hu
  obtain⟨a',c',rfl,_⟩:=hu.form
  clear hu hV
  go_enter Tryz.func158,Tryz.ntmps158
  go_wp2_with fail
  go_rounds 1
  go_ret
  exact⟨rfl,Below.refl _ _⟩
 |
  cons xs b off c Oj hne hSb hl hc hcell hrec ih =>
  intro V u hV hu
  generalize hxs:xs=ys at hu
  cases hu with
  | nil a' c' hc'=>exact absurd hxs hne
  |
   cons _ b' off' c' Uj hne' ahg hl' hc' hcell' ME =>
   subst hxs
   unfold maxLen at hc hc'
   have hbl:b<W.heap.size:=by
    cases xs with
    | nil=>exact absurd rfl hne
    |
     cons x l =>
     obtain⟨k,op,tb,nm,⟨vk,vn,vs⟩,ys⟩:=x
     exact World.block_lt_of_cell? W _ (hcell 0 k op tb nm vk vn vs ys rfl).1
   have Ev:b'<V.heap.size:=by
    cases xs with
    | nil=>exact absurd rfl hne
    |
     cons x l =>
     obtain⟨k,op,tb,nm,⟨vk,vn,vs⟩,ys⟩:=x
     exact World.block_lt_of_cell? V _ (hcell' 0 k op tb nm vk vn vs ys rfl).1
   have HA:Hid (∀(Z:World),Below V.heap.size V Z→∀(j:Nat) (k op:Int) (tb nm:List UInt8) (vk vn:Int) (vs:List UInt8) (ys:List Ex),xs[j]?=some (.mk k op tb nm ⟨vk,vn,vs⟩ ys) →
     Z.cell? ⟨b,off+j*8,none⟩=some (.int .i64 k)∧Z.cell? ⟨b,off+j*8+1,none⟩=some (.int .i64 op)∧Z.cell? ⟨b,off+j*8+2,none⟩=some (.string (aj tb))∧Z.cell? ⟨b,off+j*8+3,none⟩=some (.string (aj nm))∧Z.cell? ⟨b,off+j*8+4,none⟩=some (.int .i64 vk)∧Z.cell? ⟨b,off+j*8+5,none⟩=some (.int .i64 vn)∧Z.cell? ⟨b,off+j*8+6,none⟩=some (.string (aj vs))∧Z.cell? ⟨b,off+j*8+7,none⟩=some (Oj j)):=hid (fun Z hZ j k op tb nm vk vn vs ys hj=>by
    have Rv:=hV.trans (hZ.mono hV.size)
    obtain⟨c0,c1,c2,c3,c4,c5,c6,c7⟩:=hcell j k op tb nm vk vn vs ys hj
    exact⟨(Rv.cell (p:=⟨b,_,none⟩) hbl).trans c0,(Rv.cell (p:=⟨b,_,none⟩) hbl).trans c1,(Rv.cell (p:=⟨b,_,none⟩) hbl).trans c2,(Rv.cell (p:=⟨b,_,none⟩) hbl).trans c3,(Rv.cell (p:=⟨b,_,none⟩) hbl).trans c4,(Rv.cell (p:=⟨b,_,none⟩) hbl).trans c5,(Rv.cell (p:=⟨b,_,none⟩) hbl).trans c6,(Rv.cell (p:=⟨b,_,none⟩) hbl).trans c7⟩)
   have HA':Hid (∀(Z:World),Below V.heap.size V Z→∀(j:Nat) (k op:Int) (tb nm:List UInt8) (vk vn:Int) (vs:List UInt8) (ys:List Ex),xs[j]?=some (.mk k op tb nm ⟨vk,vn,vs⟩ ys) →
     Z.cell? ⟨b',off'+j*8,none⟩=some (.int .i64 k)∧Z.cell? ⟨b',off'+j*8+1,none⟩=some (.int .i64 op)∧Z.cell? ⟨b',off'+j*8+2,none⟩=some (.string (aj tb))∧Z.cell? ⟨b',off'+j*8+3,none⟩=some (.string (aj nm))∧Z.cell? ⟨b',off'+j*8+4,none⟩=some (.int .i64 vk)∧Z.cell? ⟨b',off'+j*8+5,none⟩=some (.int .i64 vn)∧Z.cell? ⟨b',off'+j*8+6,none⟩=some (.string (aj vs))∧Z.cell? ⟨b',off'+j*8+7,none⟩=some (Uj j)):=hid (fun Z hZ j k op tb nm vk vn vs ys hj=>by
    obtain⟨c0,c1,c2,c3,c4,c5,c6,c7⟩:=hcell' j k op tb nm vk vn vs ys hj
    exact⟨(hZ.cell (p:=⟨b',_,none⟩) Ev).trans c0,(hZ.cell (p:=⟨b',_,none⟩) Ev).trans c1,(hZ.cell (p:=⟨b',_,none⟩) Ev).trans c2,(hZ.cell (p:=⟨b',_,none⟩) Ev).trans c3,(hZ.cell (p:=⟨b',_,none⟩) Ev).trans c4,(hZ.cell (p:=⟨b',_,none⟩) Ev).trans c5,(hZ.cell (p:=⟨b',_,none⟩) Ev).trans c6,(hZ.cell (p:=⟨b',_,none⟩) Ev).trans c7⟩)
   have HI:Hid (∀(Z:World),Below V.heap.size V Z→∀(j:Nat) (k op:Int) (tb nm:List UInt8) (vk vn:Int) (vs:List UInt8) (ys:List Ex),xs[j]?=some (.mk k op tb nm ⟨vk,vn,vs⟩ ys)→∃(aa Fu:Option Addr) (nn KL cc cc':Nat),Oj j = .slice aa nn cc∧Uj j = .slice Fu KL cc' ∧
     Calls Tryz.prog 125 #[.agg #[.int .i64 k,.int .i64 op,.string (aj tb),.string (aj nm),.int .i64 vk,.int .i64 vn,.string (aj vs),.slice aa nn cc],.agg #[.int .i64 k,.int .i64 op,.string (aj tb),.string (aj nm),.int .i64 vk,.int .i64 vn,.string (aj vs),.slice Fu KL cc']] Z fun e w'=>e = .returned (.bool true)∧Below Z.heap.size Z w'):=hid (fun Z hZ j k op tb nm vk vn vs ys hj=>by
    obtain⟨aa,cc,e1,_⟩:=(hrec j k op tb nm vk vn vs ys hj).form
    obtain⟨Fu,cc',e2,_⟩:=(ME j k op tb nm vk vn vs ys hj).form
    refine ⟨aa,Fu,_,_,cc,cc',e1,e2,uW k op vk vn tb nm vs aa Fu _ _ cc cc' Z (fun Y hY=>?_)⟩
    have Qm:=hZ.trans (hY.mono hZ.size)
    have:=ih j k op tb nm vk vn vs ys hj Y (Uj j) (hV.trans (Qm.mono hV.size)) ((ME j k op tb nm vk vn vs ys hj).to (R:=fun _=>False) (ak.aA Qm) (fun b hb _=>⟨id,hb⟩))
    rw[e1,e2] at this
    exact this)
   clear hcell hcell' hrec ME ih hV
   go_enter Tryz.func158,Tryz.ntmps158
   go_wp2_with fail
   go_loopw [5,6] (fun i _ wr=>∃k:Nat,k≤xs.length∧i = .int .i64 k∧Below V.heap.size V wr) (fun i _ _=>xs.length-(intOf i).toNat)
   case atStart=>exact⟨0,aaV _,rfl,Below.refl _ _⟩
   case round =>
    obtain⟨j,hj,rfl,hbel⟩:=hrel
    by_cases hlt:j<xs.length
    ·obtain⟨⟨k,op,tb,nm,⟨vk,vn,vs⟩,ys⟩,hx⟩:∃x,xs[j]?=some x:=⟨_,aaf hlt⟩
     have hlt':((j:Int)<(xs.length:Int)):=by omega
     have kA:=HA.out wr hbel j k op tb nm vk vn vs ys hx
     have kB:=HA'.out wr hbel j k op tb nm vk vn vs ys hx
     obtain⟨aa,Fu,nn,KL,cc,cc',e1,e2,hcall⟩:=HI.out wr.drew hbel.drew j k op tb nm vk vn vs ys hx
     rw[e1] at kA
     rw[e2] at kB
     have dw:=hid hcall
     have nZ:=hid hbel
     clear hcall hbel hx e1 e2
     go_wp2_with fail
     go_region_with (first
      | (
       go_at_call 125;refine dw.out.mono ?_
       rintro e w1 ⟨rfl,hb1⟩
       have HB1:Hid (Below V.heap.size V w1):=hid (nZ.out.drew.trans (hb1.mono nZ.out.size))
       clear hb1)
      | fail)
     all_goals go_wp2
     all_goals exact⟨⟨j+1,by omega,by go_num,HB1.out⟩,by simp[intOf];omega⟩
    ·have hlt' : ¬((j:Int)<(xs.length:Int)):=by omega
     have nZ:=hid hbel
     clear hbel
     go_wp2
     go_ret
     exact⟨rfl,nZ.out⟩
theorem aM.opened {α:Type} {z:Nat} {El:(Nat→Prop)→World→α→List Value→Prop} {S:Nat→Prop} {w:World} {xs:List α} {v:Value} (hz:0<z) (h:aM z El S w xs v) (hne:xs≠[]) :
  ∃(b off c:Nat),v = .slice (some ⟨b,off,none⟩) xs.length c∧xs.length≤c∧c≤maxLen∧∀(j:Nat) (x:α),xs[j]?=some x→∃cs:List Value,El S w x cs∧∀Z,Below w.heap.size w Z→∀(i:Nat) (u:Value),cs[i]?=some u→Z.cell? ⟨b,off+j*z+i,none⟩=some u:=by
 obtain⟨a,c,css,h1,h2,h3,h4,h5⟩:=h
 obtain⟨b,off,rfl,hb,hc⟩:=h5 hne
 have hlt:b<w.heap.size:=by
  cases xs with
  | nil=>exact absurd rfl hne
  |
   cons x l =>
   cases css with
   | nil=>have:=h4.1;simp at this
   |
    cons cs css =>
    have:=h4.2 0 x cs rfl rfl
    cases cs with
    | nil=>have:=this.1;simp at this;omega
    | cons u cs=>exact World.block_lt_of_cell? w _ (hc 0 (u::cs) rfl 0 u rfl)
 refine ⟨b,off,c,h1,h2,h3,fun j x hx=>?_⟩
 have hj:j<css.length:=by rw[h4.1];exact (aam.1 hx).1
 exact⟨css[j],(h4.2 j x _ hx (aaf hj)).2,fun Z hZ i u hu=>(hZ.cell (p:=⟨b,_,none⟩) hlt).trans (hc j _ (aaf hj) i u hu)⟩
theorem Tryz.JC:Tryz.prog.underlying 60=some (.struct (Tryz.prog.fieldsOf 60)):=by kernel_rfl
theorem Tryz.Ng:Tryz.prog.stoodInHeld 60=false:=by kernel_rfl
theorem Tryz.yx:Tryz.prog.eqGuardType Tryz.prog.depth 60=false:=by kernel_rfl
theorem Rf (e:Nat) (A B:Array Value) (a1 a2 a3 a4 b1 b2 b3 b4:Value) (p q r t:Bool) (w:World)
  (h1:(Go.part 9 A 0).run Tryz.prog w = .ok a1 w) (h2:(Go.part 3 A 1).run Tryz.prog w = .ok a2 w) (h3:(Go.part 4 A 2).run Tryz.prog w = .ok a3 w) (h4:(Go.part 4 A 3).run Tryz.prog w = .ok a4 w)
  (g1:(Go.part 9 B 0).run Tryz.prog w = .ok b1 w) (g2:(Go.part 3 B 1).run Tryz.prog w = .ok b2 w) (g3:(Go.part 4 B 2).run Tryz.prog w = .ok b3 w) (g4:(Go.part 4 B 3).run Tryz.prog w = .ok b4 w)
  (e1:(Op.equalIn e 9 a1 b1).run Tryz.prog w = .ok p w) (e2:(Op.equalIn e 3 a2 b2).run Tryz.prog w = .ok q w) (e3:(Op.equalIn e 4 a3 b3).run Tryz.prog w = .ok r w) (e4:(Op.equalIn e 4 a4 b4).run Tryz.prog w = .ok t w) :
  (Op.eqFields e A B (Tryz.prog.fieldsOf 60).toList).run Tryz.prog w = .ok (p&&(q&&(r&&t))) w:=by
 simp only[Program.fieldsOf,Tryz.underlying60]
 cases p<;>cases q<;>cases r<;>cases t<;>simp[Op.eqFields,h1,h2,h3,h4,g1,g2,g3,g4,e1,e2,e3,e4]
theorem au {w:World} {g:Nat} {d0 d1 d2 d3 d4 d5 d6 d7 d8 d9 R3 VF XE XK:Value} {t:TypeId} (h:w.heap[g]?=some (.cells #[d0,d1,d2,d3,d4,d5,d6,d7,d8,d9,R3,VF,XE,XK] t)) :
  w.cell? ⟨g,0,none⟩=some d0∧w.cell? ⟨g,1,none⟩=some d1∧w.cell? ⟨g,2,none⟩=some d2∧w.cell? ⟨g,3,none⟩=some d3∧w.cell? ⟨g,4,none⟩=some d4∧w.cell? ⟨g,5,none⟩=some d5∧w.cell? ⟨g,6,none⟩=some d6∧w.cell? ⟨g,7,none⟩=some d7∧w.cell? ⟨g,8,none⟩=some d8∧w.cell? ⟨g,9,none⟩=some d9∧w.cell? ⟨g,10,none⟩=some R3∧w.cell? ⟨g,11,none⟩=some VF∧w.cell? ⟨g,12,none⟩=some XE∧w.cell? ⟨g,13,none⟩=some XK :=
 ⟨by rw[aB _ _ _ _ _ _ h];rfl,by rw[aB _ _ _ _ _ _ h];rfl,by rw[aB _ _ _ _ _ _ h];rfl,by rw[aB _ _ _ _ _ _ h];rfl,by rw[aB _ _ _ _ _ _ h];rfl,by rw[aB _ _ _ _ _ _ h];rfl,by rw[aB _ _ _ _ _ _ h];rfl,by rw[aB _ _ _ _ _ _ h];rfl,by rw[aB _ _ _ _ _ _ h];rfl,by rw[aB _ _ _ _ _ _ h];rfl,by rw[aB _ _ _ _ _ _ h];rfl,by rw[aB _ _ _ _ _ _ h];rfl,by rw[aB _ _ _ _ _ _ h];rfl,by rw[aB _ _ _ _ _ _ h];rfl⟩
end Go.Proofs.YtfeglkleoijlaaaGreatDoor
