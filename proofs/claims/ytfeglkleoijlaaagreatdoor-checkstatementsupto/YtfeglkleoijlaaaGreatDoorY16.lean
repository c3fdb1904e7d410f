import Derived.Test.YtfeglkleoijlaaaGreatDoorY15
import Derived.Deep.RegionHeld3
namespace Go.Proofs.YtfeglkleoijlaaaGreatDoor
open Go.RowKit Go.Shelf
set_option linter.unusedSimpArgs false
set_option linter.unusedVariables false
set_option maxRecDepth 20000
set_option maxHeartbeats 8000000
theorem sI {s:St} (h:aQ s=true):s.k=1∨s.k=2∨s.k=3∨s.k=4∨s.k=5∨s.k=6:=by
 unfold aQ lY at h
 simp only[aaC] at h
 have h1:=h.1
 by_cases k1:s.k=1
 ·exact .inl k1
 ·by_cases k2:s.k=2
  ·exact .inr (.inl k2)
  ·by_cases k3:s.k=3
   ·exact .inr (.inr (.inl k3))
   ·by_cases k4:s.k=4
    ·exact .inr (.inr (.inr (.inl k4)))
    ·by_cases k5:s.k=5
     ·exact .inr (.inr (.inr (.inr (.inl k5))))
     ·by_cases k6:s.k=6
      ·exact .inr (.inr (.inr (.inr (.inr k6))))
      ·rw[if_neg k1,if_neg k2,if_neg k3,if_neg k4,if_neg k5,if_neg k6] at h1;cases h1
theorem Dz (x:St) (hr:aQ x=true) (cs:List Value) (g:Nat) (tb:Option Nat) (L:List Tk) (d m:Int) (w:World) (h:bO w g tb L d m) (hx:fD (fun b=>b<g) w x cs) (hL:L.length+(o7 x).length≤1000000000) (h0:0≤d) (jy:d≤m) (hm:m≤1000000000) (hd:d+(tQ x:Nat)≤1000000000) :
  Calls Tryz.prog 49 #[.pointer (some ⟨g,0,none⟩),.agg cs.toArray] w fun e w'=>e = .returned (.tuple #[])∧Wrote g tb w w' (L++o7 x) d (max m (d+(tQ x:Nat))):=by
 obtain⟨a1,a2,a3,a4,a5,a6,a7,a8,n1,n2,n3,n4,n5,n6,n7,n8,c1,c2,c3,c4,c5,c6,c7,c8,rfl,x1,x2,x3,x4,x5,x6,x7,x8⟩:=hx
 have hkk:=sI hr
 have hkB:lY x=true:=by unfold aQ at hr;simp only[aaC] at hr;exact hr.1
 unfold lY at hkB
 unfold o7 at hL ⊢
 unfold tQ at hd ⊢
 obtain⟨k,tn,aC,aD,rows,sets,items,jn,on,wh,gr,od,desc,lim⟩:=x
 dsimp only at *
 clear hr
 rcases hkk with rfl | rfl | rfl | rfl | rfl | rfl
 ·simp only[if_true] at hkB hL
  simp only[aaC] at hkB
  have e0:max m (d+((tQ ⟨1,tn,aC,aD,rows,sets,items,jn,on,wh,gr,od,desc,lim⟩:Nat):Int))=m:=by show max m (d+((0:Nat):Int))=m;omega
  unfold tQ at e0
  dsimp only at e0
  rw[e0]
  clear e0 hd
  simp only[if_true]
  have NY:L.length+(aV (bg [44]) (aC.map mG)).length+11≤1000000000:=by simp[U4,ay] at hL;omega
  obtain⟨W,hW,hbW,aJ,hcW⟩:=aK w (.cells #[.int .i64 1,.string (aj tn),.slice a1 n1 c1,.string (aj aD),.slice a2 n2 c2,.slice a3 n3 c3,.slice a4 n4 c4,.string (aj jn),.slice a5 n5 c5,.slice a6 n6 c6,.slice a7 n7 c7,.slice a8 n8 c8,.bool desc,.int .i64 lim] 29)
  have rG:=au hcW
  have HB:=hid hbW
  have HW0:=hid (h.below hbW)
  have iD:=hid (fP.mk' h hcW (aaF _))
  have HT0:Hid (∀k,tb=some k→tb=some k∨W.heap.size≤k):=hid (fun k hk=>.inl hk)
  have o9:Hid (eP g tb W W):=hid (ak.refl _ _)
  have HX0:=hid (Fe aC hkB.1 tn aD jn desc lim a1 a2 a3 a4 a5 a6 a7 a8 n1 n2 n3 n4 n5 n6 n7 n8 c1 c2 c3 c4 c5 c6 c7 c8 g tb L d m W HW0.out (x1.to (by decide) (R:=fun _=>False) (T:=fun b=>b<g) (ak.aA hbW) (fun b hb _=>⟨id,hb⟩) (fun _ _ e=>e)) NY h0 jy hm)
  show Calls Tryz.prog 49 _ w fun e w'=>_∧Wrote g tb w w' (L++(ay [[67,82,69,65,84,69],[84,65,66,76,69]]++dQ tn::bg [40]::(aV (bg [44]) (aC.map mG)++(ay [[44],[80,82,73,77,65,82,89],[75,69,89],[40]]++dQ aD::ay [[41],[41]])))) d m
  generalize (ay [[67,82,69,65,84,69],[84,65,66,76,69]]++dQ tn::bg [40]::(aV (bg [44]) (aC.map mG)++(ay [[44],[80,82,73,77,65,82,89],[75,69,89],[40]]++dQ aD::ay [[41],[41]])))=T at HX0 ⊢
  clear x1 x2 x3 x4 x5 x6 x7 x8 hbW hcW h hkB hL NY
  go_enter Tryz.func49,Tryz.ntmps49
  go_wp2_with fail
  refine HX0.out.mono ?_
  rintro e w1 ⟨rfl,h1⟩
  have HQ:=hid (Wrote.new HB.out h1)
  clear h1 HX0
  go_wp2
  exact bodyPost_end (v:=.tuple #[]) (by simp[results,Tryz.results49,go_sem]) rfl ⟨rfl,HQ.out⟩
 ·simp only[show ¬((2:Int)=1) by decide,show ¬((2:Int)=3) by decide,show ¬((2:Int)=4) by decide,show ¬((2:Int)=5) by decide,show ¬((2:Int)=6) by decide,if_true,if_false] at hkB hL hd ⊢
  have hL:L.length+3≤1000000000:=by simpa [ay] using hL
  have e0:max m (d+((0:Nat):Int))=m:=by omega
  rw[e0]
  clear e0 hd hkB
  obtain⟨W,hW,hbW,aJ,hcW⟩:=aK w (.cells #[.int .i64 2,.string (aj tn),.slice a1 n1 c1,.string (aj aD),.slice a2 n2 c2,.slice a3 n3 c3,.slice a4 n4 c4,.string (aj jn),.slice a5 n5 c5,.slice a6 n6 c6,.slice a7 n7 c7,.slice a8 n8 c8,.bool desc,.int .i64 lim] 29)
  have rG:=au hcW
  have HB:=hid hbW
  have HW0:=hid (h.below hbW)
  have iD:=hid (fP.mk' h hcW (aaF _))
  have HT0:Hid (∀k,tb=some k→tb=some k∨W.heap.size≤k):=hid (fun k hk=>.inl hk)
  have o9:Hid (eP g tb W W):=hid (ak.refl _ _)
  clear x1 x2 x3 x4 x5 x6 x7 x8 hbW hcW h
  go_enter Tryz.func49,Tryz.ntmps49
  have HX0:Hid (Calls Tryz.prog 98 #[.pointer (some ⟨g,0,none⟩),.slice (some ⟨W.heap.size,0,none⟩) 2 2] (W.alloc (.cells #[.string ⟨#[68,82,79,80]⟩,.string ⟨#[84,65,66,76,69]⟩] 9)) fun e w'=>e = .returned (.tuple #[])∧Wrote g tb W w' (L++ay [[68,82,79,80],[84,65,66,76,69]]) d (m)):=hid (aX g tb _ d _ [[68,82,79,80],[84,65,66,76,69]] W HW0.out (by simp) (by decide) (by simp[ay]<;>omega))
  go_wp2_with fail
  refine HX0.out.mono ?_
  rintro e w1 ⟨rfl,kK,hw,ht,hf⟩
  have HW1:=hid hw
  obtain⟨ht2,hf2⟩:=bY HT0.out o9.out ht hf
  have HT1:=hid ht2
  have jG:=hid hf2
  have iy:=hid (iD.out.on ht hf)
  have iU:=au iy.out.at'
  clear hw ht hf ht2 hf2 HX0 rG
  have gP:=hid (jP g kK (L++ay [[68,82,79,80],[84,65,66,76,69]]) d (m) w1.drew (HW1.out.below (Below.refl _ w1).drew) tn (by simp[ay]<;>omega))
  have jJ:Hid (w1.drew.cell? ⟨w.heap.size,1,none⟩=some (.string (aj tn))):=hid ((au (iy.out.below (Below.refl _ w1).drew).at').2.1)
  go_wp2_with fail
  go_region_held3 (fun w'=>w'.cell? ⟨w.heap.size,1,none⟩=some (.string (aj tn))) (first | exact jJ.out | exact iY.out)
   (first
    | (
     go_at_call 100;refine gP.out.mono ?_
     rintro e w2 ⟨rfl,nH,hw,ht,hf⟩
     have HW2:=hid hw
     obtain⟨ht2,hf2⟩:=og HT1.out jG.out ht hf
     have HT2:=hid ht2
     have jW:=hid hf2
     have kH:=hid ((iy.out.below (Below.refl _ w1).drew).on ht hf)
     have j4:=au kH.out.at'
     clear hw ht hf ht2 hf2 gP iU
     have iY:=hid (j4.2.1))
    | fail)
  clear jJ iY
  have HQ:Hid (Wrote g tb w w2 (L++(ay [[68,82,79,80],[84,65,66,76,69]]++[dQ tn])) d (m)):=hid (by
   have h9:Wrote g tb W w2 (L++ay [[68,82,79,80],[84,65,66,76,69]]++[dQ tn]) d (m):=⟨nH,HW2.out,HT2.out,jW.out⟩
   have h8:=Wrote.new HB.out h9
   skip
   rw[show L++ay [[68,82,79,80],[84,65,66,76,69]]++[dQ tn]=L++(ay [[68,82,79,80],[84,65,66,76,69]]++[dQ tn]) by simp[ay]] at h8
   exact h8)
  go_wp2
  exact bodyPost_end (v:=.tuple #[]) (by simp[results,Tryz.results49,go_sem]) rfl ⟨rfl,HQ.out⟩
 ·simp only[show ¬((3:Int)=1) by decide,show ¬((3:Int)=2) by decide,show ¬((3:Int)=4) by decide,show ¬((3:Int)=5) by decide,show ¬((3:Int)=6) by decide,if_true,if_false] at hkB hL hd ⊢
  have hm2:=aP hkB
  have hL:L.length+(aV (bg [44]) (rows.map oU)).length+4≤1000000000:=by simp[ay] at hL;omega
  have e0:max m (d+((0:Nat):Int))=m:=by omega
  rw[e0]
  clear e0 hd
  obtain⟨W,hW,hbW,aJ,hcW⟩:=aK w (.cells #[.int .i64 3,.string (aj tn),.slice a1 n1 c1,.string (aj aD),.slice a2 n2 c2,.slice a3 n3 c3,.slice a4 n4 c4,.string (aj jn),.slice a5 n5 c5,.slice a6 n6 c6,.slice a7 n7 c7,.slice a8 n8 c8,.bool desc,.int .i64 lim] 29)
  have rG:=au hcW
  have HB:=hid hbW
  have HW0:=hid (h.below hbW)
  have iD:=hid (fP.mk' h hcW (aaF _))
  have HT0:Hid (∀k,tb=some k→tb=some k∨W.heap.size≤k):=hid (fun k hk=>.inl hk)
  have o9:Hid (eP g tb W W):=hid (ak.refl _ _)
  have HSL:=hid (x2.to (by decide) (R:=fun _=>False) (T:=fun b=>b<g) (ak.aA hbW) (fun b hb _=>⟨id,hb⟩) (fun _ _ e=>e.to (R:=fun _=>False) (T:=fun b=>b<g) (ak.aA hbW) (fun b hb _=>⟨id,hb⟩)))
  have HL:Hid (∀(V:World) (tb':Option Nat) (L':List Tk) (m':Int),bO V g tb' L' d m'→eP g tb W V→(∀k,tb'=some k→tb=some k∨W.heap.size≤k)→L'.length+(aV (bg [44]) (rows.map oU)).length≤1000000000→d≤m'→m'≤1000000000→Calls Tryz.prog 101 #[.pointer (some ⟨g,0,none⟩),.string ⟨#[44]⟩,.slice a2 n2 c2,.func (.func 102) #[.pointer (some ⟨g,0,none⟩)] #[]] V fun e w'=>e = .returned (.tuple #[])∧Wrote g tb' V w' (L'++aV (bg [44]) (rows.map oU)) d (max m' (d+((aZ (rows.map fun _=>0):Nat):Int)))):=hid (fun V tb' L' m' hV hF hT hl h1 h2=>LW 102 (enters_of Tryz.func102 (by kernel_rfl) rfl) oU (fun _=>0) [44] (by decide) rows _ g tb' L' d m' V hV (HSL.out.to (by decide) hF (eP.keeps HW0.out hF) (fun _ _ e=>e.to hF (eP.keeps HW0.out hF))) h1 h2 (fun x hx=>by show d+((0:Nat):Int)≤_;omega) hl (hid (fun x hxm U bX L2 m2 hU cs hcs hl2 h3 h4=>by obtain⟨aa,nn,cc,rfl,hvs⟩:=hcs;rw[show max m2 (d+((0:Nat):Int))=m2 by omega];exact Nk x (hm2 x hxm) aa nn cc g bX L2 d m2 U hU hvs hl2 h0 h3 h4)))
  have hD0:=qC rows
  generalize aZ (rows.map fun _=>0)=D at HL hD0
  generalize aV (bg [44]) (rows.map oU)=T at HL hL ⊢
  clear x1 x2 x3 x4 x5 x6 x7 x8 hbW hcW h hm2 hkB HSL
  go_enter Tryz.func49,Tryz.ntmps49
  have HX0:Hid (Calls Tryz.prog 98 #[.pointer (some ⟨g,0,none⟩),.slice (some ⟨W.heap.size,0,none⟩) 2 2] (W.alloc (.cells #[.string ⟨#[73,78,83,69,82,84]⟩,.string ⟨#[73,78,84,79]⟩] 9)) fun e w'=>e = .returned (.tuple #[])∧Wrote g tb W w' (L++ay [[73,78,83,69,82,84],[73,78,84,79]]) d (m)):=hid (aX g tb _ d _ [[73,78,83,69,82,84],[73,78,84,79]] W HW0.out (by simp) (by decide) (by simp[ay]<;>omega))
  go_wp2_with fail
  refine HX0.out.mono ?_
  rintro e w1 ⟨rfl,kK,hw,ht,hf⟩
  have HW1:=hid hw
  obtain⟨ht2,hf2⟩:=bY HT0.out o9.out ht hf
  have HT1:=hid ht2
  have jG:=hid hf2
  have iy:=hid (iD.out.on ht hf)
  have iU:=au iy.out.at'
  clear hw ht hf ht2 hf2 HX0 rG
  have gP:=hid (jP g kK (L++ay [[73,78,83,69,82,84],[73,78,84,79]]) d (m) w1.drew (HW1.out.below (Below.refl _ w1).drew) tn (by simp[ay]<;>omega))
  have jJ:Hid (w1.drew.cell? ⟨w.heap.size,1,none⟩=some (.string (aj tn))):=hid ((au (iy.out.below (Below.refl _ w1).drew).at').2.1)
  go_wp2_with fail
  go_region_held3 (fun w'=>w'.cell? ⟨w.heap.size,1,none⟩=some (.string (aj tn))) (first | exact jJ.out | exact iY.out)
   (first
    | (
     go_at_call 100;refine gP.out.mono ?_
     rintro e w2 ⟨rfl,nH,hw,ht,hf⟩
     have HW2:=hid hw
     obtain⟨ht2,hf2⟩:=og HT1.out jG.out ht hf
     have HT2:=hid ht2
     have jW:=hid hf2
     have kH:=hid ((iy.out.below (Below.refl _ w1).drew).on ht hf)
     have j4:=au kH.out.at'
     clear hw ht hf ht2 hf2 gP iU
     have iY:=hid (j4.2.1))
    | fail)
  clear jJ iY
  have tN:Hid (Calls Tryz.prog 98 #[.pointer (some ⟨g,0,none⟩),.slice (some ⟨w2.heap.size,0,none⟩) 1 1] (w2.alloc (.cells #[.string ⟨#[86,65,76,85,69,83]⟩] 9)) fun e w'=>e = .returned (.tuple #[])∧Wrote g nH w2 w' (L++ay [[73,78,83,69,82,84],[73,78,84,79]]++[dQ tn]++ay [[86,65,76,85,69,83]]) d (m)):=hid (aX g nH _ d _ [[86,65,76,85,69,83]] w2 HW2.out (by simp) (by decide) (by simp[ay]<;>omega))
  go_wp2_with fail
  refine tN.out.mono ?_
  rintro e w3 ⟨rfl,Ku,hw,ht,hf⟩
  have HW3:=hid hw
  obtain⟨ht2,hf2⟩:=bY HT2.out jW.out ht hf
  have HT3:=hid ht2
  have za:=hid hf2
  have pI:=hid (kH.out.on ht hf)
  have nX:=au pI.out.at'
  clear hw ht hf ht2 hf2 tN j4
  have Rj:=hid (HL.out w3 Ku (L++ay [[73,78,83,69,82,84],[73,78,84,79]]++[dQ tn]++ay [[86,65,76,85,69,83]]) (m) HW3.out za.out HT3.out (by simp[ay]<;>omega) (by omega) (by omega))
  go_wp2_with fail
  refine Rj.out.mono ?_
  rintro e w4 ⟨rfl,Vn,hw,ht,hf⟩
  have Ci:=hid hw
  obtain⟨ht2,hf2⟩:=bY HT3.out za.out ht hf
  have U6:=hid ht2
  have VL:=hid hf2
  have GU:=hid (pI.out.on ht hf)
  have u7:=au GU.out.at'
  clear hw ht hf ht2 hf2 Rj nX
  have HQ:Hid (Wrote g tb w w4 (L++(ay [[73,78,83,69,82,84],[73,78,84,79]]++dQ tn::bg [86,65,76,85,69,83]::T)) d (m)):=hid (by
   have h9:Wrote g tb W w4 (L++ay [[73,78,83,69,82,84],[73,78,84,79]]++[dQ tn]++ay [[86,65,76,85,69,83]]++T) d (max (m) (d+((D:Nat):Int))):=⟨Vn,Ci.out,U6.out,VL.out⟩
   have h8:=Wrote.new HB.out h9
   rw[show max (m) (d+((D:Nat):Int))=m by omega] at h8
   rw[show L++ay [[73,78,83,69,82,84],[73,78,84,79]]++[dQ tn]++ay [[86,65,76,85,69,83]]++T=L++(ay [[73,78,83,69,82,84],[73,78,84,79]]++dQ tn::bg [86,65,76,85,69,83]::T) by simp[ay]] at h8
   exact h8)
  go_wp2
  exact bodyPost_end (v:=.tuple #[]) (by simp[results,Tryz.results49,go_sem]) rfl ⟨rfl,HQ.out⟩
 ·simp only[show ¬((4:Int)=1) by decide,show ¬((4:Int)=2) by decide,show ¬((4:Int)=3) by decide,show ¬((4:Int)=5) by decide,show ¬((4:Int)=6) by decide,if_true,if_false] at hkB hL hd ⊢
  simp only[aaC] at hkB
  have hm2:=aP hkB.1
  have Sc:=aP hkB.2
  have hL:L.length+(aV (bg [44]) (sets.map xR)).length+(bM wh [[87,72,69,82,69]]).length+3≤1000000000:=by simp at hL;omega
  obtain⟨W,hW,hbW,aJ,hcW⟩:=aK w (.cells #[.int .i64 4,.string (aj tn),.slice a1 n1 c1,.string (aj aD),.slice a2 n2 c2,.slice a3 n3 c3,.slice a4 n4 c4,.string (aj jn),.slice a5 n5 c5,.slice a6 n6 c6,.slice a7 n7 c7,.slice a8 n8 c8,.bool desc,.int .i64 lim] 29)
  have rG:=au hcW
  have HB:=hid hbW
  have HW0:=hid (h.below hbW)
  have iD:=hid (fP.mk' h hcW (aaF _))
  have HT0:Hid (∀k,tb=some k→tb=some k∨W.heap.size≤k):=hid (fun k hk=>.inl hk)
  have o9:Hid (eP g tb W W):=hid (ak.refl _ _)
  have HSL:=hid (x3.to (by decide) (R:=fun _=>False) (T:=fun b=>b<g) (ak.aA hbW) (fun b hb _=>⟨id,hb⟩) (fun _ _ e=>e.to (R:=fun _=>False) (T:=fun b=>b<g) (ak.aA hbW) (fun b hb _=>⟨id,hb⟩)))
  have RH:=hid (x6.new hbW)
  have HL:Hid (∀(V:World) (tb':Option Nat) (L':List Tk) (m':Int),bO V g tb' L' d m'→eP g tb W V→(∀k,tb'=some k→tb=some k∨W.heap.size≤k)→L'.length+(aV (bg [44]) (sets.map xR)).length≤1000000000→d≤m'→m'≤1000000000→Calls Tryz.prog 103 #[.pointer (some ⟨g,0,none⟩),.string ⟨#[44]⟩,.slice a3 n3 c3,.func (.func 104) #[.pointer (some ⟨g,0,none⟩)] #[]] V fun e w'=>e = .returned (.tuple #[])∧Wrote g tb' V w' (L'++aV (bg [44]) (sets.map xR)) d (max m' (d+((aZ (sets.map (fun x=>jw x.e)):Nat):Int)))):=hid (fun V tb' L' m' hV hF hT hl h1 h2=>NV 104 (enters_of Tryz.func104 (by kernel_rfl) rfl) xR ((fun x=>jw x.e)) [44] (by decide) sets _ g tb' L' d m' V hV (HSL.out.to (by decide) hF (eP.keeps HW0.out hF) (fun _ _ e=>e.to hF (eP.keeps HW0.out hF))) h1 h2 (fun x hx=>by have:=iE (fun x=>jw x.e) sets x hx;first | omega | (dsimp only;omega) | (dsimp only at this;omega)) hl (hid (fun x hxm U bX L2 m2 hU cs hcs hl2 h3 h4=>by exact XC x (hm2 x hxm) cs g bX L2 d m2 U hU hcs hl2 h0 h3 h4 (by have:=iE (fun x=>jw x.e) sets x hxm;omega))))
  have HW:Hid (∀(V:World) (tb':Option Nat) (L':List Tk) (m':Int),bO V g tb' L' d m'→eP g tb W V→(∀k,tb'=some k→tb=some k∨W.heap.size≤k)→L'.length+(bM wh [[87,72,69,82,69]]).length≤1000000000→d≤m'→m'≤1000000000→Calls Tryz.prog 105 #[.pointer (some ⟨g,0,none⟩),.slice a6 n6 c6,.slice (some ⟨V.heap.size,0,none⟩) 1 1] (V.alloc (.cells #[.string ⟨#[87,72,69,82,69]⟩] 9)) fun e w'=>e = .returned (.tuple #[])∧Wrote g tb' V w' (L'++bM wh [[87,72,69,82,69]]) d (max m' (d+((dH wh:Nat):Int)))):=hid (fun V tb' L' m' hV hF hT hl h1 h2=>nO wh [[87,72,69,82,69]] (by decide) (by decide) _ g tb' L' d m' V hV (RH.out.zC HW0.out hF) Sc h0 h1 h2 (fun x hx=>by have:=iE jw wh x hx;have:jw x≤dH wh:=this;omega) hl)
  generalize aZ (sets.map fun x=>jw x.e)=DL at HL hd ⊢
  generalize aV (bg [44]) (sets.map xR)=TL at HL hL ⊢
  generalize dH wh=DW at HW hd ⊢
  generalize bM wh [[87,72,69,82,69]]=TW at HW hL ⊢
  clear x1 x2 x3 x4 x5 x6 x7 x8 hbW hcW h hm2 hkB HSL Sc RH
  go_enter Tryz.func49,Tryz.ntmps49
  have HX0:Hid (Calls Tryz.prog 98 #[.pointer (some ⟨g,0,none⟩),.slice (some ⟨W.heap.size,0,none⟩) 1 1] (W.alloc (.cells #[.string ⟨#[85,80,68,65,84,69]⟩] 9)) fun e w'=>e = .returned (.tuple #[])∧Wrote g tb W w' (L++ay [[85,80,68,65,84,69]]) d (m)):=hid (aX g tb _ d _ [[85,80,68,65,84,69]] W HW0.out (by simp) (by decide) (by simp[ay]<;>omega))
  go_wp2_with fail
  refine HX0.out.mono ?_
  rintro e w1 ⟨rfl,kK,hw,ht,hf⟩
  have HW1:=hid hw
  obtain⟨ht2,hf2⟩:=bY HT0.out o9.out ht hf
  have HT1:=hid ht2
  have jG:=hid hf2
  have iy:=hid (iD.out.on ht hf)
  have iU:=au iy.out.at'
  clear hw ht hf ht2 hf2 HX0 rG
  have gP:=hid (jP g kK (L++ay [[85,80,68,65,84,69]]) d (m) w1.drew (HW1.out.below (Below.refl _ w1).drew) tn (by simp[ay]<;>omega))
  have jJ:Hid (w1.drew.cell? ⟨w.heap.size,1,none⟩=some (.string (aj tn))):=hid ((au (iy.out.below (Below.refl _ w1).drew).at').2.1)
  go_wp2_with fail
  go_region_held3 (fun w'=>w'.cell? ⟨w.heap.size,1,none⟩=some (.string (aj tn))) (first | exact jJ.out | exact iY.out)
   (first
    | (
     go_at_call 100;refine gP.out.mono ?_
     rintro e w2 ⟨rfl,nH,hw,ht,hf⟩
     have HW2:=hid hw
     obtain⟨ht2,hf2⟩:=og HT1.out jG.out ht hf
     have HT2:=hid ht2
     have jW:=hid hf2
     have kH:=hid ((iy.out.below (Below.refl _ w1).drew).on ht hf)
     have j4:=au kH.out.at'
     clear hw ht hf ht2 hf2 gP iU
     have iY:=hid (j4.2.1))
    | fail)
  clear jJ iY
  have tN:Hid (Calls Tryz.prog 98 #[.pointer (some ⟨g,0,none⟩),.slice (some ⟨w2.heap.size,0,none⟩) 1 1] (w2.alloc (.cells #[.string ⟨#[83,69,84]⟩] 9)) fun e w'=>e = .returned (.tuple #[])∧Wrote g nH w2 w' (L++ay [[85,80,68,65,84,69]]++[dQ tn]++ay [[83,69,84]]) d (m)):=hid (aX g nH _ d _ [[83,69,84]] w2 HW2.out (by simp) (by decide) (by simp[ay]<;>omega))
  go_wp2_with fail
  refine tN.out.mono ?_
  rintro e w3 ⟨rfl,Ku,hw,ht,hf⟩
  have HW3:=hid hw
  obtain⟨ht2,hf2⟩:=bY HT2.out jW.out ht hf
  have HT3:=hid ht2
  have za:=hid hf2
  have pI:=hid (kH.out.on ht hf)
  have nX:=au pI.out.at'
  clear hw ht hf ht2 hf2 tN j4
  have Rj:=hid (HL.out w3 Ku (L++ay [[85,80,68,65,84,69]]++[dQ tn]++ay [[83,69,84]]) (m) HW3.out za.out HT3.out (by simp[ay]<;>omega) (by omega) (by omega))
  go_wp2_with fail
  refine Rj.out.mono ?_
  rintro e w4 ⟨rfl,Vn,hw,ht,hf⟩
  have Ci:=hid hw
  obtain⟨ht2,hf2⟩:=bY HT3.out za.out ht hf
  have U6:=hid ht2
  have VL:=hid hf2
  have GU:=hid (pI.out.on ht hf)
  have u7:=au GU.out.at'
  clear hw ht hf ht2 hf2 Rj nX
  have TR:=hid (HW.out w4 Vn (L++ay [[85,80,68,65,84,69]]++[dQ tn]++ay [[83,69,84]]++TL) (max (m) (d+((DL:Nat):Int))) Ci.out VL.out U6.out (by simp[ay]<;>omega) (by omega) (by omega))
  go_wp2_with fail
  refine TR.out.mono ?_
  rintro e w5 ⟨rfl,tw5,hw,ht,hf⟩
  have Cz:=hid hw
  obtain⟨ht2,hf2⟩:=bY U6.out VL.out ht hf
  have HT5:=hid ht2
  have HF5:=hid hf2
  have JD:=hid (GU.out.on ht hf)
  have AQ:=au JD.out.at'
  clear hw ht hf ht2 hf2 TR u7
  have HQ:Hid (Wrote g tb w w5 (L++(bg [85,80,68,65,84,69]::dQ tn::bg [83,69,84]::(TL++TW))) d (max m (d+((max DL DW:Nat):Int)))):=hid (by
   have h9:Wrote g tb W w5 (L++ay [[85,80,68,65,84,69]]++[dQ tn]++ay [[83,69,84]]++TL++TW) d (max (max (m) (d+((DL:Nat):Int))) (d+((DW:Nat):Int))):=⟨tw5,Cz.out,HT5.out,HF5.out⟩
   have h8:=Wrote.new HB.out h9
   rw[show max (max (m) (d+((DL:Nat):Int))) (d+((DW:Nat):Int))=max m (d+((max DL DW:Nat):Int)) by omega] at h8
   rw[show L++ay [[85,80,68,65,84,69]]++[dQ tn]++ay [[83,69,84]]++TL++TW=L++(bg [85,80,68,65,84,69]::dQ tn::bg [83,69,84]::(TL++TW)) by simp[ay]] at h8
   exact h8)
  go_wp2
  exact bodyPost_end (v:=.tuple #[]) (by simp[results,Tryz.results49,go_sem]) rfl ⟨rfl,HQ.out⟩
 ·simp only[show ¬((5:Int)=1) by decide,show ¬((5:Int)=2) by decide,show ¬((5:Int)=3) by decide,show ¬((5:Int)=4) by decide,show ¬((5:Int)=6) by decide,if_true,if_false] at hkB hL hd ⊢
  have Sc:=aP hkB
  have hL:L.length+(bM wh [[87,72,69,82,69]]).length+3≤1000000000:=by simp[ay] at hL;omega
  obtain⟨W,hW,hbW,aJ,hcW⟩:=aK w (.cells #[.int .i64 5,.string (aj tn),.slice a1 n1 c1,.string (aj aD),.slice a2 n2 c2,.slice a3 n3 c3,.slice a4 n4 c4,.string (aj jn),.slice a5 n5 c5,.slice a6 n6 c6,.slice a7 n7 c7,.slice a8 n8 c8,.bool desc,.int .i64 lim] 29)
  have rG:=au hcW
  have HB:=hid hbW
  have HW0:=hid (h.below hbW)
  have iD:=hid (fP.mk' h hcW (aaF _))
  have HT0:Hid (∀k,tb=some k→tb=some k∨W.heap.size≤k):=hid (fun k hk=>.inl hk)
  have o9:Hid (eP g tb W W):=hid (ak.refl _ _)
  have RH:=hid (x6.new hbW)
  have HW:Hid (∀(V:World) (tb':Option Nat) (L':List Tk) (m':Int),bO V g tb' L' d m'→eP g tb W V→(∀k,tb'=some k→tb=some k∨W.heap.size≤k)→L'.length+(bM wh [[87,72,69,82,69]]).length≤1000000000→d≤m'→m'≤1000000000→Calls Tryz.prog 105 #[.pointer (some ⟨g,0,none⟩),.slice a6 n6 c6,.slice (some ⟨V.heap.size,0,none⟩) 1 1] (V.alloc (.cells #[.string ⟨#[87,72,69,82,69]⟩] 9)) fun e w'=>e = .returned (.tuple #[])∧Wrote g tb' V w' (L'++bM wh [[87,72,69,82,69]]) d (max m' (d+((dH wh:Nat):Int)))):=hid (fun V tb' L' m' hV hF hT hl h1 h2=>nO wh [[87,72,69,82,69]] (by decide) (by decide) _ g tb' L' d m' V hV (RH.out.zC HW0.out hF) Sc h0 h1 h2 (fun x hx=>by have:=iE jw wh x hx;have:jw x≤dH wh:=this;omega) hl)
  generalize dH wh=DW at HW hd ⊢
  generalize bM wh [[87,72,69,82,69]]=TW at HW hL ⊢
  clear x1 x2 x3 x4 x5 x6 x7 x8 hbW hcW h hkB Sc RH
  go_enter Tryz.func49,Tryz.ntmps49
  have HX0:Hid (Calls Tryz.prog 98 #[.pointer (some ⟨g,0,none⟩),.slice (some ⟨W.heap.size,0,none⟩) 2 2] (W.alloc (.cells #[.string ⟨#[68,69,76,69,84,69]⟩,.string ⟨#[70,82,79,77]⟩] 9)) fun e w'=>e = .returned (.tuple #[])∧Wrote g tb W w' (L++ay [[68,69,76,69,84,69],[70,82,79,77]]) d (m)):=hid (aX g tb _ d _ [[68,69,76,69,84,69],[70,82,79,77]] W HW0.out (by simp) (by decide) (by simp[ay]<;>omega))
  go_wp2_with fail
  refine HX0.out.mono ?_
  rintro e w1 ⟨rfl,kK,hw,ht,hf⟩
  have HW1:=hid hw
  obtain⟨ht2,hf2⟩:=bY HT0.out o9.out ht hf
  have HT1:=hid ht2
  have jG:=hid hf2
  have iy:=hid (iD.out.on ht hf)
  have iU:=au iy.out.at'
  clear hw ht hf ht2 hf2 HX0 rG
  have gP:=hid (jP g kK (L++ay [[68,69,76,69,84,69],[70,82,79,77]]) d (m) w1.drew (HW1.out.below (Below.refl _ w1).drew) tn (by simp[ay]<;>omega))
  have jJ:Hid (w1.drew.cell? ⟨w.heap.size,1,none⟩=some (.string (aj tn))):=hid ((au (iy.out.below (Below.refl _ w1).drew).at').2.1)
  go_wp2_with fail
  go_region_held3 (fun w'=>w'.cell? ⟨w.heap.size,1,none⟩=some (.string (aj tn))) (first | exact jJ.out | exact iY.out)
   (first
    | (
     go_at_call 100;refine gP.out.mono ?_
     rintro e w2 ⟨rfl,nH,hw,ht,hf⟩
     have HW2:=hid hw
     obtain⟨ht2,hf2⟩:=og HT1.out jG.out ht hf
     have HT2:=hid ht2
     have jW:=hid hf2
     have kH:=hid ((iy.out.below (Below.refl _ w1).drew).on ht hf)
     have j4:=au kH.out.at'
     clear hw ht hf ht2 hf2 gP iU
     have iY:=hid (j4.2.1))
    | fail)
  clear jJ iY
  have tN:=hid (HW.out w2 nH (L++ay [[68,69,76,69,84,69],[70,82,79,77]]++[dQ tn]) (m) HW2.out jW.out HT2.out (by simp[ay]<;>omega) (by omega) (by omega))
  go_wp2_with fail
  refine tN.out.mono ?_
  rintro e w3 ⟨rfl,Ku,hw,ht,hf⟩
  have HW3:=hid hw
  obtain⟨ht2,hf2⟩:=bY HT2.out jW.out ht hf
  have HT3:=hid ht2
  have za:=hid hf2
  have pI:=hid (kH.out.on ht hf)
  have nX:=au pI.out.at'
  clear hw ht hf ht2 hf2 tN j4
  have HQ:Hid (Wrote g tb w w3 (L++(ay [[68,69,76,69,84,69],[70,82,79,77]]++dQ tn::TW)) d (max m (d+((DW:Nat):Int)))):=hid (by
   have h9:Wrote g tb W w3 (L++ay [[68,69,76,69,84,69],[70,82,79,77]]++[dQ tn]++TW) d (max (m) (d+((DW:Nat):Int))):=⟨Ku,HW3.out,HT3.out,za.out⟩
   have h8:=Wrote.new HB.out h9
   rw[show max (m) (d+((DW:Nat):Int))=max m (d+((DW:Nat):Int)) by omega] at h8
   rw[show L++ay [[68,69,76,69,84,69],[70,82,79,77]]++[dQ tn]++TW=L++(ay [[68,69,76,69,84,69],[70,82,79,77]]++dQ tn::TW) by simp[ay]] at h8
   exact h8)
  go_wp2
  exact bodyPost_end (v:=.tuple #[]) (by simp[results,Tryz.results49,go_sem]) rfl ⟨rfl,HQ.out⟩
 ·simp only[show ¬((6:Int)=1) by decide,show ¬((6:Int)=2) by decide,show ¬((6:Int)=3) by decide,show ¬((6:Int)=4) by decide,show ¬((6:Int)=5) by decide,if_true,if_false] at hkB hL hd ⊢
  unfold yA at hkB
  simp only[aaC] at hkB
  obtain⟨k1,k2,k3,k4,k5,k6,k7,k8⟩:=hkB
  unfold QT at hL ⊢
  dsimp only at *
  have hL8:=hL
  obtain⟨W,hW,hbW,aJ,hcW⟩:=aK w (.cells #[.int .i64 6,.string (aj tn),.slice a1 n1 c1,.string (aj aD),.slice a2 n2 c2,.slice a3 n3 c3,.slice a4 n4 c4,.string (aj jn),.slice a5 n5 c5,.slice a6 n6 c6,.slice a7 n7 c7,.slice a8 n8 c8,.bool desc,.int .i64 lim] 29)
  have rG:=au hcW
  have HB:=hid hbW
  have HW0:=hid (h.below hbW)
  have iD:=hid (fP.mk' h hcW (aaF _))
  have HT0:Hid (∀k,tb=some k→tb=some k∨W.heap.size≤k):=hid (fun k hk=>.inl hk)
  have o9:Hid (eP g tb W W):=hid (ak.refl _ _)
  have HX0:=hid (Jo items on wh gr od k1 (aP k3) (aP k4) (fun x hx=>by have:=aP k5 x hx;unfold dO at this;simp only[aaC] at this;exact this.2) (fun x hx=>by have:=aP k6 x hx;unfold dO at this;simp only[aaC] at this;exact this.2) tn aD jn desc lim a1 a2 a3 a4 a5 a6 a7 a8 n1 n2 n3 n4 n5 n6 n7 n8 c1 c2 c3 c4 c5 c6 c7 c8 g tb L d m W HW0.out (x4.to (by decide) (R:=fun _=>False) (T:=fun b=>b<g) (ak.aA hbW) (fun b hb _=>⟨id,hb⟩) (fun _ _ e=>e.to (R:=fun _=>False) (T:=fun b=>b<g) (ak.aA hbW) (fun b hb _=>⟨id,hb⟩))) (x5.new hbW) (x6.new hbW) (x7.new hbW) (x8.new hbW) hL8 h0 jy hm (by omega) (by omega) (by omega) (by omega) (by omega))
  generalize (bg [83,69,76,69,67,84]::(aV (bg [44]) (items.map Fx)++bg [70,82,79,77]::dQ tn::((if jn=[] then [] else [bg [74,79,73,78],dQ jn])++(bM on [[79,78]]++(bM wh [[87,72,69,82,69]]++(bM gr [[71,82,79,85,80],[66,89]]++(bM od [[79,82,68,69,82],[66,89]]++((if desc=true then [bg [68,69,83,67]] else [])++(if lim = -1 then [] else [bg [76,73,77,73,84],IW lim])))))))))=T at HX0 ⊢
  generalize max (aZ (items.map KJ)) (max (dH on) (max (dH wh) (max (dH gr) (dH od))))=DD at HX0 ⊢
  clear x1 x2 x3 x4 x5 x6 x7 x8 hbW hcW h k1 k2 k3 k4 k5 k6 k7 k8 hL hL8 hd
  go_enter Tryz.func49,Tryz.ntmps49
  go_wp2_with fail
  refine HX0.out.mono ?_
  rintro e w1 ⟨rfl,h1⟩
  have HQ:=hid (Wrote.new HB.out h1)
  clear h1 HX0
  go_wp2
  exact bodyPost_end (v:=.tuple #[]) (by simp[results,Tryz.results49,go_sem]) rfl ⟨rfl,HQ.out⟩
end Go.Proofs.YtfeglkleoijlaaaGreatDoor
