import Derived.Test.YtfeglkleoijlaaaGreatDoorY14
import Derived.Deep.RegionHeld3
namespace Go.Proofs.YtfeglkleoijlaaaGreatDoor
open Go.RowKit Go.Shelf
set_option linter.unusedSimpArgs false
set_option linter.unusedVariables false
set_option maxRecDepth 20000
set_option maxHeartbeats 8000000
theorem nO (xs:List Ex) (ws:List (List UInt8)) (hws : ∀t∈ws,t≠[]) (hwl:ws.length≤10) (v:Value) (g:Nat) (tb:Option Nat) (L:List Tk) (d m:Int) (w:World) (h:bO w g tb L d m) (hx:bA (fun b=>b<g) w xs v) (hr : ∀x∈xs,aF x=true) (h0:0≤d) (jy:d≤m) (hm:m≤1000000000) (hd : ∀x∈xs,d+(jw x:Nat)≤1000000000) (hL:L.length+(bM xs ws).length≤1000000000) :
  Calls Tryz.prog 105 #[.pointer (some ⟨g,0,none⟩),v,.slice (some ⟨w.heap.size,0,none⟩) ws.length ws.length] (w.alloc (.cells (ws.map fun t=>Value.string (aj t)).toArray 9)) fun e w'=>e = .returned (.tuple #[])∧Wrote g tb w w' (L++bM xs ws) d (max m (d+(dH xs:Nat))):=by
 have hb:Below w.heap.size w (w.alloc (.cells (ws.map fun t=>Value.string (aj t)).toArray 9)):=(Below.refl _ _).alloc (aaF _) _
 refine (Uv xs ws hws hwl v _ g tb L d m _ (h.below hb) (hx.new hb) ⟨_,_,rfl,by omega,fun _=>⟨_,rfl,by have:=h.lt;omega,fun e=>by have:=(h.O1 _ e).2;omega,by simp,fun j t ht=>?_⟩⟩ hr h0 jy hm hd hL).mono ?_
 ·rw[cell_of_row _ _ _ _ _ _ (heap_alloc_new w _)]
  simp[ht]
 ·rintro e w' ⟨rfl,h1⟩
  exact⟨rfl,h1.new hb⟩
theorem Fe (aC:List Co) (hb:aR aC 1 8 iV=true) (tn aD jn:List UInt8) (desc:Bool) (lim:Int) (a1 a2 a3 a4 a5 a6 a7 a8:Option Addr) (n1 n2 n3 n4 n5 n6 n7 n8 c1 c2 c3 c4 c5 c6 c7 c8:Nat) (g:Nat) (tb:Option Nat) (L:List Tk) (d m:Int) (w:World) (h:bO w g tb L d m) (hx:aM 4 ku (fun b=>b<g) w aC (.slice a1 n1 c1)) (hL:L.length+(aV (bg [44]) (aC.map mG)).length+11≤1000000000) (h0:0≤d) (jy:d≤m) (hm:m≤1000000000) :
  Calls Tryz.prog 99 #[.pointer (some ⟨g,0,none⟩),.agg #[.int .i64 1,.string (aj tn),.slice a1 n1 c1,.string (aj aD),.slice a2 n2 c2,.slice a3 n3 c3,.slice a4 n4 c4,.string (aj jn),.slice a5 n5 c5,.slice a6 n6 c6,.slice a7 n7 c7,.slice a8 n8 c8,.bool desc,.int .i64 lim]] w fun e w'=>e = .returned (.tuple #[])∧Wrote g tb w w' (L++(ay [[67,82,69,65,84,69],[84,65,66,76,69]]++dQ tn::bg [40]::(aV (bg [44]) (aC.map mG)++(ay [[44],[80,82,73,77,65,82,89],[75,69,89],[40]]++dQ aD::ay [[41],[41]])))) d m:=by
 have hm2:=aP hb
 obtain⟨W,hW,hbW,aJ,hcW⟩:=aK w (.cells #[.int .i64 1,.string (aj tn),.slice a1 n1 c1,.string (aj aD),.slice a2 n2 c2,.slice a3 n3 c3,.slice a4 n4 c4,.string (aj jn),.slice a5 n5 c5,.slice a6 n6 c6,.slice a7 n7 c7,.slice a8 n8 c8,.bool desc,.int .i64 lim] 29)
 have rG:=au hcW
 have HB:=hid hbW
 have HW0:=hid (h.below hbW)
 have iD:=hid (fP.mk' h hcW (aaF _))
 have HT0:Hid (∀k,tb=some k→tb=some k∨W.heap.size≤k):=hid (fun k hk=>.inl hk)
 have o9:Hid (eP g tb W W):=hid (ak.refl _ _)
 have HSL:=hid (hx.to (by decide) (R:=fun _=>False) (T:=fun b=>b<g) (ak.aA hbW) (fun b hb _=>⟨id,hb⟩) (fun _ _ e=>e))
 have HL:Hid (∀(V:World) (tb':Option Nat) (L':List Tk) (m':Int),bO V g tb' L' d m'→eP g tb W V→(∀k,tb'=some k→tb=some k∨W.heap.size≤k)→L'.length+(aV (bg [44]) (aC.map mG)).length≤1000000000→d≤m'→m'≤1000000000→Calls Tryz.prog 145 #[.pointer (some ⟨g,0,none⟩),.string ⟨#[44]⟩,.slice a1 n1 c1,.func (.func 146) #[.pointer (some ⟨g,0,none⟩)] #[]] V fun e w'=>e = .returned (.tuple #[])∧Wrote g tb' V w' (L'++aV (bg [44]) (aC.map mG)) d (max m' (d+((aZ (aC.map fun _=>0):Nat):Int)))):=hid (fun V tb' L' m' hV hF hT hl h1 h2=>Li 146 (enters_of Tryz.func146 (by kernel_rfl) rfl) mG (fun _=>0) [44] (by decide) aC _ g tb' L' d m' V hV (HSL.out.to (by decide) hF (eP.keeps HW0.out hF) (fun _ _ e=>e.to hF (eP.keeps HW0.out hF))) h1 h2 (fun x hx=>by show d+((0:Nat):Int)≤_;omega) hl (hid (fun x hxm U bX L2 m2 hU cs hcs hl2 h3 h4=>by obtain rfl:=hcs;rw[show max m2 (d+((0:Nat):Int))=m2 by omega];exact zu x (hm2 x hxm) g bX L2 d m2 U hU hl2 h0 h3 h4)))
 have hD0:=qC aC
 generalize aZ (aC.map fun _=>0)=D at HL hD0
 generalize aV (bg [44]) (aC.map mG)=T at HL hL ⊢
 clear h hbW hcW hx hm2 hb
 go_enter Tryz.func99,Tryz.ntmps99
 have HX0:Hid (Calls Tryz.prog 98 #[.pointer (some ⟨g,0,none⟩),.slice (some ⟨W.heap.size,0,none⟩) 2 2] (W.alloc (.cells #[.string ⟨#[67,82,69,65,84,69]⟩,.string ⟨#[84,65,66,76,69]⟩] 9)) fun e w'=>e = .returned (.tuple #[])∧Wrote g tb W w' (L++ay [[67,82,69,65,84,69],[84,65,66,76,69]]) d (m)):=hid (aX g tb _ d _ [[67,82,69,65,84,69],[84,65,66,76,69]] W HW0.out (by simp) (by decide) (by simp[ay]<;>omega))
 go_wp2_with fail
 refine HX0.out.mono ?_
 rintro e w1 ⟨rfl,kK,hw,ht,hf⟩
 have HW1:=hid hw
 obtain⟨ht2,hf2⟩:=bY HT0.out o9.out ht hf
 have HT1:=hid ht2
 have jG:=hid hf2
 have iy:=hid (iD.out.on ht hf)
 have iU:=au iy.out.at'
 clear hw ht hf ht2 hf2 HX0 rG
 have gP:=hid (jP g kK (L++ay [[67,82,69,65,84,69],[84,65,66,76,69]]) d (m) w1.drew (HW1.out.below (Below.refl _ w1).drew) tn (by simp[ay]<;>omega))
 have jJ:Hid (w1.drew.cell? ⟨w.heap.size,1,none⟩=some (.string (aj tn))):=hid ((au (iy.out.below (Below.refl _ w1).drew).at').2.1)
 go_wp2_with fail
 go_region_held3 (fun w'=>w'.cell? ⟨w.heap.size,1,none⟩=some (.string (aj tn))) (first | exact jJ.out | exact iY.out)
  (first
   | (
    go_at_call 100;refine gP.out.mono ?_
    rintro e w2 ⟨rfl,nH,hw,ht,hf⟩
    have HW2:=hid hw
    obtain⟨ht2,hf2⟩:=og HT1.out jG.out ht hf
    have HT2:=hid ht2
    have jW:=hid hf2
    have kH:=hid ((iy.out.below (Below.refl _ w1).drew).on ht hf)
    have j4:=au kH.out.at'
    clear hw ht hf ht2 hf2 gP iU
    have iY:=hid (j4.2.1))
   | fail)
 clear jJ iY
 have tN:Hid (Calls Tryz.prog 98 #[.pointer (some ⟨g,0,none⟩),.slice (some ⟨w2.heap.size,0,none⟩) 1 1] (w2.alloc (.cells #[.string ⟨#[40]⟩] 9)) fun e w'=>e = .returned (.tuple #[])∧Wrote g nH w2 w' (L++ay [[67,82,69,65,84,69],[84,65,66,76,69]]++[dQ tn]++ay [[40]]) d (m)):=hid (aX g nH _ d _ [[40]] w2 HW2.out (by simp) (by decide) (by simp[ay]<;>omega))
 go_wp2_with fail
 refine tN.out.mono ?_
 rintro e w3 ⟨rfl,Ku,hw,ht,hf⟩
 have HW3:=hid hw
 obtain⟨ht2,hf2⟩:=bY HT2.out jW.out ht hf
 have HT3:=hid ht2
 have za:=hid hf2
 have pI:=hid (kH.out.on ht hf)
 have nX:=au pI.out.at'
 clear hw ht hf ht2 hf2 tN j4
 have Rj:=hid (HL.out w3 Ku (L++ay [[67,82,69,65,84,69],[84,65,66,76,69]]++[dQ tn]++ay [[40]]) (m) HW3.out za.out HT3.out (by simp[ay]<;>omega) (by omega) (by omega))
 go_wp2_with fail
 refine Rj.out.mono ?_
 rintro e w4 ⟨rfl,Vn,hw,ht,hf⟩
 have Ci:=hid hw
 obtain⟨ht2,hf2⟩:=bY HT3.out za.out ht hf
 have U6:=hid ht2
 have VL:=hid hf2
 have GU:=hid (pI.out.on ht hf)
 have u7:=au GU.out.at'
 clear hw ht hf ht2 hf2 Rj nX
 have TR:Hid (Calls Tryz.prog 98 #[.pointer (some ⟨g,0,none⟩),.slice (some ⟨w4.heap.size,0,none⟩) 4 4] (w4.alloc (.cells #[.string ⟨#[44]⟩,.string ⟨#[80,82,73,77,65,82,89]⟩,.string ⟨#[75,69,89]⟩,.string ⟨#[40]⟩] 9)) fun e w'=>e = .returned (.tuple #[])∧Wrote g Vn w4 w' (L++ay [[67,82,69,65,84,69],[84,65,66,76,69]]++[dQ tn]++ay [[40]]++T++ay [[44],[80,82,73,77,65,82,89],[75,69,89],[40]]) d (max (m) (d+((D:Nat):Int)))):=hid (aX g Vn _ d _ [[44],[80,82,73,77,65,82,89],[75,69,89],[40]] w4 Ci.out (by simp) (by decide) (by simp[ay]<;>omega))
 go_wp2_with fail
 refine TR.out.mono ?_
 rintro e w5 ⟨rfl,tw5,hw,ht,hf⟩
 have Cz:=hid hw
 obtain⟨ht2,hf2⟩:=bY U6.out VL.out ht hf
 have HT5:=hid ht2
 have HF5:=hid hf2
 have JD:=hid (GU.out.on ht hf)
 have AQ:=au JD.out.at'
 clear hw ht hf ht2 hf2 TR u7
 have HX5:=hid (jP g tw5 (L++ay [[67,82,69,65,84,69],[84,65,66,76,69]]++[dQ tn]++ay [[40]]++T++ay [[44],[80,82,73,77,65,82,89],[75,69,89],[40]]) d (max (m) (d+((D:Nat):Int))) w5.drew (Cz.out.below (Below.refl _ w5).drew) aD (by simp[ay]<;>omega))
 have jJ:Hid (w5.drew.cell? ⟨w.heap.size,3,none⟩=some (.string (aj aD))):=hid ((au (JD.out.below (Below.refl _ w5).drew).at').2.2.2.1)
 go_wp2_with fail
 go_region_held3 (fun w'=>w'.cell? ⟨w.heap.size,3,none⟩=some (.string (aj aD))) (first | exact jJ.out | exact iY.out)
  (first
   | (
    go_at_call 100;refine HX5.out.mono ?_
    rintro e w6 ⟨rfl,tw6,hw,ht,hf⟩
    have O8:=hid hw
    obtain⟨ht2,hf2⟩:=og HT5.out HF5.out ht hf
    have HT6:=hid ht2
    have HF6:=hid hf2
    have Wn:=hid ((JD.out.below (Below.refl _ w5).drew).on ht hf)
    have I7:=au Wn.out.at'
    clear hw ht hf ht2 hf2 HX5 AQ
    have iY:=hid (I7.2.2.2.1))
   | fail)
 clear jJ iY
 have HX6:Hid (Calls Tryz.prog 98 #[.pointer (some ⟨g,0,none⟩),.slice (some ⟨w6.heap.size,0,none⟩) 2 2] (w6.alloc (.cells #[.string ⟨#[41]⟩,.string ⟨#[41]⟩] 9)) fun e w'=>e = .returned (.tuple #[])∧Wrote g tw6 w6 w' (L++ay [[67,82,69,65,84,69],[84,65,66,76,69]]++[dQ tn]++ay [[40]]++T++ay [[44],[80,82,73,77,65,82,89],[75,69,89],[40]]++[dQ aD]++ay [[41],[41]]) d (max (m) (d+((D:Nat):Int)))):=hid (aX g tw6 _ d _ [[41],[41]] w6 O8.out (by simp) (by decide) (by simp[ay]<;>omega))
 go_wp2_with fail
 refine HX6.out.mono ?_
 rintro e w7 ⟨rfl,tw7,hw,ht,hf⟩
 have ZC:=hid hw
 obtain⟨ht2,hf2⟩:=bY HT6.out HF6.out ht hf
 have HT7:=hid ht2
 have HF7:=hid hf2
 have aaH:=hid (Wn.out.on ht hf)
 have kk7:=au aaH.out.at'
 clear hw ht hf ht2 hf2 HX6 I7
 have HQ:Hid (Wrote g tb w w7 (L++(ay [[67,82,69,65,84,69],[84,65,66,76,69]]++dQ tn::bg [40]::(T++(ay [[44],[80,82,73,77,65,82,89],[75,69,89],[40]]++dQ aD::ay [[41],[41]])))) d (m)):=hid (by
  have h9:Wrote g tb W w7 (L++ay [[67,82,69,65,84,69],[84,65,66,76,69]]++[dQ tn]++ay [[40]]++T++ay [[44],[80,82,73,77,65,82,89],[75,69,89],[40]]++[dQ aD]++ay [[41],[41]]) d (max (m) (d+((D:Nat):Int))):=⟨tw7,ZC.out,HT7.out,HF7.out⟩
  have h8:=Wrote.new HB.out h9
  rw[show max (m) (d+((D:Nat):Int))=m by omega] at h8
  rw[show L++ay [[67,82,69,65,84,69],[84,65,66,76,69]]++[dQ tn]++ay [[40]]++T++ay [[44],[80,82,73,77,65,82,89],[75,69,89],[40]]++[dQ aD]++ay [[41],[41]]=L++(ay [[67,82,69,65,84,69],[84,65,66,76,69]]++dQ tn::bg [40]::(T++(ay [[44],[80,82,73,77,65,82,89],[75,69,89],[40]]++dQ aD::ay [[41],[41]]))) by simp[ay]] at h8
  exact h8)
 go_wp2
 exact bodyPost_end (v:=.tuple #[]) (by simp[results,Tryz.results99,go_sem]) rfl ⟨rfl,HQ.out⟩
theorem Jo (items:List It) (on wh gr od:List Ex) (hb:aR items 1 8 oQ=true) (HOr : ∀x∈on,aF x=true) (Sc : ∀x∈wh,aF x=true) (WM : ∀x∈gr,aF x=true) (HDr : ∀x∈od,aF x=true) (tn aD jn:List UInt8) (desc:Bool) (lim:Int) (a1 a2 a3 a4 a5 a6 a7 a8:Option Addr) (n1 n2 n3 n4 n5 n6 n7 n8 c1 c2 c3 c4 c5 c6 c7 c8:Nat) (g:Nat) (tb:Option Nat) (L:List Tk) (d m:Int) (w:World) (h:bO w g tb L d m)
  (hx:aM 2 vY (fun b=>b<g) w items (.slice a4 n4 c4)) (hx5:bA (fun b=>b<g) w on (.slice a5 n5 c5)) (hx6:bA (fun b=>b<g) w wh (.slice a6 n6 c6)) (hx7:bA (fun b=>b<g) w gr (.slice a7 n7 c7)) (hx8:bA (fun b=>b<g) w od (.slice a8 n8 c8))
  (hL:L.length+(bg [83,69,76,69,67,84]::(aV (bg [44]) (items.map Fx)++bg [70,82,79,77]::dQ tn::((if jn=[] then [] else [bg [74,79,73,78],dQ jn])++(bM on [[79,78]]++(bM wh [[87,72,69,82,69]]++(bM gr [[71,82,79,85,80],[66,89]]++(bM od [[79,82,68,69,82],[66,89]]++((if desc=true then [bg [68,69,83,67]] else [])++(if lim = -1 then [] else [bg [76,73,77,73,84],IW lim]))))))))).length≤1000000000) (h0:0≤d) (jy:d≤m) (hm:m≤1000000000)
  (hd:d+(aZ (items.map KJ):Nat)≤1000000000) (hd5:d+(dH on:Nat)≤1000000000) (hd6:d+(dH wh:Nat)≤1000000000) (hd7:d+(dH gr:Nat)≤1000000000) (hd8:d+(dH od:Nat)≤1000000000) :
  Calls Tryz.prog 106 #[.pointer (some ⟨g,0,none⟩),.agg #[.int .i64 6,.string (aj tn),.slice a1 n1 c1,.string (aj aD),.slice a2 n2 c2,.slice a3 n3 c3,.slice a4 n4 c4,.string (aj jn),.slice a5 n5 c5,.slice a6 n6 c6,.slice a7 n7 c7,.slice a8 n8 c8,.bool desc,.int .i64 lim]] w fun e w'=>e = .returned (.tuple #[])∧Wrote g tb w w' (L++(bg [83,69,76,69,67,84]::(aV (bg [44]) (items.map Fx)++bg [70,82,79,77]::dQ tn::((if jn=[] then [] else [bg [74,79,73,78],dQ jn])++(bM on [[79,78]]++(bM wh [[87,72,69,82,69]]++(bM gr [[71,82,79,85,80],[66,89]]++(bM od [[79,82,68,69,82],[66,89]]++((if desc=true then [bg [68,69,83,67]] else [])++(if lim = -1 then [] else [bg [76,73,77,73,84],IW lim])))))))))) d (max m (d+((max (aZ (items.map KJ)) (max (dH on) (max (dH wh) (max (dH gr) (dH od)))):Nat):Int))):=by
 have hm2:=aP hb
 obtain⟨W,hW,hbW,aJ,hcW⟩:=aK w (.cells #[.int .i64 6,.string (aj tn),.slice a1 n1 c1,.string (aj aD),.slice a2 n2 c2,.slice a3 n3 c3,.slice a4 n4 c4,.string (aj jn),.slice a5 n5 c5,.slice a6 n6 c6,.slice a7 n7 c7,.slice a8 n8 c8,.bool desc,.int .i64 lim] 29)
 have rG:=au hcW
 have HB:=hid hbW
 have HW0:=hid (h.below hbW)
 have iD:=hid (fP.mk' h hcW (aaF _))
 have HT0:Hid (∀k,tb=some k→tb=some k∨W.heap.size≤k):=hid (fun k hk=>.inl hk)
 have o9:Hid (eP g tb W W):=hid (ak.refl _ _)
 have HSL:=hid (hx.to (by decide) (R:=fun _=>False) (T:=fun b=>b<g) (ak.aA hbW) (fun b hb _=>⟨id,hb⟩) (fun _ _ e=>e.to (R:=fun _=>False) (T:=fun b=>b<g) (ak.aA hbW) (fun b hb _=>⟨id,hb⟩)))
 have HA5:=hid (hx5.new hbW)
 have RH:=hid (hx6.new hbW)
 have HA7:=hid (hx7.new hbW)
 have HA8:=hid (hx8.new hbW)
 have HL:Hid (∀(V:World) (tb':Option Nat) (L':List Tk) (m':Int),bO V g tb' L' d m'→eP g tb W V→(∀k,tb'=some k→tb=some k∨W.heap.size≤k)→L'.length+(aV (bg [44]) (items.map Fx)).length≤1000000000→d≤m'→m'≤1000000000→Calls Tryz.prog 148 #[.pointer (some ⟨g,0,none⟩),.string ⟨#[44]⟩,.slice a4 n4 c4,.func (.func 149) #[.pointer (some ⟨g,0,none⟩)] #[]] V fun e w'=>e = .returned (.tuple #[])∧Wrote g tb' V w' (L'++aV (bg [44]) (items.map Fx)) d (max m' (d+((aZ (items.map KJ):Nat):Int)))):=hid (fun V tb' L' m' hV hF hT hl h1 h2=>Nu 149 (enters_of Tryz.func149 (by kernel_rfl) rfl) Fx (KJ) [44] (by decide) items _ g tb' L' d m' V hV (HSL.out.to (by decide) hF (eP.keeps HW0.out hF) (fun _ _ e=>e.to hF (eP.keeps HW0.out hF))) h1 h2 (fun x hx=>by have:=iE KJ items x hx;omega) hl (hid (fun x hxm U bX L2 m2 hU cs hcs hl2 h3 h4=>by exact UW x (hm2 x hxm) cs g bX L2 d m2 U hU hcs hl2 h0 h3 h4 (by have:=iE KJ items x hxm;omega))))
 have HO:Hid (∀(V:World) (tb':Option Nat) (L':List Tk) (m':Int),bO V g tb' L' d m'→eP g tb W V→(∀k,tb'=some k→tb=some k∨W.heap.size≤k)→L'.length+(bM on [[79,78]]).length≤1000000000→d≤m'→m'≤1000000000→Calls Tryz.prog 105 #[.pointer (some ⟨g,0,none⟩),.slice a5 n5 c5,.slice (some ⟨V.heap.size,0,none⟩) 1 1] (V.alloc (.cells #[.string ⟨#[79,78]⟩] 9)) fun e w'=>e = .returned (.tuple #[])∧Wrote g tb' V w' (L'++bM on [[79,78]]) d (max m' (d+((dH on:Nat):Int)))):=hid (fun V tb' L' m' hV hF hT hl h1 h2=>nO on [[79,78]] (by decide) (by decide) _ g tb' L' d m' V hV (HA5.out.zC HW0.out hF) HOr h0 h1 h2 (fun x hx=>by have:=iE jw on x hx;have:jw x≤dH on:=this;omega) hl)
 have HW:Hid (∀(V:World) (tb':Option Nat) (L':List Tk) (m':Int),bO V g tb' L' d m'→eP g tb W V→(∀k,tb'=some k→tb=some k∨W.heap.size≤k)→L'.length+(bM wh [[87,72,69,82,69]]).length≤1000000000→d≤m'→m'≤1000000000→Calls Tryz.prog 105 #[.pointer (some ⟨g,0,none⟩),.slice a6 n6 c6,.slice (some ⟨V.heap.size,0,none⟩) 1 1] (V.alloc (.cells #[.string ⟨#[87,72,69,82,69]⟩] 9)) fun e w'=>e = .returned (.tuple #[])∧Wrote g tb' V w' (L'++bM wh [[87,72,69,82,69]]) d (max m' (d+((dH wh:Nat):Int)))):=hid (fun V tb' L' m' hV hF hT hl h1 h2=>nO wh [[87,72,69,82,69]] (by decide) (by decide) _ g tb' L' d m' V hV (RH.out.zC HW0.out hF) Sc h0 h1 h2 (fun x hx=>by have:=iE jw wh x hx;have:jw x≤dH wh:=this;omega) hl)
 have HG:Hid (∀(V:World) (tb':Option Nat) (L':List Tk) (m':Int),bO V g tb' L' d m'→eP g tb W V→(∀k,tb'=some k→tb=some k∨W.heap.size≤k)→L'.length+(bM gr [[71,82,79,85,80],[66,89]]).length≤1000000000→d≤m'→m'≤1000000000→Calls Tryz.prog 105 #[.pointer (some ⟨g,0,none⟩),.slice a7 n7 c7,.slice (some ⟨V.heap.size,0,none⟩) 2 2] (V.alloc (.cells #[.string ⟨#[71,82,79,85,80]⟩,.string ⟨#[66,89]⟩] 9)) fun e w'=>e = .returned (.tuple #[])∧Wrote g tb' V w' (L'++bM gr [[71,82,79,85,80],[66,89]]) d (max m' (d+((dH gr:Nat):Int)))):=hid (fun V tb' L' m' hV hF hT hl h1 h2=>nO gr [[71,82,79,85,80],[66,89]] (by decide) (by decide) _ g tb' L' d m' V hV (HA7.out.zC HW0.out hF) WM h0 h1 h2 (fun x hx=>by have:=iE jw gr x hx;have:jw x≤dH gr:=this;omega) hl)
 have HD:Hid (∀(V:World) (tb':Option Nat) (L':List Tk) (m':Int),bO V g tb' L' d m'→eP g tb W V→(∀k,tb'=some k→tb=some k∨W.heap.size≤k)→L'.length+(bM od [[79,82,68,69,82],[66,89]]).length≤1000000000→d≤m'→m'≤1000000000→Calls Tryz.prog 105 #[.pointer (some ⟨g,0,none⟩),.slice a8 n8 c8,.slice (some ⟨V.heap.size,0,none⟩) 2 2] (V.alloc (.cells #[.string ⟨#[79,82,68,69,82]⟩,.string ⟨#[66,89]⟩] 9)) fun e w'=>e = .returned (.tuple #[])∧Wrote g tb' V w' (L'++bM od [[79,82,68,69,82],[66,89]]) d (max m' (d+((dH od:Nat):Int)))):=hid (fun V tb' L' m' hV hF hT hl h1 h2=>nO od [[79,82,68,69,82],[66,89]] (by decide) (by decide) _ g tb' L' d m' V hV (HA8.out.zC HW0.out hF) HDr h0 h1 h2 (fun x hx=>by have:=iE jw od x hx;have:jw x≤dH od:=this;omega) hl)
 clear hx hx5 hx6 hx7 hx8 hm2 hb HOr Sc WM HDr HSL HA5 RH HA7 HA8 h hbW hcW
 generalize aZ (items.map KJ)=DL at HL hd ⊢
 generalize aV (bg [44]) (items.map Fx)=TL at HL hL ⊢
 generalize dH on=DO at HO hd5 ⊢
 generalize bM on [[79,78]]=TO at HO hL ⊢
 generalize dH wh=DW at HW hd6 ⊢
 generalize bM wh [[87,72,69,82,69]]=TW at HW hL ⊢
 generalize dH gr=DG at HG hd7 ⊢
 generalize bM gr [[71,82,79,85,80],[66,89]]=TG at HG hL ⊢
 generalize dH od=DD at HD hd8 ⊢
 generalize bM od [[79,82,68,69,82],[66,89]]=TD at HD hL ⊢
 obtain⟨jb,hjb⟩:∃jb,(aj jn).toList.isEmpty=jb:=⟨_,rfl⟩
 have Xg:Hid (jb=decide (jn=[])):=hid (by rw[← hjb];exact bf jn)
 obtain⟨JN,hJN⟩:∃JN,(if jn=[] then ([]:List Tk) else [bg [74,79,73,78],dQ jn])=JN:=⟨_,rfl⟩
 obtain⟨DS,hDS⟩:∃DS,(if desc=true then [bg [68,69,83,67]] else ([]:List Tk))=DS:=⟨_,rfl⟩
 obtain⟨LS,hLS⟩:∃LS,(if lim = -1 then ([]:List Tk) else [bg [76,73,77,73,84],IW lim])=LS:=⟨_,rfl⟩
 rw[hJN,hDS,hLS] at hL ⊢
 simp only[aaN,aa1] at hL
 have HJN:=hid hJN
 have XZ:=hid hDS
 have HLS:=hid hLS
 have H0:Hid (wP W g tb w.heap.size (.cells #[.int .i64 6,.string (aj tn),.slice a1 n1 c1,.string (aj aD),.slice a2 n2 c2,.slice a3 n3 c3,.slice a4 n4 c4,.string (aj jn),.slice a5 n5 c5,.slice a6 n6 c6,.slice a7 n7 c7,.slice a8 n8 c8,.bool desc,.int .i64 lim] 29) d W tb L m):=hid ⟨HW0.out,HT0.out,o9.out,iD.out⟩
 clear hJN hDS hLS HW0 HT0 o9 iD
 go_enter Tryz.func106,Tryz.ntmps106
 have HX:=hid (aX g tb _ d _ [[83,69,76,69,67,84]] W H0.out.1 (by simp) (by decide) (by simp[ay]<;>omega))
 go_wp2_with fail
 refine HX.out.mono ?_
 rintro e w1 ⟨rfl,hw⟩
 obtain⟨t1,h1⟩:=H0.out.step hw
 have H1:=hid h1
 have iU:=au h1.2.2.2.at'
 clear hw h1 HX rG
 have HX:=hid (HL.out w1 t1 _ _ H1.out.1 H1.out.2.2.1 H1.out.2.1 (by simp[ay]<;>omega) (by omega) (by omega))
 go_wp2_with fail
 refine HX.out.mono ?_
 rintro e w2 ⟨rfl,hw⟩
 obtain⟨t2,h2⟩:=H1.out.step hw
 have H2:=hid h2
 have j4:=au h2.2.2.2.at'
 clear hw h2 HX iU
 have HX:=hid (aX g t2 _ d _ [[70,82,79,77]] w2 H2.out.1 (by simp) (by decide) (by simp[ay]<;>omega))
 go_wp2_with fail
 refine HX.out.mono ?_
 rintro e w3 ⟨rfl,hw⟩
 obtain⟨t3,h3⟩:=H2.out.step hw
 have H3:=hid h3
 have nX:=au h3.2.2.2.at'
 clear hw h3 HX j4
 have hd3:=H3.out.dr
 have HX:=hid (jP g t3 _ d _ w3.drew hd3.1 tn (by simp[ay]<;>omega))
 have jJ:Hid (w3.drew.cell? ⟨w.heap.size,1,none⟩=some (.string (aj tn))):=hid ((au hd3.2.2.2.at').2.1)
 have HD3:=hid hd3
 clear hd3
 go_wp2_with fail
 go_region_held3 (fun w'=>w'.cell? ⟨w.heap.size,1,none⟩=some (.string (aj tn))) (first | exact jJ.out | exact iY.out)
  (first
   | (
     go_at_call 100;refine HX.out.mono ?_
     rintro e w4 ⟨rfl,hw⟩
     obtain⟨t4,h4⟩:=HD3.out.step hw
     have H4:=hid h4
     have u7:=au h4.2.2.2.at'
     clear hw h4 HX nX
     have iY:=hid (u7.2.1))
   | fail)
 clear jJ iY
 go_upto_if 28 with fail
 go_cut [29] from 30 (fun _ wx=>∃t,Hid (wP W g tb w.heap.size (.cells #[.int .i64 6,.string (aj tn),.slice a1 n1 c1,.string (aj aD),.slice a2 n2 c2,.slice a3 n3 c3,.slice a4 n4 c4,.string (aj jn),.slice a5 n5 c5,.slice a6 n6 c6,.slice a7 n7 c7,.slice a8 n8 c8,.bool desc,.int .i64 lim] 29) d wx t (L++ay [[83,69,76,69,67,84]]++TL++ay [[70,82,79,77]]++[dQ tn]++JN) (max m (d+((DL:Nat):Int)))))
 case first =>
  cases jb with
  |
   true =>
   have hj:=of_decide_eq_true Xg.out.symm
   have hJ:JN=[]:=by rw[← HJN.out,if_pos hj]
   have HF:Hid (wP W g tb w.heap.size (.cells #[.int .i64 6,.string (aj tn),.slice a1 n1 c1,.string (aj aD),.slice a2 n2 c2,.slice a3 n3 c3,.slice a4 n4 c4,.string (aj jn),.slice a5 n5 c5,.slice a6 n6 c6,.slice a7 n7 c7,.slice a8 n8 c8,.bool desc,.int .i64 lim] 29) d w4 t4 (L++ay [[83,69,76,69,67,84]]++TL++ay [[70,82,79,77]]++[dQ tn]++JN) (max m (d+((DL:Nat):Int)))):=hid (by rw[hJ,List.append_nil];exact H4.out)
   clear hj hJ
   go_wp2_with fail
   go_meet
   case rel=>exact⟨_,HF⟩
  |
   false =>
   have hj:=of_decide_eq_false Xg.out.symm
   have hJ:JN=[bg [74,79,73,78],dQ jn]:=by rw[← HJN.out,if_neg hj]
   have hJl:JN.length=2:=by rw[hJ];rfl
   have HJ:=hid hJ
   clear hj hJ
   have HX:=hid (aX g t4 _ d _ [[74,79,73,78]] w4 H4.out.1 (by simp) (by decide) (by simp[ay]<;>omega))
   go_wp2_with fail
   refine HX.out.mono ?_
   rintro e w5 ⟨rfl,hw⟩
   obtain⟨t5,h5⟩:=H4.out.step hw
   have H5:=hid h5
   have AQ:=au h5.2.2.2.at'
   clear hw h5 HX u7
   have hd5:=H5.out.dr
   have HX:=hid (jP g t5 _ d _ w5.drew hd5.1 jn (by simp[ay]<;>omega))
   have jJ:Hid (w5.drew.cell? ⟨w.heap.size,7,none⟩=some (.string (aj jn))):=hid ((au hd5.2.2.2.at').2.2.2.2.2.2.2.1)
   have HD5:=hid hd5
   clear hd5
   go_wp2_with fail
   go_region_held3 (fun w'=>w'.cell? ⟨w.heap.size,7,none⟩=some (.string (aj jn))) (first | exact jJ.out | exact iY.out)
    (first
      | (
        go_at_call 100;refine HX.out.mono ?_
        rintro e w6 ⟨rfl,hw⟩
        obtain⟨t6,h6⟩:=HD5.out.step hw
        have H6:=hid h6
        have I7:=au h6.2.2.2.at'
        clear hw h6 HX AQ
        have iY:=hid (I7.2.2.2.2.2.2.2.1))
      | fail)
   clear jJ iY
   have HF:Hid (wP W g tb w.heap.size (.cells #[.int .i64 6,.string (aj tn),.slice a1 n1 c1,.string (aj aD),.slice a2 n2 c2,.slice a3 n3 c3,.slice a4 n4 c4,.string (aj jn),.slice a5 n5 c5,.slice a6 n6 c6,.slice a7 n7 c7,.slice a8 n8 c8,.bool desc,.int .i64 lim] 29) d w6 t6 (L++ay [[83,69,76,69,67,84]]++TL++ay [[70,82,79,77]]++[dQ tn]++JN) (max m (d+((DL:Nat):Int)))):=hid (by have:=H6.out;rw[HJ.out];simpa [ay] using this)
   go_wp2_with fail
   go_meet
   case rel=>exact⟨_,HF⟩
 case rest =>
  obtain⟨t7,H7⟩:=hcut
  obtain⟨w7,hw7⟩:∃w7,w7=wc:=⟨_,rfl⟩
  rw[← hw7] at H7 ⊢
  have kk7:=au H7.out.2.2.2.at'
  clear hw7 u7 H4
  have HX:=hid (HO.out w7 t7 _ _ H7.out.1 H7.out.2.2.1 H7.out.2.1 (by simp[ay]<;>omega) (by omega) (by omega))
  go_wp2_with fail
  refine HX.out.mono ?_
  rintro e w8 ⟨rfl,hw⟩
  obtain⟨t8,h8⟩:=H7.out.step hw
  have H8:=hid h8
  have kk8:=au h8.2.2.2.at'
  clear hw h8 HX kk7
  have HX:=hid (HW.out w8 t8 _ _ H8.out.1 H8.out.2.2.1 H8.out.2.1 (by simp[ay]<;>omega) (by omega) (by omega))
  go_wp2_with fail
  refine HX.out.mono ?_
  rintro e w9 ⟨rfl,hw⟩
  obtain⟨t9,h9⟩:=H8.out.step hw
  have H9:=hid h9
  have kk9:=au h9.2.2.2.at'
  clear hw h9 HX kk8
  have HX:=hid (HG.out w9 t9 _ _ H9.out.1 H9.out.2.2.1 H9.out.2.1 (by simp[ay]<;>omega) (by omega) (by omega))
  go_wp2_with fail
  refine HX.out.mono ?_
  rintro e w10 ⟨rfl,hw⟩
  obtain⟨t10,h10⟩:=H9.out.step hw
  have ZM:=hid h10
  have Z9:=au h10.2.2.2.at'
  clear hw h10 HX kk9
  have HX:=hid (HD.out w10 t10 _ _ ZM.out.1 ZM.out.2.2.1 ZM.out.2.1 (by simp[ay]<;>omega) (by omega) (by omega))
  go_wp2_with fail
  refine HX.out.mono ?_
  rintro e w11 ⟨rfl,hw⟩
  obtain⟨t11,h11⟩:=ZM.out.step hw
  have ZG:=hid h11
  have YG:=au h11.2.2.2.at'
  clear hw h11 HX Z9
  go_upto_if 61 with fail
  go_cut [62] from 63 (fun _ wx=>∃t,Hid (wP W g tb w.heap.size (.cells #[.int .i64 6,.string (aj tn),.slice a1 n1 c1,.string (aj aD),.slice a2 n2 c2,.slice a3 n3 c3,.slice a4 n4 c4,.string (aj jn),.slice a5 n5 c5,.slice a6 n6 c6,.slice a7 n7 c7,.slice a8 n8 c8,.bool desc,.int .i64 lim] 29) d wx t (L++ay [[83,69,76,69,67,84]]++TL++ay [[70,82,79,77]]++[dQ tn]++JN++TO++TW++TG++TD++DS) (max (max (max (max (max m (d+((DL:Nat):Int))) (d+((DO:Nat):Int))) (d+((DW:Nat):Int))) (d+((DG:Nat):Int))) (d+((DD:Nat):Int)))))
  case first =>
   cases desc with
   |
    false =>
    have HF:Hid (wP W g tb w.heap.size (.cells #[.int .i64 6,.string (aj tn),.slice a1 n1 c1,.string (aj aD),.slice a2 n2 c2,.slice a3 n3 c3,.slice a4 n4 c4,.string (aj jn),.slice a5 n5 c5,.slice a6 n6 c6,.slice a7 n7 c7,.slice a8 n8 c8,.bool false,.int .i64 lim] 29) d w11 t11 (L++ay [[83,69,76,69,67,84]]++TL++ay [[70,82,79,77]]++[dQ tn]++JN++TO++TW++TG++TD++DS) (max (max (max (max (max m (d+((DL:Nat):Int))) (d+((DO:Nat):Int))) (d+((DW:Nat):Int))) (d+((DG:Nat):Int))) (d+((DD:Nat):Int)))):=hid (by rw[show DS=[] by rw[← XZ.out];rfl,List.append_nil];exact ZG.out)
    go_wp2_with fail
    go_meet
    case rel=>exact⟨_,HF⟩
   |
    true =>
    have hD:DS=[bg [68,69,83,67]]:=by rw[← XZ.out];rfl
    have hDl:DS.length=1:=by rw[hD];rfl
    have HDD:=hid hD
    clear hD
    have HX:=hid (aX g t11 _ d _ [[68,69,83,67]] w11 ZG.out.1 (by simp) (by decide) (by simp[ay]<;>omega))
    go_wp2_with fail
    refine HX.out.mono ?_
    rintro e w12 ⟨rfl,hw⟩
    obtain⟨t12,h12⟩:=ZG.out.step hw
    have H12:=hid h12
    have afk:=au h12.2.2.2.at'
    clear hw h12 HX YG
    have HF:Hid (wP W g tb w.heap.size (.cells #[.int .i64 6,.string (aj tn),.slice a1 n1 c1,.string (aj aD),.slice a2 n2 c2,.slice a3 n3 c3,.slice a4 n4 c4,.string (aj jn),.slice a5 n5 c5,.slice a6 n6 c6,.slice a7 n7 c7,.slice a8 n8 c8,.bool true,.int .i64 lim] 29) d w12 t12 (L++ay [[83,69,76,69,67,84]]++TL++ay [[70,82,79,77]]++[dQ tn]++JN++TO++TW++TG++TD++DS) (max (max (max (max (max m (d+((DL:Nat):Int))) (d+((DO:Nat):Int))) (d+((DW:Nat):Int))) (d+((DG:Nat):Int))) (d+((DD:Nat):Int)))):=hid (by have:=H12.out;rw[HDD.out];simpa [ay] using this)
    go_wp2_with fail
    go_meet
    case rel=>exact⟨_,HF⟩
  case rest =>
   obtain⟨t13,Xa⟩:=hcut
   obtain⟨Vq,XQ⟩:∃Vq,Vq=wc:=⟨_,rfl⟩
   rw[← XQ] at Xa ⊢
   have acQ:=au Xa.out.2.2.2.at'
   clear XQ YG ZG
   have HQ:Hid (∀(V:World) (t:Option Nat),wP W g tb w.heap.size (.cells #[.int .i64 6,.string (aj tn),.slice a1 n1 c1,.string (aj aD),.slice a2 n2 c2,.slice a3 n3 c3,.slice a4 n4 c4,.string (aj jn),.slice a5 n5 c5,.slice a6 n6 c6,.slice a7 n7 c7,.slice a8 n8 c8,.bool desc,.int .i64 lim] 29) d V t (L++ay [[83,69,76,69,67,84]]++TL++ay [[70,82,79,77]]++[dQ tn]++JN++TO++TW++TG++TD++DS++LS) (max (max (max (max (max m (d+((DL:Nat):Int))) (d+((DO:Nat):Int))) (d+((DW:Nat):Int))) (d+((DG:Nat):Int))) (d+((DD:Nat):Int)))→Wrote g tb w V (L++(bg [83,69,76,69,67,84]::(TL++bg [70,82,79,77]::dQ tn::(JN++(TO++(TW++(TG++(TD++(DS++LS))))))))) d (max m (d+((max DL (max DO (max DW (max DG DD))):Nat):Int)))):=hid (fun V t h=>by
    have h8:=Wrote.new HB.out (⟨t,h.1,h.2.1,h.2.2.1⟩:Wrote g tb W V _ d _)
    rw[show max (max (max (max (max m (d+((DL:Nat):Int))) (d+((DO:Nat):Int))) (d+((DW:Nat):Int))) (d+((DG:Nat):Int))) (d+((DD:Nat):Int))=max m (d+((max DL (max DO (max DW (max DG DD))):Nat):Int)) by omega] at h8
    simpa [ay] using h8)
   by_cases hl:lim = -1
   ·have hLn:LS=[]:=by rw[← HLS.out,if_pos hl]
    have hlb:(lim != -1)=false:=by rw[hl];rfl
    have HF:=hid (HQ.out Vq t13 (by rw[hLn,List.append_nil];exact Xa.out))
    clear hl hLn
    go_wp2_with fail
    exact bodyPost_end (v:=.tuple #[]) (by simp[results,Tryz.results106,go_sem]) rfl ⟨rfl,HF.out⟩
   ·have hLn:LS=[bg [76,73,77,73,84],IW lim]:=by rw[← HLS.out,if_neg hl]
    have hLl:LS.length=2:=by rw[hLn];rfl
    have hlb:(lim != -1)=true:=by rw[bne_iff_ne];exact hl
    have O4:=hid hLn
    clear hl hLn
    have HX:=hid (aX g t13 _ d _ [[76,73,77,73,84]] Vq Xa.out.1 (by simp) (by decide) (by simp[ay]<;>omega))
    go_wp2_with fail
    refine HX.out.mono ?_
    rintro e w14 ⟨rfl,hw⟩
    obtain⟨t14,h14⟩:=Xa.out.step hw
    have H14:=hid h14
    have abP:=au h14.2.2.2.at'
    clear hw h14 HX acQ
    have PZ:=H14.out.dr
    have HX:=hid (xQ g t14 _ d _ w14.drew PZ.1 lim (by simp[ay]<;>omega))
    have jJ:Hid (w14.drew.cell? ⟨w.heap.size,13,none⟩=some (.int .i64 lim)):=hid ((au PZ.2.2.2.at').2.2.2.2.2.2.2.2.2.2.2.2.2)
    have abJ:=hid PZ
    clear PZ
    go_wp2_with fail
    go_region_held3 (fun w'=>w'.cell? ⟨w.heap.size,13,none⟩=some (.int .i64 lim)) (first | exact jJ.out | exact iY.out)
      (first
       | (
         go_at_call 150;refine HX.out.mono ?_
         rintro e w15 ⟨rfl,hw⟩
         obtain⟨t15,h15⟩:=abJ.out.step hw
         have H15:=hid h15
         have aa8:=au h15.2.2.2.at'
         clear hw h15 HX abP
         have iY:=hid (aa8.2.2.2.2.2.2.2.2.2.2.2.2.2))
       | fail)
    clear jJ iY
    have HF:=hid (HQ.out w15 t15 (by have:=H15.out;rw[O4.out];simpa [ay] using this))
    go_wp2_with fail
    exact bodyPost_end (v:=.tuple #[]) (by simp[results,Tryz.results106,go_sem]) rfl ⟨rfl,HF.out⟩
end Go.Proofs.YtfeglkleoijlaaaGreatDoor
