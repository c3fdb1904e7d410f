/- Packed for the hand-in: WStmC -/
import Derived.Test.YtfeglkleoijlaaaGreatDoorZ16
import Derived.Test.YtfeglkleoijlaaaGreatDoorZ17
import Derived.Deep.RegionHeld3
namespace Go.Proofs.YtfeglkleoijlaaaGreatDoor
open Go.RowKit Go.Shelf
set_option linter.unusedSimpArgs false
set_option linter.unusedVariables false
set_option maxRecDepth 20000
set_option maxHeartbeats 8000000
theorem jf (xs:List Ex) (ws:List (List UInt8)) (hws : ∀t∈ws,t≠[]) (hwl:ws.length≤10) (v:Value) (g:Nat) (tb:Option Nat) (L:List Tk) (d m:Int) (w:World) (h:bJ w g tb L d m) (hx:bF (fun b=>b<g) w xs v) (hr : ∀x∈xs,aJ x=true) (h0:0≤d) (hdm:d≤m) (hm:m≤1000000000) (hd : ∀x∈xs,d+(fJ x:Nat)≤1000000000) (hL:L.length+(bH xs ws).length≤1000000000) :
  Calls Tryz.prog 105 #[.pointer (some ⟨g,0,none⟩),v,.slice (some ⟨w.heap.size,0,none⟩) ws.length ws.length] (w.alloc (.cells (ws.map fun t=>Value.string (aj t)).toArray 9)) fun e w'=>e = .returned (.tuple #[])∧Wrote g tb w w' (L++bH xs ws) d (max m (d+(bY xs:Nat))):=by
 have hb:Below w.heap.size w (w.alloc (.cells (ws.map fun t=>Value.string (aj t)).toArray 9)):=(Below.refl _ _).alloc (Nat.le_refl _) _
 refine (GD xs ws hws hwl v _ g tb L d m _ (h.below hb) (hx.new hb) ⟨_,_,rfl,by omega,fun _=>⟨_,rfl,by have:=h.lt;omega,fun e=>by have:=(h.EB _ e).2;omega,by simp,fun j t ht=>?_⟩⟩ hr h0 hdm hm hd hL).mono ?_
 ·rw[cell_of_row _ _ _ _ _ _ (heap_alloc_new w _)]
  simp[ht]
 ·rintro e w' ⟨rfl,h1⟩
  exact⟨rfl,h1.new hb⟩
theorem wm (cols:List Co) (hb:bf cols 1 8 eY=true) (tn prim jn:List UInt8) (desc:Bool) (lim:Int) (a1 a2 a3 a4 a5 a6 a7 a8:Option Addr) (n1 n2 n3 n4 n5 n6 n7 n8 c1 c2 c3 c4 c5 c6 c7 c8:Nat) (g:Nat) (tb:Option Nat) (L:List Tk) (d m:Int) (w:World) (h:bJ w g tb L d m) (hx:aQ 4 gH (fun b=>b<g) w cols (.slice a1 n1 c1)) (hL:L.length+(aS (aK [44]) (cols.map iN)).length+11≤1000000000) (h0:0≤d) (hdm:d≤m) (hm:m≤1000000000) :
  Calls Tryz.prog 99 #[.pointer (some ⟨g,0,none⟩),.agg #[.int .i64 1,.string (aj tn),.slice a1 n1 c1,.string (aj prim),.slice a2 n2 c2,.slice a3 n3 c3,.slice a4 n4 c4,.string (aj jn),.slice a5 n5 c5,.slice a6 n6 c6,.slice a7 n7 c7,.slice a8 n8 c8,.bool desc,.int .i64 lim]] w fun e w'=>e = .returned (.tuple #[])∧Wrote g tb w w' (L++(au [[67,82,69,65,84,69],[84,65,66,76,69]]++aW tn::aK [40]::(aS (aK [44]) (cols.map iN)++(au [[44],[80,82,73,77,65,82,89],[75,69,89],[40]]++aW prim::au [[41],[41]])))) d m:=by
 have hm2:=aU hb
 obtain⟨W,hW,hbW,hzW,hcW⟩:=aL w (.cells #[.int .i64 1,.string (aj tn),.slice a1 n1 c1,.string (aj prim),.slice a2 n2 c2,.slice a3 n3 c3,.slice a4 n4 c4,.string (aj jn),.slice a5 n5 c5,.slice a6 n6 c6,.slice a7 n7 c7,.slice a8 n8 c8,.bool desc,.int .i64 lim] 29)
 have kk0:=ay hcW
 have HB:=hid hbW
 have HW0:=hid (h.below hbW)
 have HBX0:=hid (dn.mk' h hcW (Nat.le_refl _))
 have HT0:Hid (∀k,tb=some k→tb=some k∨W.heap.size≤k):=hid (fun k hk=>.inl hk)
 have HF0:Hid (cB g tb W W):=hid (aA.refl _ _)
 have HSL:=hid (hx.to (by decide) (R:=fun _=>False) (T:=fun b=>b<g) (aA.aC hbW) (fun b hb _=>⟨id,hb⟩) (fun _ _ e=>e))
 have HL:Hid (∀(V:World) (tb':Option Nat) (L':List Tk) (m':Int),bJ V g tb' L' d m'→cB g tb W V→(∀k,tb'=some k→tb=some k∨W.heap.size≤k)→L'.length+(aS (aK [44]) (cols.map iN)).length≤1000000000→d≤m'→m'≤1000000000→Calls Tryz.prog 145 #[.pointer (some ⟨g,0,none⟩),.string ⟨#[44]⟩,.slice a1 n1 c1,.func (.func 146) #[.pointer (some ⟨g,0,none⟩)] #[]] V fun e w'=>e = .returned (.tuple #[])∧Wrote g tb' V w' (L'++aS (aK [44]) (cols.map iN)) d (max m' (d+((aY (cols.map fun _=>0):Nat):Int)))):=hid (fun V tb' L' m' hV hF hT hl h1 h2=>Dj 146 (enters_of Tryz.func146 (by kernel_rfl) rfl) iN (fun _=>0) [44] (by decide) cols _ g tb' L' d m' V hV (HSL.out.to (by decide) hF (cB.keeps HW0.out hF) (fun _ _ e=>e.to hF (cB.keeps HW0.out hF))) h1 h2 (fun x hx=>by show d+((0:Nat):Int)≤_;omega) hl (hid (fun x hxm U tb2 L2 m2 hU cs hcs hl2 h3 h4=>by obtain rfl:=hcs;rw[show max m2 (d+((0:Nat):Int))=m2 by omega];exact rA x (hm2 x hxm) g tb2 L2 d m2 U hU hl2 h0 h3 h4)))
 have hD0:=kH cols
 generalize aY (cols.map fun _=>0)=D at HL hD0
 generalize aS (aK [44]) (cols.map iN)=T at HL hL ⊢
 clear h hbW hcW hx hm2 hb
 go_enter Tryz.func99,Tryz.ntmps99
 have HX0:Hid (Calls Tryz.prog 98 #[.pointer (some ⟨g,0,none⟩),.slice (some ⟨W.heap.size,0,none⟩) 2 2] (W.alloc (.cells #[.string ⟨#[67,82,69,65,84,69]⟩,.string ⟨#[84,65,66,76,69]⟩] 9)) fun e w'=>e = .returned (.tuple #[])∧Wrote g tb W w' (L++au [[67,82,69,65,84,69],[84,65,66,76,69]]) d (m)):=hid (aG g tb _ d _ [[67,82,69,65,84,69],[84,65,66,76,69]] W HW0.out (by simp) (by decide) (by simp[au]<;>omega))
 go_wp2_with fail
 refine HX0.out.mono ?_
 rintro e w1 ⟨rfl,tw1,hw,ht,hf⟩
 have HW1:=hid hw
 obtain⟨ht2,hf2⟩:=aF HT0.out HF0.out ht hf
 have HT1:=hid ht2
 have HF1:=hid hf2
 have HBX1:=hid (HBX0.out.on ht hf)
 have kk1:=ay HBX1.out.at'
 clear hw ht hf ht2 hf2 HX0 kk0
 have HX1:=hid (bX g tw1 (L++au [[67,82,69,65,84,69],[84,65,66,76,69]]) d (m) w1.drew (HW1.out.below (Below.refl _ w1).drew) tn (by simp[au]<;>omega))
 have HS0:Hid (w1.drew.cell? ⟨w.heap.size,1,none⟩=some (.string (aj tn))):=hid ((ay (HBX1.out.below (Below.refl _ w1).drew).at').2.1)
 go_wp2_with fail
 go_region_held3 (fun w'=>w'.cell? ⟨w.heap.size,1,none⟩=some (.string (aj tn))) (first | exact HS0.out | exact HS1.out)
  (first
   | (
    go_at_call 100;refine HX1.out.mono ?_
    rintro e w2 ⟨rfl,tw2,hw,ht,hf⟩
    have HW2:=hid hw
    obtain⟨ht2,hf2⟩:=bM HT1.out HF1.out ht hf
    have HT2:=hid ht2
    have HF2:=hid hf2
    have HBX2:=hid ((HBX1.out.below (Below.refl _ w1).drew).on ht hf)
    have kk2:=ay HBX2.out.at'
    clear hw ht hf ht2 hf2 HX1 kk1
    have HS1:=hid (kk2.2.1))
   | fail)
 clear HS0 HS1
 have HX2:Hid (Calls Tryz.prog 98 #[.pointer (some ⟨g,0,none⟩),.slice (some ⟨w2.heap.size,0,none⟩) 1 1] (w2.alloc (.cells #[.string ⟨#[40]⟩] 9)) fun e w'=>e = .returned (.tuple #[])∧Wrote g tw2 w2 w' (L++au [[67,82,69,65,84,69],[84,65,66,76,69]]++[aW tn]++au [[40]]) d (m)):=hid (aG g tw2 _ d _ [[40]] w2 HW2.out (by simp) (by decide) (by simp[au]<;>omega))
 go_wp2_with fail
 refine HX2.out.mono ?_
 rintro e w3 ⟨rfl,tw3,hw,ht,hf⟩
 have HW3:=hid hw
 obtain⟨ht2,hf2⟩:=aF HT2.out HF2.out ht hf
 have HT3:=hid ht2
 have HF3:=hid hf2
 have HBX3:=hid (HBX2.out.on ht hf)
 have kk3:=ay HBX3.out.at'
 clear hw ht hf ht2 hf2 HX2 kk2
 have HX3:=hid (HL.out w3 tw3 (L++au [[67,82,69,65,84,69],[84,65,66,76,69]]++[aW tn]++au [[40]]) (m) HW3.out HF3.out HT3.out (by simp[au]<;>omega) (by omega) (by omega))
 go_wp2_with fail
 refine HX3.out.mono ?_
 rintro e w4 ⟨rfl,tw4,hw,ht,hf⟩
 have HW4:=hid hw
 obtain⟨ht2,hf2⟩:=aF HT3.out HF3.out ht hf
 have HT4:=hid ht2
 have HF4:=hid hf2
 have HBX4:=hid (HBX3.out.on ht hf)
 have kk4:=ay HBX4.out.at'
 clear hw ht hf ht2 hf2 HX3 kk3
 have HX4:Hid (Calls Tryz.prog 98 #[.pointer (some ⟨g,0,none⟩),.slice (some ⟨w4.heap.size,0,none⟩) 4 4] (w4.alloc (.cells #[.string ⟨#[44]⟩,.string ⟨#[80,82,73,77,65,82,89]⟩,.string ⟨#[75,69,89]⟩,.string ⟨#[40]⟩] 9)) fun e w'=>e = .returned (.tuple #[])∧Wrote g tw4 w4 w' (L++au [[67,82,69,65,84,69],[84,65,66,76,69]]++[aW tn]++au [[40]]++T++au [[44],[80,82,73,77,65,82,89],[75,69,89],[40]]) d (max (m) (d+((D:Nat):Int)))):=hid (aG g tw4 _ d _ [[44],[80,82,73,77,65,82,89],[75,69,89],[40]] w4 HW4.out (by simp) (by decide) (by simp[au]<;>omega))
 go_wp2_with fail
 refine HX4.out.mono ?_
 rintro e w5 ⟨rfl,tw5,hw,ht,hf⟩
 have HW5:=hid hw
 obtain⟨ht2,hf2⟩:=aF HT4.out HF4.out ht hf
 have HT5:=hid ht2
 have HF5:=hid hf2
 have HBX5:=hid (HBX4.out.on ht hf)
 have kk5:=ay HBX5.out.at'
 clear hw ht hf ht2 hf2 HX4 kk4
 have HX5:=hid (bX g tw5 (L++au [[67,82,69,65,84,69],[84,65,66,76,69]]++[aW tn]++au [[40]]++T++au [[44],[80,82,73,77,65,82,89],[75,69,89],[40]]) d (max (m) (d+((D:Nat):Int))) w5.drew (HW5.out.below (Below.refl _ w5).drew) prim (by simp[au]<;>omega))
 have HS0:Hid (w5.drew.cell? ⟨w.heap.size,3,none⟩=some (.string (aj prim))):=hid ((ay (HBX5.out.below (Below.refl _ w5).drew).at').2.2.2.1)
 go_wp2_with fail
 go_region_held3 (fun w'=>w'.cell? ⟨w.heap.size,3,none⟩=some (.string (aj prim))) (first | exact HS0.out | exact HS1.out)
  (first
   | (
    go_at_call 100;refine HX5.out.mono ?_
    rintro e w6 ⟨rfl,tw6,hw,ht,hf⟩
    have HW6:=hid hw
    obtain⟨ht2,hf2⟩:=bM HT5.out HF5.out ht hf
    have HT6:=hid ht2
    have HF6:=hid hf2
    have HBX6:=hid ((HBX5.out.below (Below.refl _ w5).drew).on ht hf)
    have kk6:=ay HBX6.out.at'
    clear hw ht hf ht2 hf2 HX5 kk5
    have HS1:=hid (kk6.2.2.2.1))
   | fail)
 clear HS0 HS1
 have HX6:Hid (Calls Tryz.prog 98 #[.pointer (some ⟨g,0,none⟩),.slice (some ⟨w6.heap.size,0,none⟩) 2 2] (w6.alloc (.cells #[.string ⟨#[41]⟩,.string ⟨#[41]⟩] 9)) fun e w'=>e = .returned (.tuple #[])∧Wrote g tw6 w6 w' (L++au [[67,82,69,65,84,69],[84,65,66,76,69]]++[aW tn]++au [[40]]++T++au [[44],[80,82,73,77,65,82,89],[75,69,89],[40]]++[aW prim]++au [[41],[41]]) d (max (m) (d+((D:Nat):Int)))):=hid (aG g tw6 _ d _ [[41],[41]] w6 HW6.out (by simp) (by decide) (by simp[au]<;>omega))
 go_wp2_with fail
 refine HX6.out.mono ?_
 rintro e w7 ⟨rfl,tw7,hw,ht,hf⟩
 have HW7:=hid hw
 obtain⟨ht2,hf2⟩:=aF HT6.out HF6.out ht hf
 have HT7:=hid ht2
 have HF7:=hid hf2
 have HBX7:=hid (HBX6.out.on ht hf)
 have kk7:=ay HBX7.out.at'
 clear hw ht hf ht2 hf2 HX6 kk6
 have HQ:Hid (Wrote g tb w w7 (L++(au [[67,82,69,65,84,69],[84,65,66,76,69]]++aW tn::aK [40]::(T++(au [[44],[80,82,73,77,65,82,89],[75,69,89],[40]]++aW prim::au [[41],[41]])))) d (m)):=hid (by
  have h9:Wrote g tb W w7 (L++au [[67,82,69,65,84,69],[84,65,66,76,69]]++[aW tn]++au [[40]]++T++au [[44],[80,82,73,77,65,82,89],[75,69,89],[40]]++[aW prim]++au [[41],[41]]) d (max (m) (d+((D:Nat):Int))):=⟨tw7,HW7.out,HT7.out,HF7.out⟩
  have h8:=Wrote.new HB.out h9
  rw[show max (m) (d+((D:Nat):Int))=m by omega] at h8
  rw[show L++au [[67,82,69,65,84,69],[84,65,66,76,69]]++[aW tn]++au [[40]]++T++au [[44],[80,82,73,77,65,82,89],[75,69,89],[40]]++[aW prim]++au [[41],[41]]=L++(au [[67,82,69,65,84,69],[84,65,66,76,69]]++aW tn::aK [40]::(T++(au [[44],[80,82,73,77,65,82,89],[75,69,89],[40]]++aW prim::au [[41],[41]]))) by simp[au]] at h8
  exact h8)
 go_wp2
 exact bodyPost_end (v:=.tuple #[]) (by simp[results,Tryz.results99,go_sem]) rfl ⟨rfl,HQ.out⟩
theorem AU (items:List It) (on wh gr od:List Ex) (hb:bf items 1 8 sw=true) (HOr : ∀x∈on,aJ x=true) (HWr : ∀x∈wh,aJ x=true) (HGr : ∀x∈gr,aJ x=true) (HDr : ∀x∈od,aJ x=true) (tn prim jn:List UInt8) (desc:Bool) (lim:Int) (a1 a2 a3 a4 a5 a6 a7 a8:Option Addr) (n1 n2 n3 n4 n5 n6 n7 n8 c1 c2 c3 c4 c5 c6 c7 c8:Nat) (g:Nat) (tb:Option Nat) (L:List Tk) (d m:Int) (w:World) (h:bJ w g tb L d m)
  (hx:aQ 2 qo (fun b=>b<g) w items (.slice a4 n4 c4)) (hx5:bF (fun b=>b<g) w on (.slice a5 n5 c5)) (hx6:bF (fun b=>b<g) w wh (.slice a6 n6 c6)) (hx7:bF (fun b=>b<g) w gr (.slice a7 n7 c7)) (hx8:bF (fun b=>b<g) w od (.slice a8 n8 c8))
  (hL:L.length+(aK [83,69,76,69,67,84]::(aS (aK [44]) (items.map xG)++aK [70,82,79,77]::aW tn::((if jn=[] then [] else [aK [74,79,73,78],aW jn])++(bH on [[79,78]]++(bH wh [[87,72,69,82,69]]++(bH gr [[71,82,79,85,80],[66,89]]++(bH od [[79,82,68,69,82],[66,89]]++((if desc=true then [aK [68,69,83,67]] else [])++(if lim = -1 then [] else [aK [76,73,77,73,84],mV lim]))))))))).length≤1000000000) (h0:0≤d) (hdm:d≤m) (hm:m≤1000000000)
  (hd:d+(aY (items.map z8):Nat)≤1000000000) (hd5:d+(bY on:Nat)≤1000000000) (hd6:d+(bY wh:Nat)≤1000000000) (hd7:d+(bY gr:Nat)≤1000000000) (hd8:d+(bY od:Nat)≤1000000000) :
  Calls Tryz.prog 106 #[.pointer (some ⟨g,0,none⟩),.agg #[.int .i64 6,.string (aj tn),.slice a1 n1 c1,.string (aj prim),.slice a2 n2 c2,.slice a3 n3 c3,.slice a4 n4 c4,.string (aj jn),.slice a5 n5 c5,.slice a6 n6 c6,.slice a7 n7 c7,.slice a8 n8 c8,.bool desc,.int .i64 lim]] w fun e w'=>e = .returned (.tuple #[])∧Wrote g tb w w' (L++(aK [83,69,76,69,67,84]::(aS (aK [44]) (items.map xG)++aK [70,82,79,77]::aW tn::((if jn=[] then [] else [aK [74,79,73,78],aW jn])++(bH on [[79,78]]++(bH wh [[87,72,69,82,69]]++(bH gr [[71,82,79,85,80],[66,89]]++(bH od [[79,82,68,69,82],[66,89]]++((if desc=true then [aK [68,69,83,67]] else [])++(if lim = -1 then [] else [aK [76,73,77,73,84],mV lim])))))))))) d (max m (d+((max (aY (items.map z8)) (max (bY on) (max (bY wh) (max (bY gr) (bY od)))):Nat):Int))):=by
 have hm2:=aU hb
 obtain⟨W,hW,hbW,hzW,hcW⟩:=aL w (.cells #[.int .i64 6,.string (aj tn),.slice a1 n1 c1,.string (aj prim),.slice a2 n2 c2,.slice a3 n3 c3,.slice a4 n4 c4,.string (aj jn),.slice a5 n5 c5,.slice a6 n6 c6,.slice a7 n7 c7,.slice a8 n8 c8,.bool desc,.int .i64 lim] 29)
 have kk0:=ay hcW
 have HB:=hid hbW
 have HW0:=hid (h.below hbW)
 have HBX0:=hid (dn.mk' h hcW (Nat.le_refl _))
 have HT0:Hid (∀k,tb=some k→tb=some k∨W.heap.size≤k):=hid (fun k hk=>.inl hk)
 have HF0:Hid (cB g tb W W):=hid (aA.refl _ _)
 have HSL:=hid (hx.to (by decide) (R:=fun _=>False) (T:=fun b=>b<g) (aA.aC hbW) (fun b hb _=>⟨id,hb⟩) (fun _ _ e=>e.to (R:=fun _=>False) (T:=fun b=>b<g) (aA.aC hbW) (fun b hb _=>⟨id,hb⟩)))
 have HA5:=hid (hx5.new hbW)
 have HA6:=hid (hx6.new hbW)
 have HA7:=hid (hx7.new hbW)
 have HA8:=hid (hx8.new hbW)
 have HL:Hid (∀(V:World) (tb':Option Nat) (L':List Tk) (m':Int),bJ V g tb' L' d m'→cB g tb W V→(∀k,tb'=some k→tb=some k∨W.heap.size≤k)→L'.length+(aS (aK [44]) (items.map xG)).length≤1000000000→d≤m'→m'≤1000000000→Calls Tryz.prog 148 #[.pointer (some ⟨g,0,none⟩),.string ⟨#[44]⟩,.slice a4 n4 c4,.func (.func 149) #[.pointer (some ⟨g,0,none⟩)] #[]] V fun e w'=>e = .returned (.tuple #[])∧Wrote g tb' V w' (L'++aS (aK [44]) (items.map xG)) d (max m' (d+((aY (items.map z8):Nat):Int)))):=hid (fun V tb' L' m' hV hF hT hl h1 h2=>DT 149 (enters_of Tryz.func149 (by kernel_rfl) rfl) xG (z8) [44] (by decide) items _ g tb' L' d m' V hV (HSL.out.to (by decide) hF (cB.keeps HW0.out hF) (fun _ _ e=>e.to hF (cB.keeps HW0.out hF))) h1 h2 (fun x hx=>by have:=eD z8 items x hx;omega) hl (hid (fun x hxm U tb2 L2 m2 hU cs hcs hl2 h3 h4=>by exact Gw x (hm2 x hxm) cs g tb2 L2 d m2 U hU hcs hl2 h0 h3 h4 (by have:=eD z8 items x hxm;omega))))
 have HO:Hid (∀(V:World) (tb':Option Nat) (L':List Tk) (m':Int),bJ V g tb' L' d m'→cB g tb W V→(∀k,tb'=some k→tb=some k∨W.heap.size≤k)→L'.length+(bH on [[79,78]]).length≤1000000000→d≤m'→m'≤1000000000→Calls Tryz.prog 105 #[.pointer (some ⟨g,0,none⟩),.slice a5 n5 c5,.slice (some ⟨V.heap.size,0,none⟩) 1 1] (V.alloc (.cells #[.string ⟨#[79,78]⟩] 9)) fun e w'=>e = .returned (.tuple #[])∧Wrote g tb' V w' (L'++bH on [[79,78]]) d (max m' (d+((bY on:Nat):Int)))):=hid (fun V tb' L' m' hV hF hT hl h1 h2=>jf on [[79,78]] (by decide) (by decide) _ g tb' L' d m' V hV (HA5.out.qV HW0.out hF) HOr h0 h1 h2 (fun x hx=>by have:=eD fJ on x hx;have:fJ x≤bY on:=this;omega) hl)
 have HW:Hid (∀(V:World) (tb':Option Nat) (L':List Tk) (m':Int),bJ V g tb' L' d m'→cB g tb W V→(∀k,tb'=some k→tb=some k∨W.heap.size≤k)→L'.length+(bH wh [[87,72,69,82,69]]).length≤1000000000→d≤m'→m'≤1000000000→Calls Tryz.prog 105 #[.pointer (some ⟨g,0,none⟩),.slice a6 n6 c6,.slice (some ⟨V.heap.size,0,none⟩) 1 1] (V.alloc (.cells #[.string ⟨#[87,72,69,82,69]⟩] 9)) fun e w'=>e = .returned (.tuple #[])∧Wrote g tb' V w' (L'++bH wh [[87,72,69,82,69]]) d (max m' (d+((bY wh:Nat):Int)))):=hid (fun V tb' L' m' hV hF hT hl h1 h2=>jf wh [[87,72,69,82,69]] (by decide) (by decide) _ g tb' L' d m' V hV (HA6.out.qV HW0.out hF) HWr h0 h1 h2 (fun x hx=>by have:=eD fJ wh x hx;have:fJ x≤bY wh:=this;omega) hl)
 have HG:Hid (∀(V:World) (tb':Option Nat) (L':List Tk) (m':Int),bJ V g tb' L' d m'→cB g tb W V→(∀k,tb'=some k→tb=some k∨W.heap.size≤k)→L'.length+(bH gr [[71,82,79,85,80],[66,89]]).length≤1000000000→d≤m'→m'≤1000000000→Calls Tryz.prog 105 #[.pointer (some ⟨g,0,none⟩),.slice a7 n7 c7,.slice (some ⟨V.heap.size,0,none⟩) 2 2] (V.alloc (.cells #[.string ⟨#[71,82,79,85,80]⟩,.string ⟨#[66,89]⟩] 9)) fun e w'=>e = .returned (.tuple #[])∧Wrote g tb' V w' (L'++bH gr [[71,82,79,85,80],[66,89]]) d (max m' (d+((bY gr:Nat):Int)))):=hid (fun V tb' L' m' hV hF hT hl h1 h2=>jf gr [[71,82,79,85,80],[66,89]] (by decide) (by decide) _ g tb' L' d m' V hV (HA7.out.qV HW0.out hF) HGr h0 h1 h2 (fun x hx=>by have:=eD fJ gr x hx;have:fJ x≤bY gr:=this;omega) hl)
 have HD:Hid (∀(V:World) (tb':Option Nat) (L':List Tk) (m':Int),bJ V g tb' L' d m'→cB g tb W V→(∀k,tb'=some k→tb=some k∨W.heap.size≤k)→L'.length+(bH od [[79,82,68,69,82],[66,89]]).length≤1000000000→d≤m'→m'≤1000000000→Calls Tryz.prog 105 #[.pointer (some ⟨g,0,none⟩),.slice a8 n8 c8,.slice (some ⟨V.heap.size,0,none⟩) 2 2] (V.alloc (.cells #[.string ⟨#[79,82,68,69,82]⟩,.string ⟨#[66,89]⟩] 9)) fun e w'=>e = .returned (.tuple #[])∧Wrote g tb' V w' (L'++bH od [[79,82,68,69,82],[66,89]]) d (max m' (d+((bY od:Nat):Int)))):=hid (fun V tb' L' m' hV hF hT hl h1 h2=>jf od [[79,82,68,69,82],[66,89]] (by decide) (by decide) _ g tb' L' d m' V hV (HA8.out.qV HW0.out hF) HDr h0 h1 h2 (fun x hx=>by have:=eD fJ od x hx;have:fJ x≤bY od:=this;omega) hl)
 clear hx hx5 hx6 hx7 hx8 hm2 hb HOr HWr HGr HDr HSL HA5 HA6 HA7 HA8 h hbW hcW
 generalize aY (items.map z8)=DL at HL hd ⊢
 generalize aS (aK [44]) (items.map xG)=TL at HL hL ⊢
 generalize bY on=DO at HO hd5 ⊢
 generalize bH on [[79,78]]=TO at HO hL ⊢
 generalize bY wh=DW at HW hd6 ⊢
 generalize bH wh [[87,72,69,82,69]]=TW at HW hL ⊢
 generalize bY gr=DG at HG hd7 ⊢
 generalize bH gr [[71,82,79,85,80],[66,89]]=TG at HG hL ⊢
 generalize bY od=DD at HD hd8 ⊢
 generalize bH od [[79,82,68,69,82],[66,89]]=TD at HD hL ⊢
 have hje:=dF jn
 by_cases hj:jn=[]
 ·rw[if_pos hj] at hL ⊢
  rw[decide_eq_true hj] at hje
  clear hj
  cases desc with
  |
   false =>
   rw[if_neg Bool.false_ne_true] at hL ⊢
   by_cases hl:lim = -1
   ·rw[if_pos hl] at hL ⊢
    simp only[List.length_append,List.length_cons,List.length_nil] at hL
    have hlb:(lim != -1)=false:=by rw[hl];rfl
    clear hl
    go_enter Tryz.func106,Tryz.ntmps106
    have HX0:Hid (Calls Tryz.prog 98 #[.pointer (some ⟨g,0,none⟩),.slice (some ⟨W.heap.size,0,none⟩) 1 1] (W.alloc (.cells #[.string ⟨#[83,69,76,69,67,84]⟩] 9)) fun e w'=>e = .returned (.tuple #[])∧Wrote g tb W w' (L++au [[83,69,76,69,67,84]]) d (m)):=hid (aG g tb _ d _ [[83,69,76,69,67,84]] W HW0.out (by simp) (by decide) (by simp[au]<;>omega))
    go_wp2_with fail
    refine HX0.out.mono ?_
    rintro e w1 ⟨rfl,tw1,hw,ht,hf⟩
    have HW1:=hid hw
    obtain⟨ht2,hf2⟩:=aF HT0.out HF0.out ht hf
    have HT1:=hid ht2
    have HF1:=hid hf2
    have HBX1:=hid (HBX0.out.on ht hf)
    have kk1:=ay HBX1.out.at'
    clear hw ht hf ht2 hf2 HX0 kk0
    have HX1:=hid (HL.out w1 tw1 (L++au [[83,69,76,69,67,84]]) (m) HW1.out HF1.out HT1.out (by simp[au]<;>omega) (by omega) (by omega))
    go_wp2_with fail
    refine HX1.out.mono ?_
    rintro e w2 ⟨rfl,tw2,hw,ht,hf⟩
    have HW2:=hid hw
    obtain⟨ht2,hf2⟩:=aF HT1.out HF1.out ht hf
    have HT2:=hid ht2
    have HF2:=hid hf2
    have HBX2:=hid (HBX1.out.on ht hf)
    have kk2:=ay HBX2.out.at'
    clear hw ht hf ht2 hf2 HX1 kk1
    have HX2:Hid (Calls Tryz.prog 98 #[.pointer (some ⟨g,0,none⟩),.slice (some ⟨w2.heap.size,0,none⟩) 1 1] (w2.alloc (.cells #[.string ⟨#[70,82,79,77]⟩] 9)) fun e w'=>e = .returned (.tuple #[])∧Wrote g tw2 w2 w' (L++au [[83,69,76,69,67,84]]++TL++au [[70,82,79,77]]) d (max (m) (d+((DL:Nat):Int)))):=hid (aG g tw2 _ d _ [[70,82,79,77]] w2 HW2.out (by simp) (by decide) (by simp[au]<;>omega))
    go_wp2_with fail
    refine HX2.out.mono ?_
    rintro e w3 ⟨rfl,tw3,hw,ht,hf⟩
    have HW3:=hid hw
    obtain⟨ht2,hf2⟩:=aF HT2.out HF2.out ht hf
    have HT3:=hid ht2
    have HF3:=hid hf2
    have HBX3:=hid (HBX2.out.on ht hf)
    have kk3:=ay HBX3.out.at'
    clear hw ht hf ht2 hf2 HX2 kk2
    have HX3:=hid (bX g tw3 (L++au [[83,69,76,69,67,84]]++TL++au [[70,82,79,77]]) d (max (m) (d+((DL:Nat):Int))) w3.drew (HW3.out.below (Below.refl _ w3).drew) tn (by simp[au]<;>omega))
    have HS0:Hid (w3.drew.cell? ⟨w.heap.size,1,none⟩=some (.string (aj tn))):=hid ((ay (HBX3.out.below (Below.refl _ w3).drew).at').2.1)
    go_wp2_with fail
    go_region_held3 (fun w'=>w'.cell? ⟨w.heap.size,1,none⟩=some (.string (aj tn))) (first | exact HS0.out | exact HS1.out)
     (first
      | (
       go_at_call 100;refine HX3.out.mono ?_
       rintro e w4 ⟨rfl,tw4,hw,ht,hf⟩
       have HW4:=hid hw
       obtain⟨ht2,hf2⟩:=bM HT3.out HF3.out ht hf
       have HT4:=hid ht2
       have HF4:=hid hf2
       have HBX4:=hid ((HBX3.out.below (Below.refl _ w3).drew).on ht hf)
       have kk4:=ay HBX4.out.at'
       clear hw ht hf ht2 hf2 HX3 kk3
       have HS1:=hid (kk4.2.1))
      | fail)
    clear HS0 HS1
    have HX4:=hid (HO.out w4 tw4 (L++au [[83,69,76,69,67,84]]++TL++au [[70,82,79,77]]++[aW tn]) (max (m) (d+((DL:Nat):Int))) HW4.out HF4.out HT4.out (by simp[au]<;>omega) (by omega) (by omega))
    go_wp2_with fail
    refine HX4.out.mono ?_
    rintro e w5 ⟨rfl,tw5,hw,ht,hf⟩
    have HW5:=hid hw
    obtain⟨ht2,hf2⟩:=aF HT4.out HF4.out ht hf
    have HT5:=hid ht2
    have HF5:=hid hf2
    have HBX5:=hid (HBX4.out.on ht hf)
    have kk5:=ay HBX5.out.at'
    clear hw ht hf ht2 hf2 HX4 kk4
    have HX5:=hid (HW.out w5 tw5 (L++au [[83,69,76,69,67,84]]++TL++au [[70,82,79,77]]++[aW tn]++TO) (max (max (m) (d+((DL:Nat):Int))) (d+((DO:Nat):Int))) HW5.out HF5.out HT5.out (by simp[au]<;>omega) (by omega) (by omega))
    go_wp2_with fail
    refine HX5.out.mono ?_
    rintro e w6 ⟨rfl,tw6,hw,ht,hf⟩
    have HW6:=hid hw
    obtain⟨ht2,hf2⟩:=aF HT5.out HF5.out ht hf
    have HT6:=hid ht2
    have HF6:=hid hf2
    have HBX6:=hid (HBX5.out.on ht hf)
    have kk6:=ay HBX6.out.at'
    clear hw ht hf ht2 hf2 HX5 kk5
    have HX6:=hid (HG.out w6 tw6 (L++au [[83,69,76,69,67,84]]++TL++au [[70,82,79,77]]++[aW tn]++TO++TW) (max (max (max (m) (d+((DL:Nat):Int))) (d+((DO:Nat):Int))) (d+((DW:Nat):Int))) HW6.out HF6.out HT6.out (by simp[au]<;>omega) (by omega) (by omega))
    go_wp2_with fail
    refine HX6.out.mono ?_
    rintro e w7 ⟨rfl,tw7,hw,ht,hf⟩
    have HW7:=hid hw
    obtain⟨ht2,hf2⟩:=aF HT6.out HF6.out ht hf
    have HT7:=hid ht2
    have HF7:=hid hf2
    have HBX7:=hid (HBX6.out.on ht hf)
    have kk7:=ay HBX7.out.at'
    clear hw ht hf ht2 hf2 HX6 kk6
    have HX7:=hid (HD.out w7 tw7 (L++au [[83,69,76,69,67,84]]++TL++au [[70,82,79,77]]++[aW tn]++TO++TW++TG) (max (max (max (max (m) (d+((DL:Nat):Int))) (d+((DO:Nat):Int))) (d+((DW:Nat):Int))) (d+((DG:Nat):Int))) HW7.out HF7.out HT7.out (by simp[au]<;>omega) (by omega) (by omega))
    go_wp2_with fail
    refine HX7.out.mono ?_
    rintro e w8 ⟨rfl,tw8,hw,ht,hf⟩
    have HW8:=hid hw
    obtain⟨ht2,hf2⟩:=aF HT7.out HF7.out ht hf
    have HT8:=hid ht2
    have HF8:=hid hf2
    have HBX8:=hid (HBX7.out.on ht hf)
    have kk8:=ay HBX8.out.at'
    clear hw ht hf ht2 hf2 HX7 kk7
    have HQ:Hid (Wrote g tb w w8 (L++(aK [83,69,76,69,67,84]::(TL++aK [70,82,79,77]::aW tn::([]++(TO++(TW++(TG++(TD++([]++[]))))))))) d (max m (d+((max DL (max DO (max DW (max DG DD))):Nat):Int)))):=hid (by
     have h9:Wrote g tb W w8 (L++au [[83,69,76,69,67,84]]++TL++au [[70,82,79,77]]++[aW tn]++TO++TW++TG++TD) d (max (max (max (max (max (m) (d+((DL:Nat):Int))) (d+((DO:Nat):Int))) (d+((DW:Nat):Int))) (d+((DG:Nat):Int))) (d+((DD:Nat):Int))):=⟨tw8,HW8.out,HT8.out,HF8.out⟩
     have h8:=Wrote.new HB.out h9
     rw[show max (max (max (max (max (m) (d+((DL:Nat):Int))) (d+((DO:Nat):Int))) (d+((DW:Nat):Int))) (d+((DG:Nat):Int))) (d+((DD:Nat):Int))=max m (d+((max DL (max DO (max DW (max DG DD))):Nat):Int)) by omega] at h8
     rw[show L++au [[83,69,76,69,67,84]]++TL++au [[70,82,79,77]]++[aW tn]++TO++TW++TG++TD=L++(aK [83,69,76,69,67,84]::(TL++aK [70,82,79,77]::aW tn::([]++(TO++(TW++(TG++(TD++([]++[])))))))) by simp[au]] at h8
     exact h8)
    go_wp2
    exact bodyPost_end (v:=.tuple #[]) (by simp[results,Tryz.results106,go_sem]) rfl ⟨rfl,HQ.out⟩
   ·rw[if_neg hl] at hL ⊢
    simp only[List.length_append,List.length_cons,List.length_nil] at hL
    have hlb:(lim != -1)=true:=by rw[bne_iff_ne];exact hl
    clear hl
    go_enter Tryz.func106,Tryz.ntmps106
    have HX0:Hid (Calls Tryz.prog 98 #[.pointer (some ⟨g,0,none⟩),.slice (some ⟨W.heap.size,0,none⟩) 1 1] (W.alloc (.cells #[.string ⟨#[83,69,76,69,67,84]⟩] 9)) fun e w'=>e = .returned (.tuple #[])∧Wrote g tb W w' (L++au [[83,69,76,69,67,84]]) d (m)):=hid (aG g tb _ d _ [[83,69,76,69,67,84]] W HW0.out (by simp) (by decide) (by simp[au]<;>omega))
    go_wp2_with fail
    refine HX0.out.mono ?_
    rintro e w1 ⟨rfl,tw1,hw,ht,hf⟩
    have HW1:=hid hw
    obtain⟨ht2,hf2⟩:=aF HT0.out HF0.out ht hf
    have HT1:=hid ht2
    have HF1:=hid hf2
    have HBX1:=hid (HBX0.out.on ht hf)
    have kk1:=ay HBX1.out.at'
    clear hw ht hf ht2 hf2 HX0 kk0
    have HX1:=hid (HL.out w1 tw1 (L++au [[83,69,76,69,67,84]]) (m) HW1.out HF1.out HT1.out (by simp[au]<;>omega) (by omega) (by omega))
    go_wp2_with fail
    refine HX1.out.mono ?_
    rintro e w2 ⟨rfl,tw2,hw,ht,hf⟩
    have HW2:=hid hw
    obtain⟨ht2,hf2⟩:=aF HT1.out HF1.out ht hf
    have HT2:=hid ht2
    have HF2:=hid hf2
    have HBX2:=hid (HBX1.out.on ht hf)
    have kk2:=ay HBX2.out.at'
    clear hw ht hf ht2 hf2 HX1 kk1
    have HX2:Hid (Calls Tryz.prog 98 #[.pointer (some ⟨g,0,none⟩),.slice (some ⟨w2.heap.size,0,none⟩) 1 1] (w2.alloc (.cells #[.string ⟨#[70,82,79,77]⟩] 9)) fun e w'=>e = .returned (.tuple #[])∧Wrote g tw2 w2 w' (L++au [[83,69,76,69,67,84]]++TL++au [[70,82,79,77]]) d (max (m) (d+((DL:Nat):Int)))):=hid (aG g tw2 _ d _ [[70,82,79,77]] w2 HW2.out (by simp) (by decide) (by simp[au]<;>omega))
    go_wp2_with fail
    refine HX2.out.mono ?_
    rintro e w3 ⟨rfl,tw3,hw,ht,hf⟩
    have HW3:=hid hw
    obtain⟨ht2,hf2⟩:=aF HT2.out HF2.out ht hf
    have HT3:=hid ht2
    have HF3:=hid hf2
    have HBX3:=hid (HBX2.out.on ht hf)
    have kk3:=ay HBX3.out.at'
    clear hw ht hf ht2 hf2 HX2 kk2
    have HX3:=hid (bX g tw3 (L++au [[83,69,76,69,67,84]]++TL++au [[70,82,79,77]]) d (max (m) (d+((DL:Nat):Int))) w3.drew (HW3.out.below (Below.refl _ w3).drew) tn (by simp[au]<;>omega))
    have HS0:Hid (w3.drew.cell? ⟨w.heap.size,1,none⟩=some (.string (aj tn))):=hid ((ay (HBX3.out.below (Below.refl _ w3).drew).at').2.1)
    go_wp2_with fail
    go_region_held3 (fun w'=>w'.cell? ⟨w.heap.size,1,none⟩=some (.string (aj tn))) (first | exact HS0.out | exact HS1.out)
     (first
      | (
       go_at_call 100;refine HX3.out.mono ?_
       rintro e w4 ⟨rfl,tw4,hw,ht,hf⟩
       have HW4:=hid hw
       obtain⟨ht2,hf2⟩:=bM HT3.out HF3.out ht hf
       have HT4:=hid ht2
       have HF4:=hid hf2
       have HBX4:=hid ((HBX3.out.below (Below.refl _ w3).drew).on ht hf)
       have kk4:=ay HBX4.out.at'
       clear hw ht hf ht2 hf2 HX3 kk3
       have HS1:=hid (kk4.2.1))
      | fail)
    clear HS0 HS1
    have HX4:=hid (HO.out w4 tw4 (L++au [[83,69,76,69,67,84]]++TL++au [[70,82,79,77]]++[aW tn]) (max (m) (d+((DL:Nat):Int))) HW4.out HF4.out HT4.out (by simp[au]<;>omega) (by omega) (by omega))
    go_wp2_with fail
    refine HX4.out.mono ?_
    rintro e w5 ⟨rfl,tw5,hw,ht,hf⟩
    have HW5:=hid hw
    obtain⟨ht2,hf2⟩:=aF HT4.out HF4.out ht hf
    have HT5:=hid ht2
    have HF5:=hid hf2
    have HBX5:=hid (HBX4.out.on ht hf)
    have kk5:=ay HBX5.out.at'
    clear hw ht hf ht2 hf2 HX4 kk4
    have HX5:=hid (HW.out w5 tw5 (L++au [[83,69,76,69,67,84]]++TL++au [[70,82,79,77]]++[aW tn]++TO) (max (max (m) (d+((DL:Nat):Int))) (d+((DO:Nat):Int))) HW5.out HF5.out HT5.out (by simp[au]<;>omega) (by omega) (by omega))
    go_wp2_with fail
    refine HX5.out.mono ?_
    rintro e w6 ⟨rfl,tw6,hw,ht,hf⟩
    have HW6:=hid hw
    obtain⟨ht2,hf2⟩:=aF HT5.out HF5.out ht hf
    have HT6:=hid ht2
    have HF6:=hid hf2
    have HBX6:=hid (HBX5.out.on ht hf)
    have kk6:=ay HBX6.out.at'
    clear hw ht hf ht2 hf2 HX5 kk5
    have HX6:=hid (HG.out w6 tw6 (L++au [[83,69,76,69,67,84]]++TL++au [[70,82,79,77]]++[aW tn]++TO++TW) (max (max (max (m) (d+((DL:Nat):Int))) (d+((DO:Nat):Int))) (d+((DW:Nat):Int))) HW6.out HF6.out HT6.out (by simp[au]<;>omega) (by omega) (by omega))
    go_wp2_with fail
    refine HX6.out.mono ?_
    rintro e w7 ⟨rfl,tw7,hw,ht,hf⟩
    have HW7:=hid hw
    obtain⟨ht2,hf2⟩:=aF HT6.out HF6.out ht hf
    have HT7:=hid ht2
    have HF7:=hid hf2
    have HBX7:=hid (HBX6.out.on ht hf)
    have kk7:=ay HBX7.out.at'
    clear hw ht hf ht2 hf2 HX6 kk6
    have HX7:=hid (HD.out w7 tw7 (L++au [[83,69,76,69,67,84]]++TL++au [[70,82,79,77]]++[aW tn]++TO++TW++TG) (max (max (max (max (m) (d+((DL:Nat):Int))) (d+((DO:Nat):Int))) (d+((DW:Nat):Int))) (d+((DG:Nat):Int))) HW7.out HF7.out HT7.out (by simp[au]<;>omega) (by omega) (by omega))
    go_wp2_with fail
    refine HX7.out.mono ?_
    rintro e w8 ⟨rfl,tw8,hw,ht,hf⟩
    have HW8:=hid hw
    obtain⟨ht2,hf2⟩:=aF HT7.out HF7.out ht hf
    have HT8:=hid ht2
    have HF8:=hid hf2
    have HBX8:=hid (HBX7.out.on ht hf)
    have kk8:=ay HBX8.out.at'
    clear hw ht hf ht2 hf2 HX7 kk7
    have HX8:Hid (Calls Tryz.prog 98 #[.pointer (some ⟨g,0,none⟩),.slice (some ⟨w8.heap.size,0,none⟩) 1 1] (w8.alloc (.cells #[.string ⟨#[76,73,77,73,84]⟩] 9)) fun e w'=>e = .returned (.tuple #[])∧Wrote g tw8 w8 w' (L++au [[83,69,76,69,67,84]]++TL++au [[70,82,79,77]]++[aW tn]++TO++TW++TG++TD++au [[76,73,77,73,84]]) d (max (max (max (max (max (m) (d+((DL:Nat):Int))) (d+((DO:Nat):Int))) (d+((DW:Nat):Int))) (d+((DG:Nat):Int))) (d+((DD:Nat):Int)))):=hid (aG g tw8 _ d _ [[76,73,77,73,84]] w8 HW8.out (by simp) (by decide) (by simp[au]<;>omega))
    go_wp2_with fail
    refine HX8.out.mono ?_
    rintro e w9 ⟨rfl,tw9,hw,ht,hf⟩
    have HW9:=hid hw
    obtain⟨ht2,hf2⟩:=aF HT8.out HF8.out ht hf
    have HT9:=hid ht2
    have HF9:=hid hf2
    have HBX9:=hid (HBX8.out.on ht hf)
    have kk9:=ay HBX9.out.at'
    clear hw ht hf ht2 hf2 HX8 kk8
    have HX9:=hid (je g tw9 (L++au [[83,69,76,69,67,84]]++TL++au [[70,82,79,77]]++[aW tn]++TO++TW++TG++TD++au [[76,73,77,73,84]]) d (max (max (max (max (max (m) (d+((DL:Nat):Int))) (d+((DO:Nat):Int))) (d+((DW:Nat):Int))) (d+((DG:Nat):Int))) (d+((DD:Nat):Int))) w9.drew (HW9.out.below (Below.refl _ w9).drew) lim (by simp[au]<;>omega))
    have HS0:Hid (w9.drew.cell? ⟨w.heap.size,13,none⟩=some (.int .i64 lim)):=hid ((ay (HBX9.out.below (Below.refl _ w9).drew).at').2.2.2.2.2.2.2.2.2.2.2.2.2)
    go_wp2_with fail
    go_region_held3 (fun w'=>w'.cell? ⟨w.heap.size,13,none⟩=some (.int .i64 lim)) (first | exact HS0.out | exact HS1.out)
     (first
      | (
       go_at_call 150;refine HX9.out.mono ?_
       rintro e w10 ⟨rfl,tw10,hw,ht,hf⟩
       have HW10:=hid hw
       obtain⟨ht2,hf2⟩:=bM HT9.out HF9.out ht hf
       have HT10:=hid ht2
       have HF10:=hid hf2
       have HBX10:=hid ((HBX9.out.below (Below.refl _ w9).drew).on ht hf)
       have kk10:=ay HBX10.out.at'
       clear hw ht hf ht2 hf2 HX9 kk9
       have HS1:=hid (kk10.2.2.2.2.2.2.2.2.2.2.2.2.2))
      | fail)
    clear HS0 HS1
    have HQ:Hid (Wrote g tb w w10 (L++(aK [83,69,76,69,67,84]::(TL++aK [70,82,79,77]::aW tn::([]++(TO++(TW++(TG++(TD++([]++[aK [76,73,77,73,84],mV lim]))))))))) d (max m (d+((max DL (max DO (max DW (max DG DD))):Nat):Int)))):=hid (by
     have h9:Wrote g tb W w10 (L++au [[83,69,76,69,67,84]]++TL++au [[70,82,79,77]]++[aW tn]++TO++TW++TG++TD++au [[76,73,77,73,84]]++[mV lim]) d (max (max (max (max (max (m) (d+((DL:Nat):Int))) (d+((DO:Nat):Int))) (d+((DW:Nat):Int))) (d+((DG:Nat):Int))) (d+((DD:Nat):Int))):=⟨tw10,HW10.out,HT10.out,HF10.out⟩
     have h8:=Wrote.new HB.out h9
     rw[show max (max (max (max (max (m) (d+((DL:Nat):Int))) (d+((DO:Nat):Int))) (d+((DW:Nat):Int))) (d+((DG:Nat):Int))) (d+((DD:Nat):Int))=max m (d+((max DL (max DO (max DW (max DG DD))):Nat):Int)) by omega] at h8
     rw[show L++au [[83,69,76,69,67,84]]++TL++au [[70,82,79,77]]++[aW tn]++TO++TW++TG++TD++au [[76,73,77,73,84]]++[mV lim]=L++(aK [83,69,76,69,67,84]::(TL++aK [70,82,79,77]::aW tn::([]++(TO++(TW++(TG++(TD++([]++[aK [76,73,77,73,84],mV lim])))))))) by simp[au]] at h8
     exact h8)
    go_wp2
    exact bodyPost_end (v:=.tuple #[]) (by simp[results,Tryz.results106,go_sem]) rfl ⟨rfl,HQ.out⟩
  |
   true =>
   rw[if_pos rfl] at hL ⊢
   by_cases hl:lim = -1
   ·rw[if_pos hl] at hL ⊢
    simp only[List.length_append,List.length_cons,List.length_nil] at hL
    have hlb:(lim != -1)=false:=by rw[hl];rfl
    clear hl
    go_enter Tryz.func106,Tryz.ntmps106
    have HX0:Hid (Calls Tryz.prog 98 #[.pointer (some ⟨g,0,none⟩),.slice (some ⟨W.heap.size,0,none⟩) 1 1] (W.alloc (.cells #[.string ⟨#[83,69,76,69,67,84]⟩] 9)) fun e w'=>e = .returned (.tuple #[])∧Wrote g tb W w' (L++au [[83,69,76,69,67,84]]) d (m)):=hid (aG g tb _ d _ [[83,69,76,69,67,84]] W HW0.out (by simp) (by decide) (by simp[au]<;>omega))
    go_wp2_with fail
    refine HX0.out.mono ?_
    rintro e w1 ⟨rfl,tw1,hw,ht,hf⟩
    have HW1:=hid hw
    obtain⟨ht2,hf2⟩:=aF HT0.out HF0.out ht hf
    have HT1:=hid ht2
    have HF1:=hid hf2
    have HBX1:=hid (HBX0.out.on ht hf)
    have kk1:=ay HBX1.out.at'
    clear hw ht hf ht2 hf2 HX0 kk0
    have HX1:=hid (HL.out w1 tw1 (L++au [[83,69,76,69,67,84]]) (m) HW1.out HF1.out HT1.out (by simp[au]<;>omega) (by omega) (by omega))
    go_wp2_with fail
    refine HX1.out.mono ?_
    rintro e w2 ⟨rfl,tw2,hw,ht,hf⟩
    have HW2:=hid hw
    obtain⟨ht2,hf2⟩:=aF HT1.out HF1.out ht hf
    have HT2:=hid ht2
    have HF2:=hid hf2
    have HBX2:=hid (HBX1.out.on ht hf)
    have kk2:=ay HBX2.out.at'
    clear hw ht hf ht2 hf2 HX1 kk1
    have HX2:Hid (Calls Tryz.prog 98 #[.pointer (some ⟨g,0,none⟩),.slice (some ⟨w2.heap.size,0,none⟩) 1 1] (w2.alloc (.cells #[.string ⟨#[70,82,79,77]⟩] 9)) fun e w'=>e = .returned (.tuple #[])∧Wrote g tw2 w2 w' (L++au [[83,69,76,69,67,84]]++TL++au [[70,82,79,77]]) d (max (m) (d+((DL:Nat):Int)))):=hid (aG g tw2 _ d _ [[70,82,79,77]] w2 HW2.out (by simp) (by decide) (by simp[au]<;>omega))
    go_wp2_with fail
    refine HX2.out.mono ?_
    rintro e w3 ⟨rfl,tw3,hw,ht,hf⟩
    have HW3:=hid hw
    obtain⟨ht2,hf2⟩:=aF HT2.out HF2.out ht hf
    have HT3:=hid ht2
    have HF3:=hid hf2
    have HBX3:=hid (HBX2.out.on ht hf)
    have kk3:=ay HBX3.out.at'
    clear hw ht hf ht2 hf2 HX2 kk2
    have HX3:=hid (bX g tw3 (L++au [[83,69,76,69,67,84]]++TL++au [[70,82,79,77]]) d (max (m) (d+((DL:Nat):Int))) w3.drew (HW3.out.below (Below.refl _ w3).drew) tn (by simp[au]<;>omega))
    have HS0:Hid (w3.drew.cell? ⟨w.heap.size,1,none⟩=some (.string (aj tn))):=hid ((ay (HBX3.out.below (Below.refl _ w3).drew).at').2.1)
    go_wp2_with fail
    go_region_held3 (fun w'=>w'.cell? ⟨w.heap.size,1,none⟩=some (.string (aj tn))) (first | exact HS0.out | exact HS1.out)
     (first
      | (
       go_at_call 100;refine HX3.out.mono ?_
       rintro e w4 ⟨rfl,tw4,hw,ht,hf⟩
       have HW4:=hid hw
       obtain⟨ht2,hf2⟩:=bM HT3.out HF3.out ht hf
       have HT4:=hid ht2
       have HF4:=hid hf2
       have HBX4:=hid ((HBX3.out.below (Below.refl _ w3).drew).on ht hf)
       have kk4:=ay HBX4.out.at'
       clear hw ht hf ht2 hf2 HX3 kk3
       have HS1:=hid (kk4.2.1))
      | fail)
    clear HS0 HS1
    have HX4:=hid (HO.out w4 tw4 (L++au [[83,69,76,69,67,84]]++TL++au [[70,82,79,77]]++[aW tn]) (max (m) (d+((DL:Nat):Int))) HW4.out HF4.out HT4.out (by simp[au]<;>omega) (by omega) (by omega))
    go_wp2_with fail
    refine HX4.out.mono ?_
    rintro e w5 ⟨rfl,tw5,hw,ht,hf⟩
    have HW5:=hid hw
    obtain⟨ht2,hf2⟩:=aF HT4.out HF4.out ht hf
    have HT5:=hid ht2
    have HF5:=hid hf2
    have HBX5:=hid (HBX4.out.on ht hf)
    have kk5:=ay HBX5.out.at'
    clear hw ht hf ht2 hf2 HX4 kk4
    have HX5:=hid (HW.out w5 tw5 (L++au [[83,69,76,69,67,84]]++TL++au [[70,82,79,77]]++[aW tn]++TO) (max (max (m) (d+((DL:Nat):Int))) (d+((DO:Nat):Int))) HW5.out HF5.out HT5.out (by simp[au]<;>omega) (by omega) (by omega))
    go_wp2_with fail
    refine HX5.out.mono ?_
    rintro e w6 ⟨rfl,tw6,hw,ht,hf⟩
    have HW6:=hid hw
    obtain⟨ht2,hf2⟩:=aF HT5.out HF5.out ht hf
    have HT6:=hid ht2
    have HF6:=hid hf2
    have HBX6:=hid (HBX5.out.on ht hf)
    have kk6:=ay HBX6.out.at'
    clear hw ht hf ht2 hf2 HX5 kk5
    have HX6:=hid (HG.out w6 tw6 (L++au [[83,69,76,69,67,84]]++TL++au [[70,82,79,77]]++[aW tn]++TO++TW) (max (max (max (m) (d+((DL:Nat):Int))) (d+((DO:Nat):Int))) (d+((DW:Nat):Int))) HW6.out HF6.out HT6.out (by simp[au]<;>omega) (by omega) (by omega))
    go_wp2_with fail
    refine HX6.out.mono ?_
    rintro e w7 ⟨rfl,tw7,hw,ht,hf⟩
    have HW7:=hid hw
    obtain⟨ht2,hf2⟩:=aF HT6.out HF6.out ht hf
    have HT7:=hid ht2
    have HF7:=hid hf2
    have HBX7:=hid (HBX6.out.on ht hf)
    have kk7:=ay HBX7.out.at'
    clear hw ht hf ht2 hf2 HX6 kk6
    have HX7:=hid (HD.out w7 tw7 (L++au [[83,69,76,69,67,84]]++TL++au [[70,82,79,77]]++[aW tn]++TO++TW++TG) (max (max (max (max (m) (d+((DL:Nat):Int))) (d+((DO:Nat):Int))) (d+((DW:Nat):Int))) (d+((DG:Nat):Int))) HW7.out HF7.out HT7.out (by simp[au]<;>omega) (by omega) (by omega))
    go_wp2_with fail
    refine HX7.out.mono ?_
    rintro e w8 ⟨rfl,tw8,hw,ht,hf⟩
    have HW8:=hid hw
    obtain⟨ht2,hf2⟩:=aF HT7.out HF7.out ht hf
    have HT8:=hid ht2
    have HF8:=hid hf2
    have HBX8:=hid (HBX7.out.on ht hf)
    have kk8:=ay HBX8.out.at'
    clear hw ht hf ht2 hf2 HX7 kk7
    have HX8:Hid (Calls Tryz.prog 98 #[.pointer (some ⟨g,0,none⟩),.slice (some ⟨w8.heap.size,0,none⟩) 1 1] (w8.alloc (.cells #[.string ⟨#[68,69,83,67]⟩] 9)) fun e w'=>e = .returned (.tuple #[])∧Wrote g tw8 w8 w' (L++au [[83,69,76,69,67,84]]++TL++au [[70,82,79,77]]++[aW tn]++TO++TW++TG++TD++au [[68,69,83,67]]) d (max (max (max (max (max (m) (d+((DL:Nat):Int))) (d+((DO:Nat):Int))) (d+((DW:Nat):Int))) (d+((DG:Nat):Int))) (d+((DD:Nat):Int)))):=hid (aG g tw8 _ d _ [[68,69,83,67]] w8 HW8.out (by simp) (by decide) (by simp[au]<;>omega))
    go_wp2_with fail
    refine HX8.out.mono ?_
    rintro e w9 ⟨rfl,tw9,hw,ht,hf⟩
    have HW9:=hid hw
    obtain⟨ht2,hf2⟩:=aF HT8.out HF8.out ht hf
    have HT9:=hid ht2
    have HF9:=hid hf2
    have HBX9:=hid (HBX8.out.on ht hf)
    have kk9:=ay HBX9.out.at'
    clear hw ht hf ht2 hf2 HX8 kk8
    have HQ:Hid (Wrote g tb w w9 (L++(aK [83,69,76,69,67,84]::(TL++aK [70,82,79,77]::aW tn::([]++(TO++(TW++(TG++(TD++([aK [68,69,83,67]]++[]))))))))) d (max m (d+((max DL (max DO (max DW (max DG DD))):Nat):Int)))):=hid (by
     have h9:Wrote g tb W w9 (L++au [[83,69,76,69,67,84]]++TL++au [[70,82,79,77]]++[aW tn]++TO++TW++TG++TD++au [[68,69,83,67]]) d (max (max (max (max (max (m) (d+((DL:Nat):Int))) (d+((DO:Nat):Int))) (d+((DW:Nat):Int))) (d+((DG:Nat):Int))) (d+((DD:Nat):Int))):=⟨tw9,HW9.out,HT9.out,HF9.out⟩
     have h8:=Wrote.new HB.out h9
     rw[show max (max (max (max (max (m) (d+((DL:Nat):Int))) (d+((DO:Nat):Int))) (d+((DW:Nat):Int))) (d+((DG:Nat):Int))) (d+((DD:Nat):Int))=max m (d+((max DL (max DO (max DW (max DG DD))):Nat):Int)) by omega] at h8
     rw[show L++au [[83,69,76,69,67,84]]++TL++au [[70,82,79,77]]++[aW tn]++TO++TW++TG++TD++au [[68,69,83,67]]=L++(aK [83,69,76,69,67,84]::(TL++aK [70,82,79,77]::aW tn::([]++(TO++(TW++(TG++(TD++([aK [68,69,83,67]]++[])))))))) by simp[au]] at h8
     exact h8)
    go_wp2
    exact bodyPost_end (v:=.tuple #[]) (by simp[results,Tryz.results106,go_sem]) rfl ⟨rfl,HQ.out⟩
   ·rw[if_neg hl] at hL ⊢
    simp only[List.length_append,List.length_cons,List.length_nil] at hL
    have hlb:(lim != -1)=true:=by rw[bne_iff_ne];exact hl
    clear hl
    go_enter Tryz.func106,Tryz.ntmps106
    have HX0:Hid (Calls Tryz.prog 98 #[.pointer (some ⟨g,0,none⟩),.slice (some ⟨W.heap.size,0,none⟩) 1 1] (W.alloc (.cells #[.string ⟨#[83,69,76,69,67,84]⟩] 9)) fun e w'=>e = .returned (.tuple #[])∧Wrote g tb W w' (L++au [[83,69,76,69,67,84]]) d (m)):=hid (aG g tb _ d _ [[83,69,76,69,67,84]] W HW0.out (by simp) (by decide) (by simp[au]<;>omega))
    go_wp2_with fail
    refine HX0.out.mono ?_
    rintro e w1 ⟨rfl,tw1,hw,ht,hf⟩
    have HW1:=hid hw
    obtain⟨ht2,hf2⟩:=aF HT0.out HF0.out ht hf
    have HT1:=hid ht2
    have HF1:=hid hf2
    have HBX1:=hid (HBX0.out.on ht hf)
    have kk1:=ay HBX1.out.at'
    clear hw ht hf ht2 hf2 HX0 kk0
    have HX1:=hid (HL.out w1 tw1 (L++au [[83,69,76,69,67,84]]) (m) HW1.out HF1.out HT1.out (by simp[au]<;>omega) (by omega) (by omega))
    go_wp2_with fail
    refine HX1.out.mono ?_
    rintro e w2 ⟨rfl,tw2,hw,ht,hf⟩
    have HW2:=hid hw
    obtain⟨ht2,hf2⟩:=aF HT1.out HF1.out ht hf
    have HT2:=hid ht2
    have HF2:=hid hf2
    have HBX2:=hid (HBX1.out.on ht hf)
    have kk2:=ay HBX2.out.at'
    clear hw ht hf ht2 hf2 HX1 kk1
    have HX2:Hid (Calls Tryz.prog 98 #[.pointer (some ⟨g,0,none⟩),.slice (some ⟨w2.heap.size,0,none⟩) 1 1] (w2.alloc (.cells #[.string ⟨#[70,82,79,77]⟩] 9)) fun e w'=>e = .returned (.tuple #[])∧Wrote g tw2 w2 w' (L++au [[83,69,76,69,67,84]]++TL++au [[70,82,79,77]]) d (max (m) (d+((DL:Nat):Int)))):=hid (aG g tw2 _ d _ [[70,82,79,77]] w2 HW2.out (by simp) (by decide) (by simp[au]<;>omega))
    go_wp2_with fail
    refine HX2.out.mono ?_
    rintro e w3 ⟨rfl,tw3,hw,ht,hf⟩
    have HW3:=hid hw
    obtain⟨ht2,hf2⟩:=aF HT2.out HF2.out ht hf
    have HT3:=hid ht2
    have HF3:=hid hf2
    have HBX3:=hid (HBX2.out.on ht hf)
    have kk3:=ay HBX3.out.at'
    clear hw ht hf ht2 hf2 HX2 kk2
    have HX3:=hid (bX g tw3 (L++au [[83,69,76,69,67,84]]++TL++au [[70,82,79,77]]) d (max (m) (d+((DL:Nat):Int))) w3.drew (HW3.out.below (Below.refl _ w3).drew) tn (by simp[au]<;>omega))
    have HS0:Hid (w3.drew.cell? ⟨w.heap.size,1,none⟩=some (.string (aj tn))):=hid ((ay (HBX3.out.below (Below.refl _ w3).drew).at').2.1)
    go_wp2_with fail
    go_region_held3 (fun w'=>w'.cell? ⟨w.heap.size,1,none⟩=some (.string (aj tn))) (first | exact HS0.out | exact HS1.out)
     (first
      | (
       go_at_call 100;refine HX3.out.mono ?_
       rintro e w4 ⟨rfl,tw4,hw,ht,hf⟩
       have HW4:=hid hw
       obtain⟨ht2,hf2⟩:=bM HT3.out HF3.out ht hf
       have HT4:=hid ht2
       have HF4:=hid hf2
       have HBX4:=hid ((HBX3.out.below (Below.refl _ w3).drew).on ht hf)
       have kk4:=ay HBX4.out.at'
       clear hw ht hf ht2 hf2 HX3 kk3
       have HS1:=hid (kk4.2.1))
      | fail)
    clear HS0 HS1
    have HX4:=hid (HO.out w4 tw4 (L++au [[83,69,76,69,67,84]]++TL++au [[70,82,79,77]]++[aW tn]) (max (m) (d+((DL:Nat):Int))) HW4.out HF4.out HT4.out (by simp[au]<;>omega) (by omega) (by omega))
    go_wp2_with fail
    refine HX4.out.mono ?_
    rintro e w5 ⟨rfl,tw5,hw,ht,hf⟩
    have HW5:=hid hw
    obtain⟨ht2,hf2⟩:=aF HT4.out HF4.out ht hf
    have HT5:=hid ht2
    have HF5:=hid hf2
    have HBX5:=hid (HBX4.out.on ht hf)
    have kk5:=ay HBX5.out.at'
    clear hw ht hf ht2 hf2 HX4 kk4
    have HX5:=hid (HW.out w5 tw5 (L++au [[83,69,76,69,67,84]]++TL++au [[70,82,79,77]]++[aW tn]++TO) (max (max (m) (d+((DL:Nat):Int))) (d+((DO:Nat):Int))) HW5.out HF5.out HT5.out (by simp[au]<;>omega) (by omega) (by omega))
    go_wp2_with fail
    refine HX5.out.mono ?_
    rintro e w6 ⟨rfl,tw6,hw,ht,hf⟩
    have HW6:=hid hw
    obtain⟨ht2,hf2⟩:=aF HT5.out HF5.out ht hf
    have HT6:=hid ht2
    have HF6:=hid hf2
    have HBX6:=hid (HBX5.out.on ht hf)
    have kk6:=ay HBX6.out.at'
    clear hw ht hf ht2 hf2 HX5 kk5
    have HX6:=hid (HG.out w6 tw6 (L++au [[83,69,76,69,67,84]]++TL++au [[70,82,79,77]]++[aW tn]++TO++TW) (max (max (max (m) (d+((DL:Nat):Int))) (d+((DO:Nat):Int))) (d+((DW:Nat):Int))) HW6.out HF6.out HT6.out (by simp[au]<;>omega) (by omega) (by omega))
    go_wp2_with fail
    refine HX6.out.mono ?_
    rintro e w7 ⟨rfl,tw7,hw,ht,hf⟩
    have HW7:=hid hw
    obtain⟨ht2,hf2⟩:=aF HT6.out HF6.out ht hf
    have HT7:=hid ht2
    have HF7:=hid hf2
    have HBX7:=hid (HBX6.out.on ht hf)
    have kk7:=ay HBX7.out.at'
    clear hw ht hf ht2 hf2 HX6 kk6
    have HX7:=hid (HD.out w7 tw7 (L++au [[83,69,76,69,67,84]]++TL++au [[70,82,79,77]]++[aW tn]++TO++TW++TG) (max (max (max (max (m) (d+((DL:Nat):Int))) (d+((DO:Nat):Int))) (d+((DW:Nat):Int))) (d+((DG:Nat):Int))) HW7.out HF7.out HT7.out (by simp[au]<;>omega) (by omega) (by omega))
    go_wp2_with fail
    refine HX7.out.mono ?_
    rintro e w8 ⟨rfl,tw8,hw,ht,hf⟩
    have HW8:=hid hw
    obtain⟨ht2,hf2⟩:=aF HT7.out HF7.out ht hf
    have HT8:=hid ht2
    have HF8:=hid hf2
    have HBX8:=hid (HBX7.out.on ht hf)
    have kk8:=ay HBX8.out.at'
    clear hw ht hf ht2 hf2 HX7 kk7
    have HX8:Hid (Calls Tryz.prog 98 #[.pointer (some ⟨g,0,none⟩),.slice (some ⟨w8.heap.size,0,none⟩) 1 1] (w8.alloc (.cells #[.string ⟨#[68,69,83,67]⟩] 9)) fun e w'=>e = .returned (.tuple #[])∧Wrote g tw8 w8 w' (L++au [[83,69,76,69,67,84]]++TL++au [[70,82,79,77]]++[aW tn]++TO++TW++TG++TD++au [[68,69,83,67]]) d (max (max (max (max (max (m) (d+((DL:Nat):Int))) (d+((DO:Nat):Int))) (d+((DW:Nat):Int))) (d+((DG:Nat):Int))) (d+((DD:Nat):Int)))):=hid (aG g tw8 _ d _ [[68,69,83,67]] w8 HW8.out (by simp) (by decide) (by simp[au]<;>omega))
    go_wp2_with fail
    refine HX8.out.mono ?_
    rintro e w9 ⟨rfl,tw9,hw,ht,hf⟩
    have HW9:=hid hw
    obtain⟨ht2,hf2⟩:=aF HT8.out HF8.out ht hf
    have HT9:=hid ht2
    have HF9:=hid hf2
    have HBX9:=hid (HBX8.out.on ht hf)
    have kk9:=ay HBX9.out.at'
    clear hw ht hf ht2 hf2 HX8 kk8
    have HX9:Hid (Calls Tryz.prog 98 #[.pointer (some ⟨g,0,none⟩),.slice (some ⟨w9.heap.size,0,none⟩) 1 1] (w9.alloc (.cells #[.string ⟨#[76,73,77,73,84]⟩] 9)) fun e w'=>e = .returned (.tuple #[])∧Wrote g tw9 w9 w' (L++au [[83,69,76,69,67,84]]++TL++au [[70,82,79,77]]++[aW tn]++TO++TW++TG++TD++au [[68,69,83,67]]++au [[76,73,77,73,84]]) d (max (max (max (max (max (m) (d+((DL:Nat):Int))) (d+((DO:Nat):Int))) (d+((DW:Nat):Int))) (d+((DG:Nat):Int))) (d+((DD:Nat):Int)))):=hid (aG g tw9 _ d _ [[76,73,77,73,84]] w9 HW9.out (by simp) (by decide) (by simp[au]<;>omega))
    go_wp2_with fail
    refine HX9.out.mono ?_
    rintro e w10 ⟨rfl,tw10,hw,ht,hf⟩
    have HW10:=hid hw
    obtain⟨ht2,hf2⟩:=aF HT9.out HF9.out ht hf
    have HT10:=hid ht2
    have HF10:=hid hf2
    have HBX10:=hid (HBX9.out.on ht hf)
    have kk10:=ay HBX10.out.at'
    clear hw ht hf ht2 hf2 HX9 kk9
    have HX10:=hid (je g tw10 (L++au [[83,69,76,69,67,84]]++TL++au [[70,82,79,77]]++[aW tn]++TO++TW++TG++TD++au [[68,69,83,67]]++au [[76,73,77,73,84]]) d (max (max (max (max (max (m) (d+((DL:Nat):Int))) (d+((DO:Nat):Int))) (d+((DW:Nat):Int))) (d+((DG:Nat):Int))) (d+((DD:Nat):Int))) w10.drew (HW10.out.below (Below.refl _ w10).drew) lim (by simp[au]<;>omega))
    have HS0:Hid (w10.drew.cell? ⟨w.heap.size,13,none⟩=some (.int .i64 lim)):=hid ((ay (HBX10.out.below (Below.refl _ w10).drew).at').2.2.2.2.2.2.2.2.2.2.2.2.2)
    go_wp2_with fail
    go_region_held3 (fun w'=>w'.cell? ⟨w.heap.size,13,none⟩=some (.int .i64 lim)) (first | exact HS0.out | exact HS1.out)
     (first
      | (
       go_at_call 150;refine HX10.out.mono ?_
       rintro e w11 ⟨rfl,tw11,hw,ht,hf⟩
       have HW11:=hid hw
       obtain⟨ht2,hf2⟩:=bM HT10.out HF10.out ht hf
       have HT11:=hid ht2
       have HF11:=hid hf2
       have HBX11:=hid ((HBX10.out.below (Below.refl _ w10).drew).on ht hf)
       have kk11:=ay HBX11.out.at'
       clear hw ht hf ht2 hf2 HX10 kk10
       have HS1:=hid (kk11.2.2.2.2.2.2.2.2.2.2.2.2.2))
      | fail)
    clear HS0 HS1
    have HQ:Hid (Wrote g tb w w11 (L++(aK [83,69,76,69,67,84]::(TL++aK [70,82,79,77]::aW tn::([]++(TO++(TW++(TG++(TD++([aK [68,69,83,67]]++[aK [76,73,77,73,84],mV lim]))))))))) d (max m (d+((max DL (max DO (max DW (max DG DD))):Nat):Int)))):=hid (by
     have h9:Wrote g tb W w11 (L++au [[83,69,76,69,67,84]]++TL++au [[70,82,79,77]]++[aW tn]++TO++TW++TG++TD++au [[68,69,83,67]]++au [[76,73,77,73,84]]++[mV lim]) d (max (max (max (max (max (m) (d+((DL:Nat):Int))) (d+((DO:Nat):Int))) (d+((DW:Nat):Int))) (d+((DG:Nat):Int))) (d+((DD:Nat):Int))):=⟨tw11,HW11.out,HT11.out,HF11.out⟩
     have h8:=Wrote.new HB.out h9
     rw[show max (max (max (max (max (m) (d+((DL:Nat):Int))) (d+((DO:Nat):Int))) (d+((DW:Nat):Int))) (d+((DG:Nat):Int))) (d+((DD:Nat):Int))=max m (d+((max DL (max DO (max DW (max DG DD))):Nat):Int)) by omega] at h8
     rw[show L++au [[83,69,76,69,67,84]]++TL++au [[70,82,79,77]]++[aW tn]++TO++TW++TG++TD++au [[68,69,83,67]]++au [[76,73,77,73,84]]++[mV lim]=L++(aK [83,69,76,69,67,84]::(TL++aK [70,82,79,77]::aW tn::([]++(TO++(TW++(TG++(TD++([aK [68,69,83,67]]++[aK [76,73,77,73,84],mV lim])))))))) by simp[au]] at h8
     exact h8)
    go_wp2
    exact bodyPost_end (v:=.tuple #[]) (by simp[results,Tryz.results106,go_sem]) rfl ⟨rfl,HQ.out⟩
 ·rw[if_neg hj] at hL ⊢
  rw[decide_eq_false hj] at hje
  clear hj
  cases desc with
  |
   false =>
   rw[if_neg Bool.false_ne_true] at hL ⊢
   by_cases hl:lim = -1
   ·rw[if_pos hl] at hL ⊢
    simp only[List.length_append,List.length_cons,List.length_nil] at hL
    have hlb:(lim != -1)=false:=by rw[hl];rfl
    clear hl
    go_enter Tryz.func106,Tryz.ntmps106
    have HX0:Hid (Calls Tryz.prog 98 #[.pointer (some ⟨g,0,none⟩),.slice (some ⟨W.heap.size,0,none⟩) 1 1] (W.alloc (.cells #[.string ⟨#[83,69,76,69,67,84]⟩] 9)) fun e w'=>e = .returned (.tuple #[])∧Wrote g tb W w' (L++au [[83,69,76,69,67,84]]) d (m)):=hid (aG g tb _ d _ [[83,69,76,69,67,84]] W HW0.out (by simp) (by decide) (by simp[au]<;>omega))
    go_wp2_with fail
    refine HX0.out.mono ?_
    rintro e w1 ⟨rfl,tw1,hw,ht,hf⟩
    have HW1:=hid hw
    obtain⟨ht2,hf2⟩:=aF HT0.out HF0.out ht hf
    have HT1:=hid ht2
    have HF1:=hid hf2
    have HBX1:=hid (HBX0.out.on ht hf)
    have kk1:=ay HBX1.out.at'
    clear hw ht hf ht2 hf2 HX0 kk0
    have HX1:=hid (HL.out w1 tw1 (L++au [[83,69,76,69,67,84]]) (m) HW1.out HF1.out HT1.out (by simp[au]<;>omega) (by omega) (by omega))
    go_wp2_with fail
    refine HX1.out.mono ?_
    rintro e w2 ⟨rfl,tw2,hw,ht,hf⟩
    have HW2:=hid hw
    obtain⟨ht2,hf2⟩:=aF HT1.out HF1.out ht hf
    have HT2:=hid ht2
    have HF2:=hid hf2
    have HBX2:=hid (HBX1.out.on ht hf)
    have kk2:=ay HBX2.out.at'
    clear hw ht hf ht2 hf2 HX1 kk1
    have HX2:Hid (Calls Tryz.prog 98 #[.pointer (some ⟨g,0,none⟩),.slice (some ⟨w2.heap.size,0,none⟩) 1 1] (w2.alloc (.cells #[.string ⟨#[70,82,79,77]⟩] 9)) fun e w'=>e = .returned (.tuple #[])∧Wrote g tw2 w2 w' (L++au [[83,69,76,69,67,84]]++TL++au [[70,82,79,77]]) d (max (m) (d+((DL:Nat):Int)))):=hid (aG g tw2 _ d _ [[70,82,79,77]] w2 HW2.out (by simp) (by decide) (by simp[au]<;>omega))
    go_wp2_with fail
    refine HX2.out.mono ?_
    rintro e w3 ⟨rfl,tw3,hw,ht,hf⟩
    have HW3:=hid hw
    obtain⟨ht2,hf2⟩:=aF HT2.out HF2.out ht hf
    have HT3:=hid ht2
    have HF3:=hid hf2
    have HBX3:=hid (HBX2.out.on ht hf)
    have kk3:=ay HBX3.out.at'
    clear hw ht hf ht2 hf2 HX2 kk2
    have HX3:=hid (bX g tw3 (L++au [[83,69,76,69,67,84]]++TL++au [[70,82,79,77]]) d (max (m) (d+((DL:Nat):Int))) w3.drew (HW3.out.below (Below.refl _ w3).drew) tn (by simp[au]<;>omega))
    have HS0:Hid (w3.drew.cell? ⟨w.heap.size,1,none⟩=some (.string (aj tn))):=hid ((ay (HBX3.out.below (Below.refl _ w3).drew).at').2.1)
    go_wp2_with fail
    go_region_held3 (fun w'=>w'.cell? ⟨w.heap.size,1,none⟩=some (.string (aj tn))) (first | exact HS0.out | exact HS1.out)
     (first
      | (
       go_at_call 100;refine HX3.out.mono ?_
       rintro e w4 ⟨rfl,tw4,hw,ht,hf⟩
       have HW4:=hid hw
       obtain⟨ht2,hf2⟩:=bM HT3.out HF3.out ht hf
       have HT4:=hid ht2
       have HF4:=hid hf2
       have HBX4:=hid ((HBX3.out.below (Below.refl _ w3).drew).on ht hf)
       have kk4:=ay HBX4.out.at'
       clear hw ht hf ht2 hf2 HX3 kk3
       have HS1:=hid (kk4.2.1))
      | fail)
    clear HS0 HS1
    have HX4:Hid (Calls Tryz.prog 98 #[.pointer (some ⟨g,0,none⟩),.slice (some ⟨w4.heap.size,0,none⟩) 1 1] (w4.alloc (.cells #[.string ⟨#[74,79,73,78]⟩] 9)) fun e w'=>e = .returned (.tuple #[])∧Wrote g tw4 w4 w' (L++au [[83,69,76,69,67,84]]++TL++au [[70,82,79,77]]++[aW tn]++au [[74,79,73,78]]) d (max (m) (d+((DL:Nat):Int)))):=hid (aG g tw4 _ d _ [[74,79,73,78]] w4 HW4.out (by simp) (by decide) (by simp[au]<;>omega))
    go_wp2_with fail
    refine HX4.out.mono ?_
    rintro e w5 ⟨rfl,tw5,hw,ht,hf⟩
    have HW5:=hid hw
    obtain⟨ht2,hf2⟩:=aF HT4.out HF4.out ht hf
    have HT5:=hid ht2
    have HF5:=hid hf2
    have HBX5:=hid (HBX4.out.on ht hf)
    have kk5:=ay HBX5.out.at'
    clear hw ht hf ht2 hf2 HX4 kk4
    have HX5:=hid (bX g tw5 (L++au [[83,69,76,69,67,84]]++TL++au [[70,82,79,77]]++[aW tn]++au [[74,79,73,78]]) d (max (m) (d+((DL:Nat):Int))) w5.drew (HW5.out.below (Below.refl _ w5).drew) jn (by simp[au]<;>omega))
    have HS0:Hid (w5.drew.cell? ⟨w.heap.size,7,none⟩=some (.string (aj jn))):=hid ((ay (HBX5.out.below (Below.refl _ w5).drew).at').2.2.2.2.2.2.2.1)
    go_wp2_with fail
    go_region_held3 (fun w'=>w'.cell? ⟨w.heap.size,7,none⟩=some (.string (aj jn))) (first | exact HS0.out | exact HS1.out)
     (first
      | (
       go_at_call 100;refine HX5.out.mono ?_
       rintro e w6 ⟨rfl,tw6,hw,ht,hf⟩
       have HW6:=hid hw
       obtain⟨ht2,hf2⟩:=bM HT5.out HF5.out ht hf
       have HT6:=hid ht2
       have HF6:=hid hf2
       have HBX6:=hid ((HBX5.out.below (Below.refl _ w5).drew).on ht hf)
       have kk6:=ay HBX6.out.at'
       clear hw ht hf ht2 hf2 HX5 kk5
       have HS1:=hid (kk6.2.2.2.2.2.2.2.1))
      | fail)
    clear HS0 HS1
    have HX6:=hid (HO.out w6 tw6 (L++au [[83,69,76,69,67,84]]++TL++au [[70,82,79,77]]++[aW tn]++au [[74,79,73,78]]++[aW jn]) (max (m) (d+((DL:Nat):Int))) HW6.out HF6.out HT6.out (by simp[au]<;>omega) (by omega) (by omega))
    go_wp2_with fail
    refine HX6.out.mono ?_
    rintro e w7 ⟨rfl,tw7,hw,ht,hf⟩
    have HW7:=hid hw
    obtain⟨ht2,hf2⟩:=aF HT6.out HF6.out ht hf
    have HT7:=hid ht2
    have HF7:=hid hf2
    have HBX7:=hid (HBX6.out.on ht hf)
    have kk7:=ay HBX7.out.at'
    clear hw ht hf ht2 hf2 HX6 kk6
    have HX7:=hid (HW.out w7 tw7 (L++au [[83,69,76,69,67,84]]++TL++au [[70,82,79,77]]++[aW tn]++au [[74,79,73,78]]++[aW jn]++TO) (max (max (m) (d+((DL:Nat):Int))) (d+((DO:Nat):Int))) HW7.out HF7.out HT7.out (by simp[au]<;>omega) (by omega) (by omega))
    go_wp2_with fail
    refine HX7.out.mono ?_
    rintro e w8 ⟨rfl,tw8,hw,ht,hf⟩
    have HW8:=hid hw
    obtain⟨ht2,hf2⟩:=aF HT7.out HF7.out ht hf
    have HT8:=hid ht2
    have HF8:=hid hf2
    have HBX8:=hid (HBX7.out.on ht hf)
    have kk8:=ay HBX8.out.at'
    clear hw ht hf ht2 hf2 HX7 kk7
    have HX8:=hid (HG.out w8 tw8 (L++au [[83,69,76,69,67,84]]++TL++au [[70,82,79,77]]++[aW tn]++au [[74,79,73,78]]++[aW jn]++TO++TW) (max (max (max (m) (d+((DL:Nat):Int))) (d+((DO:Nat):Int))) (d+((DW:Nat):Int))) HW8.out HF8.out HT8.out (by simp[au]<;>omega) (by omega) (by omega))
    go_wp2_with fail
    refine HX8.out.mono ?_
    rintro e w9 ⟨rfl,tw9,hw,ht,hf⟩
    have HW9:=hid hw
    obtain⟨ht2,hf2⟩:=aF HT8.out HF8.out ht hf
    have HT9:=hid ht2
    have HF9:=hid hf2
    have HBX9:=hid (HBX8.out.on ht hf)
    have kk9:=ay HBX9.out.at'
    clear hw ht hf ht2 hf2 HX8 kk8
    have HX9:=hid (HD.out w9 tw9 (L++au [[83,69,76,69,67,84]]++TL++au [[70,82,79,77]]++[aW tn]++au [[74,79,73,78]]++[aW jn]++TO++TW++TG) (max (max (max (max (m) (d+((DL:Nat):Int))) (d+((DO:Nat):Int))) (d+((DW:Nat):Int))) (d+((DG:Nat):Int))) HW9.out HF9.out HT9.out (by simp[au]<;>omega) (by omega) (by omega))
    go_wp2_with fail
    refine HX9.out.mono ?_
    rintro e w10 ⟨rfl,tw10,hw,ht,hf⟩
    have HW10:=hid hw
    obtain⟨ht2,hf2⟩:=aF HT9.out HF9.out ht hf
    have HT10:=hid ht2
    have HF10:=hid hf2
    have HBX10:=hid (HBX9.out.on ht hf)
    have kk10:=ay HBX10.out.at'
    clear hw ht hf ht2 hf2 HX9 kk9
    have HQ:Hid (Wrote g tb w w10 (L++(aK [83,69,76,69,67,84]::(TL++aK [70,82,79,77]::aW tn::([aK [74,79,73,78],aW jn]++(TO++(TW++(TG++(TD++([]++[]))))))))) d (max m (d+((max DL (max DO (max DW (max DG DD))):Nat):Int)))):=hid (by
     have h9:Wrote g tb W w10 (L++au [[83,69,76,69,67,84]]++TL++au [[70,82,79,77]]++[aW tn]++au [[74,79,73,78]]++[aW jn]++TO++TW++TG++TD) d (max (max (max (max (max (m) (d+((DL:Nat):Int))) (d+((DO:Nat):Int))) (d+((DW:Nat):Int))) (d+((DG:Nat):Int))) (d+((DD:Nat):Int))):=⟨tw10,HW10.out,HT10.out,HF10.out⟩
     have h8:=Wrote.new HB.out h9
     rw[show max (max (max (max (max (m) (d+((DL:Nat):Int))) (d+((DO:Nat):Int))) (d+((DW:Nat):Int))) (d+((DG:Nat):Int))) (d+((DD:Nat):Int))=max m (d+((max DL (max DO (max DW (max DG DD))):Nat):Int)) by omega] at h8
     rw[show L++au [[83,69,76,69,67,84]]++TL++au [[70,82,79,77]]++[aW tn]++au [[74,79,73,78]]++[aW jn]++TO++TW++TG++TD=L++(aK [83,69,76,69,67,84]::(TL++aK [70,82,79,77]::aW tn::([aK [74,79,73,78],aW jn]++(TO++(TW++(TG++(TD++([]++[])))))))) by simp[au]] at h8
     exact h8)
    go_wp2
    exact bodyPost_end (v:=.tuple #[]) (by simp[results,Tryz.results106,go_sem]) rfl ⟨rfl,HQ.out⟩
   ·rw[if_neg hl] at hL ⊢
    simp only[List.length_append,List.length_cons,List.length_nil] at hL
    have hlb:(lim != -1)=true:=by rw[bne_iff_ne];exact hl
    clear hl
    go_enter Tryz.func106,Tryz.ntmps106
    have HX0:Hid (Calls Tryz.prog 98 #[.pointer (some ⟨g,0,none⟩),.slice (some ⟨W.heap.size,0,none⟩) 1 1] (W.alloc (.cells #[.string ⟨#[83,69,76,69,67,84]⟩] 9)) fun e w'=>e = .returned (.tuple #[])∧Wrote g tb W w' (L++au [[83,69,76,69,67,84]]) d (m)):=hid (aG g tb _ d _ [[83,69,76,69,67,84]] W HW0.out (by simp) (by decide) (by simp[au]<;>omega))
    go_wp2_with fail
    refine HX0.out.mono ?_
    rintro e w1 ⟨rfl,tw1,hw,ht,hf⟩
    have HW1:=hid hw
    obtain⟨ht2,hf2⟩:=aF HT0.out HF0.out ht hf
    have HT1:=hid ht2
    have HF1:=hid hf2
    have HBX1:=hid (HBX0.out.on ht hf)
    have kk1:=ay HBX1.out.at'
    clear hw ht hf ht2 hf2 HX0 kk0
    have HX1:=hid (HL.out w1 tw1 (L++au [[83,69,76,69,67,84]]) (m) HW1.out HF1.out HT1.out (by simp[au]<;>omega) (by omega) (by omega))
    go_wp2_with fail
    refine HX1.out.mono ?_
    rintro e w2 ⟨rfl,tw2,hw,ht,hf⟩
    have HW2:=hid hw
    obtain⟨ht2,hf2⟩:=aF HT1.out HF1.out ht hf
    have HT2:=hid ht2
    have HF2:=hid hf2
    have HBX2:=hid (HBX1.out.on ht hf)
    have kk2:=ay HBX2.out.at'
    clear hw ht hf ht2 hf2 HX1 kk1
    have HX2:Hid (Calls Tryz.prog 98 #[.pointer (some ⟨g,0,none⟩),.slice (some ⟨w2.heap.size,0,none⟩) 1 1] (w2.alloc (.cells #[.string ⟨#[70,82,79,77]⟩] 9)) fun e w'=>e = .returned (.tuple #[])∧Wrote g tw2 w2 w' (L++au [[83,69,76,69,67,84]]++TL++au [[70,82,79,77]]) d (max (m) (d+((DL:Nat):Int)))):=hid (aG g tw2 _ d _ [[70,82,79,77]] w2 HW2.out (by simp) (by decide) (by simp[au]<;>omega))
    go_wp2_with fail
    refine HX2.out.mono ?_
    rintro e w3 ⟨rfl,tw3,hw,ht,hf⟩
    have HW3:=hid hw
    obtain⟨ht2,hf2⟩:=aF HT2.out HF2.out ht hf
    have HT3:=hid ht2
    have HF3:=hid hf2
    have HBX3:=hid (HBX2.out.on ht hf)
    have kk3:=ay HBX3.out.at'
    clear hw ht hf ht2 hf2 HX2 kk2
    have HX3:=hid (bX g tw3 (L++au [[83,69,76,69,67,84]]++TL++au [[70,82,79,77]]) d (max (m) (d+((DL:Nat):Int))) w3.drew (HW3.out.below (Below.refl _ w3).drew) tn (by simp[au]<;>omega))
    have HS0:Hid (w3.drew.cell? ⟨w.heap.size,1,none⟩=some (.string (aj tn))):=hid ((ay (HBX3.out.below (Below.refl _ w3).drew).at').2.1)
    go_wp2_with fail
    go_region_held3 (fun w'=>w'.cell? ⟨w.heap.size,1,none⟩=some (.string (aj tn))) (first | exact HS0.out | exact HS1.out)
     (first
      | (
       go_at_call 100;refine HX3.out.mono ?_
       rintro e w4 ⟨rfl,tw4,hw,ht,hf⟩
       have HW4:=hid hw
       obtain⟨ht2,hf2⟩:=bM HT3.out HF3.out ht hf
       have HT4:=hid ht2
       have HF4:=hid hf2
       have HBX4:=hid ((HBX3.out.below (Below.refl _ w3).drew).on ht hf)
       have kk4:=ay HBX4.out.at'
       clear hw ht hf ht2 hf2 HX3 kk3
       have HS1:=hid (kk4.2.1))
      | fail)
    clear HS0 HS1
    have HX4:Hid (Calls Tryz.prog 98 #[.pointer (some ⟨g,0,none⟩),.slice (some ⟨w4.heap.size,0,none⟩) 1 1] (w4.alloc (.cells #[.string ⟨#[74,79,73,78]⟩] 9)) fun e w'=>e = .returned (.tuple #[])∧Wrote g tw4 w4 w' (L++au [[83,69,76,69,67,84]]++TL++au [[70,82,79,77]]++[aW tn]++au [[74,79,73,78]]) d (max (m) (d+((DL:Nat):Int)))):=hid (aG g tw4 _ d _ [[74,79,73,78]] w4 HW4.out (by simp) (by decide) (by simp[au]<;>omega))
    go_wp2_with fail
    refine HX4.out.mono ?_
    rintro e w5 ⟨rfl,tw5,hw,ht,hf⟩
    have HW5:=hid hw
    obtain⟨ht2,hf2⟩:=aF HT4.out HF4.out ht hf
    have HT5:=hid ht2
    have HF5:=hid hf2
    have HBX5:=hid (HBX4.out.on ht hf)
    have kk5:=ay HBX5.out.at'
    clear hw ht hf ht2 hf2 HX4 kk4
    have HX5:=hid (bX g tw5 (L++au [[83,69,76,69,67,84]]++TL++au [[70,82,79,77]]++[aW tn]++au [[74,79,73,78]]) d (max (m) (d+((DL:Nat):Int))) w5.drew (HW5.out.below (Below.refl _ w5).drew) jn (by simp[au]<;>omega))
    have HS0:Hid (w5.drew.cell? ⟨w.heap.size,7,none⟩=some (.string (aj jn))):=hid ((ay (HBX5.out.below (Below.refl _ w5).drew).at').2.2.2.2.2.2.2.1)
    go_wp2_with fail
    go_region_held3 (fun w'=>w'.cell? ⟨w.heap.size,7,none⟩=some (.string (aj jn))) (first | exact HS0.out | exact HS1.out)
     (first
      | (
       go_at_call 100;refine HX5.out.mono ?_
       rintro e w6 ⟨rfl,tw6,hw,ht,hf⟩
       have HW6:=hid hw
       obtain⟨ht2,hf2⟩:=bM HT5.out HF5.out ht hf
       have HT6:=hid ht2
       have HF6:=hid hf2
       have HBX6:=hid ((HBX5.out.below (Below.refl _ w5).drew).on ht hf)
       have kk6:=ay HBX6.out.at'
       clear hw ht hf ht2 hf2 HX5 kk5
       have HS1:=hid (kk6.2.2.2.2.2.2.2.1))
      | fail)
    clear HS0 HS1
    have HX6:=hid (HO.out w6 tw6 (L++au [[83,69,76,69,67,84]]++TL++au [[70,82,79,77]]++[aW tn]++au [[74,79,73,78]]++[aW jn]) (max (m) (d+((DL:Nat):Int))) HW6.out HF6.out HT6.out (by simp[au]<;>omega) (by omega) (by omega))
    go_wp2_with fail
    refine HX6.out.mono ?_
    rintro e w7 ⟨rfl,tw7,hw,ht,hf⟩
    have HW7:=hid hw
    obtain⟨ht2,hf2⟩:=aF HT6.out HF6.out ht hf
    have HT7:=hid ht2
    have HF7:=hid hf2
    have HBX7:=hid (HBX6.out.on ht hf)
    have kk7:=ay HBX7.out.at'
    clear hw ht hf ht2 hf2 HX6 kk6
    have HX7:=hid (HW.out w7 tw7 (L++au [[83,69,76,69,67,84]]++TL++au [[70,82,79,77]]++[aW tn]++au [[74,79,73,78]]++[aW jn]++TO) (max (max (m) (d+((DL:Nat):Int))) (d+((DO:Nat):Int))) HW7.out HF7.out HT7.out (by simp[au]<;>omega) (by omega) (by omega))
    go_wp2_with fail
    refine HX7.out.mono ?_
    rintro e w8 ⟨rfl,tw8,hw,ht,hf⟩
    have HW8:=hid hw
    obtain⟨ht2,hf2⟩:=aF HT7.out HF7.out ht hf
    have HT8:=hid ht2
    have HF8:=hid hf2
    have HBX8:=hid (HBX7.out.on ht hf)
    have kk8:=ay HBX8.out.at'
    clear hw ht hf ht2 hf2 HX7 kk7
    have HX8:=hid (HG.out w8 tw8 (L++au [[83,69,76,69,67,84]]++TL++au [[70,82,79,77]]++[aW tn]++au [[74,79,73,78]]++[aW jn]++TO++TW) (max (max (max (m) (d+((DL:Nat):Int))) (d+((DO:Nat):Int))) (d+((DW:Nat):Int))) HW8.out HF8.out HT8.out (by simp[au]<;>omega) (by omega) (by omega))
    go_wp2_with fail
    refine HX8.out.mono ?_
    rintro e w9 ⟨rfl,tw9,hw,ht,hf⟩
    have HW9:=hid hw
    obtain⟨ht2,hf2⟩:=aF HT8.out HF8.out ht hf
    have HT9:=hid ht2
    have HF9:=hid hf2
    have HBX9:=hid (HBX8.out.on ht hf)
    have kk9:=ay HBX9.out.at'
    clear hw ht hf ht2 hf2 HX8 kk8
    have HX9:=hid (HD.out w9 tw9 (L++au [[83,69,76,69,67,84]]++TL++au [[70,82,79,77]]++[aW tn]++au [[74,79,73,78]]++[aW jn]++TO++TW++TG) (max (max (max (max (m) (d+((DL:Nat):Int))) (d+((DO:Nat):Int))) (d+((DW:Nat):Int))) (d+((DG:Nat):Int))) HW9.out HF9.out HT9.out (by simp[au]<;>omega) (by omega) (by omega))
    go_wp2_with fail
    refine HX9.out.mono ?_
    rintro e w10 ⟨rfl,tw10,hw,ht,hf⟩
    have HW10:=hid hw
    obtain⟨ht2,hf2⟩:=aF HT9.out HF9.out ht hf
    have HT10:=hid ht2
    have HF10:=hid hf2
    have HBX10:=hid (HBX9.out.on ht hf)
    have kk10:=ay HBX10.out.at'
    clear hw ht hf ht2 hf2 HX9 kk9
    have HX10:Hid (Calls Tryz.prog 98 #[.pointer (some ⟨g,0,none⟩),.slice (some ⟨w10.heap.size,0,none⟩) 1 1] (w10.alloc (.cells #[.string ⟨#[76,73,77,73,84]⟩] 9)) fun e w'=>e = .returned (.tuple #[])∧Wrote g tw10 w10 w' (L++au [[83,69,76,69,67,84]]++TL++au [[70,82,79,77]]++[aW tn]++au [[74,79,73,78]]++[aW jn]++TO++TW++TG++TD++au [[76,73,77,73,84]]) d (max (max (max (max (max (m) (d+((DL:Nat):Int))) (d+((DO:Nat):Int))) (d+((DW:Nat):Int))) (d+((DG:Nat):Int))) (d+((DD:Nat):Int)))):=hid (aG g tw10 _ d _ [[76,73,77,73,84]] w10 HW10.out (by simp) (by decide) (by simp[au]<;>omega))
    go_wp2_with fail
    refine HX10.out.mono ?_
    rintro e w11 ⟨rfl,tw11,hw,ht,hf⟩
    have HW11:=hid hw
    obtain⟨ht2,hf2⟩:=aF HT10.out HF10.out ht hf
    have HT11:=hid ht2
    have HF11:=hid hf2
    have HBX11:=hid (HBX10.out.on ht hf)
    have kk11:=ay HBX11.out.at'
    clear hw ht hf ht2 hf2 HX10 kk10
    have HX11:=hid (je g tw11 (L++au [[83,69,76,69,67,84]]++TL++au [[70,82,79,77]]++[aW tn]++au [[74,79,73,78]]++[aW jn]++TO++TW++TG++TD++au [[76,73,77,73,84]]) d (max (max (max (max (max (m) (d+((DL:Nat):Int))) (d+((DO:Nat):Int))) (d+((DW:Nat):Int))) (d+((DG:Nat):Int))) (d+((DD:Nat):Int))) w11.drew (HW11.out.below (Below.refl _ w11).drew) lim (by simp[au]<;>omega))
    have HS0:Hid (w11.drew.cell? ⟨w.heap.size,13,none⟩=some (.int .i64 lim)):=hid ((ay (HBX11.out.below (Below.refl _ w11).drew).at').2.2.2.2.2.2.2.2.2.2.2.2.2)
    go_wp2_with fail
    go_region_held3 (fun w'=>w'.cell? ⟨w.heap.size,13,none⟩=some (.int .i64 lim)) (first | exact HS0.out | exact HS1.out)
     (first
      | (
       go_at_call 150;refine HX11.out.mono ?_
       rintro e w12 ⟨rfl,tw12,hw,ht,hf⟩
       have HW12:=hid hw
       obtain⟨ht2,hf2⟩:=bM HT11.out HF11.out ht hf
       have HT12:=hid ht2
       have HF12:=hid hf2
       have HBX12:=hid ((HBX11.out.below (Below.refl _ w11).drew).on ht hf)
       have kk12:=ay HBX12.out.at'
       clear hw ht hf ht2 hf2 HX11 kk11
       have HS1:=hid (kk12.2.2.2.2.2.2.2.2.2.2.2.2.2))
      | fail)
    clear HS0 HS1
    have HQ:Hid (Wrote g tb w w12 (L++(aK [83,69,76,69,67,84]::(TL++aK [70,82,79,77]::aW tn::([aK [74,79,73,78],aW jn]++(TO++(TW++(TG++(TD++([]++[aK [76,73,77,73,84],mV lim]))))))))) d (max m (d+((max DL (max DO (max DW (max DG DD))):Nat):Int)))):=hid (by
     have h9:Wrote g tb W w12 (L++au [[83,69,76,69,67,84]]++TL++au [[70,82,79,77]]++[aW tn]++au [[74,79,73,78]]++[aW jn]++TO++TW++TG++TD++au [[76,73,77,73,84]]++[mV lim]) d (max (max (max (max (max (m) (d+((DL:Nat):Int))) (d+((DO:Nat):Int))) (d+((DW:Nat):Int))) (d+((DG:Nat):Int))) (d+((DD:Nat):Int))):=⟨tw12,HW12.out,HT12.out,HF12.out⟩
     have h8:=Wrote.new HB.out h9
     rw[show max (max (max (max (max (m) (d+((DL:Nat):Int))) (d+((DO:Nat):Int))) (d+((DW:Nat):Int))) (d+((DG:Nat):Int))) (d+((DD:Nat):Int))=max m (d+((max DL (max DO (max DW (max DG DD))):Nat):Int)) by omega] at h8
     rw[show L++au [[83,69,76,69,67,84]]++TL++au [[70,82,79,77]]++[aW tn]++au [[74,79,73,78]]++[aW jn]++TO++TW++TG++TD++au [[76,73,77,73,84]]++[mV lim]=L++(aK [83,69,76,69,67,84]::(TL++aK [70,82,79,77]::aW tn::([aK [74,79,73,78],aW jn]++(TO++(TW++(TG++(TD++([]++[aK [76,73,77,73,84],mV lim])))))))) by simp[au]] at h8
     exact h8)
    go_wp2
    exact bodyPost_end (v:=.tuple #[]) (by simp[results,Tryz.results106,go_sem]) rfl ⟨rfl,HQ.out⟩
  |
   true =>
   rw[if_pos rfl] at hL ⊢
   by_cases hl:lim = -1
   ·rw[if_pos hl] at hL ⊢
    simp only[List.length_append,List.length_cons,List.length_nil] at hL
    have hlb:(lim != -1)=false:=by rw[hl];rfl
    clear hl
    go_enter Tryz.func106,Tryz.ntmps106
    have HX0:Hid (Calls Tryz.prog 98 #[.pointer (some ⟨g,0,none⟩),.slice (some ⟨W.heap.size,0,none⟩) 1 1] (W.alloc (.cells #[.string ⟨#[83,69,76,69,67,84]⟩] 9)) fun e w'=>e = .returned (.tuple #[])∧Wrote g tb W w' (L++au [[83,69,76,69,67,84]]) d (m)):=hid (aG g tb _ d _ [[83,69,76,69,67,84]] W HW0.out (by simp) (by decide) (by simp[au]<;>omega))
    go_wp2_with fail
    refine HX0.out.mono ?_
    rintro e w1 ⟨rfl,tw1,hw,ht,hf⟩
    have HW1:=hid hw
    obtain⟨ht2,hf2⟩:=aF HT0.out HF0.out ht hf
    have HT1:=hid ht2
    have HF1:=hid hf2
    have HBX1:=hid (HBX0.out.on ht hf)
    have kk1:=ay HBX1.out.at'
    clear hw ht hf ht2 hf2 HX0 kk0
    have HX1:=hid (HL.out w1 tw1 (L++au [[83,69,76,69,67,84]]) (m) HW1.out HF1.out HT1.out (by simp[au]<;>omega) (by omega) (by omega))
    go_wp2_with fail
    refine HX1.out.mono ?_
    rintro e w2 ⟨rfl,tw2,hw,ht,hf⟩
    have HW2:=hid hw
    obtain⟨ht2,hf2⟩:=aF HT1.out HF1.out ht hf
    have HT2:=hid ht2
    have HF2:=hid hf2
    have HBX2:=hid (HBX1.out.on ht hf)
    have kk2:=ay HBX2.out.at'
    clear hw ht hf ht2 hf2 HX1 kk1
    have HX2:Hid (Calls Tryz.prog 98 #[.pointer (some ⟨g,0,none⟩),.slice (some ⟨w2.heap.size,0,none⟩) 1 1] (w2.alloc (.cells #[.string ⟨#[70,82,79,77]⟩] 9)) fun e w'=>e = .returned (.tuple #[])∧Wrote g tw2 w2 w' (L++au [[83,69,76,69,67,84]]++TL++au [[70,82,79,77]]) d (max (m) (d+((DL:Nat):Int)))):=hid (aG g tw2 _ d _ [[70,82,79,77]] w2 HW2.out (by simp) (by decide) (by simp[au]<;>omega))
    go_wp2_with fail
    refine HX2.out.mono ?_
    rintro e w3 ⟨rfl,tw3,hw,ht,hf⟩
    have HW3:=hid hw
    obtain⟨ht2,hf2⟩:=aF HT2.out HF2.out ht hf
    have HT3:=hid ht2
    have HF3:=hid hf2
    have HBX3:=hid (HBX2.out.on ht hf)
    have kk3:=ay HBX3.out.at'
    clear hw ht hf ht2 hf2 HX2 kk2
    have HX3:=hid (bX g tw3 (L++au [[83,69,76,69,67,84]]++TL++au [[70,82,79,77]]) d (max (m) (d+((DL:Nat):Int))) w3.drew (HW3.out.below (Below.refl _ w3).drew) tn (by simp[au]<;>omega))
    have HS0:Hid (w3.drew.cell? ⟨w.heap.size,1,none⟩=some (.string (aj tn))):=hid ((ay (HBX3.out.below (Below.refl _ w3).drew).at').2.1)
    go_wp2_with fail
    go_region_held3 (fun w'=>w'.cell? ⟨w.heap.size,1,none⟩=some (.string (aj tn))) (first | exact HS0.out | exact HS1.out)
     (first
      | (
       go_at_call 100;refine HX3.out.mono ?_
       rintro e w4 ⟨rfl,tw4,hw,ht,hf⟩
       have HW4:=hid hw
       obtain⟨ht2,hf2⟩:=bM HT3.out HF3.out ht hf
       have HT4:=hid ht2
       have HF4:=hid hf2
       have HBX4:=hid ((HBX3.out.below (Below.refl _ w3).drew).on ht hf)
       have kk4:=ay HBX4.out.at'
       clear hw ht hf ht2 hf2 HX3 kk3
       have HS1:=hid (kk4.2.1))
      | fail)
    clear HS0 HS1
    have HX4:Hid (Calls Tryz.prog 98 #[.pointer (some ⟨g,0,none⟩),.slice (some ⟨w4.heap.size,0,none⟩) 1 1] (w4.alloc (.cells #[.string ⟨#[74,79,73,78]⟩] 9)) fun e w'=>e = .returned (.tuple #[])∧Wrote g tw4 w4 w' (L++au [[83,69,76,69,67,84]]++TL++au [[70,82,79,77]]++[aW tn]++au [[74,79,73,78]]) d (max (m) (d+((DL:Nat):Int)))):=hid (aG g tw4 _ d _ [[74,79,73,78]] w4 HW4.out (by simp) (by decide) (by simp[au]<;>omega))
    go_wp2_with fail
    refine HX4.out.mono ?_
    rintro e w5 ⟨rfl,tw5,hw,ht,hf⟩
    have HW5:=hid hw
    obtain⟨ht2,hf2⟩:=aF HT4.out HF4.out ht hf
    have HT5:=hid ht2
    have HF5:=hid hf2
    have HBX5:=hid (HBX4.out.on ht hf)
    have kk5:=ay HBX5.out.at'
    clear hw ht hf ht2 hf2 HX4 kk4
    have HX5:=hid (bX g tw5 (L++au [[83,69,76,69,67,84]]++TL++au [[70,82,79,77]]++[aW tn]++au [[74,79,73,78]]) d (max (m) (d+((DL:Nat):Int))) w5.drew (HW5.out.below (Below.refl _ w5).drew) jn (by simp[au]<;>omega))
    have HS0:Hid (w5.drew.cell? ⟨w.heap.size,7,none⟩=some (.string (aj jn))):=hid ((ay (HBX5.out.below (Below.refl _ w5).drew).at').2.2.2.2.2.2.2.1)
    go_wp2_with fail
    go_region_held3 (fun w'=>w'.cell? ⟨w.heap.size,7,none⟩=some (.string (aj jn))) (first | exact HS0.out | exact HS1.out)
     (first
      | (
       go_at_call 100;refine HX5.out.mono ?_
       rintro e w6 ⟨rfl,tw6,hw,ht,hf⟩
       have HW6:=hid hw
       obtain⟨ht2,hf2⟩:=bM HT5.out HF5.out ht hf
       have HT6:=hid ht2
       have HF6:=hid hf2
       have HBX6:=hid ((HBX5.out.below (Below.refl _ w5).drew).on ht hf)
       have kk6:=ay HBX6.out.at'
       clear hw ht hf ht2 hf2 HX5 kk5
       have HS1:=hid (kk6.2.2.2.2.2.2.2.1))
      | fail)
    clear HS0 HS1
    have HX6:=hid (HO.out w6 tw6 (L++au [[83,69,76,69,67,84]]++TL++au [[70,82,79,77]]++[aW tn]++au [[74,79,73,78]]++[aW jn]) (max (m) (d+((DL:Nat):Int))) HW6.out HF6.out HT6.out (by simp[au]<;>omega) (by omega) (by omega))
    go_wp2_with fail
    refine HX6.out.mono ?_
    rintro e w7 ⟨rfl,tw7,hw,ht,hf⟩
    have HW7:=hid hw
    obtain⟨ht2,hf2⟩:=aF HT6.out HF6.out ht hf
    have HT7:=hid ht2
    have HF7:=hid hf2
    have HBX7:=hid (HBX6.out.on ht hf)
    have kk7:=ay HBX7.out.at'
    clear hw ht hf ht2 hf2 HX6 kk6
    have HX7:=hid (HW.out w7 tw7 (L++au [[83,69,76,69,67,84]]++TL++au [[70,82,79,77]]++[aW tn]++au [[74,79,73,78]]++[aW jn]++TO) (max (max (m) (d+((DL:Nat):Int))) (d+((DO:Nat):Int))) HW7.out HF7.out HT7.out (by simp[au]<;>omega) (by omega) (by omega))
    go_wp2_with fail
    refine HX7.out.mono ?_
    rintro e w8 ⟨rfl,tw8,hw,ht,hf⟩
    have HW8:=hid hw
    obtain⟨ht2,hf2⟩:=aF HT7.out HF7.out ht hf
    have HT8:=hid ht2
    have HF8:=hid hf2
    have HBX8:=hid (HBX7.out.on ht hf)
    have kk8:=ay HBX8.out.at'
    clear hw ht hf ht2 hf2 HX7 kk7
    have HX8:=hid (HG.out w8 tw8 (L++au [[83,69,76,69,67,84]]++TL++au [[70,82,79,77]]++[aW tn]++au [[74,79,73,78]]++[aW jn]++TO++TW) (max (max (max (m) (d+((DL:Nat):Int))) (d+((DO:Nat):Int))) (d+((DW:Nat):Int))) HW8.out HF8.out HT8.out (by simp[au]<;>omega) (by omega) (by omega))
    go_wp2_with fail
    refine HX8.out.mono ?_
    rintro e w9 ⟨rfl,tw9,hw,ht,hf⟩
    have HW9:=hid hw
    obtain⟨ht2,hf2⟩:=aF HT8.out HF8.out ht hf
    have HT9:=hid ht2
    have HF9:=hid hf2
    have HBX9:=hid (HBX8.out.on ht hf)
    have kk9:=ay HBX9.out.at'
    clear hw ht hf ht2 hf2 HX8 kk8
    have HX9:=hid (HD.out w9 tw9 (L++au [[83,69,76,69,67,84]]++TL++au [[70,82,79,77]]++[aW tn]++au [[74,79,73,78]]++[aW jn]++TO++TW++TG) (max (max (max (max (m) (d+((DL:Nat):Int))) (d+((DO:Nat):Int))) (d+((DW:Nat):Int))) (d+((DG:Nat):Int))) HW9.out HF9.out HT9.out (by simp[au]<;>omega) (by omega) (by omega))
    go_wp2_with fail
    refine HX9.out.mono ?_
    rintro e w10 ⟨rfl,tw10,hw,ht,hf⟩
    have HW10:=hid hw
    obtain⟨ht2,hf2⟩:=aF HT9.out HF9.out ht hf
    have HT10:=hid ht2
    have HF10:=hid hf2
    have HBX10:=hid (HBX9.out.on ht hf)
    have kk10:=ay HBX10.out.at'
    clear hw ht hf ht2 hf2 HX9 kk9
    have HX10:Hid (Calls Tryz.prog 98 #[.pointer (some ⟨g,0,none⟩),.slice (some ⟨w10.heap.size,0,none⟩) 1 1] (w10.alloc (.cells #[.string ⟨#[68,69,83,67]⟩] 9)) fun e w'=>e = .returned (.tuple #[])∧Wrote g tw10 w10 w' (L++au [[83,69,76,69,67,84]]++TL++au [[70,82,79,77]]++[aW tn]++au [[74,79,73,78]]++[aW jn]++TO++TW++TG++TD++au [[68,69,83,67]]) d (max (max (max (max (max (m) (d+((DL:Nat):Int))) (d+((DO:Nat):Int))) (d+((DW:Nat):Int))) (d+((DG:Nat):Int))) (d+((DD:Nat):Int)))):=hid (aG g tw10 _ d _ [[68,69,83,67]] w10 HW10.out (by simp) (by decide) (by simp[au]<;>omega))
    go_wp2_with fail
    refine HX10.out.mono ?_
    rintro e w11 ⟨rfl,tw11,hw,ht,hf⟩
    have HW11:=hid hw
    obtain⟨ht2,hf2⟩:=aF HT10.out HF10.out ht hf
    have HT11:=hid ht2
    have HF11:=hid hf2
    have HBX11:=hid (HBX10.out.on ht hf)
    have kk11:=ay HBX11.out.at'
    clear hw ht hf ht2 hf2 HX10 kk10
    have HQ:Hid (Wrote g tb w w11 (L++(aK [83,69,76,69,67,84]::(TL++aK [70,82,79,77]::aW tn::([aK [74,79,73,78],aW jn]++(TO++(TW++(TG++(TD++([aK [68,69,83,67]]++[]))))))))) d (max m (d+((max DL (max DO (max DW (max DG DD))):Nat):Int)))):=hid (by
     have h9:Wrote g tb W w11 (L++au [[83,69,76,69,67,84]]++TL++au [[70,82,79,77]]++[aW tn]++au [[74,79,73,78]]++[aW jn]++TO++TW++TG++TD++au [[68,69,83,67]]) d (max (max (max (max (max (m) (d+((DL:Nat):Int))) (d+((DO:Nat):Int))) (d+((DW:Nat):Int))) (d+((DG:Nat):Int))) (d+((DD:Nat):Int))):=⟨tw11,HW11.out,HT11.out,HF11.out⟩
     have h8:=Wrote.new HB.out h9
     rw[show max (max (max (max (max (m) (d+((DL:Nat):Int))) (d+((DO:Nat):Int))) (d+((DW:Nat):Int))) (d+((DG:Nat):Int))) (d+((DD:Nat):Int))=max m (d+((max DL (max DO (max DW (max DG DD))):Nat):Int)) by omega] at h8
     rw[show L++au [[83,69,76,69,67,84]]++TL++au [[70,82,79,77]]++[aW tn]++au [[74,79,73,78]]++[aW jn]++TO++TW++TG++TD++au [[68,69,83,67]]=L++(aK [83,69,76,69,67,84]::(TL++aK [70,82,79,77]::aW tn::([aK [74,79,73,78],aW jn]++(TO++(TW++(TG++(TD++([aK [68,69,83,67]]++[])))))))) by simp[au]] at h8
     exact h8)
    go_wp2
    exact bodyPost_end (v:=.tuple #[]) (by simp[results,Tryz.results106,go_sem]) rfl ⟨rfl,HQ.out⟩
   ·rw[if_neg hl] at hL ⊢
    simp only[List.length_append,List.length_cons,List.length_nil] at hL
    have hlb:(lim != -1)=true:=by rw[bne_iff_ne];exact hl
    clear hl
    go_enter Tryz.func106,Tryz.ntmps106
    have HX0:Hid (Calls Tryz.prog 98 #[.pointer (some ⟨g,0,none⟩),.slice (some ⟨W.heap.size,0,none⟩) 1 1] (W.alloc (.cells #[.string ⟨#[83,69,76,69,67,84]⟩] 9)) fun e w'=>e = .returned (.tuple #[])∧Wrote g tb W w' (L++au [[83,69,76,69,67,84]]) d (m)):=hid (aG g tb _ d _ [[83,69,76,69,67,84]] W HW0.out (by simp) (by decide) (by simp[au]<;>omega))
    go_wp2_with fail
    refine HX0.out.mono ?_
    rintro e w1 ⟨rfl,tw1,hw,ht,hf⟩
    have HW1:=hid hw
    obtain⟨ht2,hf2⟩:=aF HT0.out HF0.out ht hf
    have HT1:=hid ht2
    have HF1:=hid hf2
    have HBX1:=hid (HBX0.out.on ht hf)
    have kk1:=ay HBX1.out.at'
    clear hw ht hf ht2 hf2 HX0 kk0
    have HX1:=hid (HL.out w1 tw1 (L++au [[83,69,76,69,67,84]]) (m) HW1.out HF1.out HT1.out (by simp[au]<;>omega) (by omega) (by omega))
    go_wp2_with fail
    refine HX1.out.mono ?_
    rintro e w2 ⟨rfl,tw2,hw,ht,hf⟩
    have HW2:=hid hw
    obtain⟨ht2,hf2⟩:=aF HT1.out HF1.out ht hf
    have HT2:=hid ht2
    have HF2:=hid hf2
    have HBX2:=hid (HBX1.out.on ht hf)
    have kk2:=ay HBX2.out.at'
    clear hw ht hf ht2 hf2 HX1 kk1
    have HX2:Hid (Calls Tryz.prog 98 #[.pointer (some ⟨g,0,none⟩),.slice (some ⟨w2.heap.size,0,none⟩) 1 1] (w2.alloc (.cells #[.string ⟨#[70,82,79,77]⟩] 9)) fun e w'=>e = .returned (.tuple #[])∧Wrote g tw2 w2 w' (L++au [[83,69,76,69,67,84]]++TL++au [[70,82,79,77]]) d (max (m) (d+((DL:Nat):Int)))):=hid (aG g tw2 _ d _ [[70,82,79,77]] w2 HW2.out (by simp) (by decide) (by simp[au]<;>omega))
    go_wp2_with fail
    refine HX2.out.mono ?_
    rintro e w3 ⟨rfl,tw3,hw,ht,hf⟩
    have HW3:=hid hw
    obtain⟨ht2,hf2⟩:=aF HT2.out HF2.out ht hf
    have HT3:=hid ht2
    have HF3:=hid hf2
    have HBX3:=hid (HBX2.out.on ht hf)
    have kk3:=ay HBX3.out.at'
    clear hw ht hf ht2 hf2 HX2 kk2
    have HX3:=hid (bX g tw3 (L++au [[83,69,76,69,67,84]]++TL++au [[70,82,79,77]]) d (max (m) (d+((DL:Nat):Int))) w3.drew (HW3.out.below (Below.refl _ w3).drew) tn (by simp[au]<;>omega))
    have HS0:Hid (w3.drew.cell? ⟨w.heap.size,1,none⟩=some (.string (aj tn))):=hid ((ay (HBX3.out.below (Below.refl _ w3).drew).at').2.1)
    go_wp2_with fail
    go_region_held3 (fun w'=>w'.cell? ⟨w.heap.size,1,none⟩=some (.string (aj tn))) (first | exact HS0.out | exact HS1.out)
     (first
      | (
       go_at_call 100;refine HX3.out.mono ?_
       rintro e w4 ⟨rfl,tw4,hw,ht,hf⟩
       have HW4:=hid hw
       obtain⟨ht2,hf2⟩:=bM HT3.out HF3.out ht hf
       have HT4:=hid ht2
       have HF4:=hid hf2
       have HBX4:=hid ((HBX3.out.below (Below.refl _ w3).drew).on ht hf)
       have kk4:=ay HBX4.out.at'
       clear hw ht hf ht2 hf2 HX3 kk3
       have HS1:=hid (kk4.2.1))
      | fail)
    clear HS0 HS1
    have HX4:Hid (Calls Tryz.prog 98 #[.pointer (some ⟨g,0,none⟩),.slice (some ⟨w4.heap.size,0,none⟩) 1 1] (w4.alloc (.cells #[.string ⟨#[74,79,73,78]⟩] 9)) fun e w'=>e = .returned (.tuple #[])∧Wrote g tw4 w4 w' (L++au [[83,69,76,69,67,84]]++TL++au [[70,82,79,77]]++[aW tn]++au [[74,79,73,78]]) d (max (m) (d+((DL:Nat):Int)))):=hid (aG g tw4 _ d _ [[74,79,73,78]] w4 HW4.out (by simp) (by decide) (by simp[au]<;>omega))
    go_wp2_with fail
    refine HX4.out.mono ?_
    rintro e w5 ⟨rfl,tw5,hw,ht,hf⟩
    have HW5:=hid hw
    obtain⟨ht2,hf2⟩:=aF HT4.out HF4.out ht hf
    have HT5:=hid ht2
    have HF5:=hid hf2
    have HBX5:=hid (HBX4.out.on ht hf)
    have kk5:=ay HBX5.out.at'
    clear hw ht hf ht2 hf2 HX4 kk4
    have HX5:=hid (bX g tw5 (L++au [[83,69,76,69,67,84]]++TL++au [[70,82,79,77]]++[aW tn]++au [[74,79,73,78]]) d (max (m) (d+((DL:Nat):Int))) w5.drew (HW5.out.below (Below.refl _ w5).drew) jn (by simp[au]<;>omega))
    have HS0:Hid (w5.drew.cell? ⟨w.heap.size,7,none⟩=some (.string (aj jn))):=hid ((ay (HBX5.out.below (Below.refl _ w5).drew).at').2.2.2.2.2.2.2.1)
    go_wp2_with fail
    go_region_held3 (fun w'=>w'.cell? ⟨w.heap.size,7,none⟩=some (.string (aj jn))) (first | exact HS0.out | exact HS1.out)
     (first
      | (
       go_at_call 100;refine HX5.out.mono ?_
       rintro e w6 ⟨rfl,tw6,hw,ht,hf⟩
       have HW6:=hid hw
       obtain⟨ht2,hf2⟩:=bM HT5.out HF5.out ht hf
       have HT6:=hid ht2
       have HF6:=hid hf2
       have HBX6:=hid ((HBX5.out.below (Below.refl _ w5).drew).on ht hf)
       have kk6:=ay HBX6.out.at'
       clear hw ht hf ht2 hf2 HX5 kk5
       have HS1:=hid (kk6.2.2.2.2.2.2.2.1))
      | fail)
    clear HS0 HS1
    have HX6:=hid (HO.out w6 tw6 (L++au [[83,69,76,69,67,84]]++TL++au [[70,82,79,77]]++[aW tn]++au [[74,79,73,78]]++[aW jn]) (max (m) (d+((DL:Nat):Int))) HW6.out HF6.out HT6.out (by simp[au]<;>omega) (by omega) (by omega))
    go_wp2_with fail
    refine HX6.out.mono ?_
    rintro e w7 ⟨rfl,tw7,hw,ht,hf⟩
    have HW7:=hid hw
    obtain⟨ht2,hf2⟩:=aF HT6.out HF6.out ht hf
    have HT7:=hid ht2
    have HF7:=hid hf2
    have HBX7:=hid (HBX6.out.on ht hf)
    have kk7:=ay HBX7.out.at'
    clear hw ht hf ht2 hf2 HX6 kk6
    have HX7:=hid (HW.out w7 tw7 (L++au [[83,69,76,69,67,84]]++TL++au [[70,82,79,77]]++[aW tn]++au [[74,79,73,78]]++[aW jn]++TO) (max (max (m) (d+((DL:Nat):Int))) (d+((DO:Nat):Int))) HW7.out HF7.out HT7.out (by simp[au]<;>omega) (by omega) (by omega))
    go_wp2_with fail
    refine HX7.out.mono ?_
    rintro e w8 ⟨rfl,tw8,hw,ht,hf⟩
    have HW8:=hid hw
    obtain⟨ht2,hf2⟩:=aF HT7.out HF7.out ht hf
    have HT8:=hid ht2
    have HF8:=hid hf2
    have HBX8:=hid (HBX7.out.on ht hf)
    have kk8:=ay HBX8.out.at'
    clear hw ht hf ht2 hf2 HX7 kk7
    have HX8:=hid (HG.out w8 tw8 (L++au [[83,69,76,69,67,84]]++TL++au [[70,82,79,77]]++[aW tn]++au [[74,79,73,78]]++[aW jn]++TO++TW) (max (max (max (m) (d+((DL:Nat):Int))) (d+((DO:Nat):Int))) (d+((DW:Nat):Int))) HW8.out HF8.out HT8.out (by simp[au]<;>omega) (by omega) (by omega))
    go_wp2_with fail
    refine HX8.out.mono ?_
    rintro e w9 ⟨rfl,tw9,hw,ht,hf⟩
    have HW9:=hid hw
    obtain⟨ht2,hf2⟩:=aF HT8.out HF8.out ht hf
    have HT9:=hid ht2
    have HF9:=hid hf2
    have HBX9:=hid (HBX8.out.on ht hf)
    have kk9:=ay HBX9.out.at'
    clear hw ht hf ht2 hf2 HX8 kk8
    have HX9:=hid (HD.out w9 tw9 (L++au [[83,69,76,69,67,84]]++TL++au [[70,82,79,77]]++[aW tn]++au [[74,79,73,78]]++[aW jn]++TO++TW++TG) (max (max (max (max (m) (d+((DL:Nat):Int))) (d+((DO:Nat):Int))) (d+((DW:Nat):Int))) (d+((DG:Nat):Int))) HW9.out HF9.out HT9.out (by simp[au]<;>omega) (by omega) (by omega))
    go_wp2_with fail
    refine HX9.out.mono ?_
    rintro e w10 ⟨rfl,tw10,hw,ht,hf⟩
    have HW10:=hid hw
    obtain⟨ht2,hf2⟩:=aF HT9.out HF9.out ht hf
    have HT10:=hid ht2
    have HF10:=hid hf2
    have HBX10:=hid (HBX9.out.on ht hf)
    have kk10:=ay HBX10.out.at'
    clear hw ht hf ht2 hf2 HX9 kk9
    have HX10:Hid (Calls Tryz.prog 98 #[.pointer (some ⟨g,0,none⟩),.slice (some ⟨w10.heap.size,0,none⟩) 1 1] (w10.alloc (.cells #[.string ⟨#[68,69,83,67]⟩] 9)) fun e w'=>e = .returned (.tuple #[])∧Wrote g tw10 w10 w' (L++au [[83,69,76,69,67,84]]++TL++au [[70,82,79,77]]++[aW tn]++au [[74,79,73,78]]++[aW jn]++TO++TW++TG++TD++au [[68,69,83,67]]) d (max (max (max (max (max (m) (d+((DL:Nat):Int))) (d+((DO:Nat):Int))) (d+((DW:Nat):Int))) (d+((DG:Nat):Int))) (d+((DD:Nat):Int)))):=hid (aG g tw10 _ d _ [[68,69,83,67]] w10 HW10.out (by simp) (by decide) (by simp[au]<;>omega))
    go_wp2_with fail
    refine HX10.out.mono ?_
    rintro e w11 ⟨rfl,tw11,hw,ht,hf⟩
    have HW11:=hid hw
    obtain⟨ht2,hf2⟩:=aF HT10.out HF10.out ht hf
    have HT11:=hid ht2
    have HF11:=hid hf2
    have HBX11:=hid (HBX10.out.on ht hf)
    have kk11:=ay HBX11.out.at'
    clear hw ht hf ht2 hf2 HX10 kk10
    have HX11:Hid (Calls Tryz.prog 98 #[.pointer (some ⟨g,0,none⟩),.slice (some ⟨w11.heap.size,0,none⟩) 1 1] (w11.alloc (.cells #[.string ⟨#[76,73,77,73,84]⟩] 9)) fun e w'=>e = .returned (.tuple #[])∧Wrote g tw11 w11 w' (L++au [[83,69,76,69,67,84]]++TL++au [[70,82,79,77]]++[aW tn]++au [[74,79,73,78]]++[aW jn]++TO++TW++TG++TD++au [[68,69,83,67]]++au [[76,73,77,73,84]]) d (max (max (max (max (max (m) (d+((DL:Nat):Int))) (d+((DO:Nat):Int))) (d+((DW:Nat):Int))) (d+((DG:Nat):Int))) (d+((DD:Nat):Int)))):=hid (aG g tw11 _ d _ [[76,73,77,73,84]] w11 HW11.out (by simp) (by decide) (by simp[au]<;>omega))
    go_wp2_with fail
    refine HX11.out.mono ?_
    rintro e w12 ⟨rfl,tw12,hw,ht,hf⟩
    have HW12:=hid hw
    obtain⟨ht2,hf2⟩:=aF HT11.out HF11.out ht hf
    have HT12:=hid ht2
    have HF12:=hid hf2
    have HBX12:=hid (HBX11.out.on ht hf)
    have kk12:=ay HBX12.out.at'
    clear hw ht hf ht2 hf2 HX11 kk11
    have HX12:=hid (je g tw12 (L++au [[83,69,76,69,67,84]]++TL++au [[70,82,79,77]]++[aW tn]++au [[74,79,73,78]]++[aW jn]++TO++TW++TG++TD++au [[68,69,83,67]]++au [[76,73,77,73,84]]) d (max (max (max (max (max (m) (d+((DL:Nat):Int))) (d+((DO:Nat):Int))) (d+((DW:Nat):Int))) (d+((DG:Nat):Int))) (d+((DD:Nat):Int))) w12.drew (HW12.out.below (Below.refl _ w12).drew) lim (by simp[au]<;>omega))
    have HS0:Hid (w12.drew.cell? ⟨w.heap.size,13,none⟩=some (.int .i64 lim)):=hid ((ay (HBX12.out.below (Below.refl _ w12).drew).at').2.2.2.2.2.2.2.2.2.2.2.2.2)
    go_wp2_with fail
    go_region_held3 (fun w'=>w'.cell? ⟨w.heap.size,13,none⟩=some (.int .i64 lim)) (first | exact HS0.out | exact HS1.out)
     (first
      | (
       go_at_call 150;refine HX12.out.mono ?_
       rintro e w13 ⟨rfl,tw13,hw,ht,hf⟩
       have HW13:=hid hw
       obtain⟨ht2,hf2⟩:=bM HT12.out HF12.out ht hf
       have HT13:=hid ht2
       have HF13:=hid hf2
       have HBX13:=hid ((HBX12.out.below (Below.refl _ w12).drew).on ht hf)
       have kk13:=ay HBX13.out.at'
       clear hw ht hf ht2 hf2 HX12 kk12
       have HS1:=hid (kk13.2.2.2.2.2.2.2.2.2.2.2.2.2))
      | fail)
    clear HS0 HS1
    have HQ:Hid (Wrote g tb w w13 (L++(aK [83,69,76,69,67,84]::(TL++aK [70,82,79,77]::aW tn::([aK [74,79,73,78],aW jn]++(TO++(TW++(TG++(TD++([aK [68,69,83,67]]++[aK [76,73,77,73,84],mV lim]))))))))) d (max m (d+((max DL (max DO (max DW (max DG DD))):Nat):Int)))):=hid (by
     have h9:Wrote g tb W w13 (L++au [[83,69,76,69,67,84]]++TL++au [[70,82,79,77]]++[aW tn]++au [[74,79,73,78]]++[aW jn]++TO++TW++TG++TD++au [[68,69,83,67]]++au [[76,73,77,73,84]]++[mV lim]) d (max (max (max (max (max (m) (d+((DL:Nat):Int))) (d+((DO:Nat):Int))) (d+((DW:Nat):Int))) (d+((DG:Nat):Int))) (d+((DD:Nat):Int))):=⟨tw13,HW13.out,HT13.out,HF13.out⟩
     have h8:=Wrote.new HB.out h9
     rw[show max (max (max (max (max (m) (d+((DL:Nat):Int))) (d+((DO:Nat):Int))) (d+((DW:Nat):Int))) (d+((DG:Nat):Int))) (d+((DD:Nat):Int))=max m (d+((max DL (max DO (max DW (max DG DD))):Nat):Int)) by omega] at h8
     rw[show L++au [[83,69,76,69,67,84]]++TL++au [[70,82,79,77]]++[aW tn]++au [[74,79,73,78]]++[aW jn]++TO++TW++TG++TD++au [[68,69,83,67]]++au [[76,73,77,73,84]]++[mV lim]=L++(aK [83,69,76,69,67,84]::(TL++aK [70,82,79,77]::aW tn::([aK [74,79,73,78],aW jn]++(TO++(TW++(TG++(TD++([aK [68,69,83,67]]++[aK [76,73,77,73,84],mV lim])))))))) by simp[au]] at h8
     exact h8)
    go_wp2
    exact bodyPost_end (v:=.tuple #[]) (by simp[results,Tryz.results106,go_sem]) rfl ⟨rfl,HQ.out⟩
end Go.Proofs.YtfeglkleoijlaaaGreatDoor
