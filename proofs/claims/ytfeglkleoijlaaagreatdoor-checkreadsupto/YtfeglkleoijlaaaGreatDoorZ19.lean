/- Packed for the hand-in: WStmD -/
import Derived.Test.YtfeglkleoijlaaaGreatDoorZ18
import Derived.Deep.RegionHeld3
namespace Go.Proofs.YtfeglkleoijlaaaGreatDoor
open Go.RowKit Go.Shelf
set_option linter.unusedSimpArgs false
set_option linter.unusedVariables false
set_option maxRecDepth 20000
set_option maxHeartbeats 8000000
theorem o8 {s:St} (h:aZ s=true):s.k=1∨s.k=2∨s.k=3∨s.k=4∨s.k=5∨s.k=6:=by
 unfold aZ iT at h
 simp only[Bool.and_eq_true] at h
 have h1:=h.1
 by_cases k1:s.k=1
 ·exact .inl k1
 ·by_cases k2:s.k=2
  ·exact .inr (.inl k2)
  ·by_cases k3:s.k=3
   ·exact .inr (.inr (.inl k3))
   ·by_cases k4:s.k=4
    ·exact .inr (.inr (.inr (.inl k4)))
    ·by_cases k5:s.k=5
     ·exact .inr (.inr (.inr (.inr (.inl k5))))
     ·by_cases k6:s.k=6
      ·exact .inr (.inr (.inr (.inr (.inr k6))))
      ·rw[if_neg k1,if_neg k2,if_neg k3,if_neg k4,if_neg k5,if_neg k6] at h1;cases h1
theorem vW (x:St) (hr:aZ x=true) (cs:List Value) (g:Nat) (tb:Option Nat) (L:List Tk) (d m:Int) (w:World) (h:bJ w g tb L d m) (hx:eZ (fun b=>b<g) w x cs) (hL:L.length+(jF x).length≤1000000000) (h0:0≤d) (hdm:d≤m) (hm:m≤1000000000) (hd:d+(mR x:Nat)≤1000000000) :
  Calls Tryz.prog 49 #[.pointer (some ⟨g,0,none⟩),.agg cs.toArray] w fun e w'=>e = .returned (.tuple #[])∧Wrote g tb w w' (L++jF x) d (max m (d+(mR x:Nat))):=by
 obtain⟨a1,a2,a3,a4,a5,a6,a7,a8,n1,n2,n3,n4,n5,n6,n7,n8,c1,c2,c3,c4,c5,c6,c7,c8,rfl,x1,x2,x3,x4,x5,x6,x7,x8⟩:=hx
 have hkk:=o8 hr
 have hkB:iT x=true:=by unfold aZ at hr;simp only[Bool.and_eq_true] at hr;exact hr.1
 unfold iT at hkB
 unfold jF at hL ⊢
 unfold mR at hd ⊢
 obtain⟨k,tn,cols,prim,rows,sets,items,jn,on,wh,gr,od,desc,lim⟩:=x
 dsimp only at *
 clear hr
 rcases hkk with rfl | rfl | rfl | rfl | rfl | rfl
 ·simp only[if_true] at hkB hL
  simp only[Bool.and_eq_true] at hkB
  have e0:max m (d+((mR ⟨1,tn,cols,prim,rows,sets,items,jn,on,wh,gr,od,desc,lim⟩:Nat):Int))=m:=by show max m (d+((0:Nat):Int))=m;omega
  unfold mR at e0
  dsimp only at e0
  rw[e0]
  clear e0 hd
  simp only[if_true]
  have hL11:L.length+(aS (aK [44]) (cols.map iN)).length+11≤1000000000:=by simp[Hy,au] at hL;omega
  obtain⟨W,hW,hbW,hzW,hcW⟩:=aL w (.cells #[.int .i64 1,.string (aj tn),.slice a1 n1 c1,.string (aj prim),.slice a2 n2 c2,.slice a3 n3 c3,.slice a4 n4 c4,.string (aj jn),.slice a5 n5 c5,.slice a6 n6 c6,.slice a7 n7 c7,.slice a8 n8 c8,.bool desc,.int .i64 lim] 29)
  have kk0:=ay hcW
  have HB:=hid hbW
  have HW0:=hid (h.below hbW)
  have HBX0:=hid (dn.mk' h hcW (Nat.le_refl _))
  have HT0:Hid (∀k,tb=some k→tb=some k∨W.heap.size≤k):=hid (fun k hk=>.inl hk)
  have HF0:Hid (cB g tb W W):=hid (aA.refl _ _)
  have HX0:=hid (wm cols hkB.1 tn prim jn desc lim a1 a2 a3 a4 a5 a6 a7 a8 n1 n2 n3 n4 n5 n6 n7 n8 c1 c2 c3 c4 c5 c6 c7 c8 g tb L d m W HW0.out (x1.to (by decide) (R:=fun _=>False) (T:=fun b=>b<g) (aA.aC hbW) (fun b hb _=>⟨id,hb⟩) (fun _ _ e=>e)) hL11 h0 hdm hm)
  show Calls Tryz.prog 49 _ w fun e w'=>_∧Wrote g tb w w' (L++(au [[67,82,69,65,84,69],[84,65,66,76,69]]++aW tn::aK [40]::(aS (aK [44]) (cols.map iN)++(au [[44],[80,82,73,77,65,82,89],[75,69,89],[40]]++aW prim::au [[41],[41]])))) d m
  generalize (au [[67,82,69,65,84,69],[84,65,66,76,69]]++aW tn::aK [40]::(aS (aK [44]) (cols.map iN)++(au [[44],[80,82,73,77,65,82,89],[75,69,89],[40]]++aW prim::au [[41],[41]])))=T at HX0 ⊢
  clear x1 x2 x3 x4 x5 x6 x7 x8 hbW hcW h hkB hL hL11
  go_enter Tryz.func49,Tryz.ntmps49
  go_wp2_with fail
  refine HX0.out.mono ?_
  rintro e w1 ⟨rfl,h1⟩
  have HQ:=hid (Wrote.new HB.out h1)
  clear h1 HX0
  go_wp2
  exact bodyPost_end (v:=.tuple #[]) (by simp[results,Tryz.results49,go_sem]) rfl ⟨rfl,HQ.out⟩
 ·simp only[show ¬((2:Int)=1) by decide,show ¬((2:Int)=3) by decide,show ¬((2:Int)=4) by decide,show ¬((2:Int)=5) by decide,show ¬((2:Int)=6) by decide,if_true,if_false] at hkB hL hd ⊢
  have hL:L.length+3≤1000000000:=by simpa [au] using hL
  have e0:max m (d+((0:Nat):Int))=m:=by omega
  rw[e0]
  clear e0 hd hkB
  obtain⟨W,hW,hbW,hzW,hcW⟩:=aL w (.cells #[.int .i64 2,.string (aj tn),.slice a1 n1 c1,.string (aj prim),.slice a2 n2 c2,.slice a3 n3 c3,.slice a4 n4 c4,.string (aj jn),.slice a5 n5 c5,.slice a6 n6 c6,.slice a7 n7 c7,.slice a8 n8 c8,.bool desc,.int .i64 lim] 29)
  have kk0:=ay hcW
  have HB:=hid hbW
  have HW0:=hid (h.below hbW)
  have HBX0:=hid (dn.mk' h hcW (Nat.le_refl _))
  have HT0:Hid (∀k,tb=some k→tb=some k∨W.heap.size≤k):=hid (fun k hk=>.inl hk)
  have HF0:Hid (cB g tb W W):=hid (aA.refl _ _)
  clear x1 x2 x3 x4 x5 x6 x7 x8 hbW hcW h
  go_enter Tryz.func49,Tryz.ntmps49
  have HX0:Hid (Calls Tryz.prog 98 #[.pointer (some ⟨g,0,none⟩),.slice (some ⟨W.heap.size,0,none⟩) 2 2] (W.alloc (.cells #[.string ⟨#[68,82,79,80]⟩,.string ⟨#[84,65,66,76,69]⟩] 9)) fun e w'=>e = .returned (.tuple #[])∧Wrote g tb W w' (L++au [[68,82,79,80],[84,65,66,76,69]]) d (m)):=hid (aG g tb _ d _ [[68,82,79,80],[84,65,66,76,69]] W HW0.out (by simp) (by decide) (by simp[au]<;>omega))
  go_wp2_with fail
  refine HX0.out.mono ?_
  rintro e w1 ⟨rfl,tw1,hw,ht,hf⟩
  have HW1:=hid hw
  obtain⟨ht2,hf2⟩:=aF HT0.out HF0.out ht hf
  have HT1:=hid ht2
  have HF1:=hid hf2
  have HBX1:=hid (HBX0.out.on ht hf)
  have kk1:=ay HBX1.out.at'
  clear hw ht hf ht2 hf2 HX0 kk0
  have HX1:=hid (bX g tw1 (L++au [[68,82,79,80],[84,65,66,76,69]]) d (m) w1.drew (HW1.out.below (Below.refl _ w1).drew) tn (by simp[au]<;>omega))
  have HS0:Hid (w1.drew.cell? ⟨w.heap.size,1,none⟩=some (.string (aj tn))):=hid ((ay (HBX1.out.below (Below.refl _ w1).drew).at').2.1)
  go_wp2_with fail
  go_region_held3 (fun w'=>w'.cell? ⟨w.heap.size,1,none⟩=some (.string (aj tn))) (first | exact HS0.out | exact HS1.out)
   (first
    | (
     go_at_call 100;refine HX1.out.mono ?_
     rintro e w2 ⟨rfl,tw2,hw,ht,hf⟩
     have HW2:=hid hw
     obtain⟨ht2,hf2⟩:=bM HT1.out HF1.out ht hf
     have HT2:=hid ht2
     have HF2:=hid hf2
     have HBX2:=hid ((HBX1.out.below (Below.refl _ w1).drew).on ht hf)
     have kk2:=ay HBX2.out.at'
     clear hw ht hf ht2 hf2 HX1 kk1
     have HS1:=hid (kk2.2.1))
    | fail)
  clear HS0 HS1
  have HQ:Hid (Wrote g tb w w2 (L++(au [[68,82,79,80],[84,65,66,76,69]]++[aW tn])) d (m)):=hid (by
   have h9:Wrote g tb W w2 (L++au [[68,82,79,80],[84,65,66,76,69]]++[aW tn]) d (m):=⟨tw2,HW2.out,HT2.out,HF2.out⟩
   have h8:=Wrote.new HB.out h9
   skip
   rw[show L++au [[68,82,79,80],[84,65,66,76,69]]++[aW tn]=L++(au [[68,82,79,80],[84,65,66,76,69]]++[aW tn]) by simp[au]] at h8
   exact h8)
  go_wp2
  exact bodyPost_end (v:=.tuple #[]) (by simp[results,Tryz.results49,go_sem]) rfl ⟨rfl,HQ.out⟩
 ·simp only[show ¬((3:Int)=1) by decide,show ¬((3:Int)=2) by decide,show ¬((3:Int)=4) by decide,show ¬((3:Int)=5) by decide,show ¬((3:Int)=6) by decide,if_true,if_false] at hkB hL hd ⊢
  have hm2:=aU hkB
  have hL:L.length+(aS (aK [44]) (rows.map jA)).length+4≤1000000000:=by simp[au] at hL;omega
  have e0:max m (d+((0:Nat):Int))=m:=by omega
  rw[e0]
  clear e0 hd
  obtain⟨W,hW,hbW,hzW,hcW⟩:=aL w (.cells #[.int .i64 3,.string (aj tn),.slice a1 n1 c1,.string (aj prim),.slice a2 n2 c2,.slice a3 n3 c3,.slice a4 n4 c4,.string (aj jn),.slice a5 n5 c5,.slice a6 n6 c6,.slice a7 n7 c7,.slice a8 n8 c8,.bool desc,.int .i64 lim] 29)
  have kk0:=ay hcW
  have HB:=hid hbW
  have HW0:=hid (h.below hbW)
  have HBX0:=hid (dn.mk' h hcW (Nat.le_refl _))
  have HT0:Hid (∀k,tb=some k→tb=some k∨W.heap.size≤k):=hid (fun k hk=>.inl hk)
  have HF0:Hid (cB g tb W W):=hid (aA.refl _ _)
  have HSL:=hid (x2.to (by decide) (R:=fun _=>False) (T:=fun b=>b<g) (aA.aC hbW) (fun b hb _=>⟨id,hb⟩) (fun _ _ e=>e.to (R:=fun _=>False) (T:=fun b=>b<g) (aA.aC hbW) (fun b hb _=>⟨id,hb⟩)))
  have HL:Hid (∀(V:World) (tb':Option Nat) (L':List Tk) (m':Int),bJ V g tb' L' d m'→cB g tb W V→(∀k,tb'=some k→tb=some k∨W.heap.size≤k)→L'.length+(aS (aK [44]) (rows.map jA)).length≤1000000000→d≤m'→m'≤1000000000→Calls Tryz.prog 101 #[.pointer (some ⟨g,0,none⟩),.string ⟨#[44]⟩,.slice a2 n2 c2,.func (.func 102) #[.pointer (some ⟨g,0,none⟩)] #[]] V fun e w'=>e = .returned (.tuple #[])∧Wrote g tb' V w' (L'++aS (aK [44]) (rows.map jA)) d (max m' (d+((aY (rows.map fun _=>0):Nat):Int)))):=hid (fun V tb' L' m' hV hF hT hl h1 h2=>Ch 102 (enters_of Tryz.func102 (by kernel_rfl) rfl) jA (fun _=>0) [44] (by decide) rows _ g tb' L' d m' V hV (HSL.out.to (by decide) hF (cB.keeps HW0.out hF) (fun _ _ e=>e.to hF (cB.keeps HW0.out hF))) h1 h2 (fun x hx=>by show d+((0:Nat):Int)≤_;omega) hl (hid (fun x hxm U tb2 L2 m2 hU cs hcs hl2 h3 h4=>by obtain⟨aa,nn,cc,rfl,hvs⟩:=hcs;rw[show max m2 (d+((0:Nat):Int))=m2 by omega];exact Du x (hm2 x hxm) aa nn cc g tb2 L2 d m2 U hU hvs hl2 h0 h3 h4)))
  have hD0:=kH rows
  generalize aY (rows.map fun _=>0)=D at HL hD0
  generalize aS (aK [44]) (rows.map jA)=T at HL hL ⊢
  clear x1 x2 x3 x4 x5 x6 x7 x8 hbW hcW h hm2 hkB HSL
  go_enter Tryz.func49,Tryz.ntmps49
  have HX0:Hid (Calls Tryz.prog 98 #[.pointer (some ⟨g,0,none⟩),.slice (some ⟨W.heap.size,0,none⟩) 2 2] (W.alloc (.cells #[.string ⟨#[73,78,83,69,82,84]⟩,.string ⟨#[73,78,84,79]⟩] 9)) fun e w'=>e = .returned (.tuple #[])∧Wrote g tb W w' (L++au [[73,78,83,69,82,84],[73,78,84,79]]) d (m)):=hid (aG g tb _ d _ [[73,78,83,69,82,84],[73,78,84,79]] W HW0.out (by simp) (by decide) (by simp[au]<;>omega))
  go_wp2_with fail
  refine HX0.out.mono ?_
  rintro e w1 ⟨rfl,tw1,hw,ht,hf⟩
  have HW1:=hid hw
  obtain⟨ht2,hf2⟩:=aF HT0.out HF0.out ht hf
  have HT1:=hid ht2
  have HF1:=hid hf2
  have HBX1:=hid (HBX0.out.on ht hf)
  have kk1:=ay HBX1.out.at'
  clear hw ht hf ht2 hf2 HX0 kk0
  have HX1:=hid (bX g tw1 (L++au [[73,78,83,69,82,84],[73,78,84,79]]) d (m) w1.drew (HW1.out.below (Below.refl _ w1).drew) tn (by simp[au]<;>omega))
  have HS0:Hid (w1.drew.cell? ⟨w.heap.size,1,none⟩=some (.string (aj tn))):=hid ((ay (HBX1.out.below (Below.refl _ w1).drew).at').2.1)
  go_wp2_with fail
  go_region_held3 (fun w'=>w'.cell? ⟨w.heap.size,1,none⟩=some (.string (aj tn))) (first | exact HS0.out | exact HS1.out)
   (first
    | (
     go_at_call 100;refine HX1.out.mono ?_
     rintro e w2 ⟨rfl,tw2,hw,ht,hf⟩
     have HW2:=hid hw
     obtain⟨ht2,hf2⟩:=bM HT1.out HF1.out ht hf
     have HT2:=hid ht2
     have HF2:=hid hf2
     have HBX2:=hid ((HBX1.out.below (Below.refl _ w1).drew).on ht hf)
     have kk2:=ay HBX2.out.at'
     clear hw ht hf ht2 hf2 HX1 kk1
     have HS1:=hid (kk2.2.1))
    | fail)
  clear HS0 HS1
  have HX2:Hid (Calls Tryz.prog 98 #[.pointer (some ⟨g,0,none⟩),.slice (some ⟨w2.heap.size,0,none⟩) 1 1] (w2.alloc (.cells #[.string ⟨#[86,65,76,85,69,83]⟩] 9)) fun e w'=>e = .returned (.tuple #[])∧Wrote g tw2 w2 w' (L++au [[73,78,83,69,82,84],[73,78,84,79]]++[aW tn]++au [[86,65,76,85,69,83]]) d (m)):=hid (aG g tw2 _ d _ [[86,65,76,85,69,83]] w2 HW2.out (by simp) (by decide) (by simp[au]<;>omega))
  go_wp2_with fail
  refine HX2.out.mono ?_
  rintro e w3 ⟨rfl,tw3,hw,ht,hf⟩
  have HW3:=hid hw
  obtain⟨ht2,hf2⟩:=aF HT2.out HF2.out ht hf
  have HT3:=hid ht2
  have HF3:=hid hf2
  have HBX3:=hid (HBX2.out.on ht hf)
  have kk3:=ay HBX3.out.at'
  clear hw ht hf ht2 hf2 HX2 kk2
  have HX3:=hid (HL.out w3 tw3 (L++au [[73,78,83,69,82,84],[73,78,84,79]]++[aW tn]++au [[86,65,76,85,69,83]]) (m) HW3.out HF3.out HT3.out (by simp[au]<;>omega) (by omega) (by omega))
  go_wp2_with fail
  refine HX3.out.mono ?_
  rintro e w4 ⟨rfl,tw4,hw,ht,hf⟩
  have HW4:=hid hw
  obtain⟨ht2,hf2⟩:=aF HT3.out HF3.out ht hf
  have HT4:=hid ht2
  have HF4:=hid hf2
  have HBX4:=hid (HBX3.out.on ht hf)
  have kk4:=ay HBX4.out.at'
  clear hw ht hf ht2 hf2 HX3 kk3
  have HQ:Hid (Wrote g tb w w4 (L++(au [[73,78,83,69,82,84],[73,78,84,79]]++aW tn::aK [86,65,76,85,69,83]::T)) d (m)):=hid (by
   have h9:Wrote g tb W w4 (L++au [[73,78,83,69,82,84],[73,78,84,79]]++[aW tn]++au [[86,65,76,85,69,83]]++T) d (max (m) (d+((D:Nat):Int))):=⟨tw4,HW4.out,HT4.out,HF4.out⟩
   have h8:=Wrote.new HB.out h9
   rw[show max (m) (d+((D:Nat):Int))=m by omega] at h8
   rw[show L++au [[73,78,83,69,82,84],[73,78,84,79]]++[aW tn]++au [[86,65,76,85,69,83]]++T=L++(au [[73,78,83,69,82,84],[73,78,84,79]]++aW tn::aK [86,65,76,85,69,83]::T) by simp[au]] at h8
   exact h8)
  go_wp2
  exact bodyPost_end (v:=.tuple #[]) (by simp[results,Tryz.results49,go_sem]) rfl ⟨rfl,HQ.out⟩
 ·simp only[show ¬((4:Int)=1) by decide,show ¬((4:Int)=2) by decide,show ¬((4:Int)=3) by decide,show ¬((4:Int)=5) by decide,show ¬((4:Int)=6) by decide,if_true,if_false] at hkB hL hd ⊢
  simp only[Bool.and_eq_true] at hkB
  have hm2:=aU hkB.1
  have HWr:=aU hkB.2
  have hL:L.length+(aS (aK [44]) (sets.map pY)).length+(bH wh [[87,72,69,82,69]]).length+3≤1000000000:=by simp at hL;omega
  obtain⟨W,hW,hbW,hzW,hcW⟩:=aL w (.cells #[.int .i64 4,.string (aj tn),.slice a1 n1 c1,.string (aj prim),.slice a2 n2 c2,.slice a3 n3 c3,.slice a4 n4 c4,.string (aj jn),.slice a5 n5 c5,.slice a6 n6 c6,.slice a7 n7 c7,.slice a8 n8 c8,.bool desc,.int .i64 lim] 29)
  have kk0:=ay hcW
  have HB:=hid hbW
  have HW0:=hid (h.below hbW)
  have HBX0:=hid (dn.mk' h hcW (Nat.le_refl _))
  have HT0:Hid (∀k,tb=some k→tb=some k∨W.heap.size≤k):=hid (fun k hk=>.inl hk)
  have HF0:Hid (cB g tb W W):=hid (aA.refl _ _)
  have HSL:=hid (x3.to (by decide) (R:=fun _=>False) (T:=fun b=>b<g) (aA.aC hbW) (fun b hb _=>⟨id,hb⟩) (fun _ _ e=>e.to (R:=fun _=>False) (T:=fun b=>b<g) (aA.aC hbW) (fun b hb _=>⟨id,hb⟩)))
  have HA6:=hid (x6.new hbW)
  have HL:Hid (∀(V:World) (tb':Option Nat) (L':List Tk) (m':Int),bJ V g tb' L' d m'→cB g tb W V→(∀k,tb'=some k→tb=some k∨W.heap.size≤k)→L'.length+(aS (aK [44]) (sets.map pY)).length≤1000000000→d≤m'→m'≤1000000000→Calls Tryz.prog 103 #[.pointer (some ⟨g,0,none⟩),.string ⟨#[44]⟩,.slice a3 n3 c3,.func (.func 104) #[.pointer (some ⟨g,0,none⟩)] #[]] V fun e w'=>e = .returned (.tuple #[])∧Wrote g tb' V w' (L'++aS (aK [44]) (sets.map pY)) d (max m' (d+((aY (sets.map (fun x=>fJ x.e)):Nat):Int)))):=hid (fun V tb' L' m' hV hF hT hl h1 h2=>Dw 104 (enters_of Tryz.func104 (by kernel_rfl) rfl) pY ((fun x=>fJ x.e)) [44] (by decide) sets _ g tb' L' d m' V hV (HSL.out.to (by decide) hF (cB.keeps HW0.out hF) (fun _ _ e=>e.to hF (cB.keeps HW0.out hF))) h1 h2 (fun x hx=>by have:=eD (fun x=>fJ x.e) sets x hx;first | omega | (dsimp only;omega) | (dsimp only at this;omega)) hl (hid (fun x hxm U tb2 L2 m2 hU cs hcs hl2 h3 h4=>by exact Ib x (hm2 x hxm) cs g tb2 L2 d m2 U hU hcs hl2 h0 h3 h4 (by have:=eD (fun x=>fJ x.e) sets x hxm;omega))))
  have HW:Hid (∀(V:World) (tb':Option Nat) (L':List Tk) (m':Int),bJ V g tb' L' d m'→cB g tb W V→(∀k,tb'=some k→tb=some k∨W.heap.size≤k)→L'.length+(bH wh [[87,72,69,82,69]]).length≤1000000000→d≤m'→m'≤1000000000→Calls Tryz.prog 105 #[.pointer (some ⟨g,0,none⟩),.slice a6 n6 c6,.slice (some ⟨V.heap.size,0,none⟩) 1 1] (V.alloc (.cells #[.string ⟨#[87,72,69,82,69]⟩] 9)) fun e w'=>e = .returned (.tuple #[])∧Wrote g tb' V w' (L'++bH wh [[87,72,69,82,69]]) d (max m' (d+((bY wh:Nat):Int)))):=hid (fun V tb' L' m' hV hF hT hl h1 h2=>jf wh [[87,72,69,82,69]] (by decide) (by decide) _ g tb' L' d m' V hV (HA6.out.qV HW0.out hF) HWr h0 h1 h2 (fun x hx=>by have:=eD fJ wh x hx;have:fJ x≤bY wh:=this;omega) hl)
  generalize aY (sets.map fun x=>fJ x.e)=DL at HL hd ⊢
  generalize aS (aK [44]) (sets.map pY)=TL at HL hL ⊢
  generalize bY wh=DW at HW hd ⊢
  generalize bH wh [[87,72,69,82,69]]=TW at HW hL ⊢
  clear x1 x2 x3 x4 x5 x6 x7 x8 hbW hcW h hm2 hkB HSL HWr HA6
  go_enter Tryz.func49,Tryz.ntmps49
  have HX0:Hid (Calls Tryz.prog 98 #[.pointer (some ⟨g,0,none⟩),.slice (some ⟨W.heap.size,0,none⟩) 1 1] (W.alloc (.cells #[.string ⟨#[85,80,68,65,84,69]⟩] 9)) fun e w'=>e = .returned (.tuple #[])∧Wrote g tb W w' (L++au [[85,80,68,65,84,69]]) d (m)):=hid (aG g tb _ d _ [[85,80,68,65,84,69]] W HW0.out (by simp) (by decide) (by simp[au]<;>omega))
  go_wp2_with fail
  refine HX0.out.mono ?_
  rintro e w1 ⟨rfl,tw1,hw,ht,hf⟩
  have HW1:=hid hw
  obtain⟨ht2,hf2⟩:=aF HT0.out HF0.out ht hf
  have HT1:=hid ht2
  have HF1:=hid hf2
  have HBX1:=hid (HBX0.out.on ht hf)
  have kk1:=ay HBX1.out.at'
  clear hw ht hf ht2 hf2 HX0 kk0
  have HX1:=hid (bX g tw1 (L++au [[85,80,68,65,84,69]]) d (m) w1.drew (HW1.out.below (Below.refl _ w1).drew) tn (by simp[au]<;>omega))
  have HS0:Hid (w1.drew.cell? ⟨w.heap.size,1,none⟩=some (.string (aj tn))):=hid ((ay (HBX1.out.below (Below.refl _ w1).drew).at').2.1)
  go_wp2_with fail
  go_region_held3 (fun w'=>w'.cell? ⟨w.heap.size,1,none⟩=some (.string (aj tn))) (first | exact HS0.out | exact HS1.out)
   (first
    | (
     go_at_call 100;refine HX1.out.mono ?_
     rintro e w2 ⟨rfl,tw2,hw,ht,hf⟩
     have HW2:=hid hw
     obtain⟨ht2,hf2⟩:=bM HT1.out HF1.out ht hf
     have HT2:=hid ht2
     have HF2:=hid hf2
     have HBX2:=hid ((HBX1.out.below (Below.refl _ w1).drew).on ht hf)
     have kk2:=ay HBX2.out.at'
     clear hw ht hf ht2 hf2 HX1 kk1
     have HS1:=hid (kk2.2.1))
    | fail)
  clear HS0 HS1
  have HX2:Hid (Calls Tryz.prog 98 #[.pointer (some ⟨g,0,none⟩),.slice (some ⟨w2.heap.size,0,none⟩) 1 1] (w2.alloc (.cells #[.string ⟨#[83,69,84]⟩] 9)) fun e w'=>e = .returned (.tuple #[])∧Wrote g tw2 w2 w' (L++au [[85,80,68,65,84,69]]++[aW tn]++au [[83,69,84]]) d (m)):=hid (aG g tw2 _ d _ [[83,69,84]] w2 HW2.out (by simp) (by decide) (by simp[au]<;>omega))
  go_wp2_with fail
  refine HX2.out.mono ?_
  rintro e w3 ⟨rfl,tw3,hw,ht,hf⟩
  have HW3:=hid hw
  obtain⟨ht2,hf2⟩:=aF HT2.out HF2.out ht hf
  have HT3:=hid ht2
  have HF3:=hid hf2
  have HBX3:=hid (HBX2.out.on ht hf)
  have kk3:=ay HBX3.out.at'
  clear hw ht hf ht2 hf2 HX2 kk2
  have HX3:=hid (HL.out w3 tw3 (L++au [[85,80,68,65,84,69]]++[aW tn]++au [[83,69,84]]) (m) HW3.out HF3.out HT3.out (by simp[au]<;>omega) (by omega) (by omega))
  go_wp2_with fail
  refine HX3.out.mono ?_
  rintro e w4 ⟨rfl,tw4,hw,ht,hf⟩
  have HW4:=hid hw
  obtain⟨ht2,hf2⟩:=aF HT3.out HF3.out ht hf
  have HT4:=hid ht2
  have HF4:=hid hf2
  have HBX4:=hid (HBX3.out.on ht hf)
  have kk4:=ay HBX4.out.at'
  clear hw ht hf ht2 hf2 HX3 kk3
  have HX4:=hid (HW.out w4 tw4 (L++au [[85,80,68,65,84,69]]++[aW tn]++au [[83,69,84]]++TL) (max (m) (d+((DL:Nat):Int))) HW4.out HF4.out HT4.out (by simp[au]<;>omega) (by omega) (by omega))
  go_wp2_with fail
  refine HX4.out.mono ?_
  rintro e w5 ⟨rfl,tw5,hw,ht,hf⟩
  have HW5:=hid hw
  obtain⟨ht2,hf2⟩:=aF HT4.out HF4.out ht hf
  have HT5:=hid ht2
  have HF5:=hid hf2
  have HBX5:=hid (HBX4.out.on ht hf)
  have kk5:=ay HBX5.out.at'
  clear hw ht hf ht2 hf2 HX4 kk4
  have HQ:Hid (Wrote g tb w w5 (L++(aK [85,80,68,65,84,69]::aW tn::aK [83,69,84]::(TL++TW))) d (max m (d+((max DL DW:Nat):Int)))):=hid (by
   have h9:Wrote g tb W w5 (L++au [[85,80,68,65,84,69]]++[aW tn]++au [[83,69,84]]++TL++TW) d (max (max (m) (d+((DL:Nat):Int))) (d+((DW:Nat):Int))):=⟨tw5,HW5.out,HT5.out,HF5.out⟩
   have h8:=Wrote.new HB.out h9
   rw[show max (max (m) (d+((DL:Nat):Int))) (d+((DW:Nat):Int))=max m (d+((max DL DW:Nat):Int)) by omega] at h8
   rw[show L++au [[85,80,68,65,84,69]]++[aW tn]++au [[83,69,84]]++TL++TW=L++(aK [85,80,68,65,84,69]::aW tn::aK [83,69,84]::(TL++TW)) by simp[au]] at h8
   exact h8)
  go_wp2
  exact bodyPost_end (v:=.tuple #[]) (by simp[results,Tryz.results49,go_sem]) rfl ⟨rfl,HQ.out⟩
 ·simp only[show ¬((5:Int)=1) by decide,show ¬((5:Int)=2) by decide,show ¬((5:Int)=3) by decide,show ¬((5:Int)=4) by decide,show ¬((5:Int)=6) by decide,if_true,if_false] at hkB hL hd ⊢
  have HWr:=aU hkB
  have hL:L.length+(bH wh [[87,72,69,82,69]]).length+3≤1000000000:=by simp[au] at hL;omega
  obtain⟨W,hW,hbW,hzW,hcW⟩:=aL w (.cells #[.int .i64 5,.string (aj tn),.slice a1 n1 c1,.string (aj prim),.slice a2 n2 c2,.slice a3 n3 c3,.slice a4 n4 c4,.string (aj jn),.slice a5 n5 c5,.slice a6 n6 c6,.slice a7 n7 c7,.slice a8 n8 c8,.bool desc,.int .i64 lim] 29)
  have kk0:=ay hcW
  have HB:=hid hbW
  have HW0:=hid (h.below hbW)
  have HBX0:=hid (dn.mk' h hcW (Nat.le_refl _))
  have HT0:Hid (∀k,tb=some k→tb=some k∨W.heap.size≤k):=hid (fun k hk=>.inl hk)
  have HF0:Hid (cB g tb W W):=hid (aA.refl _ _)
  have HA6:=hid (x6.new hbW)
  have HW:Hid (∀(V:World) (tb':Option Nat) (L':List Tk) (m':Int),bJ V g tb' L' d m'→cB g tb W V→(∀k,tb'=some k→tb=some k∨W.heap.size≤k)→L'.length+(bH wh [[87,72,69,82,69]]).length≤1000000000→d≤m'→m'≤1000000000→Calls Tryz.prog 105 #[.pointer (some ⟨g,0,none⟩),.slice a6 n6 c6,.slice (some ⟨V.heap.size,0,none⟩) 1 1] (V.alloc (.cells #[.string ⟨#[87,72,69,82,69]⟩] 9)) fun e w'=>e = .returned (.tuple #[])∧Wrote g tb' V w' (L'++bH wh [[87,72,69,82,69]]) d (max m' (d+((bY wh:Nat):Int)))):=hid (fun V tb' L' m' hV hF hT hl h1 h2=>jf wh [[87,72,69,82,69]] (by decide) (by decide) _ g tb' L' d m' V hV (HA6.out.qV HW0.out hF) HWr h0 h1 h2 (fun x hx=>by have:=eD fJ wh x hx;have:fJ x≤bY wh:=this;omega) hl)
  generalize bY wh=DW at HW hd ⊢
  generalize bH wh [[87,72,69,82,69]]=TW at HW hL ⊢
  clear x1 x2 x3 x4 x5 x6 x7 x8 hbW hcW h hkB HWr HA6
  go_enter Tryz.func49,Tryz.ntmps49
  have HX0:Hid (Calls Tryz.prog 98 #[.pointer (some ⟨g,0,none⟩),.slice (some ⟨W.heap.size,0,none⟩) 2 2] (W.alloc (.cells #[.string ⟨#[68,69,76,69,84,69]⟩,.string ⟨#[70,82,79,77]⟩] 9)) fun e w'=>e = .returned (.tuple #[])∧Wrote g tb W w' (L++au [[68,69,76,69,84,69],[70,82,79,77]]) d (m)):=hid (aG g tb _ d _ [[68,69,76,69,84,69],[70,82,79,77]] W HW0.out (by simp) (by decide) (by simp[au]<;>omega))
  go_wp2_with fail
  refine HX0.out.mono ?_
  rintro e w1 ⟨rfl,tw1,hw,ht,hf⟩
  have HW1:=hid hw
  obtain⟨ht2,hf2⟩:=aF HT0.out HF0.out ht hf
  have HT1:=hid ht2
  have HF1:=hid hf2
  have HBX1:=hid (HBX0.out.on ht hf)
  have kk1:=ay HBX1.out.at'
  clear hw ht hf ht2 hf2 HX0 kk0
  have HX1:=hid (bX g tw1 (L++au [[68,69,76,69,84,69],[70,82,79,77]]) d (m) w1.drew (HW1.out.below (Below.refl _ w1).drew) tn (by simp[au]<;>omega))
  have HS0:Hid (w1.drew.cell? ⟨w.heap.size,1,none⟩=some (.string (aj tn))):=hid ((ay (HBX1.out.below (Below.refl _ w1).drew).at').2.1)
  go_wp2_with fail
  go_region_held3 (fun w'=>w'.cell? ⟨w.heap.size,1,none⟩=some (.string (aj tn))) (first | exact HS0.out | exact HS1.out)
   (first
    | (
     go_at_call 100;refine HX1.out.mono ?_
     rintro e w2 ⟨rfl,tw2,hw,ht,hf⟩
     have HW2:=hid hw
     obtain⟨ht2,hf2⟩:=bM HT1.out HF1.out ht hf
     have HT2:=hid ht2
     have HF2:=hid hf2
     have HBX2:=hid ((HBX1.out.below (Below.refl _ w1).drew).on ht hf)
     have kk2:=ay HBX2.out.at'
     clear hw ht hf ht2 hf2 HX1 kk1
     have HS1:=hid (kk2.2.1))
    | fail)
  clear HS0 HS1
  have HX2:=hid (HW.out w2 tw2 (L++au [[68,69,76,69,84,69],[70,82,79,77]]++[aW tn]) (m) HW2.out HF2.out HT2.out (by simp[au]<;>omega) (by omega) (by omega))
  go_wp2_with fail
  refine HX2.out.mono ?_
  rintro e w3 ⟨rfl,tw3,hw,ht,hf⟩
  have HW3:=hid hw
  obtain⟨ht2,hf2⟩:=aF HT2.out HF2.out ht hf
  have HT3:=hid ht2
  have HF3:=hid hf2
  have HBX3:=hid (HBX2.out.on ht hf)
  have kk3:=ay HBX3.out.at'
  clear hw ht hf ht2 hf2 HX2 kk2
  have HQ:Hid (Wrote g tb w w3 (L++(au [[68,69,76,69,84,69],[70,82,79,77]]++aW tn::TW)) d (max m (d+((DW:Nat):Int)))):=hid (by
   have h9:Wrote g tb W w3 (L++au [[68,69,76,69,84,69],[70,82,79,77]]++[aW tn]++TW) d (max (m) (d+((DW:Nat):Int))):=⟨tw3,HW3.out,HT3.out,HF3.out⟩
   have h8:=Wrote.new HB.out h9
   rw[show max (m) (d+((DW:Nat):Int))=max m (d+((DW:Nat):Int)) by omega] at h8
   rw[show L++au [[68,69,76,69,84,69],[70,82,79,77]]++[aW tn]++TW=L++(au [[68,69,76,69,84,69],[70,82,79,77]]++aW tn::TW) by simp[au]] at h8
   exact h8)
  go_wp2
  exact bodyPost_end (v:=.tuple #[]) (by simp[results,Tryz.results49,go_sem]) rfl ⟨rfl,HQ.out⟩
 ·simp only[show ¬((6:Int)=1) by decide,show ¬((6:Int)=2) by decide,show ¬((6:Int)=3) by decide,show ¬((6:Int)=4) by decide,show ¬((6:Int)=5) by decide,if_true,if_false] at hkB hL hd ⊢
  unfold vB at hkB
  simp only[Bool.and_eq_true] at hkB
  obtain⟨k1,k2,k3,k4,k5,k6,k7,k8⟩:=hkB
  unfold EF at hL ⊢
  dsimp only at *
  have hL8:=hL
  obtain⟨W,hW,hbW,hzW,hcW⟩:=aL w (.cells #[.int .i64 6,.string (aj tn),.slice a1 n1 c1,.string (aj prim),.slice a2 n2 c2,.slice a3 n3 c3,.slice a4 n4 c4,.string (aj jn),.slice a5 n5 c5,.slice a6 n6 c6,.slice a7 n7 c7,.slice a8 n8 c8,.bool desc,.int .i64 lim] 29)
  have kk0:=ay hcW
  have HB:=hid hbW
  have HW0:=hid (h.below hbW)
  have HBX0:=hid (dn.mk' h hcW (Nat.le_refl _))
  have HT0:Hid (∀k,tb=some k→tb=some k∨W.heap.size≤k):=hid (fun k hk=>.inl hk)
  have HF0:Hid (cB g tb W W):=hid (aA.refl _ _)
  have HX0:=hid (AU items on wh gr od k1 (aU k3) (aU k4) (fun x hx=>by have:=aU k5 x hx;unfold eF at this;simp only[Bool.and_eq_true] at this;exact this.2) (fun x hx=>by have:=aU k6 x hx;unfold eF at this;simp only[Bool.and_eq_true] at this;exact this.2) tn prim jn desc lim a1 a2 a3 a4 a5 a6 a7 a8 n1 n2 n3 n4 n5 n6 n7 n8 c1 c2 c3 c4 c5 c6 c7 c8 g tb L d m W HW0.out (x4.to (by decide) (R:=fun _=>False) (T:=fun b=>b<g) (aA.aC hbW) (fun b hb _=>⟨id,hb⟩) (fun _ _ e=>e.to (R:=fun _=>False) (T:=fun b=>b<g) (aA.aC hbW) (fun b hb _=>⟨id,hb⟩))) (x5.new hbW) (x6.new hbW) (x7.new hbW) (x8.new hbW) hL8 h0 hdm hm (by omega) (by omega) (by omega) (by omega) (by omega))
  generalize (aK [83,69,76,69,67,84]::(aS (aK [44]) (items.map xG)++aK [70,82,79,77]::aW tn::((if jn=[] then [] else [aK [74,79,73,78],aW jn])++(bH on [[79,78]]++(bH wh [[87,72,69,82,69]]++(bH gr [[71,82,79,85,80],[66,89]]++(bH od [[79,82,68,69,82],[66,89]]++((if desc=true then [aK [68,69,83,67]] else [])++(if lim = -1 then [] else [aK [76,73,77,73,84],mV lim])))))))))=T at HX0 ⊢
  generalize max (aY (items.map z8)) (max (bY on) (max (bY wh) (max (bY gr) (bY od))))=DD at HX0 ⊢
  clear x1 x2 x3 x4 x5 x6 x7 x8 hbW hcW h k1 k2 k3 k4 k5 k6 k7 k8 hL hL8 hd
  go_enter Tryz.func49,Tryz.ntmps49
  go_wp2_with fail
  refine HX0.out.mono ?_
  rintro e w1 ⟨rfl,h1⟩
  have HQ:=hid (Wrote.new HB.out h1)
  clear h1 HX0
  go_wp2
  exact bodyPost_end (v:=.tuple #[]) (by simp[results,Tryz.results49,go_sem]) rfl ⟨rfl,HQ.out⟩
end Go.Proofs.YtfeglkleoijlaaaGreatDoor
