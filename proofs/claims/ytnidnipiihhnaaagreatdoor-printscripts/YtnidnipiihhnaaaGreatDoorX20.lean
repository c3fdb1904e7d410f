/- Packed for the hand-in: WStmD -/
import Derived.Test.YtnidnipiihhnaaaGreatDoorX19
import Derived.Deep.RegionHeld3
namespace Go.Proofs.YtnidnipiihhnaaaGreatDoor
open Go.RowKit Go.Shelf
set_option linter.unusedSimpArgs false
set_option linter.unusedVariables false
set_option maxRecDepth 20000
set_option maxHeartbeats 8000000
theorem rightS_k {s:St} (h:rightS s=true):s.k=1∨s.k=2∨s.k=3∨s.k=4∨s.k=5∨s.k=6:=by
 unfold rightS kindB at h
 simp only[Bool.and_eq_true] at h
 have h1:=h.1
 by_cases k1:s.k=1
 ·exact .inl k1
 ·by_cases k2:s.k=2
  ·exact .inr (.inl k2)
  ·by_cases k3:s.k=3
   ·exact .inr (.inr (.inl k3))
   ·by_cases k4:s.k=4
    ·exact .inr (.inr (.inr (.inl k4)))
    ·by_cases k5:s.k=5
     ·exact .inr (.inr (.inr (.inr (.inl k5))))
     ·by_cases k6:s.k=6
      ·exact .inr (.inr (.inr (.inr (.inr k6))))
      ·rw[if_neg k1,if_neg k2,if_neg k3,if_neg k4,if_neg k5,if_neg k6] at h1;cases h1
theorem statement_w (x:St) (hr:rightS x=true) (cs:List Value) (g:Nat) (tb:Option Nat) (L:List Tk) (d m:Int) (w:World) (h:WrAt w g tb L d m) (hx:StE (fun b=>b<g) w x cs) (hL:L.length+(tkS x).length≤1000000000) (h0:0≤d) (hdm:d≤m) (hm:m≤1000000000) (hd:d+(dpS x:Nat)≤1000000000) :
  Calls Tryz.prog 31 #[.pointer (some ⟨g,0,none⟩),.agg cs.toArray] w fun e w'=>e = .returned (.tuple #[])∧Wrote g tb w w' (L++tkS x) d (max m (d+(dpS x:Nat))):=by
 obtain⟨a1,a2,a3,a4,a5,a6,a7,a8,n1,n2,n3,n4,n5,n6,n7,n8,c1,c2,c3,c4,c5,c6,c7,c8,rfl,x1,x2,x3,x4,x5,x6,x7,x8⟩:=hx
 have hkk:=rightS_k hr
 have hkB:kindB x=true:=by unfold rightS at hr;simp only[Bool.and_eq_true] at hr;exact hr.1
 unfold kindB at hkB
 unfold tkS at hL ⊢
 unfold dpS at hd ⊢
 obtain⟨k,tn,cols,prim,rows,sets,items,jn,on,wh,gr,od,desc,lim⟩:=x
 dsimp only at *
 clear hr
 rcases hkk with rfl | rfl | rfl | rfl | rfl | rfl
 ·simp only[if_true] at hkB hL
  simp only[Bool.and_eq_true] at hkB
  have e0:max m (d+((dpS ⟨1,tn,cols,prim,rows,sets,items,jn,on,wh,gr,od,desc,lim⟩:Nat):Int))=m:=by show max m (d+((0:Nat):Int))=m;omega
  unfold dpS at e0
  dsimp only at e0
  rw[e0]
  clear e0 hd
  simp only[if_true]
  have hL11:L.length+(sepK (fxT [44]) (cols.map colK)).length+11≤1000000000:=by simp[crK,wordsK] at hL;omega
  obtain⟨W,hW,hbW,hzW,hcW⟩:=box8 w (.cells #[.int .i64 1,.string (str8 tn),.slice a1 n1 c1,.string (str8 prim),.slice a2 n2 c2,.slice a3 n3 c3,.slice a4 n4 c4,.string (str8 jn),.slice a5 n5 c5,.slice a6 n6 c6,.slice a7 n7 c7,.slice a8 n8 c8,.bool desc,.int .i64 lim] 42)
  have kk0:=cells14 hcW
  have HB:=hid hbW
  have HW0:=hid (h.below hbW)
  have HBX0:=hid (BoxW.mk' h hcW (Nat.le_refl _))
  have HT0:Hid (∀k,tb=some k→tb=some k∨W.heap.size≤k):=hid (fun k hk=>.inl hk)
  have HF0:Hid (FrW g tb W W):=hid (Spares.refl _ _)
  have HX0:=hid (create_w cols hkB.1 tn prim jn desc lim a1 a2 a3 a4 a5 a6 a7 a8 n1 n2 n3 n4 n5 n6 n7 n8 c1 c2 c3 c4 c5 c6 c7 c8 g tb L d m W HW0.out (x1.to (by decide) (R:=fun _=>False) (T:=fun b=>b<g) (Spares.of_new hbW) (fun b hb _=>⟨id,hb⟩) (fun _ _ e=>e)) hL11 h0 hdm hm)
  show Calls Tryz.prog 31 _ w fun e w'=>_∧Wrote g tb w w' (L++(wordsK [[67,82,69,65,84,69],[84,65,66,76,69]]++nmT tn::fxT [40]::(sepK (fxT [44]) (cols.map colK)++(wordsK [[44],[80,82,73,77,65,82,89],[75,69,89],[40]]++nmT prim::wordsK [[41],[41]])))) d m
  generalize (wordsK [[67,82,69,65,84,69],[84,65,66,76,69]]++nmT tn::fxT [40]::(sepK (fxT [44]) (cols.map colK)++(wordsK [[44],[80,82,73,77,65,82,89],[75,69,89],[40]]++nmT prim::wordsK [[41],[41]])))=T at HX0 ⊢
  clear x1 x2 x3 x4 x5 x6 x7 x8 hbW hcW h hkB hL hL11
  go_enter Tryz.func31,Tryz.ntmps31
  go_wp2_with fail
  refine HX0.out.mono ?_
  rintro e w1 ⟨rfl,h1⟩
  have HQ:=hid (Wrote.new HB.out h1)
  clear h1 HX0
  go_wp2
  exact bodyPost_end (v:=.tuple #[]) (by simp[results,Tryz.results31,go_sem]) rfl ⟨rfl,HQ.out⟩
 ·simp only[show ¬((2:Int)=1) by decide,show ¬((2:Int)=3) by decide,show ¬((2:Int)=4) by decide,show ¬((2:Int)=5) by decide,show ¬((2:Int)=6) by decide,if_true,if_false] at hkB hL hd ⊢
  have hL:L.length+3≤1000000000:=by simpa [wordsK] using hL
  have e0:max m (d+((0:Nat):Int))=m:=by omega
  rw[e0]
  clear e0 hd hkB
  obtain⟨W,hW,hbW,hzW,hcW⟩:=box8 w (.cells #[.int .i64 2,.string (str8 tn),.slice a1 n1 c1,.string (str8 prim),.slice a2 n2 c2,.slice a3 n3 c3,.slice a4 n4 c4,.string (str8 jn),.slice a5 n5 c5,.slice a6 n6 c6,.slice a7 n7 c7,.slice a8 n8 c8,.bool desc,.int .i64 lim] 42)
  have kk0:=cells14 hcW
  have HB:=hid hbW
  have HW0:=hid (h.below hbW)
  have HBX0:=hid (BoxW.mk' h hcW (Nat.le_refl _))
  have HT0:Hid (∀k,tb=some k→tb=some k∨W.heap.size≤k):=hid (fun k hk=>.inl hk)
  have HF0:Hid (FrW g tb W W):=hid (Spares.refl _ _)
  clear x1 x2 x3 x4 x5 x6 x7 x8 hbW hcW h
  go_enter Tryz.func31,Tryz.ntmps31
  have HX0:Hid (Calls Tryz.prog 68 #[.pointer (some ⟨g,0,none⟩),.slice (some ⟨W.heap.size,0,none⟩) 2 2] (W.alloc (.cells #[.string ⟨#[68,82,79,80]⟩,.string ⟨#[84,65,66,76,69]⟩] 9)) fun e w'=>e = .returned (.tuple #[])∧Wrote g tb W w' (L++wordsK [[68,82,79,80],[84,65,66,76,69]]) d (m)):=hid (fixed_new g tb _ d _ [[68,82,79,80],[84,65,66,76,69]] W HW0.out (by simp) (by decide) (by simp[wordsK]<;>omega))
  go_wp2_with fail
  refine HX0.out.mono ?_
  rintro e w1 ⟨rfl,tw1,hw,ht,hf⟩
  have HW1:=hid hw
  obtain⟨ht2,hf2⟩:=fr_step HT0.out HF0.out ht hf
  have HT1:=hid ht2
  have HF1:=hid hf2
  have HBX1:=hid (HBX0.out.on ht hf)
  have kk1:=cells14 HBX1.out.at'
  clear hw ht hf ht2 hf2 HX0 kk0
  have HX1:=hid (name_w g tw1 (L++wordsK [[68,82,79,80],[84,65,66,76,69]]) d (m) w1.drew (HW1.out.below (Below.refl _ w1).drew) tn (by simp[wordsK]<;>omega))
  have HS0:Hid (w1.drew.cell? ⟨w.heap.size,1,none⟩=some (.string (str8 tn))):=hid ((cells14 (HBX1.out.below (Below.refl _ w1).drew).at').2.1)
  go_wp2_with fail
  go_region_held3 (fun w'=>w'.cell? ⟨w.heap.size,1,none⟩=some (.string (str8 tn))) (first | exact HS0.out | exact HS1.out)
   (first
    | (
     go_at_call 70;refine HX1.out.mono ?_
     rintro e w2 ⟨rfl,tw2,hw,ht,hf⟩
     have HW2:=hid hw
     obtain⟨ht2,hf2⟩:=fr_drew HT1.out HF1.out ht hf
     have HT2:=hid ht2
     have HF2:=hid hf2
     have HBX2:=hid ((HBX1.out.below (Below.refl _ w1).drew).on ht hf)
     have kk2:=cells14 HBX2.out.at'
     clear hw ht hf ht2 hf2 HX1 kk1
     have HS1:=hid (kk2.2.1))
    | fail)
  clear HS0 HS1
  have HQ:Hid (Wrote g tb w w2 (L++(wordsK [[68,82,79,80],[84,65,66,76,69]]++[nmT tn])) d (m)):=hid (by
   have h9:Wrote g tb W w2 (L++wordsK [[68,82,79,80],[84,65,66,76,69]]++[nmT tn]) d (m):=⟨tw2,HW2.out,HT2.out,HF2.out⟩
   have h8:=Wrote.new HB.out h9
   skip
   rw[show L++wordsK [[68,82,79,80],[84,65,66,76,69]]++[nmT tn]=L++(wordsK [[68,82,79,80],[84,65,66,76,69]]++[nmT tn]) by simp[wordsK]] at h8
   exact h8)
  go_wp2
  exact bodyPost_end (v:=.tuple #[]) (by simp[results,Tryz.results31,go_sem]) rfl ⟨rfl,HQ.out⟩
 ·simp only[show ¬((3:Int)=1) by decide,show ¬((3:Int)=2) by decide,show ¬((3:Int)=4) by decide,show ¬((3:Int)=5) by decide,show ¬((3:Int)=6) by decide,if_true,if_false] at hkB hL hd ⊢
  have hm2:=areB_mem hkB
  have hL:L.length+(sepK (fxT [44]) (rows.map vrowK)).length+4≤1000000000:=by simp[wordsK] at hL;omega
  have e0:max m (d+((0:Nat):Int))=m:=by omega
  rw[e0]
  clear e0 hd
  obtain⟨W,hW,hbW,hzW,hcW⟩:=box8 w (.cells #[.int .i64 3,.string (str8 tn),.slice a1 n1 c1,.string (str8 prim),.slice a2 n2 c2,.slice a3 n3 c3,.slice a4 n4 c4,.string (str8 jn),.slice a5 n5 c5,.slice a6 n6 c6,.slice a7 n7 c7,.slice a8 n8 c8,.bool desc,.int .i64 lim] 42)
  have kk0:=cells14 hcW
  have HB:=hid hbW
  have HW0:=hid (h.below hbW)
  have HBX0:=hid (BoxW.mk' h hcW (Nat.le_refl _))
  have HT0:Hid (∀k,tb=some k→tb=some k∨W.heap.size≤k):=hid (fun k hk=>.inl hk)
  have HF0:Hid (FrW g tb W W):=hid (Spares.refl _ _)
  have HSL:=hid (x2.to (by decide) (R:=fun _=>False) (T:=fun b=>b<g) (Spares.of_new hbW) (fun b hb _=>⟨id,hb⟩) (fun _ _ e=>e.to (R:=fun _=>False) (T:=fun b=>b<g) (Spares.of_new hbW) (fun b hb _=>⟨id,hb⟩)))
  have HL:Hid (∀(V:World) (tb':Option Nat) (L':List Tk) (m':Int),WrAt V g tb' L' d m'→FrW g tb W V→(∀k,tb'=some k→tb=some k∨W.heap.size≤k)→L'.length+(sepK (fxT [44]) (rows.map vrowK)).length≤1000000000→d≤m'→m'≤1000000000→Calls Tryz.prog 71 #[.pointer (some ⟨g,0,none⟩),.string ⟨#[44]⟩,.slice a2 n2 c2,.func (.func 72) #[.pointer (some ⟨g,0,none⟩)] #[]] V fun e w'=>e = .returned (.tuple #[])∧Wrote g tb' V w' (L'++sepK (fxT [44]) (rows.map vrowK)) d (max m' (d+((maxL (rows.map fun _=>0):Nat):Int)))):=hid (fun V tb' L' m' hV hF hT hl h1 h2=>listVs_w 72 (enters_of Tryz.func72 (by kernel_rfl) rfl) vrowK (fun _=>0) [44] (by decide) rows _ g tb' L' d m' V hV (HSL.out.to (by decide) hF (FrW.keeps HW0.out hF) (fun _ _ e=>e.to hF (FrW.keeps HW0.out hF))) h1 h2 (fun x hx=>by show d+((0:Nat):Int)≤_;omega) hl (hid (fun x hxm U tb2 L2 m2 hU cs hcs hl2 h3 h4=>by obtain⟨aa,nn,cc,rfl,hvs⟩:=hcs;rw[show max m2 (d+((0:Nat):Int))=m2 by omega];exact values_w x (hm2 x hxm) aa nn cc g tb2 L2 d m2 U hU hvs hl2 h0 h3 h4)))
  have hD0:=maxL_zero rows
  generalize maxL (rows.map fun _=>0)=D at HL hD0
  generalize sepK (fxT [44]) (rows.map vrowK)=T at HL hL ⊢
  clear x1 x2 x3 x4 x5 x6 x7 x8 hbW hcW h hm2 hkB HSL
  go_enter Tryz.func31,Tryz.ntmps31
  have HX0:Hid (Calls Tryz.prog 68 #[.pointer (some ⟨g,0,none⟩),.slice (some ⟨W.heap.size,0,none⟩) 2 2] (W.alloc (.cells #[.string ⟨#[73,78,83,69,82,84]⟩,.string ⟨#[73,78,84,79]⟩] 9)) fun e w'=>e = .returned (.tuple #[])∧Wrote g tb W w' (L++wordsK [[73,78,83,69,82,84],[73,78,84,79]]) d (m)):=hid (fixed_new g tb _ d _ [[73,78,83,69,82,84],[73,78,84,79]] W HW0.out (by simp) (by decide) (by simp[wordsK]<;>omega))
  go_wp2_with fail
  refine HX0.out.mono ?_
  rintro e w1 ⟨rfl,tw1,hw,ht,hf⟩
  have HW1:=hid hw
  obtain⟨ht2,hf2⟩:=fr_step HT0.out HF0.out ht hf
  have HT1:=hid ht2
  have HF1:=hid hf2
  have HBX1:=hid (HBX0.out.on ht hf)
  have kk1:=cells14 HBX1.out.at'
  clear hw ht hf ht2 hf2 HX0 kk0
  have HX1:=hid (name_w g tw1 (L++wordsK [[73,78,83,69,82,84],[73,78,84,79]]) d (m) w1.drew (HW1.out.below (Below.refl _ w1).drew) tn (by simp[wordsK]<;>omega))
  have HS0:Hid (w1.drew.cell? ⟨w.heap.size,1,none⟩=some (.string (str8 tn))):=hid ((cells14 (HBX1.out.below (Below.refl _ w1).drew).at').2.1)
  go_wp2_with fail
  go_region_held3 (fun w'=>w'.cell? ⟨w.heap.size,1,none⟩=some (.string (str8 tn))) (first | exact HS0.out | exact HS1.out)
   (first
    | (
     go_at_call 70;refine HX1.out.mono ?_
     rintro e w2 ⟨rfl,tw2,hw,ht,hf⟩
     have HW2:=hid hw
     obtain⟨ht2,hf2⟩:=fr_drew HT1.out HF1.out ht hf
     have HT2:=hid ht2
     have HF2:=hid hf2
     have HBX2:=hid ((HBX1.out.below (Below.refl _ w1).drew).on ht hf)
     have kk2:=cells14 HBX2.out.at'
     clear hw ht hf ht2 hf2 HX1 kk1
     have HS1:=hid (kk2.2.1))
    | fail)
  clear HS0 HS1
  have HX2:Hid (Calls Tryz.prog 68 #[.pointer (some ⟨g,0,none⟩),.slice (some ⟨w2.heap.size,0,none⟩) 1 1] (w2.alloc (.cells #[.string ⟨#[86,65,76,85,69,83]⟩] 9)) fun e w'=>e = .returned (.tuple #[])∧Wrote g tw2 w2 w' (L++wordsK [[73,78,83,69,82,84],[73,78,84,79]]++[nmT tn]++wordsK [[86,65,76,85,69,83]]) d (m)):=hid (fixed_new g tw2 _ d _ [[86,65,76,85,69,83]] w2 HW2.out (by simp) (by decide) (by simp[wordsK]<;>omega))
  go_wp2_with fail
  refine HX2.out.mono ?_
  rintro e w3 ⟨rfl,tw3,hw,ht,hf⟩
  have HW3:=hid hw
  obtain⟨ht2,hf2⟩:=fr_step HT2.out HF2.out ht hf
  have HT3:=hid ht2
  have HF3:=hid hf2
  have HBX3:=hid (HBX2.out.on ht hf)
  have kk3:=cells14 HBX3.out.at'
  clear hw ht hf ht2 hf2 HX2 kk2
  have HX3:=hid (HL.out w3 tw3 (L++wordsK [[73,78,83,69,82,84],[73,78,84,79]]++[nmT tn]++wordsK [[86,65,76,85,69,83]]) (m) HW3.out HF3.out HT3.out (by simp[wordsK]<;>omega) (by omega) (by omega))
  go_wp2_with fail
  refine HX3.out.mono ?_
  rintro e w4 ⟨rfl,tw4,hw,ht,hf⟩
  have HW4:=hid hw
  obtain⟨ht2,hf2⟩:=fr_step HT3.out HF3.out ht hf
  have HT4:=hid ht2
  have HF4:=hid hf2
  have HBX4:=hid (HBX3.out.on ht hf)
  have kk4:=cells14 HBX4.out.at'
  clear hw ht hf ht2 hf2 HX3 kk3
  have HQ:Hid (Wrote g tb w w4 (L++(wordsK [[73,78,83,69,82,84],[73,78,84,79]]++nmT tn::fxT [86,65,76,85,69,83]::T)) d (m)):=hid (by
   have h9:Wrote g tb W w4 (L++wordsK [[73,78,83,69,82,84],[73,78,84,79]]++[nmT tn]++wordsK [[86,65,76,85,69,83]]++T) d (max (m) (d+((D:Nat):Int))):=⟨tw4,HW4.out,HT4.out,HF4.out⟩
   have h8:=Wrote.new HB.out h9
   rw[show max (m) (d+((D:Nat):Int))=m by omega] at h8
   rw[show L++wordsK [[73,78,83,69,82,84],[73,78,84,79]]++[nmT tn]++wordsK [[86,65,76,85,69,83]]++T=L++(wordsK [[73,78,83,69,82,84],[73,78,84,79]]++nmT tn::fxT [86,65,76,85,69,83]::T) by simp[wordsK]] at h8
   exact h8)
  go_wp2
  exact bodyPost_end (v:=.tuple #[]) (by simp[results,Tryz.results31,go_sem]) rfl ⟨rfl,HQ.out⟩
 ·simp only[show ¬((4:Int)=1) by decide,show ¬((4:Int)=2) by decide,show ¬((4:Int)=3) by decide,show ¬((4:Int)=5) by decide,show ¬((4:Int)=6) by decide,if_true,if_false] at hkB hL hd ⊢
  simp only[Bool.and_eq_true] at hkB
  have hm2:=areB_mem hkB.1
  have HWr:=areB_mem hkB.2
  have hL:L.length+(sepK (fxT [44]) (sets.map setK)).length+(partK wh [[87,72,69,82,69]]).length+3≤1000000000:=by simp at hL;omega
  obtain⟨W,hW,hbW,hzW,hcW⟩:=box8 w (.cells #[.int .i64 4,.string (str8 tn),.slice a1 n1 c1,.string (str8 prim),.slice a2 n2 c2,.slice a3 n3 c3,.slice a4 n4 c4,.string (str8 jn),.slice a5 n5 c5,.slice a6 n6 c6,.slice a7 n7 c7,.slice a8 n8 c8,.bool desc,.int .i64 lim] 42)
  have kk0:=cells14 hcW
  have HB:=hid hbW
  have HW0:=hid (h.below hbW)
  have HBX0:=hid (BoxW.mk' h hcW (Nat.le_refl _))
  have HT0:Hid (∀k,tb=some k→tb=some k∨W.heap.size≤k):=hid (fun k hk=>.inl hk)
  have HF0:Hid (FrW g tb W W):=hid (Spares.refl _ _)
  have HSL:=hid (x3.to (by decide) (R:=fun _=>False) (T:=fun b=>b<g) (Spares.of_new hbW) (fun b hb _=>⟨id,hb⟩) (fun _ _ e=>e.to (R:=fun _=>False) (T:=fun b=>b<g) (Spares.of_new hbW) (fun b hb _=>⟨id,hb⟩)))
  have HA6:=hid (x6.new hbW)
  have HL:Hid (∀(V:World) (tb':Option Nat) (L':List Tk) (m':Int),WrAt V g tb' L' d m'→FrW g tb W V→(∀k,tb'=some k→tb=some k∨W.heap.size≤k)→L'.length+(sepK (fxT [44]) (sets.map setK)).length≤1000000000→d≤m'→m'≤1000000000→Calls Tryz.prog 73 #[.pointer (some ⟨g,0,none⟩),.string ⟨#[44]⟩,.slice a3 n3 c3,.func (.func 74) #[.pointer (some ⟨g,0,none⟩)] #[]] V fun e w'=>e = .returned (.tuple #[])∧Wrote g tb' V w' (L'++sepK (fxT [44]) (sets.map setK)) d (max m' (d+((maxL (sets.map (fun x=>exD x.e)):Nat):Int)))):=hid (fun V tb' L' m' hV hF hT hl h1 h2=>listSe_w 74 (enters_of Tryz.func74 (by kernel_rfl) rfl) setK ((fun x=>exD x.e)) [44] (by decide) sets _ g tb' L' d m' V hV (HSL.out.to (by decide) hF (FrW.keeps HW0.out hF) (fun _ _ e=>e.to hF (FrW.keeps HW0.out hF))) h1 h2 (fun x hx=>by have:=maxL_mem (fun x=>exD x.e) sets x hx;first | omega | (dsimp only;omega) | (dsimp only at this;omega)) hl (hid (fun x hxm U tb2 L2 m2 hU cs hcs hl2 h3 h4=>by exact set_w x (hm2 x hxm) cs g tb2 L2 d m2 U hU hcs hl2 h0 h3 h4 (by have:=maxL_mem (fun x=>exD x.e) sets x hxm;omega))))
  have HW:Hid (∀(V:World) (tb':Option Nat) (L':List Tk) (m':Int),WrAt V g tb' L' d m'→FrW g tb W V→(∀k,tb'=some k→tb=some k∨W.heap.size≤k)→L'.length+(partK wh [[87,72,69,82,69]]).length≤1000000000→d≤m'→m'≤1000000000→Calls Tryz.prog 75 #[.pointer (some ⟨g,0,none⟩),.slice a6 n6 c6,.slice (some ⟨V.heap.size,0,none⟩) 1 1] (V.alloc (.cells #[.string ⟨#[87,72,69,82,69]⟩] 9)) fun e w'=>e = .returned (.tuple #[])∧Wrote g tb' V w' (L'++partK wh [[87,72,69,82,69]]) d (max m' (d+((exDs wh:Nat):Int)))):=hid (fun V tb' L' m' hV hF hT hl h1 h2=>part_new wh [[87,72,69,82,69]] (by decide) (by decide) _ g tb' L' d m' V hV (HA6.out.onW HW0.out hF) HWr h0 h1 h2 (fun x hx=>by have:=maxL_mem exD wh x hx;have:exD x≤exDs wh:=this;omega) hl)
  generalize maxL (sets.map fun x=>exD x.e)=DL at HL hd ⊢
  generalize sepK (fxT [44]) (sets.map setK)=TL at HL hL ⊢
  generalize exDs wh=DW at HW hd ⊢
  generalize partK wh [[87,72,69,82,69]]=TW at HW hL ⊢
  clear x1 x2 x3 x4 x5 x6 x7 x8 hbW hcW h hm2 hkB HSL HWr HA6
  go_enter Tryz.func31,Tryz.ntmps31
  have HX0:Hid (Calls Tryz.prog 68 #[.pointer (some ⟨g,0,none⟩),.slice (some ⟨W.heap.size,0,none⟩) 1 1] (W.alloc (.cells #[.string ⟨#[85,80,68,65,84,69]⟩] 9)) fun e w'=>e = .returned (.tuple #[])∧Wrote g tb W w' (L++wordsK [[85,80,68,65,84,69]]) d (m)):=hid (fixed_new g tb _ d _ [[85,80,68,65,84,69]] W HW0.out (by simp) (by decide) (by simp[wordsK]<;>omega))
  go_wp2_with fail
  refine HX0.out.mono ?_
  rintro e w1 ⟨rfl,tw1,hw,ht,hf⟩
  have HW1:=hid hw
  obtain⟨ht2,hf2⟩:=fr_step HT0.out HF0.out ht hf
  have HT1:=hid ht2
  have HF1:=hid hf2
  have HBX1:=hid (HBX0.out.on ht hf)
  have kk1:=cells14 HBX1.out.at'
  clear hw ht hf ht2 hf2 HX0 kk0
  have HX1:=hid (name_w g tw1 (L++wordsK [[85,80,68,65,84,69]]) d (m) w1.drew (HW1.out.below (Below.refl _ w1).drew) tn (by simp[wordsK]<;>omega))
  have HS0:Hid (w1.drew.cell? ⟨w.heap.size,1,none⟩=some (.string (str8 tn))):=hid ((cells14 (HBX1.out.below (Below.refl _ w1).drew).at').2.1)
  go_wp2_with fail
  go_region_held3 (fun w'=>w'.cell? ⟨w.heap.size,1,none⟩=some (.string (str8 tn))) (first | exact HS0.out | exact HS1.out)
   (first
    | (
     go_at_call 70;refine HX1.out.mono ?_
     rintro e w2 ⟨rfl,tw2,hw,ht,hf⟩
     have HW2:=hid hw
     obtain⟨ht2,hf2⟩:=fr_drew HT1.out HF1.out ht hf
     have HT2:=hid ht2
     have HF2:=hid hf2
     have HBX2:=hid ((HBX1.out.below (Below.refl _ w1).drew).on ht hf)
     have kk2:=cells14 HBX2.out.at'
     clear hw ht hf ht2 hf2 HX1 kk1
     have HS1:=hid (kk2.2.1))
    | fail)
  clear HS0 HS1
  have HX2:Hid (Calls Tryz.prog 68 #[.pointer (some ⟨g,0,none⟩),.slice (some ⟨w2.heap.size,0,none⟩) 1 1] (w2.alloc (.cells #[.string ⟨#[83,69,84]⟩] 9)) fun e w'=>e = .returned (.tuple #[])∧Wrote g tw2 w2 w' (L++wordsK [[85,80,68,65,84,69]]++[nmT tn]++wordsK [[83,69,84]]) d (m)):=hid (fixed_new g tw2 _ d _ [[83,69,84]] w2 HW2.out (by simp) (by decide) (by simp[wordsK]<;>omega))
  go_wp2_with fail
  refine HX2.out.mono ?_
  rintro e w3 ⟨rfl,tw3,hw,ht,hf⟩
  have HW3:=hid hw
  obtain⟨ht2,hf2⟩:=fr_step HT2.out HF2.out ht hf
  have HT3:=hid ht2
  have HF3:=hid hf2
  have HBX3:=hid (HBX2.out.on ht hf)
  have kk3:=cells14 HBX3.out.at'
  clear hw ht hf ht2 hf2 HX2 kk2
  have HX3:=hid (HL.out w3 tw3 (L++wordsK [[85,80,68,65,84,69]]++[nmT tn]++wordsK [[83,69,84]]) (m) HW3.out HF3.out HT3.out (by simp[wordsK]<;>omega) (by omega) (by omega))
  go_wp2_with fail
  refine HX3.out.mono ?_
  rintro e w4 ⟨rfl,tw4,hw,ht,hf⟩
  have HW4:=hid hw
  obtain⟨ht2,hf2⟩:=fr_step HT3.out HF3.out ht hf
  have HT4:=hid ht2
  have HF4:=hid hf2
  have HBX4:=hid (HBX3.out.on ht hf)
  have kk4:=cells14 HBX4.out.at'
  clear hw ht hf ht2 hf2 HX3 kk3
  have HX4:=hid (HW.out w4 tw4 (L++wordsK [[85,80,68,65,84,69]]++[nmT tn]++wordsK [[83,69,84]]++TL) (max (m) (d+((DL:Nat):Int))) HW4.out HF4.out HT4.out (by simp[wordsK]<;>omega) (by omega) (by omega))
  go_wp2_with fail
  refine HX4.out.mono ?_
  rintro e w5 ⟨rfl,tw5,hw,ht,hf⟩
  have HW5:=hid hw
  obtain⟨ht2,hf2⟩:=fr_step HT4.out HF4.out ht hf
  have HT5:=hid ht2
  have HF5:=hid hf2
  have HBX5:=hid (HBX4.out.on ht hf)
  have kk5:=cells14 HBX5.out.at'
  clear hw ht hf ht2 hf2 HX4 kk4
  have HQ:Hid (Wrote g tb w w5 (L++(fxT [85,80,68,65,84,69]::nmT tn::fxT [83,69,84]::(TL++TW))) d (max m (d+((max DL DW:Nat):Int)))):=hid (by
   have h9:Wrote g tb W w5 (L++wordsK [[85,80,68,65,84,69]]++[nmT tn]++wordsK [[83,69,84]]++TL++TW) d (max (max (m) (d+((DL:Nat):Int))) (d+((DW:Nat):Int))):=⟨tw5,HW5.out,HT5.out,HF5.out⟩
   have h8:=Wrote.new HB.out h9
   rw[show max (max (m) (d+((DL:Nat):Int))) (d+((DW:Nat):Int))=max m (d+((max DL DW:Nat):Int)) by omega] at h8
   rw[show L++wordsK [[85,80,68,65,84,69]]++[nmT tn]++wordsK [[83,69,84]]++TL++TW=L++(fxT [85,80,68,65,84,69]::nmT tn::fxT [83,69,84]::(TL++TW)) by simp[wordsK]] at h8
   exact h8)
  go_wp2
  exact bodyPost_end (v:=.tuple #[]) (by simp[results,Tryz.results31,go_sem]) rfl ⟨rfl,HQ.out⟩
 ·simp only[show ¬((5:Int)=1) by decide,show ¬((5:Int)=2) by decide,show ¬((5:Int)=3) by decide,show ¬((5:Int)=4) by decide,show ¬((5:Int)=6) by decide,if_true,if_false] at hkB hL hd ⊢
  have HWr:=areB_mem hkB
  have hL:L.length+(partK wh [[87,72,69,82,69]]).length+3≤1000000000:=by simp[wordsK] at hL;omega
  obtain⟨W,hW,hbW,hzW,hcW⟩:=box8 w (.cells #[.int .i64 5,.string (str8 tn),.slice a1 n1 c1,.string (str8 prim),.slice a2 n2 c2,.slice a3 n3 c3,.slice a4 n4 c4,.string (str8 jn),.slice a5 n5 c5,.slice a6 n6 c6,.slice a7 n7 c7,.slice a8 n8 c8,.bool desc,.int .i64 lim] 42)
  have kk0:=cells14 hcW
  have HB:=hid hbW
  have HW0:=hid (h.below hbW)
  have HBX0:=hid (BoxW.mk' h hcW (Nat.le_refl _))
  have HT0:Hid (∀k,tb=some k→tb=some k∨W.heap.size≤k):=hid (fun k hk=>.inl hk)
  have HF0:Hid (FrW g tb W W):=hid (Spares.refl _ _)
  have HA6:=hid (x6.new hbW)
  have HW:Hid (∀(V:World) (tb':Option Nat) (L':List Tk) (m':Int),WrAt V g tb' L' d m'→FrW g tb W V→(∀k,tb'=some k→tb=some k∨W.heap.size≤k)→L'.length+(partK wh [[87,72,69,82,69]]).length≤1000000000→d≤m'→m'≤1000000000→Calls Tryz.prog 75 #[.pointer (some ⟨g,0,none⟩),.slice a6 n6 c6,.slice (some ⟨V.heap.size,0,none⟩) 1 1] (V.alloc (.cells #[.string ⟨#[87,72,69,82,69]⟩] 9)) fun e w'=>e = .returned (.tuple #[])∧Wrote g tb' V w' (L'++partK wh [[87,72,69,82,69]]) d (max m' (d+((exDs wh:Nat):Int)))):=hid (fun V tb' L' m' hV hF hT hl h1 h2=>part_new wh [[87,72,69,82,69]] (by decide) (by decide) _ g tb' L' d m' V hV (HA6.out.onW HW0.out hF) HWr h0 h1 h2 (fun x hx=>by have:=maxL_mem exD wh x hx;have:exD x≤exDs wh:=this;omega) hl)
  generalize exDs wh=DW at HW hd ⊢
  generalize partK wh [[87,72,69,82,69]]=TW at HW hL ⊢
  clear x1 x2 x3 x4 x5 x6 x7 x8 hbW hcW h hkB HWr HA6
  go_enter Tryz.func31,Tryz.ntmps31
  have HX0:Hid (Calls Tryz.prog 68 #[.pointer (some ⟨g,0,none⟩),.slice (some ⟨W.heap.size,0,none⟩) 2 2] (W.alloc (.cells #[.string ⟨#[68,69,76,69,84,69]⟩,.string ⟨#[70,82,79,77]⟩] 9)) fun e w'=>e = .returned (.tuple #[])∧Wrote g tb W w' (L++wordsK [[68,69,76,69,84,69],[70,82,79,77]]) d (m)):=hid (fixed_new g tb _ d _ [[68,69,76,69,84,69],[70,82,79,77]] W HW0.out (by simp) (by decide) (by simp[wordsK]<;>omega))
  go_wp2_with fail
  refine HX0.out.mono ?_
  rintro e w1 ⟨rfl,tw1,hw,ht,hf⟩
  have HW1:=hid hw
  obtain⟨ht2,hf2⟩:=fr_step HT0.out HF0.out ht hf
  have HT1:=hid ht2
  have HF1:=hid hf2
  have HBX1:=hid (HBX0.out.on ht hf)
  have kk1:=cells14 HBX1.out.at'
  clear hw ht hf ht2 hf2 HX0 kk0
  have HX1:=hid (name_w g tw1 (L++wordsK [[68,69,76,69,84,69],[70,82,79,77]]) d (m) w1.drew (HW1.out.below (Below.refl _ w1).drew) tn (by simp[wordsK]<;>omega))
  have HS0:Hid (w1.drew.cell? ⟨w.heap.size,1,none⟩=some (.string (str8 tn))):=hid ((cells14 (HBX1.out.below (Below.refl _ w1).drew).at').2.1)
  go_wp2_with fail
  go_region_held3 (fun w'=>w'.cell? ⟨w.heap.size,1,none⟩=some (.string (str8 tn))) (first | exact HS0.out | exact HS1.out)
   (first
    | (
     go_at_call 70;refine HX1.out.mono ?_
     rintro e w2 ⟨rfl,tw2,hw,ht,hf⟩
     have HW2:=hid hw
     obtain⟨ht2,hf2⟩:=fr_drew HT1.out HF1.out ht hf
     have HT2:=hid ht2
     have HF2:=hid hf2
     have HBX2:=hid ((HBX1.out.below (Below.refl _ w1).drew).on ht hf)
     have kk2:=cells14 HBX2.out.at'
     clear hw ht hf ht2 hf2 HX1 kk1
     have HS1:=hid (kk2.2.1))
    | fail)
  clear HS0 HS1
  have HX2:=hid (HW.out w2 tw2 (L++wordsK [[68,69,76,69,84,69],[70,82,79,77]]++[nmT tn]) (m) HW2.out HF2.out HT2.out (by simp[wordsK]<;>omega) (by omega) (by omega))
  go_wp2_with fail
  refine HX2.out.mono ?_
  rintro e w3 ⟨rfl,tw3,hw,ht,hf⟩
  have HW3:=hid hw
  obtain⟨ht2,hf2⟩:=fr_step HT2.out HF2.out ht hf
  have HT3:=hid ht2
  have HF3:=hid hf2
  have HBX3:=hid (HBX2.out.on ht hf)
  have kk3:=cells14 HBX3.out.at'
  clear hw ht hf ht2 hf2 HX2 kk2
  have HQ:Hid (Wrote g tb w w3 (L++(wordsK [[68,69,76,69,84,69],[70,82,79,77]]++nmT tn::TW)) d (max m (d+((DW:Nat):Int)))):=hid (by
   have h9:Wrote g tb W w3 (L++wordsK [[68,69,76,69,84,69],[70,82,79,77]]++[nmT tn]++TW) d (max (m) (d+((DW:Nat):Int))):=⟨tw3,HW3.out,HT3.out,HF3.out⟩
   have h8:=Wrote.new HB.out h9
   rw[show max (m) (d+((DW:Nat):Int))=max m (d+((DW:Nat):Int)) by omega] at h8
   rw[show L++wordsK [[68,69,76,69,84,69],[70,82,79,77]]++[nmT tn]++TW=L++(wordsK [[68,69,76,69,84,69],[70,82,79,77]]++nmT tn::TW) by simp[wordsK]] at h8
   exact h8)
  go_wp2
  exact bodyPost_end (v:=.tuple #[]) (by simp[results,Tryz.results31,go_sem]) rfl ⟨rfl,HQ.out⟩
 ·simp only[show ¬((6:Int)=1) by decide,show ¬((6:Int)=2) by decide,show ¬((6:Int)=3) by decide,show ¬((6:Int)=4) by decide,show ¬((6:Int)=5) by decide,if_true,if_false] at hkB hL hd ⊢
  unfold selB at hkB
  simp only[Bool.and_eq_true] at hkB
  obtain⟨k1,k2,k3,k4,k5,k6,k7,k8⟩:=hkB
  unfold selK at hL ⊢
  dsimp only at *
  have hL8:=hL
  obtain⟨W,hW,hbW,hzW,hcW⟩:=box8 w (.cells #[.int .i64 6,.string (str8 tn),.slice a1 n1 c1,.string (str8 prim),.slice a2 n2 c2,.slice a3 n3 c3,.slice a4 n4 c4,.string (str8 jn),.slice a5 n5 c5,.slice a6 n6 c6,.slice a7 n7 c7,.slice a8 n8 c8,.bool desc,.int .i64 lim] 42)
  have kk0:=cells14 hcW
  have HB:=hid hbW
  have HW0:=hid (h.below hbW)
  have HBX0:=hid (BoxW.mk' h hcW (Nat.le_refl _))
  have HT0:Hid (∀k,tb=some k→tb=some k∨W.heap.size≤k):=hid (fun k hk=>.inl hk)
  have HF0:Hid (FrW g tb W W):=hid (Spares.refl _ _)
  have HX0:=hid (selects_w items on wh gr od k1 (areB_mem k3) (areB_mem k4) (fun x hx=>by have:=areB_mem k5 x hx;unfold colEB at this;simp only[Bool.and_eq_true] at this;exact this.2) (fun x hx=>by have:=areB_mem k6 x hx;unfold colEB at this;simp only[Bool.and_eq_true] at this;exact this.2) tn prim jn desc lim a1 a2 a3 a4 a5 a6 a7 a8 n1 n2 n3 n4 n5 n6 n7 n8 c1 c2 c3 c4 c5 c6 c7 c8 g tb L d m W HW0.out (x4.to (by decide) (R:=fun _=>False) (T:=fun b=>b<g) (Spares.of_new hbW) (fun b hb _=>⟨id,hb⟩) (fun _ _ e=>e.to (R:=fun _=>False) (T:=fun b=>b<g) (Spares.of_new hbW) (fun b hb _=>⟨id,hb⟩))) (x5.new hbW) (x6.new hbW) (x7.new hbW) (x8.new hbW) hL8 h0 hdm hm (by omega) (by omega) (by omega) (by omega) (by omega))
  generalize (fxT [83,69,76,69,67,84]::(sepK (fxT [44]) (items.map itK)++fxT [70,82,79,77]::nmT tn::((if jn=[] then [] else [fxT [74,79,73,78],nmT jn])++(partK on [[79,78]]++(partK wh [[87,72,69,82,69]]++(partK gr [[71,82,79,85,80],[66,89]]++(partK od [[79,82,68,69,82],[66,89]]++((if desc=true then [fxT [68,69,83,67]] else [])++(if lim = -1 then [] else [fxT [76,73,77,73,84],nuT lim])))))))))=T at HX0 ⊢
  generalize max (maxL (items.map itD)) (max (exDs on) (max (exDs wh) (max (exDs gr) (exDs od))))=DD at HX0 ⊢
  clear x1 x2 x3 x4 x5 x6 x7 x8 hbW hcW h k1 k2 k3 k4 k5 k6 k7 k8 hL hL8 hd
  go_enter Tryz.func31,Tryz.ntmps31
  go_wp2_with fail
  refine HX0.out.mono ?_
  rintro e w1 ⟨rfl,h1⟩
  have HQ:=hid (Wrote.new HB.out h1)
  clear h1 HX0
  go_wp2
  exact bodyPost_end (v:=.tuple #[]) (by simp[results,Tryz.results31,go_sem]) rfl ⟨rfl,HQ.out⟩
end Go.Proofs.YtnidnipiihhnaaaGreatDoor
