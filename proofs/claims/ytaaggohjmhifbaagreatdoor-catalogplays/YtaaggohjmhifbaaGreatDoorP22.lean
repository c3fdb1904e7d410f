/- Packed for the hand-in: WStmB -/
import Derived.Test.YtaaggohjmhifbaaGreatDoorP21
import Derived.Test.YtaaggohjmhifbaaGreatDoorP20
import Derived.Deep.RegionHeld3
namespace Go.Proofs.YtaaggohjmhifbaaGreatDoor
open Go.RowKit Go.Shelf
set_option linter.unusedSimpArgs false
set_option linter.unusedVariables false
set_option maxRecDepth 20000
set_option maxHeartbeats 8000000
theorem maxL_zero {α:Type}:∀l:List α,maxL (l.map fun _=>0)=0
 | []=>rfl
 | x::l=>by show max 0 (maxL (l.map fun _=>0))=0;rw[maxL_zero l];rfl
theorem tableColumn_w (c:Co) (hb:colB c=true) (g:Nat) (tb:Option Nat) (L:List Tk) (d m:Int) (w:World) (h:WrAt w g tb L d m) (hL:L.length+(colK c).length≤1000000000) (h0:0≤d) (hdm:d≤m) (hm:m≤1000000000) :
  Calls Tryz.prog 165 #[.pointer (some ⟨g,0,none⟩),.agg #[.string (str8 c.nm),.int .i64 c.k,.bool c.nn,.bool c.uq]] w fun e w'=>e = .returned (.tuple #[])∧Wrote g tb w w' (L++colK c) d m:=by
 obtain⟨cn,k,nn,uq⟩:=c
 unfold colB at hb
 simp only[Bool.and_eq_true,decide_eq_true_eq] at hb
 have hk:=hb.2
 clear hb
 dsimp only at hk ⊢
 rcases hk with rfl | rfl
 ·cases nn with
  |
   true =>
   cases uq with
   |
    true =>
    show Calls Tryz.prog 165 _ w fun e w'=>_∧Wrote g tb w w' (L++[nmT cn,fxT [73,78,84],fxT [78,79,84],fxT [78,85,76,76],fxT [85,78,73,81,85,69]]) d m
    have hL:L.length+5≤1000000000:=hL
    obtain⟨W,hW,hbW,hzW,hcW⟩:=box8 w (.cells #[.string (str8 cn),.int .i64 1,.bool true,.bool true] 37)
    have kk0:=cells4W hcW
    have HB:=hid hbW
    have HW0:=hid (h.below hbW)
    have HBX0:=hid (BoxW.mk' h hcW (Nat.le_refl _))
    have HT0:Hid (∀k,tb=some k→tb=some k∨W.heap.size≤k):=hid (fun k hk=>.inl hk)
    have HF0:Hid (FrW g tb W W):=hid (Spares.refl _ _)
    clear h hbW hcW
    go_enter Tryz.func165,Tryz.ntmps165
    have HX0:=hid (name_w g tb (L) d (m) W.drew (HW0.out.below (Below.refl _ W).drew) cn (by simp[wordsK]<;>omega))
    have HS0:Hid (W.drew.cell? ⟨w.heap.size,0,none⟩=some (.string (str8 cn))):=hid ((cells4W (HBX0.out.below (Below.refl _ W).drew).at').1)
    go_wp2_with fail
    go_region_held3 (fun w'=>w'.cell? ⟨w.heap.size,0,none⟩=some (.string (str8 cn))) (first | exact HS0.out | exact HS1.out)
     (first
      | (
       go_at_call 99;refine HX0.out.mono ?_
       rintro e w1 ⟨rfl,tw1,hw,ht,hf⟩
       have HW1:=hid hw
       obtain⟨ht2,hf2⟩:=fr_drew HT0.out HF0.out ht hf
       have HT1:=hid ht2
       have HF1:=hid hf2
       have HBX1:=hid ((HBX0.out.below (Below.refl _ W).drew).on ht hf)
       have kk1:=cells4W HBX1.out.at'
       clear hw ht hf ht2 hf2 HX0 kk0
       have HS1:=hid (kk1.1))
      | fail)
    clear HS0 HS1
    have HX1:Hid (Calls Tryz.prog 97 #[.pointer (some ⟨g,0,none⟩),.slice (some ⟨w1.heap.size,0,none⟩) 1 1] (w1.alloc (.cells #[.string ⟨#[73,78,84]⟩] 9)) fun e w'=>e = .returned (.tuple #[])∧Wrote g tw1 w1 w' (L++[nmT cn]++wordsK [[73,78,84]]) d (m)):=hid (fixed_new g tw1 _ d _ [[73,78,84]] w1 HW1.out (by simp) (by decide) (by simp[wordsK]<;>omega))
    go_wp2_with fail
    refine HX1.out.mono ?_
    rintro e w2 ⟨rfl,tw2,hw,ht,hf⟩
    have HW2:=hid hw
    obtain⟨ht2,hf2⟩:=fr_step HT1.out HF1.out ht hf
    have HT2:=hid ht2
    have HF2:=hid hf2
    have HBX2:=hid (HBX1.out.on ht hf)
    have kk2:=cells4W HBX2.out.at'
    clear hw ht hf ht2 hf2 HX1 kk1
    have HX2:Hid (Calls Tryz.prog 97 #[.pointer (some ⟨g,0,none⟩),.slice (some ⟨w2.heap.size,0,none⟩) 2 2] (w2.alloc (.cells #[.string ⟨#[78,79,84]⟩,.string ⟨#[78,85,76,76]⟩] 9)) fun e w'=>e = .returned (.tuple #[])∧Wrote g tw2 w2 w' (L++[nmT cn]++wordsK [[73,78,84]]++wordsK [[78,79,84],[78,85,76,76]]) d (m)):=hid (fixed_new g tw2 _ d _ [[78,79,84],[78,85,76,76]] w2 HW2.out (by simp) (by decide) (by simp[wordsK]<;>omega))
    go_wp2_with fail
    refine HX2.out.mono ?_
    rintro e w3 ⟨rfl,tw3,hw,ht,hf⟩
    have HW3:=hid hw
    obtain⟨ht2,hf2⟩:=fr_step HT2.out HF2.out ht hf
    have HT3:=hid ht2
    have HF3:=hid hf2
    have HBX3:=hid (HBX2.out.on ht hf)
    have kk3:=cells4W HBX3.out.at'
    clear hw ht hf ht2 hf2 HX2 kk2
    have HX3:Hid (Calls Tryz.prog 97 #[.pointer (some ⟨g,0,none⟩),.slice (some ⟨w3.heap.size,0,none⟩) 1 1] (w3.alloc (.cells #[.string ⟨#[85,78,73,81,85,69]⟩] 9)) fun e w'=>e = .returned (.tuple #[])∧Wrote g tw3 w3 w' (L++[nmT cn]++wordsK [[73,78,84]]++wordsK [[78,79,84],[78,85,76,76]]++wordsK [[85,78,73,81,85,69]]) d (m)):=hid (fixed_new g tw3 _ d _ [[85,78,73,81,85,69]] w3 HW3.out (by simp) (by decide) (by simp[wordsK]<;>omega))
    go_wp2_with fail
    refine HX3.out.mono ?_
    rintro e w4 ⟨rfl,tw4,hw,ht,hf⟩
    have HW4:=hid hw
    obtain⟨ht2,hf2⟩:=fr_step HT3.out HF3.out ht hf
    have HT4:=hid ht2
    have HF4:=hid hf2
    have HBX4:=hid (HBX3.out.on ht hf)
    have kk4:=cells4W HBX4.out.at'
    clear hw ht hf ht2 hf2 HX3 kk3
    have HQ:Hid (Wrote g tb w w4 (L++([nmT cn,fxT [73,78,84],fxT [78,79,84],fxT [78,85,76,76],fxT [85,78,73,81,85,69]])) d (m)):=hid (by
     have h9:Wrote g tb W w4 (L++[nmT cn]++wordsK [[73,78,84]]++wordsK [[78,79,84],[78,85,76,76]]++wordsK [[85,78,73,81,85,69]]) d (m):=⟨tw4,HW4.out,HT4.out,HF4.out⟩
     have h8:=Wrote.new HB.out h9
     skip
     rw[show L++[nmT cn]++wordsK [[73,78,84]]++wordsK [[78,79,84],[78,85,76,76]]++wordsK [[85,78,73,81,85,69]]=L++([nmT cn,fxT [73,78,84],fxT [78,79,84],fxT [78,85,76,76],fxT [85,78,73,81,85,69]]) by simp[wordsK]] at h8
     exact h8)
    go_wp2
    exact bodyPost_end (v:=.tuple #[]) (by simp[results,Tryz.results165,go_sem]) rfl ⟨rfl,HQ.out⟩
   |
    false =>
    show Calls Tryz.prog 165 _ w fun e w'=>_∧Wrote g tb w w' (L++[nmT cn,fxT [73,78,84],fxT [78,79,84],fxT [78,85,76,76]]) d m
    have hL:L.length+4≤1000000000:=hL
    obtain⟨W,hW,hbW,hzW,hcW⟩:=box8 w (.cells #[.string (str8 cn),.int .i64 1,.bool true,.bool false] 37)
    have kk0:=cells4W hcW
    have HB:=hid hbW
    have HW0:=hid (h.below hbW)
    have HBX0:=hid (BoxW.mk' h hcW (Nat.le_refl _))
    have HT0:Hid (∀k,tb=some k→tb=some k∨W.heap.size≤k):=hid (fun k hk=>.inl hk)
    have HF0:Hid (FrW g tb W W):=hid (Spares.refl _ _)
    clear h hbW hcW
    go_enter Tryz.func165,Tryz.ntmps165
    have HX0:=hid (name_w g tb (L) d (m) W.drew (HW0.out.below (Below.refl _ W).drew) cn (by simp[wordsK]<;>omega))
    have HS0:Hid (W.drew.cell? ⟨w.heap.size,0,none⟩=some (.string (str8 cn))):=hid ((cells4W (HBX0.out.below (Below.refl _ W).drew).at').1)
    go_wp2_with fail
    go_region_held3 (fun w'=>w'.cell? ⟨w.heap.size,0,none⟩=some (.string (str8 cn))) (first | exact HS0.out | exact HS1.out)
     (first
      | (
       go_at_call 99;refine HX0.out.mono ?_
       rintro e w1 ⟨rfl,tw1,hw,ht,hf⟩
       have HW1:=hid hw
       obtain⟨ht2,hf2⟩:=fr_drew HT0.out HF0.out ht hf
       have HT1:=hid ht2
       have HF1:=hid hf2
       have HBX1:=hid ((HBX0.out.below (Below.refl _ W).drew).on ht hf)
       have kk1:=cells4W HBX1.out.at'
       clear hw ht hf ht2 hf2 HX0 kk0
       have HS1:=hid (kk1.1))
      | fail)
    clear HS0 HS1
    have HX1:Hid (Calls Tryz.prog 97 #[.pointer (some ⟨g,0,none⟩),.slice (some ⟨w1.heap.size,0,none⟩) 1 1] (w1.alloc (.cells #[.string ⟨#[73,78,84]⟩] 9)) fun e w'=>e = .returned (.tuple #[])∧Wrote g tw1 w1 w' (L++[nmT cn]++wordsK [[73,78,84]]) d (m)):=hid (fixed_new g tw1 _ d _ [[73,78,84]] w1 HW1.out (by simp) (by decide) (by simp[wordsK]<;>omega))
    go_wp2_with fail
    refine HX1.out.mono ?_
    rintro e w2 ⟨rfl,tw2,hw,ht,hf⟩
    have HW2:=hid hw
    obtain⟨ht2,hf2⟩:=fr_step HT1.out HF1.out ht hf
    have HT2:=hid ht2
    have HF2:=hid hf2
    have HBX2:=hid (HBX1.out.on ht hf)
    have kk2:=cells4W HBX2.out.at'
    clear hw ht hf ht2 hf2 HX1 kk1
    have HX2:Hid (Calls Tryz.prog 97 #[.pointer (some ⟨g,0,none⟩),.slice (some ⟨w2.heap.size,0,none⟩) 2 2] (w2.alloc (.cells #[.string ⟨#[78,79,84]⟩,.string ⟨#[78,85,76,76]⟩] 9)) fun e w'=>e = .returned (.tuple #[])∧Wrote g tw2 w2 w' (L++[nmT cn]++wordsK [[73,78,84]]++wordsK [[78,79,84],[78,85,76,76]]) d (m)):=hid (fixed_new g tw2 _ d _ [[78,79,84],[78,85,76,76]] w2 HW2.out (by simp) (by decide) (by simp[wordsK]<;>omega))
    go_wp2_with fail
    refine HX2.out.mono ?_
    rintro e w3 ⟨rfl,tw3,hw,ht,hf⟩
    have HW3:=hid hw
    obtain⟨ht2,hf2⟩:=fr_step HT2.out HF2.out ht hf
    have HT3:=hid ht2
    have HF3:=hid hf2
    have HBX3:=hid (HBX2.out.on ht hf)
    have kk3:=cells4W HBX3.out.at'
    clear hw ht hf ht2 hf2 HX2 kk2
    have HQ:Hid (Wrote g tb w w3 (L++([nmT cn,fxT [73,78,84],fxT [78,79,84],fxT [78,85,76,76]])) d (m)):=hid (by
     have h9:Wrote g tb W w3 (L++[nmT cn]++wordsK [[73,78,84]]++wordsK [[78,79,84],[78,85,76,76]]) d (m):=⟨tw3,HW3.out,HT3.out,HF3.out⟩
     have h8:=Wrote.new HB.out h9
     skip
     rw[show L++[nmT cn]++wordsK [[73,78,84]]++wordsK [[78,79,84],[78,85,76,76]]=L++([nmT cn,fxT [73,78,84],fxT [78,79,84],fxT [78,85,76,76]]) by simp[wordsK]] at h8
     exact h8)
    go_wp2
    exact bodyPost_end (v:=.tuple #[]) (by simp[results,Tryz.results165,go_sem]) rfl ⟨rfl,HQ.out⟩
  |
   false =>
   cases uq with
   |
    true =>
    show Calls Tryz.prog 165 _ w fun e w'=>_∧Wrote g tb w w' (L++[nmT cn,fxT [73,78,84],fxT [85,78,73,81,85,69]]) d m
    have hL:L.length+3≤1000000000:=hL
    obtain⟨W,hW,hbW,hzW,hcW⟩:=box8 w (.cells #[.string (str8 cn),.int .i64 1,.bool false,.bool true] 37)
    have kk0:=cells4W hcW
    have HB:=hid hbW
    have HW0:=hid (h.below hbW)
    have HBX0:=hid (BoxW.mk' h hcW (Nat.le_refl _))
    have HT0:Hid (∀k,tb=some k→tb=some k∨W.heap.size≤k):=hid (fun k hk=>.inl hk)
    have HF0:Hid (FrW g tb W W):=hid (Spares.refl _ _)
    clear h hbW hcW
    go_enter Tryz.func165,Tryz.ntmps165
    have HX0:=hid (name_w g tb (L) d (m) W.drew (HW0.out.below (Below.refl _ W).drew) cn (by simp[wordsK]<;>omega))
    have HS0:Hid (W.drew.cell? ⟨w.heap.size,0,none⟩=some (.string (str8 cn))):=hid ((cells4W (HBX0.out.below (Below.refl _ W).drew).at').1)
    go_wp2_with fail
    go_region_held3 (fun w'=>w'.cell? ⟨w.heap.size,0,none⟩=some (.string (str8 cn))) (first | exact HS0.out | exact HS1.out)
     (first
      | (
       go_at_call 99;refine HX0.out.mono ?_
       rintro e w1 ⟨rfl,tw1,hw,ht,hf⟩
       have HW1:=hid hw
       obtain⟨ht2,hf2⟩:=fr_drew HT0.out HF0.out ht hf
       have HT1:=hid ht2
       have HF1:=hid hf2
       have HBX1:=hid ((HBX0.out.below (Below.refl _ W).drew).on ht hf)
       have kk1:=cells4W HBX1.out.at'
       clear hw ht hf ht2 hf2 HX0 kk0
       have HS1:=hid (kk1.1))
      | fail)
    clear HS0 HS1
    have HX1:Hid (Calls Tryz.prog 97 #[.pointer (some ⟨g,0,none⟩),.slice (some ⟨w1.heap.size,0,none⟩) 1 1] (w1.alloc (.cells #[.string ⟨#[73,78,84]⟩] 9)) fun e w'=>e = .returned (.tuple #[])∧Wrote g tw1 w1 w' (L++[nmT cn]++wordsK [[73,78,84]]) d (m)):=hid (fixed_new g tw1 _ d _ [[73,78,84]] w1 HW1.out (by simp) (by decide) (by simp[wordsK]<;>omega))
    go_wp2_with fail
    refine HX1.out.mono ?_
    rintro e w2 ⟨rfl,tw2,hw,ht,hf⟩
    have HW2:=hid hw
    obtain⟨ht2,hf2⟩:=fr_step HT1.out HF1.out ht hf
    have HT2:=hid ht2
    have HF2:=hid hf2
    have HBX2:=hid (HBX1.out.on ht hf)
    have kk2:=cells4W HBX2.out.at'
    clear hw ht hf ht2 hf2 HX1 kk1
    have HX2:Hid (Calls Tryz.prog 97 #[.pointer (some ⟨g,0,none⟩),.slice (some ⟨w2.heap.size,0,none⟩) 1 1] (w2.alloc (.cells #[.string ⟨#[85,78,73,81,85,69]⟩] 9)) fun e w'=>e = .returned (.tuple #[])∧Wrote g tw2 w2 w' (L++[nmT cn]++wordsK [[73,78,84]]++wordsK [[85,78,73,81,85,69]]) d (m)):=hid (fixed_new g tw2 _ d _ [[85,78,73,81,85,69]] w2 HW2.out (by simp) (by decide) (by simp[wordsK]<;>omega))
    go_wp2_with fail
    refine HX2.out.mono ?_
    rintro e w3 ⟨rfl,tw3,hw,ht,hf⟩
    have HW3:=hid hw
    obtain⟨ht2,hf2⟩:=fr_step HT2.out HF2.out ht hf
    have HT3:=hid ht2
    have HF3:=hid hf2
    have HBX3:=hid (HBX2.out.on ht hf)
    have kk3:=cells4W HBX3.out.at'
    clear hw ht hf ht2 hf2 HX2 kk2
    have HQ:Hid (Wrote g tb w w3 (L++([nmT cn,fxT [73,78,84],fxT [85,78,73,81,85,69]])) d (m)):=hid (by
     have h9:Wrote g tb W w3 (L++[nmT cn]++wordsK [[73,78,84]]++wordsK [[85,78,73,81,85,69]]) d (m):=⟨tw3,HW3.out,HT3.out,HF3.out⟩
     have h8:=Wrote.new HB.out h9
     skip
     rw[show L++[nmT cn]++wordsK [[73,78,84]]++wordsK [[85,78,73,81,85,69]]=L++([nmT cn,fxT [73,78,84],fxT [85,78,73,81,85,69]]) by simp[wordsK]] at h8
     exact h8)
    go_wp2
    exact bodyPost_end (v:=.tuple #[]) (by simp[results,Tryz.results165,go_sem]) rfl ⟨rfl,HQ.out⟩
   |
    false =>
    show Calls Tryz.prog 165 _ w fun e w'=>_∧Wrote g tb w w' (L++[nmT cn,fxT [73,78,84]]) d m
    have hL:L.length+2≤1000000000:=hL
    obtain⟨W,hW,hbW,hzW,hcW⟩:=box8 w (.cells #[.string (str8 cn),.int .i64 1,.bool false,.bool false] 37)
    have kk0:=cells4W hcW
    have HB:=hid hbW
    have HW0:=hid (h.below hbW)
    have HBX0:=hid (BoxW.mk' h hcW (Nat.le_refl _))
    have HT0:Hid (∀k,tb=some k→tb=some k∨W.heap.size≤k):=hid (fun k hk=>.inl hk)
    have HF0:Hid (FrW g tb W W):=hid (Spares.refl _ _)
    clear h hbW hcW
    go_enter Tryz.func165,Tryz.ntmps165
    have HX0:=hid (name_w g tb (L) d (m) W.drew (HW0.out.below (Below.refl _ W).drew) cn (by simp[wordsK]<;>omega))
    have HS0:Hid (W.drew.cell? ⟨w.heap.size,0,none⟩=some (.string (str8 cn))):=hid ((cells4W (HBX0.out.below (Below.refl _ W).drew).at').1)
    go_wp2_with fail
    go_region_held3 (fun w'=>w'.cell? ⟨w.heap.size,0,none⟩=some (.string (str8 cn))) (first | exact HS0.out | exact HS1.out)
     (first
      | (
       go_at_call 99;refine HX0.out.mono ?_
       rintro e w1 ⟨rfl,tw1,hw,ht,hf⟩
       have HW1:=hid hw
       obtain⟨ht2,hf2⟩:=fr_drew HT0.out HF0.out ht hf
       have HT1:=hid ht2
       have HF1:=hid hf2
       have HBX1:=hid ((HBX0.out.below (Below.refl _ W).drew).on ht hf)
       have kk1:=cells4W HBX1.out.at'
       clear hw ht hf ht2 hf2 HX0 kk0
       have HS1:=hid (kk1.1))
      | fail)
    clear HS0 HS1
    have HX1:Hid (Calls Tryz.prog 97 #[.pointer (some ⟨g,0,none⟩),.slice (some ⟨w1.heap.size,0,none⟩) 1 1] (w1.alloc (.cells #[.string ⟨#[73,78,84]⟩] 9)) fun e w'=>e = .returned (.tuple #[])∧Wrote g tw1 w1 w' (L++[nmT cn]++wordsK [[73,78,84]]) d (m)):=hid (fixed_new g tw1 _ d _ [[73,78,84]] w1 HW1.out (by simp) (by decide) (by simp[wordsK]<;>omega))
    go_wp2_with fail
    refine HX1.out.mono ?_
    rintro e w2 ⟨rfl,tw2,hw,ht,hf⟩
    have HW2:=hid hw
    obtain⟨ht2,hf2⟩:=fr_step HT1.out HF1.out ht hf
    have HT2:=hid ht2
    have HF2:=hid hf2
    have HBX2:=hid (HBX1.out.on ht hf)
    have kk2:=cells4W HBX2.out.at'
    clear hw ht hf ht2 hf2 HX1 kk1
    have HQ:Hid (Wrote g tb w w2 (L++([nmT cn,fxT [73,78,84]])) d (m)):=hid (by
     have h9:Wrote g tb W w2 (L++[nmT cn]++wordsK [[73,78,84]]) d (m):=⟨tw2,HW2.out,HT2.out,HF2.out⟩
     have h8:=Wrote.new HB.out h9
     skip
     rw[show L++[nmT cn]++wordsK [[73,78,84]]=L++([nmT cn,fxT [73,78,84]]) by simp[wordsK]] at h8
     exact h8)
    go_wp2
    exact bodyPost_end (v:=.tuple #[]) (by simp[results,Tryz.results165,go_sem]) rfl ⟨rfl,HQ.out⟩
 ·cases nn with
  |
   true =>
   cases uq with
   |
    true =>
    show Calls Tryz.prog 165 _ w fun e w'=>_∧Wrote g tb w w' (L++[nmT cn,fxT [84,69,88,84],fxT [78,79,84],fxT [78,85,76,76],fxT [85,78,73,81,85,69]]) d m
    have hL:L.length+5≤1000000000:=hL
    obtain⟨W,hW,hbW,hzW,hcW⟩:=box8 w (.cells #[.string (str8 cn),.int .i64 2,.bool true,.bool true] 37)
    have kk0:=cells4W hcW
    have HB:=hid hbW
    have HW0:=hid (h.below hbW)
    have HBX0:=hid (BoxW.mk' h hcW (Nat.le_refl _))
    have HT0:Hid (∀k,tb=some k→tb=some k∨W.heap.size≤k):=hid (fun k hk=>.inl hk)
    have HF0:Hid (FrW g tb W W):=hid (Spares.refl _ _)
    clear h hbW hcW
    go_enter Tryz.func165,Tryz.ntmps165
    have HX0:=hid (name_w g tb (L) d (m) W.drew (HW0.out.below (Below.refl _ W).drew) cn (by simp[wordsK]<;>omega))
    have HS0:Hid (W.drew.cell? ⟨w.heap.size,0,none⟩=some (.string (str8 cn))):=hid ((cells4W (HBX0.out.below (Below.refl _ W).drew).at').1)
    go_wp2_with fail
    go_region_held3 (fun w'=>w'.cell? ⟨w.heap.size,0,none⟩=some (.string (str8 cn))) (first | exact HS0.out | exact HS1.out)
     (first
      | (
       go_at_call 99;refine HX0.out.mono ?_
       rintro e w1 ⟨rfl,tw1,hw,ht,hf⟩
       have HW1:=hid hw
       obtain⟨ht2,hf2⟩:=fr_drew HT0.out HF0.out ht hf
       have HT1:=hid ht2
       have HF1:=hid hf2
       have HBX1:=hid ((HBX0.out.below (Below.refl _ W).drew).on ht hf)
       have kk1:=cells4W HBX1.out.at'
       clear hw ht hf ht2 hf2 HX0 kk0
       have HS1:=hid (kk1.1))
      | fail)
    clear HS0 HS1
    have HX1:Hid (Calls Tryz.prog 97 #[.pointer (some ⟨g,0,none⟩),.slice (some ⟨w1.heap.size,0,none⟩) 1 1] (w1.alloc (.cells #[.string ⟨#[84,69,88,84]⟩] 9)) fun e w'=>e = .returned (.tuple #[])∧Wrote g tw1 w1 w' (L++[nmT cn]++wordsK [[84,69,88,84]]) d (m)):=hid (fixed_new g tw1 _ d _ [[84,69,88,84]] w1 HW1.out (by simp) (by decide) (by simp[wordsK]<;>omega))
    go_wp2_with fail
    refine HX1.out.mono ?_
    rintro e w2 ⟨rfl,tw2,hw,ht,hf⟩
    have HW2:=hid hw
    obtain⟨ht2,hf2⟩:=fr_step HT1.out HF1.out ht hf
    have HT2:=hid ht2
    have HF2:=hid hf2
    have HBX2:=hid (HBX1.out.on ht hf)
    have kk2:=cells4W HBX2.out.at'
    clear hw ht hf ht2 hf2 HX1 kk1
    have HX2:Hid (Calls Tryz.prog 97 #[.pointer (some ⟨g,0,none⟩),.slice (some ⟨w2.heap.size,0,none⟩) 2 2] (w2.alloc (.cells #[.string ⟨#[78,79,84]⟩,.string ⟨#[78,85,76,76]⟩] 9)) fun e w'=>e = .returned (.tuple #[])∧Wrote g tw2 w2 w' (L++[nmT cn]++wordsK [[84,69,88,84]]++wordsK [[78,79,84],[78,85,76,76]]) d (m)):=hid (fixed_new g tw2 _ d _ [[78,79,84],[78,85,76,76]] w2 HW2.out (by simp) (by decide) (by simp[wordsK]<;>omega))
    go_wp2_with fail
    refine HX2.out.mono ?_
    rintro e w3 ⟨rfl,tw3,hw,ht,hf⟩
    have HW3:=hid hw
    obtain⟨ht2,hf2⟩:=fr_step HT2.out HF2.out ht hf
    have HT3:=hid ht2
    have HF3:=hid hf2
    have HBX3:=hid (HBX2.out.on ht hf)
    have kk3:=cells4W HBX3.out.at'
    clear hw ht hf ht2 hf2 HX2 kk2
    have HX3:Hid (Calls Tryz.prog 97 #[.pointer (some ⟨g,0,none⟩),.slice (some ⟨w3.heap.size,0,none⟩) 1 1] (w3.alloc (.cells #[.string ⟨#[85,78,73,81,85,69]⟩] 9)) fun e w'=>e = .returned (.tuple #[])∧Wrote g tw3 w3 w' (L++[nmT cn]++wordsK [[84,69,88,84]]++wordsK [[78,79,84],[78,85,76,76]]++wordsK [[85,78,73,81,85,69]]) d (m)):=hid (fixed_new g tw3 _ d _ [[85,78,73,81,85,69]] w3 HW3.out (by simp) (by decide) (by simp[wordsK]<;>omega))
    go_wp2_with fail
    refine HX3.out.mono ?_
    rintro e w4 ⟨rfl,tw4,hw,ht,hf⟩
    have HW4:=hid hw
    obtain⟨ht2,hf2⟩:=fr_step HT3.out HF3.out ht hf
    have HT4:=hid ht2
    have HF4:=hid hf2
    have HBX4:=hid (HBX3.out.on ht hf)
    have kk4:=cells4W HBX4.out.at'
    clear hw ht hf ht2 hf2 HX3 kk3
    have HQ:Hid (Wrote g tb w w4 (L++([nmT cn,fxT [84,69,88,84],fxT [78,79,84],fxT [78,85,76,76],fxT [85,78,73,81,85,69]])) d (m)):=hid (by
     have h9:Wrote g tb W w4 (L++[nmT cn]++wordsK [[84,69,88,84]]++wordsK [[78,79,84],[78,85,76,76]]++wordsK [[85,78,73,81,85,69]]) d (m):=⟨tw4,HW4.out,HT4.out,HF4.out⟩
     have h8:=Wrote.new HB.out h9
     skip
     rw[show L++[nmT cn]++wordsK [[84,69,88,84]]++wordsK [[78,79,84],[78,85,76,76]]++wordsK [[85,78,73,81,85,69]]=L++([nmT cn,fxT [84,69,88,84],fxT [78,79,84],fxT [78,85,76,76],fxT [85,78,73,81,85,69]]) by simp[wordsK]] at h8
     exact h8)
    go_wp2
    exact bodyPost_end (v:=.tuple #[]) (by simp[results,Tryz.results165,go_sem]) rfl ⟨rfl,HQ.out⟩
   |
    false =>
    show Calls Tryz.prog 165 _ w fun e w'=>_∧Wrote g tb w w' (L++[nmT cn,fxT [84,69,88,84],fxT [78,79,84],fxT [78,85,76,76]]) d m
    have hL:L.length+4≤1000000000:=hL
    obtain⟨W,hW,hbW,hzW,hcW⟩:=box8 w (.cells #[.string (str8 cn),.int .i64 2,.bool true,.bool false] 37)
    have kk0:=cells4W hcW
    have HB:=hid hbW
    have HW0:=hid (h.below hbW)
    have HBX0:=hid (BoxW.mk' h hcW (Nat.le_refl _))
    have HT0:Hid (∀k,tb=some k→tb=some k∨W.heap.size≤k):=hid (fun k hk=>.inl hk)
    have HF0:Hid (FrW g tb W W):=hid (Spares.refl _ _)
    clear h hbW hcW
    go_enter Tryz.func165,Tryz.ntmps165
    have HX0:=hid (name_w g tb (L) d (m) W.drew (HW0.out.below (Below.refl _ W).drew) cn (by simp[wordsK]<;>omega))
    have HS0:Hid (W.drew.cell? ⟨w.heap.size,0,none⟩=some (.string (str8 cn))):=hid ((cells4W (HBX0.out.below (Below.refl _ W).drew).at').1)
    go_wp2_with fail
    go_region_held3 (fun w'=>w'.cell? ⟨w.heap.size,0,none⟩=some (.string (str8 cn))) (first | exact HS0.out | exact HS1.out)
     (first
      | (
       go_at_call 99;refine HX0.out.mono ?_
       rintro e w1 ⟨rfl,tw1,hw,ht,hf⟩
       have HW1:=hid hw
       obtain⟨ht2,hf2⟩:=fr_drew HT0.out HF0.out ht hf
       have HT1:=hid ht2
       have HF1:=hid hf2
       have HBX1:=hid ((HBX0.out.below (Below.refl _ W).drew).on ht hf)
       have kk1:=cells4W HBX1.out.at'
       clear hw ht hf ht2 hf2 HX0 kk0
       have HS1:=hid (kk1.1))
      | fail)
    clear HS0 HS1
    have HX1:Hid (Calls Tryz.prog 97 #[.pointer (some ⟨g,0,none⟩),.slice (some ⟨w1.heap.size,0,none⟩) 1 1] (w1.alloc (.cells #[.string ⟨#[84,69,88,84]⟩] 9)) fun e w'=>e = .returned (.tuple #[])∧Wrote g tw1 w1 w' (L++[nmT cn]++wordsK [[84,69,88,84]]) d (m)):=hid (fixed_new g tw1 _ d _ [[84,69,88,84]] w1 HW1.out (by simp) (by decide) (by simp[wordsK]<;>omega))
    go_wp2_with fail
    refine HX1.out.mono ?_
    rintro e w2 ⟨rfl,tw2,hw,ht,hf⟩
    have HW2:=hid hw
    obtain⟨ht2,hf2⟩:=fr_step HT1.out HF1.out ht hf
    have HT2:=hid ht2
    have HF2:=hid hf2
    have HBX2:=hid (HBX1.out.on ht hf)
    have kk2:=cells4W HBX2.out.at'
    clear hw ht hf ht2 hf2 HX1 kk1
    have HX2:Hid (Calls Tryz.prog 97 #[.pointer (some ⟨g,0,none⟩),.slice (some ⟨w2.heap.size,0,none⟩) 2 2] (w2.alloc (.cells #[.string ⟨#[78,79,84]⟩,.string ⟨#[78,85,76,76]⟩] 9)) fun e w'=>e = .returned (.tuple #[])∧Wrote g tw2 w2 w' (L++[nmT cn]++wordsK [[84,69,88,84]]++wordsK [[78,79,84],[78,85,76,76]]) d (m)):=hid (fixed_new g tw2 _ d _ [[78,79,84],[78,85,76,76]] w2 HW2.out (by simp) (by decide) (by simp[wordsK]<;>omega))
    go_wp2_with fail
    refine HX2.out.mono ?_
    rintro e w3 ⟨rfl,tw3,hw,ht,hf⟩
    have HW3:=hid hw
    obtain⟨ht2,hf2⟩:=fr_step HT2.out HF2.out ht hf
    have HT3:=hid ht2
    have HF3:=hid hf2
    have HBX3:=hid (HBX2.out.on ht hf)
    have kk3:=cells4W HBX3.out.at'
    clear hw ht hf ht2 hf2 HX2 kk2
    have HQ:Hid (Wrote g tb w w3 (L++([nmT cn,fxT [84,69,88,84],fxT [78,79,84],fxT [78,85,76,76]])) d (m)):=hid (by
     have h9:Wrote g tb W w3 (L++[nmT cn]++wordsK [[84,69,88,84]]++wordsK [[78,79,84],[78,85,76,76]]) d (m):=⟨tw3,HW3.out,HT3.out,HF3.out⟩
     have h8:=Wrote.new HB.out h9
     skip
     rw[show L++[nmT cn]++wordsK [[84,69,88,84]]++wordsK [[78,79,84],[78,85,76,76]]=L++([nmT cn,fxT [84,69,88,84],fxT [78,79,84],fxT [78,85,76,76]]) by simp[wordsK]] at h8
     exact h8)
    go_wp2
    exact bodyPost_end (v:=.tuple #[]) (by simp[results,Tryz.results165,go_sem]) rfl ⟨rfl,HQ.out⟩
  |
   false =>
   cases uq with
   |
    true =>
    show Calls Tryz.prog 165 _ w fun e w'=>_∧Wrote g tb w w' (L++[nmT cn,fxT [84,69,88,84],fxT [85,78,73,81,85,69]]) d m
    have hL:L.length+3≤1000000000:=hL
    obtain⟨W,hW,hbW,hzW,hcW⟩:=box8 w (.cells #[.string (str8 cn),.int .i64 2,.bool false,.bool true] 37)
    have kk0:=cells4W hcW
    have HB:=hid hbW
    have HW0:=hid (h.below hbW)
    have HBX0:=hid (BoxW.mk' h hcW (Nat.le_refl _))
    have HT0:Hid (∀k,tb=some k→tb=some k∨W.heap.size≤k):=hid (fun k hk=>.inl hk)
    have HF0:Hid (FrW g tb W W):=hid (Spares.refl _ _)
    clear h hbW hcW
    go_enter Tryz.func165,Tryz.ntmps165
    have HX0:=hid (name_w g tb (L) d (m) W.drew (HW0.out.below (Below.refl _ W).drew) cn (by simp[wordsK]<;>omega))
    have HS0:Hid (W.drew.cell? ⟨w.heap.size,0,none⟩=some (.string (str8 cn))):=hid ((cells4W (HBX0.out.below (Below.refl _ W).drew).at').1)
    go_wp2_with fail
    go_region_held3 (fun w'=>w'.cell? ⟨w.heap.size,0,none⟩=some (.string (str8 cn))) (first | exact HS0.out | exact HS1.out)
     (first
      | (
       go_at_call 99;refine HX0.out.mono ?_
       rintro e w1 ⟨rfl,tw1,hw,ht,hf⟩
       have HW1:=hid hw
       obtain⟨ht2,hf2⟩:=fr_drew HT0.out HF0.out ht hf
       have HT1:=hid ht2
       have HF1:=hid hf2
       have HBX1:=hid ((HBX0.out.below (Below.refl _ W).drew).on ht hf)
       have kk1:=cells4W HBX1.out.at'
       clear hw ht hf ht2 hf2 HX0 kk0
       have HS1:=hid (kk1.1))
      | fail)
    clear HS0 HS1
    have HX1:Hid (Calls Tryz.prog 97 #[.pointer (some ⟨g,0,none⟩),.slice (some ⟨w1.heap.size,0,none⟩) 1 1] (w1.alloc (.cells #[.string ⟨#[84,69,88,84]⟩] 9)) fun e w'=>e = .returned (.tuple #[])∧Wrote g tw1 w1 w' (L++[nmT cn]++wordsK [[84,69,88,84]]) d (m)):=hid (fixed_new g tw1 _ d _ [[84,69,88,84]] w1 HW1.out (by simp) (by decide) (by simp[wordsK]<;>omega))
    go_wp2_with fail
    refine HX1.out.mono ?_
    rintro e w2 ⟨rfl,tw2,hw,ht,hf⟩
    have HW2:=hid hw
    obtain⟨ht2,hf2⟩:=fr_step HT1.out HF1.out ht hf
    have HT2:=hid ht2
    have HF2:=hid hf2
    have HBX2:=hid (HBX1.out.on ht hf)
    have kk2:=cells4W HBX2.out.at'
    clear hw ht hf ht2 hf2 HX1 kk1
    have HX2:Hid (Calls Tryz.prog 97 #[.pointer (some ⟨g,0,none⟩),.slice (some ⟨w2.heap.size,0,none⟩) 1 1] (w2.alloc (.cells #[.string ⟨#[85,78,73,81,85,69]⟩] 9)) fun e w'=>e = .returned (.tuple #[])∧Wrote g tw2 w2 w' (L++[nmT cn]++wordsK [[84,69,88,84]]++wordsK [[85,78,73,81,85,69]]) d (m)):=hid (fixed_new g tw2 _ d _ [[85,78,73,81,85,69]] w2 HW2.out (by simp) (by decide) (by simp[wordsK]<;>omega))
    go_wp2_with fail
    refine HX2.out.mono ?_
    rintro e w3 ⟨rfl,tw3,hw,ht,hf⟩
    have HW3:=hid hw
    obtain⟨ht2,hf2⟩:=fr_step HT2.out HF2.out ht hf
    have HT3:=hid ht2
    have HF3:=hid hf2
    have HBX3:=hid (HBX2.out.on ht hf)
    have kk3:=cells4W HBX3.out.at'
    clear hw ht hf ht2 hf2 HX2 kk2
    have HQ:Hid (Wrote g tb w w3 (L++([nmT cn,fxT [84,69,88,84],fxT [85,78,73,81,85,69]])) d (m)):=hid (by
     have h9:Wrote g tb W w3 (L++[nmT cn]++wordsK [[84,69,88,84]]++wordsK [[85,78,73,81,85,69]]) d (m):=⟨tw3,HW3.out,HT3.out,HF3.out⟩
     have h8:=Wrote.new HB.out h9
     skip
     rw[show L++[nmT cn]++wordsK [[84,69,88,84]]++wordsK [[85,78,73,81,85,69]]=L++([nmT cn,fxT [84,69,88,84],fxT [85,78,73,81,85,69]]) by simp[wordsK]] at h8
     exact h8)
    go_wp2
    exact bodyPost_end (v:=.tuple #[]) (by simp[results,Tryz.results165,go_sem]) rfl ⟨rfl,HQ.out⟩
   |
    false =>
    show Calls Tryz.prog 165 _ w fun e w'=>_∧Wrote g tb w w' (L++[nmT cn,fxT [84,69,88,84]]) d m
    have hL:L.length+2≤1000000000:=hL
    obtain⟨W,hW,hbW,hzW,hcW⟩:=box8 w (.cells #[.string (str8 cn),.int .i64 2,.bool false,.bool false] 37)
    have kk0:=cells4W hcW
    have HB:=hid hbW
    have HW0:=hid (h.below hbW)
    have HBX0:=hid (BoxW.mk' h hcW (Nat.le_refl _))
    have HT0:Hid (∀k,tb=some k→tb=some k∨W.heap.size≤k):=hid (fun k hk=>.inl hk)
    have HF0:Hid (FrW g tb W W):=hid (Spares.refl _ _)
    clear h hbW hcW
    go_enter Tryz.func165,Tryz.ntmps165
    have HX0:=hid (name_w g tb (L) d (m) W.drew (HW0.out.below (Below.refl _ W).drew) cn (by simp[wordsK]<;>omega))
    have HS0:Hid (W.drew.cell? ⟨w.heap.size,0,none⟩=some (.string (str8 cn))):=hid ((cells4W (HBX0.out.below (Below.refl _ W).drew).at').1)
    go_wp2_with fail
    go_region_held3 (fun w'=>w'.cell? ⟨w.heap.size,0,none⟩=some (.string (str8 cn))) (first | exact HS0.out | exact HS1.out)
     (first
      | (
       go_at_call 99;refine HX0.out.mono ?_
       rintro e w1 ⟨rfl,tw1,hw,ht,hf⟩
       have HW1:=hid hw
       obtain⟨ht2,hf2⟩:=fr_drew HT0.out HF0.out ht hf
       have HT1:=hid ht2
       have HF1:=hid hf2
       have HBX1:=hid ((HBX0.out.below (Below.refl _ W).drew).on ht hf)
       have kk1:=cells4W HBX1.out.at'
       clear hw ht hf ht2 hf2 HX0 kk0
       have HS1:=hid (kk1.1))
      | fail)
    clear HS0 HS1
    have HX1:Hid (Calls Tryz.prog 97 #[.pointer (some ⟨g,0,none⟩),.slice (some ⟨w1.heap.size,0,none⟩) 1 1] (w1.alloc (.cells #[.string ⟨#[84,69,88,84]⟩] 9)) fun e w'=>e = .returned (.tuple #[])∧Wrote g tw1 w1 w' (L++[nmT cn]++wordsK [[84,69,88,84]]) d (m)):=hid (fixed_new g tw1 _ d _ [[84,69,88,84]] w1 HW1.out (by simp) (by decide) (by simp[wordsK]<;>omega))
    go_wp2_with fail
    refine HX1.out.mono ?_
    rintro e w2 ⟨rfl,tw2,hw,ht,hf⟩
    have HW2:=hid hw
    obtain⟨ht2,hf2⟩:=fr_step HT1.out HF1.out ht hf
    have HT2:=hid ht2
    have HF2:=hid hf2
    have HBX2:=hid (HBX1.out.on ht hf)
    have kk2:=cells4W HBX2.out.at'
    clear hw ht hf ht2 hf2 HX1 kk1
    have HQ:Hid (Wrote g tb w w2 (L++([nmT cn,fxT [84,69,88,84]])) d (m)):=hid (by
     have h9:Wrote g tb W w2 (L++[nmT cn]++wordsK [[84,69,88,84]]) d (m):=⟨tw2,HW2.out,HT2.out,HF2.out⟩
     have h8:=Wrote.new HB.out h9
     skip
     rw[show L++[nmT cn]++wordsK [[84,69,88,84]]=L++([nmT cn,fxT [84,69,88,84]]) by simp[wordsK]] at h8
     exact h8)
    go_wp2
    exact bodyPost_end (v:=.tuple #[]) (by simp[results,Tryz.results165,go_sem]) rfl ⟨rfl,HQ.out⟩
end Go.Proofs.YtaaggohjmhifbaaGreatDoor
