/- Packed for the hand-in: PSameS PSameA WStmC WStmD WAreS WListS -/
import Derived.Test.YtaaggohjmhifbaaGreatDoorP15
import Derived.Deep.QuietTactic
import Derived.BigQuiet
import Derived.Test.YtaaggohjmhifbaaGreatDoorP22
import Derived.Deep.RegionHeld3
import Derived.Test.YtaaggohjmhifbaaGreatDoorP19
namespace Go.Proofs.YtaaggohjmhifbaaGreatDoor
open Go.RowKit Go.Shelf
set_option linter.unusedSimpArgs false
set_option linter.unusedVariables false
set_option maxRecDepth 20000
set_option maxHeartbeats 8000000
theorem SlAt.opened {α:Type} {z:Nat} {El:(Nat→Prop)→World→α→List Value→Prop} {S:Nat→Prop} {w:World} {xs:List α} {v:Value} (hz:0<z) (h:SlAt z El S w xs v) (hne:xs≠[]) :
  ∃(b off c:Nat),v = .slice (some ⟨b,off,none⟩) xs.length c∧xs.length≤c∧c≤maxLen∧∀(j:Nat) (x:α),xs[j]?=some x→∃cs:List Value,El S w x cs∧∀Z,Below w.heap.size w Z→∀(i:Nat) (u:Value),cs[i]?=some u→Z.cell? ⟨b,off+j*z+i,none⟩=some u:=by
 obtain⟨a,c,css,h1,h2,h3,h4,h5⟩:=h
 obtain⟨b,off,rfl,hb,hc⟩:=h5 hne
 have hlt:b<w.heap.size:=by
  cases xs with
  | nil=>exact absurd rfl hne
  |
   cons x l =>
   cases css with
   | nil=>have:=h4.1;simp at this
   |
    cons cs css =>
    have:=h4.2 0 x cs rfl rfl
    cases cs with
    | nil=>have:=this.1;simp at this;omega
    | cons u cs=>exact World.block_lt_of_cell? w _ (hc 0 (u::cs) rfl 0 u rfl)
 refine ⟨b,off,c,h1,h2,h3,fun j x hx=>?_⟩
 have hj:j<css.length:=by rw[h4.1];exact (List.getElem?_eq_some_iff.1 hx).1
 exact⟨css[j],(h4.2 j x _ hx (List.getElem?_eq_getElem hj)).2,fun Z hZ i u hu=>(hZ.cell (p:=⟨b,_,none⟩) hlt).trans (hc j _ (List.getElem?_eq_getElem hj) i u hu)⟩
theorem Tryz.fieldsCol:Tryz.prog.underlying 37=some (.struct (Tryz.prog.fieldsOf 37)):=by kernel_rfl
theorem Tryz.stoodCol:Tryz.prog.stoodInHeld 37=false:=by kernel_rfl
theorem Tryz.eqGuardCol:Tryz.prog.eqGuardType Tryz.prog.depth 37=false:=by kernel_rfl
theorem eqf_col (e:Nat) (A B:Array Value) (a1 a2 a3 a4 b1 b2 b3 b4:Value) (p q r t:Bool) (w:World)
  (h1:(Go.part 9 A 0).run Tryz.prog w = .ok a1 w) (h2:(Go.part 3 A 1).run Tryz.prog w = .ok a2 w) (h3:(Go.part 4 A 2).run Tryz.prog w = .ok a3 w) (h4:(Go.part 4 A 3).run Tryz.prog w = .ok a4 w)
  (g1:(Go.part 9 B 0).run Tryz.prog w = .ok b1 w) (g2:(Go.part 3 B 1).run Tryz.prog w = .ok b2 w) (g3:(Go.part 4 B 2).run Tryz.prog w = .ok b3 w) (g4:(Go.part 4 B 3).run Tryz.prog w = .ok b4 w)
  (e1:(Op.equalIn e 9 a1 b1).run Tryz.prog w = .ok p w) (e2:(Op.equalIn e 3 a2 b2).run Tryz.prog w = .ok q w) (e3:(Op.equalIn e 4 a3 b3).run Tryz.prog w = .ok r w) (e4:(Op.equalIn e 4 a4 b4).run Tryz.prog w = .ok t w) :
  (Op.eqFields e A B (Tryz.prog.fieldsOf 37).toList).run Tryz.prog w = .ok (p&&(q&&(r&&t))) w:=by
 simp only[Program.fieldsOf,Tryz.underlying37]
 cases p<;>cases q<;>cases r<;>cases t<;>simp[Op.eqFields,h1,h2,h3,h4,g1,g2,g3,g4,e1,e2,e3,e4]
theorem cells14 {w:World} {g:Nat} {d0 d1 d2 d3 d4 d5 d6 d7 d8 d9 d10 d11 d12 d13:Value} {t:TypeId} (h:w.heap[g]?=some (.cells #[d0,d1,d2,d3,d4,d5,d6,d7,d8,d9,d10,d11,d12,d13] t)) :
  w.cell? ⟨g,0,none⟩=some d0∧w.cell? ⟨g,1,none⟩=some d1∧w.cell? ⟨g,2,none⟩=some d2∧w.cell? ⟨g,3,none⟩=some d3∧w.cell? ⟨g,4,none⟩=some d4∧w.cell? ⟨g,5,none⟩=some d5∧w.cell? ⟨g,6,none⟩=some d6∧w.cell? ⟨g,7,none⟩=some d7∧w.cell? ⟨g,8,none⟩=some d8∧w.cell? ⟨g,9,none⟩=some d9∧w.cell? ⟨g,10,none⟩=some d10∧w.cell? ⟨g,11,none⟩=some d11∧w.cell? ⟨g,12,none⟩=some d12∧w.cell? ⟨g,13,none⟩=some d13 :=
 ⟨by rw[cell_row _ _ _ _ _ _ h];rfl,by rw[cell_row _ _ _ _ _ _ h];rfl,by rw[cell_row _ _ _ _ _ _ h];rfl,by rw[cell_row _ _ _ _ _ _ h];rfl,by rw[cell_row _ _ _ _ _ _ h];rfl,by rw[cell_row _ _ _ _ _ _ h];rfl,by rw[cell_row _ _ _ _ _ _ h];rfl,by rw[cell_row _ _ _ _ _ _ h];rfl,by rw[cell_row _ _ _ _ _ _ h];rfl,by rw[cell_row _ _ _ _ _ _ h];rfl,by rw[cell_row _ _ _ _ _ _ h];rfl,by rw[cell_row _ _ _ _ _ _ h];rfl,by rw[cell_row _ _ _ _ _ _ h];rfl,by rw[cell_row _ _ _ _ _ _ h];rfl⟩
theorem create_w (cols:List Co) (hb:areB cols 1 8 colB=true) (tn prim jn:List UInt8) (desc:Bool) (lim:Int) (a1 a2 a3 a4 a5 a6 a7 a8:Option Addr) (n1 n2 n3 n4 n5 n6 n7 n8 c1 c2 c3 c4 c5 c6 c7 c8:Nat) (g:Nat) (tb:Option Nat) (L:List Tk) (d m:Int) (w:World) (h:WrAt w g tb L d m) (hx:SlAt 4 ColE (fun b=>b<g) w cols (.slice a1 n1 c1)) (hL:L.length+(sepK (fxT [44]) (cols.map colK)).length+11≤1000000000) (h0:0≤d) (hdm:d≤m) (hm:m≤1000000000) :
  Calls Tryz.prog 98 #[.pointer (some ⟨g,0,none⟩),.agg #[.int .i64 1,.string (str8 tn),.slice a1 n1 c1,.string (str8 prim),.slice a2 n2 c2,.slice a3 n3 c3,.slice a4 n4 c4,.string (str8 jn),.slice a5 n5 c5,.slice a6 n6 c6,.slice a7 n7 c7,.slice a8 n8 c8,.bool desc,.int .i64 lim]] w fun e w'=>e = .returned (.tuple #[])∧Wrote g tb w w' (L++(wordsK [[67,82,69,65,84,69],[84,65,66,76,69]]++nmT tn::fxT [40]::(sepK (fxT [44]) (cols.map colK)++(wordsK [[44],[80,82,73,77,65,82,89],[75,69,89],[40]]++nmT prim::wordsK [[41],[41]])))) d m:=by
 have hm2:=areB_mem hb
 obtain⟨W,hW,hbW,hzW,hcW⟩:=box8 w (.cells #[.int .i64 1,.string (str8 tn),.slice a1 n1 c1,.string (str8 prim),.slice a2 n2 c2,.slice a3 n3 c3,.slice a4 n4 c4,.string (str8 jn),.slice a5 n5 c5,.slice a6 n6 c6,.slice a7 n7 c7,.slice a8 n8 c8,.bool desc,.int .i64 lim] 28)
 have kk0:=cells14 hcW
 have HB:=hid hbW
 have HW0:=hid (h.below hbW)
 have HBX0:=hid (BoxW.mk' h hcW (Nat.le_refl _))
 have HT0:Hid (∀k,tb=some k→tb=some k∨W.heap.size≤k):=hid (fun k hk=>.inl hk)
 have HF0:Hid (FrW g tb W W):=hid (Spares.refl _ _)
 have HSL:=hid (hx.to (by decide) (R:=fun _=>False) (T:=fun b=>b<g) (Spares.of_new hbW) (fun b hb _=>⟨id,hb⟩) (fun _ _ e=>e))
 have HL:Hid (∀(V:World) (tb':Option Nat) (L':List Tk) (m':Int),WrAt V g tb' L' d m'→FrW g tb W V→(∀k,tb'=some k→tb=some k∨W.heap.size≤k)→L'.length+(sepK (fxT [44]) (cols.map colK)).length≤1000000000→d≤m'→m'≤1000000000→Calls Tryz.prog 164 #[.pointer (some ⟨g,0,none⟩),.string ⟨#[44]⟩,.slice a1 n1 c1,.func (.func 165) #[.pointer (some ⟨g,0,none⟩)] #[]] V fun e w'=>e = .returned (.tuple #[])∧Wrote g tb' V w' (L'++sepK (fxT [44]) (cols.map colK)) d (max m' (d+((maxL (cols.map fun _=>0):Nat):Int)))):=hid (fun V tb' L' m' hV hF hT hl h1 h2=>listCo_w 165 (enters_of Tryz.func165 (by kernel_rfl) rfl) colK (fun _=>0) [44] (by decide) cols _ g tb' L' d m' V hV (HSL.out.to (by decide) hF (FrW.keeps HW0.out hF) (fun _ _ e=>e.to hF (FrW.keeps HW0.out hF))) h1 h2 (fun x hx=>by show d+((0:Nat):Int)≤_;omega) hl (hid (fun x hxm U tb2 L2 m2 hU cs hcs hl2 h3 h4=>by obtain rfl:=hcs;rw[show max m2 (d+((0:Nat):Int))=m2 by omega];exact tableColumn_w x (hm2 x hxm) g tb2 L2 d m2 U hU hl2 h0 h3 h4)))
 have hD0:=maxL_zero cols
 generalize maxL (cols.map fun _=>0)=D at HL hD0
 generalize sepK (fxT [44]) (cols.map colK)=T at HL hL ⊢
 clear h hbW hcW hx hm2 hb
 go_enter Tryz.func98,Tryz.ntmps98
 have HX0:Hid (Calls Tryz.prog 97 #[.pointer (some ⟨g,0,none⟩),.slice (some ⟨W.heap.size,0,none⟩) 2 2] (W.alloc (.cells #[.string ⟨#[67,82,69,65,84,69]⟩,.string ⟨#[84,65,66,76,69]⟩] 9)) fun e w'=>e = .returned (.tuple #[])∧Wrote g tb W w' (L++wordsK [[67,82,69,65,84,69],[84,65,66,76,69]]) d (m)):=hid (fixed_new g tb _ d _ [[67,82,69,65,84,69],[84,65,66,76,69]] W HW0.out (by simp) (by decide) (by simp[wordsK]<;>omega))
 go_wp2_with fail
 refine HX0.out.mono ?_
 rintro e w1 ⟨rfl,tw1,hw,ht,hf⟩
 have HW1:=hid hw
 obtain⟨ht2,hf2⟩:=fr_step HT0.out HF0.out ht hf
 have HT1:=hid ht2
 have HF1:=hid hf2
 have HBX1:=hid (HBX0.out.on ht hf)
 have kk1:=cells14 HBX1.out.at'
 clear hw ht hf ht2 hf2 HX0 kk0
 have HX1:=hid (name_w g tw1 (L++wordsK [[67,82,69,65,84,69],[84,65,66,76,69]]) d (m) w1.drew (HW1.out.below (Below.refl _ w1).drew) tn (by simp[wordsK]<;>omega))
 have HS0:Hid (w1.drew.cell? ⟨w.heap.size,1,none⟩=some (.string (str8 tn))):=hid ((cells14 (HBX1.out.below (Below.refl _ w1).drew).at').2.1)
 go_wp2_with fail
 go_region_held3 (fun w'=>w'.cell? ⟨w.heap.size,1,none⟩=some (.string (str8 tn))) (first | exact HS0.out | exact HS1.out)
  (first
   | (
    go_at_call 99;refine HX1.out.mono ?_
    rintro e w2 ⟨rfl,tw2,hw,ht,hf⟩
    have HW2:=hid hw
    obtain⟨ht2,hf2⟩:=fr_drew HT1.out HF1.out ht hf
    have HT2:=hid ht2
    have HF2:=hid hf2
    have HBX2:=hid ((HBX1.out.below (Below.refl _ w1).drew).on ht hf)
    have kk2:=cells14 HBX2.out.at'
    clear hw ht hf ht2 hf2 HX1 kk1
    have HS1:=hid (kk2.2.1))
   | fail)
 clear HS0 HS1
 have HX2:Hid (Calls Tryz.prog 97 #[.pointer (some ⟨g,0,none⟩),.slice (some ⟨w2.heap.size,0,none⟩) 1 1] (w2.alloc (.cells #[.string ⟨#[40]⟩] 9)) fun e w'=>e = .returned (.tuple #[])∧Wrote g tw2 w2 w' (L++wordsK [[67,82,69,65,84,69],[84,65,66,76,69]]++[nmT tn]++wordsK [[40]]) d (m)):=hid (fixed_new g tw2 _ d _ [[40]] w2 HW2.out (by simp) (by decide) (by simp[wordsK]<;>omega))
 go_wp2_with fail
 refine HX2.out.mono ?_
 rintro e w3 ⟨rfl,tw3,hw,ht,hf⟩
 have HW3:=hid hw
 obtain⟨ht2,hf2⟩:=fr_step HT2.out HF2.out ht hf
 have HT3:=hid ht2
 have HF3:=hid hf2
 have HBX3:=hid (HBX2.out.on ht hf)
 have kk3:=cells14 HBX3.out.at'
 clear hw ht hf ht2 hf2 HX2 kk2
 have HX3:=hid (HL.out w3 tw3 (L++wordsK [[67,82,69,65,84,69],[84,65,66,76,69]]++[nmT tn]++wordsK [[40]]) (m) HW3.out HF3.out HT3.out (by simp[wordsK]<;>omega) (by omega) (by omega))
 go_wp2_with fail
 refine HX3.out.mono ?_
 rintro e w4 ⟨rfl,tw4,hw,ht,hf⟩
 have HW4:=hid hw
 obtain⟨ht2,hf2⟩:=fr_step HT3.out HF3.out ht hf
 have HT4:=hid ht2
 have HF4:=hid hf2
 have HBX4:=hid (HBX3.out.on ht hf)
 have kk4:=cells14 HBX4.out.at'
 clear hw ht hf ht2 hf2 HX3 kk3
 have HX4:Hid (Calls Tryz.prog 97 #[.pointer (some ⟨g,0,none⟩),.slice (some ⟨w4.heap.size,0,none⟩) 4 4] (w4.alloc (.cells #[.string ⟨#[44]⟩,.string ⟨#[80,82,73,77,65,82,89]⟩,.string ⟨#[75,69,89]⟩,.string ⟨#[40]⟩] 9)) fun e w'=>e = .returned (.tuple #[])∧Wrote g tw4 w4 w' (L++wordsK [[67,82,69,65,84,69],[84,65,66,76,69]]++[nmT tn]++wordsK [[40]]++T++wordsK [[44],[80,82,73,77,65,82,89],[75,69,89],[40]]) d (max (m) (d+((D:Nat):Int)))):=hid (fixed_new g tw4 _ d _ [[44],[80,82,73,77,65,82,89],[75,69,89],[40]] w4 HW4.out (by simp) (by decide) (by simp[wordsK]<;>omega))
 go_wp2_with fail
 refine HX4.out.mono ?_
 rintro e w5 ⟨rfl,tw5,hw,ht,hf⟩
 have HW5:=hid hw
 obtain⟨ht2,hf2⟩:=fr_step HT4.out HF4.out ht hf
 have HT5:=hid ht2
 have HF5:=hid hf2
 have HBX5:=hid (HBX4.out.on ht hf)
 have kk5:=cells14 HBX5.out.at'
 clear hw ht hf ht2 hf2 HX4 kk4
 have HX5:=hid (name_w g tw5 (L++wordsK [[67,82,69,65,84,69],[84,65,66,76,69]]++[nmT tn]++wordsK [[40]]++T++wordsK [[44],[80,82,73,77,65,82,89],[75,69,89],[40]]) d (max (m) (d+((D:Nat):Int))) w5.drew (HW5.out.below (Below.refl _ w5).drew) prim (by simp[wordsK]<;>omega))
 have HS0:Hid (w5.drew.cell? ⟨w.heap.size,3,none⟩=some (.string (str8 prim))):=hid ((cells14 (HBX5.out.below (Below.refl _ w5).drew).at').2.2.2.1)
 go_wp2_with fail
 go_region_held3 (fun w'=>w'.cell? ⟨w.heap.size,3,none⟩=some (.string (str8 prim))) (first | exact HS0.out | exact HS1.out)
  (first
   | (
    go_at_call 99;refine HX5.out.mono ?_
    rintro e w6 ⟨rfl,tw6,hw,ht,hf⟩
    have HW6:=hid hw
    obtain⟨ht2,hf2⟩:=fr_drew HT5.out HF5.out ht hf
    have HT6:=hid ht2
    have HF6:=hid hf2
    have HBX6:=hid ((HBX5.out.below (Below.refl _ w5).drew).on ht hf)
    have kk6:=cells14 HBX6.out.at'
    clear hw ht hf ht2 hf2 HX5 kk5
    have HS1:=hid (kk6.2.2.2.1))
   | fail)
 clear HS0 HS1
 have HX6:Hid (Calls Tryz.prog 97 #[.pointer (some ⟨g,0,none⟩),.slice (some ⟨w6.heap.size,0,none⟩) 2 2] (w6.alloc (.cells #[.string ⟨#[41]⟩,.string ⟨#[41]⟩] 9)) fun e w'=>e = .returned (.tuple #[])∧Wrote g tw6 w6 w' (L++wordsK [[67,82,69,65,84,69],[84,65,66,76,69]]++[nmT tn]++wordsK [[40]]++T++wordsK [[44],[80,82,73,77,65,82,89],[75,69,89],[40]]++[nmT prim]++wordsK [[41],[41]]) d (max (m) (d+((D:Nat):Int)))):=hid (fixed_new g tw6 _ d _ [[41],[41]] w6 HW6.out (by simp) (by decide) (by simp[wordsK]<;>omega))
 go_wp2_with fail
 refine HX6.out.mono ?_
 rintro e w7 ⟨rfl,tw7,hw,ht,hf⟩
 have HW7:=hid hw
 obtain⟨ht2,hf2⟩:=fr_step HT6.out HF6.out ht hf
 have HT7:=hid ht2
 have HF7:=hid hf2
 have HBX7:=hid (HBX6.out.on ht hf)
 have kk7:=cells14 HBX7.out.at'
 clear hw ht hf ht2 hf2 HX6 kk6
 have HQ:Hid (Wrote g tb w w7 (L++(wordsK [[67,82,69,65,84,69],[84,65,66,76,69]]++nmT tn::fxT [40]::(T++(wordsK [[44],[80,82,73,77,65,82,89],[75,69,89],[40]]++nmT prim::wordsK [[41],[41]])))) d (m)):=hid (by
  have h9:Wrote g tb W w7 (L++wordsK [[67,82,69,65,84,69],[84,65,66,76,69]]++[nmT tn]++wordsK [[40]]++T++wordsK [[44],[80,82,73,77,65,82,89],[75,69,89],[40]]++[nmT prim]++wordsK [[41],[41]]) d (max (m) (d+((D:Nat):Int))):=⟨tw7,HW7.out,HT7.out,HF7.out⟩
  have h8:=Wrote.new HB.out h9
  rw[show max (m) (d+((D:Nat):Int))=m by omega] at h8
  rw[show L++wordsK [[67,82,69,65,84,69],[84,65,66,76,69]]++[nmT tn]++wordsK [[40]]++T++wordsK [[44],[80,82,73,77,65,82,89],[75,69,89],[40]]++[nmT prim]++wordsK [[41],[41]]=L++(wordsK [[67,82,69,65,84,69],[84,65,66,76,69]]++nmT tn::fxT [40]::(T++(wordsK [[44],[80,82,73,77,65,82,89],[75,69,89],[40]]++nmT prim::wordsK [[41],[41]]))) by simp[wordsK]] at h8
  exact h8)
 go_wp2
 exact bodyPost_end (v:=.tuple #[]) (by simp[results,Tryz.results98,go_sem]) rfl ⟨rfl,HQ.out⟩
theorem rightS_k {s:St} (h:rightS s=true):s.k=1∨s.k=2∨s.k=3∨s.k=4∨s.k=5∨s.k=6:=by
 unfold rightS kindB at h
 simp only[Bool.and_eq_true] at h
 have h1:=h.1
 by_cases k1:s.k=1
 ·exact .inl k1
 ·by_cases k2:s.k=2
  ·exact .inr (.inl k2)
  ·by_cases k3:s.k=3
   ·exact .inr (.inr (.inl k3))
   ·by_cases k4:s.k=4
    ·exact .inr (.inr (.inr (.inl k4)))
    ·by_cases k5:s.k=5
     ·exact .inr (.inr (.inr (.inr (.inl k5))))
     ·by_cases k6:s.k=6
      ·exact .inr (.inr (.inr (.inr (.inr k6))))
      ·rw[if_neg k1,if_neg k2,if_neg k3,if_neg k4,if_neg k5,if_neg k6] at h1;cases h1
theorem Tryz.sizeSt:(Tryz.prog.info? 28).map (·.size)=some 14:=by kernel_rfl
theorem areSt_any (S:Nat→Prop) (fr:Nat) (eg : ∀args w,(callFunc fr args).run Tryz.prog w = .ok (.enter fr args) w) (p:St→Bool) (xs:List (St)) (v:Value) (lo hi:Nat) (w:World) (hlo:lo≤100) (hhi:hi≤100) (hv:SlAt 14 StE S w xs v)
  (HF:Hid (∀x∈xs,∀V,Below w.heap.size w V→∀cs,StE S V x cs→Calls Tryz.prog fr #[.agg cs.toArray] V fun e w'=>e = .returned (.bool (p x))∧Below V.heap.size V w')) :
  Calls Tryz.prog 58 #[v,.int .i64 lo,.int .i64 hi,.func (.func fr) #[] #[]] w fun e w'=>e = .returned (.bool (areB xs lo hi p))∧Below w.heap.size w w':=by
 have HV:=hid hv
 obtain⟨aa,cc,css,rfl,h1,h2,_⟩:=hv
 unfold maxLen at h2
 by_cases hl:lo≤xs.length∧xs.length≤hi
 ·have hA:areB xs lo hi p=xs.all p:=by unfold areB;rw[decide_eq_true hl,Bool.true_and]
  rw[hA]
  have hl1 : ¬((xs.length:Int)<(lo:Int)):=by omega
  have hl2 : ¬((hi:Int)<(xs.length:Int)):=by omega
  clear hA hl
  obtain⟨X,hX⟩:∃X,xs.all p=X:=⟨_,rfl⟩
  rw[hX]
  have HX:=hid hX
  clear hX
  generalize (lo:Int)=lo' at hl1 ⊢
  generalize (hi:Int)=hi' at hl2 ⊢
  go_enter Tryz.func58,Tryz.ntmps58
  go_wp2_with fail
  go_loopw [8,10,23] (fun _ _ i wr=>∃(k:Nat),k≤xs.length∧i = .int .i64 k∧Below w.heap.size w wr∧Hid ((xs.take k).all p=true)) (fun _ _ i _=>xs.length-(intOf i).toNat)
  case atStart=>exact⟨0,Nat.zero_le _,rfl,Below.refl _ _,hid rfl⟩
  case round =>
   obtain⟨k,hk,rfl,hbel,HK⟩:=hrel
   have hszr:=hbel.size
   by_cases hlt:k<xs.length
   ·obtain⟨x,hx⟩:∃x,xs[k]?=some x:=⟨_,List.getElem?_eq_getElem hlt⟩
    have hlt':((k:Int)<(xs.length:Int)):=by omega
    obtain⟨_,_,_,b,off,cs,rfl,_,hel,hcell⟩:=sl_get (HV.out.to (T:=S) (by decide) (R:=fun _=>False) (Spares.of_below hbel (fun k h1 h2=>by omega)) (fun b hb _=>⟨id,hb⟩) (fun _ _ e=>e.to (R:=fun _=>False) (Spares.of_below hbel (fun k h1 h2=>by omega)) (fun b hb _=>⟨id,hb⟩))) hx
    have htk:(xs.take (k+1)).all p=((xs.take k).all p&&p x):=by
     obtain⟨h1,h2⟩:=List.getElem?_eq_some_iff.1 hx
     rw[List.take_succ_eq_append_getElem h1,h2,List.all_append]
     simp
    have HT:=hid htk
    have hxm:=List.mem_of_getElem? hx
    have hel0:=hel
    obtain⟨a1,a2,a3,a4,a5,a6,a7,a8,n1,n2,n3,n4,n5,n6,n7,n8,c1,c2,c3,c4,c5,c6,c7,c8,rfl,_⟩:=hel
    have q0:=hcell 0 _ rfl
    have q1:=hcell 1 _ rfl
    have q2:=hcell 2 _ rfl
    have q3:=hcell 3 _ rfl
    have q4:=hcell 4 _ rfl
    have q5:=hcell 5 _ rfl
    have q6:=hcell 6 _ rfl
    have q7:=hcell 7 _ rfl
    have q8:=hcell 8 _ rfl
    have q9:=hcell 9 _ rfl
    have q10:=hcell 10 _ rfl
    have q11:=hcell 11 _ rfl
    have q12:=hcell 12 _ rfl
    have q13:=hcell 13 _ rfl
    simp only[Nat.add_zero] at q0
    obtain⟨U,hU,hbU,hzU,hcU⟩:=box8 wr (.cells #[.int .i64 x.k,.string (str8 x.tb),.slice a1 n1 c1,.string (str8 x.prim),.slice a2 n2 c2,.slice a3 n3 c3,.slice a4 n4 c4,.string (str8 x.jn),.slice a5 n5 c5,.slice a6 n6 c6,.slice a7 n7 c7,.slice a8 n8 c8,.bool x.desc,.int .i64 x.lim] 28)
    have kU:=fun i=>cell_row U wr.heap.size _ _ _ i hcU
    have kU':U.cell? ⟨wr.heap.size,0,none⟩=some (.int .i64 x.k)∧U.cell? ⟨wr.heap.size,1,none⟩=some (.string (str8 x.tb))∧U.cell? ⟨wr.heap.size,2,none⟩=some (.slice a1 n1 c1)∧U.cell? ⟨wr.heap.size,3,none⟩=some (.string (str8 x.prim))∧U.cell? ⟨wr.heap.size,4,none⟩=some (.slice a2 n2 c2)∧U.cell? ⟨wr.heap.size,5,none⟩=some (.slice a3 n3 c3)∧U.cell? ⟨wr.heap.size,6,none⟩=some (.slice a4 n4 c4)∧U.cell? ⟨wr.heap.size,7,none⟩=some (.string (str8 x.jn))∧U.cell? ⟨wr.heap.size,8,none⟩=some (.slice a5 n5 c5)∧U.cell? ⟨wr.heap.size,9,none⟩=some (.slice a6 n6 c6)∧U.cell? ⟨wr.heap.size,10,none⟩=some (.slice a7 n7 c7)∧U.cell? ⟨wr.heap.size,11,none⟩=some (.slice a8 n8 c8)∧U.cell? ⟨wr.heap.size,12,none⟩=some (.bool x.desc)∧U.cell? ⟨wr.heap.size,13,none⟩=some (.int .i64 x.lim):=⟨(kU 0).trans rfl,(kU 1).trans rfl,(kU 2).trans rfl,(kU 3).trans rfl,(kU 4).trans rfl,(kU 5).trans rfl,(kU 6).trans rfl,(kU 7).trans rfl,(kU 8).trans rfl,(kU 9).trans rfl,(kU 10).trans rfl,(kU 11).trans rfl,(kU 12).trans rfl,(kU 13).trans rfl⟩
    clear kU
    have hBU:=hbel.trans (hbU.mono hszr)
    have HC:=hid (HF.out x hxm U hBU _ (hel0.to (R:=fun _=>False) (Spares.of_new hbU) (fun b hb _=>⟨id,hb⟩)))
    have HM:=hid hxm
    have HBU:=hid hBU
    clear hBU hbU hcU hbel
    clear hcell hx htk hel0 hxm
    cases hp:p x with
    |
     true =>
     rw[hp] at HC
     have HK2:Hid ((xs.take (k+1)).all p=true):=hid (by rw[HT.out,HK.out,hp];rfl)
     clear HK hp HT
     go_wp2_with (first | (refine wpList_store_row rfl 28 (.tmp 10) (.tmp 26) rfl wr.heap.size #[.int .i64 x.k,.string (str8 x.tb),.slice a1 n1 c1,.string (str8 x.prim),.slice a2 n2 c2,.slice a3 n3 c3,.slice a4 n4 c4,.string (str8 x.jn),.slice a5 n5 c5,.slice a6 n6 c6,.slice a7 n7 c7,.slice a8 n8 c8,.bool x.desc,.int .i64 x.lim] rfl rfl 28 #[.int .i64 0,.string ⟨#[]⟩,.slice none 0 0,.string ⟨#[]⟩,.slice none 0 0,.slice none 0 0,.slice none 0 0,.string ⟨#[]⟩,.slice none 0 0,.slice none 0 0,.slice none 0 0,.slice none 0 0,.bool false,.int .i64 0] (heap_alloc_new wr _) Tryz.sizeSt rfl rfl ?_;rw[alloc_setRow,hU];clear hU) | fail)
     refine HC.out.mono ?_
     rintro e w2 ⟨rfl,hb2⟩
     have HB2:=hid (HBU.out.trans (hb2.mono HBU.out.size))
     clear hb2 HC
     go_wp2
     go_roundw
     case rel=>exact⟨k+1,by omega,by go_num,HB2.out,HK2⟩
     case measure=>simp[intOf];omega
    |
     false =>
     rw[hp] at HC
     have HXF:Hid (X=false):=hid (by
      rw[← HX.out,Bool.eq_false_iff]
      intro h
      have:=List.all_eq_true.1 h x HM.out
      rw[hp] at this
      cases this)
     clear HK hp HT
     go_wp2_with (first | (refine wpList_store_row rfl 28 (.tmp 10) (.tmp 26) rfl wr.heap.size #[.int .i64 x.k,.string (str8 x.tb),.slice a1 n1 c1,.string (str8 x.prim),.slice a2 n2 c2,.slice a3 n3 c3,.slice a4 n4 c4,.string (str8 x.jn),.slice a5 n5 c5,.slice a6 n6 c6,.slice a7 n7 c7,.slice a8 n8 c8,.bool x.desc,.int .i64 x.lim] rfl rfl 28 #[.int .i64 0,.string ⟨#[]⟩,.slice none 0 0,.string ⟨#[]⟩,.slice none 0 0,.slice none 0 0,.slice none 0 0,.string ⟨#[]⟩,.slice none 0 0,.slice none 0 0,.slice none 0 0,.slice none 0 0,.bool false,.int .i64 0] (heap_alloc_new wr _) Tryz.sizeSt rfl rfl ?_;rw[alloc_setRow,hU];clear hU) | fail)
     refine HC.out.mono ?_
     rintro e w2 ⟨rfl,hb2⟩
     have HB2:=hid (HBU.out.trans (hb2.mono HBU.out.size))
     clear hb2 HC
     go_wp2
     go_ret
     exact⟨by rw[HXF.out];rfl,HB2.out⟩
   ·have hlt' : ¬((k:Int)<(xs.length:Int)):=by omega
    have HXT:Hid (X=true):=hid (by rw[← HX.out];have:=HK.out;rw[List.take_of_length_le (by omega)] at this;exact this)
    have HB2:=hid hbel
    clear hbel HK
    go_wp2
    go_ret
    exact⟨by rw[HXT.out];rfl,HB2.out⟩
 ·have hA:areB xs lo hi p=false:=by unfold areB;rw[decide_eq_false hl,Bool.false_and]
  rw[hA]
  clear hA
  by_cases hl1:xs.length<lo
  ·have hl1':((xs.length:Int)<(lo:Int)):=by omega
   clear hl hl1
   generalize (lo:Int)=lo' at hl1' ⊢
   go_enter Tryz.func58,Tryz.ntmps58
   go_wp2
   go_ret
   exact⟨rfl,Below.refl _ _⟩
  ·have hl1' : ¬((xs.length:Int)<(lo:Int)):=by omega
   have hl2':((hi:Int)<(xs.length:Int)):=by omega
   clear hl hl1
   generalize (lo:Int)=lo' at hl1' ⊢
   generalize (hi:Int)=hi' at hl2' ⊢
   go_enter Tryz.func58,Tryz.ntmps58
   go_wp2
   go_ret
   exact⟨rfl,Below.refl _ _⟩
theorem listSt_w (fr:Nat) (eg : ∀args w,(callFunc fr args).run Tryz.prog w = .ok (.enter fr args) w) (tk:St→List Tk) (dp:St→Nat) (sep:List UInt8) (hsep:sep≠[]) (xs:List (St)) (v:Value)
  (g:Nat) (tb:Option Nat) (L:List Tk) (d m:Int) (w:World) (h:WrAt w g tb L d m) (hv:SlAt 14 StE (fun b=>b<g) w xs v) (hdm:d≤m) (hm:m≤1000000000) (hd : ∀x∈xs,d+dp x≤1000000000) (hL:L.length+(sepK (fxT sep) (xs.map tk)).length≤1000000000)
  (HF:Hid (∀x∈xs,∀(V:World) (tb':Option Nat) (L':List Tk) (m':Int),WrAt V g tb' L' d m'→∀cs,StE (fun b=>b<g) V x cs→L'.length+(tk x).length≤1000000000→d≤m'→m'≤1000000000→Calls Tryz.prog fr #[.pointer (some ⟨g,0,none⟩),.agg cs.toArray] V fun e w'=>e = .returned (.tuple #[])∧Wrote g tb' V w' (L'++tk x) d (max m' (d+dp x)))) :
  Calls Tryz.prog 60 #[.pointer (some ⟨g,0,none⟩),.string (str8 sep),v,.func (.func fr) #[.pointer (some ⟨g,0,none⟩)] #[]] w fun e w'=>e = .returned (.tuple #[])∧Wrote g tb w w' (L++sepK (fxT sep) (xs.map tk)) d (max m (d+(maxL (xs.map dp):Nat))):=by
 have HV:=hid hv
 have HW:=hid h
 have hdl : ∀k,d+(maxL ((xs.take k).map dp):Nat)≤1000000000:=fun k=>by
  have : ∀l:List (St),(∀x∈l,d+dp x≤1000000000)→d+(maxL (l.map dp):Nat)≤1000000000:=fun l=>by
   induction l with
   | nil=>intro _;show d+((0:Nat):Int)≤_;omega
   |
    cons x l ih =>
    intro hh
    have h1:=hh x (by simp)
    have h2:=ih (fun y hy=>hh y (by simp[hy]))
    show d+((max (dp x) (maxL (l.map dp)):Nat):Int)≤_
    omega
  exact this _ (fun x hx=>hd x (List.mem_of_mem_take hx))
 have HDL:=hid hdl
 have hsl : ∀k,(sepK (fxT sep) ((xs.take k).map tk)).length≤(sepK (fxT sep) (xs.map tk)).length:=fun k=>by
  have e:xs.map tk=(xs.take k).map tk++(xs.drop k).map tk:=by rw[← List.map_append,List.take_append_drop]
  rw[e]
  cases (xs.take k).map tk with
  | nil=>simp[sepK]
  | cons a l=>simp[sepK,List.flatMap_append]
 have HSL:=hid hsl
 have hsnoc : ∀k x,xs[k]?=some x→sepK (fxT sep) ((xs.take (k+1)).map tk)=(if k=0 then tk x else sepK (fxT sep) ((xs.take k).map tk)++fxT sep::tk x)∧maxL ((xs.take (k+1)).map dp)=max (maxL ((xs.take k).map dp)) (dp x):=fun k x hx=>by
  obtain⟨h1,h2⟩:=List.getElem?_eq_some_iff.1 hx
  rw[List.take_succ_eq_append_getElem h1,h2,List.map_append,List.map_append]
  refine ⟨?_,?_⟩
  ·rw[show [x].map tk=[tk x] from rfl,sepK_snoc]
   by_cases e:k=0
   ·subst e;simp
   ·rw[if_neg e,if_neg (fun e2=>e (by have:=congrArg List.length e2;rw[List.length_map,List.length_take,List.length_nil] at this;omega))]
  ·have : ∀(l:List Nat) (n:Nat),maxL (l++[n])=max (maxL l) n:=fun l n=>by
    induction l with
    | nil=>show max n 0=max 0 n;omega
    | cons a l ih=>show max a (maxL (l++[n]))=max (max a (maxL l)) n;rw[ih];omega
   exact this _ _
 have HSN:=hid hsnoc
 obtain⟨aa,cc,css,rfl,h1,h2,_⟩:=hv
 unfold maxLen at h2
 clear h hdl hsl hsnoc hd
 go_enter Tryz.func60,Tryz.ntmps60
 go_wp2_with fail
 go_loopw [8,9,12] (fun _ _ i wr=>∃(k:Nat),k≤xs.length∧i = .int .i64 k∧Wrote g tb w wr (L++sepK (fxT sep) ((xs.take k).map tk)) d (max m (d+(maxL ((xs.take k).map dp):Nat)))) (fun _ _ i _=>xs.length-(intOf i).toNat)
 case atStart =>
  refine ⟨0,Nat.zero_le _,rfl,?_⟩
  have e:max m (d+(maxL ((xs.take 0).map dp):Nat))=m:=by show max m (d+((0:Nat):Int))=m;omega
  rw[e]
  simpa [sepK] using HW.out.here
 case round =>
  obtain⟨k,hk,rfl,hq⟩:=hrel
  by_cases hlt:k<xs.length
  ·obtain⟨x,hx⟩:∃x,xs[k]?=some x:=⟨_,List.getElem?_eq_getElem hlt⟩
   have hlt':((k:Int)<(xs.length:Int)):=by omega
   obtain⟨tw1,hw1,ht1,hf1⟩:=hq
   obtain⟨_,_,_,b,off,cs,rfl,_,hel,hcell⟩:=sl_get (HV.out.to (T:=fun b=>b<g) (by decide) hf1 (FrW.keeps HW.out hf1) (fun _ _ e=>e.to hf1 (FrW.keeps HW.out hf1))) hx
   obtain⟨hs1,hs2⟩:=HSN.out k x hx
   have hxm:=List.mem_of_getElem? hx
   have hll:=HSL.out (k+1)
   have hmm:=HDL.out k
   rw[hs1] at hll
   have HEL:=hid hel
   obtain⟨a1,a2,a3,a4,a5,a6,a7,a8,n1,n2,n3,n4,n5,n6,n7,n8,c1,c2,c3,c4,c5,c6,c7,c8,rfl,_⟩:=hel
   have q0:=hcell 0 _ rfl
   have q1:=hcell 1 _ rfl
   have q2:=hcell 2 _ rfl
   have q3:=hcell 3 _ rfl
   have q4:=hcell 4 _ rfl
   have q5:=hcell 5 _ rfl
   have q6:=hcell 6 _ rfl
   have q7:=hcell 7 _ rfl
   have q8:=hcell 8 _ rfl
   have q9:=hcell 9 _ rfl
   have q10:=hcell 10 _ rfl
   have q11:=hcell 11 _ rfl
   have q12:=hcell 12 _ rfl
   have q13:=hcell 13 _ rfl
   simp only[Nat.add_zero] at q0
   have hgt:g<wr.heap.size:=hw1.lt
   obtain⟨U,hU,hbU,hzU,hcU⟩:=box8 wr (.cells #[.int .i64 x.k,.string (str8 x.tb),.slice a1 n1 c1,.string (str8 x.prim),.slice a2 n2 c2,.slice a3 n3 c3,.slice a4 n4 c4,.string (str8 x.jn),.slice a5 n5 c5,.slice a6 n6 c6,.slice a7 n7 c7,.slice a8 n8 c8,.bool x.desc,.int .i64 x.lim] 28)
   have kU:=fun i=>cell_row U wr.heap.size _ _ _ i hcU
   have kU':U.cell? ⟨wr.heap.size,0,none⟩=some (.int .i64 x.k)∧U.cell? ⟨wr.heap.size,1,none⟩=some (.string (str8 x.tb))∧U.cell? ⟨wr.heap.size,2,none⟩=some (.slice a1 n1 c1)∧U.cell? ⟨wr.heap.size,3,none⟩=some (.string (str8 x.prim))∧U.cell? ⟨wr.heap.size,4,none⟩=some (.slice a2 n2 c2)∧U.cell? ⟨wr.heap.size,5,none⟩=some (.slice a3 n3 c3)∧U.cell? ⟨wr.heap.size,6,none⟩=some (.slice a4 n4 c4)∧U.cell? ⟨wr.heap.size,7,none⟩=some (.string (str8 x.jn))∧U.cell? ⟨wr.heap.size,8,none⟩=some (.slice a5 n5 c5)∧U.cell? ⟨wr.heap.size,9,none⟩=some (.slice a6 n6 c6)∧U.cell? ⟨wr.heap.size,10,none⟩=some (.slice a7 n7 c7)∧U.cell? ⟨wr.heap.size,11,none⟩=some (.slice a8 n8 c8)∧U.cell? ⟨wr.heap.size,12,none⟩=some (.bool x.desc)∧U.cell? ⟨wr.heap.size,13,none⟩=some (.int .i64 x.lim):=⟨(kU 0).trans rfl,(kU 1).trans rfl,(kU 2).trans rfl,(kU 3).trans rfl,(kU 4).trans rfl,(kU 5).trans rfl,(kU 6).trans rfl,(kU 7).trans rfl,(kU 8).trans rfl,(kU 9).trans rfl,(kU 10).trans rfl,(kU 11).trans rfl,(kU 12).trans rfl,(kU 13).trans rfl⟩
   clear kU
   have hwU:=hw1.below hbU
   have HBX:=hid (BoxW.mk' hw1 hcU (Nat.le_refl _))
   have HELU:=hid (HEL.out.to (R:=fun _=>False) (T:=fun b=>b<g) (Spares.of_new hbU) (fun b hb _=>⟨id,hb⟩))
   have HT1:=hid ht1
   have HF1:=hid hf1
   have HBU:=hid hbU
   clear ht1 hf1 hbU hcU hw1 HEL
   generalize hPT:sepK (fxT sep) ((xs.take k).map tk)=PT at *
   generalize hPD:maxL ((xs.take k).map dp)=PD at *
   by_cases hk0:k=0
   ·rw[if_pos hk0] at hs1 hll
    have hPT0:PT=[]:=by rw[← hPT,hk0];simp[sepK]
    have hCA:=HF.out x hxm U tw1 (L++PT) (max m (d+(PD:Int))) hwU _ HELU.out (by rw[hPT0];simp;omega) (by omega) (by omega)
    have HC:Hid (Calls Tryz.prog fr #[.pointer (some ⟨g,0,none⟩),.agg #[.int .i64 x.k,.string (str8 x.tb),.slice a1 n1 c1,.string (str8 x.prim),.slice a2 n2 c2,.slice a3 n3 c3,.slice a4 n4 c4,.string (str8 x.jn),.slice a5 n5 c5,.slice a6 n6 c6,.slice a7 n7 c7,.slice a8 n8 c8,.bool x.desc,.int .i64 x.lim]] U fun e w'=>e = .returned (.tuple #[])∧Wrote g tw1 U w' (L++sepK (fxT sep) ((xs.take (k+1)).map tk)) d (max m (d+(maxL ((xs.take (k+1)).map dp):Nat)))):=hid (by
     rw[hs1,hs2]
     rw[hPT0,List.append_nil] at hCA
     rw[show max m (d+((max PD (dp x):Nat):Int))=max (max m (d+(PD:Int))) (d+(dp x:Int)) by omega]
     exact hCA)
    have HQ0:Hid (FrW g tb w U):=hid (HF1.out.thenNew HBU.out)
    clear hCA hs1 hs2 hll hmm hxm hwU hPT hPD hPT0 hcell hx
    have hk0' : ¬((0:Int)<(k:Int)):=by omega
    clear hk0
    go_wp2_with (first | (refine wpList_store_row rfl 28 (.tmp 9) (.tmp 16) rfl wr.heap.size #[.int .i64 x.k,.string (str8 x.tb),.slice a1 n1 c1,.string (str8 x.prim),.slice a2 n2 c2,.slice a3 n3 c3,.slice a4 n4 c4,.string (str8 x.jn),.slice a5 n5 c5,.slice a6 n6 c6,.slice a7 n7 c7,.slice a8 n8 c8,.bool x.desc,.int .i64 x.lim] rfl rfl 28 #[.int .i64 0,.string ⟨#[]⟩,.slice none 0 0,.string ⟨#[]⟩,.slice none 0 0,.slice none 0 0,.slice none 0 0,.string ⟨#[]⟩,.slice none 0 0,.slice none 0 0,.slice none 0 0,.slice none 0 0,.bool false,.int .i64 0] (heap_alloc_new wr _) Tryz.sizeSt rfl rfl ?_;rw[alloc_setRow,hU];clear hU) | fail)
    refine HC.out.mono ?_
    rintro e w2 ⟨rfl,h2⟩
    have HQ:=hid (Wrote.then HT1.out HQ0.out h2)
    clear h2 HC
    go_wp2
    go_roundw
    case rel=>exact⟨k+1,by omega,by go_num,HQ.out⟩
    case measure=>simp[intOf];omega
   ·rw[if_neg hk0] at hs1 hll
    have hk0':((0:Int)<(k:Int)):=by omega
    simp only[List.length_append,List.length_cons] at hll
    have HX:Hid (Calls Tryz.prog 97 #[.pointer (some ⟨g,0,none⟩),.slice (some ⟨U.heap.size,0,none⟩) 1 1] (U.alloc (.cells #[.string (str8 sep)] 9)) fun e w'=>e = .returned (.tuple #[])∧Wrote g tw1 U w' (L++PT++wordsK [sep]) d (max m (d+(PD:Int)))):=hid (fixed_new g tw1 _ d _ [sep] U hwU (by simp) (by simpa using hsep) (by simp;omega))
    have HWU:=hid hwU
    have HQ0:Hid (FrW g tb w U):=hid (HF1.out.thenNew HBU.out)
    have HS1:=hid hs1
    have HS2:=hid hs2
    have HM:=hid hxm
    clear hs1 hs2 hxm hwU hPT hPD hcell hx
    go_wp2_with (first | (refine wpList_store_row rfl 28 (.tmp 9) (.tmp 16) rfl wr.heap.size #[.int .i64 x.k,.string (str8 x.tb),.slice a1 n1 c1,.string (str8 x.prim),.slice a2 n2 c2,.slice a3 n3 c3,.slice a4 n4 c4,.string (str8 x.jn),.slice a5 n5 c5,.slice a6 n6 c6,.slice a7 n7 c7,.slice a8 n8 c8,.bool x.desc,.int .i64 x.lim] rfl rfl 28 #[.int .i64 0,.string ⟨#[]⟩,.slice none 0 0,.string ⟨#[]⟩,.slice none 0 0,.slice none 0 0,.slice none 0 0,.string ⟨#[]⟩,.slice none 0 0,.slice none 0 0,.slice none 0 0,.slice none 0 0,.bool false,.int .i64 0] (heap_alloc_new wr _) Tryz.sizeSt rfl rfl ?_;rw[alloc_setRow,hU];clear hU) | fail)
    refine HX.out.mono ?_
    rintro e w2 ⟨rfl,tw2,hw2,ht2,hf2⟩
    have hbx:=fun i=>cell_row w2 wr.heap.size _ _ _ i (HBX.out.on ht2 hf2).at'
    have kX:w2.cell? ⟨wr.heap.size,0,none⟩=some (.int .i64 x.k)∧w2.cell? ⟨wr.heap.size,1,none⟩=some (.string (str8 x.tb))∧w2.cell? ⟨wr.heap.size,2,none⟩=some (.slice a1 n1 c1)∧w2.cell? ⟨wr.heap.size,3,none⟩=some (.string (str8 x.prim))∧w2.cell? ⟨wr.heap.size,4,none⟩=some (.slice a2 n2 c2)∧w2.cell? ⟨wr.heap.size,5,none⟩=some (.slice a3 n3 c3)∧w2.cell? ⟨wr.heap.size,6,none⟩=some (.slice a4 n4 c4)∧w2.cell? ⟨wr.heap.size,7,none⟩=some (.string (str8 x.jn))∧w2.cell? ⟨wr.heap.size,8,none⟩=some (.slice a5 n5 c5)∧w2.cell? ⟨wr.heap.size,9,none⟩=some (.slice a6 n6 c6)∧w2.cell? ⟨wr.heap.size,10,none⟩=some (.slice a7 n7 c7)∧w2.cell? ⟨wr.heap.size,11,none⟩=some (.slice a8 n8 c8)∧w2.cell? ⟨wr.heap.size,12,none⟩=some (.bool x.desc)∧w2.cell? ⟨wr.heap.size,13,none⟩=some (.int .i64 x.lim):=⟨(hbx 0).trans rfl,(hbx 1).trans rfl,(hbx 2).trans rfl,(hbx 3).trans rfl,(hbx 4).trans rfl,(hbx 5).trans rfl,(hbx 6).trans rfl,(hbx 7).trans rfl,(hbx 8).trans rfl,(hbx 9).trans rfl,(hbx 10).trans rfl,(hbx 11).trans rfl,(hbx 12).trans rfl,(hbx 13).trans rfl⟩
    clear hbx
    have hCA:=HF.out x HM.out w2 tw2 _ (max m (d+(PD:Int))) hw2 _ (HELU.out.to hf2 (FrW.keeps HWU.out hf2)) (by simp[wordsK];omega) (by omega) (by omega)
    have HC:Hid (Calls Tryz.prog fr #[.pointer (some ⟨g,0,none⟩),.agg #[.int .i64 x.k,.string (str8 x.tb),.slice a1 n1 c1,.string (str8 x.prim),.slice a2 n2 c2,.slice a3 n3 c3,.slice a4 n4 c4,.string (str8 x.jn),.slice a5 n5 c5,.slice a6 n6 c6,.slice a7 n7 c7,.slice a8 n8 c8,.bool x.desc,.int .i64 x.lim]] w2 fun e w'=>e = .returned (.tuple #[])∧Wrote g tw2 w2 w' (L++sepK (fxT sep) ((xs.take (k+1)).map tk)) d (max m (d+(maxL ((xs.take (k+1)).map dp):Nat)))):=hid (by
     rw[HS1.out,HS2.out]
     rw[show max m (d+((max PD (dp x):Nat):Int))=max (max m (d+(PD:Int))) (d+(dp x:Int)) by omega]
     rw[show L++PT++wordsK [sep]++tk x=L++(PT++fxT sep::tk x) by simp[wordsK]] at hCA
     exact hCA)
    have HT2:=hid ht2
    have HF2:=hid hf2
    clear hCA ht2 hf2 hw2 HX
    go_wp2_with fail
    refine HC.out.mono ?_
    rintro e w3 ⟨rfl,h3⟩
    have HQ:=hid (Wrote.then HT1.out HQ0.out (Wrote.then HT2.out HF2.out h3))
    clear h3 HC
    go_wp2
    go_roundw
    case rel=>exact⟨k+1,by omega,by go_num,HQ.out⟩
    case measure=>simp[intOf];omega
  ·have hlt' : ¬((k:Int)<(xs.length:Int)):=by omega
   have HQ:Hid (Wrote g tb w wr (L++sepK (fxT sep) (xs.map tk)) d (max m (d+(maxL (xs.map dp):Nat)))):=hid (by rw[List.take_of_length_le (by omega)] at hq;exact hq)
   clear hq
   go_wp2
   exact bodyPost_end (v:=.tuple #[]) (by simp[results,Tryz.results60,go_sem]) rfl ⟨rfl,HQ.out⟩
end Go.Proofs.YtaaggohjmhifbaaGreatDoor
