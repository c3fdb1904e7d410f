/- Packed for the hand-in: WBackL OpenT -/
import Derived.Test.YtnidnipiihhnaaaGreatDoorZ47
import Derived.Test.YtnidnipiihhnaaaGreatDoorZ48
import Derived.Test.YtnidnipiihhnaaaGreatDoorRows
import Derived.Test.YtnidnipiihhnaaaGreatDoorZ17
import Derived.Handed
import Derived.LaidLaws
import Derived.Lay
import Derived.Lib.LaidTab
import Derived.Shelf.Vars
import Derived.SizedLaws
import Derived.MakeChecks
import Derived.Stop.LaidErr
import Derived.OpenShut
import Derived.ChangeArms
namespace Go.Proofs.YtnidnipiihhnaaaGreatDoor
open Go.RowKit Go.Shelf
set_option linter.unusedSimpArgs false
set_option linter.unusedVariables false
set_option maxRecDepth 20000
set_option maxHeartbeats 8000000
theorem CU (x:Ex):(jy x).2≠0∨((jy x).2=0∧qO (jy x).1=(x,0,0)∧(jy x).1.length≤2000):=by
 by_cases h:aN x=true
 ·rcases tX h with h | h
  ·refine .inl ?_
   rcases h with h | h<;>rw[h]<;>decide
  ·exact .inr h
 ·refine .inl ?_
  unfold jy
  rw[if_neg h]
  decide
theorem yA (l:List St):(om l).2≠0∨((om l).2=0∧gT (om l).1=(l,0,0)∧(om l).1.length≤2000):=by
 by_cases h:bf l 1 8 dQ=true
 ·rcases qX h with h | h
  ·refine .inl ?_
   rcases h with h | h<;>rw[h]<;>decide
  ·exact .inr h
 ·refine .inl ?_
  unfold om
  by_cases h8:8<l.length
  ·rw[if_pos h8];decide
  ·rw[if_neg h8,if_neg h];decide
theorem vI (x:Ex) (v:Value) (l:List St) (lv:Value) (w:World) (hx:iQ (fun b=>b<w.heap.size) w x v) (hR:oK x) (hl:bJ 14 nE (fun b=>b<w.heap.size) w l lv) (hRl : ∀s∈l,IY s) (hT:jH w) (hTW:j6 w) :
  Calls Tryz.prog 5 #[v,lv] w fun e w'=>e = .returned (.bool true)∧Below w.heap.size w w':=by
 have HXV:=hid hx
 obtain⟨k,op,tb,nm,vk,vn,vs,ys,aa,nn,cc,_,rfl,_⟩:=hx
 have HL0:=hid hl
 obtain⟨la,lc,css,rfl,hlc,hlm,_⟩:=hl
 unfold maxLen at hlm
 obtain⟨W,hW,hbW,hzW,hcW⟩:=aY w (.cells #[.int .i64 k,.int .i64 op,.string (aj tb),.string (aj nm),.int .i64 vk,.int .i64 vn,.string (aj vs),.slice aa nn cc] 26)
 have HBW:=hid hbW
 have HC0:=hid hcW
 have HXW:=hid (HXV.out.new hbW)
 have HLW:=hid (HL0.out.newS hbW)
 have HT:=hid hT
 have HTW:=hid hTW
 have HSM:=hid (oz W (hTW.on hbW))
 have HFE:=hid (fun V (hV:Below W.heap.size W V)=>xP _ 12 x _ V (by decide) hR (HXW.out.new hV))
 have HFS:=hid (fun s (hs:s∈l) cs V (hV:nE (fun b=>b<w.heap.size) V s cs)=>wY _ s cs V (hRl s hs) hV)
 have HPE:=hid (fun V (h:j6 V) (hV:Below W.heap.size W V) (hf:gH 12 x=true)=>lS _ x _ V h hR (HXW.out.new hV) (fun hr=>Nat.le_trans (uS hr hf) (by decide)))
 have HPS:=hid (fun V (h:j6 V) (hV:Below W.heap.size W V) (hf:(l.take 10).all uZ=true)=>j4 _ l _ V h hRl (HLW.out.newS hV) (fun h8 s hs hr=>CY hr (by
  rw[List.take_of_length_le (by omega),List.all_eq_true] at hf
  exact hf s hs)))
 have heb:=CU x
 have hsb:=yA l
 clear hT hTW hbW hcW HXV HL0 hR hRl
 obtain⟨be,hbe⟩:∃b,gH 12 x=b:=⟨_,rfl⟩
 rw[hbe] at HFE HPE
 clear hbe
 go_enter Tryz.func5,Tryz.ntmps5
 go_wp2_with fail
 try rw[hW]
 refine HSM.out.mono ?_
 rintro e w1 ⟨rfl,hb1⟩
 have k1:=aP ((hb1.block w.heap.size hzW).trans HC0.out)
 have HF1:=hid (HFE.out w1 hb1)
 have HB1:=hid hb1
 clear hb1 HSM HFE hW
 go_wp2_with fail
 refine HF1.out.mono ?_
 rintro e w2 ⟨rfl,hb2⟩
 have HB2:Hid (Below W.heap.size W w2):=hid (HB1.out.trans (hb2.mono HB1.out.size))
 clear hb2 HF1 HB1 k1
 go_wp2_with fail
 go_loopw [6,7] (fun u i wr=>∃(j:Nat) (b:Bool),j≤l.length∧j≤10∧i = .int .i64 j∧u = .bool b∧Below W.heap.size W wr∧Hid (b=true→be=true∧(l.take j).all uZ=true)) (fun _ i _=>l.length-(intOf i).toNat)
 case atStart=>exact⟨0,be,Nat.zero_le _,Nat.zero_le _,rfl,rfl,HB2.out,hid (fun h=>⟨h,rfl⟩)⟩
 case round =>
  clear HB2
  obtain⟨j,b,hj,hj10,rfl,rfl,hbel,HK⟩:=hrel
  by_cases hgo:j<l.length∧j<10∧b=true
  ·obtain⟨hlt,hl2,rfl⟩:=hgo
   have hlt':((j:Int)<(l.length:Int)):=by omega
   have hl2':((j:Int)<10):=by omega
   obtain⟨y,hy⟩:∃y,l[j]?=some y:=⟨_,List.getElem?_eq_getElem hlt⟩
   obtain⟨_,_,_,gb,off,cs,rfl,_,hel,hcell⟩:=gy (HLW.out.newS hbel) hy
   have HC:=hid (HFS.out y (List.mem_of_getElem? hy) _ wr hel)
   have HTS:=hid (iV uZ hy)
   obtain⟨a1,a2,a3,a4,a5,a6,a7,a8,n1,n2,n3,n4,n5,n6,n7,n8,c1,c2,c3,c4,c5,c6,c7,c8,rfl,_⟩:=hel
   have q0:=hcell 0 _ rfl
   have q1:=hcell 1 _ rfl
   have q2:=hcell 2 _ rfl
   have q3:=hcell 3 _ rfl
   have q4:=hcell 4 _ rfl
   have q5:=hcell 5 _ rfl
   have q6:=hcell 6 _ rfl
   have q7:=hcell 7 _ rfl
   have q8:=hcell 8 _ rfl
   have q9:=hcell 9 _ rfl
   have q10:=hcell 10 _ rfl
   have q11:=hcell 11 _ rfl
   have q12:=hcell 12 _ rfl
   have q13:=hcell 13 _ rfl
   simp only[Nat.add_zero] at q0
   have HBR:=hid hbel
   clear hbel hcell hy
   obtain⟨bs,hbs⟩:∃b,uZ y=b:=⟨_,rfl⟩
   rw[hbs] at HC HTS
   have HK2:Hid (bs=true→be=true∧(l.take (j+1)).all uZ=true):=hid (fun h=>by
    obtain⟨h1,h2⟩:=HK.out rfl
    rw[HTS.out,h2,h]
    exact⟨h1,rfl⟩)
   clear HK HTS hbs
   go_wp2_with fail
   refine HC.out.mono ?_
   rintro e w3 ⟨rfl,hb3⟩
   have HB3:Hid (Below W.heap.size W w3):=hid (HBR.out.trans (hb3.mono HBR.out.size))
   clear hb3 HC
   go_wp2
   go_roundw
   case rel=>exact⟨j+1,bs,by omega,by omega,by go_num,rfl,HB3.out,HK2⟩
   case measure=>simp[intOf];omega
  ·have HB0:Hid (∀V,Below W.heap.size W V→Below w.heap.size w V):=hid (fun V hV=>HBW.out.trans (hV.mono HBW.out.size))
   have HBO:=hid hbel
   clear hbel
   have hend:(b=false∧((((j:Int)<(l.length:Int))∧((j:Int)<10))∨(((j:Int)<(l.length:Int))∧¬((j:Int)<10))∨¬((j:Int)<(l.length:Int))))∨(b=true∧((((j:Int)<(l.length:Int))∧¬((j:Int)<10))∨¬((j:Int)<(l.length:Int)))):=by
    cases b with
    | false=>exact .inl ⟨rfl,by omega⟩
    |
     true =>
     refine .inr ⟨rfl,?_⟩
     by_cases h1:j<l.length
     ·exact .inl ⟨by omega,fun h2=>hgo ⟨h1,by omega,rfl⟩⟩
     ·exact .inr (by omega)
   rcases hend with⟨rfl,hend⟩ | ⟨rfl,hend⟩
   ·clear HK hgo hj hj10 heb hsb
    rcases hend with⟨h1,h2⟩ | ⟨h1,h2⟩ | h1
    all_goals
     go_wp2
     go_ret
     exact⟨rfl,HB0.out _ HBO.out⟩
   ·obtain⟨rfl,hall⟩:=HK.out rfl
    have HAL:Hid ((l.take 10).all uZ=true):=hid (by
     by_cases h10:j=10
     ·rw[h10] at hall;exact hall
     ·rw[List.take_of_length_le (by
       rcases hend with⟨h1,h2⟩ | h1<;>omega)] at hall
      rw[List.all_eq_true] at hall ⊢
      exact fun y hy=>hall y (List.mem_of_mem_take hy))
    have HPE1:=hid (fun V (h:j6 V) (hV:Below W.heap.size W V)=>HPE.out V h hV rfl)
    have HPS1:=hid (fun V (h:j6 V) (hV:Below W.heap.size W V)=>HPS.out V h hV HAL.out)
    have HKO:Hid (∀V,Below W.heap.size W V→V.heap[w.heap.size]?=some (.cells #[.int .i64 k,.int .i64 op,.string (aj tb),.string (aj nm),.int .i64 vk,.int .i64 vn,.string (aj vs),.slice aa nn cc] 26)):=hid (fun V hV=>(hV.block w.heap.size hzW).trans HC0.out)
    have HTLV:Hid (∀V,Below W.heap.size W V→jH V):=hid (fun V hV=>HT.out.on (HB0.out V hV))
    have HTWV:Hid (∀V,Below W.heap.size W V→j6 V):=hid (fun V hV=>HTW.out.on (HB0.out V hV))
    obtain⟨⟨A,c⟩,hA⟩:∃a,jy x=a:=⟨_,rfl⟩
    obtain⟨⟨B,d⟩,hB⟩:∃a,om l=a:=⟨_,rfl⟩
    rw[hA] at HPE1 heb
    rw[hB] at HPS1 hsb
    dsimp only at HPE1 HPS1 heb hsb
    have kW:=aP (HKO.out wr HBO.out)
    have HC1:=hid (HPE1.out wr (HTWV.out wr HBO.out) HBO.out)
    clear HK hgo hj hj10 hall HAL hA hB HPE HPS HFS HT HTW HPE1
    obtain⟨wo,hwo⟩:∃wo,wo=wr:=⟨_,rfl⟩
    have hend2:(((j:Int)<(l.length:Int))∧¬((j:Int)<10))∨¬((j:Int)<(l.length:Int)):=hend
    clear hend
    rcases hend2 with⟨hlt',hl2'⟩ | hlt'
    all_goals
     subst hwo
     go_wp2_with fail
     refine HC1.out.mono ?_
     rintro e w3 ⟨rfl,hb3⟩
     have HB3:Hid (Below W.heap.size W w3):=hid (HBO.out.trans (hb3.mono HBO.out.size))
     clear hb3 HC1 kW
     rcases heb with hc | ⟨rfl,ho,hol⟩
     ·have hc':(c==0)=false:=by simpa using hc
      clear hc
      have HS:=hid (HPS1.out w3 (HTWV.out w3 HB3.out) HB3.out)
      go_wp2_with fail
      refine HS.out.mono ?_
      rintro e w6 ⟨rfl,hb6⟩
      have HB6:Hid (Below W.heap.size W w6):=hid (HB3.out.trans (hb6.mono HB3.out.size))
      clear hb6 HS
      rcases hsb with hd | ⟨rfl,hso,hsl⟩
      ·have hd':(d==0)=false:=by simpa using hd
       clear hd
       go_wp2
       go_ret
       exact⟨rfl,HB0.out _ HB6.out⟩
      ·have HK4:=hid (mV B w6 (HTLV.out w6 HB6.out) (by omega))
       rw[hso] at HK4
       dsimp only at HK4
       clear hso hsl
       go_wp2_with fail
       refine HK4.out.mono ?_
       rintro e w7 ⟨aa7,nn7,cc7,rfl,hu7,hb7⟩
       obtain⟨W7,hW7,hbW7,hzW7,hcW7⟩:=FL w7 (.int .i64 0) (.int .i64 0) 47
       have HW7:=hid hW7
       clear hW7
       have hB7:Below W.heap.size W W7:=HB6.out.trans ((hb7.trans (hbW7.mono hb7.size)).mono HB6.out.size)
       have HB7:=hid hB7
       have HSA:=hid (nN _ _ _ _ _ W7 (hu7.newS hbW7) (HLW.out.newS hB7))
       have kF:=dh (hcW7 W7 (Below.refl _ _))
       clear hcW7 hbW7 hb7 hu7 HK4 hB7
       go_wp2_with fail
       rw[HW7.out]
       refine HSA.out.mono ?_
       rintro e w8 ⟨rfl,hb8⟩
       have HB8:Hid (Below W.heap.size W w8):=hid (HB7.out.trans (hb8.mono HB7.out.size))
       clear hb8 HSA HW7
       go_wp2
       go_ret
       exact⟨rfl,HB0.out _ HB8.out⟩
     ·have HK2:=hid (wR A w3 (HTLV.out w3 HB3.out) (by omega))
      rw[ho] at HK2
      dsimp only at HK2
      clear ho hol
      go_wp2_with fail
      refine HK2.out.mono ?_
      rintro e w4 ⟨u',rfl,hu',hb4⟩
      have HV:=hid hu'
      obtain⟨k4,op4,tb4,nm4,vk4,vn4,vs4,ys4,aa4,nn4,cc4,_,rfl,_⟩:=hu'
      obtain⟨W4,hW4,hbW4,hzW4,hcC,hcD⟩:=two w4 (.cells #[.int .i64 k4,.int .i64 op4,.string (aj tb4),.string (aj nm4),.int .i64 vk4,.int .i64 vn4,.string (aj vs4),.slice aa4 nn4 cc4] 26) (.cells #[.int .i64 0,.int .i64 0] 47)
      have HW4:=hid hW4
      clear hW4
      have hB4:Below W.heap.size W W4:=HB3.out.trans ((hb4.trans (hbW4.mono hb4.size)).mono HB3.out.size)
      have HB4:=hid hB4
      have HSX:=hid (uI (HV.out.new hbW4) (HXW.out.new hB4) W4 (Below.refl _ _))
      have kA:=aP (HKO.out W4 hB4)
      rw[← HW4.out] at kA
      clear hbW4 hcC hcD hb4 hB4 HK2 HV
      go_wp2_with fail
      rw[HW4.out]
      refine HSX.out.mono ?_
      rintro e w5 ⟨rfl,hb5⟩
      have HB5:Hid (Below W.heap.size W w5):=hid (HB4.out.trans (hb5.mono HB4.out.size))
      clear hb5 HSX HW4 kA
      have HS:=hid (HPS1.out w5 (HTWV.out w5 HB5.out) HB5.out)
      go_wp2_with fail
      refine HS.out.mono ?_
      rintro e w6 ⟨rfl,hb6⟩
      have HB6:Hid (Below W.heap.size W w6):=hid (HB5.out.trans (hb6.mono HB5.out.size))
      clear hb6 HS
      rcases hsb with hd | ⟨rfl,hso,hsl⟩
      ·have hd':(d==0)=false:=by simpa using hd
       clear hd
       go_wp2
       go_ret
       exact⟨rfl,HB0.out _ HB6.out⟩
      ·have HK4:=hid (mV B w6 (HTLV.out w6 HB6.out) (by omega))
       rw[hso] at HK4
       dsimp only at HK4
       clear hso hsl
       go_wp2_with fail
       refine HK4.out.mono ?_
       rintro e w7 ⟨aa7,nn7,cc7,rfl,hu7,hb7⟩
       obtain⟨W7,hW7,hbW7,hzW7,hcW7⟩:=FL w7 (.int .i64 0) (.int .i64 0) 47
       have HW7:=hid hW7
       clear hW7
       have hB7:Below W.heap.size W W7:=HB6.out.trans ((hb7.trans (hbW7.mono hb7.size)).mono HB6.out.size)
       have HB7:=hid hB7
       have HSA:=hid (nN _ _ _ _ _ W7 (hu7.newS hbW7) (HLW.out.newS hB7))
       have kF:=dh (hcW7 W7 (Below.refl _ _))
       clear hcW7 hbW7 hb7 hu7 HK4 hB7
       go_wp2_with fail
       rw[HW7.out]
       refine HSA.out.mono ?_
       rintro e w8 ⟨rfl,hb8⟩
       have HB8:Hid (Below W.heap.size W w8):=hid (HB7.out.trans (hb8.mono HB7.out.size))
       clear hb8 HSA HW7
       go_wp2
       go_ret
       exact⟨rfl,HB0.out _ HB8.out⟩
end Go.Proofs.YtnidnipiihhnaaaGreatDoor
namespace Go.Proofs.YtnidnipiihhnaaaGreatDoor
open Go.ChangeShapes Go.WideShapes Go.RowKit
set_option linter.unusedVariables false
set_option maxRecDepth 20000
set_option maxHeartbeats 8000000
abbrev gB:List (String × DataW Unit):=[("math/bits.deBruijn32tab", Rows.laid_math_bits_deBruijn32tab),("math/bits.deBruijn64tab", Rows.laid_math_bits_deBruijn64tab),("internal/strconv.uint64pow10", Rows.laid_internal_strconv_uint64pow10),("unicode/utf8.acceptRanges", Rows.laid_unicode_utf8_acceptRanges),("strconv.ErrRange", Rows.laid_strconv_ErrRange),("strconv.ErrSyntax", Rows.laid_strconv_ErrSyntax),("unicode.White_Space", Rows.laid_unicode_White_Space),("strings.asciiSpace", Rows.laid_strings_asciiSpace),("vestry/printer.operators", Rows.laid_vestry_printer_operators),("unicode/utf8.first", Rows.laid_unicode_utf8_first)]
theorem qD {W:World} (h:laidMetH Tryz.prog gB W):laidMet Tryz.prog gB W:=by
 rwa [MakeChecks.laidMetH_plain _ _ _ (by kernel_rfl)] at h
theorem BZ {W:World} {n:String} {d:DataW Unit} {r:List (String × DataW Unit)} {g:Nat} (h:laidMet Tryz.prog ((n,d)::r) W) (hg:Tryz.prog.globalNamed n=some g):g<W.heap.size:=by
 obtain⟨ps,⟨g1,t1,cs1,f1,p1,q1,hg1,ht1,hv1,hd1,_⟩,_⟩:=h
 obtain rfl:=Option.some.inj (hg.symm.trans hg1)
 unfold World.var? at hv1
 rw[hg1] at hv1
 simp only[Option.bind_some] at hv1
 rcases Nat.lt_or_ge g W.heap.size with h | h
 ·exact h
 ·rw[Array.getElem?_eq_none h] at hv1
  cases hv1
theorem zm {W:World} {r:List (String × DataW Unit)} (h:laidMet Tryz.prog (("internal/strconv.uint64pow10", Rows.laid_internal_strconv_uint64pow10)::r) W):Lib.TabIs Tryz.prog W "internal/strconv.uint64pow10" .u64 Lib.pow10Tab:=by
 obtain⟨ps,⟨g2,t2,cs2,f2,p2,q2,hg2,ht2,hv2,hd2,_⟩,_⟩:=h
 obtain rfl:=Option.some.inj ((show Tryz.prog.globalNamed "internal/strconv.uint64pow10" = some 4 by kernel_rfl).symm.trans hg2)
 obtain rfl:=Option.some.inj ((show (Tryz.prog.globals[4]?).map (·.type)=some 236 by kernel_rfl).symm.trans ht2)
 have e:=Lib.cells_of_tab (k:=.u64) (zs:=Lib.pow10Tab) Tryz.underlying236 Tryz.underlying214 (by kernel_rfl) (by kernel_rfl) hd2
 unfold Lib.TabIs
 rw[hv2]
 exact congrArg some (Array.ext' (by rw[e]))
theorem Fj {W:World} {r:List (String × DataW Unit)} (h:laidMet Tryz.prog (("strings.asciiSpace", Rows.laid_strings_asciiSpace)::r) W):Lib.TabIs Tryz.prog W "strings.asciiSpace" .u8 Lib.asciiSpaceTab:=by
 obtain⟨ps,⟨g2,t2,cs2,f2,p2,q2,hg2,ht2,hv2,hd2,_⟩,_⟩:=h
 obtain rfl:=Option.some.inj ((show Tryz.prog.globalNamed "strings.asciiSpace" = some 1 by kernel_rfl).symm.trans hg2)
 obtain rfl:=Option.some.inj ((show (Tryz.prog.globals[1]?).map (·.type)=some 210 by kernel_rfl).symm.trans ht2)
 have hdd:(Rows.laid_strings_asciiSpace:DataW Unit)=Lib.tabData .u8 Lib.asciiSpaceTab:=by kernel_rfl
 rw[hdd] at hd2
 have e:=Lib.cells_of_tab (k:=.u8) (zs:=Lib.asciiSpaceTab) Tryz.underlying210 Tryz.underlying5 (by kernel_rfl) (by kernel_rfl) hd2
 unfold Lib.TabIs
 rw[hv2]
 exact congrArg some (Array.ext' (by rw[e]))
theorem Tryz.star : "*" ++ "errors.errorString" = "*errors.errorString" := by decide
theorem Tryz.IG (u:TypeId) (h:Tryz.prog.typeName? 3 u=some "*errors.errorString"):u=262 :=
 typeName_ptr_named (nm := "errors.errorString") (by rw[Tryz.star];kernel_rfl) (by kernel_rfl) (by decide) u (by rw[Tryz.star];exact h)
theorem Gj {W:World} {r:List (String × DataW Unit)} (h:laidMet Tryz.prog (("strconv.ErrRange", Rows.laid_strconv_ErrRange)::r) W):∃ev,W.cell? ⟨6,0,none⟩=some ev∧(ev = .nilIface∨∃te pe,ev = .iface te pe):=by
 have hg:Tryz.prog.globalNamed "strconv.ErrRange" = some 6:=by kernel_rfl
 obtain⟨a0,s0,hv0,-,-,-⟩:=laid_sentinel h hg (by kernel_rfl) Tryz.underlying187 Tryz.IG Tryz.underlying262 Tryz.underlying264 rfl rfl Tryz.underlying9 (by kernel_rfl) (by kernel_rfl)
 exact⟨_,by have h0:=World.var?_cell hg hv0 0;simpa using h0,.inr ⟨_,_,rfl⟩⟩
theorem uT {W:World} (hs:W.ShapedOpen Tryz.prog):∃m,W.cell? ⟨2,0,none⟩=some (.int .i64 m) :=
 cell_of_shapedOpen_int (P:=Tryz.prog) (zero:=#[.int .i64 0]) (t:=3) hs (by decide +kernel) (by kernel_rfl) rfl (by kernel_rfl) (by kernel_rfl) Tryz.underlying3
theorem Tryz.Ip:Tryz.prog.cellsOf 91=2:=by kernel_rfl
theorem Tryz.JE:Tryz.prog.cellsOf 3=1:=by kernel_rfl
theorem Tryz.JQ:Tryz.prog.cellsOf 9=1:=by kernel_rfl
theorem xK {H:Type} {enc:TypeId × Value→H} {W:World} {base:Nat} {spare:Nat→Bool} {held:Bool} {fuel:Nat} {cs:List Value} {ps:List MemPlace} {s:List UInt8} {n:Int} (h:DataW.trod enc Tryz.prog W base spare held fuel 91 cs=some (.agg [.lit (.string s),.lit (.int .i64 n)],ps)) :
  cs=[.string (aj s),.int .i64 n]:=by
 obtain⟨ys,m,_,hx,hl,hlen,hf⟩:=DataW.trod_struct Tryz.underlying91 h
 rw[Tryz.Ip] at hl
 match cs,hl with
 |
  [c0,c1],_ =>
  match ys,hlen with
  |
   [y0,y1],_ =>
   have f0:DataW.trod enc Tryz.prog W base spare held m 9 [c0]=some y0:=by
    have g:=hf 0 _ rfl
    change DataW.trod enc Tryz.prog W base spare held m 9 (([c0,c1].drop 0).take (Tryz.prog.cellsOf 9))=some y0 at g
    rw[Tryz.JQ] at g
    exact g
   have f1:DataW.trod enc Tryz.prog W base spare held m 3 [c1]=some y1:=by
    have g:=hf 1 _ rfl
    change DataW.trod enc Tryz.prog W base spare held m 3 (([c0,c1].drop 1).take (Tryz.prog.cellsOf 3))=some y1 at g
    rw[Tryz.JE] at g
    exact g
   obtain⟨s0,e0,d0,_⟩:=DataW.trod_string Tryz.underlying9 f0
   obtain⟨n0,e1,d1,_⟩:=DataW.trod_int Tryz.underlying3 f1
   subst d0 d1
   simp only[List.map_cons,List.map_nil,Prod.mk.injEq,DataW.agg.injEq,List.cons.injEq,DataW.lit.injEq,Lit.string.injEq,Lit.int.injEq,and_true,true_and] at hx
   obtain⟨⟨rfl,rfl⟩,_⟩:=hx
   simp only[List.cons.injEq,and_true] at e0 e1
   rw[e0,e1,jA]
def Kj (t:List UInt8 × Nat):DataW Unit:=.agg [.lit (.string t.1),.lit (.int .i64 t.2)]
theorem EZ {cs:List Value} {k:Nat} {a b:Value} (h:(cs.drop k).take 2=[a,b]):cs[k]?=some a∧cs[k+1]?=some b:=by
 have h0:((cs.drop k).take 2)[0]?=some a:=by rw[h];rfl
 have h1:((cs.drop k).take 2)[1]?=some b:=by rw[h];rfl
 rw[List.getElem?_take,if_pos (by decide),List.getElem?_drop] at h0 h1
 exact⟨by simpa using h0,h1⟩
theorem EK {W:World} {r:List (String × DataW Unit)} (h:laidMet Tryz.prog (("vestry/printer.operators", Rows.laid_vestry_printer_operators)::r) W):EP W:=by
 obtain⟨ps,⟨g2,t2,cs2,f2,p2,q2,hg2,ht2,hv2,hd2,_⟩,_⟩:=h
 have hg:Tryz.prog.globalNamed "vestry/printer.operators" = some 0:=by kernel_rfl
 obtain rfl:=Option.some.inj (hg.symm.trans hg2)
 obtain rfl:=Option.some.inj ((show (Tryz.prog.globals[0]?).map (·.type)=some 92 by kernel_rfl).symm.trans ht2)
 obtain⟨xs,m,_,hx,hl,hlen,hf⟩:=DataW.trod_array Tryz.underlying92 hd2
 have hdd:(Rows.laid_vestry_printer_operators:DataW Unit) = .agg (uj.map Kj):=by kernel_rfl
 rw[hdd] at hx
 simp only[Prod.mk.injEq,DataW.agg.injEq] at hx
 intro o ho
 have hf':=hf o (by omega)
 rw[Tryz.Ip] at hf'
 have hxo:(xs.map (·.1))[o]?=(uj.map Kj)[o]?:=by rw[← hx.1]
 obtain⟨x,hxe⟩:∃x,xs[o]?=some x:=⟨_,List.getElem?_eq_getElem (by omega)⟩
 rw[hxe] at hf'
 rw[List.getElem?_map,hxe,List.getElem?_map] at hxo
 have hto:uj[o]?=some (kN (o:Int),bU (o:Int)):=by
  have : ∀o:Fin 14,uj[o.1]?=some (kN (o.1:Int),bU (o.1:Int)):=by decide
  exact this ⟨o,by omega⟩
 rw[hto] at hxo
 simp only[Option.map_some,Option.some.injEq] at hxo
 obtain⟨d,pl⟩:=x
 dsimp only at hxo
 subst hxo
 obtain⟨k0,k1⟩:=EZ (xK hf')
 have c0:=World.var?_cell hg hv2 (o*2)
 have c1:=World.var?_cell hg hv2 (o*2+1)
 rw[Array.getElem?_toList] at k0 k1
 exact⟨c0.trans k0,c1.trans k1⟩
theorem AU {W:World} (h:laidMetH Tryz.prog gB W) (hs:W.ShapedOpen Tryz.prog):j6 W:=by
 have h':=qD h
 have hlt:10<W.heap.size:=BZ (g:=10) h'.tail (by kernel_rfl)
 exact⟨⟨by omega,uT hs,zm h'.tail.tail⟩,EK h'.tail.tail.tail.tail.tail.tail.tail.tail,hlt⟩
theorem A9 {W:World} (h:laidMetH Tryz.prog gB W) (hs:W.ShapedOpen Tryz.prog):jH W:=by
 have h':=qD h
 have hlt:10<W.heap.size:=BZ (g:=10) h'.tail (by kernel_rfl)
 exact⟨⟨by omega,uT hs,zm h'.tail.tail⟩,by omega,Fj h'.tail.tail.tail.tail.tail.tail.tail,Gj h'.tail.tail.tail.tail⟩
end Go.Proofs.YtnidnipiihhnaaaGreatDoor
