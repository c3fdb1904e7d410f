/- Packed for the hand-in: RefJM RefJF RefJT WScrL OpenT -/
import Derived.Test.YtnidnipiihhnaaaGreatDoorX45
import Derived.Test.YtnidnipiihhnaaaGreatDoorX46
import Derived.Test.YtnidnipiihhnaaaGreatDoorX47
import Derived.Test.YtnidnipiihhnaaaGreatDoorX48
import Derived.Test.YtnidnipiihhnaaaGreatDoorX37
import Derived.Test.YtnidnipiihhnaaaGreatDoorX26
import Derived.Test.YtnidnipiihhnaaaGreatDoorX42
import Derived.Test.YtnidnipiihhnaaaGreatDoorX43
import Derived.Test.YtnidnipiihhnaaaGreatDoorX27
import Derived.Test.YtnidnipiihhnaaaGreatDoorX29
import Derived.Test.YtnidnipiihhnaaaGreatDoorRows
import Derived.Test.YtnidnipiihhnaaaGreatDoorX07
import Derived.Handed
import Derived.LaidLaws
import Derived.Lay
import Derived.Lib.LaidTab
import Derived.Shelf.Vars
import Derived.SizedLaws
import Derived.MakeChecks
import Derived.Stop.LaidErr
import Derived.OpenShut
import Derived.ChangeArms
namespace Go.Proofs.YtnidnipiihhnaaaGreatDoor
open Go.RowKit Go.Shelf
set_option linter.unusedSimpArgs false
set_option linter.unusedVariables false
set_option maxRecDepth 20000
set_option maxHeartbeats 8000000
theorem jfits_no (S:Nat→Prop) (s:St) (cs:List Value) (w:World) (hR:RgS s) (hx:StE S w s cs) (hk:s.k<1∨6<s.k) :
  Calls Tryz.prog 32 #[.agg cs.toArray] w fun e w'=>e = .returned (.bool (rightS s))∧Below w.heap.size w w':=by
 have hX:rightS s=false:=by
  unfold rightS kindB
  rw[if_neg (by omega),if_neg (by omega),if_neg (by omega),if_neg (by omega),if_neg (by omega),if_neg (by omega)]
  rfl
 rw[hX]
 have hrt:=hR.tb
 clear hX hR
 obtain⟨a1,a2,a3,a4,a5,a6,a7,a8,n1,n2,n3,n4,n5,n6,n7,n8,c1,c2,c3,c4,c5,c6,c7,c8,rfl,_⟩:=hx
 obtain⟨k,tn,cols,prim,rows,sets,items,jn,on,wh,gr,od,desc,lim⟩:=s
 dsimp only at *
 obtain⟨W,hW,hbW,hzW,hcW⟩:=box8 w (.cells #[.int .i64 k,.string (str8 tn),.slice a1 n1 c1,.string (str8 prim),.slice a2 n2 c2,.slice a3 n3 c3,.slice a4 n4 c4,.string (str8 jn),.slice a5 n5 c5,.slice a6 n6 c6,.slice a7 n7 c7,.slice a8 n8 c8,.bool desc,.int .i64 lim] 42)
 have k0:=cells14 hcW
 have HC0:=hid hcW
 have HBW:=hid hbW
 have HNT:=hid (jname_any tn W hrt)
 generalize nameOk tn=bn at HNT
 clear hbW hcW hrt
 have hkk:k<1∨(¬k<1∧6<k):=by omega
 clear hk
 rcases hkk with hk | ⟨hk,hk6⟩
 all_goals
  go_enter Tryz.func32,Tryz.ntmps32
  go_wp2_with fail
  try rw[hW]
  refine HNT.out.mono ?_
  rintro e w1 ⟨rfl,hb1⟩
  have HB1:=hid (HBW.out.trans (hb1.mono HBW.out.size))
  have kk:=cells14 ((hb1.block w.heap.size hzW).trans HC0.out)
  clear hb1 HNT k0
  cases bn with
  |
   false =>
   go_wp2
   go_ret
   exact⟨rfl,HB1.out⟩
  |
   true =>
   go_wp2
   go_ret
   exact⟨rfl,HB1.out⟩
theorem jfits_any (S:Nat→Prop) (s:St) (cs:List Value) (w:World) (hR:RgS s) (hx:StE S w s cs) :
  Calls Tryz.prog 32 #[.agg cs.toArray] w fun e w'=>e = .returned (.bool (rightS s))∧Below w.heap.size w w':=by
 by_cases h1:s.k=1
 ·exact jfits_1 S s cs w hR hx h1
 by_cases h2:s.k=2
 ·exact jfits_2 S s cs w hR hx h2
 by_cases h3:s.k=3
 ·exact jfits_3 S s cs w hR hx h3
 by_cases h4:s.k=4
 ·exact jfits_4 S s cs w hR hx h4
 by_cases h5:s.k=5
 ·exact jfits_5 S s cs w hR hx h5
 by_cases h6:s.k=6
 ·exact jfits_6 S s cs w hR hx h6
 exact jfits_no S s cs w hR hx (by omega)
theorem new_jw (w:World):∃W,w.alloc (.cells #[.slice none 0 0,.int .i64 0] 64)=W∧Below w.heap.size w W∧w.heap.size<W.heap.size∧JwAt W w.heap.size none [] 0:=by
 obtain⟨W,hW,hbW,hzW,hcW⟩:=box8 w (.cells #[.slice none 0 0,.int .i64 0] 64)
 exact⟨W,hW,hbW,hzW,⟨_,hcW,World.ownsRow_nil _ _ _ _,rfl⟩⟩
theorem areB_oneE {xs:List Ex} (h:areB xs 0 1 rightE=true):xs.length≤1∧∀x∈xs,rightE x=true:=⟨(areB_len h).2,areB_mem h⟩
theorem areB_oneC {xs:List Ex} (h:areB xs 0 1 colEB=true):xs.length≤1∧∀x∈xs,rightE x=true:=⟨(areB_len h).2,fun x hx=>colE_right (areB_mem h x hx)⟩
theorem jstate_any (x:St) (hr:rightS x=true) (cs:List Value) (g:Nat) (tb:Option Nat) (L:List Tk) (m:Int) (w:World) (h:JwAt w g tb L m) (hx:StE (fun b=>b<g) w x cs) (hL:L.length+(tkS x).length+40≤10000000) (hd:dpS x≤100000) (hm0:0≤m) (hm:m≤1000000) :
  Calls Tryz.prog 34 #[.pointer (some ⟨g,0,none⟩),.agg cs.toArray] w fun e w'=>e = .returned (.tuple #[])∧JWrote g tb w w' (L++tkS x) (max m ((dpS x:Nat):Int)):=by
 obtain⟨a1,a2,a3,a4,a5,a6,a7,a8,n1,n2,n3,n4,n5,n6,n7,n8,c1,c2,c3,c4,c5,c6,c7,c8,rfl,x1,x2,x3,x4,x5,x6,x7,x8⟩:=hx
 have hkk:=rightS_k hr
 have hkB:kindB x=true:=by unfold rightS at hr;simp only[Bool.and_eq_true] at hr;exact hr.1
 unfold kindB at hkB
 unfold tkS at hL ⊢
 unfold dpS at hd ⊢
 obtain⟨k,tn,cols,prim,rows,sets,items,jn,on,wh,gr,od,desc,lim⟩:=x
 dsimp only at *
 clear hr
 have e0:max m ((0:Nat):Int)=m:=by omega
 rcases hkk with rfl | rfl | rfl | rfl | rfl | rfl
 ·simp only[if_true] at hkB hL
  simp only[show ¬((1:Int)=4) by decide,show ¬((1:Int)=5) by decide,show ¬((1:Int)=6) by decide,if_true,if_false] at hd ⊢
  rw[e0]
  simp only[Bool.and_eq_true] at hkB
  have hne:cols≠[]:=fun e=>by have:=(areB_len hkB.1).1;rw[e] at this;simp at this
  have hcs:=colsJ_sep cols hne
  have hl:L.length+(cols.flatMap colJ).length+20≤10000000:=by
   rw[hcs]
   simp[crK,wordsK] at hL
   simp
   omega
  refine (jstate_1 cols tn prim jn desc lim a1 a2 a3 a4 a5 a6 a7 a8 n1 n2 n3 n4 n5 n6 n7 n8 c1 c2 c3 c4 c5 c6 c7 c8 g tb L m w h x1 hl).mono fun e w' ⟨h1,h2⟩=>⟨h1,?_⟩
  rw[hcs] at h2
  simpa [crK,wordsK] using h2
 ·simp only[show ¬((2:Int)=1) by decide,show ¬((2:Int)=3) by decide,show ¬((2:Int)=4) by decide,show ¬((2:Int)=5) by decide,show ¬((2:Int)=6) by decide,if_true,if_false] at hkB hL hd ⊢
  rw[e0]
  exact jstate_2 tn prim jn desc lim a1 a2 a3 a4 a5 a6 a7 a8 n1 n2 n3 n4 n5 n6 n7 n8 c1 c2 c3 c4 c5 c6 c7 c8 g tb L m w h (by omega)
 ·simp only[show ¬((3:Int)=1) by decide,show ¬((3:Int)=2) by decide,show ¬((3:Int)=4) by decide,show ¬((3:Int)=5) by decide,show ¬((3:Int)=6) by decide,if_true,if_false] at hkB hL hd ⊢
  rw[e0]
  exact jstate_3 rows tn prim jn desc lim a1 a2 a3 a4 a5 a6 a7 a8 n1 n2 n3 n4 n5 n6 n7 n8 c1 c2 c3 c4 c5 c6 c7 c8 g tb L m w h x2 (areB_mem hkB) (by simp[wordsK] at hL;omega)
 ·simp only[show ¬((4:Int)=1) by decide,show ¬((4:Int)=2) by decide,show ¬((4:Int)=3) by decide,show ¬((4:Int)=5) by decide,show ¬((4:Int)=6) by decide,if_true,if_false] at hkB hL hd ⊢
  simp only[Bool.and_eq_true] at hkB
  have hdm:maxL (sets.map setD)≤100000:=by
    have:maxL (sets.map fun x=>exD x.e)≤100000:=by omega
    exact this
  exact jstate_4 sets wh tn prim jn desc lim a1 a2 a3 a4 a5 a6 a7 a8 n1 n2 n3 n4 n5 n6 n7 n8 c1 c2 c3 c4 c5 c6 c7 c8 g tb L m w h x3 x6 (areB_mem hkB.1) (areB_oneE hkB.2) (by simp at hL;omega) (fun s hs=>Nat.le_trans (maxL_mem setD sets s hs) hdm) (by omega) hm0 hm
 ·simp only[show ¬((5:Int)=1) by decide,show ¬((5:Int)=2) by decide,show ¬((5:Int)=3) by decide,show ¬((5:Int)=4) by decide,show ¬((5:Int)=6) by decide,if_true,if_false] at hkB hL hd ⊢
  exact jstate_5 wh tn prim jn desc lim a1 a2 a3 a4 a5 a6 a7 a8 n1 n2 n3 n4 n5 n6 n7 n8 c1 c2 c3 c4 c5 c6 c7 c8 g tb L m w h x6 (areB_oneE hkB) (by simp[wordsK] at hL;omega) (by omega) hm0 hm
 ·simp only[show ¬((6:Int)=1) by decide,show ¬((6:Int)=2) by decide,show ¬((6:Int)=3) by decide,show ¬((6:Int)=4) by decide,show ¬((6:Int)=5) by decide,if_true,if_false] at hkB hL hd ⊢
  unfold selB at hkB
  simp only[Bool.and_eq_true,decide_eq_true_eq] at hkB
  obtain⟨b1,b2,b3,b4,b5,b6,b7,b8,b9⟩:=hkB
  have hon1:=areB_len b3
  have hj1:joinN jn≤1:=by unfold joinN;split<;>omega
  have hll:L.length+(sepK (fxT [44]) (items.map itK)).length+(partK on [[79,78]]).length+(partK wh [[87,72,69,82,69]]).length+(partK gr [[71,82,79,85,80],[66,89]]).length+(partK od [[79,82,68,69,82],[66,89]]).length+20≤10000000:=by
   unfold selK at hL
   dsimp only at hL
   simp only[List.length_append,List.length_cons] at hL
   omega
  exact jstate_6 cols rows sets items on wh gr od tn prim jn desc lim a1 a2 a3 a4 a5 a6 a7 a8 n1 n2 n3 n4 n5 n6 n7 n8 c1 c2 c3 c4 c5 c6 c7 c8 g tb L m w h x4 x5 x6 x7 x8 (areB_mem b1) (by omega) ⟨by omega,areB_mem b3⟩ (areB_oneE b4) (areB_oneC b5) (areB_oneC b6) b8 hll (fun i hi=>Nat.le_trans (maxL_mem itD items i hi) (by omega)) (by omega) (by omega) (by omega) (by omega) hm0 hm
theorem sepS_take {α:Type} (sep:Tk) (f:α→List Tk) (xs:List α) (k:Nat) (x:α) (hx:xs[k]?=some x):sepK sep ((xs.take (k+1)).map f)=sepK sep ((xs.take k).map f)++(if k=0 then [] else [sep])++f x:=by
 have hlt:=(List.getElem?_eq_some_iff.1 hx).1
 rw[List.take_add_one,hx,Option.toList_some,List.map_append,List.map_cons,List.map_nil,sepK_snoc]
 by_cases h0:k=0
 ·subst h0
  simp[sepK]
 ·have hne : ¬(xs.take k).map f=[]:=by
   intro e
   have:=congrArg List.length e
   rw[List.length_map,List.length_take,List.length_nil] at this
   omega
  rw[if_neg hne,if_neg h0]
  simp
theorem jscript_any (S:Nat→Prop) (l:List St) (v:Value) (w:World) (hR : ∀s∈l,RgS s) (hv:SlAt 14 StE S w l v) (hz:l.length≤8→∀s∈l,rightS s=true→∀e∈exsS s,exZ e≤5000) :
  Calls Tryz.prog 16 #[v] w fun e w'=>e = .returned (.tuple #[.string (str8 (scrA l).1),.int .i64 (scrA l).2])∧Below w.heap.size w w':=by
 have HV:=hid (hv.to (T:=fun b=>b<w.heap.size) (by decide) (R:=fun _=>False) (Spares.refl _ w) (fun b _ hb=>⟨id,hb⟩) (fun _ _ e=>e.to (R:=fun _=>False) (Spares.refl _ w) (fun b _ hb=>⟨id,hb⟩)))
 obtain⟨aa,cc,css,rfl,h1,h2,_⟩:=hv
 unfold maxLen at h2
 unfold scrA
 by_cases h8:8<l.length
 ·rw[if_pos h8]
  have h8':(8:Int)<(l.length:Int):=by omega
  clear hz hR HV
  go_enter Tryz.func16,Tryz.ntmps16
  go_wp2
  exact bodyPost_ret (v:=.tuple #[.string ⟨#[]⟩,.int .i64 2]) (by simp[results,Tryz.results16,go_sem]) rfl ⟨rfl,Below.refl _ _⟩
 ·rw[if_neg h8]
  have h8' : ¬(8:Int)<(l.length:Int):=by omega
  by_cases h0:l.length=0
  ·have hA : ¬areB l 1 8 rightS=true:=fun e=>by have:=(areB_len e).1;omega
   rw[if_neg hA]
   have h0':((l.length:Int)==0)=true:=by rw[beq_iff_eq];omega
   clear hz hR HV hA h0
   go_enter Tryz.func16,Tryz.ntmps16
   go_wp2
   exact bodyPost_ret (v:=.tuple #[.string ⟨#[]⟩,.int .i64 4]) (by simp[results,Tryz.results16,go_sem]) rfl ⟨rfl,Below.refl _ _⟩
  ·have h0':((l.length:Int)==0)=false:=by rw[beq_eq_false_iff_ne];omega
   have HFA:=hid (fun s (hs:s∈l) (hp:rightS s=false)=>areB_no (lo:=1) (hi:=8) hs hp)
   have HTR:Hid (l.all rightS=true→areB l 1 8 rightS=true):=hid (fun h=>by rw[← areB_yes h];exact decide_eq_true ⟨by omega,by omega⟩)
   have HZ:=hid (fun s (hs:s∈l) (hr:rightS s=true)=>hz (by omega) s hs hr)
   have HRR:=hid hR
   obtain⟨XX,hXX⟩:∃X,(if areB l 1 8 rightS=true then srcA (sepK (fxT [59]) (l.map tkS)) ((maxL (l.map dpS):Nat):Int) else (([],4):List UInt8 × Int))=X:=⟨_,rfl⟩
   rw[hXX]
   have HXF:Hid (areB l 1 8 rightS=false→XX=([],4)):=hid (fun h=>by rw[← hXX,if_neg (by rw[h];exact Bool.false_ne_true)])
   have HXT:Hid (areB l 1 8 rightS=true→srcA (sepK (fxT [59]) (l.map tkS)) ((maxL (l.map dpS):Nat):Int)=XX):=hid (fun h=>by rw[← hXX,if_pos h])
   obtain⟨W,hW,hbW,hzW,hjW⟩:=new_jw w
   have HBW:=hid hbW
   have HJW:=hid hjW
   have HS0:=hid hjW.here
   have HVW:=hid (HV.out.to (T:=fun b=>b<w.heap.size) (by decide) (R:=fun _=>False) (Spares.of_new hbW) (fun b hb _=>⟨id,hb⟩) (fun _ _ e=>e.to (R:=fun _=>False) (Spares.of_new hbW) (fun b hb _=>⟨id,hb⟩)))
   clear hXX hz hR HV hbW hjW h0
   go_enter Tryz.func16,Tryz.ntmps16
   go_wp2_with fail
   try rw[hW]
   go_loopw [5,6] (fun i _ wr=>∃(k:Nat),k≤l.length∧i = .int .i64 k∧JWrote w.heap.size none W wr (sepK (fxT [59]) ((l.take k).map tkS)) ((maxL ((l.take k).map dpS):Nat):Int)∧Hid ((l.take k).all rightS=true)) (fun i _ _=>l.length-(intOf i).toNat)
   case atStart=>exact⟨0,Nat.zero_le _,rfl,HS0.out,hid rfl⟩
   case round =>
    clear HS0
    obtain⟨k,hk,rfl,hq,HK⟩:=hrel
    by_cases hlt:k<l.length
    ·obtain⟨x,hx⟩:∃x,l[k]?=some x:=⟨_,List.getElem?_eq_getElem hlt⟩
     have hlt':((k:Int)<(l.length:Int)):=by omega
     have hxm:=List.mem_of_getElem? hx
     obtain⟨_,_,_,b,off,cs,rfl,hbS,hel,hcell⟩:=sl_get (HVW.out.to (T:=fun b=>b<w.heap.size) (by decide) hq.fr (fun b hb _=>⟨HJW.out.keeps b hb,hb⟩) (fun _ _ e=>e.to hq.fr (fun b hb _=>⟨HJW.out.keeps b hb,hb⟩))) hx
     have HFI:=hid (jfits_any _ x cs wr (HRR.out x hxm) hel)
     have HXF2:=hid (fun hp=>HXF.out (HFA.out x hxm hp))
     have HTT:=hid (all_take_succ rightS hx)
     have hst:=sepS_take (fxT [59]) tkS l k x hx
     have hmt:=maxL_take dpS l k x hx
     have hzx:=HZ.out x hxm
     have HEL:=hid hel
     have HCL:=hid hcell
     have hkl:(sepK (fxT [59]) ((l.take k).map tkS)).length≤8*501001∧maxL ((l.take k).map dpS)≤10000:=by
      have hall : ∀s∈l.take k,rightS s=true:=fun s hs=>List.all_eq_true.1 HK.out s hs
      refine ⟨Nat.le_trans (sepK_le (fxT [59]) tkS 501000 (l.take k) (fun s hs=>tkS_le (hall s hs) (HZ.out s (List.mem_of_mem_take hs) (hall s hs)))) ?_,maxL_up (fun n hn=>?_)⟩
      ·exact Nat.mul_le_mul_right _ (by rw[List.length_take];omega)
      ·obtain⟨s,hs,rfl⟩:=List.mem_map.1 hn
       exact dpS_le (HZ.out s (List.mem_of_mem_take hs) (hall s hs))
     obtain⟨a1,a2,a3,a4,a5,a6,a7,a8,n1,n2,n3,n4,n5,n6,n7,n8,c1,c2,c3,c4,c5,c6,c7,c8,rfl,_⟩:=id hel
     have q0:=hcell 0 _ rfl
     have q1:=hcell 1 _ rfl
     have q2:=hcell 2 _ rfl
     have q3:=hcell 3 _ rfl
     have q4:=hcell 4 _ rfl
     have q5:=hcell 5 _ rfl
     have q6:=hcell 6 _ rfl
     have q7:=hcell 7 _ rfl
     have q8:=hcell 8 _ rfl
     have q9:=hcell 9 _ rfl
     have q10:=hcell 10 _ rfl
     have q11:=hcell 11 _ rfl
     have q12:=hcell 12 _ rfl
     have q13:=hcell 13 _ rfl
     simp only[Nat.add_zero] at q0
     have HQ:=hid hq
     have HLK:=hid hx
     clear hcell hel hq hx
     cases hp:rightS x with
     |
      false =>
      rw[hp] at HFI
      have HXX:=hid (HXF2.out hp)
      clear HXF2 HXF HXT hst hmt hzx HTT HK hp
      go_wp2_with fail
      refine HFI.out.mono ?_
      rintro e w1 ⟨rfl,hb1⟩
      have HB1:Hid (Below w.heap.size w w1):=hid (HBW.out.trans ((HQ.out.fr.below (fun i hi=>by
       rcases hi with rfl | e
       ·omega
       ·cases e) (by omega)).trans (hb1.mono (by have:=HQ.out.size;omega))))
      clear hb1 HFI
      go_wp2
      exact bodyPost_ret (v:=.tuple #[.string ⟨#[]⟩,.int .i64 4]) (by simp[results,Tryz.results16,go_sem]) rfl ⟨by rw[HXX.out];rfl,HB1.out⟩
     |
      true =>
      rw[hp] at HFI
      have hzz:=hzx hp
      have htl:=tkS_le hp hzz
      have hdl:=dpS_le hzz
      have HK2:Hid ((l.take (k+1)).all rightS=true):=hid (by rw[HTT.out,HK.out,hp];rfl)
      have HSN:Hid (sepK (fxT [59]) ((l.take (k+1)).map tkS)=sepK (fxT [59]) ((l.take k).map tkS)++(if k=0 then [] else [fxT [59]])++tkS x):=hid hst
      have HMN:Hid (((maxL ((l.take (k+1)).map dpS):Nat):Int)=max ((maxL ((l.take k).map dpS):Nat):Int) ((dpS x:Nat):Int)):=hid (by rw[hmt];omega)
      have HPX:=hid hp
      clear HXF2 hst hmt hzx HTT HK hp
      generalize sepK (fxT [59]) ((l.take k).map tkS)=LL at HQ HSN hkl
      obtain⟨hk1,hk2⟩:=hkl
      have hMb:0≤((maxL ((l.take k).map dpS):Nat):Int)∧((maxL ((l.take k).map dpS):Nat):Int)≤1000000:=by omega
      generalize ((maxL ((l.take k).map dpS):Nat):Int)=MM at HQ HMN hMb
      go_wp2_with fail
      refine HFI.out.mono ?_
      rintro e w1 ⟨rfl,hb1⟩
      have HQ1:Hid (JWrote w.heap.size none W w1 LL MM):=hid (by
       obtain⟨tb',j1,j2,j3⟩:=HQ.out
       exact JWrote.then j2 j3 (JWrote.new hb1 (j1.below hb1).here))
      have HB1:=hid hb1
      have HC1:=hid (fun (V:World) (hV:FrW w.heap.size none W V)=>(sl_get (HVW.out.to (T:=fun b=>b<w.heap.size) (by decide) hV (fun b hb _=>⟨HJW.out.keeps b hb,hb⟩) (fun _ _ e=>e.to hV (fun b hb _=>⟨HJW.out.keeps b hb,hb⟩))) (show l[k]?=some x from HLK.out)))
      clear hb1 HFI q0 q1 q2 q3 q4 q5 q6 q7 q8 q9 q10 q11 q12 q13 HEL HCL HQ HB1
      by_cases hk0:k=0
      ·subst hk0
       have HSX:Hid (LL++tkS x=sepK (fxT [59]) ((l.take (0+1)).map tkS)):=hid (by rw[HSN.out];simp)
       obtain⟨_,_,_,b',off',cs',hbe,_,hel,hcell⟩:=HC1.out w1 HQ1.out.fr
       simp only[Option.some.injEq,Addr.mk.injEq,and_true] at hbe
       obtain⟨rfl,rfl⟩:=hbe
       have HX5:=hid (HQ1.out.next (fun tb' h'=>jstate_any x HPX.out cs' w.heap.size tb' _ _ w1 h' hel (by simp[wordsK];omega) (by omega) hMb.1 hMb.2))
       obtain⟨e1,e2,e3,e4,e5,e6,e7,e8,p1,p2,p3,p4,p5,p6,p7,p8,d1,d2,d3,d4,d5,d6,d7,d8,rfl,_⟩:=hel
       have q0:=hcell 0 _ rfl
       have q1:=hcell 1 _ rfl
       have q2:=hcell 2 _ rfl
       have q3:=hcell 3 _ rfl
       have q4:=hcell 4 _ rfl
       have q5:=hcell 5 _ rfl
       have q6:=hcell 6 _ rfl
       have q7:=hcell 7 _ rfl
       have q8:=hcell 8 _ rfl
       have q9:=hcell 9 _ rfl
       have q10:=hcell 10 _ rfl
       have q11:=hcell 11 _ rfl
       have q12:=hcell 12 _ rfl
       have q13:=hcell 13 _ rfl
       simp only[Nat.add_zero] at q0
       clear hcell HC1 HQ1
       go_wp2_with fail
       refine HX5.out.mono ?_
       rintro e w5 ⟨rfl,hs5⟩
       have HQ5:=hid hs5
       rw[HSX.out,← HMN.out] at HQ5
       clear hs5 HX5 q0 q1 q2 q3 q4 q5 q6 q7 q8 q9 q10 q11 q12 q13
       go_wp2
       go_roundw
       case rel=>exact⟨_,by omega,by go_num,HQ5.out,HK2⟩
       case measure=>simp[intOf];omega
      ·have hk0':((0:Int)<(k:Int)):=by omega
       have HSX:Hid (LL++wordsK [[59]]++tkS x=sepK (fxT [59]) ((l.take (k+1)).map tkS)):=hid (by rw[HSN.out,if_neg hk0];simp[wordsK])
       have HX1:=hid (HQ1.out.next (fun tb' h'=>jwords_new w.heap.size tb' _ _ [[59]] w1 h' (by simp) (by decide) (by simp;omega)))
       clear hk0
       go_wp2_with fail
       refine HX1.out.mono ?_
       rintro e w2 ⟨rfl,hs2⟩
       have HQ2:=hid hs2
       clear hs2 HX1 HQ1
       obtain⟨_,_,_,b',off',cs',hbe,_,hel,hcell⟩:=HC1.out w2 HQ2.out.fr
       simp only[Option.some.injEq,Addr.mk.injEq,and_true] at hbe
       obtain⟨rfl,rfl⟩:=hbe
       have HX5:=hid (HQ2.out.next (fun tb' h'=>jstate_any x HPX.out cs' w.heap.size tb' _ _ w2 h' hel (by simp[wordsK];omega) (by omega) hMb.1 hMb.2))
       obtain⟨e1,e2,e3,e4,e5,e6,e7,e8,p1,p2,p3,p4,p5,p6,p7,p8,d1,d2,d3,d4,d5,d6,d7,d8,rfl,_⟩:=hel
       have q0:=hcell 0 _ rfl
       have q1:=hcell 1 _ rfl
       have q2:=hcell 2 _ rfl
       have q3:=hcell 3 _ rfl
       have q4:=hcell 4 _ rfl
       have q5:=hcell 5 _ rfl
       have q6:=hcell 6 _ rfl
       have q7:=hcell 7 _ rfl
       have q8:=hcell 8 _ rfl
       have q9:=hcell 9 _ rfl
       have q10:=hcell 10 _ rfl
       have q11:=hcell 11 _ rfl
       have q12:=hcell 12 _ rfl
       have q13:=hcell 13 _ rfl
       simp only[Nat.add_zero] at q0
       clear hcell HC1 HQ2
       go_wp2_with fail
       refine HX5.out.mono ?_
       rintro e w5 ⟨rfl,hs5⟩
       have HQ5:=hid hs5
       rw[HSX.out,← HMN.out] at HQ5
       clear hs5 HX5 q0 q1 q2 q3 q4 q5 q6 q7 q8 q9 q10 q11 q12 q13
       go_wp2
       go_roundw
       case rel=>exact⟨_,by omega,by go_num,HQ5.out,HK2⟩
       case measure=>simp[intOf];omega
    ·have hlt' : ¬((k:Int)<(l.length:Int)):=by omega
     have hall:l.all rightS=true:=by have:=HK.out;rw[List.take_of_length_le (by omega)] at this;exact this
     rw[List.take_of_length_le (by omega)] at hq
     have hgood : ∀s∈l,rightS s=true:=List.all_eq_true.1 hall
     have hok : ∀t∈sepK (fxT [59]) (l.map tkS),OkT t:=fun t ht=>(AllG.sep (good_fx (by decide)) (fun x hx=>by
      obtain⟨s,hs,rfl⟩:=List.mem_map.1 hx
      exact state_good (hgood s hs)) t ht).ok
     have hsl:=sepK_le (fxT [59]) tkS 501000 l (fun s hs=>tkS_le (hgood s hs) (HZ.out s hs (hgood s hs)))
     have hl8:l.length≤8:=by omega
     have hsl2:(sepK (fxT [59]) (l.map tkS)).length≤4008008:=Nat.le_trans hsl (Nat.mul_le_mul_right _ hl8)
     obtain⟨tb',j1,j2,j3⟩:=hq
     have HE:=hid (jend_any w.heap.size tb' _ _ wr j1 hok (by omega))
     rw[HXT.out (HTR.out hall)] at HE
     have HBR:Hid (Below w.heap.size w wr):=hid (HBW.out.trans (j3.below (fun i hi=>by
      rcases hi with rfl | e
      ·omega
      ·cases e) (by omega)))
     clear hall hgood hok hsl hsl2 j1 j2 j3 HXT HXF HTR HFA HK
     go_wp2_with fail
     refine HE.out.mono ?_
     rintro e w1 ⟨rfl,hb1⟩
     have HB1:=hid (HBR.out.trans (hb1.mono HBR.out.size))
     clear hb1 HE
     go_wp2
     exact bodyPost_ret (v:=.tuple #[.string (str8 XX.1),.int .i64 XX.2]) (by simp[results,Tryz.results16,go_sem]) rfl ⟨rfl,HB1.out⟩
theorem SlAt.newT {S:Nat→Prop} {w w':World} {l:List St} {v:Value} (h:SlAt 14 StE S w l v) (hb:Below w.heap.size w w'):SlAt 14 StE S w' l v :=
 h.to (by decide) (R:=fun _=>False) (T:=S) (Spares.of_new hb) (fun b hb _=>⟨id,hb⟩) (fun _ _ e=>e.to (R:=fun _=>False) (T:=S) (Spares.of_new hb) (fun b hb _=>⟨id,hb⟩))
theorem printScripts_law (l:List St) (lv:Value) (w:World) (hl:SlAt 14 StE (fun b=>b<w.heap.size) w l lv) (hRl : ∀s∈l,RgS s) (hTW:TabW w) :
  Calls Tryz.prog 4 #[lv] w fun e w'=>e = .returned (.bool true)∧Below w.heap.size w w':=by
 have HLW:=hid hl
 obtain⟨la,lc,css,rfl,hlc,hlm,_⟩:=hl
 unfold maxLen at hlm
 have HTW:=hid hTW
 have HSM:=hid (small10_any w hTW)
 have HFS:=hid (fun s (hs:s∈l) cs V (hV:StE (fun b=>b<w.heap.size) V s cs)=>fewState_any _ s cs V (hRl s hs) hV)
 have HPS:=hid (fun V (h:TabW V) (hV:Below w.heap.size w V) (hf:(l.take 10).all fewS=true)=>printScript_any _ l _ V h hRl (HLW.out.newT hV) (fun h8 s hs hr=>fewS_size hr (by
  rw[List.take_of_length_le (by omega),List.all_eq_true] at hf
  exact hf s hs)))
 have HJS:=hid (fun V (hV:Below w.heap.size w V) (hf:(l.take 10).all fewS=true)=>jscript_any _ l _ V hRl (HLW.out.newT hV) (fun h8 s hs hr=>fewS_size hr (by
  rw[List.take_of_length_le (by omega),List.all_eq_true] at hf
  exact hf s hs)))
 obtain⟨⟨A,c⟩,hA⟩:∃a,scrA l=a:=⟨_,rfl⟩
 rw[hA] at HPS HJS
 dsimp only at HPS HJS
 clear hA hTW hRl
 go_enter Tryz.func4,Tryz.ntmps4
 go_wp2_with fail
 refine HSM.out.mono ?_
 rintro e w1 ⟨rfl,hb1⟩
 have HB1:=hid hb1
 clear hb1 HSM
 go_wp2_with fail
 go_loopw [4,5] (fun i _ wr=>∃(j:Nat),j≤l.length∧j≤10∧i = .int .i64 j∧Below w.heap.size w wr∧Hid ((l.take j).all fewS=true)) (fun i _ _=>l.length-(intOf i).toNat)
 case atStart=>exact⟨0,Nat.zero_le _,Nat.zero_le _,rfl,HB1.out,hid rfl⟩
 case round =>
  clear HB1
  obtain⟨j,hj,hj10,rfl,hbel,HK⟩:=hrel
  by_cases hgo:j<l.length∧j<10
  ·obtain⟨hlt,hl2⟩:=hgo
   have hlt':((j:Int)<(l.length:Int)):=by omega
   have hl2':((j:Int)<10):=by omega
   obtain⟨y,hy⟩:∃y,l[j]?=some y:=⟨_,List.getElem?_eq_getElem hlt⟩
   obtain⟨_,_,_,gb,off,cs,rfl,_,hel,hcell⟩:=sl_get (HLW.out.newT hbel) hy
   have HC:=hid (HFS.out y (List.mem_of_getElem? hy) _ wr hel)
   have HTS:=hid (all_take_succ fewS hy)
   obtain⟨a1,a2,a3,a4,a5,a6,a7,a8,n1,n2,n3,n4,n5,n6,n7,n8,c1,c2,c3,c4,c5,c6,c7,c8,rfl,_⟩:=hel
   have q0:=hcell 0 _ rfl
   have q1:=hcell 1 _ rfl
   have q2:=hcell 2 _ rfl
   have q3:=hcell 3 _ rfl
   have q4:=hcell 4 _ rfl
   have q5:=hcell 5 _ rfl
   have q6:=hcell 6 _ rfl
   have q7:=hcell 7 _ rfl
   have q8:=hcell 8 _ rfl
   have q9:=hcell 9 _ rfl
   have q10:=hcell 10 _ rfl
   have q11:=hcell 11 _ rfl
   have q12:=hcell 12 _ rfl
   have q13:=hcell 13 _ rfl
   simp only[Nat.add_zero] at q0
   have HBR:=hid hbel
   clear hbel hcell hy
   obtain⟨bs,hbs⟩:∃b,fewS y=b:=⟨_,rfl⟩
   rw[hbs] at HC HTS
   have HK2:Hid (bs=true→(l.take (j+1)).all fewS=true):=hid (fun h=>by
    rw[HTS.out,HK.out,h]
    rfl)
   clear HK HTS hbs
   go_wp2_with fail
   refine HC.out.mono ?_
   rintro e w3 ⟨rfl,hb3⟩
   have HB3:Hid (Below w.heap.size w w3):=hid (HBR.out.trans (hb3.mono HBR.out.size))
   clear hb3 HC
   cases bs with
   |
    false =>
    go_wp2
    go_ret
    exact⟨rfl,HB3.out⟩
   |
    true =>
    have HK3:=hid (HK2.out rfl)
    clear HK2
    go_wp2
    go_roundw
    case rel=>exact⟨j+1,by omega,by omega,by go_num,HB3.out,HK3⟩
    case measure=>simp[intOf];omega
  ·have hend:(((j:Int)<(l.length:Int))∧¬((j:Int)<10))∨¬((j:Int)<(l.length:Int)):=by omega
   have hall:(l.take 10).all fewS=true:=by
    have:=HK.out
    by_cases h10:j=10
    ·rw[h10] at this;exact this
    ·have hjl:j=l.length:=by omega
     rw[List.take_of_length_le (by omega)] at this
     rw[List.all_eq_true] at this ⊢
     exact fun y hy=>this y (List.mem_of_mem_take hy)
   have HP:=hid (HPS.out wr (HTW.out.on hbel) hbel hall)
   have HJ:=hid (fun V (hV:Below w.heap.size w V)=>HJS.out V hV hall)
   have HBR:=hid hbel
   clear hbel hall HPS HJS HK hgo hj hj10
   rcases hend with⟨h1,h2⟩ | h1
   all_goals
    go_wp2_with fail
    refine HP.out.mono ?_
    rintro e w2 ⟨rfl,hb2⟩
    have HB2:=hid (HBR.out.trans (hb2.mono HBR.out.size))
    have HJ2:=hid (HJ.out w2 HB2.out)
    clear hb2 HP HJ
    go_wp2_with fail
    refine HJ2.out.mono ?_
    rintro e w3 ⟨rfl,hb3⟩
    have HB3:=hid (HB2.out.trans (hb3.mono HB2.out.size))
    clear hb3 HJ2
    go_wp2
    go_ret
    exact⟨by simp,HB3.out⟩
end Go.Proofs.YtnidnipiihhnaaaGreatDoor
namespace Go.Proofs.YtnidnipiihhnaaaGreatDoor
open Go.ChangeShapes Go.WideShapes Go.RowKit
set_option linter.unusedVariables false
set_option maxRecDepth 20000
set_option maxHeartbeats 8000000
abbrev laid6:List (String × DataW Unit):=[("math/bits.deBruijn32tab", Rows.laid_math_bits_deBruijn32tab),("math/bits.deBruijn64tab", Rows.laid_math_bits_deBruijn64tab),("internal/strconv.uint64pow10", Rows.laid_internal_strconv_uint64pow10),("unicode/utf8.acceptRanges", Rows.laid_unicode_utf8_acceptRanges),("vestry/printer.operators", Rows.laid_vestry_printer_operators),("unicode/utf8.first", Rows.laid_unicode_utf8_first)]
theorem laid6_plain {W:World} (h:laidMetH Tryz.prog laid6 W):laidMet Tryz.prog laid6 W:=by
 rwa [MakeChecks.laidMetH_plain _ _ _ (by kernel_rfl)] at h
theorem head_lt {W:World} {n:String} {d:DataW Unit} {r:List (String × DataW Unit)} {g:Nat} (h:laidMet Tryz.prog ((n,d)::r) W) (hg:Tryz.prog.globalNamed n=some g):g<W.heap.size:=by
 obtain⟨ps,⟨g1,t1,cs1,f1,p1,q1,hg1,ht1,hv1,hd1,_⟩,_⟩:=h
 obtain rfl:=Option.some.inj (hg.symm.trans hg1)
 unfold World.var? at hv1
 rw[hg1] at hv1
 simp only[Option.bind_some] at hv1
 rcases Nat.lt_or_ge g W.heap.size with h | h
 ·exact h
 ·rw[Array.getElem?_eq_none h] at hv1
  cases hv1
theorem pow_head {W:World} {r:List (String × DataW Unit)} (h:laidMet Tryz.prog (("internal/strconv.uint64pow10", Rows.laid_internal_strconv_uint64pow10)::r) W):Lib.TabIs Tryz.prog W "internal/strconv.uint64pow10" .u64 Lib.pow10Tab:=by
 obtain⟨ps,⟨g2,t2,cs2,f2,p2,q2,hg2,ht2,hv2,hd2,_⟩,_⟩:=h
 obtain rfl:=Option.some.inj ((show Tryz.prog.globalNamed "internal/strconv.uint64pow10" = some 4 by kernel_rfl).symm.trans hg2)
 obtain rfl:=Option.some.inj ((show (Tryz.prog.globals[4]?).map (·.type)=some 236 by kernel_rfl).symm.trans ht2)
 have e:=Lib.cells_of_tab (k:=.u64) (zs:=Lib.pow10Tab) Tryz.underlying236 Tryz.underlying214 (by kernel_rfl) (by kernel_rfl) hd2
 unfold Lib.TabIs
 rw[hv2]
 exact congrArg some (Array.ext' (by rw[e]))
theorem max_shaped {W:World} (hs:W.ShapedOpen Tryz.prog):∃m,W.cell? ⟨2,0,none⟩=some (.int .i64 m) :=
 cell_of_shapedOpen_int (P:=Tryz.prog) (zero:=#[.int .i64 0]) (t:=3) hs (by decide +kernel) (by kernel_rfl) rfl (by kernel_rfl) (by kernel_rfl) Tryz.underlying3
theorem Tryz.cOper:Tryz.prog.cellsOf 91=2:=by kernel_rfl
theorem Tryz.cIntT:Tryz.prog.cellsOf 3=1:=by kernel_rfl
theorem Tryz.cStrT:Tryz.prog.cellsOf 9=1:=by kernel_rfl
theorem oper_of_trod {H:Type} {enc:TypeId × Value→H} {W:World} {base:Nat} {spare:Nat→Bool} {held:Bool} {fuel:Nat} {cs:List Value} {ps:List MemPlace} {s:List UInt8} {n:Int} (h:DataW.trod enc Tryz.prog W base spare held fuel 91 cs=some (.agg [.lit (.string s),.lit (.int .i64 n)],ps)) :
  cs=[.string (str8 s),.int .i64 n]:=by
 obtain⟨ys,m,_,hx,hl,hlen,hf⟩:=DataW.trod_struct Tryz.underlying91 h
 rw[Tryz.cOper] at hl
 match cs,hl with
 |
  [c0,c1],_ =>
  match ys,hlen with
  |
   [y0,y1],_ =>
   have f0:DataW.trod enc Tryz.prog W base spare held m 9 [c0]=some y0:=by
    have g:=hf 0 _ rfl
    change DataW.trod enc Tryz.prog W base spare held m 9 (([c0,c1].drop 0).take (Tryz.prog.cellsOf 9))=some y0 at g
    rw[Tryz.cStrT] at g
    exact g
   have f1:DataW.trod enc Tryz.prog W base spare held m 3 [c1]=some y1:=by
    have g:=hf 1 _ rfl
    change DataW.trod enc Tryz.prog W base spare held m 3 (([c0,c1].drop 1).take (Tryz.prog.cellsOf 3))=some y1 at g
    rw[Tryz.cIntT] at g
    exact g
   obtain⟨s0,e0,d0,_⟩:=DataW.trod_string Tryz.underlying9 f0
   obtain⟨n0,e1,d1,_⟩:=DataW.trod_int Tryz.underlying3 f1
   subst d0 d1
   simp only[List.map_cons,List.map_nil,Prod.mk.injEq,DataW.agg.injEq,List.cons.injEq,DataW.lit.injEq,Lit.string.injEq,Lit.int.injEq,and_true,true_and] at hx
   obtain⟨⟨rfl,rfl⟩,_⟩:=hx
   simp only[List.cons.injEq,and_true] at e0 e1
   rw[e0,e1,str8_of]
def opD (t:List UInt8 × Nat):DataW Unit:=.agg [.lit (.string t.1),.lit (.int .i64 t.2)]
theorem drop_two {cs:List Value} {k:Nat} {a b:Value} (h:(cs.drop k).take 2=[a,b]):cs[k]?=some a∧cs[k+1]?=some b:=by
 have h0:((cs.drop k).take 2)[0]?=some a:=by rw[h];rfl
 have h1:((cs.drop k).take 2)[1]?=some b:=by rw[h];rfl
 rw[List.getElem?_take,if_pos (by decide),List.getElem?_drop] at h0 h1
 exact⟨by simpa using h0,h1⟩
theorem ops_head {W:World} {r:List (String × DataW Unit)} (h:laidMet Tryz.prog (("vestry/printer.operators", Rows.laid_vestry_printer_operators)::r) W):OpsAt W:=by
 obtain⟨ps,⟨g2,t2,cs2,f2,p2,q2,hg2,ht2,hv2,hd2,_⟩,_⟩:=h
 have hg:Tryz.prog.globalNamed "vestry/printer.operators" = some 0:=by kernel_rfl
 obtain rfl:=Option.some.inj (hg.symm.trans hg2)
 obtain rfl:=Option.some.inj ((show (Tryz.prog.globals[0]?).map (·.type)=some 92 by kernel_rfl).symm.trans ht2)
 obtain⟨xs,m,_,hx,hl,hlen,hf⟩:=DataW.trod_array Tryz.underlying92 hd2
 have hdd:(Rows.laid_vestry_printer_operators:DataW Unit) = .agg (opTab.map opD):=by kernel_rfl
 rw[hdd] at hx
 simp only[Prod.mk.injEq,DataW.agg.injEq] at hx
 intro o ho
 have hf':=hf o (by omega)
 rw[Tryz.cOper] at hf'
 have hxo:(xs.map (·.1))[o]?=(opTab.map opD)[o]?:=by rw[← hx.1]
 obtain⟨x,hxe⟩:∃x,xs[o]?=some x:=⟨_,List.getElem?_eq_getElem (by omega)⟩
 rw[hxe] at hf'
 rw[List.getElem?_map,hxe,List.getElem?_map] at hxo
 have hto:opTab[o]?=some (opTx (o:Int),opLv (o:Int)):=by
  have : ∀o:Fin 14,opTab[o.1]?=some (opTx (o.1:Int),opLv (o.1:Int)):=by decide
  exact this ⟨o,by omega⟩
 rw[hto] at hxo
 simp only[Option.map_some,Option.some.injEq] at hxo
 obtain⟨d,pl⟩:=x
 dsimp only at hxo
 subst hxo
 obtain⟨k0,k1⟩:=drop_two (oper_of_trod hf')
 have c0:=World.var?_cell hg hv2 (o*2)
 have c1:=World.var?_cell hg hv2 (o*2+1)
 rw[Array.getElem?_toList] at k0 k1
 exact⟨c0.trans k0,c1.trans k1⟩
theorem tabW6 {W:World} (h:laidMetH Tryz.prog laid6 W) (hs:W.ShapedOpen Tryz.prog):TabW W:=by
 have h':=laid6_plain h
 have hlt:10<W.heap.size:=head_lt (g:=10) h'.tail (by kernel_rfl)
 exact⟨⟨by omega,max_shaped hs,pow_head h'.tail.tail⟩,ops_head h'.tail.tail.tail.tail,hlt⟩
end Go.Proofs.YtnidnipiihhnaaaGreatDoor
