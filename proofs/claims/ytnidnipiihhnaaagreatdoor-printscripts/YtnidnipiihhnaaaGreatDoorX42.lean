/- Packed for the hand-in: RefJQ RefJR -/
import Derived.Test.YtnidnipiihhnaaaGreatDoorX39
import Derived.Test.YtnidnipiihhnaaaGreatDoorX41
import Derived.Test.YtnidnipiihhnaaaGreatDoorX31
namespace Go.Proofs.YtnidnipiihhnaaaGreatDoor
open Go.RowKit Go.Shelf
set_option linter.unusedSimpArgs false
set_option linter.unusedVariables false
set_option maxRecDepth 20000
set_option maxHeartbeats 8000000
theorem jstate_1 (cols:List Co) (tn prim jn:List UInt8) (desc:Bool) (lim:Int) (a1 a2 a3 a4 a5 a6 a7 a8:Option Addr) (n1 n2 n3 n4 n5 n6 n7 n8 c1 c2 c3 c4 c5 c6 c7 c8:Nat) (g:Nat) (tb:Option Nat) (L:List Tk) (m:Int) (w:World) (h:JwAt w g tb L m) (x1:SlAt 4 ColE (fun b=>b<g) w cols (.slice a1 n1 c1)) (hL:L.length+(cols.flatMap colJ).length+20≤10000000) :
  Calls Tryz.prog 34 #[.pointer (some ⟨g,0,none⟩),.agg #[.int .i64 1,.string (str8 tn),.slice a1 n1 c1,.string (str8 prim),.slice a2 n2 c2,.slice a3 n3 c3,.slice a4 n4 c4,.string (str8 jn),.slice a5 n5 c5,.slice a6 n6 c6,.slice a7 n7 c7,.slice a8 n8 c8,.bool desc,.int .i64 lim]] w fun e w'=>e = .returned (.tuple #[])∧JWrote g tb w w' (L++(wordsK [[67,82,69,65,84,69],[84,65,66,76,69]]++nmT tn::(fxT [40]::(cols.flatMap colJ++(wordsK [[80,82,73,77,65,82,89],[75,69,89],[40]]++nmT prim::wordsK [[41],[41]]))))) (m):=by
 obtain⟨W,hW,hbW,hzW,hcW⟩:=box8 w (.cells #[.int .i64 1,.string (str8 tn),.slice a1 n1 c1,.string (str8 prim),.slice a2 n2 c2,.slice a3 n3 c3,.slice a4 n4 c4,.string (str8 jn),.slice a5 n5 c5,.slice a6 n6 c6,.slice a7 n7 c7,.slice a8 n8 c8,.bool desc,.int .i64 lim] 42)
 have kk:=cells14 hcW
 have HC0:=hid hcW
 have HBW:=hid hbW
 have HJ:=hid h
 have HJW:=hid (h.below hbW)
 have HS0:=hid ((h.below hbW).here)
 have HSL:=hid (x1.to (by decide) (R:=fun _=>False) (T:=fun b=>b<g) (Spares.of_new hbW) (fun b hb _=>⟨id,hb⟩) (fun _ _ e=>e))
 obtain⟨T,hT⟩:∃T,L++(wordsK [[67,82,69,65,84,69],[84,65,66,76,69]]++nmT tn::(fxT [40]::(cols.flatMap colJ++(wordsK [[80,82,73,77,65,82,89],[75,69,89],[40]]++nmT prim::wordsK [[41],[41]]))))=T:=⟨_,rfl⟩
 obtain⟨M,hM⟩:∃M,(m)=M:=⟨_,rfl⟩
 rw[hT,hM]
 have HT:=hid hT
 have HM:=hid hM
 clear hT hM h hbW hcW x1
 go_enter Tryz.func34,Tryz.ntmps34
 have HX0:=hid (HS0.out.next (fun tb' h'=>jwords_new g tb' _ _ [[67,82,69,65,84,69],[84,65,66,76,69]] W h' (by simp) (by decide) (by simp[wordsK];omega)))
 go_wp2_with fail
 try rw[hW]
 refine HX0.out.mono ?_
 rintro e w1 ⟨rfl,hs1⟩
 have HS1:=hid hs1
 have kk:=cells14 ((HS1.out.box HJ.out (Nat.le_refl _) hzW).trans HC0.out)
 clear hs1 HX0
 have HX1:=hid (HS1.out.next (fun tb' h'=>jwname_any g tb' _ _ tn w1 h' (by simp[wordsK];omega)))
 go_wp2_with fail
 refine HX1.out.mono ?_
 rintro e w2 ⟨rfl,hs2⟩
 have HS2:=hid hs2
 have kk:=cells14 ((HS2.out.box HJ.out (Nat.le_refl _) hzW).trans HC0.out)
 clear hs2 HX1
 have HX2:=hid (HS2.out.next (fun tb' h'=>jcreate_any cols tn prim jn desc lim a1 a2 a3 a4 a5 a6 a7 a8 n1 n2 n3 n4 n5 n6 n7 n8 c1 c2 c3 c4 c5 c6 c7 c8 g tb' _ _ w2 h' (HSL.out.to (by decide) HS2.out.fr (fun b hb _=>⟨HJW.out.keeps b hb,hb⟩) (fun _ _ e=>e)) (by simp[wordsK,-List.length_flatMap];omega)))
 go_wp2_with fail
 refine HX2.out.mono ?_
 rintro e w3 ⟨rfl,hs3⟩
 have HS3:=hid hs3
 have kk:=cells14 ((HS3.out.box HJ.out (Nat.le_refl _) hzW).trans HC0.out)
 clear hs3 HX2
 have HQ:Hid (JWrote g tb w w3 T M):=hid (by
  have h9:=JWrote.new HBW.out HS3.out
  rw[← HT.out,← HM.out]
  simpa [wordsK] using h9)
 clear HS3
 go_wp2
 exact bodyPost_end (v:=.tuple #[]) (by simp[results,Tryz.results34,go_sem]) rfl ⟨rfl,HQ.out⟩
theorem jstate_2  (tn prim jn:List UInt8) (desc:Bool) (lim:Int) (a1 a2 a3 a4 a5 a6 a7 a8:Option Addr) (n1 n2 n3 n4 n5 n6 n7 n8 c1 c2 c3 c4 c5 c6 c7 c8:Nat) (g:Nat) (tb:Option Nat) (L:List Tk) (m:Int) (w:World) (h:JwAt w g tb L m) (hL:L.length+10≤10000000) :
  Calls Tryz.prog 34 #[.pointer (some ⟨g,0,none⟩),.agg #[.int .i64 2,.string (str8 tn),.slice a1 n1 c1,.string (str8 prim),.slice a2 n2 c2,.slice a3 n3 c3,.slice a4 n4 c4,.string (str8 jn),.slice a5 n5 c5,.slice a6 n6 c6,.slice a7 n7 c7,.slice a8 n8 c8,.bool desc,.int .i64 lim]] w fun e w'=>e = .returned (.tuple #[])∧JWrote g tb w w' (L++(wordsK [[68,82,79,80],[84,65,66,76,69]]++[nmT tn])) (m):=by
 obtain⟨W,hW,hbW,hzW,hcW⟩:=box8 w (.cells #[.int .i64 2,.string (str8 tn),.slice a1 n1 c1,.string (str8 prim),.slice a2 n2 c2,.slice a3 n3 c3,.slice a4 n4 c4,.string (str8 jn),.slice a5 n5 c5,.slice a6 n6 c6,.slice a7 n7 c7,.slice a8 n8 c8,.bool desc,.int .i64 lim] 42)
 have kk:=cells14 hcW
 have HC0:=hid hcW
 have HBW:=hid hbW
 have HJ:=hid h
 have HJW:=hid (h.below hbW)
 have HS0:=hid ((h.below hbW).here)
 obtain⟨T,hT⟩:∃T,L++(wordsK [[68,82,79,80],[84,65,66,76,69]]++[nmT tn])=T:=⟨_,rfl⟩
 obtain⟨M,hM⟩:∃M,(m)=M:=⟨_,rfl⟩
 rw[hT,hM]
 have HT:=hid hT
 have HM:=hid hM
 clear hT hM h hbW hcW
 go_enter Tryz.func34,Tryz.ntmps34
 have HX0:=hid (HS0.out.next (fun tb' h'=>jwords_new g tb' _ _ [[68,82,79,80],[84,65,66,76,69]] W h' (by simp) (by decide) (by simp[wordsK];omega)))
 go_wp2_with fail
 try rw[hW]
 refine HX0.out.mono ?_
 rintro e w1 ⟨rfl,hs1⟩
 have HS1:=hid hs1
 have kk:=cells14 ((HS1.out.box HJ.out (Nat.le_refl _) hzW).trans HC0.out)
 clear hs1 HX0
 have HX1:=hid (HS1.out.next (fun tb' h'=>jwname_any g tb' _ _ tn w1 h' (by simp[wordsK];omega)))
 go_wp2_with fail
 refine HX1.out.mono ?_
 rintro e w2 ⟨rfl,hs2⟩
 have HS2:=hid hs2
 have kk:=cells14 ((HS2.out.box HJ.out (Nat.le_refl _) hzW).trans HC0.out)
 clear hs2 HX1
 have HQ:Hid (JWrote g tb w w2 T M):=hid (by
  have h9:=JWrote.new HBW.out HS2.out
  rw[← HT.out,← HM.out]
  simpa [wordsK] using h9)
 clear HS2
 go_wp2
 exact bodyPost_end (v:=.tuple #[]) (by simp[results,Tryz.results34,go_sem]) rfl ⟨rfl,HQ.out⟩
theorem jstate_5 (wh:List Ex) (tn prim jn:List UInt8) (desc:Bool) (lim:Int) (a1 a2 a3 a4 a5 a6 a7 a8:Option Addr) (n1 n2 n3 n4 n5 n6 n7 n8 c1 c2 c3 c4 c5 c6 c7 c8:Nat) (g:Nat) (tb:Option Nat) (L:List Tk) (m:Int) (w:World) (h:JwAt w g tb L m) (x6:ArgsAt (fun b=>b<g) w wh (.slice a6 n6 c6)) (h1wh:wh.length≤1∧∀x∈wh,rightE x=true) (hL:L.length+(partK wh [[87,72,69,82,69]]).length+20≤10000000) (hdw:exDs wh≤100000) (hm0:0≤m) (hm:m≤1000000) :
  Calls Tryz.prog 34 #[.pointer (some ⟨g,0,none⟩),.agg #[.int .i64 5,.string (str8 tn),.slice a1 n1 c1,.string (str8 prim),.slice a2 n2 c2,.slice a3 n3 c3,.slice a4 n4 c4,.string (str8 jn),.slice a5 n5 c5,.slice a6 n6 c6,.slice a7 n7 c7,.slice a8 n8 c8,.bool desc,.int .i64 lim]] w fun e w'=>e = .returned (.tuple #[])∧JWrote g tb w w' (L++(wordsK [[68,69,76,69,84,69],[70,82,79,77]]++nmT tn::partK wh [[87,72,69,82,69]])) (max m ((exDs wh:Nat):Int)):=by
 obtain⟨W,hW,hbW,hzW,hcW⟩:=box8 w (.cells #[.int .i64 5,.string (str8 tn),.slice a1 n1 c1,.string (str8 prim),.slice a2 n2 c2,.slice a3 n3 c3,.slice a4 n4 c4,.string (str8 jn),.slice a5 n5 c5,.slice a6 n6 c6,.slice a7 n7 c7,.slice a8 n8 c8,.bool desc,.int .i64 lim] 42)
 have kk:=cells14 hcW
 have HC0:=hid hcW
 have HBW:=hid hbW
 have HJ:=hid h
 have HJW:=hid (h.below hbW)
 have HS0:=hid ((h.below hbW).here)
 have HA6:=hid (x6.new hbW)
 obtain⟨T,hT⟩:∃T,L++(wordsK [[68,69,76,69,84,69],[70,82,79,77]]++nmT tn::partK wh [[87,72,69,82,69]])=T:=⟨_,rfl⟩
 obtain⟨M,hM⟩:∃M,(max m ((exDs wh:Nat):Int))=M:=⟨_,rfl⟩
 rw[hT,hM]
 have HT:=hid hT
 have HM:=hid hM
 clear hT hM h hbW hcW x6
 go_enter Tryz.func34,Tryz.ntmps34
 have HX0:=hid (HS0.out.next (fun tb' h'=>jwords_new g tb' _ _ [[68,69,76,69,84,69],[70,82,79,77]] W h' (by simp) (by decide) (by simp[wordsK];omega)))
 go_wp2_with fail
 try rw[hW]
 refine HX0.out.mono ?_
 rintro e w1 ⟨rfl,hs1⟩
 have HS1:=hid hs1
 have kk:=cells14 ((HS1.out.box HJ.out (Nat.le_refl _) hzW).trans HC0.out)
 clear hs1 HX0
 have HX1:=hid (HS1.out.next (fun tb' h'=>jwname_any g tb' _ _ tn w1 h' (by simp[wordsK];omega)))
 go_wp2_with fail
 refine HX1.out.mono ?_
 rintro e w2 ⟨rfl,hs2⟩
 have HS2:=hid hs2
 have kk:=cells14 ((HS2.out.box HJ.out (Nat.le_refl _) hzW).trans HC0.out)
 clear hs2 HX1
 have ka:=fun o=>cells14 ((((Below.refl _ w2).alloc (Nat.le_refl _) o).block w.heap.size (Nat.lt_of_lt_of_le hzW HS2.out.size)).trans ((HS2.out.box HJ.out (Nat.le_refl _) hzW).trans HC0.out))
 have HX2:=hid (HS2.out.next (fun tb' h'=>jexprs_new wh h1wh.1 h1wh.2 [[87,72,69,82,69]] (by simp) (by decide) g tb' _ _ w2 (.slice a6 n6 c6) h' (HA6.out.to HS2.out.fr (fun b hb _=>⟨HJW.out.keeps b hb,hb⟩)) (by simp[wordsK];omega) (by omega) (by omega) (by omega)))
 go_wp2_with fail
 refine HX2.out.mono ?_
 rintro e w3 ⟨rfl,hs3⟩
 have HS3:=hid hs3
 have kk:=cells14 ((HS3.out.box HJ.out (Nat.le_refl _) hzW).trans HC0.out)
 clear hs3 HX2 ka
 have HQ:Hid (JWrote g tb w w3 T M):=hid (by
  have h9:=JWrote.new HBW.out HS3.out
  rw[← HT.out,← HM.out]
  simpa [wordsK] using h9)
 clear HS3
 go_wp2
 exact bodyPost_end (v:=.tuple #[]) (by simp[results,Tryz.results34,go_sem]) rfl ⟨rfl,HQ.out⟩
theorem jstate_6 (cols:List Co) (rows:List (List Vl)) (sets:List Se) (items:List It) (on wh gr od:List Ex) (tn prim jn:List UInt8) (desc:Bool) (lim:Int) (a1 a2 a3 a4 a5 a6 a7 a8:Option Addr) (n1 n2 n3 n4 n5 n6 n7 n8 c1 c2 c3 c4 c5 c6 c7 c8:Nat) (g:Nat) (tb:Option Nat) (L:List Tk) (m:Int) (w:World) (h:JwAt w g tb L m) (x4:SlAt 2 ItE (fun b=>b<g) w items (.slice a4 n4 c4)) (x5:ArgsAt (fun b=>b<g) w on (.slice a5 n5 c5)) (x6:ArgsAt (fun b=>b<g) w wh (.slice a6 n6 c6)) (x7:ArgsAt (fun b=>b<g) w gr (.slice a7 n7 c7)) (x8:ArgsAt (fun b=>b<g) w od (.slice a8 n8 c8)) (hb : ∀i∈items,itB i=true) (hon:on.length=joinN jn) (h1on:on.length≤1∧∀x∈on,rightE x=true) (h1wh:wh.length≤1∧∀x∈wh,rightE x=true) (h1gr:gr.length≤1∧∀x∈gr,rightE x=true) (h1od:od.length≤1∧∀x∈od,rightE x=true) (hlim : -1≤lim) (hL:L.length+(sepK (fxT [44]) (items.map itK)).length+(partK on [[79,78]]).length+(partK wh [[87,72,69,82,69]]).length+(partK gr [[71,82,79,85,80],[66,89]]).length+(partK od [[79,82,68,69,82],[66,89]]).length+20≤10000000) (hdI : ∀i∈items,itD i≤100000) (hdo:exDs on≤100000) (hdw:exDs wh≤100000) (hdg:exDs gr≤100000) (hdd:exDs od≤100000) (hm0:0≤m) (hm:m≤1000000) :
  Calls Tryz.prog 34 #[.pointer (some ⟨g,0,none⟩),.agg #[.int .i64 6,.string (str8 tn),.slice a1 n1 c1,.string (str8 prim),.slice a2 n2 c2,.slice a3 n3 c3,.slice a4 n4 c4,.string (str8 jn),.slice a5 n5 c5,.slice a6 n6 c6,.slice a7 n7 c7,.slice a8 n8 c8,.bool desc,.int .i64 lim]] w fun e w'=>e = .returned (.tuple #[])∧JWrote g tb w w' (L++(selK ⟨6,tn,cols,prim,rows,sets,items,jn,on,wh,gr,od,desc,lim⟩)) (max m ((max (maxL (items.map itD)) (max (exDs on) (max (exDs wh) (max (exDs gr) (exDs od)))):Nat):Int)):=by
 obtain⟨W,hW,hbW,hzW,hcW⟩:=box8 w (.cells #[.int .i64 6,.string (str8 tn),.slice a1 n1 c1,.string (str8 prim),.slice a2 n2 c2,.slice a3 n3 c3,.slice a4 n4 c4,.string (str8 jn),.slice a5 n5 c5,.slice a6 n6 c6,.slice a7 n7 c7,.slice a8 n8 c8,.bool desc,.int .i64 lim] 42)
 have kk:=cells14 hcW
 have HC0:=hid hcW
 have HBW:=hid hbW
 have HJ:=hid h
 have HJW:=hid (h.below hbW)
 have HS0:=hid ((h.below hbW).here)
 have HSL:=hid (x4.to (by decide) (R:=fun _=>False) (T:=fun b=>b<g) (Spares.of_new hbW) (fun b hb _=>⟨id,hb⟩) (fun _ _ e=>e.to (R:=fun _=>False) (Spares.of_new hbW) (fun b hb _=>⟨id,hb⟩)))
 have HA5:=hid (x5.new hbW)
 have HA6:=hid (x6.new hbW)
 have HA7:=hid (x7.new hbW)
 have HA8:=hid (x8.new hbW)
 obtain⟨T,hT⟩:∃T,L++(selK ⟨6,tn,cols,prim,rows,sets,items,jn,on,wh,gr,od,desc,lim⟩)=T:=⟨_,rfl⟩
 obtain⟨M,hM⟩:∃M,(max m ((max (maxL (items.map itD)) (max (exDs on) (max (exDs wh) (max (exDs gr) (exDs od)))):Nat):Int))=M:=⟨_,rfl⟩
 rw[hT,hM]
 have HT:=hid hT
 have HM:=hid hM
 clear hT hM h hbW hcW x4 x5 x6 x7 x8
 go_enter Tryz.func34,Tryz.ntmps34
 have HX0:=hid (HS0.out.next (fun tb' h'=>jchoose_any cols rows sets items on wh gr od tn prim jn desc lim a1 a2 a3 a4 a5 a6 a7 a8 n1 n2 n3 n4 n5 n6 n7 n8 c1 c2 c3 c4 c5 c6 c7 c8 g tb' _ _ W h' HSL.out HA5.out HA6.out HA7.out HA8.out hb hon h1on h1wh h1gr h1od hlim hL hdI hdo hdw hdg hdd hm0 hm))
 generalize selK ⟨6,tn,cols,prim,rows,sets,items,jn,on,wh,gr,od,desc,lim⟩=TS at *
 clear hL
 go_wp2_with fail
 try rw[hW]
 refine HX0.out.mono ?_
 rintro e w1 ⟨rfl,hs1⟩
 have HS1:=hid hs1
 clear hs1 HX0 HS0
 have HQ:Hid (JWrote g tb w w1 T M):=hid (by
  have h9:=JWrote.new HBW.out HS1.out
  rw[← HT.out,← HM.out]
  simpa [wordsK] using h9)
 clear HS1
 go_wp2
 exact bodyPost_end (v:=.tuple #[]) (by simp[results,Tryz.results34,go_sem]) rfl ⟨rfl,HQ.out⟩
def setD (s:Se):Nat:=exD s.e
theorem jstate_4 (sets:List Se) (wh:List Ex) (tn prim jn:List UInt8) (desc:Bool) (lim:Int) (a1 a2 a3 a4 a5 a6 a7 a8:Option Addr) (n1 n2 n3 n4 n5 n6 n7 n8 c1 c2 c3 c4 c5 c6 c7 c8:Nat) (g:Nat) (tb:Option Nat) (L:List Tk) (m:Int) (w:World) (h:JwAt w g tb L m) (x3:SlAt 9 SeE (fun b=>b<g) w sets (.slice a3 n3 c3)) (x6:ArgsAt (fun b=>b<g) w wh (.slice a6 n6 c6)) (hb : ∀s∈sets,setB s=true) (h1wh:wh.length≤1∧∀x∈wh,rightE x=true) (hL:L.length+(sepK (fxT [44]) (sets.map setK)).length+(partK wh [[87,72,69,82,69]]).length+20≤10000000) (hdI : ∀s∈sets,setD s≤100000) (hdw:exDs wh≤100000) (hm0:0≤m) (hm:m≤1000000) :
  Calls Tryz.prog 34 #[.pointer (some ⟨g,0,none⟩),.agg #[.int .i64 4,.string (str8 tn),.slice a1 n1 c1,.string (str8 prim),.slice a2 n2 c2,.slice a3 n3 c3,.slice a4 n4 c4,.string (str8 jn),.slice a5 n5 c5,.slice a6 n6 c6,.slice a7 n7 c7,.slice a8 n8 c8,.bool desc,.int .i64 lim]] w fun e w'=>e = .returned (.tuple #[])∧JWrote g tb w w' (L++(fxT [85,80,68,65,84,69]::nmT tn::fxT [83,69,84]::(sepK (fxT [44]) (sets.map setK)++partK wh [[87,72,69,82,69]]))) (max m ((max (maxL (sets.map setD)) (exDs wh):Nat):Int)):=by
 obtain⟨W,hW,hbW,hzW,hcW⟩:=box8 w (.cells #[.int .i64 4,.string (str8 tn),.slice a1 n1 c1,.string (str8 prim),.slice a2 n2 c2,.slice a3 n3 c3,.slice a4 n4 c4,.string (str8 jn),.slice a5 n5 c5,.slice a6 n6 c6,.slice a7 n7 c7,.slice a8 n8 c8,.bool desc,.int .i64 lim] 42)
 have kk:=cells14 hcW
 have HC0:=hid hcW
 have HBW:=hid hbW
 have HJ:=hid h
 have HJW:=hid (h.below hbW)
 have HS0:=hid ((h.below hbW).here)
 have HSL:=hid (x3.to (by decide) (R:=fun _=>False) (T:=fun b=>b<g) (Spares.of_new hbW) (fun b hb _=>⟨id,hb⟩) (fun _ _ e=>e.to (R:=fun _=>False) (Spares.of_new hbW) (fun b hb _=>⟨id,hb⟩)))
 have HA6:=hid (x6.new hbW)
 have hnl:n3=sets.length∧n3≤9223372036854775807:=by
  obtain⟨_,_,_,hf,hl1,hl2,_⟩:=x3
  simp only[Value.slice.injEq] at hf
  unfold maxLen at hl2
  omega
 obtain⟨rfl,hnm⟩:=hnl
 have hdl : ∀k,maxL ((sets.take k).map setD)≤100000:=fun k=>maxL_up (fun n hn=>by
  obtain⟨i,hi,rfl⟩:=List.mem_map.1 hn
  exact hdI i (List.mem_of_mem_take hi))
 have HDL:=hid hdl
 obtain⟨T,hT⟩:∃T,L++(fxT [85,80,68,65,84,69]::nmT tn::fxT [83,69,84]::(sepK (fxT [44]) (sets.map setK)++partK wh [[87,72,69,82,69]]))=T:=⟨_,rfl⟩
 obtain⟨M,hM⟩:∃M,(max m ((max (maxL (sets.map setD)) (exDs wh):Nat):Int))=M:=⟨_,rfl⟩
 rw[hT,hM]
 have HT:=hid hT
 have HM:=hid hM
 clear hT hM h hbW hcW x3 x6 hdl
 go_enter Tryz.func34,Tryz.ntmps34
 have HX0:=hid (HS0.out.next (fun tb' h'=>jwords_new g tb' _ _ [[85,80,68,65,84,69]] W h' (by simp) (by decide) (by simp[wordsK];omega)))
 go_wp2_with fail
 try rw[hW]
 refine HX0.out.mono ?_
 rintro e w1 ⟨rfl,hs1⟩
 have HS1:=hid hs1
 have kk:=cells14 ((HS1.out.box HJ.out (Nat.le_refl _) hzW).trans HC0.out)
 clear hs1 HX0
 have HX1:=hid (HS1.out.next (fun tb' h'=>jwname_any g tb' _ _ tn w1 h' (by simp[wordsK];omega)))
 go_wp2_with fail
 refine HX1.out.mono ?_
 rintro e w2 ⟨rfl,hs2⟩
 have HS2:=hid hs2
 have kk:=cells14 ((HS2.out.box HJ.out (Nat.le_refl _) hzW).trans HC0.out)
 clear hs2 HX1
 have HX2:=hid (HS2.out.next (fun tb' h'=>jwords_new g tb' _ _ [[83,69,84]] w2 h' (by simp) (by decide) (by simp[wordsK];omega)))
 go_wp2_with fail
 refine HX2.out.mono ?_
 rintro e w3 ⟨rfl,hs3⟩
 have HS3:=hid hs3
 have kk:=cells14 ((HS3.out.box HJ.out (Nat.le_refl _) hzW).trans HC0.out)
 clear hs3 HX2
 obtain⟨LA,hLA⟩:∃LA,L++wordsK [[85,80,68,65,84,69]]++[nmT tn]++wordsK [[83,69,84]]=LA:=⟨_,rfl⟩
 rw[hLA] at HS3
 have hLAl:LA.length≤L.length+10:=by rw[← hLA];simp[wordsK]
 have HLA:=hid hLA
 clear hLA
 go_wp2_with fail
 go_loopw [6] (fun i wr=>∃(k:Nat),k≤sets.length∧i = .int .i64 k∧JWrote g tb W wr (LA++sepK (fxT [44]) ((sets.take k).map setK)) (max m ((maxL ((sets.take k).map setD):Nat):Int))) (fun i _=>sets.length-(intOf i).toNat)
 case atStart =>
  refine ⟨0,Nat.zero_le _,rfl,?_⟩
  have e:max m ((maxL ((sets.take 0).map setD):Nat):Int)=m:=by show max m ((0:Nat):Int)=m;omega
  rw[e]
  simpa [sepK] using HS3.out
 case round =>
  clear HS3 kk
  obtain⟨k,hk,rfl,hq⟩:=hrel
  have kW:=cells14 ((hq.box HJ.out (Nat.le_refl _) hzW).trans HC0.out)
  by_cases hlt:k<sets.length
  ·obtain⟨x,hx⟩:∃x,sets[k]?=some x:=⟨_,List.getElem?_eq_getElem hlt⟩
   have hlt':((k:Int)<(sets.length:Int)):=by omega
   have hxm:=List.mem_of_getElem? hx
   have hst:=sepK_take setK sets k x hx
   have hsm:=sepK_mono setK sets (k+1)
   have hmt:=maxL_take setD sets k x hx
   have hdk:=HDL.out k
   have hdx:=hdI x hxm
   have HMT:Hid (max m ((maxL ((sets.take (k+1)).map setD):Nat):Int)=max (max m ((maxL ((sets.take k).map setD):Nat):Int)) ((setD x:Nat):Int)):=hid (by rw[hmt];omega)
   have hMMb:max m ((maxL ((sets.take k).map setD):Nat):Int)≤1000000∧0≤max m ((maxL ((sets.take k).map setD):Nat):Int):=by omega
   generalize max m ((maxL ((sets.take k).map setD):Nat):Int)=MM at hq HMT hMMb
   clear hmt hdk
   have hre:rightE x.e=true:=by have:=hb x hxm;unfold setB at this;simp only[Bool.and_eq_true] at this;exact this.2
   have hed:exDs [x.e]=setD x:=by show max (exD x.e) 0=exD x.e;omega
   have hek:partK [x.e] [[61]]=fxT [61]::exK x.e:=by simp[partK,wordsK]
   have hkl:(setK x).length=(exK x.e).length+2:=by simp[setK]
   have hk8:k≤100000000:=by have:=sepK_ge setK sets;omega
   rw[hst,List.length_append,List.length_append] at hsm
   have HST:Hid (LA++sepK (fxT [44]) ((sets.take (k+1)).map setK)=LA++sepK (fxT [44]) ((sets.take k).map setK)++(if k=0 then [] else [fxT [44]])++setK x):=hid (by rw[hst];simp)
   have hLL:(LA++sepK (fxT [44]) ((sets.take k).map setK)).length+(if k=0 then ([]:List Tk) else [fxT [44]]).length+(setK x).length≤20000000:=by rw[List.length_append];omega
   have hif:(if k=0 then ([]:List Tk) else [fxT [44]]).length≤1:=by split<;>simp
   generalize LA++sepK (fxT [44]) ((sets.take k).map setK)=LL at hq hLL HST
   have hLL1:LL.length+1≤1000000000:=by omega
   have HXK:=hid hx
   have HS0:=hid hq
   have HX0:=hid (HS0.out.next (fun tb' h'=>jcomma_any g tb' _ _ k hk8 wr h' hLL1))
   clear hq hx hst hsm
   go_wp2_with fail
   refine HX0.out.mono ?_
   rintro e w1 ⟨rfl,hs1⟩
   have HS1:=hid hs1
   have kk:=cells14 ((hs1.box HJ.out (Nat.le_refl _) hzW).trans HC0.out)
   generalize (if k=0 then ([]:List Tk) else [fxT [44]])=CC at HS1 hs1 hLL hif HST
   clear HX0 HS0 kW
   have HST2:Hid (LA++sepK (fxT [44]) ((sets.take (k+1)).map setK)=LL++CC++[nmT x.nm]++(fxT [61]::exK x.e)):=hid (by rw[HST.out];simp[setK])
   obtain⟨_,_,_,b,off,cs,rfl,_,hel,hcell⟩:=sl_get (HSL.out.to (T:=fun b=>b<g) (by decide) hs1.fr (fun b hb _=>⟨HJW.out.keeps b hb,hb⟩) (fun _ _ e=>e.to hs1.fr (fun b hb _=>⟨HJW.out.keeps b hb,hb⟩))) (show sets[k]?=some x from HXK.out)
   obtain⟨k1,op1,tb1,nm1,vk1,vn1,vs1,ys1,aa1,nn1,cc1,hxe,rfl,hay⟩:=hel
   have q0:=hcell 0 _ rfl
   simp only[Nat.add_zero] at q0
   have HX1:=hid (HS1.out.next (fun tb' h'=>jwname_any g tb' _ _ x.nm w1 h' (by rw[List.length_append];omega)))
   clear hcell hxe hay
   go_wp2_with fail
   refine HX1.out.mono ?_
   rintro e w2 ⟨rfl,hs2⟩
   have HS2:=hid hs2
   obtain⟨_,_,_,b',off',cs',hbe,_,hel,hcell⟩:=sl_get (HSL.out.to (T:=fun b=>b<g) (by decide) hs2.fr (fun b hb _=>⟨HJW.out.keeps b hb,hb⟩) (fun _ _ e=>e.to hs2.fr (fun b hb _=>⟨HJW.out.keeps b hb,hb⟩))) (show sets[k]?=some x from HXK.out)
   simp only[Option.some.injEq,Addr.mk.injEq,and_true] at hbe
   obtain⟨rfl,rfl⟩:=hbe
   obtain⟨k2,op2,tb2,nm2,vk2,vn2,vs2,ys2,aa2,nn2,cc2,hxe,rfl,hay⟩:=hel
   have hbl:b<w2.heap.size:=World.block_lt_of_cell? w2 _ (hcell 0 _ rfl)
   have hkw:w.heap.size<w2.heap.size:=Nat.lt_of_lt_of_le hzW hs2.size
   obtain⟨V,hV,hbV,hzV,hcV⟩:=box8 w2 (.cells #[.string ⟨#[61]⟩] 9)
   obtain⟨U,hU,hbU,hzU,hcU⟩:=box8 V (.cells #[.int .i64 k2,.int .i64 op2,.string (str8 tb2),.string (str8 nm2),.int .i64 vk2,.int .i64 vn2,.string (str8 vs2),.slice aa2 nn2 cc2] 26)
   have ka:=cells14 ((hbV.block w.heap.size hkw).trans ((hs2.box HJ.out (Nat.le_refl _) hzW).trans HC0.out))
   have r1:=(hbV.cell (p:=⟨b,off+k*9+1,none⟩) hbl).trans (hcell 1 _ rfl)
   have r2:=(hbV.cell (p:=⟨b,off+k*9+2,none⟩) hbl).trans (hcell 2 _ rfl)
   have r3:=(hbV.cell (p:=⟨b,off+k*9+3,none⟩) hbl).trans (hcell 3 _ rfl)
   have r4:=(hbV.cell (p:=⟨b,off+k*9+4,none⟩) hbl).trans (hcell 4 _ rfl)
   have r5:=(hbV.cell (p:=⟨b,off+k*9+5,none⟩) hbl).trans (hcell 5 _ rfl)
   have r6:=(hbV.cell (p:=⟨b,off+k*9+6,none⟩) hbl).trans (hcell 6 _ rfl)
   have r7:=(hbV.cell (p:=⟨b,off+k*9+7,none⟩) hbl).trans (hcell 7 _ rfl)
   have r8:=(hbV.cell (p:=⟨b,off+k*9+8,none⟩) hbl).trans (hcell 8 _ rfl)
   have hbVU:Below w2.heap.size w2 U:=hbV.trans (hbU.mono hbV.size)
   have HX2:=hid (hs2.next (V':=U) (f:=24) (args:=#[.pointer (some ⟨g,0,none⟩),.slice (some ⟨w2.heap.size,0,none⟩) 1 1,.slice (some ⟨V.heap.size,0,none⟩) 1 1]) (L2:=LL++CC++[nmT x.nm]++partK [x.e] [[61]]) (m2:=max MM ((exDs [x.e]:Nat):Int)) (fun tb' h'=>by
    have hx1:ArgsAt (fun b=>b<g∨b=V.heap.size) U [x.e] (.slice (some ⟨V.heap.size,0,none⟩) 1 1):=by
     rw[hxe]
     exact args_one (S:=fun b=>b<g∨b=V.heap.size) (.inr rfl) hcU (hay.to (R:=fun _=>False) (Spares.of_new hbVU) (fun b hb _=>⟨id,.inl hb⟩))
    have hst:StrsW g tb' U (.slice (some ⟨w2.heap.size,0,none⟩) 1 1) [[61]]:=StrsW.newJ h' [[61]] (by simp) (by
     have e1:V.heap.size=w2.heap.size+1:=by rw[← hV];simp
     have h3:=hbU
     rw[e1] at h3
     rw[← hV] at h3
     exact h3)
    exact (jexprs_any (fun b=>b<g∨b=V.heap.size) [x.e] (by simp) (fun y hy=>by rw[List.mem_singleton.1 hy];exact hre) _ [[61]] g tb' _ MM U _ (h'.below hbVU) (fun b hb e=>by
     rcases hb with hb | hb
     ·exact h'.keeps b hb e
     ·rcases e with e | e
      ·have:=h'.lt;omega
      ·have:=(h'.tbs b e).2;omega) hx1 hst (by decide) (by simp[partK,wordsK];omega) (by simp) (by rw[hed];omega) hMMb.2 (by omega)).mono fun e w' ⟨h1,h2⟩=>⟨h1,h2.new hbVU⟩))
   have HUE:Hid ((w2.alloc (.cells #[.string ⟨#[61]⟩] 9)).alloc (.cells #[.int .i64 k2,.int .i64 op2,.string (str8 tb2),.string (str8 nm2),.int .i64 vk2,.int .i64 vn2,.string (str8 vs2),.slice aa2 nn2 cc2] 26)=U):=hid (by rw[hV,hU])
   have kk:=cells14 ((hs2.box HJ.out (Nat.le_refl _) hzW).trans HC0.out)
   have hVs:V.heap.size=w2.heap.size+1:=by rw[← hV];simp
   rw[← hV] at ka r1 r2 r3 r4 r5 r6 r7 r8
   rw[hVs] at HX2
   clear hs1 hs2 HX1 HS1 HS2 hcell hay hxe hV hU hbV hbU hcV hcU hbVU hzV hzU hVs q0
   go_wp2_with fail
   try rw[HUE.out]
   refine HX2.out.mono ?_
   rintro e w3 ⟨rfl,hs3⟩
   have HQ:=hid hs3
   rw[hed,hek] at HQ
   rw[← HMT.out,← HST2.out] at HQ
   clear hs3 HX2
   go_wp2
   go_roundw
   case rel=>exact⟨k+1,by omega,by go_num,HQ.out⟩
   case measure=>simp[intOf];omega
  ·have hlt' : ¬((k:Int)<(sets.length:Int)):=by omega
   have HS1:Hid (JWrote g tb W wr (LA++sepK (fxT [44]) (sets.map setK)) (max m ((maxL (sets.map setD):Nat):Int))):=hid (by rw[List.take_of_length_le (by omega)] at hq;exact hq)
   have kk:=kW
   have hDIl:maxL (sets.map setD)≤100000:=by have:=HDL.out sets.length;rwa [List.take_of_length_le (Nat.le_refl _)] at this
   obtain⟨SI,hSI⟩:∃SI,sepK (fxT [44]) (sets.map setK)=SI:=⟨_,rfl⟩
   obtain⟨DI,hDI⟩:∃DI,maxL (sets.map setD)=DI:=⟨_,rfl⟩
   rw[hSI] at HS1 hL HT
   rw[hDI] at HS1 hDIl HM
   clear hq hSI hDI HSL hdI hb HDL kW
   have ka:=fun o=>cells14 ((((Below.refl _ wr).alloc (Nat.le_refl _) o).block w.heap.size (Nat.lt_of_lt_of_le hzW HS1.out.size)).trans ((HS1.out.box HJ.out (Nat.le_refl _) hzW).trans HC0.out))
   have HX1:=hid (HS1.out.next (fun tb' h'=>jexprs_new wh h1wh.1 h1wh.2 [[87,72,69,82,69]] (by simp) (by decide) g tb' _ _ wr (.slice a6 n6 c6) h' (HA6.out.to HS1.out.fr (fun b hb _=>⟨HJW.out.keeps b hb,hb⟩)) (by simp[wordsK];omega) (by omega) (by omega) (by omega)))
   go_wp2_with fail
   refine HX1.out.mono ?_
   rintro e w2 ⟨rfl,hs2⟩
   have HS2:=hid hs2
   have kk:=cells14 ((HS2.out.box HJ.out (Nat.le_refl _) hzW).trans HC0.out)
   clear hs2 HX1 ka
   have HQ:Hid (JWrote g tb w w2 T M):=hid (by
    have h9:=JWrote.new HBW.out HS2.out
    rw[← HT.out,← HM.out]
    have hmm:max (max m ((DI:Nat):Int)) ((exDs wh:Nat):Int)=max m ((max DI (exDs wh):Nat):Int):=by omega
    rw[hmm,← HLA.out] at h9
    simpa [wordsK] using h9)
   clear HS2
   go_wp2
   exact bodyPost_end (v:=.tuple #[]) (by simp[results,Tryz.results34,go_sem]) rfl ⟨rfl,HQ.out⟩
end Go.Proofs.YtnidnipiihhnaaaGreatDoor
