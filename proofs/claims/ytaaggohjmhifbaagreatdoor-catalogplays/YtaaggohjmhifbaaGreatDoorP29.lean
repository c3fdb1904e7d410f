/- Packed for the hand-in: PSel -/
import Derived.Test.YtaaggohjmhifbaaGreatDoorP28
import Derived.Deep.Cut
import Derived.Deep.DeepCutAuto
namespace Go.Proofs.YtaaggohjmhifbaaGreatDoor
open Go.RowKit Go.Shelf
set_option linter.unusedSimpArgs false
set_option linter.unusedVariables false
set_option maxRecDepth 20000
set_option maxHeartbeats 8000000
def descP (n:Nat):Pa Bool:=if n=0 then retP false else skipP [68,69,83,67]
def limP:Pa Int:=ifP [76,73,77,73,84] numP (retP (-1))
theorem select_eq (ex:Pa Ex) (r:Rd):selectP ex r=({ zSt 6 with items:=(listL (itemP ex) commaP 8 [] r).1,tb:=(nameP (mustsP [[70,82,79,77]] (listL (itemP ex) commaP 8 [] r).2).2).1,jn:=(joinP ex (nameP (mustsP [[70,82,79,77]] (listL (itemP ex) commaP 8 [] r).2).2).2).1.1,on:=(joinP ex (nameP (mustsP [[70,82,79,77]] (listL (itemP ex) commaP 8 [] r).2).2).2).1.2,wh:=(partP ex [87,72,69,82,69] [] (joinP ex (nameP (mustsP [[70,82,79,77]] (listL (itemP ex) commaP 8 [] r).2).2).2).2).1,gr:=(partP colP [71,82,79,85,80] [[66,89]] (partP ex [87,72,69,82,69] [] (joinP ex (nameP (mustsP [[70,82,79,77]] (listL (itemP ex) commaP 8 [] r).2).2).2).2).2).1,od:=(partP colP [79,82,68,69,82] [[66,89]] (partP colP [71,82,79,85,80] [[66,89]] (partP ex [87,72,69,82,69] [] (joinP ex (nameP (mustsP [[70,82,79,77]] (listL (itemP ex) commaP 8 [] r).2).2).2).2).2).2).1,desc:=(descP (partP colP [79,82,68,69,82] [[66,89]] (partP colP [71,82,79,85,80] [[66,89]] (partP ex [87,72,69,82,69] [] (joinP ex (nameP (mustsP [[70,82,79,77]] (listL (itemP ex) commaP 8 [] r).2).2).2).2).2).2).1.length (partP colP [79,82,68,69,82] [[66,89]] (partP colP [71,82,79,85,80] [[66,89]] (partP ex [87,72,69,82,69] [] (joinP ex (nameP (mustsP [[70,82,79,77]] (listL (itemP ex) commaP 8 [] r).2).2).2).2).2).2).2).1,lim:=(limP (descP (partP colP [79,82,68,69,82] [[66,89]] (partP colP [71,82,79,85,80] [[66,89]] (partP ex [87,72,69,82,69] [] (joinP ex (nameP (mustsP [[70,82,79,77]] (listL (itemP ex) commaP 8 [] r).2).2).2).2).2).2).1.length (partP colP [79,82,68,69,82] [[66,89]] (partP colP [71,82,79,85,80] [[66,89]] (partP ex [87,72,69,82,69] [] (joinP ex (nameP (mustsP [[70,82,79,77]] (listL (itemP ex) commaP 8 [] r).2).2).2).2).2).2).2).2).1 },(limP (descP (partP colP [79,82,68,69,82] [[66,89]] (partP colP [71,82,79,85,80] [[66,89]] (partP ex [87,72,69,82,69] [] (joinP ex (nameP (mustsP [[70,82,79,77]] (listL (itemP ex) commaP 8 [] r).2).2).2).2).2).2).1.length (partP colP [79,82,68,69,82] [[66,89]] (partP colP [71,82,79,85,80] [[66,89]] (partP ex [87,72,69,82,69] [] (joinP ex (nameP (mustsP [[70,82,79,77]] (listL (itemP ex) commaP 8 [] r).2).2).2).2).2).2).2).2).2):=by
 simp only[musts_one]
 rfl
theorem join_yes {ex:Pa Ex} {r:Rd} (h:isR [74,79,73,78] r=true):joinP ex r=(((nameP (nextR r)).1,[(ex (mustsP [[79,78]] (nameP (nextR r)).2).2).1]),(ex (mustsP [[79,78]] (nameP (nextR r)).2).2).2):=by
 unfold joinP ifP
 rw[if_pos h]
 rfl
theorem join_no {ex:Pa Ex} {r:Rd} (h:isR [74,79,73,78] r=false):joinP ex r=(([],[]),r):=by
 unfold joinP ifP
 rw[if_neg (by rw[h];exact Bool.false_ne_true)]
 rfl
theorem lim_yes {r:Rd} (h:isR [76,73,77,73,84] r=true):limP r=numP (nextR r):=by
 unfold limP ifP
 rw[if_pos h]
theorem lim_no {r:Rd} (h:isR [76,73,77,73,84] r=false):limP r=(-1,r):=by
 unfold limP ifP
 rw[if_neg (by rw[h];exact Bool.false_ne_true)]
 rfl
theorem selects_any (F:Nat) (ex:Pa Ex) (hx:RdsE F D0 116 ex) (hN:Nice false F ex) (g sb:Nat) (q0:Rd) (w:World) (h:RdAt F w g q0) (hD:D0 q0) (hS:StB w sb (zSt 6)) (hg:g<sb) :
  Calls Tryz.prog 117 #[.pointer (some ⟨g,0,none⟩),.pointer (some ⟨sb,0,none⟩)] w fun e w'=>e = .returned (.tuple #[])∧StB w' sb (selectP ex q0).1∧RdAt F w' g (selectP ex q0).2∧Fr2 g sb w w':=by
 have hgw:=h.lt
 have hsw:=hS.lt
 have DG0:DG F q0:=⟨h.good,hD⟩
 obtain⟨w0,hw0⟩:∃x,x=w:=⟨_,rfl⟩
 subst hw0
 have HR0:=hid h
 have HS0:=hid hS
 have HF0:Hid (Fr2 g sb w0 w0):=hid (Spares.refl _ _)
 have hEQ:=select_eq ex q0
 have H1:Hid (∀V,RdAt F V g q0→Calls Tryz.prog 187 #[.pointer (some ⟨g,0,none⟩),.int .i64 8,.func (.func 188) #[.pointer (some ⟨g,0,none⟩)] #[],.func (.func 182) #[.pointer (some ⟨g,0,none⟩)] #[]] V fun e w'=>∃(aa:Option Addr) (nn cc:Nat),e = .returned (.slice aa nn cc)∧SlAt 2 ItE (fun b=>V.heap.size≤b) w' (listL (itemP ex) commaP 8 [] q0).1 (.slice aa nn cc)∧RdAt F w' g (listL (itemP ex) commaP 8 [] q0).2∧Fr g V w') :=
  hid (fun V hV=>listIt_any F _ _ ((itemP ex)) commaP (item_any F ex hx hN) (comma_B F) (nice_item hN) nice_comma (enters_of Tryz.func188 (by kernel_rfl) rfl) (enters_of Tryz.func182 (by kernel_rfl) rfl) 8 (by decide) g q0 V hV DG0.2)
 obtain⟨l0,el0⟩:∃x,(listL (itemP ex) commaP 8 [] q0).1=x:=⟨_,rfl⟩
 obtain⟨q1,eq1⟩:∃x,(listL (itemP ex) commaP 8 [] q0).2=x:=⟨_,rfl⟩
 have DG1:=DG0.after (nice_list (b:=false) (nice_item hN) nice_comma 8 [])
 rw[eq1] at DG1
 rw[el0,eq1] at H1 hEQ
 have H2:Hid (∀V,RdAt F V g q1→Calls Tryz.prog 111 #[.pointer (some ⟨g,0,none⟩),.slice (some ⟨V.heap.size,0,none⟩) 1 1] (V.alloc (.cells #[.string ⟨#[70,82,79,77]⟩] 9)) fun e w'=>e = .returned (.tuple #[])∧RdAt F w' g (mustsP [[70,82,79,77]] q1).2∧Fr g V w'):=hid (fun V hV=>must_new F g q1 [[70,82,79,77]] (by decide) V hV)
 obtain⟨q2,eq2⟩:∃x,(mustsP [[70,82,79,77]] q1).2=x:=⟨_,rfl⟩
 have DG2:=DG1.after (nice_musts (b:=false) [[70,82,79,77]])
 rw[eq2] at DG2
 rw[eq2] at H2 hEQ
 have H3:=hid (fun V (hV:RdAt F V g q2)=>name_any F g q2 V hV)
 obtain⟨n2,en2⟩:∃x,(nameP q2).1=x:=⟨_,rfl⟩
 obtain⟨q3,eq3⟩:∃x,(nameP q2).2=x:=⟨_,rfl⟩
 have DG3:=DG2.after (nice_name (b:=false))
 rw[eq3] at DG3
 rw[en2,eq3] at H3 hEQ
 have HJ:Hid (∀V,RdAt F V g q3→Calls Tryz.prog 118 #[.pointer (some ⟨g,0,none⟩),.string ⟨#[74,79,73,78]⟩] V fun e w'=>e = .returned (.bool (isR [74,79,73,78] q3))∧RdAt F w' g (skipR [74,79,73,78] q3)∧Fr g V w'):=hid (fun V hV=>skip_any F g q3 V hV [74,79,73,78])
 have HNO:=hid (join_no (ex:=ex) (r:=q3))
 have HYES:=hid (join_yes (ex:=ex) (r:=q3))
 have HDG3:=hid DG3
 have HEX:=hid hx
 have DG4:=DG3.after (nice_join (b:=false) hN)
 obtain⟨⟨⟨jn,on⟩,q4⟩,ejn⟩:∃x,joinP ex q3=x:=⟨_,rfl⟩
 rw[ejn] at HNO HYES DG4 hEQ
 dsimp only at DG4 hEQ
 have H4:Hid (∀V,RdAt F V g q4→Calls Tryz.prog 115 #[.pointer (some ⟨g,0,none⟩),.func (.func 116) #[.pointer (some ⟨g,0,none⟩)] #[],.string ⟨#[87,72,69,82,69]⟩,.slice none 0 0] V fun e w'=>∃(aa:Option Addr) (nn cc:Nat),e = .returned (.slice aa nn cc)∧ArgsAt (fun b=>V.heap.size≤b) w' (partP ex [87,72,69,82,69] [] q4).1 (.slice aa nn cc)∧RdAt F w' g (partP ex [87,72,69,82,69] [] q4).2∧Fr g V w') :=
  hid (fun V hV=>part_any F _ ex hx (enters_of Tryz.func116 (by kernel_rfl) rfl) [87,72,69,82,69] [] g q4 V hV DG4.2 (.slice none 0 0) ⟨none,0,rfl,by decide,fun e=>absurd rfl e⟩)
 obtain⟨l4,el4⟩:∃x,(partP ex [87,72,69,82,69] [] q4).1=x:=⟨_,rfl⟩
 obtain⟨q5,eq5⟩:∃x,(partP ex [87,72,69,82,69] [] q4).2=x:=⟨_,rfl⟩
 have DG5:=DG4.after (nice_part (b:=false) hN [87,72,69,82,69] [] (by decide))
 rw[eq5] at DG5
 rw[el4,eq5] at H4 hEQ
 have H5:Hid (∀V,RdAt F V g q5→Calls Tryz.prog 115 #[.pointer (some ⟨g,0,none⟩),.func (.func 189) #[.pointer (some ⟨g,0,none⟩)] #[],.string ⟨#[71,82,79,85,80]⟩,.slice (some ⟨V.heap.size,0,none⟩) 1 1] (V.alloc (.cells #[.string ⟨#[66,89]⟩] 9)) fun e w'=>∃(aa:Option Addr) (nn cc:Nat),e = .returned (.slice aa nn cc)∧ArgsAt (fun b=>V.heap.size≤b) w' (partP colP [71,82,79,85,80] [[66,89]] q5).1 (.slice aa nn cc)∧RdAt F w' g (partP colP [71,82,79,85,80] [[66,89]] q5).2∧Fr g V w') :=
  hid (fun V hV=>part_newP F _ colP (col_any F D0) (enters_of Tryz.func189 (by kernel_rfl) rfl) [71,82,79,85,80] [[66,89]] (by decide) g q5 V hV DG5.2)
 obtain⟨l5,el5⟩:∃x,(partP colP [71,82,79,85,80] [[66,89]] q5).1=x:=⟨_,rfl⟩
 obtain⟨q6,eq6⟩:∃x,(partP colP [71,82,79,85,80] [[66,89]] q5).2=x:=⟨_,rfl⟩
 have DG6:=DG5.after (nice_part (b:=false) nice_col [71,82,79,85,80] [[66,89]] (by decide))
 rw[eq6] at DG6
 rw[el5,eq6] at H5 hEQ
 have H6:Hid (∀V,RdAt F V g q6→Calls Tryz.prog 115 #[.pointer (some ⟨g,0,none⟩),.func (.func 189) #[.pointer (some ⟨g,0,none⟩)] #[],.string ⟨#[79,82,68,69,82]⟩,.slice (some ⟨V.heap.size,0,none⟩) 1 1] (V.alloc (.cells #[.string ⟨#[66,89]⟩] 9)) fun e w'=>∃(aa:Option Addr) (nn cc:Nat),e = .returned (.slice aa nn cc)∧ArgsAt (fun b=>V.heap.size≤b) w' (partP colP [79,82,68,69,82] [[66,89]] q6).1 (.slice aa nn cc)∧RdAt F w' g (partP colP [79,82,68,69,82] [[66,89]] q6).2∧Fr g V w') :=
  hid (fun V hV=>part_newP F _ colP (col_any F D0) (enters_of Tryz.func189 (by kernel_rfl) rfl) [79,82,68,69,82] [[66,89]] (by decide) g q6 V hV DG6.2)
 obtain⟨l6,el6⟩:∃x,(partP colP [79,82,68,69,82] [[66,89]] q6).1=x:=⟨_,rfl⟩
 obtain⟨q7,eq7⟩:∃x,(partP colP [79,82,68,69,82] [[66,89]] q6).2=x:=⟨_,rfl⟩
 have DG7:=DG6.after (nice_part (b:=false) nice_col [79,82,68,69,82] [[66,89]] (by decide))
 rw[eq7] at DG7
 rw[el6,eq7] at H6 hEQ
 have HDN:Hid (l6.length=0→descP l6.length q7=(false,q7)):=hid (fun e=>by unfold descP;rw[if_pos e];rfl)
 have HDY:Hid (¬l6.length=0→descP l6.length q7=(isR [68,69,83,67] q7,skipR [68,69,83,67] q7)):=hid (fun e=>by unfold descP;rw[if_neg e,skipP_eq])
 obtain⟨⟨db,q8⟩,edb⟩:∃x,descP l6.length q7=x:=⟨_,rfl⟩
 rw[edb] at HDN HDY hEQ
 dsimp only at hEQ
 have HLY:=hid (lim_yes (r:=q8))
 have HLN:=hid (lim_no (r:=q8))
 obtain⟨⟨lm,q9⟩,elm⟩:∃x,limP q8=x:=⟨_,rfl⟩
 rw[elm] at HLY HLN hEQ
 dsimp only at hEQ
 rw[hEQ]
 dsimp only
 clear hEQ h hS hD hx hN ejn edb elm DG0 DG1 DG2 DG3 DG4 DG5 DG6 DG7
 go_enter Tryz.func117,Tryz.ntmps117
 go_wp2_with fail
 refine (H1.out w0 HR0.out).mono ?_
 rintro e w1 ⟨aa1,nn1,cc1,rfl,hl1,hr1,hf1⟩
 have hz1:=hf1.size
 have HR1:=hid hr1
 have HF1:=hid (HF0.out.then2 hf1)
 have HS1:=hid (HS0.out.keeps hf1 (fun b hb _ e=>by omega))
 have HL1:=hid (hl1.to (T:=fun b=>sb<b) (by decide) (R:=fun _=>False) (Spares.refl _ _) (fun b hb _=>⟨id,by omega⟩) (fun _ _ e=>e.to (R:=fun _=>False) (Spares.refl _ _) (fun b hb _=>⟨id,by omega⟩)))
 clear hl1
 clear hr1 hf1 H1
 obtain⟨u1,hu1⟩:=HS1.out.at 6 (by decide)
 have hfz1:=HS1.out.frozen
 obtain⟨V1,hV1,hS1,hs1,_⟩:=HS1.out.set_items l0 HL1.out
 have hzV1:=hs1.size
 have HR1':=hid (HR1.out.keeps hs1 (fun i hi e=>by omega))
 have HF1':=hid (HF1.out.put2 hs1)
 have HS1':=hid hS1
 clear hS1 hs1 HR1 HF1 HS1
 have HR1:=HR1'
 have HF1:=HF1'
 have HS1:=HS1'
 clear HR1' HF1' HS1'
 go_wp2_with fail
 clear hV1 hu1 hfz1
 refine (H2.out V1 HR1.out).mono ?_
 rintro e w2 ⟨rfl,hr2,hf2⟩
 have hz2:=hf2.size
 have HR2:=hid hr2
 have HF2:=hid (HF1.out.then2 hf2)
 have HS2:=hid (HS1.out.keeps hf2 (fun b hb _ e=>by omega))
 clear hr2 hf2 H2
 go_wp2_with fail
 refine (H3.out w2 HR2.out).mono ?_
 rintro e w3 ⟨rfl,hr3,hf3⟩
 have hz3:=hf3.size
 have HR3:=hid hr3
 have HF3:=hid (HF2.out.then2 hf3)
 have HS3:=hid (HS2.out.keeps hf3 (fun b hb _ e=>by omega))
 clear hr3 hf3 H3
 obtain⟨u3,hu3⟩:=HS3.out.at 1 (by decide)
 have hfz3:=HS3.out.frozen
 obtain⟨V3,hV3,hS3,hs3,_⟩:=HS3.out.set_tb n2
 have hzV3:=hs3.size
 have HR3':=hid (HR3.out.keeps hs3 (fun i hi e=>by omega))
 have HF3':=hid (HF3.out.put2 hs3)
 have HS3':=hid hS3
 clear hS3 hs3 HR3 HF3 HS3
 have HR3:=HR3'
 have HF3:=HF3'
 have HS3:=HS3'
 clear HR3' HF3' HS3'
 go_wp2_with fail
 clear hV3 hu3 hfz3
 refine (HJ.out V3 HR3.out).mono ?_
 rintro e w4 ⟨rfl,hr4,hf4⟩
 have hz4:=hf4.size
 have HR4:=hid hr4
 have HF4:=hid (HF3.out.then2 hf4)
 have HS4:=hid (HS3.out.keeps hf4 (fun b hb _ e=>by omega))
 clear hr4 hf4 HJ
 go_upto_if 22 with fail
 go_cut [22] (fun u22 wx=>StB wx sb { zSt 6 with items:=l0,tb:=n2,jn:=jn,on:=on }∧RdAt F wx g q4∧Fr2 g sb w0 wx)
 case first =>
  cases hi:isR [74,79,73,78] q3 with
  |
   false =>
   have hno:=HNO.out hi
   simp only[Prod.mk.injEq] at hno
   obtain⟨⟨rfl,rfl⟩,rfl⟩:=hno
   have hsk:skipR [74,79,73,78] q4=q4:=if_neg (by rw[hi];exact Bool.false_ne_true)
   rw[hsk] at HR4
   clear hi hsk
   go_wp2_with fail
   go_meet
   exact⟨HS4.out,HR4.out,HF4.out⟩
  |
   true =>
   have hsk:skipR [74,79,73,78] q3=nextR q3:=if_pos hi
   rw[hsk] at HR4
   have hyes:=HYES.out hi
   have HN1:=hid (fun V (hV:RdAt F V g (nextR q3))=>name_any F g (nextR q3) V hV)
   have hDn:=HDG3.out.next hi
   have hD1:=hDn.after (nice_name (b:=false))
   obtain⟨nj,enj⟩:∃x,(nameP (nextR q3)).1=x:=⟨_,rfl⟩
   obtain⟨p1,ep1⟩:∃x,(nameP (nextR q3)).2=x:=⟨_,rfl⟩
   rw[enj,ep1] at HN1 hyes
   rw[ep1] at hD1
   have HM1:Hid (∀V,RdAt F V g p1→Calls Tryz.prog 111 #[.pointer (some ⟨g,0,none⟩),.slice (some ⟨V.heap.size,0,none⟩) 1 1] (V.alloc (.cells #[.string ⟨#[79,78]⟩] 9)) fun e w'=>e = .returned (.tuple #[])∧RdAt F w' g (mustsP [[79,78]] p1).2∧Fr g V w'):=hid (fun V hV=>must_new F g p1 [[79,78]] (by decide) V hV)
   have hD2:=hD1.after (nice_musts (b:=false) [[79,78]])
   obtain⟨p2,ep2⟩:∃x,(mustsP [[79,78]] p1).2=x:=⟨_,rfl⟩
   rw[ep2] at HM1 hyes hD2
   have HX1:=hid (fun V (hV:RdAt F V g p2)=>HEX.out g p2 V hV hD2.2)
   generalize (ex p2).1=y1 at HX1 hyes
   generalize (ex p2).2=y2 at HX1 hyes
   simp only[Prod.mk.injEq] at hyes
   obtain⟨⟨hy1,hy2⟩,hy3⟩:=hyes
   subst hy1 hy2 hy3
   clear hi hsk enj ep1 ep2 hDn hD1 hD2
   go_wp2_with fail
   refine (HN1.out w4 HR4.out).mono ?_
   rintro e w5 ⟨rfl,hr5,hf5⟩
   have hz5:=hf5.size
   have hS5:=HS4.out.keeps hf5 (fun b hb _ e=>by omega)
   obtain⟨u5,hu5⟩:=hS5.at 7 (by decide)
   have hfz5:=hS5.frozen
   obtain⟨V5,hV5,hSV5,hsV5,_⟩:=hS5.set_jn jn
   have hzV5:=hsV5.size
   have HR5:=hid (hr5.keeps hsV5 (fun i hi e=>by omega))
   have HF5:=hid ((HF4.out.then2 hf5).put2 hsV5)
   have HS5:=hid hSV5
   clear hr5 hf5 hS5 hSV5 hsV5 HN1
   go_wp2_with fail
   clear hV5 hu5 hfz5
   refine (HM1.out V5 HR5.out).mono ?_
   rintro e w6 ⟨rfl,hr6,hf6⟩
   have hz6:=hf6.size
   have HR6:=hid hr6
   have HF6:=hid (HF5.out.then2 hf6)
   have HS6:=hid (HS5.out.keeps hf6 (fun b hb _ e=>by omega))
   clear hr6 hf6 HM1
   go_wp2_with fail
   refine (HX1.out w6 HR6.out).mono ?_
   rintro e w7 ⟨u,rfl,hu,hr7,hf7⟩
   obtain⟨k3,op3,tb3,nm3,vk3,vn3,vs3,ys3,aa3,nn3,cc3,hxe,rfl,ha3⟩:=hu
   have hz7:=hf7.size
   obtain⟨U,hU,hbU,hzU,hcU⟩:=box8 w7 (.cells #[.int .i64 k3,.int .i64 op3,.string (str8 tb3),.string (str8 nm3),.int .i64 vk3,.int .i64 vn3,.string (str8 vs3),.slice aa3 nn3 cc3] 130)
   have hS7:=(HS6.out.keeps hf7 (fun b hb _ e=>by omega)).keeps (R:=fun _=>False) (Spares.of_new hbU) (fun b hb _ e=>e)
   have hA7:ArgsAt (fun b=>sb<b) U [y1] (.slice (some ⟨w7.heap.size,0,none⟩) 1 1):=by
    rw[hxe]
    exact args_one (t:=130) (show sb<w7.heap.size by omega) hcU (ha3.to (R:=fun _=>False) (Spares.of_new hbU) (fun b hb _=>⟨id,by omega⟩))
   obtain⟨u7,hu7⟩:=hS7.at 8 (by decide)
   have hfz7:=hS7.frozen
   obtain⟨V7,hV7,hSV7,hsV7,_⟩:=hS7.set_on [y1] hA7
   have HR7:=hid ((hr7.below hbU).keeps hsV7 (fun i hi e=>by omega))
   have HF7:=hid (((HF6.out.then2 hf7).new2 hbU).put2 hsV7)
   have HS7:=hid hSV7
   clear hr7 hf7 hS7 hSV7 hsV7 HX1 hA7 hbU hcU ha3 hxe
   go_wp2_with fail
   go_meet
   exact⟨HS7.out,HR7.out,HF7.out⟩
 case rest =>
  obtain⟨hSc,hRc,hFc⟩:=hcut
  have hswc:=hSc.lt
  have HR20:=hid hRc
  have HS20:=hid hSc
  have HF20:=hid hFc
  clear hSc hRc hFc HR4 HF4 HS4 hz4
  go_wp2_with fail
  refine (H4.out wc HR20.out).mono ?_
  rintro e w21 ⟨aa21,nn21,cc21,rfl,hl21,hr21,hf21⟩
  have hz21:=hf21.size
  have HR21:=hid hr21
  have HF21:=hid (HF20.out.then2 hf21)
  have HS21:=hid (HS20.out.keeps hf21 (fun b hb _ e=>by omega))
  have HL21:=hid (hl21.to (T:=fun b=>sb<b) (R:=fun _=>False) (Spares.refl _ _) (fun b hb _=>⟨id,by omega⟩))
  clear hl21
  clear hr21 hf21 H4
  obtain⟨u21,hu21⟩:=HS21.out.at 9 (by decide)
  have hfz21:=HS21.out.frozen
  obtain⟨V21,hV21,hS21,hs21,_⟩:=HS21.out.set_wh l4 HL21.out
  have hzV21:=hs21.size
  have HR21':=hid (HR21.out.keeps hs21 (fun i hi e=>by omega))
  have HF21':=hid (HF21.out.put2 hs21)
  have HS21':=hid hS21
  clear hS21 hs21 HR21 HF21 HS21
  have HR21:=HR21'
  have HF21:=HF21'
  have HS21:=HS21'
  clear HR21' HF21' HS21'
  go_wp2_with fail
  clear hV21 hu21 hfz21
  refine (H5.out V21 HR21.out).mono ?_
  rintro e w22 ⟨aa22,nn22,cc22,rfl,hl22,hr22,hf22⟩
  have hz22:=hf22.size
  have HR22:=hid hr22
  have HF22:=hid (HF21.out.then2 hf22)
  have HS22:=hid (HS21.out.keeps hf22 (fun b hb _ e=>by omega))
  have HL22:=hid (hl22.to (T:=fun b=>sb<b) (R:=fun _=>False) (Spares.refl _ _) (fun b hb _=>⟨id,by omega⟩))
  clear hl22
  clear hr22 hf22 H5
  obtain⟨u22,hu22⟩:=HS22.out.at 10 (by decide)
  have hfz22:=HS22.out.frozen
  obtain⟨V22,hV22,hS22,hs22,_⟩:=HS22.out.set_gr l5 HL22.out
  have hzV22:=hs22.size
  have HR22':=hid (HR22.out.keeps hs22 (fun i hi e=>by omega))
  have HF22':=hid (HF22.out.put2 hs22)
  have HS22':=hid hS22
  clear hS22 hs22 HR22 HF22 HS22
  have HR22:=HR22'
  have HF22:=HF22'
  have HS22:=HS22'
  clear HR22' HF22' HS22'
  go_wp2_with fail
  clear hV22 hu22 hfz22
  refine (H6.out V22 HR22.out).mono ?_
  rintro e w23 ⟨aa23,nn23,cc23,rfl,hl23,hr23,hf23⟩
  have hz23:=hf23.size
  have HR23:=hid hr23
  have HF23:=hid (HF22.out.then2 hf23)
  have HS23:=hid (HS22.out.keeps hf23 (fun b hb _ e=>by omega))
  have HL23:=hid (hl23.to (T:=fun b=>sb<b) (R:=fun _=>False) (Spares.refl _ _) (fun b hb _=>⟨id,by omega⟩))
  clear hl23
  clear hr23 hf23 H6
  obtain⟨u23,hu23⟩:=HS23.out.at 11 (by decide)
  have hfz23:=HS23.out.frozen
  obtain⟨V23,hV23,hS23,hs23,hk23⟩:=HS23.out.set_od l6 HL23.out
  have hzV23:=hs23.size
  have HR23':=hid (HR23.out.keeps hs23 (fun i hi e=>by omega))
  have HF23':=hid (HF23.out.put2 hs23)
  have HS23':=hid hS23
  clear hS23 hs23 HR23 HF23 HS23
  have HR23:=HR23'
  have HF23:=HF23'
  have HS23:=HS23'
  clear HR23' HF23' HS23'
  by_cases hod:l6.length=0
  ·have hde:=HDN.out hod
   simp only[Prod.mk.injEq] at hde
   obtain⟨rfl,rfl⟩:=hde
   have hn0:nn23=0:=by
    obtain⟨fa,fc,he,_⟩:=HL23.out.form
    simp only[Value.slice.injEq] at he
    rw[he.2.1];exact hod
   subst hn0
   obtain⟨u24,hu24⟩:=HS23.out.at 12 (by decide)
   have hfz24:=HS23.out.frozen
   obtain⟨V24,hV24,hS24,hs24,_⟩:=HS23.out.set_desc false
   have hzV24:=hs24.size
   have HRV24:=hid (HR23.out.keeps hs24 (fun i hi e=>by omega))
   have HFV24:=hid (HF23.out.put2 hs24)
   have HSV24:=hid hS24
   clear hS24 hs24
   cases hl:isR [76,73,77,73,84] q8 with
   |
    true =>
    have HL:Hid (∀V,RdAt F V g q8→Calls Tryz.prog 118 #[.pointer (some ⟨g,0,none⟩),.string ⟨#[76,73,77,73,84]⟩] V fun e w'=>e = .returned (.bool true)∧RdAt F w' g (nextR q8)∧Fr g V w'):=hid (fun V hV=>skip_yes F g q8 V hV [76,73,77,73,84] hl)
    have hly:=HLY.out hl
    have HNU:=hid (fun V (hV:RdAt F V g (nextR q8))=>number_any F g (nextR q8) V hV)
    rw[← hly] at HNU
    dsimp only at HNU
    clear hl hly
    go_wp2_with fail
    clear hV23 hu23 hfz23 hV24 hu24 hfz24 hk23
    refine (HL.out V24 HRV24.out).mono ?_
    rintro e w31 ⟨rfl,hr31,hf31⟩
    have hz31:=hf31.size
    have HR31:=hid hr31
    have HF31:=hid (HFV24.out.then2 hf31)
    have HS31:=hid (HSV24.out.keeps hf31 (fun b hb _ e=>by omega))
    clear hr31 hf31 HL
    go_wp2_with fail
    refine (HNU.out w31 HR31.out).mono ?_
    rintro e w32 ⟨rfl,hr32,hf32⟩
    have hz32:=hf32.size
    have HR32:=hid hr32
    have HF32:=hid (HF31.out.then2 hf32)
    have HS32:=hid (HS31.out.keeps hf32 (fun b hb _ e=>by omega))
    clear hr32 hf32 HNU
    obtain⟨u33,hu33⟩:=HS32.out.at 13 (by decide)
    have hfz33:=HS32.out.frozen
    obtain⟨V33,hV33,hS33,hs33,_⟩:=HS32.out.set_lim lm
    have hzV33:=hs33.size
    have HRV33:=hid (HR32.out.keeps hs33 (fun i hi e=>by omega))
    have HFV33:=hid (HF32.out.put2 hs33)
    have HSV33:=hid hS33
    clear hS33 hs33
    go_wp2
    exact bodyPost_end (v:=.tuple #[]) (by simp[results,Tryz.results117,go_sem]) rfl ⟨rfl,HSV33.out,HRV33.out,HFV33.out⟩
   |
    false =>
    have hln:=HLN.out hl
    simp only[Prod.mk.injEq] at hln
    obtain⟨rfl,rfl⟩:=hln
    have HL:Hid (∀V,RdAt F V g q9→Calls Tryz.prog 118 #[.pointer (some ⟨g,0,none⟩),.string ⟨#[76,73,77,73,84]⟩] V fun e w'=>e = .returned (.bool false)∧RdAt F w' g q9∧Fr g V w'):=hid (fun V hV=>skip_no F g q9 V hV [76,73,77,73,84] hl)
    clear hl
    go_wp2_with fail
    clear hV23 hu23 hfz23 hV24 hu24 hfz24 hk23
    refine (HL.out V24 HRV24.out).mono ?_
    rintro e w31 ⟨rfl,hr31,hf31⟩
    have hz31:=hf31.size
    have HR31:=hid hr31
    have HF31:=hid (HFV24.out.then2 hf31)
    have HS31:=hid (HSV24.out.keeps hf31 (fun b hb _ e=>by omega))
    clear hr31 hf31 HL
    go_wp2
    exact bodyPost_end (v:=.tuple #[]) (by simp[results,Tryz.results117,go_sem]) rfl ⟨rfl,HS31.out,HR31.out,HF31.out⟩
  ·have hde:=HDY.out hod
   simp only[Prod.mk.injEq] at hde
   obtain⟨hdb,hdr⟩:=hde
   have hn0:nn23≠0:=by
    obtain⟨fa,fc,he,_⟩:=HL23.out.form
    simp only[Value.slice.injEq] at he
    rw[he.2.1];exact hod
   have hpos:(0:Int)<(nn23:Int):=by omega
   have HDE:Hid (∀V,RdAt F V g q7→Calls Tryz.prog 118 #[.pointer (some ⟨g,0,none⟩),.string ⟨#[68,69,83,67]⟩] V fun e w'=>e = .returned (.bool db)∧RdAt F w' g q8∧Fr g V w'):=hid (fun V hV=>by
    have:=skip_any F g q7 V hV [68,69,83,67]
    rw[← hdb,← hdr] at this
    exact this)
   clear hdb hdr
   go_wp2_with fail
   clear hV23 hu23 hfz23 hk23 hpos
   refine (HDE.out V23 HR23.out).mono ?_
   rintro e w24 ⟨rfl,hr24,hf24⟩
   have hz24:=hf24.size
   have HR24:=hid hr24
   have HF24:=hid (HF23.out.then2 hf24)
   have HS24:=hid (HS23.out.keeps hf24 (fun b hb _ e=>by omega))
   clear hr24 hf24 HDE
   obtain⟨u24,hu24⟩:=HS24.out.at 12 (by decide)
   have hfz24:=HS24.out.frozen
   obtain⟨V24,hV24,hS24,hs24,_⟩:=HS24.out.set_desc db
   have hzV24:=hs24.size
   have HRV24:=hid (HR24.out.keeps hs24 (fun i hi e=>by omega))
   have HFV24:=hid (HF24.out.put2 hs24)
   have HSV24:=hid hS24
   clear hS24 hs24
   cases hl:isR [76,73,77,73,84] q8 with
   |
    true =>
    have HL:Hid (∀V,RdAt F V g q8→Calls Tryz.prog 118 #[.pointer (some ⟨g,0,none⟩),.string ⟨#[76,73,77,73,84]⟩] V fun e w'=>e = .returned (.bool true)∧RdAt F w' g (nextR q8)∧Fr g V w'):=hid (fun V hV=>skip_yes F g q8 V hV [76,73,77,73,84] hl)
    have hly:=HLY.out hl
    have HNU:=hid (fun V (hV:RdAt F V g (nextR q8))=>number_any F g (nextR q8) V hV)
    rw[← hly] at HNU
    dsimp only at HNU
    clear hl hly
    go_wp2_with fail
    clear hV24 hu24 hfz24
    refine (HL.out V24 HRV24.out).mono ?_
    rintro e w31 ⟨rfl,hr31,hf31⟩
    have hz31:=hf31.size
    have HR31:=hid hr31
    have HF31:=hid (HFV24.out.then2 hf31)
    have HS31:=hid (HSV24.out.keeps hf31 (fun b hb _ e=>by omega))
    clear hr31 hf31 HL
    go_wp2_with fail
    refine (HNU.out w31 HR31.out).mono ?_
    rintro e w32 ⟨rfl,hr32,hf32⟩
    have hz32:=hf32.size
    have HR32:=hid hr32
    have HF32:=hid (HF31.out.then2 hf32)
    have HS32:=hid (HS31.out.keeps hf32 (fun b hb _ e=>by omega))
    clear hr32 hf32 HNU
    obtain⟨u33,hu33⟩:=HS32.out.at 13 (by decide)
    have hfz33:=HS32.out.frozen
    obtain⟨V33,hV33,hS33,hs33,_⟩:=HS32.out.set_lim lm
    have hzV33:=hs33.size
    have HRV33:=hid (HR32.out.keeps hs33 (fun i hi e=>by omega))
    have HFV33:=hid (HF32.out.put2 hs33)
    have HSV33:=hid hS33
    clear hS33 hs33
    go_wp2
    exact bodyPost_end (v:=.tuple #[]) (by simp[results,Tryz.results117,go_sem]) rfl ⟨rfl,HSV33.out,HRV33.out,HFV33.out⟩
   |
    false =>
    have hln:=HLN.out hl
    simp only[Prod.mk.injEq] at hln
    obtain⟨rfl,rfl⟩:=hln
    have HL:Hid (∀V,RdAt F V g q9→Calls Tryz.prog 118 #[.pointer (some ⟨g,0,none⟩),.string ⟨#[76,73,77,73,84]⟩] V fun e w'=>e = .returned (.bool false)∧RdAt F w' g q9∧Fr g V w'):=hid (fun V hV=>skip_no F g q9 V hV [76,73,77,73,84] hl)
    clear hl
    go_wp2_with fail
    clear hV24 hu24 hfz24
    refine (HL.out V24 HRV24.out).mono ?_
    rintro e w31 ⟨rfl,hr31,hf31⟩
    have hz31:=hf31.size
    have HR31:=hid hr31
    have HF31:=hid (HFV24.out.then2 hf31)
    have HS31:=hid (HSV24.out.keeps hf31 (fun b hb _ e=>by omega))
    clear hr31 hf31 HL
    go_wp2
    exact bodyPost_end (v:=.tuple #[]) (by simp[results,Tryz.results117,go_sem]) rfl ⟨rfl,HS31.out,HR31.out,HF31.out⟩
end Go.Proofs.YtaaggohjmhifbaaGreatDoor
