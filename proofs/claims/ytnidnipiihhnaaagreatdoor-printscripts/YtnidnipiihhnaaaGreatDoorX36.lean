/- Packed for the hand-in: RefJ8 RefJ9 RefJA -/
import Derived.Test.YtnidnipiihhnaaaGreatDoorX33
namespace Go.Proofs.YtnidnipiihhnaaaGreatDoor
open Go.RowKit Go.Shelf
set_option linter.unusedSimpArgs false
set_option linter.unusedVariables false
set_option maxRecDepth 20000
set_option maxHeartbeats 8000000
theorem jt_neg (a:Tm) (hok:a.ok) (hn:a.isNum=false) (hA:JX a):JX (.neg a):=fun S v w hx hT hD=>by
 have HXV:=hid hx
 obtain⟨k,op,tb,nm,vk,vn,vs,ys,aa,nn,cc,he,rfl,ha⟩:=hx
 obtain⟨W,hW,hbW,hzW,hcW⟩:=box8 w (.cells #[.int .i64 k,.int .i64 op,.string (str8 tb),.string (str8 nm),.int .i64 vk,.int .i64 vn,.string (str8 vs),.slice aa nn cc] 26)
 have k0:=cells8 hcW
 have HB:=hid hbW
 have HC:=hid hcW
 simp only[Tm.ex,exOf,Ex.mk.injEq] at he
 obtain⟨rfl,rfl,rfl,rfl,-,rfl⟩:=he
 have hnl:negL a=6:=by unfold negL;rw[hn];rfl
 have hT':(atK 6 a.lv a.tk).length+1≤100000000:=by have:(fxT [45]::atK (negL a) a.lv a.tk).length≤100000000:=hT;rw[hnl] at this;simpa using this
 have hD':atD 6 a.lv a.dp+1≤1000000:=by have:atD (negL a) a.lv a.dp+1≤1000000:=hD;rw[hnl] at this;exact this
 obtain⟨h1,h2,h3,b,off,k1,op1,tb1,nm1,vk1,vn1,vs1,ys1,a1,n1,c1,hae,rfl,_,h7,h8⟩:=args_get0 (ha.new hbW)
 have h7W:=h7
 unfold Cells8 at h7
 rw[List.length_nil,Nat.zero_add] at h1
 subst h1
 unfold maxLen at h3
 have hnk : ¬(k1=1∧vk1=1∧0≤vn1):=fun h=>by
  have:=(num_kind a hae).2 h
  rw[hn] at this
  cases this
 obtain⟨X,hX,hbX,hzX,hcX⟩:=box8 W (.cells #[.int .i64 k1,.int .i64 op1,.string (str8 tb1),.string (str8 nm1),.int .i64 vk1,.int .i64 vn1,.string (str8 vs1),.slice a1 n1 c1] 26)
 have kX:=cells8 hcX
 have HCX:=hid hcX
 have HAT:Hid (Calls Tryz.prog 123 #[.agg #[.int .i64 k1,.int .i64 op1,.string (str8 tb1),.string (str8 nm1),.int .i64 vk1,.int .i64 vn1,.string (str8 vs1),.slice a1 n1 c1],.int .i64 7] X fun e w'=>∃u,e = .returned (.tuple #[u,.int .i64 ((atD 6 a.lv a.dp:Nat):Int)])∧Row X.heap.size w' u (atK 6 a.lv a.tk)∧Below X.heap.size X w'):=hid (at_of 6 a hok (by decide) hA S _ X ⟨k1,op1,tb1,nm1,vk1,vn1,vs1,ys1,a1,n1,c1,hae,rfl,h8.new hbX⟩ (by omega) (by omega))
 have HBX:Hid (Below w.heap.size w X):=hid (HB.out.trans (hbX.mono HB.out.size))
 have hne:atK 6 a.lv a.tk≠[]:=fun h=>by
  have q1:=(atK_len 6 a.lv a.tk).1
  have q2:=(tk_len a).1
  rw[h,List.length_nil] at q1
  omega
 show Calls Tryz.prog 58 _ w fun e w'=>∃u,e = .returned (.tuple #[u,.int .i64 ((atD (negL a) a.lv a.dp+1:Nat):Int)])∧Row w.heap.size w' u (fxT [45]::atK (negL a) a.lv a.tk)∧_
 rw[hnl]
 have hdw:IntKind.i64.wrap (((atD 6 a.lv a.dp:Nat):Int)+1)=((atD 6 a.lv a.dp+1:Nat):Int):=by rw[IntKind.wrap_i64];omega
 have hdw2:wrap64 (((atD 6 a.lv a.dp:Nat):Int)+1)=((atD 6 a.lv a.dp+1:Nat):Int):=by simp only[wrap64];omega
 clear hbW hcW ha hA hok hT hD hD' hae h8 h7W HXV hbX hcX hn hnl
 generalize ((atD 6 a.lv a.dp+1:Nat):Int)=D' at hdw hdw2 ⊢
 generalize ((atD 6 a.lv a.dp:Nat):Int)=D at HAT hdw hdw2
 generalize atK 6 a.lv a.tk=T at HAT hT' hne ⊢
 have hways:(k1==1)=false∨((k1==1)=true∧(vk1==1)=false)∨((k1==1)=true∧(vk1==1)=true∧¬(0≤vn1)):=by
  by_cases q1:k1=1
  ·by_cases q2:vk1=1
   ·exact .inr (.inr ⟨by simpa using q1,by simpa using q2,fun q3=>hnk ⟨q1,q2,q3⟩⟩)
   ·exact .inr (.inl ⟨by simpa using q1,by simpa using q2⟩)
  ·exact .inl (by simpa using q1)
 clear hnk
 rcases hways with y1 | ⟨y1,y2⟩ | ⟨y1,y2,y3⟩
 all_goals
  go_enter Tryz.func58,Tryz.ntmps58
  go_wp2_with fail
  try rw[hX]
  refine HAT.out.mono ?_
  rintro e w1 ⟨u,rfl,hu,hb1⟩
  obtain⟨g,c,rfl,hg1,hg2,hcu⟩:=hu.some hne
  have HCU:=hid hcu
  have HB1:Hid (Below X.heap.size X w1):=hid hb1
  have kX1:=cells8 ((hb1.block W.heap.size hzX).trans HCX.out)
  clear hu hb1 HAT hX hcu
  go_wp2_with fail
  refine (jsign_any ⟨#[45]⟩ w1).mono ?_
  rintro e w2 ⟨rfl,hb2⟩
  have HCU2:=hid (HCU.out.on hne hb2)
  have HB2:Hid (Below X.heap.size X w2):=hid (HB1.out.trans (hb2.mono HB1.out.size))
  clear hb2 HCU
  obtain⟨U,hU,hbU,hzU,hrU,_⟩:=new_toks w2 [fxT [45]] #[.int .i64 5,.string ⟨#[45]⟩,.int .i64 0,.int .i64 0] rfl (by simp)
  have hcuU:=HCU2.out.on hne hbU
  have hsU:w2.heap.size≤U.heap.size:=Nat.le_of_lt hzU
  have HBU:Hid (Below X.heap.size X U):=hid (HB2.out.trans (hbU.mono HB2.out.size))
  have hlT:[fxT [45]].length+T.length≤1000000000:=by simp;omega
  clear HCU2 hbU
  go_wp2_with (first
   | (
     at_builtin;refine wpList_row _ (by rfl) (.tmp 96) (.tmp 97) rfl w2.heap.size _ [fxT [45]] T rfl hrU g 0 c rfl hcuU hlT hsU ?_;intro v6 w6 hr6 hg6 hb6
     have HR6:=hid hr6
     have HB6:Hid (Below X.heap.size X w6):=hid (HBU.out.trans (hb6.mono HB2.out.size))
     clear hr6 hg6 hb6 hcuU hrU hU)
   | fail)
  refine bodyPost_ret (v:=.tuple #[v6,.int .i64 D']) (by simp[results,Tryz.results58,go_sem,hdw,hdw2]) rfl ⟨v6,rfl,?_,HBX.out.trans (HB6.out.mono HBX.out.size)⟩
  exact HR6.out.mono (Nat.le_trans HBX.out.size HB2.out.size)
theorem num_lv (a:Tm) (h:a.isNum=true):a.lv=6:=by
 cases a with
 | val v=>rfl
 | col t n=>rfl
 | neg x=>rfl
 | op o x y=>cases h
 | not x=>cases h
 | nul x=>cases h
 | nnul x=>cases h
theorem negN_K (a:Tm) (hn:a.isNum=true):atK (negL a) a.lv a.tk=fxT [40]::(atK 6 a.lv a.tk++[fxT [41]])∧atD (negL a) a.lv a.dp=atD 6 a.lv a.dp+1:=by
 have h1:negL a=7:=by unfold negL;rw[hn];rfl
 have h2:=num_lv a hn
 rw[h1,h2,atK_pos (Nat.le_refl 6),atD_pos (Nat.le_refl 6)]
 exact⟨atK_neg (show ¬7≤6 by decide),atD_neg (show ¬7≤6 by decide)⟩
theorem jt_negN (a:Tm) (hok:a.ok) (hn:a.isNum=true) (hA:JX a):JX (.neg a):=fun S v w hx hT hD=>by
 have HXV:=hid hx
 obtain⟨k,op,tb,nm,vk,vn,vs,ys,aa,nn,cc,he,rfl,ha⟩:=hx
 obtain⟨W,hW,hbW,hzW,hcW⟩:=box8 w (.cells #[.int .i64 k,.int .i64 op,.string (str8 tb),.string (str8 nm),.int .i64 vk,.int .i64 vn,.string (str8 vs),.slice aa nn cc] 26)
 have k0:=cells8 hcW
 have HB:=hid hbW
 have HC:=hid hcW
 simp only[Tm.ex,exOf,Ex.mk.injEq] at he
 obtain⟨rfl,rfl,rfl,rfl,-,rfl⟩:=he
 have hnl:negL a=7:=by unfold negL;rw[hn];rfl
 obtain⟨hK,hDD⟩:=negN_K a hn
 have hT':(atK 6 a.lv a.tk).length+3≤100000000:=by
  have:(fxT [45]::atK (negL a) a.lv a.tk).length≤100000000:=hT
  rw[hK] at this
  simp only[List.length_cons,List.length_append,List.length_nil] at this
  omega
 have hD':atD 6 a.lv a.dp+1+1≤1000000:=by have:atD (negL a) a.lv a.dp+1≤1000000:=hD;rw[hDD] at this;exact this
 obtain⟨h1,h2,h3,b,off,k1,op1,tb1,nm1,vk1,vn1,vs1,ys1,a1,n1,c1,hae,rfl,_,h7,h8⟩:=args_get0 (ha.new hbW)
 have h7W:=h7
 unfold Cells8 at h7
 rw[List.length_nil,Nat.zero_add] at h1
 subst h1
 unfold maxLen at h3
 obtain⟨rfl,rfl,hvn⟩:=(num_kind a hae).1 hn
 obtain⟨X,hX,hbX,hzX,hcX⟩:=box8 W (.cells #[.int .i64 1,.int .i64 op1,.string (str8 tb1),.string (str8 nm1),.int .i64 1,.int .i64 vn1,.string (str8 vs1),.slice a1 n1 c1] 26)
 have kX:=cells8 hcX
 have HCX:=hid hcX
 have HAT:Hid (Calls Tryz.prog 123 #[.agg #[.int .i64 1,.int .i64 op1,.string (str8 tb1),.string (str8 nm1),.int .i64 1,.int .i64 vn1,.string (str8 vs1),.slice a1 n1 c1],.int .i64 7] X fun e w'=>∃u,e = .returned (.tuple #[u,.int .i64 ((atD 6 a.lv a.dp:Nat):Int)])∧Row X.heap.size w' u (atK 6 a.lv a.tk)∧Below X.heap.size X w'):=hid (at_of 6 a hok (by decide) hA S _ X ⟨1,op1,tb1,nm1,1,vn1,vs1,ys1,a1,n1,c1,hae,rfl,h8.new hbX⟩ (by omega) (by omega))
 have HBX:Hid (Below w.heap.size w X):=hid (HB.out.trans (hbX.mono HB.out.size))
 have hne:atK 6 a.lv a.tk≠[]:=fun h=>by
  have q1:=(atK_len 6 a.lv a.tk).1
  have q2:=(tk_len a).1
  rw[h,List.length_nil] at q1
  omega
 show Calls Tryz.prog 58 _ w fun e w'=>∃u,e = .returned (.tuple #[u,.int .i64 ((atD (negL a) a.lv a.dp+1:Nat):Int)])∧Row w.heap.size w' u (fxT [45]::atK (negL a) a.lv a.tk)∧_
 rw[hK,hDD]
 clear hbW hcW ha hA hok hT hD hae h8 h7W HXV hbX hcX hn hnl hK hDD
 generalize atK 6 a.lv a.tk=T at HAT hT' hne ⊢
 generalize atD 6 a.lv a.dp=d0 at HAT hD' ⊢
 obtain⟨D,hD0⟩:∃D:Int,D=((d0:Nat):Int):=⟨_,rfl⟩
 obtain⟨D1,hD1⟩:∃D:Int,D=((d0+1:Nat):Int):=⟨_,rfl⟩
 obtain⟨D2,hD2⟩:∃D:Int,D=((d0+1+1:Nat):Int):=⟨_,rfl⟩
 have hdw:IntKind.i64.wrap (D+1)=D1:=by rw[IntKind.wrap_i64];omega
 have hdw2:wrap64 (D+1)=D1:=by simp only[wrap64];omega
 have hdw3:IntKind.i64.wrap (D1+1)=D2:=by rw[IntKind.wrap_i64];omega
 have hdw4:wrap64 (D1+1)=D2:=by simp only[wrap64];omega
 rw[← hD0] at HAT
 rw[← hD2]
 clear hD' hD0 hD1 hD2
 go_enter Tryz.func58,Tryz.ntmps58
 go_wp2_with fail
 try rw[hX]
 refine HAT.out.mono ?_
 rintro e w1 ⟨u,rfl,hu,hb1⟩
 obtain⟨g,c,rfl,hg1,hg2,hcu⟩:=hu.some hne
 have HCU:=hid hcu
 have HB1:Hid (Below X.heap.size X w1):=hid hb1
 have kX1:=cells8 ((hb1.block W.heap.size hzX).trans HCX.out)
 clear hu hb1 HAT hX hcu
 go_wp2_with fail
 refine (jsign_any ⟨#[40]⟩ w1).mono ?_
 rintro e w2 ⟨rfl,hb2⟩
 have HCU2:=hid (HCU.out.on hne hb2)
 have HB2:Hid (Below X.heap.size X w2):=hid (HB1.out.trans (hb2.mono HB1.out.size))
 clear hb2 HCU kX1
 obtain⟨U,hU,hbU,hzU,hrU,_⟩:=new_toks w2 [fxT [40]] #[.int .i64 5,.string ⟨#[40]⟩,.int .i64 0,.int .i64 0] rfl (by simp)
 have hcuU:=HCU2.out.on hne hbU
 have hsU:w2.heap.size≤U.heap.size:=Nat.le_of_lt hzU
 have HBU:Hid (Below X.heap.size X U):=hid (HB2.out.trans (hbU.mono HB2.out.size))
 have hlT:[fxT [40]].length+T.length≤1000000000:=by simp;omega
 clear HCU2 hbU
 go_wp2_with (first
  | (
   at_builtin;refine wpList_row _ (by rfl) (.tmp 87) (.tmp 88) rfl w2.heap.size _ [fxT [40]] T rfl hrU g 0 c rfl hcuU hlT hsU ?_;intro v4 w4 hr4 hg4 hb4
   have HR4:=hid hr4
   have HB4:Hid (Below X.heap.size X w4):=hid (HBU.out.trans (hb4.mono HB2.out.size))
   have HS4:Hid (w2.heap.size≤w4.heap.size):=hid (Nat.le_trans hsU hb4.size)
   clear hr4 hg4 hb4 hcuU hrU hU)
  | fail)
 refine (jsign_any ⟨#[41]⟩ w4).mono ?_
 rintro e w5 ⟨rfl,hb5⟩
 have HR5:=hid (HR4.out.on hb5)
 have HB5:Hid (Below X.heap.size X w5):=hid (HB4.out.trans (hb5.mono HB4.out.size))
 have HS5:Hid (w2.heap.size≤w5.heap.size):=hid (Nat.le_trans HS4.out hb5.size)
 clear hb5 HR4 HS4
 obtain⟨V,hV,hbV,hzV,_,hcV⟩:=new_toks w5 [fxT [41]] #[.int .i64 5,.string ⟨#[41]⟩,.int .i64 0,.int .i64 0] rfl (by simp)
 have hr5:=HR5.out.on hbV
 have hsV:w2.heap.size≤V.heap.size:=Nat.le_trans HS5.out hbV.size
 have HBV:Hid (Below X.heap.size X V):=hid (HB5.out.trans (hbV.mono HB5.out.size))
 have hlT2:([fxT [40]]++T).length+[fxT [41]].length≤1000000000:=by simp;omega
 clear HR5 hbV
 go_wp2_with (first
  | (
   at_builtin;refine wpList_row _ (by rfl) (.tmp 89) (.tmp 91) rfl w2.heap.size _ ([fxT [40]]++T) [fxT [41]] rfl hr5 w5.heap.size 0 1 rfl hcV hlT2 hsV ?_;intro v7 w7 hr7 hg7 hb7
   have HR7:=hid hr7
   have HB7:Hid (Below X.heap.size X w7):=hid (HBV.out.trans (hb7.mono HB2.out.size))
   clear hr7 hg7 hb7 hr5 hcV hV)
  | fail)
 obtain⟨M,hM⟩:∃M,[fxT [40]]++T++[fxT [41]]=M:=⟨_,rfl⟩
 have hneM:M≠[]:=by rw[← hM];simp
 have hlM:M.length=T.length+2:=by rw[← hM];simp
 rw[hM] at HR7
 have HM:=hid hM
 clear hM
 obtain⟨g7,c7,rfl,_,_,hcu7⟩:=HR7.out.some hneM
 have HCU7:=hid hcu7
 clear hcu7
 refine (jsign_any ⟨#[45]⟩ w7).mono ?_
 rintro e w8 ⟨rfl,hb8⟩
 have HCU8:=hid (HCU7.out.on hneM hb8)
 have HB8:Hid (Below X.heap.size X w8):=hid (HB7.out.trans (hb8.mono HB7.out.size))
 clear hb8 HCU7 HR7
 obtain⟨Y,hY,hbY,hzY,hrY,_⟩:=new_toks w8 [fxT [45]] #[.int .i64 5,.string ⟨#[45]⟩,.int .i64 0,.int .i64 0] rfl (by simp)
 have hcuY:=HCU8.out.on hneM hbY
 have hsY:w8.heap.size≤Y.heap.size:=Nat.le_of_lt hzY
 have HBY:Hid (Below X.heap.size X Y):=hid (HB8.out.trans (hbY.mono HB8.out.size))
 have hlT3:[fxT [45]].length+M.length≤1000000000:=by simp;omega
 clear HCU8 hbY hlM
 go_wp2_with (first
  | (
   at_builtin;refine wpList_row _ (by rfl) (.tmp 96) (.tmp 97) rfl w8.heap.size _ [fxT [45]] M rfl hrY g7 0 c7 rfl hcuY hlT3 hsY ?_;intro v9 w9 hr9 hg9 hb9
   have HR9:=hid hr9
   have HB9:Hid (Below X.heap.size X w9):=hid (HBY.out.trans (hb9.mono HB8.out.size))
   clear hr9 hg9 hb9 hcuY hrY hY)
  | fail)
 refine bodyPost_ret (v:=.tuple #[v9,.int .i64 D2]) (by simp[results,Tryz.results58,go_sem,hdw,hdw2,hdw3,hdw4]) rfl ⟨v9,rfl,?_,HBX.out.trans (HB9.out.mono HBX.out.size)⟩
 have:=HR9.out.mono (Nat.le_trans HBX.out.size HB8.out.size)
 rw[← HM.out,show [fxT [45]]++([fxT [40]]++T++[fxT [41]])=fxT [45]::(fxT [40]::(T++[fxT [41]])) by simp] at this
 exact this
theorem TksAt.grown {w w':World} {b off:Nat} {M:List Tk} {row:Option Nat} (h:TksAt w b off M) (hlt:b<w.heap.size) (hg:w.grownBy w' row) (hne:row≠some b):TksAt w' b off M:=fun j u hu=>by
 have h1:=h j u hu
 have hb:=hg.block b hlt (fun e=>hne e.symm)
 rw[Addr.add_lit] at h1 ⊢
 unfold World.cell? at h1 ⊢
 dsimp only at h1 ⊢
 rw[hb]
 exact h1
theorem jt_op (o:Int) (h1:1≤o) (h2:o≤13) (a b:Tm) (hoka:a.ok) (hokb:b.ok) (hA:JX a) (hB:JX b):JX (.op o a b):=fun S v w hx hT hD=>by
 have HXV:=hid hx
 obtain⟨k,op,tb,nm,vk,vn,vs,ys,aa,nn,cc,he,rfl,ha⟩:=hx
 obtain⟨W,hW,hbW,hzW,hcW⟩:=box8 w (.cells #[.int .i64 k,.int .i64 op,.string (str8 tb),.string (str8 nm),.int .i64 vk,.int .i64 vn,.string (str8 vs),.slice aa nn cc] 26)
 have k0:=cells8 hcW
 have HB:=hid hbW
 have HC:=hid hcW
 have HLV:=hid (jlevel_any S (.op o a b) ⟨h1,h2,hoka,hokb⟩ _ W (HXV.out.new hbW))
 simp only[Tm.ex,exOp,Ex.mk.injEq] at he
 obtain⟨rfl,rfl,rfl,rfl,-,rfl⟩:=he
 have haW:=ha.new hbW
 obtain⟨g1,g2,g3,b0,off,k1,op1,tb1,nm1,vk1,vn1,vs1,ys1,a1,n1,c1,hae,rfl,_,h7,h8⟩:=args_get (j:=0) haW rfl
 obtain⟨_,_,_,b0',off',k2,op2,tb2,nm2,vk2,vn2,vs2,ys2,a2,n2,c2,hbe,hb0,_,i7,i8⟩:=args_get (j:=1) haW rfl
 simp only[Option.some.injEq,Addr.mk.injEq,and_true] at hb0
 obtain⟨rfl,rfl⟩:=hb0
 rw[Nat.zero_mul,Nat.add_zero] at h7
 rw[Nat.one_mul] at i7
 have HE0:=hid h7
 have HE1:=hid i7
 have g1':nn=2:=g1
 subst g1'
 unfold maxLen at g3
 have hT':(atK (opL o) a.lv a.tk).length+(atK (opLv o+1) b.lv b.tk).length+1≤100000000:=by
  have:(atK (opL o) a.lv a.tk++fxT (opTx o)::atK (opLv o+1) b.lv b.tk).length≤100000000:=hT
  simp only[List.length_append,List.length_cons] at this
  omega
 have hD':atD (opL o) a.lv a.dp≤1000000∧atD (opLv o+1) b.lv b.dp≤1000000:=by
  have:max (atD (opL o) a.lv a.dp) (atD (opLv o+1) b.lv b.dp)≤1000000:=hD
  omega
 have hlv5:opLv o≤5:=by have:=op_lv o h1 h2;omega
 have hoL:opL o≤5:=by unfold opL;split<;>omega
 have HA0:=hid (fun V (hV:Below W.heap.size W V)=>at_of (opL o) a hoka (by omega) hA S (.agg #[.int .i64 k1,.int .i64 op1,.string (str8 tb1),.string (str8 nm1),.int .i64 vk1,.int .i64 vn1,.string (str8 vs1),.slice a1 n1 c1]) V ⟨k1,op1,tb1,nm1,vk1,vn1,vs1,ys1,a1,n1,c1,hae,rfl,h8.new hV⟩ (by omega) hD'.1)
 have HA1:=hid (fun V (hV:Below W.heap.size W V)=>at_of (opLv o+1) b hokb (by omega) hB S (.agg #[.int .i64 k2,.int .i64 op2,.string (str8 tb2),.string (str8 nm2),.int .i64 vk2,.int .i64 vn2,.string (str8 vs2),.slice a2 n2 c2]) V ⟨k2,op2,tb2,nm2,vk2,vn2,vs2,ys2,a2,n2,c2,hbe,rfl,i8.new hV⟩ (by omega) hD'.2)
 have HOP:=hid (fun V=>jop_any o h1 h2 V)
 show Calls Tryz.prog 58 _ w fun e w'=>∃u,e = .returned (.tuple #[u,.int .i64 ((max (atD (opL o) a.lv a.dp) (atD (opLv o+1) b.lv b.dp):Nat):Int)])∧Row w.heap.size w' u (atK (opL o) a.lv a.tk++fxT (opTx o)::atK (opLv o+1) b.lv b.tk)∧_
 have hlev:((Tm.op o a b).lv:Int)=(opLv o:Int):=rfl
 rw[hlev] at HLV
 have hways:((((opLv o:Int)+1)==4)=true∧((opL o:Int)+1)=5)∨((((opLv o:Int)+1)==4)=false∧((opL o:Int)+1)=(opLv o:Int)+1):=by
  by_cases h3:opLv o=3
  ·refine .inl ⟨by rw[h3];rfl,?_⟩
   have:opL o=4:=if_pos h3
   rw[this];rfl
  ·refine .inr ⟨by rw[beq_eq_false_iff_ne];omega,?_⟩
   have:opL o=opLv o:=if_neg h3
   rw[this]
 have hk2:IntKind.i64.wrap (((opLv o:Int)+1)+1)=((opLv o+1:Nat):Int)+1:=by rw[IntKind.wrap_i64];omega
 have hk22:wrap64 (((opLv o:Int)+1)+1)=((opLv o+1:Nat):Int)+1:=by simp only[wrap64];omega
 have hne1:atK (opLv o+1) b.lv b.tk≠[]:=fun h=>by
  have q1:=(atK_len (opLv o+1) b.lv b.tk).1
  have q2:=(tk_len b).1
  rw[h,List.length_nil] at q1
  omega
 have hmax:max ((atD (opL o) a.lv a.dp:Nat):Int) ((atD (opLv o+1) b.lv b.dp:Nat):Int)=((max (atD (opL o) a.lv a.dp) (atD (opLv o+1) b.lv b.dp):Nat):Int):=by omega
 clear hbW hcW ha haW hA hB hoka hokb hT hD hae hbe h8 i8 HXV hlev hlv5 hoL h1 h2 hD' h7 i7
 generalize ((max (atD (opL o) a.lv a.dp) (atD (opLv o+1) b.lv b.dp):Nat):Int)=DM at hmax ⊢
 generalize ((atD (opL o) a.lv a.dp:Nat):Int)=D0 at HA0 hmax
 generalize ((atD (opLv o+1) b.lv b.dp:Nat):Int)=D1 at HA1 hmax
 generalize atK (opL o) a.lv a.tk=T0 at HA0 hT' ⊢
 generalize atK (opLv o+1) b.lv b.tk=T1 at HA1 hT' hne1 ⊢
 generalize ((opLv o+1:Nat):Int)+1=K2 at HA1 hk2 hk22
 generalize (opL o:Int)+1=KL at HA0 hways
 generalize (opLv o:Int)+1=K at HLV hways hk2 hk22
 generalize fxT (opTx o)=OT at HOP ⊢
 rcases hways with⟨y1,rfl⟩ | ⟨y1,rfl⟩
 all_goals
  go_enter Tryz.func58,Tryz.ntmps58
  go_wp2_with fail
  refine HLV.out.mono ?_
  rintro e w1 ⟨rfl,hb1⟩
  have kW1:=cells8 ((hb1.block w.heap.size hzW).trans HC.out)
  have kE1:=HE0.out.new hb1
  unfold Cells8 at kE1
  have HC1:=hid (HA0.out w1 hb1)
  have HB1:Hid (Below W.heap.size W w1):=hid hb1
  clear hb1 HLV HA0
  go_wp2_with fail
  refine HC1.out.mono ?_
  rintro e w2 ⟨u0,rfl,hu0,hb2⟩
  have hB2:Below W.heap.size W w2:=HB1.out.trans (hb2.mono HB1.out.size)
  have HU0:Hid (Row W.heap.size w2 u0 T0):=hid (hu0.mono HB1.out.size)
  have kW2:=cells8 ((hB2.block w.heap.size hzW).trans HC.out)
  have kE2:=HE1.out.new hB2
  unfold Cells8 at kE2
  have HC2:=hid (HA1.out w2 hB2)
  have HB2:=hid hB2
  clear hb2 hB2 hu0 HC1 HA1 kW1 kE1
  go_wp2_with fail
  refine HC2.out.mono ?_
  rintro e w3 ⟨u1,rfl,hu1,hb3⟩
  have hB3:Below W.heap.size W w3:=HB2.out.trans (hb3.mono HB2.out.size)
  have HO0:Hid (∀q,u0.ownBlock=some q→q<w2.heap.size):=hid (fun q hq=>(HU0.out.lt q hq).2)
  have HU03:=hid (HU0.out.on hb3)
  obtain⟨gu,cu,rfl,hgu1,hgu2,hcu⟩:=hu1.some hne1
  have HCU:=hid hcu
  have kW3:=cells8 ((hB3.block w.heap.size hzW).trans HC.out)
  have HB3:=hid hB3
  clear hb3 hB3 hu1 HC2 HU0 kW2 kE2 hcu
  go_wp2_with fail
  refine (HOP.out w3).mono ?_
  rintro e w4 ⟨rfl,hb4⟩
  have HCU4:=hid (HCU.out.on hne1 hb4)
  have HU04:=hid (HU03.out.on hb4)
  have HB4:Hid (Below W.heap.size W w4):=hid (HB3.out.trans (hb4.mono HB3.out.size))
  have hgu4:gu<w4.heap.size:=Nat.lt_of_lt_of_le hgu2 hb4.size
  clear hb4 HCU HU03 HOP
  obtain⟨U,hU,hbU,hzU,_,hcU⟩:=new_toks w4 [OT] #[.int .i64 OT.k,.string (str8 OT.s),.int .i64 OT.n,.int .i64 OT.p] rfl (by simp)
  have hr0:=HU04.out.on hbU
  have hcuU:=HCU4.out.on hne1 hbU
  have hBU:Below W.heap.size W U:=HB4.out.trans (hbU.mono HB4.out.size)
  have hsU:=hBU.size
  have HBU:=hid hBU
  have hguU:gu<U.heap.size:=Nat.lt_of_lt_of_le hgu4 hbU.size
  have hlT:T0.length+[OT].length≤1000000000:=by simp;omega
  have hlT2:(T0++[OT]).length+T1.length≤1000000000:=by simp;omega
  have hob:u0.ownBlock≠some gu:=fun e=>by have:=HO0.out gu e;omega
  clear HU04 HCU4 hbU hBU HO0 hgu1 hgu2 hgu4
  go_wp2_with (first
   | (
    at_builtin;refine wpList_row _ (by rfl) (.tmp 160) (.tmp 164) rfl W.heap.size _ T0 [OT] rfl hr0 w4.heap.size 0 1 rfl hcU hlT hsU ?_;intro v5 w5 hr5 hg5 hb5
    have hc5:=hcuU.grown hguU hg5 hob
    have hs5:W.heap.size≤w5.heap.size:=Nat.le_trans hsU hb5.size
    have HB5:Hid (Below W.heap.size W w5):=hid (HBU.out.trans (hb5.mono (Nat.le_refl _)))
    clear hg5 hb5 hr0 hcU hcuU hU)
   | (
    at_builtin;refine wpList_row _ (by rfl) (.tmp 165) (.tmp 166) rfl W.heap.size _ (T0++[OT]) T1 rfl hr5 gu 0 cu rfl hc5 hlT2 hs5 ?_;intro v6 w6 hr6 hg6 hb6
    have HR6:=hid hr6
    have HB6:Hid (Below W.heap.size W w6):=hid (HB5.out.trans (hb6.mono (Nat.le_refl _)))
    clear hr6 hg6 hb6 hr5 hc5)
   | fail)
  refine bodyPost_ret (v:=.tuple #[v6,.int .i64 DM]) (by simp[results,Tryz.results58,go_sem,hmax]) rfl ⟨v6,rfl,?_,HB.out.trans (HB6.out.mono HB.out.size)⟩
  have:=HR6.out.mono HB.out.size
  rw[show T0++[OT]++T1=T0++OT::T1 by simp] at this
  exact this
end Go.Proofs.YtnidnipiihhnaaaGreatDoor
