/- Packed for the hand-in: RefJ7 -/
import Derived.Test.YtnidnipiihhnaaaGreatDoorX33
namespace Go.Proofs.YtnidnipiihhnaaaGreatDoor
open Go.RowKit Go.Shelf
set_option linter.unusedSimpArgs false
set_option linter.unusedVariables false
set_option maxRecDepth 20000
set_option maxHeartbeats 8000000
theorem jt_val (x:Vl) (hv:valOk x=true):JX (.val x):=fun S v w hx hT hD=>by
 have HXV:=hid hx
 obtain⟨k,op,tb,nm,vk,vn,vs,ys,aa,nn,cc,he,rfl,ha⟩:=hx
 obtain⟨W,hW,hbW,hzW,hcW⟩:=box8 w (.cells #[.int .i64 k,.int .i64 op,.string (str8 tb),.string (str8 nm),.int .i64 vk,.int .i64 vn,.string (str8 vs),.slice aa nn cc] 26)
 have k0:=cells8 hcW
 have HB:=hid hbW
 have HC:=hid hcW
 simp only[Tm.ex,exVal,Ex.mk.injEq] at he
 obtain⟨rfl,rfl,rfl,rfl,rfl,rfl⟩:=he
 have HL:=hid (jliteral_any ⟨vk,vn,vs⟩ hv W)
 show Calls Tryz.prog 58 _ w fun e w'=>∃u,e = .returned (.tuple #[u,.int .i64 0])∧Row w.heap.size w' u (litK ⟨vk,vn,vs⟩)∧_
 clear hbW hcW ha hv HXV
 go_enter Tryz.func58,Tryz.ntmps58
 go_wp2_with fail
 refine HL.out.mono ?_
 rintro e w1 ⟨u,rfl,hu,hb1⟩
 have HU:Hid (Row w.heap.size w1 u (litK ⟨vk,vn,vs⟩)):=hid (Row.mono hu HB.out.size)
 have HB1:Hid (Below w.heap.size w w1):=hid (HB.out.trans (hb1.mono HB.out.size))
 clear hu hb1 HL
 go_wp2
 exact bodyPost_ret (v:=.tuple #[u,.int .i64 0]) (by simp[results,Tryz.results58,go_sem]) rfl ⟨u,rfl,HU.out,HB1.out⟩
theorem jt_col (tn nm:List UInt8):JX (.col tn nm):=fun S v w hx hT hD=>by
 have HXV:=hid hx
 obtain⟨k,op,tb,nm,vk,vn,vs,ys,aa,nn,cc,he,rfl,ha⟩:=hx
 obtain⟨W,hW,hbW,hzW,hcW⟩:=box8 w (.cells #[.int .i64 k,.int .i64 op,.string (str8 tb),.string (str8 nm),.int .i64 vk,.int .i64 vn,.string (str8 vs),.slice aa nn cc] 26)
 have k0:=cells8 hcW
 have HB:=hid hbW
 have HC:=hid hcW
 simp only[Tm.ex,exCol,Ex.mk.injEq] at he
 obtain⟨rfl,rfl,rfl,rfl,-,rfl⟩:=he
 have het:=str8_empty tn
 by_cases h0:tn=[]
 ·rw[decide_eq_true h0] at het
  have e:(Tm.col tn nm).tk=[nmT nm]:=if_pos h0
  show Calls Tryz.prog 58 _ w fun e w'=>∃u,e = .returned (.tuple #[u,.int .i64 0])∧Row w.heap.size w' u (Tm.col tn nm).tk∧_
  rw[e]
  have HN:=hid (jnameT_any (str8 nm) W)
  clear hbW hcW ha HXV h0 e
  go_enter Tryz.func58,Tryz.ntmps58
  go_wp2_with fail
  refine HN.out.mono ?_
  rintro e w1 ⟨rfl,hb1⟩
  have HB1:Hid (Below w.heap.size w w1):=hid (HB.out.trans (hb1.mono HB.out.size))
  obtain⟨U,hU,hbU,hzU,hrU,_⟩:=new_toks w1 [nmT nm] #[.int .i64 1,.string (str8 nm),.int .i64 0,.int .i64 0] rfl (by simp)
  have HR:=hid (hrU.mono HB1.out.size)
  have HBU:Hid (Below w.heap.size w U):=hid (HB1.out.trans (hbU.mono HB1.out.size))
  clear hb1 HN hbU hrU
  go_wp2
  try rw[hU]
  exact bodyPost_ret (v:=.tuple #[.slice (some ⟨w1.heap.size,0,none⟩) 1 1,.int .i64 0]) (by simp[results,Tryz.results58,go_sem]) rfl ⟨_,rfl,HR.out,HBU.out⟩
 ·rw[decide_eq_false h0] at het
  have e:(Tm.col tn nm).tk=[nmT tn,fxT [46],nmT nm]:=if_neg h0
  show Calls Tryz.prog 58 _ w fun e w'=>∃u,e = .returned (.tuple #[u,.int .i64 0])∧Row w.heap.size w' u (Tm.col tn nm).tk∧_
  rw[e]
  have HFS:Hid (∀V,Below W.heap.size W V→V.cell? ⟨w.heap.size,2,none⟩=some (.string (str8 tn))∧V.cell? ⟨w.heap.size,3,none⟩=some (.string (str8 nm))):=hid (fun V hV=>by
   have kk:=cells8 ((hV.block w.heap.size hzW).trans hcW)
   exact⟨kk.2.2.1,kk.2.2.2.1⟩)
  have hS0:=HFS.out W.drew (below_drewN (Below.refl _ _) 1)
  have HD0:Hid (Below W.heap.size W W.drew):=hid (below_drewN (Below.refl _ _) 1)
  clear hbW hcW ha HXV h0 e
  go_enter Tryz.func58,Tryz.ntmps58
  go_wp2_with fail
  go_region_held3 (fun w'=>w'.cell? ⟨w.heap.size,2,none⟩=some (.string (str8 tn))∧w'.cell? ⟨w.heap.size,3,none⟩=some (.string (str8 nm)))
   (first | assumption | exact HFS.out _ (HD6.out.alloc HD6.out.size _))
   (first
    | (go_at_call 122;first
      | (
       refine (jnameT_any (str8 tn) _).mono ?_;rintro e w4 ⟨rfl,hb4⟩
       have HD4:Hid (Below W.heap.size W w4):=hid (HD0.out.trans (hb4.mono HD0.out.size))
       have hS4:=HFS.out _ HD4.out
       clear hb4)
      | (
       refine (jnameT_any (str8 nm) _).mono ?_;rintro e w6 ⟨rfl,hb6⟩
       have HD6:Hid (Below W.heap.size W w6):=hid (HD5.out.trans (hb6.mono HD5.out.size))
       have hS6:=HFS.out _ HD6.out
       clear hb6))
    | (
     go_at_call 84;refine (jsign_any ⟨#[46]⟩ _).mono ?_;rintro e w5 ⟨rfl,hb5⟩
     have HD5:Hid (Below W.heap.size W w5):=hid (HD4.out.trans (hb5.mono HD4.out.size))
     have hS5:=HFS.out _ HD5.out
     clear hb5)
    | fail)
  all_goals
   have HBW6:Hid (Below w.heap.size w w6):=hid (HB.out.trans (HD6.out.mono HB.out.size))
   obtain⟨U,hU,hbU,hzU,hrU,_⟩:=new_toks w6 [nmT tn,fxT [46],nmT nm] #[.int .i64 1,.string (str8 tn),.int .i64 0,.int .i64 0,.int .i64 5,.string ⟨#[46]⟩,.int .i64 0,.int .i64 0,.int .i64 1,.string (str8 nm),.int .i64 0,.int .i64 0] rfl (by simp)
   have HR:=hid (hrU.mono HBW6.out.size)
   have HBU:Hid (Below w.heap.size w U):=hid (HBW6.out.trans (hbU.mono HBW6.out.size))
   clear hbU hrU
   go_wp2
   try rw[hU]
   exact bodyPost_ret (v:=.tuple #[.slice (some ⟨w6.heap.size,0,none⟩) 3 3,.int .i64 0]) (by simp[results,Tryz.results58,go_sem]) rfl ⟨_,rfl,HR.out,HBU.out⟩
theorem jt_nul (a:Tm) (hok:a.ok) (hA:JX a):JX (.nul a):=fun S v w hx hT hD=>by
 have HXV:=hid hx
 obtain⟨k,op,tb,nm,vk,vn,vs,ys,aa,nn,cc,he,rfl,ha⟩:=hx
 obtain⟨W,hW,hbW,hzW,hcW⟩:=box8 w (.cells #[.int .i64 k,.int .i64 op,.string (str8 tb),.string (str8 nm),.int .i64 vk,.int .i64 vn,.string (str8 vs),.slice aa nn cc] 26)
 have k0:=cells8 hcW
 have HB:=hid hbW
 have HC:=hid hcW
 simp only[Tm.ex,exOf,Ex.mk.injEq] at he
 obtain⟨rfl,rfl,rfl,rfl,-,rfl⟩:=he
 have hT':(atK 4 a.lv a.tk).length+2≤100000000:=by simpa [Tm.tk] using hT
 have hD':atD 4 a.lv a.dp≤1000000:=hD
 obtain⟨h1,h2,h3,b,off,k1,op1,tb1,nm1,vk1,vn1,vs1,ys1,a1,n1,c1,hae,rfl,_,h7,h8⟩:=args_get0 (ha.new hbW)
 have h7W:=h7
 unfold Cells8 at h7
 rw[List.length_nil,Nat.zero_add] at h1
 subst h1
 unfold maxLen at h3
 have HAT:Hid (Calls Tryz.prog 123 #[.agg #[.int .i64 k1,.int .i64 op1,.string (str8 tb1),.string (str8 nm1),.int .i64 vk1,.int .i64 vn1,.string (str8 vs1),.slice a1 n1 c1],.int .i64 5] W fun e w'=>∃u,e = .returned (.tuple #[u,.int .i64 ((atD 4 a.lv a.dp:Nat):Int)])∧Row W.heap.size w' u (atK 4 a.lv a.tk)∧Below W.heap.size W w'):=hid (at_of 4 a hok (by decide) hA S _ W ⟨k1,op1,tb1,nm1,vk1,vn1,vs1,ys1,a1,n1,c1,hae,rfl,h8⟩ (by omega) hD')
 show Calls Tryz.prog 58 _ w fun e w'=>∃u,e = .returned (.tuple #[u,.int .i64 ((atD 4 a.lv a.dp:Nat):Int)])∧Row w.heap.size w' u (atK 4 a.lv a.tk++[isK,nulK])∧_
 clear hbW hcW ha hA hok hT hD hD' hae h8 h7W HXV
 generalize ((atD 4 a.lv a.dp:Nat):Int)=D at HAT ⊢
 generalize atK 4 a.lv a.tk=T at HAT hT' ⊢
 go_enter Tryz.func58,Tryz.ntmps58
 go_wp2_with fail
 refine HAT.out.mono ?_
 rintro e w1 ⟨u,rfl,hu,hb1⟩
 have HU:=hid hu
 have HB1:Hid (Below W.heap.size W w1):=hid hb1
 clear hu hb1 HAT
 go_wp2_with fail
 refine (jword_any ⟨#[73,83]⟩ w1).mono ?_
 rintro e w2 ⟨rfl,hb2⟩
 have HU2:=hid (HU.out.on hb2)
 have HB2:Hid (Below W.heap.size W w2):=hid (HB1.out.trans (hb2.mono HB1.out.size))
 clear hb2 HU
 go_wp2_with fail
 refine (jword_any ⟨#[78,85,76,76]⟩ w2).mono ?_
 rintro e w3 ⟨rfl,hb3⟩
 have HU3:=hid (HU2.out.on hb3)
 have HB3:Hid (Below W.heap.size W w3):=hid (HB2.out.trans (hb3.mono HB2.out.size))
 clear hb3 HU2
 obtain⟨U,hU,hbU,hzU,_,hcU⟩:=new_toks w3 [isK,nulK] #[.int .i64 2,.string ⟨#[73,83]⟩,.int .i64 0,.int .i64 0,.int .i64 2,.string ⟨#[78,85,76,76]⟩,.int .i64 0,.int .i64 0] rfl (by simp)
 have hr:=HU3.out.on hbU
 have hBU:Below W.heap.size W U:=HB3.out.trans (hbU.mono HB3.out.size)
 have hsU:=hBU.size
 have HBU:=hid hBU
 have hlT:T.length+[isK,nulK].length≤1000000000:=by simp;omega
 clear HU3 hbU hBU
 go_wp2_with (first
  | (
   at_builtin;refine wpList_row _ (by rfl) (.tmp 54) (.tmp 57) rfl W.heap.size _ T [isK,nulK] rfl hr w3.heap.size 0 2 rfl hcU hlT hsU ?_;intro v6 w6 hr6 hg6 hb6
   have HR6:=hid hr6
   have HB6:Hid (Below W.heap.size W w6):=hid (HBU.out.trans (hb6.mono (Nat.le_refl _)))
   clear hr6 hg6 hb6 hr hcU hU)
  | fail)
 exact bodyPost_ret (v:=.tuple #[v6,.int .i64 D]) (by simp[results,Tryz.results58,go_sem]) rfl ⟨v6,rfl,HR6.out.mono HB.out.size,HB.out.trans (HB6.out.mono HB.out.size)⟩
theorem jt_nnul (a:Tm) (hok:a.ok) (hA:JX a):JX (.nnul a):=fun S v w hx hT hD=>by
 have HXV:=hid hx
 obtain⟨k,op,tb,nm,vk,vn,vs,ys,aa,nn,cc,he,rfl,ha⟩:=hx
 obtain⟨W,hW,hbW,hzW,hcW⟩:=box8 w (.cells #[.int .i64 k,.int .i64 op,.string (str8 tb),.string (str8 nm),.int .i64 vk,.int .i64 vn,.string (str8 vs),.slice aa nn cc] 26)
 have k0:=cells8 hcW
 have HB:=hid hbW
 have HC:=hid hcW
 simp only[Tm.ex,exOf,Ex.mk.injEq] at he
 obtain⟨rfl,rfl,rfl,rfl,-,rfl⟩:=he
 have hT':(atK 4 a.lv a.tk).length+3≤100000000:=by simpa [Tm.tk] using hT
 have hD':atD 4 a.lv a.dp≤1000000:=hD
 obtain⟨h1,h2,h3,b,off,k1,op1,tb1,nm1,vk1,vn1,vs1,ys1,a1,n1,c1,hae,rfl,_,h7,h8⟩:=args_get0 (ha.new hbW)
 have h7W:=h7
 unfold Cells8 at h7
 rw[List.length_nil,Nat.zero_add] at h1
 subst h1
 unfold maxLen at h3
 simp only[Ex.mk.injEq,Vl.mk.injEq] at hae
 obtain⟨rfl,rfl,rfl,rfl,-,rfl⟩:=hae
 obtain⟨X,hX,hbX,hzX,hcX⟩:=box8 W (.cells #[.int .i64 6,.int .i64 0,.string (str8 []),.string (str8 []),.int .i64 vk1,.int .i64 vn1,.string (str8 vs1),.slice a1 n1 c1] 26)
 have kX:=cells8 hcX
 obtain⟨i1,i2,i3,b2,off2,k2,op2,tb2,nm2,vk2,vn2,vs2,ys2,a2,n2,c2,hae2,rfl,_,i7,i8⟩:=args_get0 (h8.new hbX)
 unfold Cells8 at i7
 rw[List.length_nil,Nat.zero_add] at i1
 subst i1
 unfold maxLen at i3
 have HAT:Hid (Calls Tryz.prog 123 #[.agg #[.int .i64 k2,.int .i64 op2,.string (str8 tb2),.string (str8 nm2),.int .i64 vk2,.int .i64 vn2,.string (str8 vs2),.slice a2 n2 c2],.int .i64 5] X fun e w'=>∃u,e = .returned (.tuple #[u,.int .i64 ((atD 4 a.lv a.dp:Nat):Int)])∧Row X.heap.size w' u (atK 4 a.lv a.tk)∧Below X.heap.size X w'):=hid (at_of 4 a hok (by decide) hA S _ X ⟨k2,op2,tb2,nm2,vk2,vn2,vs2,ys2,a2,n2,c2,hae2,rfl,i8⟩ (by omega) hD')
 have HBX:Hid (Below w.heap.size w X):=hid (HB.out.trans (hbX.mono HB.out.size))
 show Calls Tryz.prog 58 _ w fun e w'=>∃u,e = .returned (.tuple #[u,.int .i64 ((atD 4 a.lv a.dp:Nat):Int)])∧Row w.heap.size w' u (atK 4 a.lv a.tk++[isK,notK,nulK])∧_
 clear hbW hcW ha hA hok hT hD hD' hae2 h8 i8 h7W HXV hbX hcX
 generalize ((atD 4 a.lv a.dp:Nat):Int)=D at HAT ⊢
 generalize atK 4 a.lv a.tk=T at HAT hT' ⊢
 go_enter Tryz.func58,Tryz.ntmps58
 go_wp2_with fail
 try rw[hX]
 refine HAT.out.mono ?_
 rintro e w1 ⟨u,rfl,hu,hb1⟩
 have HU:=hid hu
 have HB1:Hid (Below X.heap.size X w1):=hid hb1
 clear hu hb1 HAT hX
 go_wp2_with fail
 refine (jword_any ⟨#[73,83]⟩ w1).mono ?_
 rintro e w2 ⟨rfl,hb2⟩
 have HU2:=hid (HU.out.on hb2)
 have HB2:Hid (Below X.heap.size X w2):=hid (HB1.out.trans (hb2.mono HB1.out.size))
 clear hb2 HU
 go_wp2_with fail
 refine (jword_any ⟨#[78,79,84]⟩ w2).mono ?_
 rintro e w3 ⟨rfl,hb3⟩
 have HU3:=hid (HU2.out.on hb3)
 have HB3:Hid (Below X.heap.size X w3):=hid (HB2.out.trans (hb3.mono HB2.out.size))
 clear hb3 HU2
 go_wp2_with fail
 refine (jword_any ⟨#[78,85,76,76]⟩ w3).mono ?_
 rintro e w4 ⟨rfl,hb4⟩
 have HU4:=hid (HU3.out.on hb4)
 have HB4:Hid (Below X.heap.size X w4):=hid (HB3.out.trans (hb4.mono HB3.out.size))
 clear hb4 HU3
 obtain⟨U,hU,hbU,hzU,_,hcU⟩:=new_toks w4 [isK,notK,nulK] #[.int .i64 2,.string ⟨#[73,83]⟩,.int .i64 0,.int .i64 0,.int .i64 2,.string ⟨#[78,79,84]⟩,.int .i64 0,.int .i64 0,.int .i64 2,.string ⟨#[78,85,76,76]⟩,.int .i64 0,.int .i64 0] rfl (by simp)
 have hr:=HU4.out.on hbU
 have hBU:Below X.heap.size X U:=HB4.out.trans (hbU.mono HB4.out.size)
 have hsU:=hBU.size
 have HBU:=hid hBU
 have hlT:T.length+[isK,notK,nulK].length≤1000000000:=by simp;omega
 clear HU4 hbU hBU
 go_wp2_with (first
  | (
   at_builtin;refine wpList_row _ (by rfl) (.tmp 118) (.tmp 122) rfl X.heap.size _ T [isK,notK,nulK] rfl hr w4.heap.size 0 3 rfl hcU hlT hsU ?_;intro v6 w6 hr6 hg6 hb6
   have HR6:=hid hr6
   have HB6:Hid (Below X.heap.size X w6):=hid (HBU.out.trans (hb6.mono (Nat.le_refl _)))
   clear hr6 hg6 hb6 hr hcU hU)
  | fail)
 exact bodyPost_ret (v:=.tuple #[v6,.int .i64 D]) (by simp[results,Tryz.results58,go_sem]) rfl ⟨v6,rfl,HR6.out.mono HBX.out.size,HBX.out.trans (HB6.out.mono HBX.out.size)⟩
theorem jt_not (a:Tm) (hok:a.ok) (hn:a.isNul=false) (hA:JX a):JX (.not a):=fun S v w hx hT hD=>by
 have HXV:=hid hx
 obtain⟨k,op,tb,nm,vk,vn,vs,ys,aa,nn,cc,he,rfl,ha⟩:=hx
 obtain⟨W,hW,hbW,hzW,hcW⟩:=box8 w (.cells #[.int .i64 k,.int .i64 op,.string (str8 tb),.string (str8 nm),.int .i64 vk,.int .i64 vn,.string (str8 vs),.slice aa nn cc] 26)
 have k0:=cells8 hcW
 have HB:=hid hbW
 have HC:=hid hcW
 simp only[Tm.ex,exOf,Ex.mk.injEq] at he
 obtain⟨rfl,rfl,rfl,rfl,-,rfl⟩:=he
 have hT':(atK 2 a.lv a.tk).length+1≤100000000:=by simpa [Tm.tk] using hT
 have hD':atD 2 a.lv a.dp+1≤1000000:=hD
 have h6:exKind a.ex≠6:=kind_isNul a hn
 obtain⟨h1,h2,h3,b,off,k1,op1,tb1,nm1,vk1,vn1,vs1,ys1,a1,n1,c1,hae,rfl,_,h7,h8⟩:=args_get0 (ha.new hbW)
 have h7W:=h7
 unfold Cells8 at h7
 rw[List.length_nil,Nat.zero_add] at h1
 subst h1
 unfold maxLen at h3
 have h6':(k1==6)=false:=by
  rw[hae] at h6
  rw[beq_eq_false_iff_ne]
  exact h6
 obtain⟨X,hX,hbX,hzX,hcX⟩:=box8 W (.cells #[.int .i64 k1,.int .i64 op1,.string (str8 tb1),.string (str8 nm1),.int .i64 vk1,.int .i64 vn1,.string (str8 vs1),.slice a1 n1 c1] 26)
 have kX:=cells8 hcX
 have HAT:Hid (Calls Tryz.prog 123 #[.agg #[.int .i64 k1,.int .i64 op1,.string (str8 tb1),.string (str8 nm1),.int .i64 vk1,.int .i64 vn1,.string (str8 vs1),.slice a1 n1 c1],.int .i64 3] X fun e w'=>∃u,e = .returned (.tuple #[u,.int .i64 ((atD 2 a.lv a.dp:Nat):Int)])∧Row X.heap.size w' u (atK 2 a.lv a.tk)∧Below X.heap.size X w'):=hid (at_of 2 a hok (by decide) hA S _ X ⟨k1,op1,tb1,nm1,vk1,vn1,vs1,ys1,a1,n1,c1,hae,rfl,h8.new hbX⟩ (by omega) (by omega))
 have HBX:Hid (Below w.heap.size w X):=hid (HB.out.trans (hbX.mono HB.out.size))
 have hne:atK 2 a.lv a.tk≠[]:=fun h=>by
  have q1:=(atK_len 2 a.lv a.tk).1
  have q2:=(tk_len a).1
  rw[h,List.length_nil] at q1
  omega
 show Calls Tryz.prog 58 _ w fun e w'=>∃u,e = .returned (.tuple #[u,.int .i64 ((atD 2 a.lv a.dp+1:Nat):Int)])∧Row w.heap.size w' u (notK::atK 2 a.lv a.tk)∧_
 have hdw:IntKind.i64.wrap (((atD 2 a.lv a.dp:Nat):Int)+1)=((atD 2 a.lv a.dp+1:Nat):Int):=by rw[IntKind.wrap_i64];omega
 have hdw2:wrap64 (((atD 2 a.lv a.dp:Nat):Int)+1)=((atD 2 a.lv a.dp+1:Nat):Int):=by simp only[wrap64];omega
 clear hbW hcW ha hA hok hT hD hD' hae h8 h7W HXV hbX hcX h6 hn
 generalize ((atD 2 a.lv a.dp+1:Nat):Int)=D' at hdw hdw2 ⊢
 generalize ((atD 2 a.lv a.dp:Nat):Int)=D at HAT hdw hdw2
 generalize atK 2 a.lv a.tk=T at HAT hT' hne ⊢
 go_enter Tryz.func58,Tryz.ntmps58
 go_wp2_with fail
 try rw[hX]
 refine HAT.out.mono ?_
 rintro e w1 ⟨u,rfl,hu,hb1⟩
 obtain⟨g,c,rfl,hg1,hg2,hcu⟩:=hu.some hne
 have HCU:=hid hcu
 have HB1:Hid (Below X.heap.size X w1):=hid hb1
 clear hu hb1 HAT hX hcu
 go_wp2_with fail
 refine (jword_any ⟨#[78,79,84]⟩ w1).mono ?_
 rintro e w2 ⟨rfl,hb2⟩
 have HCU2:=hid (HCU.out.on hne hb2)
 have HB2:Hid (Below X.heap.size X w2):=hid (HB1.out.trans (hb2.mono HB1.out.size))
 clear hb2 HCU
 obtain⟨U,hU,hbU,hzU,hrU,_⟩:=new_toks w2 [notK] #[.int .i64 2,.string ⟨#[78,79,84]⟩,.int .i64 0,.int .i64 0] rfl (by simp)
 have hcuU:=HCU2.out.on hne hbU
 have hsU:w2.heap.size≤U.heap.size:=Nat.le_of_lt hzU
 have HBU:Hid (Below X.heap.size X U):=hid (HB2.out.trans (hbU.mono HB2.out.size))
 have hlT:[notK].length+T.length≤1000000000:=by simp;omega
 clear HCU2 hbU
 go_wp2_with (first
  | (
   at_builtin;refine wpList_row _ (by rfl) (.tmp 131) (.tmp 132) rfl w2.heap.size _ [notK] T rfl hrU g 0 c rfl hcuU hlT hsU ?_;intro v6 w6 hr6 hg6 hb6
   have HR6:=hid hr6
   have HB6:Hid (Below X.heap.size X w6):=hid (HBU.out.trans (hb6.mono HB2.out.size))
   clear hr6 hg6 hb6 hcuU hrU hU)
  | fail)
 refine bodyPost_ret (v:=.tuple #[v6,.int .i64 D']) (by simp[results,Tryz.results58,go_sem,hdw,hdw2]) rfl ⟨v6,rfl,?_,HBX.out.trans (HB6.out.mono HBX.out.size)⟩
 exact HR6.out.mono (Nat.le_trans HBX.out.size HB2.out.size)
end Go.Proofs.YtnidnipiihhnaaaGreatDoor
