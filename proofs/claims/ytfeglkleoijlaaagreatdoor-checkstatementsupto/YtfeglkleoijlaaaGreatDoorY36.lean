import Derived.Test.YtfeglkleoijlaaaGreatDoorY35
import Derived.Test.YtfeglkleoijlaaaGreatDoorChecked
import Derived.Test.YtfeglkleoijlaaaGreatDoorY22
import Derived.Test.YtfeglkleoijlaaaGreatDoorY24
namespace Go.Proofs.YtfeglkleoijlaaaGreatDoor
open Go.RowKit Go.Shelf
set_option linter.unusedSimpArgs false
set_option linter.unusedVariables false
set_option maxRecDepth 20000
set_option maxHeartbeats 8000000
def smA:Ex:=.mk 3 3 [] [] zV [.mk 2 0 [117] [107] zV [],.mk 2 0 [] [115] zV []]
def Vy:Ex:=.mk 2 0 [] [105,100] zV []
def VH:Ex:=.mk 2 0 [] [122,122] zV []
def Vw:Ex:=.mk 3 9 [] [] zV [.mk 2 0 [] [110] zV [],.mk 2 0 [] [115] zV []]
theorem Ac (tb nm:List UInt8) (h1:tb.length≤1000) (h2:nm.length≤1000):mO (.mk 2 0 tb nm zV []):=.mk _ _ _ _ _ _ (by decide) (by decide) (by decide) (by omega) (by omega) (fun x hx=>by cases hx)
theorem Rh (op:Int) (a b:Ex) (ha:mO a) (hb:mO b):mO (.mk 3 op [] [] zV [a,b]):=.mk _ _ _ _ _ _ (by decide) (by decide) (by decide) (by decide) (by decide) (fun x hx=>by
 simp only[abg,List.not_mem_nil,or_false] at hx
 rcases hx with rfl | rfl
 ·exact ha
 ·exact hb)
theorem Au {tb nm:List UInt8} (h:((aU nm&&(decide (tb=[])||aU tb))&&(decide ((0:Int)=0)&&eqv zV zV&&decide (([]:List Ex).length=0)))=true):aF (.mk 2 0 tb nm zV [])=true:=by
 rw[lW,if_neg (by decide),if_pos rfl]
 exact h
theorem Sb {op:Int} {a b:Ex} (h1:1≤op∧op≤13) (ha:aF a=true) (hb:aF b=true):aF (.mk 3 op [] [] zV [a,b])=true:=by
 rw[lW,if_neg (by decide),if_neg (by decide),if_pos rfl,aar h1,G5]
 simp[ha,hb]
theorem rtA:aF smA=true:=Sb (by decide) (Au (by decide)) (Au (by decide))
theorem rtB:aF Vy=true:=Au (by decide)
theorem rtC:aF VH=true:=Au (by decide)
theorem rtD:aF Vw=true:=Sb (by decide) (Au (by decide)) (Au (by decide))
theorem rgA:mO smA:=Rh _ _ _ (Ac _ _ (by decide) (by decide)) (Ac _ _ (by decide) (by decide))
theorem rgB:mO Vy:=Ac _ _ (by decide) (by decide)
theorem rgC:mO VH:=Ac _ _ (by decide) (by decide)
theorem rgD:mO Vw:=Rh _ _ _ (Ac _ _ (by decide) (by decide)) (Ac _ _ (by decide) (by decide))
theorem IU (L:List Tb) (tb nm:List UInt8):aI L (.mk 2 0 tb nm zV [])=AU L tb nm:=by
 rw[jF,if_neg (by simp[aO]),if_neg (by decide),if_pos rfl]
theorem bdA:iP iw smA=(.mk 3 3 [] [] zV [.mk 2 0 [] [] ⟨1,4,[]⟩ [],.mk 2 0 [] [] ⟨1,2,[]⟩ []],1,0):=by
 unfold iP
 rw[if_pos rtA]
 unfold smA
 rw[jF]
 simp only[List.map_cons,List.map_nil,IU]
 kernel_rfl
theorem bdB:iP iw Vy=(tO,0,13):=by
 unfold iP
 rw[if_pos rtB]
 unfold Vy
 rw[IU]
 kernel_rfl
theorem bdC:iP iw VH=(tO,0,12):=by
 unfold iP
 rw[if_pos rtC]
 unfold VH
 rw[IU]
 kernel_rfl
theorem bdD:iP iw Vw=(tO,0,9):=by
 unfold iP
 rw[if_pos rtD]
 unfold Vw
 rw[jF]
 simp only[List.map_cons,List.map_nil,IU]
 kernel_rfl
theorem szA:pX smA≤1000000:=Nat.le_trans (pJ rtA (by kernel_rfl)) (by decide)
theorem szB:pX Vy≤1000000:=Nat.le_trans (pJ rtB (by kernel_rfl)) (by decide)
theorem szC:pX VH≤1000000:=Nat.le_trans (pJ rtC (by kernel_rfl)) (by decide)
theorem szD:pX Vw≤1000000:=Nat.le_trans (pJ rtD (by kernel_rfl)) (by decide)
theorem II (S:Nat→Prop) (tb nm:List UInt8) (w:World):gH S w (.mk 2 0 tb nm zV []) (.agg (colE (aj tb) (aj nm))):=⟨2,0,tb,nm,0,0,[],[],none,0,0,rfl,rfl,.nil none 0 (by unfold maxLen;omega)⟩
theorem Hz (op:Int) (t1 n1 t2 n2:List UInt8) (b:Nat) (w:World) (hb:w.heap[b]?=some (.cells #[.int .i64 2,.int .i64 0,.string (aj t1),.string (aj n1),.int .i64 0,.int .i64 0,.string ⟨#[]⟩,.slice none 0 0,.int .i64 2,.int .i64 0,.string (aj t2),.string (aj n2),.int .i64 0,.int .i64 0,.string ⟨#[]⟩,.slice none 0 0] 48)) :
  gH (fun _=>True) w (.mk 3 op [] [] zV [.mk 2 0 t1 n1 zV [],.mk 2 0 t2 n2 zV []]) (.agg #[.int .i64 3,.int .i64 op,.string ⟨#[]⟩,.string ⟨#[]⟩,.int .i64 0,.int .i64 0,.string ⟨#[]⟩,.slice (some ⟨b,0,none⟩) 2 2]) :=
 ⟨3,op,[],[],0,0,[],_,_,2,2,rfl,rfl,NU (vs:=[]) (vs2:=[]) trivial hb (.nil none 0 (by unfold maxLen;omega)) (.nil none 0 (by unfold maxLen;omega))⟩
theorem qx {S:Nat→Prop} {w:World} {x:Ex} {v:Value} (h:gH S w x v):∃k op tb nm vk vn vs aa nn cc,v = .agg #[.int .i64 k,.int .i64 op,.string (aj tb),.string (aj nm),.int .i64 vk,.int .i64 vn,.string (aj vs),.slice aa nn cc]:=by
 obtain⟨k,op,tb,nm,vk,vn,vs,ys,aa,nn,cc,_,rfl,_⟩:=h
 exact⟨k,op,tb,nm,vk,vn,vs,aa,nn,cc,rfl⟩
theorem Eh (w:World) (hV:zm w) (hO:Ak w) (h8:7<w.heap.size):Calls Tryz.prog 5 #[] w fun e w'=>e = .returned (.bool true)∧Below w.heap.size w w':=by
 have HT:Hid (∀V,Below w.heap.size w V→10<V.heap.size→iL V):=hid (fun V hb hz=>⟨hV.below hb (by omega),fun o ho=>⟨(hb.cell (p:=⟨0,o*2,none⟩) (by show 0<w.heap.size;omega)).trans (hO o ho).1,(hb.cell (p:=⟨0,o*2+1,none⟩) (by show 0<w.heap.size;omega)).trans (hO o ho).2⟩,hz⟩)
 clear hV hO
 go_enter Tryz.func5,Tryz.ntmps5
 go_wp2_with fail
 refine (tH w).mono ?_
 rintro e w1 ⟨la,lc,css,rfl,ho,he,_,_,hz1,hb1⟩
 have HL:Hid (∀V,Below w1.heap.size w1 V→aM 3 fG (fun b=>w.heap.size≤b) V iw (.slice la 2 lc)):=hid (fun V hV=>(aM.iM (by decide) ho he (fun b hb=>(ho.lt b hb).1)).to (by decide) (R:=fun _=>False) (ak.aA hV) (fun b hb _=>⟨id,hb⟩) (fun _ _ e=>e.to (R:=fun _=>False) (ak.aA hV) (fun b hb _=>⟨id,hb⟩)))
 have HB1:=hid hb1
 have Cg:10<w1.heap.size:=by omega
 clear ho he hb1 hz1
 have X3:Hid (Below w1.heap.size w1 w1):=hid (Below.refl _ _)
 go_wp2_with fail
 refine (lQ _ _ w1).mono ?_
 rintro e v1 ⟨rfl,hb⟩
 have Si:=hid hb
 clear hb
 go_wp2_with fail
 refine (lQ _ _ v1).mono ?_
 rintro e v2 ⟨rfl,hb⟩
 have R5:=htr Si hb
 clear hb
 obtain⟨v3,hv3,Xy,ah4,Wd⟩:=aK v2 (.cells #[.int .i64 2,.int .i64 0,.string ⟨#[117]⟩,.string ⟨#[107]⟩,.int .i64 0,.int .i64 0,.string ⟨#[]⟩,.slice none 0 0,.int .i64 2,.int .i64 0,.string ⟨#[]⟩,.string ⟨#[115]⟩,.int .i64 0,.int .i64 0,.string ⟨#[]⟩,.slice none 0 0] 48)
 have EM:=htr R5 Xy
 have gP:=hid (Hz 3 [117] [107] [] [115] v2.heap.size v3 Wd)
 clear Xy Wd
 go_wp2_with fail
 try rw[hv3]
 have QF:=hid (jH (fun b=>w.heap.size≤b) (fun _=>True) iw smA (.slice la 2 lc) _ v3 (HT.out v3 (HB1.out.trans (EM.out.mono HB1.out.size)) (aa7 Cg EM.out.size)) rgA gP.out (HL.out v3 EM.out) wJ (by decide) (fun _=>szA))
 rw[bdA] at QF
 dsimp only at QF
 go_wp2_with fail
 refine QF.out.mono ?_
 rintro e u1a ⟨u,rfl,hxu,hb⟩
 have Qp:=hxu
 obtain⟨k2,op2,bX,eH,dS,dU,vs2,dR,dY,dP,rfl⟩:=qx hxu
 obtain⟨u1,hY,bV,kL,dJ⟩:=aK u1a (.cells #[.int .i64 k2,.int .i64 op2,.string (aj bX),.string (aj eH),.int .i64 dS,.int .i64 dU,.string (aj vs2),.slice dR dY dP] 48)
 have Ni:=htr EM hb
 have xV:=htr Ni bV
 obtain⟨k3,op3,Ry,nm3,vk3,vn3,vs3,ys3,aa3,nn3,cc3,gT,Iq,YZ⟩:=Qp
 simp only[Value.agg.injEq,Array.mk.injEq,List.cons.injEq,aah,and_true] at Iq
 obtain⟨_,_,_,_,_,_,_,rfl,rfl,rfl⟩:=Iq
 obtain rfl:=(Ex.mk.inj gT).2.2.2.2.2
 have HAS:=hid (eZ (YZ.to (T:=fun _=>True) (R:=fun _=>False) (ak.aA bV) (fun b hb _=>⟨id,trivial⟩)))
 have HP:=hid dJ
 obtain⟨p2,hp2⟩:∃p,u1a.heap.size=p:=⟨_,rfl⟩
 rw[hp2] at HP
 clear YZ gT
 clear hxu hb bV dJ QF
 go_wp2_with (first | (refine eX hY ?_;clear hY) | fail)
 try rw[hp2]
 have ac7:=World.lt_of_block HP.out
 clear hp2
 have hnn:dY=2:=by obtain⟨_,_,hf⟩:=HAS.out.form;simp only[aah] at hf;exact hf.2.1
 subst hnn
 have HF:Hid (∀V,Below u1.heap.size u1 V→V.heap[p2]?=some (.cells #[.int .i64 k2,.int .i64 op2,.string (aj bX),.string (aj eH),.int .i64 dS,.int .i64 dU,.string (aj vs2),.slice dR 2 dP] 48)∧aM 8 jl (fun _=>True) V [.mk 2 0 [] [] ⟨1,4,[]⟩ [],.mk 2 0 [] [] ⟨1,2,[]⟩ []] (.slice dR 2 dP)):=hid (fun V hV=>⟨(hV.block _ ac7).trans HP.out,HAS.out.to (by decide) (R:=fun _=>False) (ak.aA hV) (fun b hb _=>⟨id,hb⟩) (fun _ _ e=>e.to (R:=fun _=>False) (ak.aA hV) (fun b hb _=>⟨id,hb⟩))⟩)
 have HL2:=hid (fun (V:World) (hV:Below u1.heap.size u1 V)=>HL.out V (xV.out.trans (hV.mono xV.out.size)))
 have HB2:=hid (HB1.out.trans (xV.out.mono HB1.out.size))
 have Xw:10<u1.heap.size:=aa7 Cg xV.out.size
 clear HL HB1 Cg HP HAS X3 Si R5 EM Ni xV gP
 have HL:=HL2
 have HB1:=HB2
 have Cg:=Xw
 have xV:Hid (Below u1.heap.size u1 u1):=hid (Below.refl _ _)
 clear HL2 HB2 Xw
 refine (lQ _ _ u1).mono ?_
 rintro e v4 ⟨rfl,hb⟩
 have Hr:=htr xV hb
 clear hb
 have Pk:=hid (jH (fun b=>w.heap.size≤b) (fun _=>True) iw Vy (.slice la 2 lc) _ v4 (HT.out v4 (HB1.out.trans (Hr.out.mono HB1.out.size)) (aa7 Cg Hr.out.size)) rgB (II (fun _=>True) [] [105,100] v4) (HL.out v4 Hr.out) wJ (by decide) (fun _=>szB))
 rw[bdB] at Pk
 dsimp only at Pk
 go_wp2_with fail
 refine Pk.out.mono ?_
 rintro e u2a ⟨u,rfl,hxu,hb⟩
 obtain⟨k2,op2,bX,eH,dS,dU,vs2,dR,dY,dP,rfl⟩:=qx hxu
 obtain⟨u2,hY,bV,kL,dJ⟩:=aK u2a (.cells #[.int .i64 k2,.int .i64 op2,.string (aj bX),.string (aj eH),.int .i64 dS,.int .i64 dU,.string (aj vs2),.slice dR dY dP] 48)
 have Us:=htr Hr hb
 have XV:=htr Us bV
 clear hxu hb bV dJ Pk
 go_wp2_with (first | (refine eX hY ?_;clear hY) | fail)
 refine (lQ _ _ u2).mono ?_
 rintro e v5 ⟨rfl,hb⟩
 have IZ:=htr XV hb
 clear hb
 have PU:=hid (jH (fun b=>w.heap.size≤b) (fun _=>True) iw VH (.slice la 2 lc) _ v5 (HT.out v5 (HB1.out.trans (IZ.out.mono HB1.out.size)) (aa7 Cg IZ.out.size)) rgC (II (fun _=>True) [] [122,122] v5) (HL.out v5 IZ.out) wJ (by decide) (fun _=>szC))
 rw[bdC] at PU
 dsimp only at PU
 go_wp2_with fail
 refine PU.out.mono ?_
 rintro e u3a ⟨u,rfl,hxu,hb⟩
 obtain⟨k2,op2,bX,eH,dS,dU,vs2,dR,dY,dP,rfl⟩:=qx hxu
 obtain⟨u3,hY,bV,kL,dJ⟩:=aK u3a (.cells #[.int .i64 k2,.int .i64 op2,.string (aj bX),.string (aj eH),.int .i64 dS,.int .i64 dU,.string (aj vs2),.slice dR dY dP] 48)
 have Sv:=htr IZ hb
 have VX:=htr Sv bV
 clear hxu hb bV dJ PU
 go_wp2_with (first | (refine eX hY ?_;clear hY) | fail)
 refine (lQ _ _ u3).mono ?_
 rintro e v6 ⟨rfl,hb⟩
 have WX:=htr VX hb
 clear hb
 go_wp2_with fail
 refine (lQ _ _ v6).mono ?_
 rintro e v7 ⟨rfl,hb⟩
 have Y9:=htr WX hb
 clear hb
 obtain⟨v8,U7,X8,afv,XY⟩:=aK v7 (.cells #[.int .i64 2,.int .i64 0,.string ⟨#[]⟩,.string ⟨#[110]⟩,.int .i64 0,.int .i64 0,.string ⟨#[]⟩,.slice none 0 0,.int .i64 2,.int .i64 0,.string ⟨#[]⟩,.string ⟨#[115]⟩,.int .i64 0,.int .i64 0,.string ⟨#[]⟩,.slice none 0 0] 48)
 have I6:=htr Y9 X8
 have TR:=hid (Hz 9 [] [110] [] [115] v7.heap.size v8 XY)
 clear X8 XY
 go_wp2_with fail
 try rw[U7]
 have QE:=hid (jH (fun b=>w.heap.size≤b) (fun _=>True) iw Vw (.slice la 2 lc) _ v8 (HT.out v8 (HB1.out.trans (I6.out.mono HB1.out.size)) (aa7 Cg I6.out.size)) rgD TR.out (HL.out v8 I6.out) wJ (by decide) (fun _=>szD))
 rw[bdD] at QE
 dsimp only at QE
 go_wp2_with fail
 refine QE.out.mono ?_
 rintro e u4a ⟨u,rfl,hxu,hb⟩
 obtain⟨k2,op2,bX,eH,dS,dU,vs2,dR,dY,dP,rfl⟩:=qx hxu
 obtain⟨u4,hY,bV,kL,dJ⟩:=aK u4a (.cells #[.int .i64 k2,.int .i64 op2,.string (aj bX),.string (aj eH),.int .i64 dS,.int .i64 dU,.string (aj vs2),.slice dR dY dP] 48)
 have UO:=htr I6 hb
 have RL:=htr UO bV
 clear hxu hb bV dJ QE
 obtain⟨hp4,hs4⟩:=HF.out u4 RL.out
 have kP:=aG hp4
 have iC:=hid (HB1.out.trans (RL.out.mono HB1.out.size))
 obtain⟨hl1,hl2,hl3,b,off,ds,rfl,_,hel,hcell⟩:=bC hs4 (j:=0) rfl
 clear hl1 hl2 hl3
 obtain⟨_,_,_,_,_,_,_,_,_,_,_,hx1,rfl,_⟩:=hel
 have e1:=(Ex.mk.inj hx1).2.2.2.2.1
 injection e1 with e10 e1 e11
 clear e10 e11
 subst e1
 have q0:=hcell 5 _ rfl
 obtain⟨hl1,hl2,hl3,b',off',ds,hbb,_,hel,hcell'⟩:=bC hs4 (j:=1) rfl
 clear hl1 hl2 hl3
 injection hbb with hbb
 injection hbb with hb1 hb2
 subst hb1 hb2
 obtain⟨_,_,_,_,_,_,_,_,_,_,_,hx2,rfl,_⟩:=hel
 have e2:=(Ex.mk.inj hx2).2.2.2.2.1
 injection e2 with e20 e2 e21
 clear e20 e21
 subst e2
 have q1:=hcell' 5 _ rfl
 simp only[Nat.zero_mul,Nat.one_mul,aa2,Nat.add_assoc,Nat.reduceAdd] at q0 q1
 clear hcell hcell' hs4 hx1 hx2 hp4 HF HL
 go_wp2_with (first | (refine eX hY ?_;clear hY) | fail)
 go_ret
 exact⟨rfl,iC.out⟩
open Go.Lib Go.Sort
theorem wV : ∀a:List UInt8,Op.bytesLess a a=false
 | []=>rfl
 |
  x::a=>by
  unfold Op.bytesLess
  simp[wV a]
theorem Cn : ∀a b c:List UInt8,Op.bytesLess a b=true→Op.bytesLess b c=true→Op.bytesLess a c=true
 | [],[],_,h,_=>by simp[Op.bytesLess] at h
 | _::_,[],_,h,_=>by simp[Op.bytesLess] at h
 | _,_::_,[],_,h=>by simp[Op.bytesLess] at h
 | [],b::ms,c::cs,_,_=>by simp[Op.bytesLess]
 |
  a::ls,b::ms,c::cs,h1,h2=>by
  simp only[Op.bytesLess,Bool.or_eq_true,aaC,aaI,beq_iff_eq] at h1 h2 ⊢
  rcases h1 with h1 | ⟨rfl,h1⟩
  ·rcases h2 with h2 | ⟨rfl,h2⟩
   ·exact .inl (UInt8.lt_trans h1 h2)
   ·exact .inl h1
  ·rcases h2 with h2 | ⟨rfl,h2⟩
   ·exact .inl h2
   ·exact .inr ⟨rfl,Cn ls ms cs h1 h2⟩
theorem Eo : ∀a b:List UInt8,Op.bytesLess a b=false→Op.bytesLess b a=false→a=b
 | [],[],_,_=>rfl
 | [],_::_,h,_=>by simp[Op.bytesLess] at h
 | _::_,[],_,h=>by simp[Op.bytesLess] at h
 |
  a::ls,b::ms,h1,h2=>by
  simp only[Op.bytesLess,Bool.or_eq_false_iff,Bool.and_eq_false_iff,decide_eq_false_iff_not,aai] at h1 h2
  have e:a=b:=by
   apply UInt8.le_antisymm
   ·exact UInt8.not_lt.1 h2.1
   ·exact UInt8.not_lt.1 h1.1
  subst e
  rw[Eo ls ms (by rcases h1.2 with h | h;exact absurd rfl h;exact h) (by rcases h2.2 with h | h;exact absurd rfl h;exact h)]
open Go.Maps
theorem Tryz.Bb:(Tryz.prog.info? 42).map (fun i=>(i.zero,i.size,i.bytes))=some (some (.agg #[.string ⟨#[]⟩,.slice none 0 0,.int .i64 0]),3,48):=by kernel_rfl
end Go.Proofs.YtfeglkleoijlaaaGreatDoor
namespace Go.Proofs.YtfeglkleoijlaaaGreatDoor
open Go.RowKit Go.Shelf Go.Lib
set_option linter.unusedSimpArgs false
set_option linter.unusedVariables false
set_option maxRecDepth 20000
set_option maxHeartbeats 8000000
def xH (a b:Tb):Bool:=decide (a.nm=b.nm)&&(decide (a.pr=b.pr)&&Lib.allEq tV a.aC b.aC)
theorem Aw (a b:Tb):xH a b=true↔a=b:=by
 obtain⟨a1,a2,a3⟩:=a
 obtain⟨b1,b2,b3⟩:=b
 unfold xH
 rw[aaC,aaC,aaI,aaI,lS]
 simp only[Tb.mk.injEq]
 exact⟨fun ⟨h1,h2,h3⟩=>⟨h1,h3,h2⟩,fun ⟨h1,h2,h3⟩=>⟨h1,h3,h2⟩⟩
theorem JY {xs ys:List Co} {j:Nat} {x y:Co} (hx:xs[j]?=some x) (hy:ys[j]?=some y) (h:tV x y=false):Lib.allEq tV xs ys=false:=by
 cases e:Lib.allEq tV xs ys with
 | false=>rfl
 |
  true =>
  have:=(lS xs ys).1 e
  subst this
  rw[hx] at hy
  injection hy with hy
  rw[(Cq x y).2 hy] at h
  cases h
theorem Es (S T:Nat→Prop) (a b:Tb) (cs ds:List Value) (w:World) (ha:fG S w a cs) (hb:fG T w b ds) :
  Calls Tryz.prog 87 #[.agg cs.toArray,.agg ds.toArray] w fun e w'=>e = .returned (.bool (xH a b))∧Below w.heap.size w w':=by
 obtain⟨a1,n1,c1,rfl,hsa⟩:=ha
 obtain⟨a2,n2,c2,rfl,hsb⟩:=hb
 have hn1:n1=a.aC.length:=by obtain⟨_,_,hf⟩:=hsa.form;simp only[aah] at hf;exact hf.2.1
 have hn2:n2=b.aC.length:=by obtain⟨_,_,hf⟩:=hsb.form;simp only[aah] at hf;exact hf.2.1
 obtain⟨SL,xs,U2⟩:=a
 obtain⟨Ui,ys,Vz⟩:=b
 dsimp only at hsa hsb hn1 hn2 ⊢
 subst hn1 hn2
 obtain⟨W,hW,hbW,aJ,hcA,hcB⟩:=two w (.cells #[.string (aj SL),.slice a1 xs.length c1,.int .i64 U2] 42) (.cells #[.string (aj Ui),.slice a2 ys.length c2,.int .i64 Vz] 42)
 have kA:=aH hcA
 have kB:=aH hcB
 have dw:=hid hcA
 have nP:=hid hcB
 have HB:=hid hbW
 have hgd:=Tryz.yx
 have hsame:xH ⟨SL,xs,U2⟩ ⟨Ui,ys,Vz⟩=(decide (SL=Ui)&&(decide (U2=Vz)&&Lib.allEq tV xs ys)):=rfl
 rw[hsame]
 have hnm:((aj SL).toList==(aj Ui).toList)=decide (SL=Ui):=by
  rw[aS,aS]
  by_cases h:SL=Ui<;>simp[h]
 by_cases h1:SL=Ui
 ·rw[aar h1,aaA]
  rw[aar h1] at hnm
  by_cases h2:U2=Vz
  ·have h2':(U2 != Vz)=false:=by simp[h2]
   rw[aar h2,aaA]
   by_cases h3:xs.length=ys.length
   ·have h3':((xs.length:Int) != (ys.length:Int))=false:=by simp[h3]
    by_cases hne:xs=[]
    ·subst hne
     have hy0:ys=[]:=aaR (by rw[← h3];rfl)
     subst hy0
     simp only[List.length_nil] at hW kA kB
     clear h1 h2 h3 h3' hsame hbW hcA hcB hsa hsb dw nP
     go_enter Tryz.func87,Tryz.ntmps87
     go_wp2_with fail
     go_rounds 1
     go_ret
     try rw[hW]
     exact⟨rfl,HB.out⟩
    ·have Xu:ys≠[]:=fun e=>hne (aaR (by rw[h3,e];rfl))
     obtain⟨b1,o1,d1,e1,ahB,hcm1,_,hlt1,QW⟩:=iX hsa hne
     obtain⟨b2,o2,d2,e2,afP,hcm2,_,hlt2,FH⟩:=iX hsb Xu
     simp only[aah] at e1 e2
     obtain⟨rfl,_,rfl⟩:=e1
     obtain⟨rfl,_,rfl⟩:=e2
     unfold maxLen at hcm1 hcm2
     have H1:=hid QW
     have H2:=hid FH
     have hyx:(ys.length:Int)=(xs.length:Int):=by omega
     have Xt:Hid (∀(j:Nat) (x y:Co),xs[j]?=some x→ys[j]?=some y→tV x y=false→Lib.allEq tV xs ys=false):=hid (fun j x y hx hy h=>JY hx hy h)
     have Ws:Hid ((∀(j:Nat) (x y:Co),xs[j]?=some x→ys[j]?=some y→tV x y=true)→Lib.allEq tV xs ys=true):=hid (fun h=>(lS xs ys).2 (List.ext_getElem? (fun j=>by
      rcases Nat.lt_or_ge j xs.length with hj | hj
      ·rw[aaf hj,aaf (by omega)]
       rw[(Cq _ _).1 (h j _ _ (aaf hj) (aaf (by omega)))]
      ·rw[List.getElem?_eq_none hj,List.getElem?_eq_none (by omega)])))
     generalize Lib.allEq tV xs ys=R at Xt Ws ⊢
     have H3:=hid h3
     clear h1 h2 hsame hbW hcA hcB hsa hsb QW FH hne Xu h3
     go_enter Tryz.func87,Tryz.ntmps87
     go_wp2_with fail
     try rw[hW]
     clear hW kA kB
     go_loopw [5] (fun i wr=>∃k:Nat,k≤xs.length∧i = .int .i64 k∧Below W.heap.size W wr∧Hid (∀(j:Nat) (x y:Co),j<k→xs[j]?=some x→ys[j]?=some y→tV x y=true)) (fun i _=>xs.length-(intOf i).toNat)
     case atStart=>exact⟨0,aaV _,rfl,Below.refl _ _,hid (fun j x y h=>absurd h (Nat.not_lt_zero _))⟩
     case round =>
      obtain⟨j,hj,rfl,hbr,Kr⟩:=hrel
      have hsr:=hbr.size
      have kA:=aH ((hbr.block w.heap.size (by omega)).trans dw.out)
      have kB:=aH ((hbr.block (w.heap.size+1) (by omega)).trans nP.out)
      have Ao:=HB.out.trans (hbr.mono HB.out.size)
      have nZ:=hid hbr
      have Sz:=hid Ao
      by_cases hlt:j<xs.length
      ·obtain⟨x,hx⟩:∃x,xs[j]?=some x:=⟨_,aaf hlt⟩
       obtain⟨y,hy⟩:∃y,ys[j]?=some y:=⟨_,aaf (by have:=H3.out;omega)⟩
       have hlt':(j:Int)<(xs.length:Int):=by omega
       have hlty:(j:Int)<(ys.length:Int):=by omega
       have p0:=H1.out wr Ao j x hx 0 _ rfl
       have p1:=H1.out wr Ao j x hx 1 _ rfl
       have p2:=H1.out wr Ao j x hx 2 _ rfl
       have p3:=H1.out wr Ao j x hx 3 _ rfl
       rw[aa2] at p0
       have q0:=H2.out wr Ao j y hy 0 _ rfl
       have q1:=H2.out wr Ao j y hy 1 _ rfl
       have q2:=H2.out wr Ao j y hy 2 _ rfl
       have q3:=H2.out wr Ao j y hy 3 _ rfl
       rw[aa2] at q0
       have hrun:=Ip x y
       have HN:=hid (Xt.out j x y hx hy)
       have HE2:Hid (tV x y=true→∀(m:Nat) (x y:Co),m<j+1→xs[m]?=some x→ys[m]?=some y→tV x y=true):=hid (fun h m u v hm hu hv=>by
        rcases Nat.lt_or_ge m j with h1 | h1
        ·exact Kr.out m u v h1 hu hv
        ·obtain rfl:m=j:=by omega
         rw[hx] at hu
         rw[hy] at hv
         injection hu with hu
         injection hv with hv
         subst hu hv
         exact h)
       clear hbr Ao hx hy Kr hyx
       cases he:tV x y with
       |
        true =>
        rw[he] at hrun
        have Vr:=hid (HE2.out he)
        clear he HE2 HN
        go_wp2_with fail
        go_quiet (fail)
        go_wp2
        go_roundw
        case rel=>exact⟨j+1,by omega,by go_num,by first | exact below_drewN nZ.out nq | exact nZ.out,Vr⟩
        case measure=>simp[intOf];omega
       |
        false =>
        rw[he] at hrun
        obtain rfl:=HN.out he
        clear he HE2 HN
        go_wp2_with fail
        go_quiet (fail)
        go_wp2
        go_ret
        exact⟨rfl,by first | exact below_drewN Sz.out nq | exact Sz.out⟩
      ·have hlt' : ¬(j:Int)<(xs.length:Int):=by omega
       obtain rfl:=Ws.out (fun m x y hx hy=>Kr.out m x y (by have:=(aam.1 hx).1;omega) hx hy)
       clear hbr Ao Kr
       go_wp2
       go_ret
       exact⟨rfl,Sz.out⟩
   ·have h3':((xs.length:Int) != (ys.length:Int))=true:=by simp;omega
    have hR:Lib.allEq tV xs ys=false:=Lib.allEq_len tV xs ys h3
    rw[hR]
    generalize xs.length=n1 at *
    generalize ys.length=n2 at *
    clear h1 h2 h3 hsame hbW hcA hcB hsa hsb hR dw nP
    go_enter Tryz.func87,Tryz.ntmps87
    go_wp2
    go_ret
    exact⟨rfl,HB.out⟩
  ·have h2':(U2 != Vz)=true:=by simpa using h2
   rw[aaj h2,aaz]
   clear h1 h2 hsame hbW hcA hcB hsa hsb dw nP
   go_enter Tryz.func87,Tryz.ntmps87
   go_wp2
   go_ret
   exact⟨rfl,HB.out⟩
 ·rw[aaj h1,aaz]
  rw[aaj h1] at hnm
  clear h1 hsame hbW hcA hcB hsa hsb dw nP
  go_enter Tryz.func87,Tryz.ntmps87
  go_wp2
  go_ret
  exact⟨rfl,HB.out⟩
end Go.Proofs.YtfeglkleoijlaaaGreatDoor
