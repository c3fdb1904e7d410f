/- Packed for the hand-in: CSrc CRead -/
import Derived.Test.YtaaggohjmhifbaaGreatDoorZ47
import Derived.Test.YtaaggohjmhifbaaGreatDoorZ43
namespace Go.Proofs.YtaaggohjmhifbaaGreatDoor
open Go.RowKit Go.Shelf Go.Lib
set_option linter.unusedSimpArgs false
set_option linter.unusedVariables false
set_option maxRecDepth 20000
set_option maxHeartbeats 8000000
theorem zJ {S:Nat→Prop} {w:World} {t:Tb} {aa:Option Addr} {nn cc:Nat} (h:bT 4 jq S w t.cols (.slice aa nn cc)) {nm:List UInt8} (hx:rF t.cols t.pr.toNat=nm):mO S w (cK t) [.int .i64 1,.string (aj t.nm),.slice aa nn cc,.string (aj nm),.slice none 0 0,.slice none 0 0,.slice none 0 0,.string ⟨#[]⟩,.slice none 0 0,.slice none 0 0,.slice none 0 0,.slice none 0 0,.bool false,.int .i64 (-1)]:=by
 have n:aV S w [] (.slice none 0 0):=.nil none 0 (by unfold maxLen;omega)
 refine ⟨aa,none,none,none,none,none,none,none,nn,0,0,0,0,0,0,0,cc,0,0,0,0,0,0,0,?_,h,bT.nil,bT.nil,bT.nil,n,n,n,n⟩
 rw[← hx]
 rfl
def Le (t:Tb):Prop:=t.nm.length≤9223372036854775807∧∀c∈t.cols,c.nm.length≤9223372036854775807
theorem Le.s {t:Tb} (h:Le t):Gp (cK t):=by
 refine ⟨h.1,?_,Nat.zero_le _,(by show (-1:Int)≤_;decide),h.2,(fun x hx=>by cases hx),(fun x hx=>by cases hx),(fun x hx=>by cases hx),(fun x hx=>by cases hx),(fun x hx=>by cases hx),(fun x hx=>by cases hx),(fun x hx=>by cases hx)⟩
 show (rF t.cols t.pr.toNat).length≤_
 unfold rF
 cases hc:t.cols[t.pr.toNat]? with
 | none=>simp
 | some c=>exact h.2 c (List.mem_of_getElem? hc)
theorem ShT.rg {t:Tb} (h:ShT t):Le t:=⟨by have:=h.1;omega,fun c hc=>by have:=h.2.2 c hc;omega⟩
theorem DT (S T:Nat→Prop) (xs ys:List Co) (v u:Value) (w:World) (hv:bT 4 jq S w xs v) (hu:bT 4 jq T w ys u) (hx:xs≠[]) (hy:ys≠[]) :
  Calls Tryz.prog 57 #[v,u] w fun e w'=>e = .returned (.bool (Lib.allEq rP xs ys))∧Below w.heap.size w w':=by
 obtain⟨b1,o1,c1,rfl,h1,h2,_,_,hel1⟩:=kI hv hx
 obtain⟨b2,o2,c2,rfl,h3,h4,_,_,hel2⟩:=kI hu hy
 unfold maxLen at h2 h4
 refine (AnyQ.slices_Equal KY 4 Tryz.isAgg37 Tryz.sizeOf37 lF (fun _=>rfl) rP Js b1 o1 xs.length c1 b2 o2 ys.length c2 xs ys w (Nat.le_refl _) (Nat.le_refl _) (by omega) (by omega) (fun j hj i u hu=>hel1 w (Below.refl _ _) j xs[j]! (by rw[getElem!_pos xs j hj];exact List.getElem?_eq_getElem hj) i u hu) (fun j hj i u hu=>hel2 w (Below.refl _ _) j ys[j]! (by rw[getElem!_pos ys j hj];exact List.getElem?_eq_getElem hj) i u hu)).mono ?_
 rintro e w' ⟨rfl,q,rfl⟩
 rw[List.take_length,List.take_length]
 exact⟨rfl,below_drewN (Below.refl _ _) q⟩
theorem Ea {s:St} (h:(dh s).2=0):(dh s).1.cols≠[]:=by
 obtain⟨hk,hr,hn,hi,e⟩:=l9 h
 rw[e]
 intro e2
 have:=fu s.cols (fO s.cols s.prim)
 dsimp only at e2
 rw[e2] at this
 simp at this
 omega
theorem ED (S:Nat→Prop) (t:Tb) (cs:List Value) (w:World) (hT:lV w) (hR:Le t) (h:Es S w t cs) :
  Calls Tryz.prog 33 #[.agg cs.toArray] w fun e w'=>e = .returned (.bool (qG t))∧Below w.heap.size w w':=by
 obtain⟨aa,nn,cc,rfl,hsl⟩:=h
 have hnn:nn=t.cols.length:=by obtain⟨_,_,hf⟩:=hsl.form;simp only[Value.slice.injEq] at hf;exact hf.2.1
 obtain⟨W,hW,hbW,hzW,hcW⟩:=aQ w (.cells #[.string (aj t.nm),.slice aa nn cc,.int .i64 t.pr] 31)
 have k0:=bI hcW
 have HB:=hid hbW
 have HCW:=hid hcW
 by_cases hp:0≤t.pr∧t.pr<t.cols.length
 ·obtain⟨p,hpp⟩:=Int.eq_ofNat_of_zero_le hp.1
  have hpl:p<t.cols.length:=by omega
  obtain⟨x,hx⟩:∃x,t.cols[p]?=some x:=⟨_,List.getElem?_eq_getElem hpl⟩
  have hslW:=hsl.to (T:=S) (by decide) (R:=fun _=>False) (ay.aI hbW) (fun b hb _=>⟨id,hb⟩) (fun _ _ e=>e)
  have HCR:=hid (tT S t.nm t.cols aa nn cc p x W hslW hx)
  have hnm:rF t.cols t.pr.toNat=x.nm:=by rw[hpp,Int.toNat_natCast,uE hpl,(List.getElem?_eq_some_iff.1 hx).2]
  have HMK:Hid (∀V,Below w.heap.size w V→Calls Tryz.prog 10 #[.agg (Ik t.nm x.nm aa nn cc)] V fun e w'=>∃ds:List Value,e = .returned (.tuple #[.agg ds.toArray,.int .i64 (dh (cK t)).2])∧Iq V.heap.size w' (dh (cK t)).1 ds∧Below V.heap.size V w'):=hid (fun V hV=>oC (fun _=>True) (cK t) _ V (hT.on hV) hR.s ((zJ hsl hnm).on hV))
  have hmay:qG t=(decide ((dh (cK t)).2=0)&&Lib.allEq rP (dh (cK t)).1.cols t.cols):=by unfold qG;rw[decide_eq_true hp,Bool.true_and]
  have hmc:=Ea (s:=cK t)
  have HSL:=hid hsl
  have hne:t.cols≠[]:=fun e=>by rw[e] at hpl;exact absurd hpl (Nat.not_lt_zero _)
  have h1 : ¬(p:Int)<0:=by omega
  have h2:(p:Int)<(t.cols.length:Int):=by omega
  have h3 : ¬(t.cols.length:Int)≤(p:Int):=by omega
  rw[hmay]
  generalize dh (cK t)=M at HMK hmc ⊢
  obtain⟨N,e0⟩:=M
  dsimp only at HMK hmc ⊢
  obtain⟨R,hR0⟩:∃R,(decide (e0=0)&&Lib.allEq rP N.cols t.cols)=R:=⟨_,rfl⟩
  rw[hR0]
  have HR0:=hid hR0
  clear hR0
  rw[hpp] at hW HCW k0 ⊢
  clear hmay hnm hx hslW hT hR hbW hcW hp hpp hsl
  subst hnn
  go_enter Tryz.func33,Tryz.ntmps33
  go_wp2_with fail
  try rw[hW]
  refine HCR.out.mono ?_
  rintro e w1 ⟨rfl,hb1⟩
  have hB1:=HB.out.trans (hb1.mono HB.out.size)
  have HM1:=hid (HMK.out w1 hB1)
  have HB1:=hid hB1
  have hs1:=hb1.size
  have HC1:=hid ((hb1.block w.heap.size hzW).trans HCW.out)
  clear hb1 hB1 HCR HMK hW k0
  go_wp2_with fail
  refine HM1.out.mono ?_
  rintro e w2 ⟨ds,rfl,⟨a2,n2,c2,rfl,hown⟩,hb2⟩
  have hs2:=hb2.size
  obtain⟨U,hU,hbU,hzU,hcU⟩:=aQ w2 (.cells #[.string (aj N.nm),.slice a2 n2 c2,.int .i64 N.pr] 31)
  have hBU:Below w.heap.size w U:=(HB1.out.trans (hb2.mono HB1.out.size)).trans (hbU.mono (HB1.out.trans (hb2.mono HB1.out.size)).size)
  have kU:=bI hcU
  have kT:=bI ((hbU.block w.heap.size (by omega)).trans ((hb2.block w.heap.size (by omega)).trans HC1.out))
  have HBU:=hid hBU
  have hownU:=(sJ hown).to (T:=fun _=>True) (by decide) (R:=fun _=>False) (ay.aI hbU) (fun b hb _=>⟨id,trivial⟩) (fun _ _ e=>e)
  have hslU:=HSL.out.to (T:=S) (by decide) (R:=fun _=>False) (ay.aI hBU) (fun b hb _=>⟨id,hb⟩) (fun _ _ e=>e)
  by_cases he:e0=0
  ·subst he
   have HEQ:=hid (DT _ S N.cols t.cols _ _ U hownU hslU (hmc rfl) hne)
   rw[decide_eq_true rfl,Bool.true_and] at HR0
   rw[HR0.out] at HEQ
   clear hownU hslU hbU hb2 hcU hBU hown HM1
   go_wp2_with fail
   try rw[hU]
   refine HEQ.out.mono ?_
   rintro e w3 ⟨rfl,hb3⟩
   have HB3:=hid (HBU.out.trans (hb3.mono HBU.out.size))
   clear hb3 HEQ
   go_wp2
   go_ret
   exact⟨rfl,HB3.out⟩
  ·have he':(e0==0)=false:=by simpa using he
   rw[decide_eq_false he,Bool.false_and] at HR0
   obtain rfl:=HR0.out
   clear hownU hslU hbU hb2 hcU hBU hown HM1 he
   go_wp2
   try rw[hU]
   go_ret
   exact⟨rfl,HBU.out⟩
 ·have hm:qG t=false:=by unfold qG;rw[decide_eq_false hp,Bool.false_and]
  rw[hm]
  subst hnn
  generalize t.cols.length=L at *
  generalize t.pr=q at *
  clear hm hT hR hsl hbW hcW HCW
  by_cases h1:q<0
  ·clear hp
   go_enter Tryz.func33,Tryz.ntmps33
   go_wp2
   try rw[hW]
   go_ret
   exact⟨rfl,HB.out⟩
  ·have h2 : ¬q<(L:Int):=fun h=>hp ⟨by omega,h⟩
   have h3:(L:Int)≤q:=by omega
   clear hp
   go_enter Tryz.func33,Tryz.ntmps33
   go_wp2
   try rw[hW]
   go_ret
   exact⟨rfl,HB.out⟩
theorem FT {t:Tb} (h:qG t=true):0≤t.pr∧t.pr<t.cols.length:=by
 unfold qG at h
 rw[Bool.and_eq_true,decide_eq_true_eq] at h
 exact h.1
theorem qd {s:St} (h:(dh s).2=0):ShT (dh s).1:=by
 obtain⟨hk,hr,hn,hi,e⟩:=l9 h
 have:=(oO hk hr 0).1
 rw[e]
 refine ⟨this.1,by show (keyed _ _).length≤8;rw[fu];exact this.2.1,fun c hc=>?_⟩
 obtain⟨d,hd,e1,_⟩:=wO hc
 rw[e1]
 exact this.2.2 d hd
theorem nK (S:Nat→Prop) (t:Tb) (cs:List Value) (w:World) (hT:lV w) (hR:Le t) (h:Es S w t cs) :
  Calls Tryz.prog 14 #[.agg cs.toArray] w fun e w'=>e = .returned (.tuple #[.string (aj (lW t).1),.int .i64 (lW t).2])∧Below w.heap.size w w':=by
 have hh:=h
 obtain⟨aa,nn,cc,rfl,hsl⟩:=h
 obtain⟨W,hW,hbW,hzW,hcW⟩:=aQ w (.cells #[.string (aj t.nm),.slice aa nn cc,.int .i64 t.pr] 31)
 have k0:=bI hcW
 have HB:=hid hbW
 have HCW:=hid hcW
 have HMB:=hid (ED S t _ W (hT.on hbW) hR (hh.on hbW))
 cases hm:qG t with
 |
  false =>
  have e:lW t=([],4):=by unfold lW;rw[hm];rfl
  rw[e]
  rw[hm] at HMB
  clear e hm hT hR hh hsl hbW hcW
  go_enter Tryz.func14,Tryz.ntmps14
  go_wp2_with fail
  try rw[hW]
  refine HMB.out.mono ?_
  rintro e w1 ⟨rfl,hb1⟩
  have HB1:=hid (HB.out.trans (hb1.mono HB.out.size))
  clear hb1 HMB
  go_wp2
  exact bodyPost_ret (v:=.tuple #[.string ⟨#[]⟩,.int .i64 4]) (by simp[results,Tryz.results14,go_sem]) rfl ⟨rfl,HB1.out⟩
 |
  true =>
  have e:lW t=kJ [cK t]:=by unfold lW;rw[if_pos hm]
  rw[e]
  rw[hm] at HMB
  obtain⟨p,hpp⟩:=Int.eq_ofNat_of_zero_le (FT hm).1
  have hpl:p<t.cols.length:=by have:=(FT hm).2;omega
  obtain⟨x,hx⟩:∃x,t.cols[p]?=some x:=⟨_,List.getElem?_eq_getElem hpl⟩
  have hnm:rF t.cols t.pr.toNat=x.nm:=by rw[hpp,Int.toNat_natCast,uE hpl,(List.getElem?_eq_some_iff.1 hx).2]
  have hmk:=l9 (s:=cK t) (by rw[AU hm])
  have HCR:Hid (∀V,Below w.heap.size w V→Calls Tryz.prog 35 #[.agg #[.string (aj t.nm),.slice aa nn cc,.int .i64 (p:Int)]] V fun e w'=>e = .returned (.agg (Ik t.nm x.nm aa nn cc))∧Below V.heap.size V w'):=hid (fun V hV=>tT S t.nm t.cols aa nn cc p x V (hsl.to (T:=S) (by decide) (R:=fun _=>False) (ay.aI hV) (fun b hb _=>⟨id,hb⟩) (fun _ _ e=>e)) hx)
  have HPS:Hid (∀V,Below w.heap.size w V→Calls Tryz.prog 34 #[.slice (some ⟨V.heap.size,0,none⟩) 1 1] (V.alloc (.cells (Ik t.nm x.nm aa nn cc) 28)) fun e w'=>e = .returned (.tuple #[.string (aj (kJ [cK t]).1),.int .i64 (kJ [cK t]).2])∧Below w.heap.size w w'):=hid (fun V hV=>by
   obtain⟨U,hU,hbU,hzU,hcU⟩:=aQ V (.cells (Ik t.nm x.nm aa nn cc) 28)
   rw[hU]
   have hBU:=hV.trans (hbU.mono hV.size)
   have hs1:=CZ (T:=fun _=>True) (g:=V.heap.size) hcU ((zJ hsl hnm).on hBU) rfl trivial
   exact (nN (fun _=>True) [cK t] _ U (hT.on hBU) (fun y hy=>by rw[List.mem_singleton.1 hy];exact hR.s) hs1 (fun _ y hy hr e he=>by
    rw[List.mem_singleton.1 hy] at hr he
    rw[vG rfl hr] at he
    cases he)).mono fun e w' ⟨h1,h2⟩=>⟨h1,hBU.trans (h2.mono hBU.size)⟩)
  generalize kJ [cK t]=R at HPS ⊢
  obtain⟨r1,r2⟩:=R
  dsimp only at HPS ⊢
  rw[hpp] at hW HCW k0 HMB ⊢
  clear e hm hT hR hh hsl hbW hcW hmk hnm hx hpl hpp
  go_enter Tryz.func14,Tryz.ntmps14
  go_wp2_with fail
  try rw[hW]
  refine HMB.out.mono ?_
  rintro e w1 ⟨rfl,hb1⟩
  have hB1:=HB.out.trans (hb1.mono HB.out.size)
  have k1:=bI ((hb1.block w.heap.size hzW).trans HCW.out)
  have HC1:=hid (HCR.out w1 hB1)
  have HB1:=hid hB1
  clear hb1 hB1 HMB HCR hW k0
  go_wp2_with fail
  refine HC1.out.mono ?_
  rintro e w2 ⟨rfl,hb2⟩
  have hB2:=HB1.out.trans (hb2.mono HB1.out.size)
  have HP2:=hid (HPS.out w2 hB2)
  clear hb2 hB2 HC1 HPS
  go_wp2_with fail
  refine HP2.out.mono ?_
  rintro e w3 ⟨rfl,hb3⟩
  have HB3:=hid hb3
  clear hb3 HP2
  go_wp2
  exact bodyPost_ret (v:=.tuple #[.string (aj r1),.int .i64 r2]) (by simp[results,Tryz.results14,go_sem]) rfl ⟨rfl,HB3.out⟩
theorem Ki {S:Nat→Prop} {w:World} {s:St} {v:Value} (h:bT 14 mO S w [s] v):∃(b off c:Nat) (cs:List Value),v = .slice (some ⟨b,off,none⟩) 1 c∧mO S w s cs∧∀Z,Below w.heap.size w Z→∀(i:Nat) (u:Value),cs[i]?=some u→Z.cell? ⟨b,off+i,none⟩=some u:=by
 obtain⟨b,off,c,h1,h2,h3,h4⟩:=h.opened (by decide) (by simp)
 obtain⟨cs,h5,h6⟩:=h4 0 s rfl
 refine ⟨b,off,c,cs,h1,h5,fun Z hZ i u hu=>?_⟩
 have:=h6 Z hZ i u hu
 rw[Nat.zero_mul,Nat.add_zero] at this
 exact this
def Ii (N:Tb × Int) (s:List UInt8):Tb × Int:=if N.2=0 then (if (lW N.1).1=s then (N.1,0) else (vW,4)) else (vW,4)
theorem DV (t:Tb) (s:List UInt8):Ii (t,0) s=if (lW t).1=s then (t,0) else (vW,4):=rfl
theorem FC (t:Tb) (e:Int) (he:e≠0) (s:List UInt8):Ii (t,e) s=(vW,4):=if_neg he
theorem uW (s:List UInt8) (w:World) (hT:lV w) (hL:lI w) (hs:s.length≤140737488351232) :
  Calls Tryz.prog 15 #[.string (aj s)] w fun e w'=>∃ds:List Value,e = .returned (.tuple #[.agg ds.toArray,.int .i64 (j5 s).2])∧Iq w.heap.size w' (j5 s).1 ds∧Below w.heap.size w w':=by
 obtain⟨W,hW,hbW,hzW,hcW⟩:=aQ w (.cells #[.string ⟨#[]⟩,.slice none 0 0,.int .i64 0] 31)
 have HSC:=hid (CF s W (hL.on hbW) hs)
 have HB:=hid hbW
 have HCW:=hid hcW
 have HT:=hid hT
 have hsr:=xX (s:=s)
 have hA:j5 s=if (cu s).2.1=0∧(cu s).1.length=1 then Ii (dh ((cu s).1.headD (gQ 0))) s else (vW,4):=rfl
 obtain⟨M,hM⟩:∃M,j5 s=M:=⟨_,rfl⟩
 rw[hM] at hA ⊢
 generalize cu s=X at HSC hA hsr
 obtain⟨l,ec,ep⟩:=X
 dsimp only at HSC hA hsr
 clear hM hT hL hbW hcW
 by_cases hok:ec=0∧l.length=1
 ·rw[if_pos hok] at hA
  obtain⟨rfl,hl1⟩:=hok
  obtain⟨x,rfl⟩:∃x,l=[x]:=by
   match l,hl1 with
   | [x],_=>exact⟨x,rfl⟩
  dsimp only[List.headD_cons] at hA
  have hRx:Gp x:=xJ (aX (hsr rfl).1 x (by simp))
  have HMK:=hid (fun V (hV:lV V) cs (hc:mO (fun _=>True) V x cs)=>oC (fun _=>True) x cs V hV hRx hc)
  have hsh:=qd (s:=x)
  generalize dh x=N at HMK hA hsh
  obtain⟨t,em⟩:=N
  dsimp only at HMK hA hsh
  clear hsr hl1 hRx
  go_enter Tryz.func15,Tryz.ntmps15
  go_wp2_with fail
  try rw[hW]
  refine HSC.out.mono ?_
  rintro e w1 ⟨aa,nn,cc,rfl,hsl,hb1⟩
  obtain⟨b,off,c,cs,hv,hst,hcl⟩:=Ki hsl
  simp only[Value.slice.injEq] at hv
  obtain⟨rfl,rfl,rfl⟩:=hv
  have hs1:=hb1.size
  obtain⟨U,hU,hbU,hzU,hcU⟩:=aQ w1 (.cells #[.int .i64 0,.int .i64 ep] 69)
  have hB1:=HB.out.trans (hb1.mono HB.out.size)
  have hBU:=hB1.trans (hbU.mono hB1.size)
  have HM1:=hid (HMK.out U (HT.out.on hBU) cs (hst.on hbU))
  have kU:=dW hcU
  have hZU:=(hbU.block w.heap.size (by omega)).trans ((hb1.block w.heap.size hzW).trans HCW.out)
  obtain⟨a1,a2,a3,a4,a5,a6,a7,a8,n1,n2,n3,n4,n5,n6,n7,n8,c1,c2,c3,c4,c5,c6,c7,c8,rfl,_⟩:=hst
  have hq:=hcl U hbU
  have q0:=hq 0 _ rfl
  have q1:=hq 1 _ rfl
  have q2:=hq 2 _ rfl
  have q3:=hq 3 _ rfl
  have q4:=hq 4 _ rfl
  have q5:=hq 5 _ rfl
  have q6:=hq 6 _ rfl
  have q7:=hq 7 _ rfl
  have q8:=hq 8 _ rfl
  have q9:=hq 9 _ rfl
  have q10:=hq 10 _ rfl
  have q11:=hq 11 _ rfl
  have q12:=hq 12 _ rfl
  have q13:=hq 13 _ rfl
  rw[Nat.add_zero] at q0
  have HBU:=hid hBU
  have HZU:=hid hZU
  clear hq hcl hsl hb1 hbU hcU hB1 hBU hZU HSC HMK hW
  go_wp2_with fail
  try rw[hU]
  refine HM1.out.mono ?_
  rintro e w2 ⟨ds,rfl,hds,hb2⟩
  have hs2:=hb2.size
  have hdo:=hds
  obtain⟨a9,n9,c9,rfl,hown⟩:=hds
  obtain⟨V,hV,hbV,hzV,hcV⟩:=aQ w2 (.cells #[.string (aj t.nm),.slice a9 n9 c9,.int .i64 t.pr] 31)
  have hB2:=HBU.out.trans (hb2.mono HBU.out.size)
  have hBV:=hB2.trans (hbV.mono hB2.size)
  have hZV:=(hbV.block w.heap.size (by omega)).trans ((hb2.block w.heap.size (by omega)).trans HZU.out)
  have kV:=bI hcV
  have kz:=bI hZV
  have HS0:=hid (bG kz.1)
  have HS1:=hid (bG kz.2.1)
  have HS2:=hid (bG kz.2.2.1)
  have HBV:=hid hBV
  have HZV:=hid hZV
  have HDO:=hid (hdo.on hbV)
  have HCV:=hid hcV
  clear q0 q1 q2 q3 q4 q5 q6 q7 q8 q9 q10 q11 q12 q13 hU hb2 hB2 hbV hBV hZV hcV hown hdo HM1 kU
  by_cases hem:em=0
  ·subst hem
   rw[DV] at hA
   have HSR:=hid (nK (fun _=>True) t _ V (HT.out.on HBV.out) (hsh rfl).rg ((HDO.out.e).to (R:=fun _=>False) (T:=fun _=>True) (ay.aI (Below.refl _ _)) (fun b _ _=>⟨id,trivial⟩)))
   generalize lW t=Y at HSR hA
   obtain⟨y1,y2⟩:=Y
   dsimp only at HSR hA
   clear HS0 HS1 HS2 kz
   go_wp2_with fail
   try rw[hV]
   refine HSR.out.mono ?_
   rintro e w3 ⟨rfl,hb3⟩
   have hs3:=hb3.size
   have hZ3:=(hb3.block w.heap.size (by omega)).trans HZV.out
   have k3:=bI hZ3
   have kV3:=bI ((hb3.block w2.heap.size (by omega)).trans HCV.out)
   have HB3:=hid (HBV.out.trans (hb3.mono HBV.out.size))
   have HD3:=hid (HDO.out.on hb3)
   have HS0:=hid (bG k3.1)
   have HS1:=hid (bG k3.2.1)
   have HS2:=hid (bG k3.2.2.1)
   by_cases hy:y1=s
   ·rw[if_pos hy] at hA
    subst hA
    subst hy
    clear hb3 HSR hZ3 HS0 HS1 HS2 hV
    go_wp2
    have hB:Below w.heap.size w (((w3.setCell ⟨w.heap.size,0,none⟩ (.string (aj t.nm))).setCell ⟨w.heap.size,1,none⟩ (.slice a9 n9 c9)).setCell ⟨w.heap.size,2,none⟩ (.int .i64 t.pr)):=((HB3.out.setCell (Nat.le_refl _) _).setCell (Nat.le_refl _) _).setCell (Nat.le_refl _) _
    have hSp:ay (fun k=>k=w.heap.size) w3 (((w3.setCell ⟨w.heap.size,0,none⟩ (.string (aj t.nm))).setCell ⟨w.heap.size,1,none⟩ (.slice a9 n9 c9)).setCell ⟨w.heap.size,2,none⟩ (.int .i64 t.pr)):=(((ay.refl (fun k=>k=w.heap.size) w3).own _ _).own _ _).own _ _
    refine bodyPost_ret (v:=.tuple #[.agg #[.string (aj t.nm),.slice a9 n9 c9,.int .i64 t.pr],.int .i64 0]) (by simp[results,Tryz.results15,go_sem,k3]) rfl ⟨_,rfl,?_,hB⟩
    obtain⟨x1,x2,x3,hx1,hx2⟩:=HD3.out
    refine ⟨x1,x2,x3,hx1,qc (hSp.row hx2 (fun g hg=>?_)) (fun g hg=>?_)⟩
    ·have:=(hx2.lt g hg).1
     omega
    ·have:=(hx2.lt g hg).1
     have:=HBU.out.size
     omega
   ·have hy':((aj y1).toList==(aj s).toList)=false:=by rw[dO,dO];simpa using hy
    rw[if_neg hy] at hA
    subst hA
    clear hb3 HSR hZ3 hy hV
    go_wp2
    rw[HS0.out,HS1.out,HS2.out]
    exact bodyPost_ret (v:=.tuple #[.agg #[.string ⟨#[]⟩,.slice none 0 0,.int .i64 0],.int .i64 4]) (by simp[results,Tryz.results15,go_sem,k3]) rfl ⟨_,rfl,nG _ _ HB3.out.size,HB3.out⟩
  ·have hem':(em != 0)=true:=by simpa using hem
   rw[FC t em hem] at hA
   subst hA
   clear hem
   go_wp2_with fail
   try rw[hV]
   go_wp2
   rw[HS0.out,HS1.out,HS2.out]
   exact bodyPost_ret (v:=.tuple #[.agg #[.string ⟨#[]⟩,.slice none 0 0,.int .i64 0],.int .i64 4]) (by simp[results,Tryz.results15,go_sem,kz]) rfl ⟨_,rfl,nG _ _ HBV.out.size,HBV.out⟩
 ·rw[if_neg hok] at hA
  subst hA
  have hbad:((ec != 0)||((l.length:Int) != 1))=true:=by
   by_cases h1:ec=0
   ·have:l.length≠1:=fun h=>hok ⟨h1,h⟩
    simp[h1];omega
   ·simp[h1]
  clear hok hsr
  go_enter Tryz.func15,Tryz.ntmps15
  go_wp2_with fail
  try rw[hW]
  refine HSC.out.mono ?_
  rintro e w1 ⟨aa,nn,cc,rfl,hsl,hb1⟩
  have hnn:nn=l.length:=by obtain⟨_,_,hf⟩:=hsl.form;simp only[Value.slice.injEq] at hf;exact hf.2.1
  subst hnn
  have hs1:=hb1.size
  obtain⟨U,hU,hbU,hzU,hcU⟩:=aQ w1 (.cells #[.int .i64 ec,.int .i64 ep] 69)
  have hB1:=HB.out.trans (hb1.mono HB.out.size)
  have HBU:=hid (hB1.trans (hbU.mono hB1.size))
  have kU:=dW hcU
  have kz:=bI ((hbU.block w.heap.size (by omega)).trans ((hb1.block w.heap.size hzW).trans HCW.out))
  have HS0:=hid (bG kz.1)
  have HS1:=hid (bG kz.2.1)
  have HS2:=hid (bG kz.2.2.1)
  clear hsl hb1 hbU hcU hB1 HSC hW
  generalize l.length=L at *
  by_cases h1:ec=0
  ·subst h1
   have h2:((L:Int) != 1)=true:=by simpa using hbad
   clear hbad
   go_wp2_with fail
   try rw[hU]
   go_wp2
   rw[HS0.out,HS1.out,HS2.out]
   exact bodyPost_ret (v:=.tuple #[.agg #[.string ⟨#[]⟩,.slice none 0 0,.int .i64 0],.int .i64 4]) (by simp[results,Tryz.results15,go_sem,kz]) rfl ⟨_,rfl,nG _ _ HBU.out.size,HBU.out⟩
  ·have h2:(ec != 0)=true:=by simpa using h1
   clear hbad h1
   go_wp2_with fail
   try rw[hU]
   go_wp2
   rw[HS0.out,HS1.out,HS2.out]
   exact bodyPost_ret (v:=.tuple #[.agg #[.string ⟨#[]⟩,.slice none 0 0,.int .i64 0],.int .i64 4]) (by simp[results,Tryz.results15,go_sem,kz]) rfl ⟨_,rfl,nG _ _ HBU.out.size,HBU.out⟩
end Go.Proofs.YtaaggohjmhifbaaGreatDoor
