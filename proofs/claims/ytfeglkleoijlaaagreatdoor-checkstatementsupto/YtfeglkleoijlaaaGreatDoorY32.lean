import Derived.Shelf.Spec.SlicesGrow
import Derived.Test.YtfeglkleoijlaaaGreatDoorChecked
import Derived.Test.YtfeglkleoijlaaaGreatDoorY31
namespace Go.Proofs.YtfeglkleoijlaaaGreatDoor
open Go.Shelf
set_option linter.unusedVariables false
set_option maxRecDepth 100000
set_option maxHeartbeats 8000000
def OL:Ren:=⟨fun x=>if x=4 then 113 else x,fun x=>if x=0 then 0 else if x=3 then 3 else if x=4 then 4 else if x=9 then 9 else if x=20 then 20 else if x=22 then 27 else if x=25 then 48 else x,fun x=>x⟩
theorem LJ:Lays8.n4 Tryz.prog OL where
 mixed:=by kernel_rfl
 f4:=⟨"slices.Grow[[]vestry/api.Expr,vestry/api.Expr]", by decide,by kernel_rfl⟩
 t0:=by kernel_rfl
 a0:=fun w=>by kernel_rfl
 z0:=fun w=>by kernel_rfl
 v0:=fun w=>by kernel_rfl
 t3:=by kernel_rfl
 a3:=fun w=>by kernel_rfl
 z3:=fun w=>by kernel_rfl
 v3:=fun w=>by kernel_rfl
 t4:=by kernel_rfl
 a4:=fun w=>by kernel_rfl
 z4:=fun w=>by kernel_rfl
 v4:=fun w=>by kernel_rfl
 t9:=by kernel_rfl
 a9:=fun w=>by kernel_rfl
 z9:=fun w=>by kernel_rfl
 v9:=fun w=>by kernel_rfl
 t20:=by kernel_rfl
 a20:=fun w=>by kernel_rfl
 z20:=fun w=>by kernel_rfl
 v20:=fun w=>by kernel_rfl
 t22:=by kernel_rfl
 a22:=fun w=>by kernel_rfl
 z22:=fun w=>by kernel_rfl
 v22:=fun w=>by kernel_rfl
open Go.RowKit
set_option linter.unusedSimpArgs false
set_option maxRecDepth 20000
def UN {α:Type} (xs:List α) (p:α→Bool):Int:=if xs.findIdx p<xs.length then (xs.findIdx p:Nat) else -1
theorem TJ {α:Type} (xs:List α) (p:α→Bool):decide (0≤UN xs p)=xs.any p:=by
 unfold UN
 cases h:xs.any p with
 |
  true =>
  have:xs.findIdx p<xs.length:=by
   rw[List.findIdx_lt_length]
   simpa using h
  rw[if_pos this]
  exact aar (by omega)
 |
  false =>
  have : ¬xs.findIdx p<xs.length:=by
   rw[List.findIdx_lt_length]
   simpa using h
  rw[if_neg this]
  exact aaj (by omega)
theorem Dx {α:Type} {xs:List α} {p:α→Bool} {k:Nat} {x:α} (hk:k≤xs.findIdx p) (hx:xs[k]?=some x) (hp:p x=true):xs.findIdx p=k:=by
 obtain⟨h1,h2⟩:=aam.1 hx
 rcases Nat.lt_or_ge k (xs.findIdx p) with h | h
 ·have:=List.not_of_lt_findIdx h
  rw[h2,hp] at this
  exact absurd this (by simp)
 ·omega
theorem CW {α:Type} {xs:List α} {p:α→Bool} {k:Nat} {x:α} (hk:k≤xs.findIdx p) (hx:xs[k]?=some x) (hp:p x=false):k+1≤xs.findIdx p:=by
 obtain⟨h1,h2⟩:=aam.1 hx
 rcases Nat.lt_or_ge k (xs.findIdx p) with h | h
 ·exact h
 ·have e:xs.findIdx p=k:=by omega
  have:=List.findIdx_getElem (p:=p) (xs:=xs) (w:=by omega)
  simp only[e] at this
  rw[h2,hp] at this
  cases this
def oC (i:It):Bool:=decide (3≤i.k∧i.k≤7)
theorem FV (i:It) (a:Option Addr) (n c:Nat) (w:World):Calls Tryz.prog 115 #[.agg #[.int .i64 i.k,.slice a n c]] w fun e w'=>e = .returned (.bool (oC i))∧Below w.heap.size w w':=by
 obtain⟨W,gI,hbW,aJ,hcW⟩:=aK w (.cells #[.int .i64 i.k,.slice a n c] 55)
 have k0:=wI hcW
 have HB:=hid hbW
 obtain⟨k,xs⟩:=i
 dsimp only at *
 unfold oC
 dsimp only
 clear hbW hcW
 by_cases h3:3≤k
 ·by_cases h7:k≤7
  ·rw[aar ⟨h3,h7⟩]
   go_enter Tryz.func115,Tryz.ntmps115
   go_wp2_with fail
   try rw[gI]
   go_wp2
   go_ret
   exact⟨rfl,HB.out⟩
  ·rw[aaj (fun h=>h7 h.2)]
   go_enter Tryz.func115,Tryz.ntmps115
   go_wp2_with fail
   try rw[gI]
   go_wp2
   go_ret
   exact⟨rfl,HB.out⟩
 ·rw[aaj (fun h=>h3 h.1)]
  go_enter Tryz.func115,Tryz.ntmps115
  go_wp2_with fail
  try rw[gI]
  go_wp2
  go_ret
  exact⟨rfl,HB.out⟩
theorem Dr (T:Nat→Prop) (xs:List It) (v:Value) (w:World) (h:aM 2 vY T w xs v) :
  Calls Tryz.prog 154 #[v,.func (.func 115) #[] #[]] w fun e w'=>e = .returned (.int .i64 (UN xs oC))∧Below w.heap.size w w':=by
 have HV:=hid h
 obtain⟨aa,cc,css,rfl,h1,h2,_⟩:=h
 unfold maxLen at h2
 obtain⟨R,hR⟩:∃R,UN xs oC=R:=⟨_,rfl⟩
 rw[hR]
 have HR:=hid hR
 clear hR
 have eg:=enters_of Tryz.func115 (by kernel_rfl) rfl
 go_enter Tryz.func154,Tryz.ntmps154
 go_wp2_with fail
 go_loopw [5,8] (fun _ i wr=>∃k:Nat,k≤xs.length∧i = .int .i64 k∧Hid (Below w.heap.size w wr)∧Hid (k≤xs.findIdx oC)) (fun _ i _=>xs.length-(intOf i).toNat)
 case atStart=>exact⟨0,aaV _,rfl,hid (Below.refl _ _),hid (aaV _)⟩
 case round =>
  obtain⟨k,hk,rfl,HB,HK⟩:=hrel
  by_cases hlt:k<xs.length
  ·obtain⟨y,hy⟩:∃y,xs[k]?=some y:=⟨_,aaf hlt⟩
   obtain⟨_,_,_,b,off,ds,rfl,_,hel,hcell⟩:=bC (HV.out.to (T:=T) (by decide) (R:=fun _=>False) (ak.aA HB.out) (fun b hb _=>⟨id,hb⟩) (fun _ _ e=>e.to (R:=fun _=>False) (ak.aA HB.out) (fun b hb _=>⟨id,hb⟩))) hy
   obtain⟨ia,im,ic,rfl,_⟩:=hel
   have q0:=hcell 0 _ rfl
   have q1:=hcell 1 _ rfl
   simp only[aa2] at q0
   have hlt':((k:Int)<(xs.length:Int)):=by omega
   have HN:=hid (FV y ia im ic wr)
   cases hp:oC y with
   |
    true =>
    rw[hp] at HN
    have e:=Dx HK.out hy hp
    have HRR:Hid (R=(k:Int)):=hid (by rw[← HR.out];unfold UN;rw[e,if_pos hlt])
    clear e hy HK hp hcell
    go_wp2_with fail
    refine HN.out.mono ?_
    rintro e w1 ⟨rfl,hb1⟩
    have HB1:=htr HB hb1
    clear hb1 HN
    go_wp2
    go_ret
    exact⟨by rw[HRR.out];rfl,HB1.out⟩
   |
    false =>
    rw[hp] at HN
    have mE:=hid (CW HK.out hy hp)
    clear hy HK hp hcell
    go_wp2_with fail
    refine HN.out.mono ?_
    rintro e w1 ⟨rfl,hb1⟩
    have HB1:=htr HB hb1
    clear hb1 HN
    go_wp2
    go_roundw
    case rel=>exact⟨k+1,by omega,by go_num,HB1,mE⟩
    case measure=>simp[intOf];omega
  ·have hlt' : ¬((k:Int)<(xs.length:Int)):=by omega
   have HRR:Hid (R = -1):=hid (by rw[← HR.out];unfold UN;rw[if_neg (by have:=HK.out;omega)])
   clear HK
   go_wp2
   go_ret
   exact⟨by rw[HRR.out];rfl,HB.out⟩
theorem yQ (T:Nat→Prop) (xs:List It) (v:Value) (w:World) (h:aM 2 vY T w xs v) :
  Calls Tryz.prog 114 #[v,.func (.func 115) #[] #[]] w fun e w'=>e = .returned (.bool (xs.any oC))∧Below w.heap.size w w':=by
 have HI:=hid (Dr T xs v w h)
 rw[← TJ]
 obtain⟨aa,cc,css,rfl,_⟩:=h
 generalize UN xs _=r at HI ⊢
 go_enter Tryz.func114,Tryz.ntmps114
 go_wp2_with fail
 refine HI.out.mono ?_
 rintro e w1 ⟨rfl,hb1⟩
 have HB1:=hid hb1
 clear hb1
 go_wp2
 go_ret
 exact⟨by simp,HB1.out⟩
theorem qK (T:Nat→Prop) (s:St) (sc:List Value) (w:World) (hs:fD T w s sc) :
  Calls Tryz.prog 61 #[.agg sc.toArray] w fun e w'=>e = .returned (.bool (cB s))∧Below w.heap.size w w':=by
 obtain⟨b1,b2,b3,b4,b5,b6,b7,b8,m1,m2,m3,m4,m5,m6,m7,m8,d1,d2,d3,d4,d5,d6,d7,d8,rfl,_,_,_,hit,_,_,hgr,_⟩:=hs
 have TK:m7=s.gr.length:=by obtain⟨_,_,hf,_⟩:=hgr.form;simp only[aah] at hf;exact hf.2.1
 obtain⟨W,gI,hbW,aJ,hcW⟩:=aK w (.cells #[.int .i64 s.k,.string (aj s.tb),.slice b1 m1 d1,.string (aj s.aD),.slice b2 m2 d2,.slice b3 m3 d3,.slice b4 m4 d4,.string (aj s.jn),.slice b5 m5 d5,.slice b6 m6 d6,.slice b7 m7 d7,.slice b8 m8 d8,.bool s.desc,.int .i64 s.lim] 29)
 have k0:=au hcW
 have HC:=hid (yQ T s.items _ W (hit.to (by decide) (R:=fun _=>False) (ak.aA hbW) (fun b hb _=>⟨id,hb⟩) (fun _ _ e=>e.to (R:=fun _=>False) (ak.aA hbW) (fun b hb _=>⟨id,hb⟩))))
 have HB:=hid hbW
 unfold cB
 show Calls Tryz.prog _ _ w fun e w'=>e = .returned (.bool (decide (0<s.gr.length)||s.items.any oC))∧Below w.heap.size w w'
 generalize s.items.any oC=r at HC ⊢
 clear hbW hcW hit hgr
 by_cases hg:0<s.gr.length
 ·rw[aar hg,Bool.true_or]
  have hg1:((0:Int)<(m7:Int)):=by omega
  clear hg TK
  go_enter Tryz.func61,Tryz.ntmps61
  go_wp2_with fail
  try rw[gI]
  go_wp2_with fail
  go_ret
  exact⟨rfl,HB.out⟩
 ·rw[aaj hg,Bool.false_or]
  have hg1 : ¬((0:Int)<(m7:Int)):=by omega
  clear hg TK
  go_enter Tryz.func61,Tryz.ntmps61
  go_wp2_with fail
  try rw[gI]
  refine HC.out.mono ?_
  rintro e w1 ⟨rfl,hb1⟩
  have HB1:=htr HB hb1
  clear hb1 HC
  go_wp2_with fail
  go_ret
  exact⟨rfl,HB1.out⟩
def wm (c:Int) (b:Bool):Int:=if c=0∧b=true then 13 else c
theorem Dh (S:Nat→Prop) (s:St) (sc:List Value) (b:Bool) (w:World) (hT:iL w) (hR:vZ s) (hs:fD S w s sc) :
  Calls Tryz.prog 20 #[.agg sc.toArray,.bool b] w fun e w'=>e = .returned (.int .i64 (wm (bU s).2 b))∧Below w.heap.size w w':=by
 have hs0:=hs
 obtain⟨b1,b2,b3,b4,b5,b6,b7,b8,m1,m2,m3,m4,m5,m6,m7,m8,d1,d2,d3,d4,d5,d6,d7,d8,rfl,_⟩:=hs
 obtain⟨W,gI,hbW,aJ,hcW⟩:=aK w (.cells #[.int .i64 s.k,.string (aj s.tb),.slice b1 m1 d1,.string (aj s.aD),.slice b2 m2 d2,.slice b3 m3 d3,.slice b4 m4 d4,.string (aj s.jn),.slice b5 m5 d5,.slice b6 m6 d6,.slice b7 m7 d7,.slice b8 m8 d8,.bool s.desc,.int .i64 s.lim] 29)
 have k0:=au hcW
 have HM:=hid (EK S s _ W (hT.on hbW) hR (hs0.to (R:=fun _=>False) (ak.aA hbW) (fun b hb _=>⟨id,hb⟩)))
 have HB:=hid hbW
 unfold wm
 generalize bU s=R at HM ⊢
 obtain⟨t,c⟩:=R
 dsimp only at HM ⊢
 clear hbW hcW hs0 hT hR
 by_cases hc:c=0
 ·subst hc
  cases b with
  |
   true =>
   rw[if_pos ⟨rfl,rfl⟩]
   go_enter Tryz.func20,Tryz.ntmps20
   go_wp2_with fail
   try rw[gI]
   refine HM.out.mono ?_
   rintro e w1 ⟨ds,rfl,hto,hb1⟩
   obtain⟨a2,n2,c2,rfl,_⟩:=hto
   obtain⟨Y,hY,bV,kL,dJ⟩:=aK w1 (.cells #[.string (aj t.nm),.slice a2 n2 c2,.int .i64 t.pr] 42)
   have HB1:=HB.out.trans (hb1.mono HB.out.size)
   have bZ:=hid (HB1.trans (bV.mono HB1.size))
   clear hb1 bV dJ HB1 HM k0
   go_wp2_with (first | (refine eX hY ?_;clear hY) | fail)
   go_ret
   exact⟨rfl,bZ.out⟩
  |
   false =>
   rw[if_neg (fun h=>by cases h.2)]
   go_enter Tryz.func20,Tryz.ntmps20
   go_wp2_with fail
   try rw[gI]
   refine HM.out.mono ?_
   rintro e w1 ⟨ds,rfl,hto,hb1⟩
   obtain⟨a2,n2,c2,rfl,_⟩:=hto
   obtain⟨Y,hY,bV,kL,dJ⟩:=aK w1 (.cells #[.string (aj t.nm),.slice a2 n2 c2,.int .i64 t.pr] 42)
   have HB1:=HB.out.trans (hb1.mono HB.out.size)
   have bZ:=hid (HB1.trans (bV.mono HB1.size))
   clear hb1 bV dJ HB1 HM k0
   go_wp2_with (first | (refine eX hY ?_;clear hY) | fail)
   go_ret
   exact⟨rfl,bZ.out⟩
 ·rw[if_neg (fun h=>hc h.1)]
  have hc2:(c==0)=false:=by rw[aai];exact hc
  clear hc
  go_enter Tryz.func20,Tryz.ntmps20
  go_wp2_with fail
  try rw[gI]
  refine HM.out.mono ?_
  rintro e w1 ⟨ds,rfl,hto,hb1⟩
  obtain⟨a2,n2,c2,rfl,_⟩:=hto
  obtain⟨Y,hY,bV,kL,dJ⟩:=aK w1 (.cells #[.string (aj t.nm),.slice a2 n2 c2,.int .i64 t.pr] 42)
  have HB1:=HB.out.trans (hb1.mono HB.out.size)
  have bZ:=hid (HB1.trans (bV.mono HB1.size))
  clear hb1 bV dJ HB1 HM k0
  go_wp2_with (first | (refine eX hY ?_;clear hY) | fail)
  go_ret
  exact⟨rfl,bZ.out⟩
theorem Ie {S:Nat→Prop} {W:World} {t u:Tb} {c0 c1 c2 d0 d1 d2:Value} {g:Nat} (hg:W.heap[g]?=some (.cells #[c0,c1,c2,d0,d1,d2] 42)) (ht:fG S W t [c0,c1,c2]) (hu:fG S W u [d0,d1,d2]):aM 3 fG (fun b=>S b∨b=g) W [t,u] (.slice (some ⟨g,0,none⟩) 2 2):=by
 refine ⟨_,2,[[c0,c1,c2],[d0,d1,d2]],rfl,aaF _,by unfold maxLen;omega,⟨rfl,fun j x ds hx hd=>?_⟩,fun _=>⟨g,0,rfl,.inr rfl,fun j ds hd i v hv=>?_⟩⟩
 ·match j,hx,hd with
  |
   0,hx,hd =>
   simp only[List.getElem?_cons_zero,abf] at hx hd
   subst hx hd
   exact⟨rfl,ht.to (R:=fun _=>False) (ak.refl _ _) (fun b hb _=>⟨id,.inl hb⟩)⟩
  |
   1,hx,hd =>
   simp only[List.getElem?_cons_zero,List.getElem?_cons_succ,abf] at hx hd
   subst hx hd
   exact⟨rfl,hu.to (R:=fun _=>False) (ak.refl _ _) (fun b hb _=>⟨id,.inl hb⟩)⟩
  | j+2,hx,_=>simp at hx
 ·match j,hd with
  |
   0,hd =>
   simp only[List.getElem?_cons_zero,abf] at hd
   subst hd
   match i,hv with
   | 0,hv=>rw[cell_of_row _ _ _ _ _ _ hg];simpa using hv
   | 1,hv=>rw[cell_of_row _ _ _ _ _ _ hg];simpa using hv
   | 2,hv=>rw[cell_of_row _ _ _ _ _ _ hg];simpa using hv
   | i+3,hv=>simp at hv
  |
   1,hd =>
   simp only[List.getElem?_cons_zero,List.getElem?_cons_succ,abf] at hd
   subst hd
   match i,hv with
   | 0,hv=>rw[cell_of_row _ _ _ _ _ _ hg];simpa using hv
   | 1,hv=>rw[cell_of_row _ _ _ _ _ _ hg];simpa using hv
   | 2,hv=>rw[cell_of_row _ _ _ _ _ _ hg];simpa using hv
   | i+3,hv=>simp at hv
  | j+2,hd=>simp at hd
theorem aM.Iy {z:Nat} {S T:Nat→Prop} {w:World} {L:List Tb} {v:Value} (h:aM z fG S w L v) (hz:0<z) (hS : ∀b,S b→T b):aM z fG T w L v :=
 h.to hz (R:=fun _=>False) (ak.refl _ _) (fun b hb _=>⟨id,hS b hb⟩) (fun _ _ e=>e.to (R:=fun _=>False) (ak.refl _ _) (fun b hb _=>⟨id,hS b hb⟩))
theorem EP (sb mb:Nat) (E:DataW Value) (f:List UInt8→Value) (C:List Tb) (S2:Nat→Prop) (t:Tb) (jn:List UInt8) (cs:List Value) (w:World) (hC:iA w sb mb E f C S2) (ht:fG (fun b=>b<w.heap.size) w t cs) (hj:jn.length≤maxLen) :
  Calls Tryz.prog 59 #[.pointer (some ⟨sb,0,none⟩),.agg cs.toArray,.string (aj jn)] w fun e w'=>∃a n c,e = .returned (.tuple #[.slice a n c,.int .i64 (lu C t jn).2])∧aM 3 fG (fun _=>True) w' (lu C t jn).1 (.slice a n c)∧Below w.heap.size w w':=by
 have ht0:=ht
 obtain⟨a1,n1,c1,rfl,_⟩:=ht
 obtain⟨W,gI,hbW,aJ,hcW⟩:=aK w (.cells #[.string (aj t.nm),.slice a1 n1 c1,.int .i64 t.pr] 42)
 have k0:=aH hcW
 have HF:=hid (zH sb mb E f C S2 jn W (hC.new hbW) hj)
 have HT0:=hid (ht0.on hbW)
 have HB:=hid hbW
 have HC:=hid hcW
 unfold lu
 clear hC ht0 hbW hcW
 by_cases hjn:jn=[]
 ·subst hjn
  rw[if_pos rfl]
  obtain⟨Y,hY,bV,kL,dJ⟩:=aK W (.cells #[.string (aj t.nm),.slice a1 n1 c1,.int .i64 t.pr] 42)
  have HR:=hid ((mX (cs:=[.string (aj t.nm),.slice a1 n1 c1,.int .i64 t.pr]) dJ (HT0.out.on bV)).Iy (by decide) (T:=fun _=>True) (fun _ _=>trivial))
  have bZ:=htr HB bV
  clear bV dJ HF HC
  have h0:(aj ([]:List UInt8)).toList.isEmpty=true:=by rw[aS];rfl
  go_enter Tryz.func59,Tryz.ntmps59
  go_wp2_with fail
  try rw[gI]
  go_wp2_with fail
  try rw[hY]
  exact bodyPost_ret (v:=.tuple #[.slice (some ⟨W.heap.size,0,none⟩) 1 1,.int .i64 0]) (by simp[results,Tryz.results59,go_sem]) rfl ⟨_,_,_,rfl,HR.out,bZ.out⟩
 ·rw[if_neg hjn]
  have h0:(aj jn).toList.isEmpty=false:=by rw[aS];cases jn with | nil=>exact absurd rfl hjn | cons _ _=>rfl
  generalize fC C jn=u at HF ⊢
  by_cases hin:jn∈C.map Tb.nm
  ·rw[aar hin] at HF
   rw[if_neg (fun h=>h hin)]
   clear hin hjn
   by_cases hnm:u.nm=t.nm
   ·rw[if_pos hnm]
    have h1:((aj u.nm).toList==(aj t.nm).toList)=true:=by rw[xJ];exact aar hnm
    clear hnm
    go_enter Tryz.func59,Tryz.ntmps59
    go_wp2_with fail
    try rw[gI]
    refine HF.out.mono ?_
    rintro e w1 ⟨ds,rfl,hto,hb1⟩
    have HU:=hid hto.e
    obtain⟨a2,n2,c2,rfl,_⟩:=hto
    obtain⟨Y,hY,bV,kL,dJ⟩:=aK w1 (.cells #[.string (aj u.nm),.slice a2 n2 c2,.int .i64 u.pr] 42)
    have HB1:=htr HB hb1
    have bZ:=htr HB1 bV
    have kA:=aH ((bV.block _ (by have:=hb1.size;omega)).trans ((hb1.block _ aJ).trans HC.out))
    have kB:=aH dJ
    have Ho:=hid ((HT0.out.on hb1).on bV)
    have QS:=hid (HU.out.on bV)
    clear hb1 bV dJ HF k0 HU HT0 HC
    go_wp2_with (first | (refine eX hY ?_;clear hY) | fail)
    exact bodyPost_ret (v:=.tuple #[.slice none 0 0,.int .i64 13]) (by simp[results,Tryz.results59,go_sem]) rfl ⟨_,_,_,rfl,aM.nil,bZ.out⟩
   ·rw[if_neg hnm]
    have h1:((aj u.nm).toList==(aj t.nm).toList)=false:=by rw[xJ];exact aaj hnm
    clear hnm
    go_enter Tryz.func59,Tryz.ntmps59
    go_wp2_with fail
    try rw[gI]
    refine HF.out.mono ?_
    rintro e w1 ⟨ds,rfl,hto,hb1⟩
    have HU:=hid hto.e
    obtain⟨a2,n2,c2,rfl,_⟩:=hto
    obtain⟨Y,hY,bV,kL,dJ⟩:=aK w1 (.cells #[.string (aj u.nm),.slice a2 n2 c2,.int .i64 u.pr] 42)
    have HB1:=htr HB hb1
    have bZ:=htr HB1 bV
    have kA:=aH ((bV.block _ (by have:=hb1.size;omega)).trans ((hb1.block _ aJ).trans HC.out))
    have kB:=aH dJ
    have Ho:=hid ((HT0.out.on hb1).on bV)
    have QS:=hid (HU.out.on bV)
    clear hb1 bV dJ HF k0 HU HT0 HC
    go_wp2_with (first | (refine eX hY ?_;clear hY) | fail)
    obtain⟨Z,hZ,o8,VD,wB⟩:=aK Y (.cells #[.string (aj t.nm),.slice a1 n1 c1,.int .i64 t.pr,.string (aj u.nm),.slice a2 n2 c2,.int .i64 u.pr] 42)
    have HR:=hid ((Ie (S:=fun _=>True) wB ((Ho.out.on o8).to (R:=fun _=>False) (ak.refl _ _) (fun b hb _=>⟨id,trivial⟩)) ((QS.out.on o8).to (R:=fun _=>False) (ak.refl _ _) (fun b hb _=>⟨id,trivial⟩))).Iy (by decide) (T:=fun _=>True) (fun _ _=>trivial))
    have lJ:=htr bZ o8
    clear o8 wB Ho QS
    go_wp2_with fail
    try rw[hZ]
    exact bodyPost_ret (v:=.tuple #[.slice (some ⟨Y.heap.size,0,none⟩) 2 2,.int .i64 0]) (by simp[results,Tryz.results59,go_sem]) rfl ⟨_,_,_,rfl,HR.out,lJ.out⟩
  ·rw[aaj hin] at HF
   rw[if_pos hin]
   clear hin hjn
   go_enter Tryz.func59,Tryz.ntmps59
   go_wp2_with fail
   try rw[gI]
   refine HF.out.mono ?_
   rintro e w1 ⟨ds,rfl,hto,hb1⟩
   have HU:=hid hto.e
   obtain⟨a2,n2,c2,rfl,_⟩:=hto
   obtain⟨Y,hY,bV,kL,dJ⟩:=aK w1 (.cells #[.string (aj u.nm),.slice a2 n2 c2,.int .i64 u.pr] 42)
   have HB1:=htr HB hb1
   have bZ:=htr HB1 bV
   have kA:=aH ((bV.block _ (by have:=hb1.size;omega)).trans ((hb1.block _ aJ).trans HC.out))
   have kB:=aH dJ
   have Ho:=hid ((HT0.out.on hb1).on bV)
   have QS:=hid (HU.out.on bV)
   clear hb1 bV dJ HF k0 HU HT0 HC
   go_wp2_with (first | (refine eX hY ?_;clear hY) | fail)
   exact bodyPost_ret (v:=.tuple #[.slice none 0 0,.int .i64 11]) (by simp[results,Tryz.results59,go_sem]) rfl ⟨_,_,_,rfl,aM.nil,bZ.out⟩
theorem tL : ∀(css:List (List Value)),(∀cs∈css,cs.length=8)→∀(j:Nat) (u:Value),css.flatten[j]?=some u→∃cs,css[j / 8]?=some cs∧cs[j % 8]?=some u
 | [],_,j,u,h=>by simp at h
 |
  c::css,h,j,u,hj=>by
  have hc:=h c (by simp)
  rw[List.flatten_cons] at hj
  rcases Nat.lt_or_ge j 8 with h3 | h3
  ·rw[List.getElem?_append_left (by omega)] at hj
   exact⟨c,by rw[Nat.div_eq_of_lt h3];rfl,by rw[Nat.mod_eq_of_lt h3];exact hj⟩
  ·rw[List.getElem?_append_right (by omega),hc] at hj
   obtain⟨cs,h1,h2⟩:=tL css (fun x hx=>h x (by simp[hx])) (j-8) u hj
   refine ⟨cs,?_,by rw[show j % 8=(j-8) % 8 by omega];exact h2⟩
   rw[show j / 8=(j-8) / 8+1 by omega,List.getElem?_cons_succ]
   exact h1
theorem Mi {S:Nat→Prop} {w:World} {T:List Ex} {css:List (List Value)} (h:lH 8 jl S w T css):∀cs∈css,cs.length=8∧∀u∈cs,u.oneCell'=true:=fun cs hc=>by
 obtain⟨j,hj,e⟩:=List.getElem_of_mem hc
 have hx:T[j]?=some (T[j]'(by rw[← h.1];exact hj)):=aaf _
 obtain⟨h1,_,_,_,_,_,_,_,_,_,_,_,_,h2,_⟩:=h.2 j _ cs hx (by rw[aaf hj,e])
 refine ⟨h1,fun u hu=>?_⟩
 rw[h2] at hu
 simp only[abg,List.not_mem_nil,or_false] at hu
 rcases hu with rfl | rfl | rfl | rfl | rfl | rfl | rfl | rfl<;>rfl
theorem lH.Xp {S:Nat→Prop} {w:World} {T U:List Ex} {css nY:List (List Value)} (h:lH 8 jl S w T css) (k:lH 8 jl S w U nY):lH 8 jl S w (T++U) (css++nY) :=
 ⟨by rw[aaN,aaN,h.1,k.1],fun j x cs hx hc=>by
  rcases Nat.lt_or_ge j T.length with hj | hj
  ·rw[List.getElem?_append_left hj] at hx
   rw[List.getElem?_append_left (by rw[h.1];exact hj)] at hc
   exact h.2 j x cs hx hc
  ·rw[List.getElem?_append_right hj] at hx
   rw[List.getElem?_append_right (by rw[h.1];exact hj),h.1] at hc
   exact k.2 _ x cs hx hc⟩
theorem zI : ∀(css:List (List Value)),(∀cs∈css,cs.length=8)→css.flatten.length=css.length*8
 | [],_=>rfl
 |
  c::css,h=>by
  rw[List.flatten_cons,aaN,zI css (fun x hx=>h x (by simp[hx])),h c (by simp),aa1]
  omega
structure nV (n0:Nat) (S:Nat→Prop) (W:World) (zs:List Ex) (v:Value):Prop where
 has : ∃css,W.ownsRow n0 48 8 v zs.length css.flatten∧lH 8 jl S W zs css
theorem nV.Rq {n0:Nat} {S:Nat→Prop} {W:World} {zs:List Ex} {v:Value} (h:nV n0 S W zs v):∃a c,v = .slice a zs.length c:=by
 obtain⟨css,ho,_⟩:=h.has
 rcases ho.2 with⟨rfl,h0⟩ | ⟨_,_,_,rfl,_⟩
 ·exact⟨_,_,by rw[h0]⟩
 ·exact⟨_,_,rfl⟩
theorem oN {w W:World} {zs ys:List Ex} {v:Value} {aa:Option Addr} {nn cc:Nat} (hr:nV w.heap.size (fun b=>b<w.heap.size) W zs v) (hB:Below w.heap.size w W) (hy:aM 8 jl (fun b=>b<w.heap.size) W ys (.slice aa nn cc)) (hn:zs.length+ys.length≤1000000000) (ty:TypeId) :
  ∃v' W',(Builtin.append_ #[27,27] ty #[v,.slice aa nn cc]).run Tryz.prog W = .ok v' W'∧nV w.heap.size (fun b=>b<w.heap.size) W' (zs++ys) v'∧Below w.heap.size w W'∧Below w.heap.size W W':=by
 obtain⟨i0,hi,hy0,hy1,hy2⟩:=info_parts Tryz.sU
 obtain⟨css,ho,he⟩:=hr.has
 obtain⟨a,c,nY,hv,h1,h2,h4,h5⟩:=hy
 simp only[aah] at hv
 obtain⟨rfl,rfl,rfl⟩:=hv
 cases aa with
 |
  none =>
  have hn0:ys=[]:=by
   by_cases e:ys=[]
   ·exact e
   ·obtain⟨b,off,e2,_⟩:=h5 e
    cases e2
  subst hn0
  have hr:(Builtin.append_ #[27,27] ty #[v,.slice none 0 cc]).run Tryz.prog W = .ok v W:=by
   rcases ho.2 with⟨rfl,h0⟩ | ⟨g,cap,cur,rfl,hg0,hgg,hgc,_⟩
   ·simp[Builtin.append_,run_underlying Tryz.underlying27,sizeOf,typeInfo,hi,Builtin.lenOf,Builtin.firstCells,storeCells]
   ·simp[Builtin.append_,run_underlying Tryz.underlying27,sizeOf,typeInfo,hi,Builtin.lenOf,Builtin.firstCells,storeCells,hgc]
  exact⟨_,W,hr,⟨css,by rw[List.append_nil];exact ho,by rw[List.append_nil];exact he⟩,hB,Below.refl _ _⟩
 |
  some p =>
  have hl8:=Mi h4
  have hcells : ∀j u,nY.flatten[j]?=some u→W.cell? (p.add j)=some u:=fun j u hu=>by
   obtain⟨cs,e1,e2⟩:=tL nY (fun cs hc=>(hl8 cs hc).1) j u hu
   have hne:ys≠[]:=fun e=>by
    subst e
    have:nY=[]:=aaR h4.1
    subst this
    simp at e1
   obtain⟨b,off,hp,_,hc⟩:=h5 hne
   injection hp with hp
   subst hp
   have:=hc (j / 8) cs e1 (j % 8) u e2
   rw[show off+j / 8*8+j % 8=off+j by omega] at this
   rw[Addr.add_lit]
   exact this
  have hfl:nY.flatten.length=ys.length*8:=by rw[zI nY (fun cs hc=>(hl8 cs hc).1),h4.1]
  have hone : ∀u∈nY.flatten,u.oneCell'=true:=fun u hu=>by
   obtain⟨cs,hcs,U3⟩:=List.mem_flatten.1 hu
   exact (hl8 cs hcs).2 u U3
  obtain⟨v',W',hr,ho2,hg2,_⟩:=run_append_own (P:=Tryz.prog) W w.heap.size 27 ty 48 i0 _ 8 104 Tryz.underlying27 hi hy0 hy1 hy2 rfl (by decide) v zs.length css.flatten ho p ys.length cc nY.flatten hfl hcells hone (by unfold maxLen;omega) (by omega) hB.size
  have hsp:=jD hg2
  have hlow : ∀b,v.ownBlock=some b→w.heap.size≤b:=fun b hb=>(ho.lt b hb).1
  have hbb:Below w.heap.size W W':=hsp.below (fun i hi=>hlow i hi) hB.size
  refine ⟨v',W',hr,⟨css++nY,?_,?_⟩,hB.trans hbb,hbb⟩
  ·rw[aaN,List.flatten_append]
   exact ho2
  ·exact (he.Xp h4).to (fun x cs e=>e.to hsp (fun b hb _=>⟨fun e=>by have:=hlow b e;omega,hb⟩))
theorem NK (n:Nat) (m:Int) (w:World) (hm:m=(n:Int)) (hn:n≤1000000):Calls Tryz.prog 113 #[.slice none 0 0,.int .i64 m] w fun e w'=>∃a c,e = .returned (.slice a 0 c)∧w'.ownsRow w.heap.size 48 8 (.slice a 0 c) 0 []∧Below w.heap.size w w':=by
 subst hm
 obtain⟨i0,hi,hy0,hy1,hy2⟩:=info_parts Tryz.sU
 by_cases h0:n=0
 ·subst h0
  refine (Any8.slices_Grow_room LJ none 0 0 0 w (by omega) (by omega) (by omega) (by omega)).mono ?_
  rintro e w' ⟨rfl,rfl⟩
  exact⟨_,_,rfl,World.ownsRow_nil _ _ _ _,Below.refl _ _⟩
 ·refine (Any8.slices_Grow_grow LJ i0 _ hi hy0 (by rw[hy1];decide) none 0 0 n [] w (by omega) (by omega) (by rw[hy2];omega) (by omega) (by simp) (fun _=>rfl) (fun _ e=>by cases e)).mono ?_
  rintro e w' ⟨rfl,rfl⟩
  have hge:=grownCap_ge w (0+n) 0 (OL.t 25)
  have hle:=grownCap_le_maxLen w (0+n) 0 (OL.t 25) (by unfold maxLen;omega)
  refine ⟨_,_,rfl,⟨by simp,.inr ⟨w.heap.size,_,_,rfl,aaF _,heap_alloc_new w.drew _,aaV _,hle,?_,by simp⟩⟩,((Below.refl _ w).drew).alloc (aaF _) _⟩
  simp only[Array.size_append,size_zeroCells]
  show (#[]:Array Value).size+(0+n-0)*8+(_-(0+n))*8=_*8
  simp only[Array.size_empty]
  omega
theorem F6 (xs ys:List Ex) (a1 a2:Option Addr) (n1 c1 n2 c2 b:Nat) (w:World) (hx:aM 8 jl (fun b=>b<w.heap.size) w xs (.slice a1 n1 c1)) (hy:aM 8 jl (fun b=>b<w.heap.size) w ys (.slice a2 n2 c2)) (hb:w.heap[b]?=some (.cells #[.slice a1 n1 c1,.slice a2 n2 c2] 27)) (hn:xs.length+ys.length≤1000000) :
  Calls Tryz.prog 60 #[.slice (some ⟨b,0,none⟩) 2 2] w fun e w'=>∃v,e = .returned v∧aM 8 jl (fun _=>True) w' (xs++ys) v∧Below w.heap.size w w':=by
 have hn1:n1=xs.length:=by obtain⟨_,_,hf⟩:=hx.form;simp only[aah] at hf;exact hf.2.1
 have hn2:n2=ys.length:=by obtain⟨_,_,hf⟩:=hy.form;simp only[aah] at hf;exact hf.2.1
 subst hn1 hn2
 have HX:=hid hx
 have HY:=hid hy
 have HBK:=hid hb
 have hbl:=World.lt_of_block hb
 have kb0:w.cell? ⟨b,0,none⟩=some (.slice a1 xs.length c1):=by rw[aB _ _ _ _ _ _ hb];rfl
 have kb1:w.cell? ⟨b,1,none⟩=some (.slice a2 ys.length c2):=by rw[aB _ _ _ _ _ _ hb];rfl
 obtain⟨n,hnn⟩:∃n,xs.length=n:=⟨_,rfl⟩
 obtain⟨m,hmm⟩:∃m,ys.length=m:=⟨_,rfl⟩
 rw[hnn] at HX kb0 hn HBK
 rw[hmm] at HY kb1 hn HBK
 have hw1:IntKind.i64.wrap (0+(n:Int))=(n:Int):=by rw[rD _ (by omega) (by omega)];omega
 have hw2:IntKind.i64.wrap ((n:Int)+(m:Int))=(n:Int)+(m:Int):=rD _ (by omega) (by omega)
 have hg1 : ¬((n:Int)<0):=by omega
 have hg2 : ¬((n:Int)+(m:Int)<0):=by omega
 have O4:=hid hnn
 have HLM:=hid hmm
 clear hnn hmm
 clear hx hy hb
 go_enter Tryz.func60,Tryz.ntmps60
 go_wp2_with fail
 go_loopw [3,5,11] (fun s _ i wr=>wr=w∧((i = .int .i64 0∧s = .int .i64 0)∨(i = .int .i64 1∧s = .int .i64 n)∨(i = .int .i64 2∧s = .int .i64 ((n:Int)+(m:Int))))) (fun _ _ i _=>2-(intOf i).toNat)
 case atStart=>exact⟨by trivial,.inl ⟨rfl,rfl⟩⟩
 case round =>
  obtain⟨hwr,hrel⟩:=hrel
  obtain rfl:w=wr:=hwr.symm
  rcases hrel with⟨rfl,rfl⟩ | ⟨rfl,rfl⟩ | ⟨rfl,rfl⟩
  ·go_wp2_with fail
   go_roundw
   case rel=>exact⟨by trivial,.inr (.inl ⟨rfl,rfl⟩)⟩
   case measure=>simp[intOf]
  ·go_wp2_with fail
   go_roundw
   case rel=>exact⟨by trivial,.inr (.inr ⟨rfl,rfl⟩)⟩
   case measure=>simp[intOf]
  ·go_wp2_with fail
   refine (NK (n+m) _ _ (by omega) (by omega)).mono ?_
   rintro e w1 ⟨ga,gc,rfl,ho1,hb1⟩
   have HR1:Hid (nV w.heap.size (fun b=>b<w.heap.size) w1 [] (.slice ga 0 gc)):=hid ⟨[],ho1,lH.nil⟩
   have HB1:=hid hb1
   clear ho1 hb1
   go_wp2_with fail
   go_loopw [6,8,27] (fun v _ i wr=>Hid (Below w.heap.size w wr)∧((i = .int .i64 0∧Hid (nV w.heap.size (fun b=>b<w.heap.size) wr [] v))∨(i = .int .i64 1∧Hid (nV w.heap.size (fun b=>b<w.heap.size) wr xs v))∨(i = .int .i64 2∧Hid (nV w.heap.size (fun b=>b<w.heap.size) wr (xs++ys) v)))) (fun _ _ i _=>2-(intOf i).toNat)
   case atStart=>exact⟨HB1,.inl ⟨rfl,HR1⟩⟩
   case round =>
    obtain⟨iW,hrel⟩:=hrel
    have q0:=(iW.out.cell (p:=⟨b,0,none⟩) hbl).trans kb0
    have q1:=(iW.out.cell (p:=⟨b,1,none⟩) hbl).trans kb1
    have HXR:=hid (HX.out.to (T:=fun b=>b<w.heap.size) (by decide) (R:=fun _=>False) (ak.aA iW.out) (fun b hb _=>⟨id,hb⟩) (fun _ _ e=>e.to (R:=fun _=>False) (ak.aA iW.out) (fun b hb _=>⟨id,hb⟩)))
    have HYR:=hid (HY.out.to (T:=fun b=>b<w.heap.size) (by decide) (R:=fun _=>False) (ak.aA iW.out) (fun b hb _=>⟨id,hb⟩) (fun _ _ e=>e.to (R:=fun _=>False) (ak.aA iW.out) (fun b hb _=>⟨id,hb⟩)))
    rcases hrel with⟨rfl,HR⟩ | ⟨rfl,HR⟩ | ⟨rfl,HR⟩
    ·obtain⟨v',W',hrun,hrow,hbW,_⟩:=oN HR.out iW.out HXR.out (by first | (rw[O4.out,HLM.out];omega) | (rw[O4.out,List.length_nil];omega)) 27
     have rQ:=hid hrun
     have GY:=hid hrow
     have eF:=hid hbW
     clear hrun hrow hbW HR
     go_wp2_with (first | (at_builtin;refine wpList_append_run _ rfl (.tmp 31) (.tmp 32) 27 rfl _ _ _ _ rfl rfl rQ.out ?_) | fail)
     go_roundw
     case rel=>exact⟨eF,.inr (.inl ⟨rfl,GY⟩)⟩
     case measure=>simp[intOf]
    ·obtain⟨v',W',hrun,hrow,hbW,_⟩:=oN HR.out iW.out HYR.out (by first | (rw[O4.out,HLM.out];omega) | (rw[O4.out,List.length_nil];omega)) 27
     have rQ:=hid hrun
     have GY:=hid hrow
     have eF:=hid hbW
     clear hrun hrow hbW HR
     go_wp2_with (first | (at_builtin;refine wpList_append_run _ rfl (.tmp 31) (.tmp 32) 27 rfl _ _ _ _ rfl rfl rQ.out ?_) | fail)
     go_roundw
     case rel=>exact⟨eF,.inr (.inr ⟨rfl,GY⟩)⟩
     case measure=>simp[intOf]
    ·obtain⟨va,vc,rfl⟩:=HR.out.Rq
     obtain⟨css,ho,he⟩:=HR.out.has
     have HS:=hid ((aM.iM (S:=fun _=>True) (by decide) ho (he.to (fun x cs e=>e.to (R:=fun _=>False) (ak.refl _ _) (fun b hb _=>⟨id,trivial⟩))) (fun b hb=>trivial)))
     clear ho he HR
     go_wp2_with fail
     go_ret
     exact⟨_,rfl,HS.out,iW.out⟩
end Go.Proofs.YtfeglkleoijlaaaGreatDoor
