/- Packed for the hand-in: KLays KSelC KScope KCat -/
import Derived.Shelf.Spec.SlicesGrow
import Derived.Test.YtfeglkleoijlaaaGreatDoorChecked
import Derived.Test.YtfeglkleoijlaaaGreatDoorZ39
namespace Go.Proofs.YtfeglkleoijlaaaGreatDoor
open Go.Shelf
set_option linter.unusedVariables false
set_option maxRecDepth 100000
set_option maxHeartbeats 8000000
def Cw:Ren:=⟨fun x=>if x=4 then 113 else x,fun x=>if x=0 then 0 else if x=3 then 3 else if x=4 then 4 else if x=9 then 9 else if x=20 then 20 else if x=22 then 27 else if x=25 then 48 else x,fun x=>x⟩
theorem BZ:Lays8.n4 Tryz.prog Cw where
 mixed:=by kernel_rfl
 f4:=⟨"slices.Grow[[]vestry/api.Expr,vestry/api.Expr]", by decide,by kernel_rfl⟩
 t0:=by kernel_rfl
 a0:=fun w=>by kernel_rfl
 z0:=fun w=>by kernel_rfl
 v0:=fun w=>by kernel_rfl
 t3:=by kernel_rfl
 a3:=fun w=>by kernel_rfl
 z3:=fun w=>by kernel_rfl
 v3:=fun w=>by kernel_rfl
 t4:=by kernel_rfl
 a4:=fun w=>by kernel_rfl
 z4:=fun w=>by kernel_rfl
 v4:=fun w=>by kernel_rfl
 t9:=by kernel_rfl
 a9:=fun w=>by kernel_rfl
 z9:=fun w=>by kernel_rfl
 v9:=fun w=>by kernel_rfl
 t20:=by kernel_rfl
 a20:=fun w=>by kernel_rfl
 z20:=fun w=>by kernel_rfl
 v20:=fun w=>by kernel_rfl
 t22:=by kernel_rfl
 a22:=fun w=>by kernel_rfl
 z22:=fun w=>by kernel_rfl
 v22:=fun w=>by kernel_rfl
end Go.Proofs.YtfeglkleoijlaaaGreatDoor
namespace Go.Proofs.YtfeglkleoijlaaaGreatDoor
open Go.RowKit Go.Shelf
set_option linter.unusedSimpArgs false
set_option linter.unusedVariables false
set_option maxRecDepth 20000
set_option maxHeartbeats 8000000
def G6 {α:Type} (xs:List α) (p:α→Bool):Int:=if xs.findIdx p<xs.length then (xs.findIdx p:Nat) else -1
theorem Gy {α:Type} (xs:List α) (p:α→Bool):decide (0≤G6 xs p)=xs.any p:=by
 unfold G6
 cases h:xs.any p with
 |
  true =>
  have:xs.findIdx p<xs.length:=by
   rw[List.findIdx_lt_length]
   simpa using h
  rw[if_pos this]
  exact decide_eq_true (by omega)
 |
  false =>
  have : ¬xs.findIdx p<xs.length:=by
   rw[List.findIdx_lt_length]
   simpa using h
  rw[if_neg this]
  exact decide_eq_false (by omega)
theorem xD {α:Type} {xs:List α} {p:α→Bool} {k:Nat} {x:α} (hk:k≤xs.findIdx p) (hx:xs[k]?=some x) (hp:p x=true):xs.findIdx p=k:=by
 obtain⟨h1,h2⟩:=List.getElem?_eq_some_iff.1 hx
 rcases Nat.lt_or_ge k (xs.findIdx p) with h | h
 ·have:=List.not_of_lt_findIdx h
  rw[h2,hp] at this
  exact absurd this (by simp)
 ·omega
theorem vD {α:Type} {xs:List α} {p:α→Bool} {k:Nat} {x:α} (hk:k≤xs.findIdx p) (hx:xs[k]?=some x) (hp:p x=false):k+1≤xs.findIdx p:=by
 obtain⟨h1,h2⟩:=List.getElem?_eq_some_iff.1 hx
 rcases Nat.lt_or_ge k (xs.findIdx p) with h | h
 ·exact h
 ·have e:xs.findIdx p=k:=by omega
  have:=List.findIdx_getElem (p:=p) (xs:=xs) (w:=by omega)
  simp only[e] at this
  rw[h2,hp] at this
  cases this
def jk (i:It):Bool:=decide (3≤i.k∧i.k≤7)
theorem yu (i:It) (a:Option Addr) (n c:Nat) (w:World):Calls Tryz.prog 115 #[.agg #[.int .i64 i.k,.slice a n c]] w fun e w'=>e = .returned (.bool (jk i))∧Below w.heap.size w w':=by
 obtain⟨W,hWW,hbW,hzW,hcW⟩:=aL w (.cells #[.int .i64 i.k,.slice a n c] 55)
 have k0:=oK hcW
 have HB:=hid hbW
 obtain⟨k,xs⟩:=i
 dsimp only at *
 unfold jk
 dsimp only
 clear hbW hcW
 by_cases h3:3≤k
 ·by_cases h7:k≤7
  ·rw[decide_eq_true ⟨h3,h7⟩]
   go_enter Tryz.func115,Tryz.ntmps115
   go_wp2_with fail
   try rw[hWW]
   go_wp2
   go_ret
   exact⟨rfl,HB.out⟩
  ·rw[decide_eq_false (fun h=>h7 h.2)]
   go_enter Tryz.func115,Tryz.ntmps115
   go_wp2_with fail
   try rw[hWW]
   go_wp2
   go_ret
   exact⟨rfl,HB.out⟩
 ·rw[decide_eq_false (fun h=>h3 h.1)]
  go_enter Tryz.func115,Tryz.ntmps115
  go_wp2_with fail
  try rw[hWW]
  go_wp2
  go_ret
  exact⟨rfl,HB.out⟩
theorem vO (T:Nat→Prop) (xs:List It) (v:Value) (w:World) (h:aQ 2 qo T w xs v) :
  Calls Tryz.prog 154 #[v,.func (.func 115) #[] #[]] w fun e w'=>e = .returned (.int .i64 (G6 xs jk))∧Below w.heap.size w w':=by
 have HV:=hid h
 obtain⟨aa,cc,css,rfl,h1,h2,_⟩:=h
 unfold maxLen at h2
 obtain⟨R,hR⟩:∃R,G6 xs jk=R:=⟨_,rfl⟩
 rw[hR]
 have HR:=hid hR
 clear hR
 have eg:=enters_of Tryz.func115 (by kernel_rfl) rfl
 go_enter Tryz.func154,Tryz.ntmps154
 go_wp2_with fail
 go_loopw [5,8] (fun _ i wr=>∃k:Nat,k≤xs.length∧i = .int .i64 k∧Hid (Below w.heap.size w wr)∧Hid (k≤xs.findIdx jk)) (fun _ i _=>xs.length-(intOf i).toNat)
 case atStart=>exact⟨0,Nat.zero_le _,rfl,hid (Below.refl _ _),hid (Nat.zero_le _)⟩
 case round =>
  obtain⟨k,hk,rfl,HB,HK⟩:=hrel
  by_cases hlt:k<xs.length
  ·obtain⟨y,hy⟩:∃y,xs[k]?=some y:=⟨_,List.getElem?_eq_getElem hlt⟩
   obtain⟨_,_,_,b,off,ds,rfl,_,hel,hcell⟩:=bN (HV.out.to (T:=T) (by decide) (R:=fun _=>False) (aA.aC HB.out) (fun b hb _=>⟨id,hb⟩) (fun _ _ e=>e.to (R:=fun _=>False) (aA.aC HB.out) (fun b hb _=>⟨id,hb⟩))) hy
   obtain⟨ia,im,ic,rfl,_⟩:=hel
   have q0:=hcell 0 _ rfl
   have q1:=hcell 1 _ rfl
   simp only[Nat.add_zero] at q0
   have hlt':((k:Int)<(xs.length:Int)):=by omega
   have HN:=hid (yu y ia im ic wr)
   cases hp:jk y with
   |
    true =>
    rw[hp] at HN
    have e:=xD HK.out hy hp
    have HRR:Hid (R=(k:Int)):=hid (by rw[← HR.out];unfold G6;rw[e,if_pos hlt])
    clear e hy HK hp hcell
    go_wp2_with fail
    refine HN.out.mono ?_
    rintro e w1 ⟨rfl,hb1⟩
    have HB1:=hid (HB.out.trans (hb1.mono HB.out.size))
    clear hb1 HN
    go_wp2
    go_ret
    exact⟨by rw[HRR.out];rfl,HB1.out⟩
   |
    false =>
    rw[hp] at HN
    have HK2:=hid (vD HK.out hy hp)
    clear hy HK hp hcell
    go_wp2_with fail
    refine HN.out.mono ?_
    rintro e w1 ⟨rfl,hb1⟩
    have HB1:=hid (HB.out.trans (hb1.mono HB.out.size))
    clear hb1 HN
    go_wp2
    go_roundw
    case rel=>exact⟨k+1,by omega,by go_num,HB1,HK2⟩
    case measure=>simp[intOf];omega
  ·have hlt' : ¬((k:Int)<(xs.length:Int)):=by omega
   have HRR:Hid (R = -1):=hid (by rw[← HR.out];unfold G6;rw[if_neg (by have:=HK.out;omega)])
   clear HK
   go_wp2
   go_ret
   exact⟨by rw[HRR.out];rfl,HB.out⟩
theorem pK (T:Nat→Prop) (xs:List It) (v:Value) (w:World) (h:aQ 2 qo T w xs v) :
  Calls Tryz.prog 114 #[v,.func (.func 115) #[] #[]] w fun e w'=>e = .returned (.bool (xs.any jk))∧Below w.heap.size w w':=by
 have HI:=hid (vO T xs v w h)
 rw[← Gy]
 obtain⟨aa,cc,css,rfl,_⟩:=h
 generalize G6 xs _=r at HI ⊢
 go_enter Tryz.func114,Tryz.ntmps114
 go_wp2_with fail
 refine HI.out.mono ?_
 rintro e w1 ⟨rfl,hb1⟩
 have HB1:=hid hb1
 clear hb1
 go_wp2
 go_ret
 exact⟨by simp,HB1.out⟩
theorem lq (T:Nat→Prop) (s:St) (sc:List Value) (w:World) (hs:eZ T w s sc) :
  Calls Tryz.prog 61 #[.agg sc.toArray] w fun e w'=>e = .returned (.bool (bZ s))∧Below w.heap.size w w':=by
 obtain⟨b1,b2,b3,b4,b5,b6,b7,b8,m1,m2,m3,m4,m5,m6,m7,m8,d1,d2,d3,d4,d5,d6,d7,d8,rfl,_,_,_,hit,_,_,hgr,_⟩:=hs
 have hm7:m7=s.gr.length:=by obtain⟨_,_,hf,_⟩:=hgr.form;simp only[Value.slice.injEq] at hf;exact hf.2.1
 obtain⟨W,hWW,hbW,hzW,hcW⟩:=aL w (.cells #[.int .i64 s.k,.string (aj s.tb),.slice b1 m1 d1,.string (aj s.prim),.slice b2 m2 d2,.slice b3 m3 d3,.slice b4 m4 d4,.string (aj s.jn),.slice b5 m5 d5,.slice b6 m6 d6,.slice b7 m7 d7,.slice b8 m8 d8,.bool s.desc,.int .i64 s.lim] 29)
 have k0:=ay hcW
 have HC:=hid (pK T s.items _ W (hit.to (by decide) (R:=fun _=>False) (aA.aC hbW) (fun b hb _=>⟨id,hb⟩) (fun _ _ e=>e.to (R:=fun _=>False) (aA.aC hbW) (fun b hb _=>⟨id,hb⟩))))
 have HB:=hid hbW
 unfold bZ
 show Calls Tryz.prog _ _ w fun e w'=>e = .returned (.bool (decide (0<s.gr.length)||s.items.any jk))∧Below w.heap.size w w'
 generalize s.items.any jk=r at HC ⊢
 clear hbW hcW hit hgr
 by_cases hg:0<s.gr.length
 ·rw[decide_eq_true hg,Bool.true_or]
  have hg1:((0:Int)<(m7:Int)):=by omega
  clear hg hm7
  go_enter Tryz.func61,Tryz.ntmps61
  go_wp2_with fail
  try rw[hWW]
  go_wp2_with fail
  go_ret
  exact⟨rfl,HB.out⟩
 ·rw[decide_eq_false hg,Bool.false_or]
  have hg1 : ¬((0:Int)<(m7:Int)):=by omega
  clear hg hm7
  go_enter Tryz.func61,Tryz.ntmps61
  go_wp2_with fail
  try rw[hWW]
  refine HC.out.mono ?_
  rintro e w1 ⟨rfl,hb1⟩
  have HB1:=hid (HB.out.trans (hb1.mono HB.out.size))
  clear hb1 HC
  go_wp2_with fail
  go_ret
  exact⟨rfl,HB1.out⟩
theorem fV (a:ByteArray) (b:Option Addr) (c d:Nat) (e:Int):(#[Value.string a,.slice b c d,.int .i64 e]:Array Value).all (·.oneCell')=true:=zA a b c d e
def oH (c:Int) (b:Bool):Int:=if c=0∧b=true then 13 else c
theorem vQ (S:Nat→Prop) (s:St) (sc:List Value) (b:Bool) (w:World) (hT:eH w) (hR:xH s) (hs:eZ S w s sc) :
  Calls Tryz.prog 20 #[.agg sc.toArray,.bool b] w fun e w'=>e = .returned (.int .i64 (oH (bP s).2 b))∧Below w.heap.size w w':=by
 have hs0:=hs
 obtain⟨b1,b2,b3,b4,b5,b6,b7,b8,m1,m2,m3,m4,m5,m6,m7,m8,d1,d2,d3,d4,d5,d6,d7,d8,rfl,_⟩:=hs
 obtain⟨W,hWW,hbW,hzW,hcW⟩:=aL w (.cells #[.int .i64 s.k,.string (aj s.tb),.slice b1 m1 d1,.string (aj s.prim),.slice b2 m2 d2,.slice b3 m3 d3,.slice b4 m4 d4,.string (aj s.jn),.slice b5 m5 d5,.slice b6 m6 d6,.slice b7 m7 d7,.slice b8 m8 d8,.bool s.desc,.int .i64 s.lim] 29)
 have k0:=ay hcW
 have HM:=hid (xu S s _ W (hT.on hbW) hR (hs0.to (R:=fun _=>False) (aA.aC hbW) (fun b hb _=>⟨id,hb⟩)))
 have HB:=hid hbW
 unfold oH
 generalize bP s=R at HM ⊢
 obtain⟨t,c⟩:=R
 dsimp only at HM ⊢
 clear hbW hcW hs0 hT hR
 by_cases hc:c=0
 ·subst hc
  cases b with
  |
   true =>
   rw[if_pos ⟨rfl,rfl⟩]
   go_enter Tryz.func20,Tryz.ntmps20
   go_wp2_with fail
   try rw[hWW]
   refine HM.out.mono ?_
   rintro e w1 ⟨ds,rfl,hto,hb1⟩
   obtain⟨a2,n2,c2,rfl,_⟩:=hto
   obtain⟨Y,hY,hbY,hzY,hcY⟩:=aL w1 (.cells #[.string (aj t.nm),.slice a2 n2 c2,.int .i64 t.pr] 42)
   have HB1:=HB.out.trans (hb1.mono HB.out.size)
   have HBY:=hid (HB1.trans (hbY.mono HB1.size))
   clear hb1 hbY hcY HB1 HM k0
   go_wp2_with (first | (refine wpList_store_row rfl 42 (.tmp 5) (.tmp 10) rfl w1.heap.size #[.string (aj t.nm),.slice a2 n2 c2,.int .i64 t.pr] rfl rfl 42 #[.string ⟨#[]⟩,.slice none 0 0,.int .i64 0] (heap_alloc_new w1 _) Tryz.bW rfl (fV _ _ _ _ _) ?_;rw[aB,hY];clear hY) | fail)
   go_ret
   exact⟨rfl,HBY.out⟩
  |
   false =>
   rw[if_neg (fun h=>by cases h.2)]
   go_enter Tryz.func20,Tryz.ntmps20
   go_wp2_with fail
   try rw[hWW]
   refine HM.out.mono ?_
   rintro e w1 ⟨ds,rfl,hto,hb1⟩
   obtain⟨a2,n2,c2,rfl,_⟩:=hto
   obtain⟨Y,hY,hbY,hzY,hcY⟩:=aL w1 (.cells #[.string (aj t.nm),.slice a2 n2 c2,.int .i64 t.pr] 42)
   have HB1:=HB.out.trans (hb1.mono HB.out.size)
   have HBY:=hid (HB1.trans (hbY.mono HB1.size))
   clear hb1 hbY hcY HB1 HM k0
   go_wp2_with (first | (refine wpList_store_row rfl 42 (.tmp 5) (.tmp 10) rfl w1.heap.size #[.string (aj t.nm),.slice a2 n2 c2,.int .i64 t.pr] rfl rfl 42 #[.string ⟨#[]⟩,.slice none 0 0,.int .i64 0] (heap_alloc_new w1 _) Tryz.bW rfl (fV _ _ _ _ _) ?_;rw[aB,hY];clear hY) | fail)
   go_ret
   exact⟨rfl,HBY.out⟩
 ·rw[if_neg (fun h=>hc h.1)]
  have hc2:(c==0)=false:=by rw[beq_eq_false_iff_ne];exact hc
  clear hc
  go_enter Tryz.func20,Tryz.ntmps20
  go_wp2_with fail
  try rw[hWW]
  refine HM.out.mono ?_
  rintro e w1 ⟨ds,rfl,hto,hb1⟩
  obtain⟨a2,n2,c2,rfl,_⟩:=hto
  obtain⟨Y,hY,hbY,hzY,hcY⟩:=aL w1 (.cells #[.string (aj t.nm),.slice a2 n2 c2,.int .i64 t.pr] 42)
  have HB1:=HB.out.trans (hb1.mono HB.out.size)
  have HBY:=hid (HB1.trans (hbY.mono HB1.size))
  clear hb1 hbY hcY HB1 HM k0
  go_wp2_with (first | (refine wpList_store_row rfl 42 (.tmp 5) (.tmp 10) rfl w1.heap.size #[.string (aj t.nm),.slice a2 n2 c2,.int .i64 t.pr] rfl rfl 42 #[.string ⟨#[]⟩,.slice none 0 0,.int .i64 0] (heap_alloc_new w1 _) Tryz.bW rfl (fV _ _ _ _ _) ?_;rw[aB,hY];clear hY) | fail)
  go_ret
  exact⟨rfl,HBY.out⟩
theorem FN {S:Nat→Prop} {W:World} {t u:Tb} {c0 c1 c2 d0 d1 d2:Value} {g:Nat} (hg:W.heap[g]?=some (.cells #[c0,c1,c2,d0,d1,d2] 42)) (ht:dK S W t [c0,c1,c2]) (hu:dK S W u [d0,d1,d2]):aQ 3 dK (fun b=>S b∨b=g) W [t,u] (.slice (some ⟨g,0,none⟩) 2 2):=by
 refine ⟨_,2,[[c0,c1,c2],[d0,d1,d2]],rfl,Nat.le_refl _,by unfold maxLen;omega,⟨rfl,fun j x ds hx hd=>?_⟩,fun _=>⟨g,0,rfl,.inr rfl,fun j ds hd i v hv=>?_⟩⟩
 ·match j,hx,hd with
  |
   0,hx,hd =>
   simp only[List.getElem?_cons_zero,Option.some.injEq] at hx hd
   subst hx hd
   exact⟨rfl,ht.to (R:=fun _=>False) (aA.refl _ _) (fun b hb _=>⟨id,.inl hb⟩)⟩
  |
   1,hx,hd =>
   simp only[List.getElem?_cons_zero,List.getElem?_cons_succ,Option.some.injEq] at hx hd
   subst hx hd
   exact⟨rfl,hu.to (R:=fun _=>False) (aA.refl _ _) (fun b hb _=>⟨id,.inl hb⟩)⟩
  | j+2,hx,_=>simp at hx
 ·match j,hd with
  |
   0,hd =>
   simp only[List.getElem?_cons_zero,Option.some.injEq] at hd
   subst hd
   match i,hv with
   | 0,hv=>rw[cell_of_row _ _ _ _ _ _ hg];simpa using hv
   | 1,hv=>rw[cell_of_row _ _ _ _ _ _ hg];simpa using hv
   | 2,hv=>rw[cell_of_row _ _ _ _ _ _ hg];simpa using hv
   | i+3,hv=>simp at hv
  |
   1,hd =>
   simp only[List.getElem?_cons_zero,List.getElem?_cons_succ,Option.some.injEq] at hd
   subst hd
   match i,hv with
   | 0,hv=>rw[cell_of_row _ _ _ _ _ _ hg];simpa using hv
   | 1,hv=>rw[cell_of_row _ _ _ _ _ _ hg];simpa using hv
   | 2,hv=>rw[cell_of_row _ _ _ _ _ _ hg];simpa using hv
   | i+3,hv=>simp at hv
  | j+2,hd=>simp at hd
theorem aQ.F6 {z:Nat} {S T:Nat→Prop} {w:World} {L:List Tb} {v:Value} (h:aQ z dK S w L v) (hz:0<z) (hS : ∀b,S b→T b):aQ z dK T w L v :=
 h.to hz (R:=fun _=>False) (aA.refl _ _) (fun b hb _=>⟨id,hS b hb⟩) (fun _ _ e=>e.to (R:=fun _=>False) (aA.refl _ _) (fun b hb _=>⟨id,hS b hb⟩))
theorem wG (sb mb:Nat) (E:DataW Value) (f:List UInt8→Value) (C:List Tb) (S2:Nat→Prop) (t:Tb) (jn:List UInt8) (cs:List Value) (w:World) (hC:dY w sb mb E f C S2) (ht:dK (fun b=>b<w.heap.size) w t cs) (hj:jn.length≤maxLen) :
  Calls Tryz.prog 59 #[.pointer (some ⟨sb,0,none⟩),.agg cs.toArray,.string (aj jn)] w fun e w'=>∃a n c,e = .returned (.tuple #[.slice a n c,.int .i64 (iy C t jn).2])∧aQ 3 dK (fun _=>True) w' (iy C t jn).1 (.slice a n c)∧Below w.heap.size w w':=by
 have ht0:=ht
 obtain⟨a1,n1,c1,rfl,_⟩:=ht
 obtain⟨W,hWW,hbW,hzW,hcW⟩:=aL w (.cells #[.string (aj t.nm),.slice a1 n1 c1,.int .i64 t.pr] 42)
 have k0:=aH hcW
 have HF:=hid (sU sb mb E f C S2 jn W (hC.new hbW) hj)
 have HT0:=hid (ht0.on hbW)
 have HB:=hid hbW
 have HC:=hid hcW
 unfold iy
 clear hC ht0 hbW hcW
 by_cases hjn:jn=[]
 ·subst hjn
  rw[if_pos rfl]
  obtain⟨Y,hY,hbY,hzY,hcY⟩:=aL W (.cells #[.string (aj t.nm),.slice a1 n1 c1,.int .i64 t.pr] 42)
  have HR:=hid ((oD (cs:=[.string (aj t.nm),.slice a1 n1 c1,.int .i64 t.pr]) hcY (HT0.out.on hbY)).F6 (by decide) (T:=fun _=>True) (fun _ _=>trivial))
  have HBY:=hid (HB.out.trans (hbY.mono HB.out.size))
  clear hbY hcY HF HC
  have h0:(aj ([]:List UInt8)).toList.isEmpty=true:=by rw[bg];rfl
  go_enter Tryz.func59,Tryz.ntmps59
  go_wp2_with fail
  try rw[hWW]
  go_wp2_with fail
  try rw[hY]
  exact bodyPost_ret (v:=.tuple #[.slice (some ⟨W.heap.size,0,none⟩) 1 1,.int .i64 0]) (by simp[results,Tryz.results59,go_sem]) rfl ⟨_,_,_,rfl,HR.out,HBY.out⟩
 ·rw[if_neg hjn]
  have h0:(aj jn).toList.isEmpty=false:=by rw[bg];cases jn with | nil=>exact absurd rfl hjn | cons _ _=>rfl
  generalize eu C jn=u at HF ⊢
  by_cases hin:jn∈C.map Tb.nm
  ·rw[decide_eq_true hin] at HF
   rw[if_neg (fun h=>h hin)]
   clear hin hjn
   by_cases hnm:u.nm=t.nm
   ·rw[if_pos hnm]
    have h1:((aj u.nm).toList==(aj t.nm).toList)=true:=by rw[iV];exact decide_eq_true hnm
    clear hnm
    go_enter Tryz.func59,Tryz.ntmps59
    go_wp2_with fail
    try rw[hWW]
    refine HF.out.mono ?_
    rintro e w1 ⟨ds,rfl,hto,hb1⟩
    have HU:=hid hto.e
    obtain⟨a2,n2,c2,rfl,_⟩:=hto
    obtain⟨Y,hY,hbY,hzY,hcY⟩:=aL w1 (.cells #[.string (aj u.nm),.slice a2 n2 c2,.int .i64 u.pr] 42)
    have HB1:=hid (HB.out.trans (hb1.mono HB.out.size))
    have HBY:=hid (HB1.out.trans (hbY.mono HB1.out.size))
    have kA:=aH ((hbY.block _ (by have:=hb1.size;omega)).trans ((hb1.block _ hzW).trans HC.out))
    have kB:=aH hcY
    have HTY:=hid ((HT0.out.on hb1).on hbY)
    have HUY:=hid (HU.out.on hbY)
    clear hb1 hbY hcY HF k0 HU HT0 HC
    go_wp2_with (first | (refine wpList_store_row rfl 42 (.tmp 8) (.tmp 18) rfl w1.heap.size #[.string (aj u.nm),.slice a2 n2 c2,.int .i64 u.pr] rfl rfl 42 #[.string ⟨#[]⟩,.slice none 0 0,.int .i64 0] (heap_alloc_new w1 _) Tryz.bW rfl (fV _ _ _ _ _) ?_;rw[aB,hY];clear hY) | fail)
    exact bodyPost_ret (v:=.tuple #[.slice none 0 0,.int .i64 13]) (by simp[results,Tryz.results59,go_sem]) rfl ⟨_,_,_,rfl,aQ.nil,HBY.out⟩
   ·rw[if_neg hnm]
    have h1:((aj u.nm).toList==(aj t.nm).toList)=false:=by rw[iV];exact decide_eq_false hnm
    clear hnm
    go_enter Tryz.func59,Tryz.ntmps59
    go_wp2_with fail
    try rw[hWW]
    refine HF.out.mono ?_
    rintro e w1 ⟨ds,rfl,hto,hb1⟩
    have HU:=hid hto.e
    obtain⟨a2,n2,c2,rfl,_⟩:=hto
    obtain⟨Y,hY,hbY,hzY,hcY⟩:=aL w1 (.cells #[.string (aj u.nm),.slice a2 n2 c2,.int .i64 u.pr] 42)
    have HB1:=hid (HB.out.trans (hb1.mono HB.out.size))
    have HBY:=hid (HB1.out.trans (hbY.mono HB1.out.size))
    have kA:=aH ((hbY.block _ (by have:=hb1.size;omega)).trans ((hb1.block _ hzW).trans HC.out))
    have kB:=aH hcY
    have HTY:=hid ((HT0.out.on hb1).on hbY)
    have HUY:=hid (HU.out.on hbY)
    clear hb1 hbY hcY HF k0 HU HT0 HC
    go_wp2_with (first | (refine wpList_store_row rfl 42 (.tmp 8) (.tmp 18) rfl w1.heap.size #[.string (aj u.nm),.slice a2 n2 c2,.int .i64 u.pr] rfl rfl 42 #[.string ⟨#[]⟩,.slice none 0 0,.int .i64 0] (heap_alloc_new w1 _) Tryz.bW rfl (fV _ _ _ _ _) ?_;rw[aB,hY];clear hY) | fail)
    obtain⟨Z,hZ,hbZ,hzZ,hcZ⟩:=aL Y (.cells #[.string (aj t.nm),.slice a1 n1 c1,.int .i64 t.pr,.string (aj u.nm),.slice a2 n2 c2,.int .i64 u.pr] 42)
    have HR:=hid ((FN (S:=fun _=>True) hcZ ((HTY.out.on hbZ).to (R:=fun _=>False) (aA.refl _ _) (fun b hb _=>⟨id,trivial⟩)) ((HUY.out.on hbZ).to (R:=fun _=>False) (aA.refl _ _) (fun b hb _=>⟨id,trivial⟩))).F6 (by decide) (T:=fun _=>True) (fun _ _=>trivial))
    have HBZ:=hid (HBY.out.trans (hbZ.mono HBY.out.size))
    clear hbZ hcZ HTY HUY
    go_wp2_with fail
    try rw[hZ]
    exact bodyPost_ret (v:=.tuple #[.slice (some ⟨Y.heap.size,0,none⟩) 2 2,.int .i64 0]) (by simp[results,Tryz.results59,go_sem]) rfl ⟨_,_,_,rfl,HR.out,HBZ.out⟩
  ·rw[decide_eq_false hin] at HF
   rw[if_pos hin]
   clear hin hjn
   go_enter Tryz.func59,Tryz.ntmps59
   go_wp2_with fail
   try rw[hWW]
   refine HF.out.mono ?_
   rintro e w1 ⟨ds,rfl,hto,hb1⟩
   have HU:=hid hto.e
   obtain⟨a2,n2,c2,rfl,_⟩:=hto
   obtain⟨Y,hY,hbY,hzY,hcY⟩:=aL w1 (.cells #[.string (aj u.nm),.slice a2 n2 c2,.int .i64 u.pr] 42)
   have HB1:=hid (HB.out.trans (hb1.mono HB.out.size))
   have HBY:=hid (HB1.out.trans (hbY.mono HB1.out.size))
   have kA:=aH ((hbY.block _ (by have:=hb1.size;omega)).trans ((hb1.block _ hzW).trans HC.out))
   have kB:=aH hcY
   have HTY:=hid ((HT0.out.on hb1).on hbY)
   have HUY:=hid (HU.out.on hbY)
   clear hb1 hbY hcY HF k0 HU HT0 HC
   go_wp2_with (first | (refine wpList_store_row rfl 42 (.tmp 8) (.tmp 18) rfl w1.heap.size #[.string (aj u.nm),.slice a2 n2 c2,.int .i64 u.pr] rfl rfl 42 #[.string ⟨#[]⟩,.slice none 0 0,.int .i64 0] (heap_alloc_new w1 _) Tryz.bW rfl (fV _ _ _ _ _) ?_;rw[aB,hY];clear hY) | fail)
   exact bodyPost_ret (v:=.tuple #[.slice none 0 0,.int .i64 11]) (by simp[results,Tryz.results59,go_sem]) rfl ⟨_,_,_,rfl,aQ.nil,HBY.out⟩
theorem mh : ∀(css:List (List Value)),(∀cs∈css,cs.length=8)→∀(j:Nat) (u:Value),css.flatten[j]?=some u→∃cs,css[j / 8]?=some cs∧cs[j % 8]?=some u
 | [],_,j,u,h=>by simp at h
 |
  c::css,h,j,u,hj=>by
  have hc:=h c (by simp)
  rw[List.flatten_cons] at hj
  rcases Nat.lt_or_ge j 8 with h3 | h3
  ·rw[List.getElem?_append_left (by omega)] at hj
   exact⟨c,by rw[Nat.div_eq_of_lt h3];rfl,by rw[Nat.mod_eq_of_lt h3];exact hj⟩
  ·rw[List.getElem?_append_right (by omega),hc] at hj
   obtain⟨cs,h1,h2⟩:=mh css (fun x hx=>h x (by simp[hx])) (j-8) u hj
   refine ⟨cs,?_,by rw[show j % 8=(j-8) % 8 by omega];exact h2⟩
   rw[show j / 8=(j-8) / 8+1 by omega,List.getElem?_cons_succ]
   exact h1
theorem Es {S:Nat→Prop} {w:World} {T:List Ex} {css:List (List Value)} (h:gJ 8 gu S w T css):∀cs∈css,cs.length=8∧∀u∈cs,u.oneCell'=true:=fun cs hc=>by
 obtain⟨j,hj,e⟩:=List.getElem_of_mem hc
 have hx:T[j]?=some (T[j]'(by rw[← h.1];exact hj)):=List.getElem?_eq_getElem _
 obtain⟨h1,_,_,_,_,_,_,_,_,_,_,_,_,h2,_⟩:=h.2 j _ cs hx (by rw[List.getElem?_eq_getElem hj,e])
 refine ⟨h1,fun u hu=>?_⟩
 rw[h2] at hu
 simp only[List.mem_cons,List.not_mem_nil,or_false] at hu
 rcases hu with rfl | rfl | rfl | rfl | rfl | rfl | rfl | rfl<;>rfl
theorem gJ.IU {S:Nat→Prop} {w:World} {T U:List Ex} {css dss:List (List Value)} (h:gJ 8 gu S w T css) (k:gJ 8 gu S w U dss):gJ 8 gu S w (T++U) (css++dss) :=
 ⟨by rw[List.length_append,List.length_append,h.1,k.1],fun j x cs hx hc=>by
  rcases Nat.lt_or_ge j T.length with hj | hj
  ·rw[List.getElem?_append_left hj] at hx
   rw[List.getElem?_append_left (by rw[h.1];exact hj)] at hc
   exact h.2 j x cs hx hc
  ·rw[List.getElem?_append_right hj] at hx
   rw[List.getElem?_append_right (by rw[h.1];exact hj),h.1] at hc
   exact k.2 _ x cs hx hc⟩
theorem sQ : ∀(css:List (List Value)),(∀cs∈css,cs.length=8)→css.flatten.length=css.length*8
 | [],_=>rfl
 |
  c::css,h=>by
  rw[List.flatten_cons,List.length_append,sQ css (fun x hx=>h x (by simp[hx])),h c (by simp),List.length_cons]
  omega
structure jc (n0:Nat) (S:Nat→Prop) (W:World) (zs:List Ex) (v:Value):Prop where
 has : ∃css,W.ownsRow n0 48 8 v zs.length css.flatten∧gJ 8 gu S W zs css
theorem jc.F9 {n0:Nat} {S:Nat→Prop} {W:World} {zs:List Ex} {v:Value} (h:jc n0 S W zs v):∃a c,v = .slice a zs.length c:=by
 obtain⟨css,ho,_⟩:=h.has
 rcases ho.2 with⟨rfl,h0⟩ | ⟨_,_,_,rfl,_⟩
 ·exact⟨_,_,by rw[h0]⟩
 ·exact⟨_,_,rfl⟩
theorem jq {w W:World} {zs ys:List Ex} {v:Value} {aa:Option Addr} {nn cc:Nat} (hr:jc w.heap.size (fun b=>b<w.heap.size) W zs v) (hB:Below w.heap.size w W) (hy:aQ 8 gu (fun b=>b<w.heap.size) W ys (.slice aa nn cc)) (hn:zs.length+ys.length≤1000000000) (ty:TypeId) :
  ∃v' W',(Builtin.append_ #[27,27] ty #[v,.slice aa nn cc]).run Tryz.prog W = .ok v' W'∧jc w.heap.size (fun b=>b<w.heap.size) W' (zs++ys) v'∧Below w.heap.size w W'∧Below w.heap.size W W':=by
 obtain⟨i0,hi,hy0,hy1,hy2⟩:=info_parts Tryz.l9
 obtain⟨css,ho,he⟩:=hr.has
 obtain⟨a,c,dss,hv,h1,h2,h4,h5⟩:=hy
 simp only[Value.slice.injEq] at hv
 obtain⟨rfl,rfl,rfl⟩:=hv
 cases aa with
 |
  none =>
  have hn0:ys=[]:=by
   by_cases e:ys=[]
   ·exact e
   ·obtain⟨b,off,e2,_⟩:=h5 e
    cases e2
  subst hn0
  have hr:(Builtin.append_ #[27,27] ty #[v,.slice none 0 cc]).run Tryz.prog W = .ok v W:=by
   rcases ho.2 with⟨rfl,h0⟩ | ⟨g,cap,cur,rfl,hg0,hgg,hgc,_⟩
   ·simp[Builtin.append_,run_underlying Tryz.underlying27,sizeOf,typeInfo,hi,Builtin.lenOf,Builtin.firstCells,storeCells]
   ·simp[Builtin.append_,run_underlying Tryz.underlying27,sizeOf,typeInfo,hi,Builtin.lenOf,Builtin.firstCells,storeCells,hgc]
  exact⟨_,W,hr,⟨css,by rw[List.append_nil];exact ho,by rw[List.append_nil];exact he⟩,hB,Below.refl _ _⟩
 |
  some p =>
  have hl8:=Es h4
  have hcells : ∀j u,dss.flatten[j]?=some u→W.cell? (p.add j)=some u:=fun j u hu=>by
   obtain⟨cs,e1,e2⟩:=mh dss (fun cs hc=>(hl8 cs hc).1) j u hu
   have hne:ys≠[]:=fun e=>by
    subst e
    have:dss=[]:=List.eq_nil_of_length_eq_zero h4.1
    subst this
    simp at e1
   obtain⟨b,off,hp,_,hc⟩:=h5 hne
   injection hp with hp
   subst hp
   have:=hc (j / 8) cs e1 (j % 8) u e2
   rw[show off+j / 8*8+j % 8=off+j by omega] at this
   rw[Addr.add_lit]
   exact this
  have hfl:dss.flatten.length=ys.length*8:=by rw[sQ dss (fun cs hc=>(hl8 cs hc).1),h4.1]
  have hone : ∀u∈dss.flatten,u.oneCell'=true:=fun u hu=>by
   obtain⟨cs,hcs,hcu⟩:=List.mem_flatten.1 hu
   exact (hl8 cs hcs).2 u hcu
  obtain⟨v',W',hr,ho2,hg2,_⟩:=run_append_own (P:=Tryz.prog) W w.heap.size 27 ty 48 i0 _ 8 104 Tryz.underlying27 hi hy0 hy1 hy2 rfl (by decide) v zs.length css.flatten ho p ys.length cc dss.flatten hfl hcells hone (by unfold maxLen;omega) (by omega) hB.size
  have hsp:=fH hg2
  have hlow : ∀b,v.ownBlock=some b→w.heap.size≤b:=fun b hb=>(ho.lt b hb).1
  have hbb:Below w.heap.size W W':=hsp.below (fun i hi=>hlow i hi) hB.size
  refine ⟨v',W',hr,⟨css++dss,?_,?_⟩,hB.trans hbb,hbb⟩
  ·rw[List.length_append,List.flatten_append]
   exact ho2
  ·exact (he.IU h4).to (fun x cs e=>e.to hsp (fun b hb _=>⟨fun e=>by have:=hlow b e;omega,hb⟩))
theorem CV (n:Nat) (m:Int) (w:World) (hm:m=(n:Int)) (hn:n≤1000000):Calls Tryz.prog 113 #[.slice none 0 0,.int .i64 m] w fun e w'=>∃a c,e = .returned (.slice a 0 c)∧w'.ownsRow w.heap.size 48 8 (.slice a 0 c) 0 []∧Below w.heap.size w w':=by
 subst hm
 obtain⟨i0,hi,hy0,hy1,hy2⟩:=info_parts Tryz.l9
 by_cases h0:n=0
 ·subst h0
  refine (Any8.slices_Grow_room BZ none 0 0 0 w (by omega) (by omega) (by omega) (by omega)).mono ?_
  rintro e w' ⟨rfl,rfl⟩
  exact⟨_,_,rfl,World.ownsRow_nil _ _ _ _,Below.refl _ _⟩
 ·refine (Any8.slices_Grow_grow BZ i0 _ hi hy0 (by rw[hy1];decide) none 0 0 n [] w (by omega) (by omega) (by rw[hy2];omega) (by omega) (by simp) (fun _=>rfl) (fun _ e=>by cases e)).mono ?_
  rintro e w' ⟨rfl,rfl⟩
  have hge:=grownCap_ge w (0+n) 0 (Cw.t 25)
  have hle:=grownCap_le_maxLen w (0+n) 0 (Cw.t 25) (by unfold maxLen;omega)
  refine ⟨_,_,rfl,⟨by simp,.inr ⟨w.heap.size,_,_,rfl,Nat.le_refl _,heap_alloc_new w.drew _,Nat.zero_le _,hle,?_,by simp⟩⟩,((Below.refl _ w).drew).alloc (Nat.le_refl _) _⟩
  simp only[Array.size_append,size_zeroCells]
  show (#[]:Array Value).size+(0+n-0)*8+(_-(0+n))*8=_*8
  simp only[Array.size_empty]
  omega
theorem yS (xs ys:List Ex) (a1 a2:Option Addr) (n1 c1 n2 c2 b:Nat) (w:World) (hx:aQ 8 gu (fun b=>b<w.heap.size) w xs (.slice a1 n1 c1)) (hy:aQ 8 gu (fun b=>b<w.heap.size) w ys (.slice a2 n2 c2)) (hb:w.heap[b]?=some (.cells #[.slice a1 n1 c1,.slice a2 n2 c2] 27)) (hn:xs.length+ys.length≤1000000) :
  Calls Tryz.prog 60 #[.slice (some ⟨b,0,none⟩) 2 2] w fun e w'=>∃v,e = .returned v∧aQ 8 gu (fun _=>True) w' (xs++ys) v∧Below w.heap.size w w':=by
 have hn1:n1=xs.length:=by obtain⟨_,_,hf⟩:=hx.form;simp only[Value.slice.injEq] at hf;exact hf.2.1
 have hn2:n2=ys.length:=by obtain⟨_,_,hf⟩:=hy.form;simp only[Value.slice.injEq] at hf;exact hf.2.1
 subst hn1 hn2
 have HX:=hid hx
 have HY:=hid hy
 have HBK:=hid hb
 have hbl:=World.lt_of_block hb
 have kb0:w.cell? ⟨b,0,none⟩=some (.slice a1 xs.length c1):=by rw[aD _ _ _ _ _ _ hb];rfl
 have kb1:w.cell? ⟨b,1,none⟩=some (.slice a2 ys.length c2):=by rw[aD _ _ _ _ _ _ hb];rfl
 obtain⟨n,hnn⟩:∃n,xs.length=n:=⟨_,rfl⟩
 obtain⟨m,hmm⟩:∃m,ys.length=m:=⟨_,rfl⟩
 rw[hnn] at HX kb0 hn HBK
 rw[hmm] at HY kb1 hn HBK
 have hw1:IntKind.i64.wrap (0+(n:Int))=(n:Int):=by rw[vU _ (by omega) (by omega)];omega
 have hw2:IntKind.i64.wrap ((n:Int)+(m:Int))=(n:Int)+(m:Int):=vU _ (by omega) (by omega)
 have hg1 : ¬((n:Int)<0):=by omega
 have hg2 : ¬((n:Int)+(m:Int)<0):=by omega
 have HLN:=hid hnn
 have HLM:=hid hmm
 clear hnn hmm
 clear hx hy hb
 go_enter Tryz.func60,Tryz.ntmps60
 go_wp2_with fail
 go_loopw [3,5,11] (fun s _ i wr=>wr=w∧((i = .int .i64 0∧s = .int .i64 0)∨(i = .int .i64 1∧s = .int .i64 n)∨(i = .int .i64 2∧s = .int .i64 ((n:Int)+(m:Int))))) (fun _ _ i _=>2-(intOf i).toNat)
 case atStart=>exact⟨by trivial,.inl ⟨rfl,rfl⟩⟩
 case round =>
  obtain⟨hwr,hrel⟩:=hrel
  obtain rfl:w=wr:=hwr.symm
  rcases hrel with⟨rfl,rfl⟩ | ⟨rfl,rfl⟩ | ⟨rfl,rfl⟩
  ·go_wp2_with fail
   go_roundw
   case rel=>exact⟨by trivial,.inr (.inl ⟨rfl,rfl⟩)⟩
   case measure=>simp[intOf]
  ·go_wp2_with fail
   go_roundw
   case rel=>exact⟨by trivial,.inr (.inr ⟨rfl,rfl⟩)⟩
   case measure=>simp[intOf]
  ·go_wp2_with fail
   refine (CV (n+m) _ _ (by omega) (by omega)).mono ?_
   rintro e w1 ⟨ga,gc,rfl,ho1,hb1⟩
   have HR1:Hid (jc w.heap.size (fun b=>b<w.heap.size) w1 [] (.slice ga 0 gc)):=hid ⟨[],ho1,gJ.nil⟩
   have HB1:=hid hb1
   clear ho1 hb1
   go_wp2_with fail
   go_loopw [6,8,27] (fun v _ i wr=>Hid (Below w.heap.size w wr)∧((i = .int .i64 0∧Hid (jc w.heap.size (fun b=>b<w.heap.size) wr [] v))∨(i = .int .i64 1∧Hid (jc w.heap.size (fun b=>b<w.heap.size) wr xs v))∨(i = .int .i64 2∧Hid (jc w.heap.size (fun b=>b<w.heap.size) wr (xs++ys) v)))) (fun _ _ i _=>2-(intOf i).toNat)
   case atStart=>exact⟨HB1,.inl ⟨rfl,HR1⟩⟩
   case round =>
    obtain⟨HBr,hrel⟩:=hrel
    have q0:=(HBr.out.cell (p:=⟨b,0,none⟩) hbl).trans kb0
    have q1:=(HBr.out.cell (p:=⟨b,1,none⟩) hbl).trans kb1
    have HXR:=hid (HX.out.to (T:=fun b=>b<w.heap.size) (by decide) (R:=fun _=>False) (aA.aC HBr.out) (fun b hb _=>⟨id,hb⟩) (fun _ _ e=>e.to (R:=fun _=>False) (aA.aC HBr.out) (fun b hb _=>⟨id,hb⟩)))
    have HYR:=hid (HY.out.to (T:=fun b=>b<w.heap.size) (by decide) (R:=fun _=>False) (aA.aC HBr.out) (fun b hb _=>⟨id,hb⟩) (fun _ _ e=>e.to (R:=fun _=>False) (aA.aC HBr.out) (fun b hb _=>⟨id,hb⟩)))
    rcases hrel with⟨rfl,HR⟩ | ⟨rfl,HR⟩ | ⟨rfl,HR⟩
    ·obtain⟨v',W',hrun,hrow,hbW,_⟩:=jq HR.out HBr.out HXR.out (by first | (rw[HLN.out,HLM.out];omega) | (rw[HLN.out,List.length_nil];omega)) 27
     have HRUN:=hid hrun
     have HROW:=hid hrow
     have HBW:=hid hbW
     clear hrun hrow hbW HR
     go_wp2_with (first | (at_builtin;refine wpList_append_run _ rfl (.tmp 31) (.tmp 32) 27 rfl _ _ _ _ rfl rfl HRUN.out ?_) | fail)
     go_roundw
     case rel=>exact⟨HBW,.inr (.inl ⟨rfl,HROW⟩)⟩
     case measure=>simp[intOf]
    ·obtain⟨v',W',hrun,hrow,hbW,_⟩:=jq HR.out HBr.out HYR.out (by first | (rw[HLN.out,HLM.out];omega) | (rw[HLN.out,List.length_nil];omega)) 27
     have HRUN:=hid hrun
     have HROW:=hid hrow
     have HBW:=hid hbW
     clear hrun hrow hbW HR
     go_wp2_with (first | (at_builtin;refine wpList_append_run _ rfl (.tmp 31) (.tmp 32) 27 rfl _ _ _ _ rfl rfl HRUN.out ?_) | fail)
     go_roundw
     case rel=>exact⟨HBW,.inr (.inr ⟨rfl,HROW⟩)⟩
     case measure=>simp[intOf]
    ·obtain⟨va,vc,rfl⟩:=HR.out.F9
     obtain⟨css,ho,he⟩:=HR.out.has
     have HS:=hid ((aQ.dW (S:=fun _=>True) (by decide) ho (he.to (fun x cs e=>e.to (R:=fun _=>False) (aA.refl _ _) (fun b hb _=>⟨id,trivial⟩))) (fun b hb=>trivial)))
     clear ho he HR
     go_wp2_with fail
     go_ret
     exact⟨_,rfl,HS.out,HBr.out⟩
end Go.Proofs.YtfeglkleoijlaaaGreatDoor
