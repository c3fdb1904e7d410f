/- Packed for the hand-in: PPure -/
import Derived.Test.YtaaggohjmhifbaaGreatDoorY07
import Derived.Test.YtaaggohjmhifbaaGreatDoorY01
namespace Go.Proofs.YtaaggohjmhifbaaGreatDoor
set_option linter.unusedSimpArgs false
set_option linter.unusedVariables false
set_option maxHeartbeats 8000000
structure Rd where
 ts:List Tk
 d:Int
 bad:Int
 bp:Int
abbrev Pa (α:Type):=Rd→α × Rd
def aT {α:Type} (a:α):Pa α:=fun r=>(a,r)
def aB {α β:Type} (p:Pa α) (q:α→Pa β):Pa β:=fun r=>q (p r).1 (p r).2
def bq (r:Rd):Tk:=if r.bad=0 then r.ts.headD jl else jl
def dK (t:List UInt8) (r:Rd):Bool:=((bq r).k==2||(bq r).k==5)&&(bq r).s==t
def nextR (r:Rd):Rd:={ r with ts:=r.ts.tail }
def dh (e:Int) (r:Rd):Rd:=if r.bad=0 then { r with bad:=e,bp:=(bq r).p } else r
def bZ (r:Rd):Tk:=r.ts.tail.headD jl
def Ld (t:List UInt8):Pa Bool:=fun r=>(dK t r,r)
def gI {α:Type} (t:List UInt8) (yes no:Pa α):Pa α:=fun r=>if dK t r=true then yes (nextR r) else no r
def fD (t:List UInt8):Pa Bool:=gI t (aT true) (aT false)
def iF (e:Int):Pa Unit:=fun r=>((),dh e r)
def cK (t:List UInt8):Pa Unit:=gI t (aT ()) (iF 4)
def aD:List (List UInt8)→Pa Unit
 | []=>aT ()
 | t::l=>aB (cK t) fun _=>aD l
def jF:Pa Bool:=fun r=>((bq r).k==1,r)
def nameP:Pa (List UInt8):=fun r=>if (bq r).k=1 then ((bq r).s,nextR r) else ([],dh 4 r)
def iT:Pa Int:=fun r=>if (bq r).k=3 then ((bq r).n,nextR r) else (0,dh 4 r)
def qy:Pa (Option (List UInt8)):=fun r=>if (bq r).k=4 then (some (bq r).s,nextR r) else (none,r)
def iD {α:Type} (yes no:Pa α):Pa α:=fun r=>if dK [45] r=true∧(bZ r).k≠3 then yes (nextR r) else no r
def aF:List (List UInt8 × Int)→Pa Int
 | []=>aT 0
 | c::l=>gI c.1 (aT c.2) (aF l)
def bJ (r:Rd):Rd:=if 10<r.d+1 then dh 10 { r with d:=r.d+1 } else { r with d:=r.d+1 }
def Jq (r:Rd):Rd:={ r with d:=r.d-1 }
def fT {α:Type} (p:Pa α):Pa α:=fun r=>((p (bJ r)).1,Jq (p (bJ r)).2)
def endP:Pa Unit:=fun r=>if (bq r).k=6 then ((),r) else ((),dh 4 r)
structure Good (F:Nat) (r:Rd):Prop where
 last:r.bad=0→∃L e,r.ts=L++[e]∧e.k=6∧∀x∈L,x.k≠6
 d0:0≤r.d
 d1:r.d≤11
 d2:r.bad=0→r.d≤10
 nums : ∀x∈r.ts,0≤x.n∧x.n≤9223372036854775807
 many:r.ts.length≤F
def sS (r r':Rd):Prop:=r.ts.map Tk.z=r'.ts.map Tk.z∧r.d=r'.d∧r.bad=r'.bad
def yN (dl:Nat) (T:List Tk) (r r':Rd):Prop :=
 ∃L e L' , r.ts=L++[e]∧e.k=6∧(∀x∈L,x.k≠6)∧r'.ts=L'++T∧L.map Tk.z=L'.map Tk.z∧r'.d=r.d+dl∧r.bad=0∧r'.bad=0
def Tail (T:List Tk):Prop:=∃h l,T=h::l∧h.k=5∧(h.s=[59]∨h.s=[41])
structure iC (b:Bool) (F:Nat) (G:Rd→Prop) {α:Type} (p:Pa α):Prop where
 mono : ∀r,r.bad≠0→(p r).2.bad=r.bad∧(p r).2.bp=r.bp
 fine : ∀r,G r→Good F r→Good F (p r).2∧(p r).2.d=r.d∧(p r).2.ts.length≤r.ts.length
 simA : ∀r r',sS r r'→(p r).1=(p r').1∧sS (p r).2 (p r').2
 simB:b=true→∀dl T r r',Tail T→yN dl T r r'→(p r).2.bad=0→((p r').2.bad=10∧0<dl)∨((p r).1=(p r').1∧yN dl T (p r).2 (p r').2)
abbrev bf (b:Bool) (F:Nat) {α:Type} (p:Pa α):Prop:=iC b F (fun _=>True) p
abbrev wX (b:Bool) (F:Nat) {α:Type} (p:Pa α):Prop:=iC b F (fun r=>r.bad=0) p
theorem iC.ok {b:Bool} {F:Nat} {α:Type} {p:Pa α} (h:bf b F p):wX b F p:=⟨h.mono,fun r _=>h.fine r trivial,h.simA,h.simB⟩
theorem ay {b:Bool} {F:Nat} {α:Type} (a:α):bf b F (aT a) :=
 ⟨fun r _=>⟨rfl,rfl⟩,fun r _ h=>⟨h,rfl,Nat.le_refl _⟩,fun r r' h=>⟨rfl,h⟩,fun _ dl T r r' _ h _=>.inr ⟨rfl,h⟩⟩
theorem iC.bind {b:Bool} {F:Nat} {G:Rd→Prop} {α β:Type} {p:Pa α} {q:α→Pa β} (hp:iC b F G p) (hq : ∀a,bf b F (q a)):iC b F G (aB p q) where
 mono:=fun r h=>by
  obtain⟨h1,h2⟩:=hp.mono r h
  obtain⟨k1,k2⟩:=(hq (p r).1).mono _ (by rw[h1];exact h)
  exact⟨k1.trans h1,k2.trans h2⟩
 fine:=fun r g h=>by
  obtain⟨h1,h2,h3⟩:=hp.fine r g h
  obtain⟨k1,k2,k3⟩:=(hq (p r).1).fine _ trivial h1
  exact⟨k1,k2.trans h2,Nat.le_trans k3 h3⟩
 simA:=fun r r' h=>by
  obtain⟨h1,h2⟩:=hp.simA r r' h
  have:=(hq (p r).1).simA _ _ h2
  unfold aB
  rw[← h1]
  exact this
 simB:=fun hb dl T r r' hT h h0=>by
  have hb0:(p r).2.bad=0:=by
   by_cases e:(p r).2.bad=0
   ·exact e
   ·exact absurd ((((hq (p r).1).mono _ e).1.symm.trans h0:(p r).2.bad=0)) e
  rcases hp.simB hb dl T r r' hT h hb0 with⟨k1,k2⟩ | ⟨k1,k2⟩
  ·exact .inl ⟨((hq (p r').1).mono _ (by rw[k1];decide)).1.trans k1,k2⟩
  ·have:=(hq (p r).1).simB hb dl T _ _ hT k2 h0
   unfold aB
   rw[← k1]
   exact this
theorem lT {r r':Rd} (h:sS r r'):(bq r).z=(bq r').z:=by
 obtain⟨h1,_,h3⟩:=h
 unfold bq
 rw[h3]
 split
 ·cases hr:r.ts with
  |
   nil =>
   rw[hr] at h1
   have:r'.ts=[]:=by simpa using h1.symm
   rw[this]
  |
   cons a l =>
   rw[hr] at h1
   cases hr':r'.ts with
   | nil=>rw[hr'] at h1;simp at h1
   | cons a' l'=>rw[hr'] at h1;simp at h1;simpa using h1.1
 ·rfl
theorem ql {x y:Tk} (h:x.z=y.z):x.k=y.k∧x.s=y.s∧x.n=y.n:=by
 have h':(⟨x.k,x.s,x.n,0⟩:Tk)=⟨y.k,y.s,y.n,0⟩:=h
 simp only[Tk.mk.injEq] at h'
 exact⟨h'.1,h'.2.1,h'.2.2.1⟩
theorem tL {r r':Rd} (h:sS r r') (t:List UInt8):dK t r=dK t r':=by
 obtain⟨h1,h2,_⟩:=ql (lT h)
 unfold dK
 rw[h1,h2]
theorem jX {r r':Rd} (h:sS r r'):sS (nextR r) (nextR r') :=
 ⟨by simp only[nextR,List.map_tail];rw[h.1],h.2.1,h.2.2⟩
theorem j4 {r r':Rd} (h:sS r r') (e:Int):sS (dh e r) (dh e r'):=by
 unfold dh
 rw[h.2.2]
 split
 ·exact⟨h.1,h.2.1,rfl⟩
 ·exact h
theorem yQ {r r':Rd} (h:sS r r'):(bZ r).k=(bZ r').k:=by
 have h1:=congrArg List.tail h.1
 rw[← List.map_tail,← List.map_tail] at h1
 unfold bZ
 generalize r.ts.tail=a at h1
 generalize r'.ts.tail=b at h1
 cases a with
 |
  nil =>
  have:b=[]:=by simpa using h1.symm
  rw[this]
 |
  cons x a =>
  cases b with
  | nil=>simp at h1
  |
   cons y b =>
   rw[List.map_cons,List.map_cons,List.cons.injEq] at h1
   exact (ql h1.1).1
theorem iV {r:Rd} (h:r.bad≠0):bq r=jl:=if_neg h
theorem pR {r:Rd} (h:r.bad≠0) (t:List UInt8):dK t r=false:=by unfold dK;rw[iV h];rfl
theorem jO {r:Rd} {t:List UInt8} (h:dK t r=true):r.bad=0:=by
 by_cases e:r.bad=0
 ·exact e
 ·rw[pR e] at h;cases h
theorem tC {r:Rd} {t:List UInt8} (h:dK t r=true):((bq r).k=2∨(bq r).k=5)∧(bq r).s=t:=by
 unfold dK at h
 simpa using h
theorem fP {r:Rd} (h:r.bad≠0) (e:Int):dh e r=r:=if_neg h
theorem fZ {r:Rd} (h:r.bad=0) (e:Int):(dh e r).bad=e:=by unfold dh;rw[if_pos h]
theorem oK (r:Rd) (e:Int):(dh e r).ts=r.ts∧(dh e r).d=r.d:=by unfold dh;split<;>exact⟨rfl,rfl⟩
theorem Good.fail {F:Nat} {r:Rd} (h:Good F r) {e:Int} (he:e≠0):Good F (dh e r):=by
 by_cases hb:r.bad=0
 ·have hf:=fZ hb e
  obtain⟨t1,t2⟩:=oK r e
  exact⟨fun h0=>absurd (hf.symm.trans h0) he,by rw[t2];exact h.d0,by rw[t2];exact h.d1,fun h0=>absurd (hf.symm.trans h0) he,by rw[t1];exact h.nums,by rw[t1];exact h.many⟩
 ·rw[fP hb];exact h
theorem Good.next {F:Nat} {r:Rd} (h:Good F r) (hb:r.bad=0) (hk:(bq r).k≠6):Good F (nextR r):=by
 obtain⟨L,e,h1,h2,h3⟩:=h.last hb
 refine ⟨fun _=>?_,h.d0,h.d1,h.d2,fun x hx=>h.nums x (List.mem_of_mem_tail hx),Nat.le_trans (by simp[nextR]) h.many⟩
 cases L with
 |
  nil =>
  refine absurd ?_ hk
  unfold bq
  rw[if_pos hb,h1]
  exact h2
 | cons a L=>exact⟨L,e,by simp[nextR,h1],h2,fun x hx=>h3 x (by simp[hx])⟩
theorem oI (r:Rd):(nextR r).ts.length≤r.ts.length:=by simp[nextR]
theorem next_lt {r:Rd} (h:(bq r).k≠0):(nextR r).ts.length<r.ts.length:=by
 unfold bq at h
 split at h
 ·cases hr:r.ts with
  | nil=>rw[hr] at h;exact absurd rfl h
  | cons a l=>simp[nextR,hr]
 ·exact absurd rfl h
theorem gV {dl:Nat} {T:List Tk} {r r':Rd} (hT:Tail T) (h:yN dl T r r') :
  ((bq r).k=6∧(bq r').k=5∧((bq r').s=[59]∨(bq r').s=[41])) ∨
  ((bq r).k≠6∧(bq r).z=(bq r').z∧yN dl T (nextR r) (nextR r')∧((bZ r).k=3↔(bZ r').k=3)):=by
 obtain⟨L,e,L',h1,h2,h3,h4,h5,h6,h7,h8⟩:=h
 obtain⟨t,l,hTe,ht1,ht2⟩:=hT
 cases L with
 |
  nil =>
  left
  have:L'=[]:=by simpa using h5.symm
  subst this
  unfold bq
  rw[if_pos h7,if_pos h8,h1,h4,hTe]
  exact⟨h2,ht1,ht2⟩
 |
  cons a L =>
  cases L' with
  | nil=>simp at h5
  |
   cons a' L' =>
   rw[List.map_cons,List.map_cons,List.cons.injEq] at h5
   right
   have n1:bq r=a:=by unfold bq;rw[if_pos h7,h1];rfl
   have n2:bq r'=a':=by unfold bq;rw[if_pos h8,h4];rfl
   rw[n1,n2]
   refine ⟨h3 a (by simp),h5.1,⟨L,e,L',by simp[nextR,h1],h2,fun x hx=>h3 x (by simp[hx]),by simp[nextR,h4],h5.2,h6,h7,h8⟩,?_⟩
   unfold bZ
   rw[h1,h4]
   cases L with
   |
    nil =>
    have:L'=[]:=by simpa using h5.2.symm
    subst this
    rw[hTe]
    show e.k=3↔t.k=3
    rw[h2,ht1]
    decide
   |
    cons b L =>
    cases L' with
    | nil=>simp at h5
    |
     cons b' L' =>
     have h52:=h5.2
     rw[List.map_cons,List.map_cons,List.cons.injEq] at h52
     show b.k=3↔b'.k=3
     rw[(ql h52.1).1]
theorem wS {dl:Nat} {T:List Tk} {r r':Rd} (hT:Tail T) (h:yN dl T r r') {t:List UInt8} (ht1:t≠[59]) (ht2:t≠[41]):dK t r=dK t r':=by
 rcases gV hT h with⟨k1,k2,k3⟩ | ⟨_,k2,_⟩
 ·unfold dK
  rw[k1,k2]
  have:((bq r').s==t)=false:=by
   rw[beq_eq_false_iff_ne]
   rcases k3 with k3 | k3<;>rw[k3]
   ·exact fun e=>ht1 e.symm
   ·exact fun e=>ht2 e.symm
  rw[this]
  rfl
 ·obtain⟨e1,e2,_⟩:=ql k2
  unfold dK
  rw[e1,e2]
theorem DN {dl:Nat} {T:List Tk} {r r':Rd} (hT:Tail T) (h:yN dl T r r') (hk:(bq r).k≠6):yN dl T (nextR r) (nextR r'):=by
 rcases gV hT h with⟨k1,_⟩ | ⟨_,_,k,_⟩
 ·exact absurd k1 hk
 ·exact k
theorem Im {b:Bool} {F:Nat} (t:List UInt8) (h1:b=true→t≠[59]∧t≠[41]):bf b F (Ld t) :=
 ⟨fun r _=>⟨rfl,rfl⟩,fun r _ h=>⟨h,rfl,Nat.le_refl _⟩,fun r r' h=>⟨tL h t,h⟩,fun hb dl T r r' hT h _=>.inr ⟨wS hT h (h1 hb).1 (h1 hb).2,h⟩⟩
theorem mg {r:Rd} {t:List UInt8} (h:dK t r=true):(bq r).k≠6:=by
 rcases (tC h).1 with e | e<;>rw[e]<;>decide
theorem eU {b:Bool} {F:Nat} {α:Type} (t:List UInt8) {yes no:Pa α} (h1:b=true→t≠[59]∧t≠[41]) (hy:wX b F yes) (hn:bf b F no):bf b F (gI t yes no) where
 mono:=fun r h=>by unfold gI;rw[pR h];exact hn.mono r h
 fine:=fun r _ h=>by
  unfold gI
  split
  ·rename_i hi
   obtain⟨k1,k2,k3⟩:=hy.fine (nextR r) (id (jO (r:=r) hi)) (h.next (jO hi) (mg hi))
   exact⟨k1,k2,Nat.le_trans k3 (oI r)⟩
  ·exact hn.fine r trivial h
 simA:=fun r r' h=>by
  unfold gI
  rw[← tL h t]
  split
  ·exact hy.simA _ _ (jX h)
  ·exact hn.simA _ _ h
 simB:=fun hb dl T r r' hT h h0=>by
  unfold gI at h0 ⊢
  rw[← wS hT h (h1 hb).1 (h1 hb).2]
  split
  ·rename_i hi
   rw[if_pos hi] at h0
   exact hy.simB hb dl T _ _ hT (DN hT h (mg hi)) h0
  ·rename_i hi
   rw[if_neg hi] at h0
   exact hn.simB hb dl T _ _ hT h h0
theorem jC {b:Bool} {F:Nat} (t:List UInt8) (h1:b=true→t≠[59]∧t≠[41]):bf b F (fD t):=eU t h1 (ay _).ok (ay _)
theorem fM {b:Bool} {F:Nat} (e:Int) (he:e≠0):bf b F (iF e) where
 mono:=fun r h=>by unfold iF;rw[fP h];exact⟨rfl,rfl⟩
 fine:=fun r _ h=>⟨h.fail he,(oK r e).2,by show (dh e r).ts.length≤_;rw[(oK r e).1];exact Nat.le_refl _⟩
 simA:=fun r r' h=>⟨rfl,j4 h e⟩
 simB:=fun hb dl T r r' hT h h0=>by
  obtain⟨L,e',L',_,_,_,_,_,_,h7,_⟩:=h
  exact absurd ((fZ h7 e).symm.trans h0) he
theorem bD {b:Bool} {F:Nat} (t:List UInt8):bf b F (cK t) where
 mono:=fun r h=>by unfold cK gI;rw[pR h];exact (fM (b:=b) (F:=F) 4 (by decide)).mono r h
 fine:=fun r _ h=>by
  unfold cK gI
  split
  ·rename_i hi
   exact⟨h.next (jO hi) (mg hi),rfl,oI r⟩
  ·exact (fM (b:=b) 4 (by decide)).fine r trivial h
 simA:=fun r r' h=>by
  unfold cK gI
  rw[← tL h t]
  split
  ·exact⟨rfl,jX h⟩
  ·exact⟨rfl,j4 h 4⟩
 simB:=fun hb dl T r r' hT h h0=>by
  unfold cK gI at h0 ⊢
  by_cases hi:dK t r=true
  ·rw[if_pos hi]
   have hk:=mg hi
   rcases gV hT h with⟨k1,_⟩ | ⟨_,k2,k3,_⟩
   ·exact absurd k1 hk
   ·obtain⟨e1,e2,_⟩:=ql k2
    have hi':dK t r'=true:=by unfold dK at hi ⊢;rw[← e1,← e2];exact hi
    rw[if_pos hi']
    exact .inr ⟨rfl,k3⟩
  ·rw[if_neg hi] at h0
   obtain⟨L,e',L',_,_,_,_,_,_,h7,_⟩:=h
   exact absurd ((fZ h7 4).symm.trans h0) (by decide)
theorem aY {b:Bool} {F:Nat}:∀l:List (List UInt8),bf b F (aD l)
 | []=>ay _
 | t::l=>(bD t).bind fun _=>aY l
theorem zx {b:Bool} {F:Nat}:bf b F jF where
 mono:=fun r h=>⟨rfl,rfl⟩
 fine:=fun r _ h=>⟨h,rfl,Nat.le_refl _⟩
 simA:=fun r r' h=>⟨by show ((bq r).k==1)=_;rw[(ql (lT h)).1];rfl,h⟩
 simB:=fun hb dl T r r' hT h _=>.inr ⟨by
  show ((bq r).k==1)=((bq r').k==1)
  rcases gV hT h with⟨k1,k2,_⟩ | ⟨_,k2,_⟩
  ·rw[k1,k2];rfl
  ·rw[(ql k2).1],h⟩
theorem aZ {b:Bool} {F:Nat}:bf b F nameP where
 mono:=fun r h=>by unfold nameP;rw[iV h,if_neg (by decide),fP h];exact⟨rfl,rfl⟩
 fine:=fun r _ h=>by
  unfold nameP
  split
  ·rename_i hk
   have hb:r.bad=0:=by
    by_cases e:r.bad=0
    ·exact e
    ·rw[iV e] at hk;exact absurd hk (by decide)
   exact⟨h.next hb (by rw[hk];decide),rfl,oI r⟩
  ·exact (fM (b:=b) 4 (by decide)).fine r trivial h
 simA:=fun r r' h=>by
  obtain⟨e1,e2,_⟩:=ql (lT h)
  unfold nameP
  rw[e1,e2]
  split
  ·exact⟨rfl,jX h⟩
  ·exact⟨rfl,j4 h 4⟩
 simB:=fun hb dl T r r' hT h h0=>by
  unfold nameP at h0 ⊢
  by_cases hk:(bq r).k=1
  ·rcases gV hT h with⟨k1,_⟩ | ⟨_,k2,k3,_⟩
   ·rw[k1] at hk;exact absurd hk (by decide)
   ·obtain⟨e1,e2,_⟩:=ql k2
    rw[if_pos hk,if_pos (e1 ▸ hk),e2]
    exact .inr ⟨rfl,k3⟩
  ·rw[if_neg hk] at h0
   obtain⟨L,e',L',_,_,_,_,_,_,h7,_⟩:=h
   exact absurd ((fZ h7 4).symm.trans h0) (by decide)
theorem j6 {b:Bool} {F:Nat}:bf b F iT where
 mono:=fun r h=>by unfold iT;rw[iV h,if_neg (by decide),fP h];exact⟨rfl,rfl⟩
 fine:=fun r _ h=>by
  unfold iT
  split
  ·rename_i hk
   have hb:r.bad=0:=by
    by_cases e:r.bad=0
    ·exact e
    ·rw[iV e] at hk;exact absurd hk (by decide)
   exact⟨h.next hb (by rw[hk];decide),rfl,oI r⟩
  ·exact (fM (b:=b) 4 (by decide)).fine r trivial h
 simA:=fun r r' h=>by
  obtain⟨e1,_,e2⟩:=ql (lT h)
  unfold iT
  rw[e1,e2]
  split
  ·exact⟨rfl,jX h⟩
  ·exact⟨rfl,j4 h 4⟩
 simB:=fun hb dl T r r' hT h h0=>by
  unfold iT at h0 ⊢
  by_cases hk:(bq r).k=3
  ·rcases gV hT h with⟨k1,_⟩ | ⟨_,k2,k3,_⟩
   ·rw[k1] at hk;exact absurd hk (by decide)
   ·obtain⟨e1,_,e2⟩:=ql k2
    rw[if_pos hk,if_pos (e1 ▸ hk),e2]
    exact .inr ⟨rfl,k3⟩
  ·rw[if_neg hk] at h0
   obtain⟨L,e',L',_,_,_,_,_,_,h7,_⟩:=h
   exact absurd ((fZ h7 4).symm.trans h0) (by decide)
theorem vW {b:Bool} {F:Nat}:bf b F qy where
 mono:=fun r h=>by unfold qy;rw[iV h,if_neg (by decide)];exact⟨rfl,rfl⟩
 fine:=fun r _ h=>by
  unfold qy
  split
  ·rename_i hk
   have hb:r.bad=0:=by
    by_cases e:r.bad=0
    ·exact e
    ·rw[iV e] at hk;exact absurd hk (by decide)
   exact⟨h.next hb (by rw[hk];decide),rfl,oI r⟩
  ·exact⟨h,rfl,Nat.le_refl _⟩
 simA:=fun r r' h=>by
  obtain⟨e1,e2,_⟩:=ql (lT h)
  unfold qy
  rw[e1,e2]
  split
  ·exact⟨rfl,jX h⟩
  ·exact⟨rfl,h⟩
 simB:=fun hb dl T r r' hT h h0=>by
  unfold qy
  rcases gV hT h with⟨k1,k2,_⟩ | ⟨_,k2,k3,_⟩
  ·rw[k1,k2,if_neg (by decide),if_neg (by decide)]
   exact .inr ⟨rfl,h⟩
  ·obtain⟨e1,e2,_⟩:=ql k2
   rw[e1,e2]
   split
   ·exact .inr ⟨rfl,k3⟩
   ·exact .inr ⟨rfl,h⟩
theorem Az {b:Bool} {F:Nat} {α:Type} {yes no:Pa α} (hy:wX b F yes) (hn:bf b F no):bf b F (iD yes no) where
 mono:=fun r h=>by unfold iD;rw[pR h,if_neg (fun e=>by cases e.1)];exact hn.mono r h
 fine:=fun r _ h=>by
  unfold iD
  split
  ·rename_i hi
   obtain⟨k1,k2,k3⟩:=hy.fine (nextR r) (id (jO (r:=r) hi.1)) (h.next (jO hi.1) (mg hi.1))
   exact⟨k1,k2,Nat.le_trans k3 (oI r)⟩
  ·exact hn.fine r trivial h
 simA:=fun r r' h=>by
  unfold iD
  rw[← tL h [45],← yQ h]
  split
  ·exact hy.simA _ _ (jX h)
  ·exact hn.simA _ _ h
 simB:=fun hb dl T r r' hT h h0=>by
  unfold iD at h0 ⊢
  have e1:=wS (t:=[45]) hT h (by decide) (by decide)
  by_cases hi:dK [45] r=true
  ·rcases gV hT h with⟨k1,_⟩ | ⟨_,_,k3,k4⟩
   ·exact absurd k1 (mg hi)
   ·have hi':dK [45] r'=true:=by rw[← e1];exact hi
    by_cases hk:(bZ r).k=3
    ·have c1 : ¬(dK [45] r=true∧(bZ r).k≠3):=fun e=>e.2 hk
     have c2 : ¬(dK [45] r'=true∧(bZ r').k≠3):=fun e=>e.2 (k4.1 hk)
     rw[if_neg c1] at h0
     rw[if_neg c1,if_neg c2]
     exact hn.simB hb dl T _ _ hT h h0
    ·have c1:dK [45] r=true∧(bZ r).k≠3:=⟨hi,hk⟩
     have c2:dK [45] r'=true∧(bZ r').k≠3:=⟨hi',fun e=>hk (k4.2 e)⟩
     rw[if_pos c1] at h0
     rw[if_pos c1,if_pos c2]
     exact hy.simB hb dl T _ _ hT k3 h0
  ·have c1 : ¬(dK [45] r=true∧(bZ r).k≠3):=fun e=>hi e.1
   have c2 : ¬(dK [45] r'=true∧(bZ r').k≠3):=fun e=>hi (by rw[e1];exact e.1)
   rw[if_neg c1] at h0
   rw[if_neg c1,if_neg c2]
   exact hn.simB hb dl T _ _ hT h h0
theorem dB {b:Bool} {F:Nat}:∀l:List (List UInt8 × Int),(b=true→∀c∈l,c.1≠[59]∧c.1≠[41])→bf b F (aF l)
 | [],_=>ay _
 | c::l,h=>eU c.1 (fun hb=>h hb c (by simp)) (ay _).ok (dB l fun hb x hx=>h hb x (by simp[hx]))
theorem choose_lt : ∀(l:List (List UInt8 × Int)) (r:Rd),(aF l r).1≠0→(aF l r).2=nextR r∧r.bad=0∧(nextR r).ts.length<r.ts.length
 | [],r,h=>absurd rfl h
 |
  c::l,r,h=>by
  unfold aF gI at h ⊢
  split at h
  ·rename_i hi
   rw[if_pos hi]
   exact⟨rfl,jO hi,next_lt (by rcases (tC hi).1 with e | e<;>rw[e]<;>decide)⟩
  ·rename_i hi
   rw[if_neg hi]
   exact choose_lt l r h
theorem nJ : ∀(l:List (List UInt8 × Int)) (r:Rd),(∀c∈l,c.2≠0)→(aF l r).1=0→(aF l r).2=r
 | [],r,_,h=>rfl
 |
  c::l,r,hl,h=>by
  unfold aF gI at h ⊢
  split at h
  ·exact absurd h (hl c (by simp))
  ·rename_i hi
   rw[if_neg hi]
   exact nJ l r (fun x hx=>hl x (by simp[hx])) h
theorem FX {r:Rd} (h:r.bad≠0):(bJ r).bad=r.bad∧(bJ r).bp=r.bp:=by
 unfold bJ
 split
 ·rw[fP (show ({ r with d:=r.d+1 }:Rd).bad≠0 from h)];exact⟨rfl,rfl⟩
 ·exact⟨rfl,rfl⟩
theorem oz {b:Bool} {F:Nat} {α:Type} {p:Pa α} (hp:bf b F p):wX b F (fT p) where
 mono:=fun r h=>by
  obtain⟨d1,d2⟩:=FX h
  obtain⟨k1,k2⟩:=hp.mono _ (show (bJ r).bad≠0 by rw[d1];exact h)
  exact⟨k1.trans d1,k2.trans d2⟩
 fine:=fun r hb h=>by
  have h2:=h.d2 hb
  have h0:=h.d0
  have hG:Good F (bJ r)∧(bJ r).d=r.d+1∧(bJ r).ts=r.ts:=by
   unfold bJ
   split
   ·rename_i h10
    obtain⟨t1,t2⟩:=oK ({ r with d:=r.d+1 }:Rd) 10
    have hf:=fZ (r:=({ r with d:=r.d+1 }:Rd)) hb 10
    refine ⟨⟨fun e=>absurd (hf.symm.trans e) (by decide),by rw[t2];show 0≤r.d+1;omega,by rw[t2];show r.d+1≤11;omega,fun e=>absurd (hf.symm.trans e) (by decide),by rw[t1];exact h.nums,by rw[t1];exact h.many⟩,t2,t1⟩
   ·exact⟨⟨h.last,by show 0≤r.d+1;omega,by show r.d+1≤11;omega,fun _=>by show r.d+1≤10;omega,h.nums,h.many⟩,rfl,rfl⟩
  obtain⟨hG,hd,ht⟩:=hG
  obtain⟨k1,k2,k3⟩:=hp.fine _ trivial hG
  have hd':(p (bJ r)).2.d=r.d+1:=k2.trans hd
  refine ⟨⟨k1.last,by show 0≤(p (bJ r)).2.d-1;omega,by show (p (bJ r)).2.d-1≤11;omega,fun _=>by show (p (bJ r)).2.d-1≤10;omega,k1.nums,k1.many⟩,by show (p (bJ r)).2.d-1=r.d;omega,by show (p (bJ r)).2.ts.length≤_;rw[ht] at k3;exact k3⟩
 simA:=fun r r' h=>by
  have hs:sS (bJ r) (bJ r'):=by
   unfold bJ
   rw[h.2.1]
   have h1:sS ({ r with d:=r'.d+1 }:Rd) ({ r' with d:=r'.d+1 }:Rd):=⟨h.1,rfl,h.2.2⟩
   split
   ·exact j4 h1 10
   ·exact h1
  obtain⟨k1,k2⟩:=hp.simA _ _ hs
  exact⟨k1,k2.1,by show (p (bJ r)).2.d-1=(p (bJ r')).2.d-1;rw[k2.2.1],k2.2.2⟩
 simB:=fun hb dl T r r' hT h h0=>by
  have h0':(p (bJ r)).2.bad=0:=h0
  obtain⟨L,e,L',h1,h2,h3,h4,h5,h6,h7,h8⟩:=id h
  by_cases hd:10<r.d+1
  ·have hB:(bJ r).bad=10:=by unfold bJ;rw[if_pos hd];exact fZ (r:=({ r with d:=r.d+1 }:Rd)) h7 10
   have:=hp.mono _ (show (bJ r).bad≠0 by rw[hB];decide)
   rw[this.1.symm.trans h0'] at hB
   exact absurd hB (by decide)
  ·by_cases hd':10<r'.d+1
   ·have hB:(bJ r').bad=10:=by unfold bJ;rw[if_pos hd'];exact fZ (r:=({ r' with d:=r'.d+1 }:Rd)) h8 10
    have:=hp.mono _ (show (bJ r').bad≠0 by rw[hB];decide)
    exact .inl ⟨by show (p (bJ r')).2.bad=10;rw[this.1,hB],by omega⟩
   ·have e1:bJ r = { r with d:=r.d+1 }:=if_neg hd
    have e2:bJ r' = { r' with d:=r'.d+1 }:=if_neg hd'
    have hs:yN dl T (bJ r) (bJ r'):=by
     rw[e1,e2]
     exact⟨L,e,L',h1,h2,h3,h4,h5,by show r'.d+1=r.d+1+dl;omega,h7,h8⟩
    rcases hp.simB hb dl T _ _ hT hs h0' with⟨k1,k2⟩ | ⟨k1,L,e,L',k2,k3,k4,k5,k6,k7,k8,k9⟩
    ·exact .inl ⟨k1,k2⟩
    ·exact .inr ⟨k1,L,e,L',k2,k3,k4,k5,k6,by show (p (bJ r')).2.d-1=(p (bJ r)).2.d-1+dl;omega,k8,k9⟩
def aR {α:Type} (one:Pa α) (more:Pa Bool):Nat→List α→Pa (List α)
 | 0,_=>aB (iF 2) fun _=>aT []
 | m+1,acc=>aB one fun x=>aB more fun b=>if b=true then aR one more m (acc++[x]) else aT (acc++[x])
theorem bV {b:Bool} {F:Nat} {α:Type} {one:Pa α} {more:Pa Bool} (h1:bf b F one) (h2:bf b F more):∀(m:Nat) (acc:List α),bf b F (aR one more m acc)
 | 0,_=>(fM 2 (by decide)).bind fun _=>ay _
 |
  m+1,acc=>h1.bind fun x=>h2.bind fun b=>by
  split
  ·exact bV h1 h2 m _
  ·exact ay _
end Go.Proofs.YtaaggohjmhifbaaGreatDoor
