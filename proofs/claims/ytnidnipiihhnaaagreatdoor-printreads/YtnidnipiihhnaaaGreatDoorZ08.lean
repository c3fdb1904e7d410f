/- Packed for the hand-in: PPure PGram -/
import Derived.Test.YtnidnipiihhnaaaGreatDoorZ06
import Derived.Test.YtnidnipiihhnaaaGreatDoorZ01
namespace Go.Proofs.YtnidnipiihhnaaaGreatDoor
set_option linter.unusedSimpArgs false
set_option linter.unusedVariables false
set_option maxHeartbeats 8000000
structure Rd where
 ts:List Tk
 d:Int
 bad:Int
 bp:Int
abbrev Pa (α:Type):=Rd→α × Rd
def aZ {α:Type} (a:α):Pa α:=fun r=>(a,r)
def aG {α β:Type} (p:Pa α) (q:α→Pa β):Pa β:=fun r=>q (p r).1 (p r).2
def bF (r:Rd):Tk:=if r.bad=0 then r.ts.headD jJ else jJ
def dR (t:List UInt8) (r:Rd):Bool:=((bF r).k==2||(bF r).k==5)&&(bF r).s==t
def nextR (r:Rd):Rd:={ r with ts:=r.ts.tail }
def dB (e:Int) (r:Rd):Rd:=if r.bad=0 then { r with bad:=e,bp:=(bF r).p } else r
def cO (r:Rd):Tk:=r.ts.tail.headD jJ
def Ki (t:List UInt8):Pa Bool:=fun r=>(dR t r,r)
def gP {α:Type} (t:List UInt8) (yes no:Pa α):Pa α:=fun r=>if dR t r=true then yes (nextR r) else no r
def fF (t:List UInt8):Pa Bool:=gP t (aZ true) (aZ false)
def iR (e:Int):Pa Unit:=fun r=>((),dB e r)
def dx (t:List UInt8):Pa Unit:=gP t (aZ ()) (iR 4)
def aJ:List (List UInt8)→Pa Unit
 | []=>aZ ()
 | t::l=>aG (dx t) fun _=>aJ l
def jV:Pa Bool:=fun r=>((bF r).k==1,r)
def nameP:Pa (List UInt8):=fun r=>if (bF r).k=1 then ((bF r).s,nextR r) else ([],dB 4 r)
def jl:Pa Int:=fun r=>if (bF r).k=3 then ((bF r).n,nextR r) else (0,dB 4 r)
def qA:Pa (Option (List UInt8)):=fun r=>if (bF r).k=4 then (some (bF r).s,nextR r) else (none,r)
def iO {α:Type} (yes no:Pa α):Pa α:=fun r=>if dR [45] r=true∧(cO r).k≠3 then yes (nextR r) else no r
def aK:List (List UInt8 × Int)→Pa Int
 | []=>aZ 0
 | c::l=>gP c.1 (aZ c.2) (aK l)
def bO (r:Rd):Rd:=if 10<r.d+1 then dB 10 { r with d:=r.d+1 } else { r with d:=r.d+1 }
def Iq (r:Rd):Rd:={ r with d:=r.d-1 }
def fZ {α:Type} (p:Pa α):Pa α:=fun r=>((p (bO r)).1,Iq (p (bO r)).2)
def endP:Pa Unit:=fun r=>if (bF r).k=6 then ((),r) else ((),dB 4 r)
structure Good (F:Nat) (r:Rd):Prop where
 last:r.bad=0→∃L e,r.ts=L++[e]∧e.k=6∧∀x∈L,x.k≠6
 d0:0≤r.d
 d1:r.d≤11
 d2:r.bad=0→r.d≤10
 nums : ∀x∈r.ts,0≤x.n∧x.n≤9223372036854775807
 many:r.ts.length≤F
def sS (r r':Rd):Prop:=r.ts.map Tk.z=r'.ts.map Tk.z∧r.d=r'.d∧r.bad=r'.bad
def yP (dl:Nat) (T:List Tk) (r r':Rd):Prop :=
 ∃L e L' , r.ts=L++[e]∧e.k=6∧(∀x∈L,x.k≠6)∧r'.ts=L'++T∧L.map Tk.z=L'.map Tk.z∧r'.d=r.d+dl∧r.bad=0∧r'.bad=0
def Tail (T:List Tk):Prop:=∃h l,T=h::l∧h.k=5∧(h.s=[59]∨h.s=[41])
structure iN (b:Bool) (F:Nat) (G:Rd→Prop) {α:Type} (p:Pa α):Prop where
 mono : ∀r,r.bad≠0→(p r).2.bad=r.bad∧(p r).2.bp=r.bp
 fine : ∀r,G r→Good F r→Good F (p r).2∧(p r).2.d=r.d∧(p r).2.ts.length≤r.ts.length
 simA : ∀r r',sS r r'→(p r).1=(p r').1∧sS (p r).2 (p r').2
 simB:b=true→∀dl T r r',Tail T→yP dl T r r'→(p r).2.bad=0→((p r').2.bad=10∧0<dl)∨((p r).1=(p r').1∧yP dl T (p r).2 (p r').2)
abbrev bC (b:Bool) (F:Nat) {α:Type} (p:Pa α):Prop:=iN b F (fun _=>True) p
abbrev wO (b:Bool) (F:Nat) {α:Type} (p:Pa α):Prop:=iN b F (fun r=>r.bad=0) p
theorem iN.ok {b:Bool} {F:Nat} {α:Type} {p:Pa α} (h:bC b F p):wO b F p:=⟨h.mono,fun r _=>h.fine r trivial,h.simA,h.simB⟩
theorem aB {b:Bool} {F:Nat} {α:Type} (a:α):bC b F (aZ a) :=
 ⟨fun r _=>⟨rfl,rfl⟩,fun r _ h=>⟨h,rfl,Nat.le_refl _⟩,fun r r' h=>⟨rfl,h⟩,fun _ dl T r r' _ h _=>.inr ⟨rfl,h⟩⟩
theorem iN.bind {b:Bool} {F:Nat} {G:Rd→Prop} {α β:Type} {p:Pa α} {q:α→Pa β} (hp:iN b F G p) (hq : ∀a,bC b F (q a)):iN b F G (aG p q) where
 mono:=fun r h=>by
  obtain⟨h1,h2⟩:=hp.mono r h
  obtain⟨k1,k2⟩:=(hq (p r).1).mono _ (by rw[h1];exact h)
  exact⟨k1.trans h1,k2.trans h2⟩
 fine:=fun r g h=>by
  obtain⟨h1,h2,h3⟩:=hp.fine r g h
  obtain⟨k1,k2,k3⟩:=(hq (p r).1).fine _ trivial h1
  exact⟨k1,k2.trans h2,Nat.le_trans k3 h3⟩
 simA:=fun r r' h=>by
  obtain⟨h1,h2⟩:=hp.simA r r' h
  have:=(hq (p r).1).simA _ _ h2
  unfold aG
  rw[← h1]
  exact this
 simB:=fun hb dl T r r' hT h h0=>by
  have hb0:(p r).2.bad=0:=by
   by_cases e:(p r).2.bad=0
   ·exact e
   ·exact absurd ((((hq (p r).1).mono _ e).1.symm.trans h0:(p r).2.bad=0)) e
  rcases hp.simB hb dl T r r' hT h hb0 with⟨k1,k2⟩ | ⟨k1,k2⟩
  ·exact .inl ⟨((hq (p r').1).mono _ (by rw[k1];decide)).1.trans k1,k2⟩
  ·have:=(hq (p r).1).simB hb dl T _ _ hT k2 h0
   unfold aG
   rw[← k1]
   exact this
theorem mG {r r':Rd} (h:sS r r'):(bF r).z=(bF r').z:=by
 obtain⟨h1,_,h3⟩:=h
 unfold bF
 rw[h3]
 split
 ·cases hr:r.ts with
  |
   nil =>
   rw[hr] at h1
   have:r'.ts=[]:=by simpa using h1.symm
   rw[this]
  |
   cons a l =>
   rw[hr] at h1
   cases hr':r'.ts with
   | nil=>rw[hr'] at h1;simp at h1
   | cons a' l'=>rw[hr'] at h1;simp at h1;simpa using h1.1
 ·rfl
theorem qI {x y:Tk} (h:x.z=y.z):x.k=y.k∧x.s=y.s∧x.n=y.n:=by
 have h':(⟨x.k,x.s,x.n,0⟩:Tk)=⟨y.k,y.s,y.n,0⟩:=h
 simp only[Tk.mk.injEq] at h'
 exact⟨h'.1,h'.2.1,h'.2.2.1⟩
theorem tL {r r':Rd} (h:sS r r') (t:List UInt8):dR t r=dR t r':=by
 obtain⟨h1,h2,_⟩:=qI (mG h)
 unfold dR
 rw[h1,h2]
theorem kH {r r':Rd} (h:sS r r'):sS (nextR r) (nextR r') :=
 ⟨by simp only[nextR,List.map_tail];rw[h.1],h.2.1,h.2.2⟩
theorem kI {r r':Rd} (h:sS r r') (e:Int):sS (dB e r) (dB e r'):=by
 unfold dB
 rw[h.2.2]
 split
 ·exact⟨h.1,h.2.1,rfl⟩
 ·exact h
theorem zU {r r':Rd} (h:sS r r'):(cO r).k=(cO r').k:=by
 have h1:=congrArg List.tail h.1
 rw[← List.map_tail,← List.map_tail] at h1
 unfold cO
 generalize r.ts.tail=a at h1
 generalize r'.ts.tail=b at h1
 cases a with
 |
  nil =>
  have:b=[]:=by simpa using h1.symm
  rw[this]
 |
  cons x a =>
  cases b with
  | nil=>simp at h1
  |
   cons y b =>
   rw[List.map_cons,List.map_cons,List.cons.injEq] at h1
   exact (qI h1.1).1
theorem jB {r:Rd} (h:r.bad≠0):bF r=jJ:=if_neg h
theorem qb {r:Rd} (h:r.bad≠0) (t:List UInt8):dR t r=false:=by unfold dR;rw[jB h];rfl
theorem jX {r:Rd} {t:List UInt8} (h:dR t r=true):r.bad=0:=by
 by_cases e:r.bad=0
 ·exact e
 ·rw[qb e] at h;cases h
theorem tK {r:Rd} {t:List UInt8} (h:dR t r=true):((bF r).k=2∨(bF r).k=5)∧(bF r).s=t:=by
 unfold dR at h
 simpa using h
theorem fU {r:Rd} (h:r.bad≠0) (e:Int):dB e r=r:=if_neg h
theorem gG {r:Rd} (h:r.bad=0) (e:Int):(dB e r).bad=e:=by unfold dB;rw[if_pos h]
theorem oL (r:Rd) (e:Int):(dB e r).ts=r.ts∧(dB e r).d=r.d:=by unfold dB;split<;>exact⟨rfl,rfl⟩
theorem Good.fail {F:Nat} {r:Rd} (h:Good F r) {e:Int} (he:e≠0):Good F (dB e r):=by
 by_cases hb:r.bad=0
 ·have hf:=gG hb e
  obtain⟨t1,t2⟩:=oL r e
  exact⟨fun h0=>absurd (hf.symm.trans h0) he,by rw[t2];exact h.d0,by rw[t2];exact h.d1,fun h0=>absurd (hf.symm.trans h0) he,by rw[t1];exact h.nums,by rw[t1];exact h.many⟩
 ·rw[fU hb];exact h
theorem Good.next {F:Nat} {r:Rd} (h:Good F r) (hb:r.bad=0) (hk:(bF r).k≠6):Good F (nextR r):=by
 obtain⟨L,e,h1,h2,h3⟩:=h.last hb
 refine ⟨fun _=>?_,h.d0,h.d1,h.d2,fun x hx=>h.nums x (List.mem_of_mem_tail hx),Nat.le_trans (by simp[nextR]) h.many⟩
 cases L with
 |
  nil =>
  refine absurd ?_ hk
  unfold bF
  rw[if_pos hb,h1]
  exact h2
 | cons a L=>exact⟨L,e,by simp[nextR,h1],h2,fun x hx=>h3 x (by simp[hx])⟩
theorem oP (r:Rd):(nextR r).ts.length≤r.ts.length:=by simp[nextR]
theorem next_lt {r:Rd} (h:(bF r).k≠0):(nextR r).ts.length<r.ts.length:=by
 unfold bF at h
 split at h
 ·cases hr:r.ts with
  | nil=>rw[hr] at h;exact absurd rfl h
  | cons a l=>simp[nextR,hr]
 ·exact absurd rfl h
theorem gZ {dl:Nat} {T:List Tk} {r r':Rd} (hT:Tail T) (h:yP dl T r r') :
  ((bF r).k=6∧(bF r').k=5∧((bF r').s=[59]∨(bF r').s=[41])) ∨
  ((bF r).k≠6∧(bF r).z=(bF r').z∧yP dl T (nextR r) (nextR r')∧((cO r).k=3↔(cO r').k=3)):=by
 obtain⟨L,e,L',h1,h2,h3,h4,h5,h6,h7,h8⟩:=h
 obtain⟨t,l,hTe,ht1,ht2⟩:=hT
 cases L with
 |
  nil =>
  left
  have:L'=[]:=by simpa using h5.symm
  subst this
  unfold bF
  rw[if_pos h7,if_pos h8,h1,h4,hTe]
  exact⟨h2,ht1,ht2⟩
 |
  cons a L =>
  cases L' with
  | nil=>simp at h5
  |
   cons a' L' =>
   rw[List.map_cons,List.map_cons,List.cons.injEq] at h5
   right
   have n1:bF r=a:=by unfold bF;rw[if_pos h7,h1];rfl
   have n2:bF r'=a':=by unfold bF;rw[if_pos h8,h4];rfl
   rw[n1,n2]
   refine ⟨h3 a (by simp),h5.1,⟨L,e,L',by simp[nextR,h1],h2,fun x hx=>h3 x (by simp[hx]),by simp[nextR,h4],h5.2,h6,h7,h8⟩,?_⟩
   unfold cO
   rw[h1,h4]
   cases L with
   |
    nil =>
    have:L'=[]:=by simpa using h5.2.symm
    subst this
    rw[hTe]
    show e.k=3↔t.k=3
    rw[h2,ht1]
    decide
   |
    cons b L =>
    cases L' with
    | nil=>simp at h5
    |
     cons b' L' =>
     have h52:=h5.2
     rw[List.map_cons,List.map_cons,List.cons.injEq] at h52
     show b.k=3↔b'.k=3
     rw[(qI h52.1).1]
theorem xI {dl:Nat} {T:List Tk} {r r':Rd} (hT:Tail T) (h:yP dl T r r') {t:List UInt8} (ht1:t≠[59]) (ht2:t≠[41]):dR t r=dR t r':=by
 rcases gZ hT h with⟨k1,k2,k3⟩ | ⟨_,k2,_⟩
 ·unfold dR
  rw[k1,k2]
  have:((bF r').s==t)=false:=by
   rw[beq_eq_false_iff_ne]
   rcases k3 with k3 | k3<;>rw[k3]
   ·exact fun e=>ht1 e.symm
   ·exact fun e=>ht2 e.symm
  rw[this]
  rfl
 ·obtain⟨e1,e2,_⟩:=qI k2
  unfold dR
  rw[e1,e2]
theorem CF {dl:Nat} {T:List Tk} {r r':Rd} (hT:Tail T) (h:yP dl T r r') (hk:(bF r).k≠6):yP dl T (nextR r) (nextR r'):=by
 rcases gZ hT h with⟨k1,_⟩ | ⟨_,_,k,_⟩
 ·exact absurd k1 hk
 ·exact k
theorem G8 {b:Bool} {F:Nat} (t:List UInt8) (h1:b=true→t≠[59]∧t≠[41]):bC b F (Ki t) :=
 ⟨fun r _=>⟨rfl,rfl⟩,fun r _ h=>⟨h,rfl,Nat.le_refl _⟩,fun r r' h=>⟨tL h t,h⟩,fun hb dl T r r' hT h _=>.inr ⟨xI hT h (h1 hb).1 (h1 hb).2,h⟩⟩
theorem mF {r:Rd} {t:List UInt8} (h:dR t r=true):(bF r).k≠6:=by
 rcases (tK h).1 with e | e<;>rw[e]<;>decide
theorem eY {b:Bool} {F:Nat} {α:Type} (t:List UInt8) {yes no:Pa α} (h1:b=true→t≠[59]∧t≠[41]) (hy:wO b F yes) (hn:bC b F no):bC b F (gP t yes no) where
 mono:=fun r h=>by unfold gP;rw[qb h];exact hn.mono r h
 fine:=fun r _ h=>by
  unfold gP
  split
  ·rename_i hi
   obtain⟨k1,k2,k3⟩:=hy.fine (nextR r) (id (jX (r:=r) hi)) (h.next (jX hi) (mF hi))
   exact⟨k1,k2,Nat.le_trans k3 (oP r)⟩
  ·exact hn.fine r trivial h
 simA:=fun r r' h=>by
  unfold gP
  rw[← tL h t]
  split
  ·exact hy.simA _ _ (kH h)
  ·exact hn.simA _ _ h
 simB:=fun hb dl T r r' hT h h0=>by
  unfold gP at h0 ⊢
  rw[← xI hT h (h1 hb).1 (h1 hb).2]
  split
  ·rename_i hi
   rw[if_pos hi] at h0
   exact hy.simB hb dl T _ _ hT (CF hT h (mF hi)) h0
  ·rename_i hi
   rw[if_neg hi] at h0
   exact hn.simB hb dl T _ _ hT h h0
theorem jS {b:Bool} {F:Nat} (t:List UInt8) (h1:b=true→t≠[59]∧t≠[41]):bC b F (fF t):=eY t h1 (aB _).ok (aB _)
theorem fV {b:Bool} {F:Nat} (e:Int) (he:e≠0):bC b F (iR e) where
 mono:=fun r h=>by unfold iR;rw[fU h];exact⟨rfl,rfl⟩
 fine:=fun r _ h=>⟨h.fail he,(oL r e).2,by show (dB e r).ts.length≤_;rw[(oL r e).1];exact Nat.le_refl _⟩
 simA:=fun r r' h=>⟨rfl,kI h e⟩
 simB:=fun hb dl T r r' hT h h0=>by
  obtain⟨L,e',L',_,_,_,_,_,_,h7,_⟩:=h
  exact absurd ((gG h7 e).symm.trans h0) he
theorem bI {b:Bool} {F:Nat} (t:List UInt8):bC b F (dx t) where
 mono:=fun r h=>by unfold dx gP;rw[qb h];exact (fV (b:=b) (F:=F) 4 (by decide)).mono r h
 fine:=fun r _ h=>by
  unfold dx gP
  split
  ·rename_i hi
   exact⟨h.next (jX hi) (mF hi),rfl,oP r⟩
  ·exact (fV (b:=b) 4 (by decide)).fine r trivial h
 simA:=fun r r' h=>by
  unfold dx gP
  rw[← tL h t]
  split
  ·exact⟨rfl,kH h⟩
  ·exact⟨rfl,kI h 4⟩
 simB:=fun hb dl T r r' hT h h0=>by
  unfold dx gP at h0 ⊢
  by_cases hi:dR t r=true
  ·rw[if_pos hi]
   have hk:=mF hi
   rcases gZ hT h with⟨k1,_⟩ | ⟨_,k2,k3,_⟩
   ·exact absurd k1 hk
   ·obtain⟨e1,e2,_⟩:=qI k2
    have hi':dR t r'=true:=by unfold dR at hi ⊢;rw[← e1,← e2];exact hi
    rw[if_pos hi']
    exact .inr ⟨rfl,k3⟩
  ·rw[if_neg hi] at h0
   obtain⟨L,e',L',_,_,_,_,_,_,h7,_⟩:=h
   exact absurd ((gG h7 4).symm.trans h0) (by decide)
theorem bA {b:Bool} {F:Nat}:∀l:List (List UInt8),bC b F (aJ l)
 | []=>aB _
 | t::l=>(bI t).bind fun _=>bA l
theorem yw {b:Bool} {F:Nat}:bC b F jV where
 mono:=fun r h=>⟨rfl,rfl⟩
 fine:=fun r _ h=>⟨h,rfl,Nat.le_refl _⟩
 simA:=fun r r' h=>⟨by show ((bF r).k==1)=_;rw[(qI (mG h)).1];rfl,h⟩
 simB:=fun hb dl T r r' hT h _=>.inr ⟨by
  show ((bF r).k==1)=((bF r').k==1)
  rcases gZ hT h with⟨k1,k2,_⟩ | ⟨_,k2,_⟩
  ·rw[k1,k2];rfl
  ·rw[(qI k2).1],h⟩
theorem bD {b:Bool} {F:Nat}:bC b F nameP where
 mono:=fun r h=>by unfold nameP;rw[jB h,if_neg (by decide),fU h];exact⟨rfl,rfl⟩
 fine:=fun r _ h=>by
  unfold nameP
  split
  ·rename_i hk
   have hb:r.bad=0:=by
    by_cases e:r.bad=0
    ·exact e
    ·rw[jB e] at hk;exact absurd hk (by decide)
   exact⟨h.next hb (by rw[hk];decide),rfl,oP r⟩
  ·exact (fV (b:=b) 4 (by decide)).fine r trivial h
 simA:=fun r r' h=>by
  obtain⟨e1,e2,_⟩:=qI (mG h)
  unfold nameP
  rw[e1,e2]
  split
  ·exact⟨rfl,kH h⟩
  ·exact⟨rfl,kI h 4⟩
 simB:=fun hb dl T r r' hT h h0=>by
  unfold nameP at h0 ⊢
  by_cases hk:(bF r).k=1
  ·rcases gZ hT h with⟨k1,_⟩ | ⟨_,k2,k3,_⟩
   ·rw[k1] at hk;exact absurd hk (by decide)
   ·obtain⟨e1,e2,_⟩:=qI k2
    rw[if_pos hk,if_pos (e1 ▸ hk),e2]
    exact .inr ⟨rfl,k3⟩
  ·rw[if_neg hk] at h0
   obtain⟨L,e',L',_,_,_,_,_,_,h7,_⟩:=h
   exact absurd ((gG h7 4).symm.trans h0) (by decide)
theorem kS {b:Bool} {F:Nat}:bC b F jl where
 mono:=fun r h=>by unfold jl;rw[jB h,if_neg (by decide),fU h];exact⟨rfl,rfl⟩
 fine:=fun r _ h=>by
  unfold jl
  split
  ·rename_i hk
   have hb:r.bad=0:=by
    by_cases e:r.bad=0
    ·exact e
    ·rw[jB e] at hk;exact absurd hk (by decide)
   exact⟨h.next hb (by rw[hk];decide),rfl,oP r⟩
  ·exact (fV (b:=b) 4 (by decide)).fine r trivial h
 simA:=fun r r' h=>by
  obtain⟨e1,_,e2⟩:=qI (mG h)
  unfold jl
  rw[e1,e2]
  split
  ·exact⟨rfl,kH h⟩
  ·exact⟨rfl,kI h 4⟩
 simB:=fun hb dl T r r' hT h h0=>by
  unfold jl at h0 ⊢
  by_cases hk:(bF r).k=3
  ·rcases gZ hT h with⟨k1,_⟩ | ⟨_,k2,k3,_⟩
   ·rw[k1] at hk;exact absurd hk (by decide)
   ·obtain⟨e1,_,e2⟩:=qI k2
    rw[if_pos hk,if_pos (e1 ▸ hk),e2]
    exact .inr ⟨rfl,k3⟩
  ·rw[if_neg hk] at h0
   obtain⟨L,e',L',_,_,_,_,_,_,h7,_⟩:=h
   exact absurd ((gG h7 4).symm.trans h0) (by decide)
theorem vN {b:Bool} {F:Nat}:bC b F qA where
 mono:=fun r h=>by unfold qA;rw[jB h,if_neg (by decide)];exact⟨rfl,rfl⟩
 fine:=fun r _ h=>by
  unfold qA
  split
  ·rename_i hk
   have hb:r.bad=0:=by
    by_cases e:r.bad=0
    ·exact e
    ·rw[jB e] at hk;exact absurd hk (by decide)
   exact⟨h.next hb (by rw[hk];decide),rfl,oP r⟩
  ·exact⟨h,rfl,Nat.le_refl _⟩
 simA:=fun r r' h=>by
  obtain⟨e1,e2,_⟩:=qI (mG h)
  unfold qA
  rw[e1,e2]
  split
  ·exact⟨rfl,kH h⟩
  ·exact⟨rfl,h⟩
 simB:=fun hb dl T r r' hT h h0=>by
  unfold qA
  rcases gZ hT h with⟨k1,k2,_⟩ | ⟨_,k2,k3,_⟩
  ·rw[k1,k2,if_neg (by decide),if_neg (by decide)]
   exact .inr ⟨rfl,h⟩
  ·obtain⟨e1,e2,_⟩:=qI k2
   rw[e1,e2]
   split
   ·exact .inr ⟨rfl,k3⟩
   ·exact .inr ⟨rfl,h⟩
theorem BM {b:Bool} {F:Nat} {α:Type} {yes no:Pa α} (hy:wO b F yes) (hn:bC b F no):bC b F (iO yes no) where
 mono:=fun r h=>by unfold iO;rw[qb h,if_neg (fun e=>by cases e.1)];exact hn.mono r h
 fine:=fun r _ h=>by
  unfold iO
  split
  ·rename_i hi
   obtain⟨k1,k2,k3⟩:=hy.fine (nextR r) (id (jX (r:=r) hi.1)) (h.next (jX hi.1) (mF hi.1))
   exact⟨k1,k2,Nat.le_trans k3 (oP r)⟩
  ·exact hn.fine r trivial h
 simA:=fun r r' h=>by
  unfold iO
  rw[← tL h [45],← zU h]
  split
  ·exact hy.simA _ _ (kH h)
  ·exact hn.simA _ _ h
 simB:=fun hb dl T r r' hT h h0=>by
  unfold iO at h0 ⊢
  have e1:=xI (t:=[45]) hT h (by decide) (by decide)
  by_cases hi:dR [45] r=true
  ·rcases gZ hT h with⟨k1,_⟩ | ⟨_,_,k3,k4⟩
   ·exact absurd k1 (mF hi)
   ·have hi':dR [45] r'=true:=by rw[← e1];exact hi
    by_cases hk:(cO r).k=3
    ·have c1 : ¬(dR [45] r=true∧(cO r).k≠3):=fun e=>e.2 hk
     have c2 : ¬(dR [45] r'=true∧(cO r').k≠3):=fun e=>e.2 (k4.1 hk)
     rw[if_neg c1] at h0
     rw[if_neg c1,if_neg c2]
     exact hn.simB hb dl T _ _ hT h h0
    ·have c1:dR [45] r=true∧(cO r).k≠3:=⟨hi,hk⟩
     have c2:dR [45] r'=true∧(cO r').k≠3:=⟨hi',fun e=>hk (k4.2 e)⟩
     rw[if_pos c1] at h0
     rw[if_pos c1,if_pos c2]
     exact hy.simB hb dl T _ _ hT k3 h0
  ·have c1 : ¬(dR [45] r=true∧(cO r).k≠3):=fun e=>hi e.1
   have c2 : ¬(dR [45] r'=true∧(cO r').k≠3):=fun e=>hi (by rw[e1];exact e.1)
   rw[if_neg c1] at h0
   rw[if_neg c1,if_neg c2]
   exact hn.simB hb dl T _ _ hT h h0
theorem dM {b:Bool} {F:Nat}:∀l:List (List UInt8 × Int),(b=true→∀c∈l,c.1≠[59]∧c.1≠[41])→bC b F (aK l)
 | [],_=>aB _
 | c::l,h=>eY c.1 (fun hb=>h hb c (by simp)) (aB _).ok (dM l fun hb x hx=>h hb x (by simp[hx]))
theorem choose_lt : ∀(l:List (List UInt8 × Int)) (r:Rd),(aK l r).1≠0→(aK l r).2=nextR r∧r.bad=0∧(nextR r).ts.length<r.ts.length
 | [],r,h=>absurd rfl h
 |
  c::l,r,h=>by
  unfold aK gP at h ⊢
  split at h
  ·rename_i hi
   rw[if_pos hi]
   exact⟨rfl,jX hi,next_lt (by rcases (tK hi).1 with e | e<;>rw[e]<;>decide)⟩
  ·rename_i hi
   rw[if_neg hi]
   exact choose_lt l r h
theorem oq : ∀(l:List (List UInt8 × Int)) (r:Rd),(∀c∈l,c.2≠0)→(aK l r).1=0→(aK l r).2=r
 | [],r,_,h=>rfl
 |
  c::l,r,hl,h=>by
  unfold aK gP at h ⊢
  split at h
  ·exact absurd h (hl c (by simp))
  ·rename_i hi
   rw[if_neg hi]
   exact oq l r (fun x hx=>hl x (by simp[hx])) h
theorem FW {r:Rd} (h:r.bad≠0):(bO r).bad=r.bad∧(bO r).bp=r.bp:=by
 unfold bO
 split
 ·rw[fU (show ({ r with d:=r.d+1 }:Rd).bad≠0 from h)];exact⟨rfl,rfl⟩
 ·exact⟨rfl,rfl⟩
theorem o7 {b:Bool} {F:Nat} {α:Type} {p:Pa α} (hp:bC b F p):wO b F (fZ p) where
 mono:=fun r h=>by
  obtain⟨d1,d2⟩:=FW h
  obtain⟨k1,k2⟩:=hp.mono _ (show (bO r).bad≠0 by rw[d1];exact h)
  exact⟨k1.trans d1,k2.trans d2⟩
 fine:=fun r hb h=>by
  have h2:=h.d2 hb
  have h0:=h.d0
  have hG:Good F (bO r)∧(bO r).d=r.d+1∧(bO r).ts=r.ts:=by
   unfold bO
   split
   ·rename_i h10
    obtain⟨t1,t2⟩:=oL ({ r with d:=r.d+1 }:Rd) 10
    have hf:=gG (r:=({ r with d:=r.d+1 }:Rd)) hb 10
    refine ⟨⟨fun e=>absurd (hf.symm.trans e) (by decide),by rw[t2];show 0≤r.d+1;omega,by rw[t2];show r.d+1≤11;omega,fun e=>absurd (hf.symm.trans e) (by decide),by rw[t1];exact h.nums,by rw[t1];exact h.many⟩,t2,t1⟩
   ·exact⟨⟨h.last,by show 0≤r.d+1;omega,by show r.d+1≤11;omega,fun _=>by show r.d+1≤10;omega,h.nums,h.many⟩,rfl,rfl⟩
  obtain⟨hG,hd,ht⟩:=hG
  obtain⟨k1,k2,k3⟩:=hp.fine _ trivial hG
  have hd':(p (bO r)).2.d=r.d+1:=k2.trans hd
  refine ⟨⟨k1.last,by show 0≤(p (bO r)).2.d-1;omega,by show (p (bO r)).2.d-1≤11;omega,fun _=>by show (p (bO r)).2.d-1≤10;omega,k1.nums,k1.many⟩,by show (p (bO r)).2.d-1=r.d;omega,by show (p (bO r)).2.ts.length≤_;rw[ht] at k3;exact k3⟩
 simA:=fun r r' h=>by
  have hs:sS (bO r) (bO r'):=by
   unfold bO
   rw[h.2.1]
   have h1:sS ({ r with d:=r'.d+1 }:Rd) ({ r' with d:=r'.d+1 }:Rd):=⟨h.1,rfl,h.2.2⟩
   split
   ·exact kI h1 10
   ·exact h1
  obtain⟨k1,k2⟩:=hp.simA _ _ hs
  exact⟨k1,k2.1,by show (p (bO r)).2.d-1=(p (bO r')).2.d-1;rw[k2.2.1],k2.2.2⟩
 simB:=fun hb dl T r r' hT h h0=>by
  have h0':(p (bO r)).2.bad=0:=h0
  obtain⟨L,e,L',h1,h2,h3,h4,h5,h6,h7,h8⟩:=id h
  by_cases hd:10<r.d+1
  ·have hB:(bO r).bad=10:=by unfold bO;rw[if_pos hd];exact gG (r:=({ r with d:=r.d+1 }:Rd)) h7 10
   have:=hp.mono _ (show (bO r).bad≠0 by rw[hB];decide)
   rw[this.1.symm.trans h0'] at hB
   exact absurd hB (by decide)
  ·by_cases hd':10<r'.d+1
   ·have hB:(bO r').bad=10:=by unfold bO;rw[if_pos hd'];exact gG (r:=({ r' with d:=r'.d+1 }:Rd)) h8 10
    have:=hp.mono _ (show (bO r').bad≠0 by rw[hB];decide)
    exact .inl ⟨by show (p (bO r')).2.bad=10;rw[this.1,hB],by omega⟩
   ·have e1:bO r = { r with d:=r.d+1 }:=if_neg hd
    have e2:bO r' = { r' with d:=r'.d+1 }:=if_neg hd'
    have hs:yP dl T (bO r) (bO r'):=by
     rw[e1,e2]
     exact⟨L,e,L',h1,h2,h3,h4,h5,by show r'.d+1=r.d+1+dl;omega,h7,h8⟩
    rcases hp.simB hb dl T _ _ hT hs h0' with⟨k1,k2⟩ | ⟨k1,L,e,L',k2,k3,k4,k5,k6,k7,k8,k9⟩
    ·exact .inl ⟨k1,k2⟩
    ·exact .inr ⟨k1,L,e,L',k2,k3,k4,k5,k6,by show (p (bO r')).2.d-1=(p (bO r)).2.d-1+dl;omega,k8,k9⟩
def aV {α:Type} (one:Pa α) (more:Pa Bool):Nat→List α→Pa (List α)
 | 0,_=>aG (iR 2) fun _=>aZ []
 | m+1,acc=>aG one fun x=>aG more fun b=>if b=true then aV one more m (acc++[x]) else aZ (acc++[x])
theorem cB {b:Bool} {F:Nat} {α:Type} {one:Pa α} {more:Pa Bool} (h1:bC b F one) (h2:bC b F more):∀(m:Nat) (acc:List α),bC b F (aV one more m acc)
 | 0,_=>(fV 2 (by decide)).bind fun _=>aB _
 |
  m+1,acc=>h1.bind fun x=>h2.bind fun b=>by
  split
  ·exact cB h1 h2 m _
  ·exact aB _
inductive Ex where
 | mk (k op:Int) (tb nm:List UInt8) (v:Vl) (xs:List Ex)
def zV:Vl:=⟨0,0,[]⟩
def Ag:Ex:=.mk 0 0 [] [] zV []
def mq (op:Int) (a b:Ex):Ex:=.mk 3 op [] [] zV [a,b]
def eT (k:Int) (a:Ex):Ex:=.mk k 0 [] [] zV [a]
def jM (t n:List UInt8):Ex:=.mk 2 0 t n zV []
def jf (v:Vl):Ex:=.mk 1 0 [] [] v []
def jT (below:Pa Ex) (ops:List (List UInt8 × Int)):Nat→Ex→Pa Ex
 | 0,e=>aZ e
 | f+1,e=>aG (aK ops) fun op=>if op=0 then aZ e else aG below fun x=>jT below ops f (mq op e x)
def rowP (F:Nat) (below:Pa Ex) (ops:List (List UInt8 × Int)):Pa Ex:=aG below fun e=>jT below ops F e
def wP:List (List UInt8 × Int):=[([79,82],1)]
def qC:List (List UInt8 × Int):=[([65,78,68],2)]
def nU:List (List UInt8 × Int):=[([61],3),([60,62],4),([60],5),([60,61],6),([62],7),([62,61],8)]
def qV:List (List UInt8 × Int):=[([43],9),([45],10)]
def qW:List (List UInt8 × Int):=[([42],11),([47],12),([37],13)]
def gQ:List (List UInt8 × Int):=[([67,82,69,65,84,69],1),([68,82,79,80],2),([73,78,83,69,82,84],3),([85,80,68,65,84,69],4),([68,69,76,69,84,69],5),([83,69,76,69,67,84],6)]
def gL:List (List UInt8 × Int):=[([73,78,84],1),([84,69,88,84],2)]
def eG:List (List UInt8 × Int):=[([67,79,85,78,84],4),([83,85,77],5),([77,73,78],6),([77,65,88],7)]
def jI:Pa Vl:=gP [78,85,76,76] (aZ zV) (aG qA fun o=>match o with
 | some s=>aZ ⟨2,0,s⟩
 | none=>gP [45] (aG jl fun n=>aZ ⟨1,-n,[]⟩) (aG jl fun n=>aZ ⟨1,n,[]⟩))
def fu:Pa Ex:=aG nameP fun n=>gP [46] (aG nameP fun m=>aZ (jM n m)) (aZ (jM [] n))
def dO (fc ex:Pa Ex):Pa Ex:=aG jV fun b=>if b=true then fu else
 iO (aG (fZ fc) fun e=>aZ (eT 5 e)) (gP [40] (aG (fZ ex) fun e=>aG (dx [41]) fun _=>aZ e) (aG jI fun v=>aZ (jf v)))
def pO (e:Ex):Pa Ex:=aG (fF [78,79,84]) fun t=>aG (dx [78,85,76,76]) fun _=>aZ (if t=true then eT 4 (eT 6 e) else eT 6 e)
def iK (sum:Pa Ex):Pa Ex:=aG sum fun e=>gP [73,83] (pO e) (aG (aK nU) fun op=>if op=0 then aZ e else aG sum fun x=>aZ (mq op e x))
def notP (nt test:Pa Ex):Pa Ex:=gP [78,79,84] (aG (fZ nt) fun e=>aZ (eT 4 e)) test
structure Lv where
 nt:Pa Ex
 fc:Pa Ex
 ex:Pa Ex
def EL (F:Nat) (L:Lv):Pa Ex:=rowP F (dO L.fc L.ex) qW
def qF (F:Nat) (L:Lv):Pa Ex:=rowP F (EL F L) qV
def EB (F:Nat) (L:Lv):Pa Ex:=notP L.nt (iK (qF F L))
def Jk (F:Nat) (L:Lv):Pa Ex:=rowP F (EB F L) qC
def Ca (F:Nat) (L:Lv):Pa Ex:=rowP F (Jk F L) wP
def lV (F:Nat):Nat→Lv
 | 0=>⟨aZ Ag,aZ Ag,aZ Ag⟩
 | n+1=>⟨EB F (lV F n),dO (lV F n).fc (lV F n).ex,Ca F (lV F n)⟩
def dn (F:Nat):Pa Ex:=(lV F 12).ex
structure Co where
 nm:List UInt8
 k:Int
 nn:Bool
 uq:Bool
structure It where
 k:Int
 xs:List Ex
structure Se where
 nm:List UInt8
 e:Ex
structure St where
 k:Int
 tb:List UInt8
 cols:List Co
 prim:List UInt8
 rows:List (List Vl)
 sets:List Se
 items:List It
 jn:List UInt8
 on:List Ex
 wh:List Ex
 gr:List Ex
 od:List Ex
 desc:Bool
 lim:Int
def iP (k:Int):St:=⟨k,[],[],[],[],[],[],[],[],[],[],[],false,-1⟩
def bN (read:Pa Ex) (first:List UInt8) (others:List (List UInt8)):Pa (List Ex):=gP first (aG (aJ others) fun _=>aG read fun e=>aZ [e]) (aZ [])
def bL:Pa Bool:=fF [44]
def iU:Pa Bool:=fF [59]
def eZ:Pa Co:=aG nameP fun n=>aG (aK gL) fun k=>aG (if k=0 then iR 4 else aZ ()) fun _=>aG (gP [78,79,84] (aG (dx [78,85,76,76]) fun _=>aZ true) (aZ false)) fun nn=>aG (fF [85,78,73,81,85,69]) fun uq=>aZ ⟨n,k,nn,uq⟩
def bQ:Pa Bool:=gP [44] (aG (Ki [80,82,73,77,65,82,89]) fun b=>aZ (!b)) (aG (iR 4) fun _=>aZ false)
def dH:Pa St:=aG (dx [84,65,66,76,69]) fun _=>aG nameP fun tb=>aG (dx [40]) fun _=>aG (aV eZ bQ 8 []) fun cs=>aG (aJ [[80,82,73,77,65,82,89],[75,69,89],[40]]) fun _=>aG nameP fun pr=>aG (aJ [[41],[41]]) fun _=>aZ { iP 1 with tb:=tb,cols:=cs,prim:=pr }
def ko:Pa St:=aG (dx [84,65,66,76,69]) fun _=>aG nameP fun tb=>aZ { iP 2 with tb:=tb }
def fK:Pa (List Vl):=aG (dx [40]) fun _=>aG (aV jI bL 8 []) fun l=>aG (dx [41]) fun _=>aZ l
def dN:Pa St:=aG (dx [73,78,84,79]) fun _=>aG nameP fun tb=>aG (dx [86,65,76,85,69,83]) fun _=>aG (aV fK bL 16 []) fun rs=>aZ { iP 3 with tb:=tb,rows:=rs }
def nM (ex:Pa Ex):Pa Se:=aG nameP fun n=>aG (dx [61]) fun _=>aG ex fun e=>aZ ⟨n,e⟩
def dI (ex:Pa Ex):Pa St:=aG nameP fun tb=>aG (dx [83,69,84]) fun _=>aG (aV (nM ex) bL 8 []) fun ss=>aG (bN ex [87,72,69,82,69] []) fun wh=>aZ { iP 4 with tb:=tb,sets:=ss,wh:=wh }
def fJ (ex:Pa Ex):Pa St:=aG (dx [70,82,79,77]) fun _=>aG nameP fun tb=>aG (bN ex [87,72,69,82,69] []) fun wh=>aZ { iP 5 with tb:=tb,wh:=wh }
def dY (ex:Pa Ex):Pa It:=gP [42] (aZ ⟨1,[]⟩) (aG (aK eG) fun k=>if k=0 then aG ex fun e=>aZ ⟨2,[e]⟩ else
 aG (dx [40]) fun _=>aG (if k=4 then fF [42] else aZ false) fun b=>aG (if b=true then aZ ⟨3,[]⟩ else aG ex fun e=>aZ ⟨k,[e]⟩) fun i=>aG (dx [41]) fun _=>aZ i)
def iL (ex:Pa Ex):Pa (List UInt8 × List Ex):=gP [74,79,73,78] (aG nameP fun j=>aG (dx [79,78]) fun _=>aG ex fun e=>aZ (j,[e])) (aZ ([],[]))
def eB (ex:Pa Ex):Pa St:=aG (aV (dY ex) bL 8 []) fun its=>aG (dx [70,82,79,77]) fun _=>aG nameP fun tb=>aG (iL ex) fun j=>aG (bN ex [87,72,69,82,69] []) fun wh=>aG (bN fu [71,82,79,85,80] [[66,89]]) fun gr=>aG (bN fu [79,82,68,69,82] [[66,89]]) fun od =>
 aG (if od.length=0 then aZ false else fF [68,69,83,67]) fun de=>aG (gP [76,73,77,73,84] jl (aZ (-1))) fun li=>aZ { iP 6 with tb:=tb,items:=its,jn:=j.1,on:=j.2,wh:=wh,gr:=gr,od:=od,desc:=de,lim:=li }
def eO (ex:Pa Ex):Pa St:=aG (aK gQ) fun k=>if k=1 then dH else if k=2 then ko else if k=3 then dN else if k=4 then dI ex else if k=5 then fJ ex else if k=6 then eB ex else aG (iR 4) fun _=>aZ (iP k)
def iW (F:Nat):Pa (List St):=aG (aV (eO (dn F)) iU 8 []) fun l=>aG endP fun _=>aZ l
def sZ (F:Nat):Pa Ex:=aG (dn F) fun e=>aG endP fun _=>aZ e
theorem vY {b:Bool} {F:Nat} {below:Pa Ex} {ops:List (List UInt8 × Int)} (h:bC b F below) (ho:b=true→∀c∈ops,c.1≠[59]∧c.1≠[41]):∀(f:Nat) (e:Ex),bC b F (jT below ops f e)
 | 0,e=>aB _
 |
  f+1,e=>(dM ops ho).bind fun op=>by
  split
  ·exact aB _
  ·exact h.bind fun x=>vY h ho f _
theorem qR {b:Bool} {F:Nat} {below:Pa Ex} {ops:List (List UInt8 × Int)} (h:bC b F below) (ho:b=true→∀c∈ops,c.1≠[59]∧c.1≠[41]) (f:Nat):bC b F (rowP f below ops):=h.bind fun e=>vY h ho f e
theorem nI {b:Bool} {F:Nat}:bC b F jI :=
 eY _ (fun _=>by decide) (aB _).ok (vN.bind fun o=>by
  cases o with
  | some s=>exact aB _
  | none=>exact eY _ (fun _=>by decide) (kS.bind fun n=>aB _).ok (kS.bind fun n=>aB _))
theorem dS {b:Bool} {F:Nat}:bC b F fu:=bD.bind fun n=>eY _ (fun _=>by decide) (bD.bind fun m=>aB _).ok (aB _)
theorem ow {b:Bool} {F:Nat} {fc ex:Pa Ex} (h1:bC b F fc) (h2:bC b F ex):bC b F (dO fc ex) :=
 yw.bind fun c=>by
  split
  ·exact dS
  ·exact BM ((o7 h1).bind fun e=>aB _) (eY _ (fun _=>by decide) ((o7 h2).bind fun e=>(bI _).bind fun _=>aB _) (nI.bind fun v=>aB _))
theorem Dj {b:Bool} {F:Nat} (e:Ex):bC b F (pO e):=(jS _ (fun _=>by decide)).bind fun t=>(bI _).bind fun _=>aB _
theorem Dh {b:Bool} {F:Nat} {sum:Pa Ex} (h:bC b F sum):bC b F (iK sum) :=
 h.bind fun e=>eY _ (fun _=>by decide) (Dj e).ok ((dM _ (fun _=>by decide)).bind fun op=>by
  split
  ·exact aB _
  ·exact h.bind fun x=>aB _)
theorem FK {b:Bool} {F:Nat} {nt test:Pa Ex} (h1:bC b F nt) (h2:bC b F test):bC b F (notP nt test) :=
 eY _ (fun _=>by decide) ((o7 h1).bind fun e=>aB _) h2
structure vW (b:Bool) (F:Nat) (L:Lv):Prop where
 nt:bC b F L.nt
 fc:bC b F L.fc
 ex:bC b F L.ex
theorem vL {b:Bool} {F:Nat} {L:Lv} (h:vW b F L):bC b F (EL F L):=qR (ow h.fc h.ex) (fun _=>by decide) F
theorem yj {b:Bool} {F:Nat} {L:Lv} (h:vW b F L):bC b F (qF F L):=qR (vL h) (fun _=>by decide) F
theorem rz {b:Bool} {F:Nat} {L:Lv} (h:vW b F L):bC b F (EB F L):=FK h.nt (Dh (yj h))
theorem yE {b:Bool} {F:Nat} {L:Lv} (h:vW b F L):bC b F (Jk F L):=qR (rz h) (fun _=>by decide) F
theorem AZ {b:Bool} {F:Nat} {L:Lv} (h:vW b F L):bC b F (Ca F L):=qR (yE h) (fun _=>by decide) F
theorem mJ {b:Bool} {F:Nat}:∀n,vW b F (lV F n)
 | 0=>⟨aB _,aB _,aB _⟩
 | n+1=>⟨rz (mJ n),ow (mJ n).fc (mJ n).ex,AZ (mJ n)⟩
theorem mg {b:Bool} {F:Nat}:bC b F (dn F):=(mJ 12).ex
theorem bK {b:Bool} {F:Nat} {read:Pa Ex} (h:bC b F read) (t:List UInt8) (l:List (List UInt8)) (ht:t≠[59]∧t≠[41]):bC b F (bN read t l) :=
 eY _ (fun _=>ht) ((bA l).bind fun _=>h.bind fun e=>aB _).ok (aB _)
theorem bW {b:Bool} {F:Nat}:bC b F bL:=jS _ (fun _=>by decide)
theorem iq {b:Bool} {F:Nat}:bC b F eZ :=
 bD.bind fun n=>(dM _ (fun _=>by decide)).bind fun k=>iN.bind (p:=if k=0 then iR 4 else aZ ()) (by
  split
  ·exact fV 4 (by decide)
  ·exact aB _) fun _=>(eY _ (fun _=>by decide) ((bI _).bind fun _=>aB _).ok (aB _)).bind fun nn=>(jS _ (fun _=>by decide)).bind fun uq=>aB _
theorem dV {b:Bool} {F:Nat}:bC b F bQ :=
 eY _ (fun _=>by decide) ((G8 _ (fun _=>by decide)).bind fun c=>aB _).ok ((fV 4 (by decide)).bind fun _=>aB _)
theorem rY {b:Bool} {F:Nat}:bC b F dH :=
 (bI _).bind fun _=>bD.bind fun tb=>(bI _).bind fun _=>(cB iq dV 8 []).bind fun cs=>(bA _).bind fun _=>bD.bind fun pr=>(bA _).bind fun _=>aB _
theorem wN {b:Bool} {F:Nat}:bC b F ko:=(bI _).bind fun _=>bD.bind fun tb=>aB _
theorem iG {b:Bool} {F:Nat}:bC b F fK:=(bI _).bind fun _=>(cB nI bW 8 []).bind fun l=>(bI _).bind fun _=>aB _
theorem sK {b:Bool} {F:Nat}:bC b F dN :=
 (bI _).bind fun _=>bD.bind fun tb=>(bI _).bind fun _=>(cB iG bW 16 []).bind fun rs=>aB _
theorem mI {b:Bool} {F:Nat} {ex:Pa Ex} (h:bC b F ex):bC b F (nM ex):=bD.bind fun n=>(bI _).bind fun _=>h.bind fun e=>aB _
theorem sG {b:Bool} {F:Nat} {ex:Pa Ex} (h:bC b F ex):bC b F (dI ex) :=
 bD.bind fun tb=>(bI _).bind fun _=>(cB (mI h) bW 8 []).bind fun ss=>(bK h _ _ (by decide)).bind fun wh=>aB _
theorem sJ {b:Bool} {F:Nat} {ex:Pa Ex} (h:bC b F ex):bC b F (fJ ex) :=
 (bI _).bind fun _=>bD.bind fun tb=>(bK h _ _ (by decide)).bind fun wh=>aB _
theorem oM {b:Bool} {F:Nat} {ex:Pa Ex} (h:bC b F ex):bC b F (dY ex) :=
 eY _ (fun _=>by decide) (aB _).ok ((dM _ (fun _=>by decide)).bind fun k=>by
  split
  ·exact h.bind fun e=>aB _
  ·refine (bI _).bind fun _=>iN.bind ?_ fun c=>iN.bind ?_ fun i=>(bI _).bind fun _=>aB _
   ·split
    ·exact jS _ (fun _=>by decide)
    ·exact aB _
   ·split
    ·exact aB _
    ·exact h.bind fun e=>aB _)
theorem l8 {b:Bool} {F:Nat} {ex:Pa Ex} (h:bC b F ex):bC b F (iL ex) :=
 eY _ (fun _=>by decide) (bD.bind fun j=>(bI _).bind fun _=>h.bind fun e=>aB _).ok (aB _)
theorem sI {b:Bool} {F:Nat} {ex:Pa Ex} (h:bC b F ex):bC b F (eB ex) :=
 (cB (oM h) bW 8 []).bind fun its=>(bI _).bind fun _=>bD.bind fun tb=>(l8 h).bind fun j=>(bK h _ _ (by decide)).bind fun wh=>(bK dS _ _ (by decide)).bind fun gr=>(bK dS _ _ (by decide)).bind fun od =>
  iN.bind (p:=if od.length=0 then aZ false else fF [68,69,83,67]) (by
   split
   ·exact aB _
   ·exact jS _ (fun _=>by decide)) fun de=>(eY _ (fun _=>by decide) kS.ok (aB _)).bind fun li=>aB _
theorem qx {b:Bool} {F:Nat} {ex:Pa Ex} (h:bC b F ex):bC b F (eO ex) :=
 (dM _ (fun _=>by decide)).bind fun k=>by
  split
  ·exact rY
  ·split
   ·exact wN
   ·split
    ·exact sK
    ·split
     ·exact sG h
     ·split
      ·exact sJ h
      ·split
       ·exact sI h
       ·exact (fV 4 (by decide)).bind fun _=>aB _
theorem rR {F:Nat}:bC false F iU:=jS _ (fun e=>by cases e)
theorem zA {F:Nat}:bC false F endP where
 mono:=fun r h=>by unfold endP;rw[jB h,if_neg (by decide),fU h];exact⟨rfl,rfl⟩
 fine:=fun r _ h=>by
  unfold endP
  split
  ·exact⟨h,rfl,Nat.le_refl _⟩
  ·exact (fV (b:=false) 4 (by decide)).fine r trivial h
 simA:=fun r r' h=>by
  unfold endP
  rw[(qI (mG h)).1]
  split
  ·exact⟨rfl,h⟩
  ·exact⟨rfl,kI h 4⟩
 simB:=fun e=>by cases e
theorem zf {F:Nat}:bC false F (aV (eO (dn F)) iU 8 []):=cB (qx mg) rR 8 []
theorem yF {F:Nat}:bC false F (iW F):=zf.bind fun l=>zA.bind fun _=>aB _
theorem Gi {F:Nat}:bC false F (sZ F):=mg.bind fun e=>zA.bind fun _=>aB _
def bT (n:Nat) (r:Rd):Prop:=(r.bad=0→12≤r.d+n)∧1≤n
def vZ (F n:Nat) (G:Rd→Prop) {α:Type} (p q:Pa α):Prop:=∀r,G r→Good F r→bT n r→p r=q r
abbrev Kk (F n:Nat) {α:Type} (p q:Pa α):Prop:=vZ F n (fun _=>True) p q
abbrev JZ (F n:Nat) {α:Type} (p q:Pa α):Prop:=vZ F n (fun r=>r.bad=0) p q
theorem vZ.ok {F n:Nat} {α:Type} {p q:Pa α} (h:Kk F n p q):JZ F n p q:=fun r _=>h r trivial
theorem bT.after {F n:Nat} {G:Rd→Prop} {α:Type} {p:Pa α} {r:Rd} (hp:iN false F G p) (g:G r) (hG:Good F r) (h:bT n r):bT n (p r).2:=by
 refine ⟨fun hb=>?_,h.2⟩
 rw[(hp.fine r g hG).2.1]
 refine h.1 ?_
 by_cases e:r.bad=0
 ·exact e
 ·rw[(hp.mono r e).1] at hb;exact hb
theorem vZ.bind {F n:Nat} {G:Rd→Prop} {α β:Type} {p p':Pa α} {q q':α→Pa β} (hp:vZ F n G p p') (hn:iN false F G p) (hq : ∀a,Kk F n (q a) (q' a)):vZ F n G (aG p q) (aG p' q'):=fun r g hG hE=>by
 unfold aG
 rw[← hp r g hG hE]
 exact hq _ _ trivial (hn.fine r g hG).1 (hE.after hn g hG)
theorem bT.next {n:Nat} {r:Rd} (h:bT n r):bT n (nextR r):=⟨h.1,h.2⟩
theorem Good.down {F:Nat} {r:Rd} (h:Good F r) (hb:r.bad=0):Good F (bO r)∧(bO r).d=r.d+1∧(bO r).ts=r.ts:=by
 have h2:=h.d2 hb
 have h0:=h.d0
 unfold bO
 split
 ·rename_i h10
  obtain⟨t1,t2⟩:=oL ({ r with d:=r.d+1 }:Rd) 10
  have hf:=gG (r:=({ r with d:=r.d+1 }:Rd)) hb 10
  exact⟨⟨fun e=>absurd (hf.symm.trans e) (by decide),by rw[t2];show 0≤r.d+1;omega,by rw[t2];show r.d+1≤11;omega,fun e=>absurd (hf.symm.trans e) (by decide),by rw[t1];exact h.nums,by rw[t1];exact h.many⟩,t2,t1⟩
 ·exact⟨⟨h.last,by show 0≤r.d+1;omega,by show r.d+1≤11;omega,fun _=>by show r.d+1≤10;omega,h.nums,h.many⟩,rfl,rfl⟩
theorem bT.down {F n:Nat} {r:Rd} (h:bT (n+1) r) (hG:Good F r) (hb:r.bad=0):bT n (bO r):=by
 have h1:=h.1 hb
 have h2:=hG.d2 hb
 refine ⟨fun _=>?_,by omega⟩
 rw[(hG.down hb).2.1]
 omega
end Go.Proofs.YtnidnipiihhnaaaGreatDoor
