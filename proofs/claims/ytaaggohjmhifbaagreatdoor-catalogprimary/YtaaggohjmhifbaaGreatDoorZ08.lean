/- Packed for the hand-in: PPure PGram -/
import Derived.Test.YtaaggohjmhifbaaGreatDoorZ06
import Derived.Test.YtaaggohjmhifbaaGreatDoorZ01
namespace Go.Proofs.YtaaggohjmhifbaaGreatDoor
set_option linter.unusedSimpArgs false
set_option linter.unusedVariables false
set_option maxHeartbeats 8000000
structure Rd where
 ts:List Tk
 d:Int
 bad:Int
 bp:Int
abbrev Pa (α:Type):=Rd→α × Rd
def bg {α:Type} (a:α):Pa α:=fun r=>(a,r)
def aF {α β:Type} (p:Pa α) (q:α→Pa β):Pa β:=fun r=>q (p r).1 (p r).2
def bH (r:Rd):Tk:=if r.bad=0 then r.ts.headD jG else jG
def dX (t:List UInt8) (r:Rd):Bool:=((bH r).k==2||(bH r).k==5)&&(bH r).s==t
def nextR (r:Rd):Rd:={ r with ts:=r.ts.tail }
def dG (e:Int) (r:Rd):Rd:=if r.bad=0 then { r with bad:=e,bp:=(bH r).p } else r
def dx (r:Rd):Tk:=r.ts.tail.headD jG
def L8 (t:List UInt8):Pa Bool:=fun r=>(dX t r,r)
def gV {α:Type} (t:List UInt8) (yes no:Pa α):Pa α:=fun r=>if dX t r=true then yes (nextR r) else no r
def fI (t:List UInt8):Pa Bool:=gV t (bg true) (bg false)
def iU (e:Int):Pa Unit:=fun r=>((),dG e r)
def dB (t:List UInt8):Pa Unit:=gV t (bg ()) (iU 4)
def aJ:List (List UInt8)→Pa Unit
 | []=>bg ()
 | t::l=>aF (dB t) fun _=>aJ l
def jW:Pa Bool:=fun r=>((bH r).k==1,r)
def nameP:Pa (List UInt8):=fun r=>if (bH r).k=1 then ((bH r).s,nextR r) else ([],dG 4 r)
def ji:Pa Int:=fun r=>if (bH r).k=3 then ((bH r).n,nextR r) else (0,dG 4 r)
def rC:Pa (Option (List UInt8)):=fun r=>if (bH r).k=4 then (some (bH r).s,nextR r) else (none,r)
def iR {α:Type} (yes no:Pa α):Pa α:=fun r=>if dX [45] r=true∧(dx r).k≠3 then yes (nextR r) else no r
def aK:List (List UInt8 × Int)→Pa Int
 | []=>bg 0
 | c::l=>gV c.1 (bg c.2) (aK l)
def bR (r:Rd):Rd:=if 10<r.d+1 then dG 10 { r with d:=r.d+1 } else { r with d:=r.d+1 }
def JX (r:Rd):Rd:={ r with d:=r.d-1 }
def gI {α:Type} (p:Pa α):Pa α:=fun r=>((p (bR r)).1,JX (p (bR r)).2)
def endP:Pa Unit:=fun r=>if (bH r).k=6 then ((),r) else ((),dG 4 r)
structure Good (F:Nat) (r:Rd):Prop where
 last:r.bad=0→∃L e,r.ts=L++[e]∧e.k=6∧∀x∈L,x.k≠6
 d0:0≤r.d
 d1:r.d≤11
 d2:r.bad=0→r.d≤10
 nums : ∀x∈r.ts,0≤x.n∧x.n≤9223372036854775807
 many:r.ts.length≤F
def uf (r r':Rd):Prop:=r.ts.map Tk.z=r'.ts.map Tk.z∧r.d=r'.d∧r.bad=r'.bad
def Aq (dl:Nat) (T:List Tk) (r r':Rd):Prop :=
 ∃L e L' , r.ts=L++[e]∧e.k=6∧(∀x∈L,x.k≠6)∧r'.ts=L'++T∧L.map Tk.z=L'.map Tk.z∧r'.d=r.d+dl∧r.bad=0∧r'.bad=0
def Tail (T:List Tk):Prop:=∃h l,T=h::l∧h.k=5∧(h.s=[59]∨h.s=[41])
structure iT (b:Bool) (F:Nat) (G:Rd→Prop) {α:Type} (p:Pa α):Prop where
 mono : ∀r,r.bad≠0→(p r).2.bad=r.bad∧(p r).2.bp=r.bp
 fine : ∀r,G r→Good F r→Good F (p r).2∧(p r).2.d=r.d∧(p r).2.ts.length≤r.ts.length
 simA : ∀r r',uf r r'→(p r).1=(p r').1∧uf (p r).2 (p r').2
 simB:b=true→∀dl T r r',Tail T→Aq dl T r r'→(p r).2.bad=0→((p r').2.bad=10∧0<dl)∨((p r).1=(p r').1∧Aq dl T (p r).2 (p r').2)
abbrev bE (b:Bool) (F:Nat) {α:Type} (p:Pa α):Prop:=iT b F (fun _=>True) p
abbrev yC (b:Bool) (F:Nat) {α:Type} (p:Pa α):Prop:=iT b F (fun r=>r.bad=0) p
theorem iT.ok {b:Bool} {F:Nat} {α:Type} {p:Pa α} (h:bE b F p):yC b F p:=⟨h.mono,fun r _=>h.fine r trivial,h.simA,h.simB⟩
theorem aA {b:Bool} {F:Nat} {α:Type} (a:α):bE b F (bg a) :=
 ⟨fun r _=>⟨rfl,rfl⟩,fun r _ h=>⟨h,rfl,Nat.le_refl _⟩,fun r r' h=>⟨rfl,h⟩,fun _ dl T r r' _ h _=>.inr ⟨rfl,h⟩⟩
theorem iT.bind {b:Bool} {F:Nat} {G:Rd→Prop} {α β:Type} {p:Pa α} {q:α→Pa β} (hp:iT b F G p) (hq : ∀a,bE b F (q a)):iT b F G (aF p q) where
 mono:=fun r h=>by
  obtain⟨h1,h2⟩:=hp.mono r h
  obtain⟨k1,k2⟩:=(hq (p r).1).mono _ (by rw[h1];exact h)
  exact⟨k1.trans h1,k2.trans h2⟩
 fine:=fun r g h=>by
  obtain⟨h1,h2,h3⟩:=hp.fine r g h
  obtain⟨k1,k2,k3⟩:=(hq (p r).1).fine _ trivial h1
  exact⟨k1,k2.trans h2,Nat.le_trans k3 h3⟩
 simA:=fun r r' h=>by
  obtain⟨h1,h2⟩:=hp.simA r r' h
  have:=(hq (p r).1).simA _ _ h2
  unfold aF
  rw[← h1]
  exact this
 simB:=fun hb dl T r r' hT h h0=>by
  have hb0:(p r).2.bad=0:=by
   by_cases e:(p r).2.bad=0
   ·exact e
   ·exact absurd ((((hq (p r).1).mono _ e).1.symm.trans h0:(p r).2.bad=0)) e
  rcases hp.simB hb dl T r r' hT h hb0 with⟨k1,k2⟩ | ⟨k1,k2⟩
  ·exact .inl ⟨((hq (p r').1).mono _ (by rw[k1];decide)).1.trans k1,k2⟩
  ·have:=(hq (p r).1).simB hb dl T _ _ hT k2 h0
   unfold aF
   rw[← k1]
   exact this
theorem mW {r r':Rd} (h:uf r r'):(bH r).z=(bH r').z:=by
 obtain⟨h1,_,h3⟩:=h
 unfold bH
 rw[h3]
 split
 ·cases hr:r.ts with
  |
   nil =>
   rw[hr] at h1
   have:r'.ts=[]:=by simpa using h1.symm
   rw[this]
  |
   cons a l =>
   rw[hr] at h1
   cases hr':r'.ts with
   | nil=>rw[hr'] at h1;simp at h1
   | cons a' l'=>rw[hr'] at h1;simp at h1;simpa using h1.1
 ·rfl
theorem qV {x y:Tk} (h:x.z=y.z):x.k=y.k∧x.s=y.s∧x.n=y.n:=by
 have h':(⟨x.k,x.s,x.n,0⟩:Tk)=⟨y.k,y.s,y.n,0⟩:=h
 simp only[Tk.mk.injEq] at h'
 exact⟨h'.1,h'.2.1,h'.2.2.1⟩
theorem uI {r r':Rd} (h:uf r r') (t:List UInt8):dX t r=dX t r':=by
 obtain⟨h1,h2,_⟩:=qV (mW h)
 unfold dX
 rw[h1,h2]
theorem kP {r r':Rd} (h:uf r r'):uf (nextR r) (nextR r') :=
 ⟨by simp only[nextR,List.map_tail];rw[h.1],h.2.1,h.2.2⟩
theorem kL {r r':Rd} (h:uf r r') (e:Int):uf (dG e r) (dG e r'):=by
 unfold dG
 rw[h.2.2]
 split
 ·exact⟨h.1,h.2.1,rfl⟩
 ·exact h
theorem zi {r r':Rd} (h:uf r r'):(dx r).k=(dx r').k:=by
 have h1:=congrArg List.tail h.1
 rw[← List.map_tail,← List.map_tail] at h1
 unfold dx
 generalize r.ts.tail=a at h1
 generalize r'.ts.tail=b at h1
 cases a with
 |
  nil =>
  have:b=[]:=by simpa using h1.symm
  rw[this]
 |
  cons x a =>
  cases b with
  | nil=>simp at h1
  |
   cons y b =>
   rw[List.map_cons,List.map_cons,List.cons.injEq] at h1
   exact (qV h1.1).1
theorem jy {r:Rd} (h:r.bad≠0):bH r=jG:=if_neg h
theorem qA {r:Rd} (h:r.bad≠0) (t:List UInt8):dX t r=false:=by unfold dX;rw[jy h];rfl
theorem j4 {r:Rd} {t:List UInt8} (h:dX t r=true):r.bad=0:=by
 by_cases e:r.bad=0
 ·exact e
 ·rw[qA e] at h;cases h
theorem uJ {r:Rd} {t:List UInt8} (h:dX t r=true):((bH r).k=2∨(bH r).k=5)∧(bH r).s=t:=by
 unfold dX at h
 simpa using h
theorem gy {r:Rd} (h:r.bad≠0) (e:Int):dG e r=r:=if_neg h
theorem gN {r:Rd} (h:r.bad=0) (e:Int):(dG e r).bad=e:=by unfold dG;rw[if_pos h]
theorem pE (r:Rd) (e:Int):(dG e r).ts=r.ts∧(dG e r).d=r.d:=by unfold dG;split<;>exact⟨rfl,rfl⟩
theorem Good.fail {F:Nat} {r:Rd} (h:Good F r) {e:Int} (he:e≠0):Good F (dG e r):=by
 by_cases hb:r.bad=0
 ·have hf:=gN hb e
  obtain⟨t1,t2⟩:=pE r e
  exact⟨fun h0=>absurd (hf.symm.trans h0) he,by rw[t2];exact h.d0,by rw[t2];exact h.d1,fun h0=>absurd (hf.symm.trans h0) he,by rw[t1];exact h.nums,by rw[t1];exact h.many⟩
 ·rw[gy hb];exact h
theorem Good.next {F:Nat} {r:Rd} (h:Good F r) (hb:r.bad=0) (hk:(bH r).k≠6):Good F (nextR r):=by
 obtain⟨L,e,h1,h2,h3⟩:=h.last hb
 refine ⟨fun _=>?_,h.d0,h.d1,h.d2,fun x hx=>h.nums x (List.mem_of_mem_tail hx),Nat.le_trans (by simp[nextR]) h.many⟩
 cases L with
 |
  nil =>
  refine absurd ?_ hk
  unfold bH
  rw[if_pos hb,h1]
  exact h2
 | cons a L=>exact⟨L,e,by simp[nextR,h1],h2,fun x hx=>h3 x (by simp[hx])⟩
theorem oV (r:Rd):(nextR r).ts.length≤r.ts.length:=by simp[nextR]
theorem next_lt {r:Rd} (h:(bH r).k≠0):(nextR r).ts.length<r.ts.length:=by
 unfold bH at h
 split at h
 ·cases hr:r.ts with
  | nil=>rw[hr] at h;exact absurd rfl h
  | cons a l=>simp[nextR,hr]
 ·exact absurd rfl h
theorem iI {dl:Nat} {T:List Tk} {r r':Rd} (hT:Tail T) (h:Aq dl T r r') :
  ((bH r).k=6∧(bH r').k=5∧((bH r').s=[59]∨(bH r').s=[41])) ∨
  ((bH r).k≠6∧(bH r).z=(bH r').z∧Aq dl T (nextR r) (nextR r')∧((dx r).k=3↔(dx r').k=3)):=by
 obtain⟨L,e,L',h1,h2,h3,h4,h5,h6,h7,h8⟩:=h
 obtain⟨t,l,hTe,ht1,ht2⟩:=hT
 cases L with
 |
  nil =>
  left
  have:L'=[]:=by simpa using h5.symm
  subst this
  unfold bH
  rw[if_pos h7,if_pos h8,h1,h4,hTe]
  exact⟨h2,ht1,ht2⟩
 |
  cons a L =>
  cases L' with
  | nil=>simp at h5
  |
   cons a' L' =>
   rw[List.map_cons,List.map_cons,List.cons.injEq] at h5
   right
   have n1:bH r=a:=by unfold bH;rw[if_pos h7,h1];rfl
   have n2:bH r'=a':=by unfold bH;rw[if_pos h8,h4];rfl
   rw[n1,n2]
   refine ⟨h3 a (by simp),h5.1,⟨L,e,L',by simp[nextR,h1],h2,fun x hx=>h3 x (by simp[hx]),by simp[nextR,h4],h5.2,h6,h7,h8⟩,?_⟩
   unfold dx
   rw[h1,h4]
   cases L with
   |
    nil =>
    have:L'=[]:=by simpa using h5.2.symm
    subst this
    rw[hTe]
    show e.k=3↔t.k=3
    rw[h2,ht1]
    decide
   |
    cons b L =>
    cases L' with
    | nil=>simp at h5
    |
     cons b' L' =>
     have h52:=h5.2
     rw[List.map_cons,List.map_cons,List.cons.injEq] at h52
     show b.k=3↔b'.k=3
     rw[(qV h52.1).1]
theorem yh {dl:Nat} {T:List Tk} {r r':Rd} (hT:Tail T) (h:Aq dl T r r') {t:List UInt8} (ht1:t≠[59]) (ht2:t≠[41]):dX t r=dX t r':=by
 rcases iI hT h with⟨k1,k2,k3⟩ | ⟨_,k2,_⟩
 ·unfold dX
  rw[k1,k2]
  have:((bH r').s==t)=false:=by
   rw[beq_eq_false_iff_ne]
   rcases k3 with k3 | k3<;>rw[k3]
   ·exact fun e=>ht1 e.symm
   ·exact fun e=>ht2 e.symm
  rw[this]
  rfl
 ·obtain⟨e1,e2,_⟩:=qV k2
  unfold dX
  rw[e1,e2]
theorem DN {dl:Nat} {T:List Tk} {r r':Rd} (hT:Tail T) (h:Aq dl T r r') (hk:(bH r).k≠6):Aq dl T (nextR r) (nextR r'):=by
 rcases iI hT h with⟨k1,_⟩ | ⟨_,_,k,_⟩
 ·exact absurd k1 hk
 ·exact k
theorem JF {b:Bool} {F:Nat} (t:List UInt8) (h1:b=true→t≠[59]∧t≠[41]):bE b F (L8 t) :=
 ⟨fun r _=>⟨rfl,rfl⟩,fun r _ h=>⟨h,rfl,Nat.le_refl _⟩,fun r r' h=>⟨uI h t,h⟩,fun hb dl T r r' hT h _=>.inr ⟨yh hT h (h1 hb).1 (h1 hb).2,h⟩⟩
theorem mI {r:Rd} {t:List UInt8} (h:dX t r=true):(bH r).k≠6:=by
 rcases (uJ h).1 with e | e<;>rw[e]<;>decide
theorem fD {b:Bool} {F:Nat} {α:Type} (t:List UInt8) {yes no:Pa α} (h1:b=true→t≠[59]∧t≠[41]) (hy:yC b F yes) (hn:bE b F no):bE b F (gV t yes no) where
 mono:=fun r h=>by unfold gV;rw[qA h];exact hn.mono r h
 fine:=fun r _ h=>by
  unfold gV
  split
  ·rename_i hi
   obtain⟨k1,k2,k3⟩:=hy.fine (nextR r) (id (j4 (r:=r) hi)) (h.next (j4 hi) (mI hi))
   exact⟨k1,k2,Nat.le_trans k3 (oV r)⟩
  ·exact hn.fine r trivial h
 simA:=fun r r' h=>by
  unfold gV
  rw[← uI h t]
  split
  ·exact hy.simA _ _ (kP h)
  ·exact hn.simA _ _ h
 simB:=fun hb dl T r r' hT h h0=>by
  unfold gV at h0 ⊢
  rw[← yh hT h (h1 hb).1 (h1 hb).2]
  split
  ·rename_i hi
   rw[if_pos hi] at h0
   exact hy.simB hb dl T _ _ hT (DN hT h (mI hi)) h0
  ·rename_i hi
   rw[if_neg hi] at h0
   exact hn.simB hb dl T _ _ hT h h0
theorem jR {b:Bool} {F:Nat} (t:List UInt8) (h1:b=true→t≠[59]∧t≠[41]):bE b F (fI t):=fD t h1 (aA _).ok (aA _)
theorem gD {b:Bool} {F:Nat} (e:Int) (he:e≠0):bE b F (iU e) where
 mono:=fun r h=>by unfold iU;rw[gy h];exact⟨rfl,rfl⟩
 fine:=fun r _ h=>⟨h.fail he,(pE r e).2,by show (dG e r).ts.length≤_;rw[(pE r e).1];exact Nat.le_refl _⟩
 simA:=fun r r' h=>⟨rfl,kL h e⟩
 simB:=fun hb dl T r r' hT h h0=>by
  obtain⟨L,e',L',_,_,_,_,_,_,h7,_⟩:=h
  exact absurd ((gN h7 e).symm.trans h0) he
theorem bM {b:Bool} {F:Nat} (t:List UInt8):bE b F (dB t) where
 mono:=fun r h=>by unfold dB gV;rw[qA h];exact (gD (b:=b) (F:=F) 4 (by decide)).mono r h
 fine:=fun r _ h=>by
  unfold dB gV
  split
  ·rename_i hi
   exact⟨h.next (j4 hi) (mI hi),rfl,oV r⟩
  ·exact (gD (b:=b) 4 (by decide)).fine r trivial h
 simA:=fun r r' h=>by
  unfold dB gV
  rw[← uI h t]
  split
  ·exact⟨rfl,kP h⟩
  ·exact⟨rfl,kL h 4⟩
 simB:=fun hb dl T r r' hT h h0=>by
  unfold dB gV at h0 ⊢
  by_cases hi:dX t r=true
  ·rw[if_pos hi]
   have hk:=mI hi
   rcases iI hT h with⟨k1,_⟩ | ⟨_,k2,k3,_⟩
   ·exact absurd k1 hk
   ·obtain⟨e1,e2,_⟩:=qV k2
    have hi':dX t r'=true:=by unfold dX at hi ⊢;rw[← e1,← e2];exact hi
    rw[if_pos hi']
    exact .inr ⟨rfl,k3⟩
  ·rw[if_neg hi] at h0
   obtain⟨L,e',L',_,_,_,_,_,_,h7,_⟩:=h
   exact absurd ((gN h7 4).symm.trans h0) (by decide)
theorem bC {b:Bool} {F:Nat}:∀l:List (List UInt8),bE b F (aJ l)
 | []=>aA _
 | t::l=>(bM t).bind fun _=>bC l
theorem zy {b:Bool} {F:Nat}:bE b F jW where
 mono:=fun r h=>⟨rfl,rfl⟩
 fine:=fun r _ h=>⟨h,rfl,Nat.le_refl _⟩
 simA:=fun r r' h=>⟨by show ((bH r).k==1)=_;rw[(qV (mW h)).1];rfl,h⟩
 simB:=fun hb dl T r r' hT h _=>.inr ⟨by
  show ((bH r).k==1)=((bH r').k==1)
  rcases iI hT h with⟨k1,k2,_⟩ | ⟨_,k2,_⟩
  ·rw[k1,k2];rfl
  ·rw[(qV k2).1],h⟩
theorem bD {b:Bool} {F:Nat}:bE b F nameP where
 mono:=fun r h=>by unfold nameP;rw[jy h,if_neg (by decide),gy h];exact⟨rfl,rfl⟩
 fine:=fun r _ h=>by
  unfold nameP
  split
  ·rename_i hk
   have hb:r.bad=0:=by
    by_cases e:r.bad=0
    ·exact e
    ·rw[jy e] at hk;exact absurd hk (by decide)
   exact⟨h.next hb (by rw[hk];decide),rfl,oV r⟩
  ·exact (gD (b:=b) 4 (by decide)).fine r trivial h
 simA:=fun r r' h=>by
  obtain⟨e1,e2,_⟩:=qV (mW h)
  unfold nameP
  rw[e1,e2]
  split
  ·exact⟨rfl,kP h⟩
  ·exact⟨rfl,kL h 4⟩
 simB:=fun hb dl T r r' hT h h0=>by
  unfold nameP at h0 ⊢
  by_cases hk:(bH r).k=1
  ·rcases iI hT h with⟨k1,_⟩ | ⟨_,k2,k3,_⟩
   ·rw[k1] at hk;exact absurd hk (by decide)
   ·obtain⟨e1,e2,_⟩:=qV k2
    rw[if_pos hk,if_pos (e1 ▸ hk),e2]
    exact .inr ⟨rfl,k3⟩
  ·rw[if_neg hk] at h0
   obtain⟨L,e',L',_,_,_,_,_,_,h7,_⟩:=h
   exact absurd ((gN h7 4).symm.trans h0) (by decide)
theorem lC {b:Bool} {F:Nat}:bE b F ji where
 mono:=fun r h=>by unfold ji;rw[jy h,if_neg (by decide),gy h];exact⟨rfl,rfl⟩
 fine:=fun r _ h=>by
  unfold ji
  split
  ·rename_i hk
   have hb:r.bad=0:=by
    by_cases e:r.bad=0
    ·exact e
    ·rw[jy e] at hk;exact absurd hk (by decide)
   exact⟨h.next hb (by rw[hk];decide),rfl,oV r⟩
  ·exact (gD (b:=b) 4 (by decide)).fine r trivial h
 simA:=fun r r' h=>by
  obtain⟨e1,_,e2⟩:=qV (mW h)
  unfold ji
  rw[e1,e2]
  split
  ·exact⟨rfl,kP h⟩
  ·exact⟨rfl,kL h 4⟩
 simB:=fun hb dl T r r' hT h h0=>by
  unfold ji at h0 ⊢
  by_cases hk:(bH r).k=3
  ·rcases iI hT h with⟨k1,_⟩ | ⟨_,k2,k3,_⟩
   ·rw[k1] at hk;exact absurd hk (by decide)
   ·obtain⟨e1,_,e2⟩:=qV k2
    rw[if_pos hk,if_pos (e1 ▸ hk),e2]
    exact .inr ⟨rfl,k3⟩
  ·rw[if_neg hk] at h0
   obtain⟨L,e',L',_,_,_,_,_,_,h7,_⟩:=h
   exact absurd ((gN h7 4).symm.trans h0) (by decide)
theorem wS {b:Bool} {F:Nat}:bE b F rC where
 mono:=fun r h=>by unfold rC;rw[jy h,if_neg (by decide)];exact⟨rfl,rfl⟩
 fine:=fun r _ h=>by
  unfold rC
  split
  ·rename_i hk
   have hb:r.bad=0:=by
    by_cases e:r.bad=0
    ·exact e
    ·rw[jy e] at hk;exact absurd hk (by decide)
   exact⟨h.next hb (by rw[hk];decide),rfl,oV r⟩
  ·exact⟨h,rfl,Nat.le_refl _⟩
 simA:=fun r r' h=>by
  obtain⟨e1,e2,_⟩:=qV (mW h)
  unfold rC
  rw[e1,e2]
  split
  ·exact⟨rfl,kP h⟩
  ·exact⟨rfl,h⟩
 simB:=fun hb dl T r r' hT h h0=>by
  unfold rC
  rcases iI hT h with⟨k1,k2,_⟩ | ⟨_,k2,k3,_⟩
  ·rw[k1,k2,if_neg (by decide),if_neg (by decide)]
   exact .inr ⟨rfl,h⟩
  ·obtain⟨e1,e2,_⟩:=qV k2
   rw[e1,e2]
   split
   ·exact .inr ⟨rfl,k3⟩
   ·exact .inr ⟨rfl,h⟩
theorem CS {b:Bool} {F:Nat} {α:Type} {yes no:Pa α} (hy:yC b F yes) (hn:bE b F no):bE b F (iR yes no) where
 mono:=fun r h=>by unfold iR;rw[qA h,if_neg (fun e=>by cases e.1)];exact hn.mono r h
 fine:=fun r _ h=>by
  unfold iR
  split
  ·rename_i hi
   obtain⟨k1,k2,k3⟩:=hy.fine (nextR r) (id (j4 (r:=r) hi.1)) (h.next (j4 hi.1) (mI hi.1))
   exact⟨k1,k2,Nat.le_trans k3 (oV r)⟩
  ·exact hn.fine r trivial h
 simA:=fun r r' h=>by
  unfold iR
  rw[← uI h [45],← zi h]
  split
  ·exact hy.simA _ _ (kP h)
  ·exact hn.simA _ _ h
 simB:=fun hb dl T r r' hT h h0=>by
  unfold iR at h0 ⊢
  have e1:=yh (t:=[45]) hT h (by decide) (by decide)
  by_cases hi:dX [45] r=true
  ·rcases iI hT h with⟨k1,_⟩ | ⟨_,_,k3,k4⟩
   ·exact absurd k1 (mI hi)
   ·have hi':dX [45] r'=true:=by rw[← e1];exact hi
    by_cases hk:(dx r).k=3
    ·have c1 : ¬(dX [45] r=true∧(dx r).k≠3):=fun e=>e.2 hk
     have c2 : ¬(dX [45] r'=true∧(dx r').k≠3):=fun e=>e.2 (k4.1 hk)
     rw[if_neg c1] at h0
     rw[if_neg c1,if_neg c2]
     exact hn.simB hb dl T _ _ hT h h0
    ·have c1:dX [45] r=true∧(dx r).k≠3:=⟨hi,hk⟩
     have c2:dX [45] r'=true∧(dx r').k≠3:=⟨hi',fun e=>hk (k4.2 e)⟩
     rw[if_pos c1] at h0
     rw[if_pos c1,if_pos c2]
     exact hy.simB hb dl T _ _ hT k3 h0
  ·have c1 : ¬(dX [45] r=true∧(dx r).k≠3):=fun e=>hi e.1
   have c2 : ¬(dX [45] r'=true∧(dx r').k≠3):=fun e=>hi (by rw[e1];exact e.1)
   rw[if_neg c1] at h0
   rw[if_neg c1,if_neg c2]
   exact hn.simB hb dl T _ _ hT h h0
theorem dN {b:Bool} {F:Nat}:∀l:List (List UInt8 × Int),(b=true→∀c∈l,c.1≠[59]∧c.1≠[41])→bE b F (aK l)
 | [],_=>aA _
 | c::l,h=>fD c.1 (fun hb=>h hb c (by simp)) (aA _).ok (dN l fun hb x hx=>h hb x (by simp[hx]))
theorem choose_lt : ∀(l:List (List UInt8 × Int)) (r:Rd),(aK l r).1≠0→(aK l r).2=nextR r∧r.bad=0∧(nextR r).ts.length<r.ts.length
 | [],r,h=>absurd rfl h
 |
  c::l,r,h=>by
  unfold aK gV at h ⊢
  split at h
  ·rename_i hi
   rw[if_pos hi]
   exact⟨rfl,j4 hi,next_lt (by rcases (uJ hi).1 with e | e<;>rw[e]<;>decide)⟩
  ·rename_i hi
   rw[if_neg hi]
   exact choose_lt l r h
theorem nY : ∀(l:List (List UInt8 × Int)) (r:Rd),(∀c∈l,c.2≠0)→(aK l r).1=0→(aK l r).2=r
 | [],r,_,h=>rfl
 |
  c::l,r,hl,h=>by
  unfold aK gV at h ⊢
  split at h
  ·exact absurd h (hl c (by simp))
  ·rename_i hi
   rw[if_neg hi]
   exact nY l r (fun x hx=>hl x (by simp[hx])) h
theorem GY {r:Rd} (h:r.bad≠0):(bR r).bad=r.bad∧(bR r).bp=r.bp:=by
 unfold bR
 split
 ·rw[gy (show ({ r with d:=r.d+1 }:Rd).bad≠0 from h)];exact⟨rfl,rfl⟩
 ·exact⟨rfl,rfl⟩
theorem pO {b:Bool} {F:Nat} {α:Type} {p:Pa α} (hp:bE b F p):yC b F (gI p) where
 mono:=fun r h=>by
  obtain⟨d1,d2⟩:=GY h
  obtain⟨k1,k2⟩:=hp.mono _ (show (bR r).bad≠0 by rw[d1];exact h)
  exact⟨k1.trans d1,k2.trans d2⟩
 fine:=fun r hb h=>by
  have h2:=h.d2 hb
  have h0:=h.d0
  have hG:Good F (bR r)∧(bR r).d=r.d+1∧(bR r).ts=r.ts:=by
   unfold bR
   split
   ·rename_i h10
    obtain⟨t1,t2⟩:=pE ({ r with d:=r.d+1 }:Rd) 10
    have hf:=gN (r:=({ r with d:=r.d+1 }:Rd)) hb 10
    refine ⟨⟨fun e=>absurd (hf.symm.trans e) (by decide),by rw[t2];show 0≤r.d+1;omega,by rw[t2];show r.d+1≤11;omega,fun e=>absurd (hf.symm.trans e) (by decide),by rw[t1];exact h.nums,by rw[t1];exact h.many⟩,t2,t1⟩
   ·exact⟨⟨h.last,by show 0≤r.d+1;omega,by show r.d+1≤11;omega,fun _=>by show r.d+1≤10;omega,h.nums,h.many⟩,rfl,rfl⟩
  obtain⟨hG,hd,ht⟩:=hG
  obtain⟨k1,k2,k3⟩:=hp.fine _ trivial hG
  have hd':(p (bR r)).2.d=r.d+1:=k2.trans hd
  refine ⟨⟨k1.last,by show 0≤(p (bR r)).2.d-1;omega,by show (p (bR r)).2.d-1≤11;omega,fun _=>by show (p (bR r)).2.d-1≤10;omega,k1.nums,k1.many⟩,by show (p (bR r)).2.d-1=r.d;omega,by show (p (bR r)).2.ts.length≤_;rw[ht] at k3;exact k3⟩
 simA:=fun r r' h=>by
  have hs:uf (bR r) (bR r'):=by
   unfold bR
   rw[h.2.1]
   have h1:uf ({ r with d:=r'.d+1 }:Rd) ({ r' with d:=r'.d+1 }:Rd):=⟨h.1,rfl,h.2.2⟩
   split
   ·exact kL h1 10
   ·exact h1
  obtain⟨k1,k2⟩:=hp.simA _ _ hs
  exact⟨k1,k2.1,by show (p (bR r)).2.d-1=(p (bR r')).2.d-1;rw[k2.2.1],k2.2.2⟩
 simB:=fun hb dl T r r' hT h h0=>by
  have h0':(p (bR r)).2.bad=0:=h0
  obtain⟨L,e,L',h1,h2,h3,h4,h5,h6,h7,h8⟩:=id h
  by_cases hd:10<r.d+1
  ·have hB:(bR r).bad=10:=by unfold bR;rw[if_pos hd];exact gN (r:=({ r with d:=r.d+1 }:Rd)) h7 10
   have:=hp.mono _ (show (bR r).bad≠0 by rw[hB];decide)
   rw[this.1.symm.trans h0'] at hB
   exact absurd hB (by decide)
  ·by_cases hd':10<r'.d+1
   ·have hB:(bR r').bad=10:=by unfold bR;rw[if_pos hd'];exact gN (r:=({ r' with d:=r'.d+1 }:Rd)) h8 10
    have:=hp.mono _ (show (bR r').bad≠0 by rw[hB];decide)
    exact .inl ⟨by show (p (bR r')).2.bad=10;rw[this.1,hB],by omega⟩
   ·have e1:bR r = { r with d:=r.d+1 }:=if_neg hd
    have e2:bR r' = { r' with d:=r'.d+1 }:=if_neg hd'
    have hs:Aq dl T (bR r) (bR r'):=by
     rw[e1,e2]
     exact⟨L,e,L',h1,h2,h3,h4,h5,by show r'.d+1=r.d+1+dl;omega,h7,h8⟩
    rcases hp.simB hb dl T _ _ hT hs h0' with⟨k1,k2⟩ | ⟨k1,L,e,L',k2,k3,k4,k5,k6,k7,k8,k9⟩
    ·exact .inl ⟨k1,k2⟩
    ·exact .inr ⟨k1,L,e,L',k2,k3,k4,k5,k6,by show (p (bR r')).2.d-1=(p (bR r)).2.d-1+dl;omega,k8,k9⟩
def aU {α:Type} (one:Pa α) (more:Pa Bool):Nat→List α→Pa (List α)
 | 0,_=>aF (iU 2) fun _=>bg []
 | m+1,acc=>aF one fun x=>aF more fun b=>if b=true then aU one more m (acc++[x]) else bg (acc++[x])
theorem dn {b:Bool} {F:Nat} {α:Type} {one:Pa α} {more:Pa Bool} (h1:bE b F one) (h2:bE b F more):∀(m:Nat) (acc:List α),bE b F (aU one more m acc)
 | 0,_=>(gD 2 (by decide)).bind fun _=>aA _
 |
  m+1,acc=>h1.bind fun x=>h2.bind fun b=>by
  split
  ·exact dn h1 h2 m _
  ·exact aA _
inductive Ex where
 | mk (k op:Int) (tb nm:List UInt8) (v:Vl) (xs:List Ex)
def zV:Vl:=⟨0,0,[]⟩
def Dr:Ex:=.mk 0 0 [] [] zV []
def mJ (op:Int) (a b:Ex):Ex:=.mk 3 op [] [] zV [a,b]
def fT (k:Int) (a:Ex):Ex:=.mk k 0 [] [] zV [a]
def jK (t n:List UInt8):Ex:=.mk 2 0 t n zV []
def rM (v:Vl):Ex:=.mk 1 0 [] [] v []
def jS (below:Pa Ex) (ops:List (List UInt8 × Int)):Nat→Ex→Pa Ex
 | 0,e=>bg e
 | f+1,e=>aF (aK ops) fun op=>if op=0 then bg e else aF below fun x=>jS below ops f (mJ op e x)
def rowP (F:Nat) (below:Pa Ex) (ops:List (List UInt8 × Int)):Pa Ex:=aF below fun e=>jS below ops F e
def yL:List (List UInt8 × Int):=[([79,82],1)]
def rE:List (List UInt8 × Int):=[([65,78,68],2)]
def oI:List (List UInt8 × Int):=[([61],3),([60,62],4),([60],5),([60,61],6),([62],7),([62,61],8)]
def rJ:List (List UInt8 × Int):=[([43],9),([45],10)]
def qR:List (List UInt8 × Int):=[([42],11),([47],12),([37],13)]
def ig:List (List UInt8 × Int):=[([67,82,69,65,84,69],1),([68,82,79,80],2),([73,78,83,69,82,84],3),([85,80,68,65,84,69],4),([68,69,76,69,84,69],5),([83,69,76,69,67,84],6)]
def gX:List (List UInt8 × Int):=[([73,78,84],1),([84,69,88,84],2)]
def eU:List (List UInt8 × Int):=[([67,79,85,78,84],4),([83,85,77],5),([77,73,78],6),([77,65,88],7)]
def jI:Pa Vl:=gV [78,85,76,76] (bg zV) (aF rC fun o=>match o with
 | some s=>bg ⟨2,0,s⟩
 | none=>gV [45] (aF ji fun n=>bg ⟨1,-n,[]⟩) (aF ji fun n=>bg ⟨1,n,[]⟩))
def fG:Pa Ex:=aF nameP fun n=>gV [46] (aF nameP fun m=>bg (jK n m)) (bg (jK [] n))
def dQ (fc ex:Pa Ex):Pa Ex:=aF jW fun b=>if b=true then fG else
 iR (aF (gI fc) fun e=>bg (fT 5 e)) (gV [40] (aF (gI ex) fun e=>aF (dB [41]) fun _=>bg e) (aF jI fun v=>bg (rM v)))
def qb (e:Ex):Pa Ex:=aF (fI [78,79,84]) fun t=>aF (dB [78,85,76,76]) fun _=>bg (if t=true then fT 4 (fT 6 e) else fT 6 e)
def iP (sum:Pa Ex):Pa Ex:=aF sum fun e=>gV [73,83] (qb e) (aF (aK oI) fun op=>if op=0 then bg e else aF sum fun x=>bg (mJ op e x))
def notP (nt test:Pa Ex):Pa Ex:=gV [78,79,84] (aF (gI nt) fun e=>bg (fT 4 e)) test
structure Lv where
 nt:Pa Ex
 fc:Pa Ex
 ex:Pa Ex
def G9 (F:Nat) (L:Lv):Pa Ex:=rowP F (dQ L.fc L.ex) qR
def qN (F:Nat) (L:Lv):Pa Ex:=rowP F (G9 F L) rJ
def Il (F:Nat) (L:Lv):Pa Ex:=notP L.nt (iP (qN F L))
def J4 (F:Nat) (L:Lv):Pa Ex:=rowP F (Il F L) rE
def Db (F:Nat) (L:Lv):Pa Ex:=rowP F (J4 F L) yL
def mE (F:Nat):Nat→Lv
 | 0=>⟨bg Dr,bg Dr,bg Dr⟩
 | n+1=>⟨Il F (mE F n),dQ (mE F n).fc (mE F n).ex,Db F (mE F n)⟩
def dU (F:Nat):Pa Ex:=(mE F 12).ex
structure Co where
 nm:List UInt8
 k:Int
 nn:Bool
 uq:Bool
structure It where
 k:Int
 xs:List Ex
structure Se where
 nm:List UInt8
 e:Ex
structure St where
 k:Int
 tb:List UInt8
 cols:List Co
 prim:List UInt8
 rows:List (List Vl)
 sets:List Se
 items:List It
 jn:List UInt8
 on:List Ex
 wh:List Ex
 gr:List Ex
 od:List Ex
 desc:Bool
 lim:Int
def gQ (k:Int):St:=⟨k,[],[],[],[],[],[],[],[],[],[],[],false,-1⟩
def bQ (read:Pa Ex) (first:List UInt8) (others:List (List UInt8)):Pa (List Ex):=gV first (aF (aJ others) fun _=>aF read fun e=>bg [e]) (bg [])
def bO:Pa Bool:=fI [44]
def iV:Pa Bool:=fI [59]
def fC:Pa Co:=aF nameP fun n=>aF (aK gX) fun k=>aF (if k=0 then iU 4 else bg ()) fun _=>aF (gV [78,79,84] (aF (dB [78,85,76,76]) fun _=>bg true) (bg false)) fun nn=>aF (fI [85,78,73,81,85,69]) fun uq=>bg ⟨n,k,nn,uq⟩
def bU:Pa Bool:=gV [44] (aF (L8 [80,82,73,77,65,82,89]) fun b=>bg (!b)) (aF (iU 4) fun _=>bg false)
def dK:Pa St:=aF (dB [84,65,66,76,69]) fun _=>aF nameP fun tb=>aF (dB [40]) fun _=>aF (aU fC bU 8 []) fun cs=>aF (aJ [[80,82,73,77,65,82,89],[75,69,89],[40]]) fun _=>aF nameP fun pr=>aF (aJ [[41],[41]]) fun _=>bg { gQ 1 with tb:=tb,cols:=cs,prim:=pr }
def kE:Pa St:=aF (dB [84,65,66,76,69]) fun _=>aF nameP fun tb=>bg { gQ 2 with tb:=tb }
def fZ:Pa (List Vl):=aF (dB [40]) fun _=>aF (aU jI bO 8 []) fun l=>aF (dB [41]) fun _=>bg l
def dP:Pa St:=aF (dB [73,78,84,79]) fun _=>aF nameP fun tb=>aF (dB [86,65,76,85,69,83]) fun _=>aF (aU fZ bO 16 []) fun rs=>bg { gQ 3 with tb:=tb,rows:=rs }
def oM (ex:Pa Ex):Pa Se:=aF nameP fun n=>aF (dB [61]) fun _=>aF ex fun e=>bg ⟨n,e⟩
def dJ (ex:Pa Ex):Pa St:=aF nameP fun tb=>aF (dB [83,69,84]) fun _=>aF (aU (oM ex) bO 8 []) fun ss=>aF (bQ ex [87,72,69,82,69] []) fun wh=>bg { gQ 4 with tb:=tb,sets:=ss,wh:=wh }
def fV (ex:Pa Ex):Pa St:=aF (dB [70,82,79,77]) fun _=>aF nameP fun tb=>aF (bQ ex [87,72,69,82,69] []) fun wh=>bg { gQ 5 with tb:=tb,wh:=wh }
def eH (ex:Pa Ex):Pa It:=gV [42] (bg ⟨1,[]⟩) (aF (aK eU) fun k=>if k=0 then aF ex fun e=>bg ⟨2,[e]⟩ else
 aF (dB [40]) fun _=>aF (if k=4 then fI [42] else bg false) fun b=>aF (if b=true then bg ⟨3,[]⟩ else aF ex fun e=>bg ⟨k,[e]⟩) fun i=>aF (dB [41]) fun _=>bg i)
def iQ (ex:Pa Ex):Pa (List UInt8 × List Ex):=gV [74,79,73,78] (aF nameP fun j=>aF (dB [79,78]) fun _=>aF ex fun e=>bg (j,[e])) (bg ([],[]))
def eT (ex:Pa Ex):Pa St:=aF (aU (eH ex) bO 8 []) fun its=>aF (dB [70,82,79,77]) fun _=>aF nameP fun tb=>aF (iQ ex) fun j=>aF (bQ ex [87,72,69,82,69] []) fun wh=>aF (bQ fG [71,82,79,85,80] [[66,89]]) fun gr=>aF (bQ fG [79,82,68,69,82] [[66,89]]) fun od =>
 aF (if od.length=0 then bg false else fI [68,69,83,67]) fun de=>aF (gV [76,73,77,73,84] ji (bg (-1))) fun li=>bg { gQ 6 with tb:=tb,items:=its,jn:=j.1,on:=j.2,wh:=wh,gr:=gr,od:=od,desc:=de,lim:=li }
def eZ (ex:Pa Ex):Pa St:=aF (aK ig) fun k=>if k=1 then dK else if k=2 then kE else if k=3 then dP else if k=4 then dJ ex else if k=5 then fV ex else if k=6 then eT ex else aF (iU 4) fun _=>bg (gQ k)
def iY (F:Nat):Pa (List St):=aF (aU (eZ (dU F)) iV 8 []) fun l=>aF endP fun _=>bg l
theorem xR {b:Bool} {F:Nat} {below:Pa Ex} {ops:List (List UInt8 × Int)} (h:bE b F below) (ho:b=true→∀c∈ops,c.1≠[59]∧c.1≠[41]):∀(f:Nat) (e:Ex),bE b F (jS below ops f e)
 | 0,e=>aA _
 |
  f+1,e=>(dN ops ho).bind fun op=>by
  split
  ·exact aA _
  ·exact h.bind fun x=>xR h ho f _
theorem rG {b:Bool} {F:Nat} {below:Pa Ex} {ops:List (List UInt8 × Int)} (h:bE b F below) (ho:b=true→∀c∈ops,c.1≠[59]∧c.1≠[41]) (f:Nat):bE b F (rowP f below ops):=h.bind fun e=>xR h ho f e
theorem nT {b:Bool} {F:Nat}:bE b F jI :=
 fD _ (fun _=>by decide) (aA _).ok (wS.bind fun o=>by
  cases o with
  | some s=>exact aA _
  | none=>exact fD _ (fun _=>by decide) (lC.bind fun n=>aA _).ok (lC.bind fun n=>aA _))
theorem dY {b:Bool} {F:Nat}:bE b F fG:=bD.bind fun n=>fD _ (fun _=>by decide) (bD.bind fun m=>aA _).ok (aA _)
theorem oH {b:Bool} {F:Nat} {fc ex:Pa Ex} (h1:bE b F fc) (h2:bE b F ex):bE b F (dQ fc ex) :=
 zy.bind fun c=>by
  split
  ·exact dY
  ·exact CS ((pO h1).bind fun e=>aA _) (fD _ (fun _=>by decide) ((pO h2).bind fun e=>(bM _).bind fun _=>aA _) (nT.bind fun v=>aA _))
theorem EL {b:Bool} {F:Nat} (e:Ex):bE b F (qb e):=(jR _ (fun _=>by decide)).bind fun t=>(bM _).bind fun _=>aA _
theorem EW {b:Bool} {F:Nat} {sum:Pa Ex} (h:bE b F sum):bE b F (iP sum) :=
 h.bind fun e=>fD _ (fun _=>by decide) (EL e).ok ((dN _ (fun _=>by decide)).bind fun op=>by
  split
  ·exact aA _
  ·exact h.bind fun x=>aA _)
theorem Hg {b:Bool} {F:Nat} {nt test:Pa Ex} (h1:bE b F nt) (h2:bE b F test):bE b F (notP nt test) :=
 fD _ (fun _=>by decide) ((pO h1).bind fun e=>aA _) h2
structure xK (b:Bool) (F:Nat) (L:Lv):Prop where
 nt:bE b F L.nt
 fc:bE b F L.fc
 ex:bE b F L.ex
theorem wQ {b:Bool} {F:Nat} {L:Lv} (h:xK b F L):bE b F (G9 F L):=rG (oH h.fc h.ex) (fun _=>by decide) F
theorem AX {b:Bool} {F:Nat} {L:Lv} (h:xK b F L):bE b F (qN F L):=rG (wQ h) (fun _=>by decide) F
theorem rY {b:Bool} {F:Nat} {L:Lv} (h:xK b F L):bE b F (Il F L):=Hg h.nt (EW (AX h))
theorem zW {b:Bool} {F:Nat} {L:Lv} (h:xK b F L):bE b F (J4 F L):=rG (rY h) (fun _=>by decide) F
theorem CU {b:Bool} {F:Nat} {L:Lv} (h:xK b F L):bE b F (Db F L):=rG (zW h) (fun _=>by decide) F
theorem mH {b:Bool} {F:Nat}:∀n,xK b F (mE F n)
 | 0=>⟨aA _,aA _,aA _⟩
 | n+1=>⟨rY (mH n),oH (mH n).fc (mH n).ex,CU (mH n)⟩
theorem oW {b:Bool} {F:Nat}:bE b F (dU F):=(mH 12).ex
theorem bN {b:Bool} {F:Nat} {read:Pa Ex} (h:bE b F read) (t:List UInt8) (l:List (List UInt8)) (ht:t≠[59]∧t≠[41]):bE b F (bQ read t l) :=
 fD _ (fun _=>ht) ((bC l).bind fun _=>h.bind fun e=>aA _).ok (aA _)
theorem bZ {b:Bool} {F:Nat}:bE b F bO:=jR _ (fun _=>by decide)
theorem iG {b:Bool} {F:Nat}:bE b F fC :=
 bD.bind fun n=>(dN _ (fun _=>by decide)).bind fun k=>iT.bind (p:=if k=0 then iU 4 else bg ()) (by
  split
  ·exact gD 4 (by decide)
  ·exact aA _) fun _=>(fD _ (fun _=>by decide) ((bM _).bind fun _=>aA _).ok (aA _)).bind fun nn=>(jR _ (fun _=>by decide)).bind fun uq=>aA _
theorem eF {b:Bool} {F:Nat}:bE b F bU :=
 fD _ (fun _=>by decide) ((JF _ (fun _=>by decide)).bind fun c=>aA _).ok ((gD 4 (by decide)).bind fun _=>aA _)
theorem sS {b:Bool} {F:Nat}:bE b F dK :=
 (bM _).bind fun _=>bD.bind fun tb=>(bM _).bind fun _=>(dn iG eF 8 []).bind fun cs=>(bC _).bind fun _=>bD.bind fun pr=>(bC _).bind fun _=>aA _
theorem xw {b:Bool} {F:Nat}:bE b F kE:=(bM _).bind fun _=>bD.bind fun tb=>aA _
theorem iJ {b:Bool} {F:Nat}:bE b F fZ:=(bM _).bind fun _=>(dn nT bZ 8 []).bind fun l=>(bM _).bind fun _=>aA _
theorem tO {b:Bool} {F:Nat}:bE b F dP :=
 (bM _).bind fun _=>bD.bind fun tb=>(bM _).bind fun _=>(dn iJ bZ 16 []).bind fun rs=>aA _
theorem mG {b:Bool} {F:Nat} {ex:Pa Ex} (h:bE b F ex):bE b F (oM ex):=bD.bind fun n=>(bM _).bind fun _=>h.bind fun e=>aA _
theorem tF {b:Bool} {F:Nat} {ex:Pa Ex} (h:bE b F ex):bE b F (dJ ex) :=
 bD.bind fun tb=>(bM _).bind fun _=>(dn (mG h) bZ 8 []).bind fun ss=>(bN h _ _ (by decide)).bind fun wh=>aA _
theorem tC {b:Bool} {F:Nat} {ex:Pa Ex} (h:bE b F ex):bE b F (fV ex) :=
 (bM _).bind fun _=>bD.bind fun tb=>(bN h _ _ (by decide)).bind fun wh=>aA _
theorem o8 {b:Bool} {F:Nat} {ex:Pa Ex} (h:bE b F ex):bE b F (eH ex) :=
 fD _ (fun _=>by decide) (aA _).ok ((dN _ (fun _=>by decide)).bind fun k=>by
  split
  ·exact h.bind fun e=>aA _
  ·refine (bM _).bind fun _=>iT.bind ?_ fun c=>iT.bind ?_ fun i=>(bM _).bind fun _=>aA _
   ·split
    ·exact jR _ (fun _=>by decide)
    ·exact aA _
   ·split
    ·exact aA _
    ·exact h.bind fun e=>aA _)
theorem mM {b:Bool} {F:Nat} {ex:Pa Ex} (h:bE b F ex):bE b F (iQ ex) :=
 fD _ (fun _=>by decide) (bD.bind fun j=>(bM _).bind fun _=>h.bind fun e=>aA _).ok (aA _)
theorem sW {b:Bool} {F:Nat} {ex:Pa Ex} (h:bE b F ex):bE b F (eT ex) :=
 (dn (o8 h) bZ 8 []).bind fun its=>(bM _).bind fun _=>bD.bind fun tb=>(mM h).bind fun j=>(bN h _ _ (by decide)).bind fun wh=>(bN dY _ _ (by decide)).bind fun gr=>(bN dY _ _ (by decide)).bind fun od =>
  iT.bind (p:=if od.length=0 then bg false else fI [68,69,83,67]) (by
   split
   ·exact aA _
   ·exact jR _ (fun _=>by decide)) fun de=>(fD _ (fun _=>by decide) lC.ok (aA _)).bind fun li=>aA _
theorem qp {b:Bool} {F:Nat} {ex:Pa Ex} (h:bE b F ex):bE b F (eZ ex) :=
 (dN _ (fun _=>by decide)).bind fun k=>by
  split
  ·exact sS
  ·split
   ·exact xw
   ·split
    ·exact tO
    ·split
     ·exact tF h
     ·split
      ·exact tC h
      ·split
       ·exact sW h
       ·exact (gD 4 (by decide)).bind fun _=>aA _
theorem sw {F:Nat}:bE false F iV:=jR _ (fun e=>by cases e)
theorem Fy {F:Nat}:bE false F endP where
 mono:=fun r h=>by unfold endP;rw[jy h,if_neg (by decide),gy h];exact⟨rfl,rfl⟩
 fine:=fun r _ h=>by
  unfold endP
  split
  ·exact⟨h,rfl,Nat.le_refl _⟩
  ·exact (gD (b:=false) 4 (by decide)).fine r trivial h
 simA:=fun r r' h=>by
  unfold endP
  rw[(qV (mW h)).1]
  split
  ·exact⟨rfl,h⟩
  ·exact⟨rfl,kL h 4⟩
 simB:=fun e=>by cases e
theorem zI {F:Nat}:bE false F (aU (eZ (dU F)) iV 8 []):=dn (qp oW) sw 8 []
theorem zH {F:Nat}:bE false F (iY F):=zI.bind fun l=>Fy.bind fun _=>aA _
def bX (n:Nat) (r:Rd):Prop:=(r.bad=0→12≤r.d+n)∧1≤n
def xG (F n:Nat) (G:Rd→Prop) {α:Type} (p q:Pa α):Prop:=∀r,G r→Good F r→bX n r→p r=q r
abbrev Ma (F n:Nat) {α:Type} (p q:Pa α):Prop:=xG F n (fun _=>True) p q
abbrev Lg (F n:Nat) {α:Type} (p q:Pa α):Prop:=xG F n (fun r=>r.bad=0) p q
theorem xG.ok {F n:Nat} {α:Type} {p q:Pa α} (h:Ma F n p q):Lg F n p q:=fun r _=>h r trivial
theorem bX.after {F n:Nat} {G:Rd→Prop} {α:Type} {p:Pa α} {r:Rd} (hp:iT false F G p) (g:G r) (hG:Good F r) (h:bX n r):bX n (p r).2:=by
 refine ⟨fun hb=>?_,h.2⟩
 rw[(hp.fine r g hG).2.1]
 refine h.1 ?_
 by_cases e:r.bad=0
 ·exact e
 ·rw[(hp.mono r e).1] at hb;exact hb
theorem xG.bind {F n:Nat} {G:Rd→Prop} {α β:Type} {p p':Pa α} {q q':α→Pa β} (hp:xG F n G p p') (hn:iT false F G p) (hq : ∀a,Ma F n (q a) (q' a)):xG F n G (aF p q) (aF p' q'):=fun r g hG hE=>by
 unfold aF
 rw[← hp r g hG hE]
 exact hq _ _ trivial (hn.fine r g hG).1 (hE.after hn g hG)
theorem bX.next {n:Nat} {r:Rd} (h:bX n r):bX n (nextR r):=⟨h.1,h.2⟩
theorem Good.down {F:Nat} {r:Rd} (h:Good F r) (hb:r.bad=0):Good F (bR r)∧(bR r).d=r.d+1∧(bR r).ts=r.ts:=by
 have h2:=h.d2 hb
 have h0:=h.d0
 unfold bR
 split
 ·rename_i h10
  obtain⟨t1,t2⟩:=pE ({ r with d:=r.d+1 }:Rd) 10
  have hf:=gN (r:=({ r with d:=r.d+1 }:Rd)) hb 10
  exact⟨⟨fun e=>absurd (hf.symm.trans e) (by decide),by rw[t2];show 0≤r.d+1;omega,by rw[t2];show r.d+1≤11;omega,fun e=>absurd (hf.symm.trans e) (by decide),by rw[t1];exact h.nums,by rw[t1];exact h.many⟩,t2,t1⟩
 ·exact⟨⟨h.last,by show 0≤r.d+1;omega,by show r.d+1≤11;omega,fun _=>by show r.d+1≤10;omega,h.nums,h.many⟩,rfl,rfl⟩
theorem bX.down {F n:Nat} {r:Rd} (h:bX (n+1) r) (hG:Good F r) (hb:r.bad=0):bX n (bR r):=by
 have h1:=h.1 hb
 have h2:=hG.d2 hb
 refine ⟨fun _=>?_,by omega⟩
 rw[(hG.down hb).2.1]
 omega
end Go.Proofs.YtaaggohjmhifbaaGreatDoor
