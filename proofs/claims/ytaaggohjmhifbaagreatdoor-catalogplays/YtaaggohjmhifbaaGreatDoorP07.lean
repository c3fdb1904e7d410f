/- Packed for the hand-in: PPure -/
import Derived.Test.YtaaggohjmhifbaaGreatDoorP05
import Derived.Test.YtaaggohjmhifbaaGreatDoorP01
namespace Go.Proofs.YtaaggohjmhifbaaGreatDoor
set_option linter.unusedSimpArgs false
set_option linter.unusedVariables false
set_option maxHeartbeats 8000000
structure Rd where
 ts:List Tk
 d:Int
 bad:Int
 bp:Int
abbrev Pa (α:Type):=Rd→α × Rd
def retP {α:Type} (a:α):Pa α:=fun r=>(a,r)
def bindP {α β:Type} (p:Pa α) (q:α→Pa β):Pa β:=fun r=>q (p r).1 (p r).2
def nowR (r:Rd):Tk:=if r.bad=0 then r.ts.headD zTk else zTk
def isR (t:List UInt8) (r:Rd):Bool:=((nowR r).k==2||(nowR r).k==5)&&(nowR r).s==t
def nextR (r:Rd):Rd:={ r with ts:=r.ts.tail }
def failR (e:Int) (r:Rd):Rd:=if r.bad=0 then { r with bad:=e,bp:=(nowR r).p } else r
def behindR (r:Rd):Tk:=r.ts.tail.headD zTk
def isP (t:List UInt8):Pa Bool:=fun r=>(isR t r,r)
def ifP {α:Type} (t:List UInt8) (yes no:Pa α):Pa α:=fun r=>if isR t r=true then yes (nextR r) else no r
def skipP (t:List UInt8):Pa Bool:=ifP t (retP true) (retP false)
def failP (e:Int):Pa Unit:=fun r=>((),failR e r)
def mustP (t:List UInt8):Pa Unit:=ifP t (retP ()) (failP 4)
def mustsP:List (List UInt8)→Pa Unit
 | []=>retP ()
 | t::l=>bindP (mustP t) fun _=>mustsP l
def isNameP:Pa Bool:=fun r=>((nowR r).k==1,r)
def nameP:Pa (List UInt8):=fun r=>if (nowR r).k=1 then ((nowR r).s,nextR r) else ([],failR 4 r)
def numP:Pa Int:=fun r=>if (nowR r).k=3 then ((nowR r).n,nextR r) else (0,failR 4 r)
def textP:Pa (Option (List UInt8)):=fun r=>if (nowR r).k=4 then (some (nowR r).s,nextR r) else (none,r)
def minusP {α:Type} (yes no:Pa α):Pa α:=fun r=>if isR [45] r=true∧(behindR r).k≠3 then yes (nextR r) else no r
def chooseP:List (List UInt8 × Int)→Pa Int
 | []=>retP 0
 | c::l=>ifP c.1 (retP c.2) (chooseP l)
def downR (r:Rd):Rd:=if 10<r.d+1 then failR 10 { r with d:=r.d+1 } else { r with d:=r.d+1 }
def upR (r:Rd):Rd:={ r with d:=r.d-1 }
def deepP {α:Type} (p:Pa α):Pa α:=fun r=>((p (downR r)).1,upR (p (downR r)).2)
def endP:Pa Unit:=fun r=>if (nowR r).k=6 then ((),r) else ((),failR 4 r)
structure Good (F:Nat) (r:Rd):Prop where
 last:r.bad=0→∃L e,r.ts=L++[e]∧e.k=6∧∀x∈L,x.k≠6
 d0:0≤r.d
 d1:r.d≤11
 d2:r.bad=0→r.d≤10
 nums : ∀x∈r.ts,0≤x.n∧x.n≤9223372036854775807
 many:r.ts.length≤F
def SimA (r r':Rd):Prop:=r.ts.map Tk.z=r'.ts.map Tk.z∧r.d=r'.d∧r.bad=r'.bad
def SimB (dl:Nat) (T:List Tk) (r r':Rd):Prop :=
 ∃L e L' , r.ts=L++[e]∧e.k=6∧(∀x∈L,x.k≠6)∧r'.ts=L'++T∧L.map Tk.z=L'.map Tk.z∧r'.d=r.d+dl∧r.bad=0∧r'.bad=0
def Tail (T:List Tk):Prop:=∃h l,T=h::l∧h.k=5∧(h.s=[59]∨h.s=[41])
structure NiceAt (b:Bool) (F:Nat) (G:Rd→Prop) {α:Type} (p:Pa α):Prop where
 mono : ∀r,r.bad≠0→(p r).2.bad=r.bad∧(p r).2.bp=r.bp
 fine : ∀r,G r→Good F r→Good F (p r).2∧(p r).2.d=r.d∧(p r).2.ts.length≤r.ts.length
 simA : ∀r r',SimA r r'→(p r).1=(p r').1∧SimA (p r).2 (p r').2
 simB:b=true→∀dl T r r',Tail T→SimB dl T r r'→(p r).2.bad=0→((p r').2.bad=10∧0<dl)∨((p r).1=(p r').1∧SimB dl T (p r).2 (p r').2)
abbrev Nice (b:Bool) (F:Nat) {α:Type} (p:Pa α):Prop:=NiceAt b F (fun _=>True) p
abbrev NiceOk (b:Bool) (F:Nat) {α:Type} (p:Pa α):Prop:=NiceAt b F (fun r=>r.bad=0) p
theorem NiceAt.ok {b:Bool} {F:Nat} {α:Type} {p:Pa α} (h:Nice b F p):NiceOk b F p:=⟨h.mono,fun r _=>h.fine r trivial,h.simA,h.simB⟩
theorem nice_ret {b:Bool} {F:Nat} {α:Type} (a:α):Nice b F (retP a) :=
 ⟨fun r _=>⟨rfl,rfl⟩,fun r _ h=>⟨h,rfl,Nat.le_refl _⟩,fun r r' h=>⟨rfl,h⟩,fun _ dl T r r' _ h _=>.inr ⟨rfl,h⟩⟩
theorem NiceAt.bind {b:Bool} {F:Nat} {G:Rd→Prop} {α β:Type} {p:Pa α} {q:α→Pa β} (hp:NiceAt b F G p) (hq : ∀a,Nice b F (q a)):NiceAt b F G (bindP p q) where
 mono:=fun r h=>by
  obtain⟨h1,h2⟩:=hp.mono r h
  obtain⟨k1,k2⟩:=(hq (p r).1).mono _ (by rw[h1];exact h)
  exact⟨k1.trans h1,k2.trans h2⟩
 fine:=fun r g h=>by
  obtain⟨h1,h2,h3⟩:=hp.fine r g h
  obtain⟨k1,k2,k3⟩:=(hq (p r).1).fine _ trivial h1
  exact⟨k1,k2.trans h2,Nat.le_trans k3 h3⟩
 simA:=fun r r' h=>by
  obtain⟨h1,h2⟩:=hp.simA r r' h
  have:=(hq (p r).1).simA _ _ h2
  unfold bindP
  rw[← h1]
  exact this
 simB:=fun hb dl T r r' hT h h0=>by
  have hb0:(p r).2.bad=0:=by
   by_cases e:(p r).2.bad=0
   ·exact e
   ·exact absurd ((((hq (p r).1).mono _ e).1.symm.trans h0:(p r).2.bad=0)) e
  rcases hp.simB hb dl T r r' hT h hb0 with⟨k1,k2⟩ | ⟨k1,k2⟩
  ·exact .inl ⟨((hq (p r').1).mono _ (by rw[k1];decide)).1.trans k1,k2⟩
  ·have:=(hq (p r).1).simB hb dl T _ _ hT k2 h0
   unfold bindP
   rw[← k1]
   exact this
theorem simA_now {r r':Rd} (h:SimA r r'):(nowR r).z=(nowR r').z:=by
 obtain⟨h1,_,h3⟩:=h
 unfold nowR
 rw[h3]
 split
 ·cases hr:r.ts with
  |
   nil =>
   rw[hr] at h1
   have:r'.ts=[]:=by simpa using h1.symm
   rw[this]
  |
   cons a l =>
   rw[hr] at h1
   cases hr':r'.ts with
   | nil=>rw[hr'] at h1;simp at h1
   | cons a' l'=>rw[hr'] at h1;simp at h1;simpa using h1.1
 ·rfl
theorem z_eq {x y:Tk} (h:x.z=y.z):x.k=y.k∧x.s=y.s∧x.n=y.n:=by
 have h':(⟨x.k,x.s,x.n,0⟩:Tk)=⟨y.k,y.s,y.n,0⟩:=h
 simp only[Tk.mk.injEq] at h'
 exact⟨h'.1,h'.2.1,h'.2.2.1⟩
theorem simA_is {r r':Rd} (h:SimA r r') (t:List UInt8):isR t r=isR t r':=by
 obtain⟨h1,h2,_⟩:=z_eq (simA_now h)
 unfold isR
 rw[h1,h2]
theorem simA_next {r r':Rd} (h:SimA r r'):SimA (nextR r) (nextR r') :=
 ⟨by simp only[nextR,List.map_tail];rw[h.1],h.2.1,h.2.2⟩
theorem simA_fail {r r':Rd} (h:SimA r r') (e:Int):SimA (failR e r) (failR e r'):=by
 unfold failR
 rw[h.2.2]
 split
 ·exact⟨h.1,h.2.1,rfl⟩
 ·exact h
theorem simA_behind {r r':Rd} (h:SimA r r'):(behindR r).k=(behindR r').k:=by
 have h1:=congrArg List.tail h.1
 rw[← List.map_tail,← List.map_tail] at h1
 unfold behindR
 generalize r.ts.tail=a at h1
 generalize r'.ts.tail=b at h1
 cases a with
 |
  nil =>
  have:b=[]:=by simpa using h1.symm
  rw[this]
 |
  cons x a =>
  cases b with
  | nil=>simp at h1
  |
   cons y b =>
   rw[List.map_cons,List.map_cons,List.cons.injEq] at h1
   exact (z_eq h1.1).1
theorem now_bad {r:Rd} (h:r.bad≠0):nowR r=zTk:=if_neg h
theorem is_bad {r:Rd} (h:r.bad≠0) (t:List UInt8):isR t r=false:=by unfold isR;rw[now_bad h];rfl
theorem is_ok {r:Rd} {t:List UInt8} (h:isR t r=true):r.bad=0:=by
 by_cases e:r.bad=0
 ·exact e
 ·rw[is_bad e] at h;cases h
theorem is_kind {r:Rd} {t:List UInt8} (h:isR t r=true):((nowR r).k=2∨(nowR r).k=5)∧(nowR r).s=t:=by
 unfold isR at h
 simpa using h
theorem fail_bad {r:Rd} (h:r.bad≠0) (e:Int):failR e r=r:=if_neg h
theorem fail_ok {r:Rd} (h:r.bad=0) (e:Int):(failR e r).bad=e:=by unfold failR;rw[if_pos h]
theorem fail_ts (r:Rd) (e:Int):(failR e r).ts=r.ts∧(failR e r).d=r.d:=by unfold failR;split<;>exact⟨rfl,rfl⟩
theorem Good.fail {F:Nat} {r:Rd} (h:Good F r) {e:Int} (he:e≠0):Good F (failR e r):=by
 by_cases hb:r.bad=0
 ·have hf:=fail_ok hb e
  obtain⟨t1,t2⟩:=fail_ts r e
  exact⟨fun h0=>absurd (hf.symm.trans h0) he,by rw[t2];exact h.d0,by rw[t2];exact h.d1,fun h0=>absurd (hf.symm.trans h0) he,by rw[t1];exact h.nums,by rw[t1];exact h.many⟩
 ·rw[fail_bad hb];exact h
theorem Good.next {F:Nat} {r:Rd} (h:Good F r) (hb:r.bad=0) (hk:(nowR r).k≠6):Good F (nextR r):=by
 obtain⟨L,e,h1,h2,h3⟩:=h.last hb
 refine ⟨fun _=>?_,h.d0,h.d1,h.d2,fun x hx=>h.nums x (List.mem_of_mem_tail hx),Nat.le_trans (by simp[nextR]) h.many⟩
 cases L with
 |
  nil =>
  refine absurd ?_ hk
  unfold nowR
  rw[if_pos hb,h1]
  exact h2
 | cons a L=>exact⟨L,e,by simp[nextR,h1],h2,fun x hx=>h3 x (by simp[hx])⟩
theorem next_le (r:Rd):(nextR r).ts.length≤r.ts.length:=by simp[nextR]
theorem next_lt {r:Rd} (h:(nowR r).k≠0):(nextR r).ts.length<r.ts.length:=by
 unfold nowR at h
 split at h
 ·cases hr:r.ts with
  | nil=>rw[hr] at h;exact absurd rfl h
  | cons a l=>simp[nextR,hr]
 ·exact absurd rfl h
theorem simB_cases {dl:Nat} {T:List Tk} {r r':Rd} (hT:Tail T) (h:SimB dl T r r') :
  ((nowR r).k=6∧(nowR r').k=5∧((nowR r').s=[59]∨(nowR r').s=[41])) ∨
  ((nowR r).k≠6∧(nowR r).z=(nowR r').z∧SimB dl T (nextR r) (nextR r')∧((behindR r).k=3↔(behindR r').k=3)):=by
 obtain⟨L,e,L',h1,h2,h3,h4,h5,h6,h7,h8⟩:=h
 obtain⟨t,l,hTe,ht1,ht2⟩:=hT
 cases L with
 |
  nil =>
  left
  have:L'=[]:=by simpa using h5.symm
  subst this
  unfold nowR
  rw[if_pos h7,if_pos h8,h1,h4,hTe]
  exact⟨h2,ht1,ht2⟩
 |
  cons a L =>
  cases L' with
  | nil=>simp at h5
  |
   cons a' L' =>
   rw[List.map_cons,List.map_cons,List.cons.injEq] at h5
   right
   have n1:nowR r=a:=by unfold nowR;rw[if_pos h7,h1];rfl
   have n2:nowR r'=a':=by unfold nowR;rw[if_pos h8,h4];rfl
   rw[n1,n2]
   refine ⟨h3 a (by simp),h5.1,⟨L,e,L',by simp[nextR,h1],h2,fun x hx=>h3 x (by simp[hx]),by simp[nextR,h4],h5.2,h6,h7,h8⟩,?_⟩
   unfold behindR
   rw[h1,h4]
   cases L with
   |
    nil =>
    have:L'=[]:=by simpa using h5.2.symm
    subst this
    rw[hTe]
    show e.k=3↔t.k=3
    rw[h2,ht1]
    decide
   |
    cons b L =>
    cases L' with
    | nil=>simp at h5
    |
     cons b' L' =>
     have h52:=h5.2
     rw[List.map_cons,List.map_cons,List.cons.injEq] at h52
     show b.k=3↔b'.k=3
     rw[(z_eq h52.1).1]
theorem simB_is {dl:Nat} {T:List Tk} {r r':Rd} (hT:Tail T) (h:SimB dl T r r') {t:List UInt8} (ht1:t≠[59]) (ht2:t≠[41]):isR t r=isR t r':=by
 rcases simB_cases hT h with⟨k1,k2,k3⟩ | ⟨_,k2,_⟩
 ·unfold isR
  rw[k1,k2]
  have:((nowR r').s==t)=false:=by
   rw[beq_eq_false_iff_ne]
   rcases k3 with k3 | k3<;>rw[k3]
   ·exact fun e=>ht1 e.symm
   ·exact fun e=>ht2 e.symm
  rw[this]
  rfl
 ·obtain⟨e1,e2,_⟩:=z_eq k2
  unfold isR
  rw[e1,e2]
theorem simB_step {dl:Nat} {T:List Tk} {r r':Rd} (hT:Tail T) (h:SimB dl T r r') (hk:(nowR r).k≠6):SimB dl T (nextR r) (nextR r'):=by
 rcases simB_cases hT h with⟨k1,_⟩ | ⟨_,_,k,_⟩
 ·exact absurd k1 hk
 ·exact k
theorem nice_is {b:Bool} {F:Nat} (t:List UInt8) (h1:b=true→t≠[59]∧t≠[41]):Nice b F (isP t) :=
 ⟨fun r _=>⟨rfl,rfl⟩,fun r _ h=>⟨h,rfl,Nat.le_refl _⟩,fun r r' h=>⟨simA_is h t,h⟩,fun hb dl T r r' hT h _=>.inr ⟨simB_is hT h (h1 hb).1 (h1 hb).2,h⟩⟩
theorem kind6 {r:Rd} {t:List UInt8} (h:isR t r=true):(nowR r).k≠6:=by
 rcases (is_kind h).1 with e | e<;>rw[e]<;>decide
theorem nice_if {b:Bool} {F:Nat} {α:Type} (t:List UInt8) {yes no:Pa α} (h1:b=true→t≠[59]∧t≠[41]) (hy:NiceOk b F yes) (hn:Nice b F no):Nice b F (ifP t yes no) where
 mono:=fun r h=>by unfold ifP;rw[is_bad h];exact hn.mono r h
 fine:=fun r _ h=>by
  unfold ifP
  split
  ·rename_i hi
   obtain⟨k1,k2,k3⟩:=hy.fine (nextR r) (id (is_ok (r:=r) hi)) (h.next (is_ok hi) (kind6 hi))
   exact⟨k1,k2,Nat.le_trans k3 (next_le r)⟩
  ·exact hn.fine r trivial h
 simA:=fun r r' h=>by
  unfold ifP
  rw[← simA_is h t]
  split
  ·exact hy.simA _ _ (simA_next h)
  ·exact hn.simA _ _ h
 simB:=fun hb dl T r r' hT h h0=>by
  unfold ifP at h0 ⊢
  rw[← simB_is hT h (h1 hb).1 (h1 hb).2]
  split
  ·rename_i hi
   rw[if_pos hi] at h0
   exact hy.simB hb dl T _ _ hT (simB_step hT h (kind6 hi)) h0
  ·rename_i hi
   rw[if_neg hi] at h0
   exact hn.simB hb dl T _ _ hT h h0
theorem nice_skip {b:Bool} {F:Nat} (t:List UInt8) (h1:b=true→t≠[59]∧t≠[41]):Nice b F (skipP t):=nice_if t h1 (nice_ret _).ok (nice_ret _)
theorem nice_fail {b:Bool} {F:Nat} (e:Int) (he:e≠0):Nice b F (failP e) where
 mono:=fun r h=>by unfold failP;rw[fail_bad h];exact⟨rfl,rfl⟩
 fine:=fun r _ h=>⟨h.fail he,(fail_ts r e).2,by show (failR e r).ts.length≤_;rw[(fail_ts r e).1];exact Nat.le_refl _⟩
 simA:=fun r r' h=>⟨rfl,simA_fail h e⟩
 simB:=fun hb dl T r r' hT h h0=>by
  obtain⟨L,e',L',_,_,_,_,_,_,h7,_⟩:=h
  exact absurd ((fail_ok h7 e).symm.trans h0) he
theorem nice_must {b:Bool} {F:Nat} (t:List UInt8):Nice b F (mustP t) where
 mono:=fun r h=>by unfold mustP ifP;rw[is_bad h];exact (nice_fail (b:=b) (F:=F) 4 (by decide)).mono r h
 fine:=fun r _ h=>by
  unfold mustP ifP
  split
  ·rename_i hi
   exact⟨h.next (is_ok hi) (kind6 hi),rfl,next_le r⟩
  ·exact (nice_fail (b:=b) 4 (by decide)).fine r trivial h
 simA:=fun r r' h=>by
  unfold mustP ifP
  rw[← simA_is h t]
  split
  ·exact⟨rfl,simA_next h⟩
  ·exact⟨rfl,simA_fail h 4⟩
 simB:=fun hb dl T r r' hT h h0=>by
  unfold mustP ifP at h0 ⊢
  by_cases hi:isR t r=true
  ·rw[if_pos hi]
   have hk:=kind6 hi
   rcases simB_cases hT h with⟨k1,_⟩ | ⟨_,k2,k3,_⟩
   ·exact absurd k1 hk
   ·obtain⟨e1,e2,_⟩:=z_eq k2
    have hi':isR t r'=true:=by unfold isR at hi ⊢;rw[← e1,← e2];exact hi
    rw[if_pos hi']
    exact .inr ⟨rfl,k3⟩
  ·rw[if_neg hi] at h0
   obtain⟨L,e',L',_,_,_,_,_,_,h7,_⟩:=h
   exact absurd ((fail_ok h7 4).symm.trans h0) (by decide)
theorem nice_musts {b:Bool} {F:Nat}:∀l:List (List UInt8),Nice b F (mustsP l)
 | []=>nice_ret _
 | t::l=>(nice_must t).bind fun _=>nice_musts l
theorem nice_isName {b:Bool} {F:Nat}:Nice b F isNameP where
 mono:=fun r h=>⟨rfl,rfl⟩
 fine:=fun r _ h=>⟨h,rfl,Nat.le_refl _⟩
 simA:=fun r r' h=>⟨by show ((nowR r).k==1)=_;rw[(z_eq (simA_now h)).1];rfl,h⟩
 simB:=fun hb dl T r r' hT h _=>.inr ⟨by
  show ((nowR r).k==1)=((nowR r').k==1)
  rcases simB_cases hT h with⟨k1,k2,_⟩ | ⟨_,k2,_⟩
  ·rw[k1,k2];rfl
  ·rw[(z_eq k2).1],h⟩
theorem nice_name {b:Bool} {F:Nat}:Nice b F nameP where
 mono:=fun r h=>by unfold nameP;rw[now_bad h,if_neg (by decide),fail_bad h];exact⟨rfl,rfl⟩
 fine:=fun r _ h=>by
  unfold nameP
  split
  ·rename_i hk
   have hb:r.bad=0:=by
    by_cases e:r.bad=0
    ·exact e
    ·rw[now_bad e] at hk;exact absurd hk (by decide)
   exact⟨h.next hb (by rw[hk];decide),rfl,next_le r⟩
  ·exact (nice_fail (b:=b) 4 (by decide)).fine r trivial h
 simA:=fun r r' h=>by
  obtain⟨e1,e2,_⟩:=z_eq (simA_now h)
  unfold nameP
  rw[e1,e2]
  split
  ·exact⟨rfl,simA_next h⟩
  ·exact⟨rfl,simA_fail h 4⟩
 simB:=fun hb dl T r r' hT h h0=>by
  unfold nameP at h0 ⊢
  by_cases hk:(nowR r).k=1
  ·rcases simB_cases hT h with⟨k1,_⟩ | ⟨_,k2,k3,_⟩
   ·rw[k1] at hk;exact absurd hk (by decide)
   ·obtain⟨e1,e2,_⟩:=z_eq k2
    rw[if_pos hk,if_pos (e1 ▸ hk),e2]
    exact .inr ⟨rfl,k3⟩
  ·rw[if_neg hk] at h0
   obtain⟨L,e',L',_,_,_,_,_,_,h7,_⟩:=h
   exact absurd ((fail_ok h7 4).symm.trans h0) (by decide)
theorem nice_num {b:Bool} {F:Nat}:Nice b F numP where
 mono:=fun r h=>by unfold numP;rw[now_bad h,if_neg (by decide),fail_bad h];exact⟨rfl,rfl⟩
 fine:=fun r _ h=>by
  unfold numP
  split
  ·rename_i hk
   have hb:r.bad=0:=by
    by_cases e:r.bad=0
    ·exact e
    ·rw[now_bad e] at hk;exact absurd hk (by decide)
   exact⟨h.next hb (by rw[hk];decide),rfl,next_le r⟩
  ·exact (nice_fail (b:=b) 4 (by decide)).fine r trivial h
 simA:=fun r r' h=>by
  obtain⟨e1,_,e2⟩:=z_eq (simA_now h)
  unfold numP
  rw[e1,e2]
  split
  ·exact⟨rfl,simA_next h⟩
  ·exact⟨rfl,simA_fail h 4⟩
 simB:=fun hb dl T r r' hT h h0=>by
  unfold numP at h0 ⊢
  by_cases hk:(nowR r).k=3
  ·rcases simB_cases hT h with⟨k1,_⟩ | ⟨_,k2,k3,_⟩
   ·rw[k1] at hk;exact absurd hk (by decide)
   ·obtain⟨e1,_,e2⟩:=z_eq k2
    rw[if_pos hk,if_pos (e1 ▸ hk),e2]
    exact .inr ⟨rfl,k3⟩
  ·rw[if_neg hk] at h0
   obtain⟨L,e',L',_,_,_,_,_,_,h7,_⟩:=h
   exact absurd ((fail_ok h7 4).symm.trans h0) (by decide)
theorem nice_text {b:Bool} {F:Nat}:Nice b F textP where
 mono:=fun r h=>by unfold textP;rw[now_bad h,if_neg (by decide)];exact⟨rfl,rfl⟩
 fine:=fun r _ h=>by
  unfold textP
  split
  ·rename_i hk
   have hb:r.bad=0:=by
    by_cases e:r.bad=0
    ·exact e
    ·rw[now_bad e] at hk;exact absurd hk (by decide)
   exact⟨h.next hb (by rw[hk];decide),rfl,next_le r⟩
  ·exact⟨h,rfl,Nat.le_refl _⟩
 simA:=fun r r' h=>by
  obtain⟨e1,e2,_⟩:=z_eq (simA_now h)
  unfold textP
  rw[e1,e2]
  split
  ·exact⟨rfl,simA_next h⟩
  ·exact⟨rfl,h⟩
 simB:=fun hb dl T r r' hT h h0=>by
  unfold textP
  rcases simB_cases hT h with⟨k1,k2,_⟩ | ⟨_,k2,k3,_⟩
  ·rw[k1,k2,if_neg (by decide),if_neg (by decide)]
   exact .inr ⟨rfl,h⟩
  ·obtain⟨e1,e2,_⟩:=z_eq k2
   rw[e1,e2]
   split
   ·exact .inr ⟨rfl,k3⟩
   ·exact .inr ⟨rfl,h⟩
theorem nice_minus {b:Bool} {F:Nat} {α:Type} {yes no:Pa α} (hy:NiceOk b F yes) (hn:Nice b F no):Nice b F (minusP yes no) where
 mono:=fun r h=>by unfold minusP;rw[is_bad h,if_neg (fun e=>by cases e.1)];exact hn.mono r h
 fine:=fun r _ h=>by
  unfold minusP
  split
  ·rename_i hi
   obtain⟨k1,k2,k3⟩:=hy.fine (nextR r) (id (is_ok (r:=r) hi.1)) (h.next (is_ok hi.1) (kind6 hi.1))
   exact⟨k1,k2,Nat.le_trans k3 (next_le r)⟩
  ·exact hn.fine r trivial h
 simA:=fun r r' h=>by
  unfold minusP
  rw[← simA_is h [45],← simA_behind h]
  split
  ·exact hy.simA _ _ (simA_next h)
  ·exact hn.simA _ _ h
 simB:=fun hb dl T r r' hT h h0=>by
  unfold minusP at h0 ⊢
  have e1:=simB_is (t:=[45]) hT h (by decide) (by decide)
  by_cases hi:isR [45] r=true
  ·rcases simB_cases hT h with⟨k1,_⟩ | ⟨_,_,k3,k4⟩
   ·exact absurd k1 (kind6 hi)
   ·have hi':isR [45] r'=true:=by rw[← e1];exact hi
    by_cases hk:(behindR r).k=3
    ·have c1 : ¬(isR [45] r=true∧(behindR r).k≠3):=fun e=>e.2 hk
     have c2 : ¬(isR [45] r'=true∧(behindR r').k≠3):=fun e=>e.2 (k4.1 hk)
     rw[if_neg c1] at h0
     rw[if_neg c1,if_neg c2]
     exact hn.simB hb dl T _ _ hT h h0
    ·have c1:isR [45] r=true∧(behindR r).k≠3:=⟨hi,hk⟩
     have c2:isR [45] r'=true∧(behindR r').k≠3:=⟨hi',fun e=>hk (k4.2 e)⟩
     rw[if_pos c1] at h0
     rw[if_pos c1,if_pos c2]
     exact hy.simB hb dl T _ _ hT k3 h0
  ·have c1 : ¬(isR [45] r=true∧(behindR r).k≠3):=fun e=>hi e.1
   have c2 : ¬(isR [45] r'=true∧(behindR r').k≠3):=fun e=>hi (by rw[e1];exact e.1)
   rw[if_neg c1] at h0
   rw[if_neg c1,if_neg c2]
   exact hn.simB hb dl T _ _ hT h h0
theorem nice_choose {b:Bool} {F:Nat}:∀l:List (List UInt8 × Int),(b=true→∀c∈l,c.1≠[59]∧c.1≠[41])→Nice b F (chooseP l)
 | [],_=>nice_ret _
 | c::l,h=>nice_if c.1 (fun hb=>h hb c (by simp)) (nice_ret _).ok (nice_choose l fun hb x hx=>h hb x (by simp[hx]))
theorem choose_lt : ∀(l:List (List UInt8 × Int)) (r:Rd),(chooseP l r).1≠0→(chooseP l r).2=nextR r∧r.bad=0∧(nextR r).ts.length<r.ts.length
 | [],r,h=>absurd rfl h
 |
  c::l,r,h=>by
  unfold chooseP ifP at h ⊢
  split at h
  ·rename_i hi
   rw[if_pos hi]
   exact⟨rfl,is_ok hi,next_lt (by rcases (is_kind hi).1 with e | e<;>rw[e]<;>decide)⟩
  ·rename_i hi
   rw[if_neg hi]
   exact choose_lt l r h
theorem choose_none : ∀(l:List (List UInt8 × Int)) (r:Rd),(∀c∈l,c.2≠0)→(chooseP l r).1=0→(chooseP l r).2=r
 | [],r,_,h=>rfl
 |
  c::l,r,hl,h=>by
  unfold chooseP ifP at h ⊢
  split at h
  ·exact absurd h (hl c (by simp))
  ·rename_i hi
   rw[if_neg hi]
   exact choose_none l r (fun x hx=>hl x (by simp[hx])) h
theorem down_bad {r:Rd} (h:r.bad≠0):(downR r).bad=r.bad∧(downR r).bp=r.bp:=by
 unfold downR
 split
 ·rw[fail_bad (show ({ r with d:=r.d+1 }:Rd).bad≠0 from h)];exact⟨rfl,rfl⟩
 ·exact⟨rfl,rfl⟩
theorem nice_deep {b:Bool} {F:Nat} {α:Type} {p:Pa α} (hp:Nice b F p):NiceOk b F (deepP p) where
 mono:=fun r h=>by
  obtain⟨d1,d2⟩:=down_bad h
  obtain⟨k1,k2⟩:=hp.mono _ (show (downR r).bad≠0 by rw[d1];exact h)
  exact⟨k1.trans d1,k2.trans d2⟩
 fine:=fun r hb h=>by
  have h2:=h.d2 hb
  have h0:=h.d0
  have hG:Good F (downR r)∧(downR r).d=r.d+1∧(downR r).ts=r.ts:=by
   unfold downR
   split
   ·rename_i h10
    obtain⟨t1,t2⟩:=fail_ts ({ r with d:=r.d+1 }:Rd) 10
    have hf:=fail_ok (r:=({ r with d:=r.d+1 }:Rd)) hb 10
    refine ⟨⟨fun e=>absurd (hf.symm.trans e) (by decide),by rw[t2];show 0≤r.d+1;omega,by rw[t2];show r.d+1≤11;omega,fun e=>absurd (hf.symm.trans e) (by decide),by rw[t1];exact h.nums,by rw[t1];exact h.many⟩,t2,t1⟩
   ·exact⟨⟨h.last,by show 0≤r.d+1;omega,by show r.d+1≤11;omega,fun _=>by show r.d+1≤10;omega,h.nums,h.many⟩,rfl,rfl⟩
  obtain⟨hG,hd,ht⟩:=hG
  obtain⟨k1,k2,k3⟩:=hp.fine _ trivial hG
  have hd':(p (downR r)).2.d=r.d+1:=k2.trans hd
  refine ⟨⟨k1.last,by show 0≤(p (downR r)).2.d-1;omega,by show (p (downR r)).2.d-1≤11;omega,fun _=>by show (p (downR r)).2.d-1≤10;omega,k1.nums,k1.many⟩,by show (p (downR r)).2.d-1=r.d;omega,by show (p (downR r)).2.ts.length≤_;rw[ht] at k3;exact k3⟩
 simA:=fun r r' h=>by
  have hs:SimA (downR r) (downR r'):=by
   unfold downR
   rw[h.2.1]
   have h1:SimA ({ r with d:=r'.d+1 }:Rd) ({ r' with d:=r'.d+1 }:Rd):=⟨h.1,rfl,h.2.2⟩
   split
   ·exact simA_fail h1 10
   ·exact h1
  obtain⟨k1,k2⟩:=hp.simA _ _ hs
  exact⟨k1,k2.1,by show (p (downR r)).2.d-1=(p (downR r')).2.d-1;rw[k2.2.1],k2.2.2⟩
 simB:=fun hb dl T r r' hT h h0=>by
  have h0':(p (downR r)).2.bad=0:=h0
  obtain⟨L,e,L',h1,h2,h3,h4,h5,h6,h7,h8⟩:=id h
  by_cases hd:10<r.d+1
  ·have hB:(downR r).bad=10:=by unfold downR;rw[if_pos hd];exact fail_ok (r:=({ r with d:=r.d+1 }:Rd)) h7 10
   have:=hp.mono _ (show (downR r).bad≠0 by rw[hB];decide)
   rw[this.1.symm.trans h0'] at hB
   exact absurd hB (by decide)
  ·by_cases hd':10<r'.d+1
   ·have hB:(downR r').bad=10:=by unfold downR;rw[if_pos hd'];exact fail_ok (r:=({ r' with d:=r'.d+1 }:Rd)) h8 10
    have:=hp.mono _ (show (downR r').bad≠0 by rw[hB];decide)
    exact .inl ⟨by show (p (downR r')).2.bad=10;rw[this.1,hB],by omega⟩
   ·have e1:downR r = { r with d:=r.d+1 }:=if_neg hd
    have e2:downR r' = { r' with d:=r'.d+1 }:=if_neg hd'
    have hs:SimB dl T (downR r) (downR r'):=by
     rw[e1,e2]
     exact⟨L,e,L',h1,h2,h3,h4,h5,by show r'.d+1=r.d+1+dl;omega,h7,h8⟩
    rcases hp.simB hb dl T _ _ hT hs h0' with⟨k1,k2⟩ | ⟨k1,L,e,L',k2,k3,k4,k5,k6,k7,k8,k9⟩
    ·exact .inl ⟨k1,k2⟩
    ·exact .inr ⟨k1,L,e,L',k2,k3,k4,k5,k6,by show (p (downR r')).2.d-1=(p (downR r)).2.d-1+dl;omega,k8,k9⟩
def listL {α:Type} (one:Pa α) (more:Pa Bool):Nat→List α→Pa (List α)
 | 0,_=>bindP (failP 2) fun _=>retP []
 | m+1,acc=>bindP one fun x=>bindP more fun b=>if b=true then listL one more m (acc++[x]) else retP (acc++[x])
theorem nice_list {b:Bool} {F:Nat} {α:Type} {one:Pa α} {more:Pa Bool} (h1:Nice b F one) (h2:Nice b F more):∀(m:Nat) (acc:List α),Nice b F (listL one more m acc)
 | 0,_=>(nice_fail 2 (by decide)).bind fun _=>nice_ret _
 |
  m+1,acc=>h1.bind fun x=>h2.bind fun b=>by
  split
  ·exact nice_list h1 h2 m _
  ·exact nice_ret _
end Go.Proofs.YtaaggohjmhifbaaGreatDoor
