/- Packed for the hand-in: WGive -/
import Derived.Test.YtaaggohjmhifbaaGreatDoorZ24
import Derived.Test.YtaaggohjmhifbaaGreatDoorZ43
namespace Go.Proofs.YtaaggohjmhifbaaGreatDoor
set_option linter.unusedSimpArgs false
set_option linter.unusedVariables false
set_option maxHeartbeats 8000000
def Md (t:Tk):Prop:=(t.k=1→bL t.s=true)∧(t.k=4→t.s.length≤40)∧0≤t.n∧t.n≤9223372036854775807
def C8 (r:Rd):Prop:=∀t∈r.ts,Md t
structure fE (N:Nat) {α:Type} (p:Pa α) (Q:α→Nat→Prop):Prop where
 mono : ∀r,r.bad≠0→(p r).2.bad≠0
 giv : ∀r,C8 r→r.d≤10→12≤r.d+(N:Int)→(p r).2.bad=0→C8 (p r).2∧(p r).2.d=r.d∧∃n,(p r).2.ts.length+n≤r.ts.length∧Q (p r).1 n
variable {N : Nat}
theorem bB {α:Type} (a:α) {Q:α→Nat→Prop} (h:Q a 0):fE N (bg a) Q:=⟨fun r h=>h,fun r hr _ _ _=>⟨hr,rfl,0,Nat.le_refl _,h⟩⟩
theorem fE.bind {α β:Type} {p:Pa α} {q:α→Pa β} {Q:α→Nat→Prop} {R:β→Nat→Prop} (hp:fE N p Q) (hq : ∀a n,Q a n→fE N (q a) (fun b m=>R b (n+m))) (hm : ∀a r,r.bad≠0→(q a r).2.bad≠0):fE N (aF p q) R:=by
 refine ⟨fun r h=>hm _ _ (hp.mono r h),fun r hr hd hN hb=>?_⟩
 have hb1:(p r).2.bad=0:=by
  by_cases e:(p r).2.bad=0
  ·exact e
  ·exact absurd hb (hm _ _ e)
 obtain⟨h1,hd1,n,h2,h3⟩:=hp.giv r hr hd hN hb1
 obtain⟨h4,hd2,m,h5,h6⟩:=(hq _ _ h3).giv _ h1 (by omega) (by omega) hb
 exact⟨h4,hd2.trans hd1,n+m,by show (q (p r).1 (p r).2).2.ts.length+(n+m)≤_;omega,h6⟩
theorem fE.mp {α:Type} {p:Pa α} {Q R:α→Nat→Prop} (h:fE N p Q) (hr : ∀a n,Q a n→R a n):fE N p R :=
 ⟨h.mono,fun r h1 ha hb h2=>by obtain⟨h3,hd,n,h4,h5⟩:=h.giv r h1 ha hb h2;exact⟨h3,hd,n,h4,hr _ _ h5⟩⟩
theorem jP {α:Type} {p:Pa α} {F:Nat} (h:bE false F p):∀r,r.bad≠0→(p r).2.bad≠0:=fun r hr=>by rw[(h.mono r hr).1];exact hr
theorem Dq {t:List UInt8} {r:Rd} (h:dX t r=true):r.bad=0∧∃x l,r.ts=x::l∧jk x t=true:=by
 have hb:=j4 h
 refine ⟨hb,?_⟩
 cases ht:r.ts with
 | nil=>unfold dX bH at h;rw[if_pos hb,ht] at h;exact absurd (show false=true from h) Bool.false_ne_true
 | cons x l=>unfold dX bH at h;rw[if_pos hb,ht] at h;exact⟨x,l,rfl,h⟩
theorem iF {α:Type} {t:List UInt8} {y m:Pa α} {Q:α→Nat→Prop} (hy:fE N y (fun a n=>Q a (n+1))) (hm:fE N m Q):fE N (gV t y m) Q:=by
 refine ⟨fun r h=>?_,fun r hr hd hN hb=>?_⟩
 ·unfold gV
  rw[if_neg (by rw[qA h];exact Bool.false_ne_true)]
  exact hm.mono r h
 ·unfold gV at hb ⊢
  by_cases hi:dX t r=true
  ·rw[if_pos hi] at hb ⊢
   obtain⟨_,x,l,hx,_⟩:=Dq hi
   have hn:(nextR r).ts=l:=by unfold nextR;rw[hx];rfl
   obtain⟨h1,hd1,n,h2,h3⟩:=hy.giv (nextR r) (fun u hu=>hr u (by rw[hn] at hu;rw[hx];simp[hu])) hd hN hb
   rw[hn] at h2
   exact⟨h1,hd1,n+1,by rw[hx];simp;omega,h3⟩
  ·rw[if_neg hi] at hb ⊢
   exact hm.giv r hr hd hN hb
theorem ow {e:Int} (he:e≠0) {Q:Unit→Nat→Prop}:fE N (iU e) Q:=by
 refine ⟨fun r h=>by show (dG e r).bad≠0;rw[gy h];exact h,fun r hr hd hN hb=>?_⟩
 exfalso
 have hb:(dG e r).bad=0:=hb
 by_cases h0:r.bad=0
 ·rw[gN h0] at hb;exact he hb
 ·rw[gy h0] at hb;exact h0 hb
theorem dL {t:List UInt8}:fE N (dB t) (fun _ _=>True):=iF (bB () trivial) (ow (by decide))
theorem Ch {r:Rd} {k:Int} (hk:k≠0) (h:(bH r).k=k):r.bad=0∧∃l,r.ts=bH r::l:=by
 by_cases hb:r.bad=0
 ·refine ⟨hb,?_⟩
  unfold bH at h ⊢
  rw[if_pos hb] at h ⊢
  cases ht:r.ts with
  | nil=>rw[ht] at h;exact absurd h.symm hk
  | cons x l=>exact⟨l,rfl⟩
 ·rw[jy hb] at h;exact absurd h.symm hk
theorem gT:fE N nameP (fun s n=>bL s=true∧1≤n):=by
 refine ⟨jP (F:=0) bD,fun r hr hd hN hb=>?_⟩
 unfold nameP at hb ⊢
 by_cases hk:(bH r).k=1
 ·rw[if_pos hk] at hb ⊢
  obtain⟨_,l,hl⟩:=Ch (by decide) hk
  have hm:bH r∈r.ts:=by rw[hl];simp
  exact⟨fun u hu=>hr u (List.mem_of_mem_tail hu),rfl,1,by show r.ts.tail.length+1≤_;rw[hl];simp,(hr _ hm).1 hk,Nat.le_refl _⟩
 ·rw[if_neg hk] at hb
  by_cases h0:r.bad=0
  ·rw[gN h0] at hb;cases hb
  ·rw[gy h0] at hb;exact absurd hb h0
theorem yE:fE N ji (fun n m=>(0≤n∧n≤9223372036854775807)∧1≤m):=by
 refine ⟨jP (F:=0) lC,fun r hr hd hN hb=>?_⟩
 unfold ji at hb ⊢
 by_cases hk:(bH r).k=3
 ·rw[if_pos hk] at hb ⊢
  obtain⟨_,l,hl⟩:=Ch (by decide) hk
  have hm:bH r∈r.ts:=by rw[hl];simp
  exact⟨fun u hu=>hr u (List.mem_of_mem_tail hu),rfl,1,by show r.ts.tail.length+1≤_;rw[hl];simp,(hr _ hm).2.2,Nat.le_refl _⟩
 ·rw[if_neg hk] at hb
  by_cases h0:r.bad=0
  ·rw[gN h0] at hb;cases hb
  ·rw[gy h0] at hb;exact absurd hb h0
theorem Ia:fE N rC (fun o n=>∀s,o=some s→s.length≤40∧1≤n):=by
 refine ⟨jP (F:=0) wS,fun r hr hd hN hb=>?_⟩
 unfold rC at hb ⊢
 by_cases hk:(bH r).k=4
 ·rw[if_pos hk] at hb ⊢
  obtain⟨_,l,hl⟩:=Ch (by decide) hk
  have hm:bH r∈r.ts:=by rw[hl];simp
  exact⟨fun u hu=>hr u (List.mem_of_mem_tail hu),rfl,1,by show r.ts.tail.length+1≤_;rw[hl];simp,fun s hs=>by cases hs;exact⟨(hr _ hm).2.1 hk,Nat.le_refl _⟩⟩
 ·rw[if_neg hk] at hb ⊢
  exact⟨hr,rfl,0,Nat.le_refl _,fun s hs=>by cases hs⟩
theorem fQ : ∀ops:List (List UInt8 × Int),fE N (aK ops) (fun o n=>o=0∨(o∈ops.map Prod.snd∧1≤n))
 | []=>bB _ (.inl rfl)
 | c
  :: ops=>iF (bB _ (.inr ⟨by simp,Nat.le_refl _⟩)) ((fQ ops).mp fun o n h=>by
  rcases h with h | ⟨h,hn⟩
  ·exact .inl h
  ·exact .inr ⟨by simp only[List.map_cons,List.mem_cons];exact .inr h,hn⟩)
def jH (e:Ex) (n:Nat):Prop:=aP e=true∧rQ e≤n
theorem vR {e:Ex} {n:Nat} (h:jH e n):∃t:Tm,t.ok∧t.ex=e∧t.sz≤n:=by
 obtain⟨h1,h2⟩:=lS h.1
 exact⟨p8 e,h1,h2,h.2⟩
theorem qo {t:Tm} (h:t.ok) {n:Nat} (hn:t.sz≤n):jH t.ex n:=⟨Gr t h,by unfold rQ;rw[F3 t h];exact hn⟩
theorem CO {o:Int} (h1:1≤o) (h2:o≤13) {a b:Ex} {n m k:Nat} (ha:jH a n) (hb:jH b m) (hk:n+m+1≤k):jH (mJ o a b) k:=by
 obtain⟨ta,oa,ea,sa⟩:=vR ha
 obtain⟨tb,ob,eb,sb⟩:=vR hb
 have:=qo (t:=.op o ta tb) ⟨h1,h2,oa,ob⟩ (n:=k) (by show ta.sz+tb.sz+1≤k;omega)
 rw[← ea,← eb]
 exact this
theorem Iw {a:Ex} {n k:Nat} (ha:jH a n) (hk:n+1≤k):jH (fT 5 a) k:=by
 obtain⟨ta,oa,ea,sa⟩:=vR ha
 rw[← ea]
 exact qo (t:=.neg ta) oa (by show ta.sz+1≤k;omega)
theorem Da {a:Ex} {n k:Nat} (ha:jH a n) (hk:n+1≤k):jH (fT 6 a) k:=by
 obtain⟨ta,oa,ea,sa⟩:=vR ha
 rw[← ea]
 exact qo (t:=.nul ta) oa (by show ta.sz+1≤k;omega)
theorem Dn {a:Ex} {n k:Nat} (ha:jH a n) (hk:n+1≤k):jH (fT 4 a) k:=by
 obtain⟨ta,oa,ea,sa⟩:=vR ha
 rw[← ea]
 cases hN:ta.zX with
 | false=>exact qo (t:=.not ta) ⟨hN,oa⟩ (by show ta.sz+1≤k;omega)
 |
  true =>
  cases ta with
  | nul x=>exact qo (t:=.nnul x) oa (by show x.sz+2≤k;have:x.sz+1≤n:=sa;omega)
  | _=>cases hN
theorem wI {n:Int} (h1 : -9223372036854775807≤n) (h2:n≤9223372036854775807):gG ⟨1,n,[]⟩=true:=by
 unfold gG
 have:jc ⟨1,n,[]⟩=0:=by unfold jc iL;simp[eqv]
 rw[this]
 simp[h1,h2]
theorem Cc {s:List UInt8} (h:s.length≤40):gG ⟨2,0,s⟩=true:=by
 unfold gG
 have:jc ⟨2,0,s⟩=0:=by unfold jc iL;simp[eqv];omega
 rw[this]
 simp
theorem xU:fE N jI (fun v n=>gG v=true∧1≤n):=by
 unfold jI
 refine iF (bB _ ⟨by decide,Nat.le_refl _⟩) (Ia.bind (fun o n ho=>?_) (fun o=>?_))
 ·cases o with
  | some s=>exact bB _ ⟨Cc (ho s rfl).1,by have:=(ho s rfl).2;omega⟩
  | none=>exact iF (yE.bind (fun k m hk=>bB _ ⟨wI (by omega) (by omega),by omega⟩) (fun k r h=>h)) (yE.bind (fun k m hk=>bB _ ⟨wI (by omega) (by omega),by omega⟩) (fun k r h=>h))
 ·cases o with
  | some s=>exact fun r h=>h
  | none=>exact jP (F:=0) (fD _ (fun _=>by decide) (lC.bind fun n=>aA _).ok (lC.bind fun n=>aA _))
theorem xS:fE N fG (fun e n=>jH e n∧fq e=true):=by
 have hc : ∀t s:List UInt8,∀n:Nat,(t=[]∨bL t=true)→bL s=true→1≤n→jH (jK t s) n∧fq (jK t s)=true:=fun t s n h1 h2 hn=>by
  have:=qo (t:=.col t s) ⟨h2,h1⟩ (n:=n) hn
  exact⟨this,by unfold fq;rw[Bool.and_eq_true];exact⟨rfl,this.1⟩⟩
 unfold fG
 refine gT.bind (fun s n hs=>iF (gT.bind (fun t m ht=>bB _ (hc s t _ (.inr hs.1) ht.1 (by omega))) (fun t r h=>h)) (bB _ (hc [] s _ (.inl rfl) hs.1 (by omega)))) (fun s=>jP (F:=0) (fD _ (fun _=>by decide) (bD.bind fun m=>aA _).ok (aA _)))
theorem nS {p:Pa Ex} {Q:Ex→Nat→Prop} (h:fE N p Q):fE (N+1) (gI p) Q:=by
 refine ⟨fun r hr=>?_,fun r hr hd hN hb=>?_⟩
 ·have:(bR r).bad≠0:=by
   unfold bR
   split
   ·rw[gy (show ({ r with d:=r.d+1 }:Rd).bad≠0 from hr)];exact hr
   ·exact hr
  exact h.mono _ this
 ·have hb':(p (bR r)).2.bad=0:=hb
  have hd0:(bR r).bad=0:=by
   by_cases e:(bR r).bad=0
   ·exact e
   ·exact absurd hb' (h.mono _ e)
  have hdn:bR r = { r with d:=r.d+1 }∧r.d+1≤10:=by
   unfold bR at hd0 ⊢
   by_cases h10:10<r.d+1
   ·rw[if_pos h10] at hd0
    exfalso
    by_cases e:r.bad=0
    ·rw[gN (show ({ r with d:=r.d+1 }:Rd).bad=0 from e)] at hd0;cases hd0
    ·rw[gy (show ({ r with d:=r.d+1 }:Rd).bad≠0 from e)] at hd0;exact e hd0
   ·rw[if_neg h10];exact⟨rfl,by omega⟩
  obtain⟨h1,hd1,n,h2,h3⟩:=h.giv (bR r) (fun u hu=>hr u (by rw[hdn.1] at hu;exact hu)) (by rw[hdn.1];exact hdn.2) (by rw[hdn.1];show 12≤r.d+1+(N:Int);omega) hb'
  rw[hdn.1] at hd1 h2
  refine ⟨h1,?_,n,?_,h3⟩
  ·show (p (bR r)).2.d-1=r.d
   rw[hdn.1,hd1]
   show r.d+1-1=r.d
   omega
  ·show (p (bR r)).2.ts.length+n≤_
   rw[hdn.1]
   exact h2
theorem wK {α:Type} {y m:Pa α} {Q:α→Nat→Prop} (hy:fE N y (fun a n=>Q a (n+1))) (hm:fE N m Q):fE N (iR y m) Q:=by
 refine ⟨fun r h=>?_,fun r hr hd hN hb=>?_⟩
 ·unfold iR
  rw[if_neg (fun hh=>by rw[qA h] at hh;exact Bool.false_ne_true hh.1)]
  exact hm.mono r h
 ·unfold iR at hb ⊢
  by_cases hi:dX [45] r=true∧(dx r).k≠3
  ·rw[if_pos hi] at hb ⊢
   obtain⟨_,x,l,hx,_⟩:=Dq hi.1
   have hn:(nextR r).ts=l:=by unfold nextR;rw[hx];rfl
   obtain⟨h1,hd1,n,h2,h3⟩:=hy.giv (nextR r) (fun u hu=>hr u (by rw[hn] at hu;rw[hx];simp[hu])) hd hN hb
   rw[hn] at h2
   exact⟨h1,hd1,n+1,by rw[hx];simp;omega,h3⟩
  ·rw[if_neg hi] at hb ⊢
   exact hm.giv r hr hd hN hb
theorem Br:fE N jW (fun _ _=>True):=⟨fun r h=>h,fun r hr _ _ _=>⟨hr,rfl,0,Nat.le_refl _,trivial⟩⟩
theorem jH.mono {e:Ex} {n m:Nat} (h:jH e n) (hm:n≤m):jH e m:=⟨h.1,Nat.le_trans h.2 hm⟩
theorem JL {v:Vl} (h:gG v=true) {n:Nat} (hn:1≤n):jH (rM v) n:=qo (t:=.val v) h hn
theorem Bz {fc ex:Pa Ex} (h1:fE N fc jH) (h2:fE N ex jH):fE (N+1) (dQ fc ex) jH:=by
 have m1 : ∀(e:Ex) (r:Rd),r.bad≠0→((aF (dB [41]) fun _=>bg e) r).2.bad≠0:=fun e r h=>(dL (N:=N)).mono r h
 unfold dQ
 refine Br.bind (fun b n _=>?_) (fun b=>?_)
 ·split
  ·exact xS.mp fun e m h=>h.1.mono (by omega)
  ·refine wK ((nS h1).bind (fun e m he=>bB _ (Iw he (by omega))) (fun e r h=>h)) (iF ((nS h2).bind (fun e m he=>dL.bind (fun _ k _=>bB _ (he.mono (by omega))) (fun _ r h=>h)) m1) (xU.bind (fun v m hv=>bB _ (JL hv.1 (by omega))) (fun v r h=>h)))
 ·intro r h
  split
  ·exact (xS (N:=N)).mono r h
  ·refine (wK (N:=N+1) (Q:=fun _ _=>True) ((nS h1).bind (fun e m he=>bB _ trivial) (fun e r h=>h)) (iF ((nS h2).bind (fun e m he=>dL.bind (fun _ k _=>bB _ trivial) (fun _ r h=>h)) m1) (xU.bind (fun v m hv=>bB _ trivial) (fun v r h=>h)))).mono r h
theorem vO {below:Pa Ex} {ops:List (List UInt8 × Int)} (h:fE N below jH) (ho : ∀c∈ops,1≤c.2∧c.2≤13):∀(f:Nat) (e:Ex) (k:Nat),jH e k→fE N (jS below ops f e) (fun x n=>jH x (k+n))
 | 0,e,k,he=>bB _ he
 |
  f+1,e,k,he=>by
  have hm : ∀(o:Int) (r:Rd),r.bad≠0→((if o=0 then bg e else aF below fun x=>jS below ops f (mJ o e x)) r).2.bad≠0:=fun o r hr=>by
   split
   ·exact hr
   ·have hl : ∀(f:Nat) (x:Ex) (r:Rd),r.bad≠0→(jS below ops f x r).2.bad≠0:=fun f=>by
     induction f with
     | zero=>intro x r hr;exact hr
     |
      succ f ih =>
      intro x r hr
      show ((if (aK ops r).1=0 then bg x else aF below fun y=>jS below ops f (mJ (aK ops r).1 x y)) (aK ops r).2).2.bad≠0
      have hc:=(fQ (N:=N) ops).mono r hr
      split
      ·exact hc
      ·exact ih _ _ (h.mono _ hc)
    exact hl _ _ _ (h.mono _ hr)
  refine (fQ ops).bind (fun o n hon=>?_) hm
  split
  ·exact bB _ (he.mono (by omega))
  ·rename_i h0
   obtain⟨hmem,hn⟩:=hon.resolve_left h0
   obtain⟨c,hc,rfl⟩:=List.mem_map.1 hmem
   refine h.bind (fun x m hx=>(vO h ho f _ (k+n+m) (CO (ho c hc).1 (ho c hc).2 he hx (by omega))).mp fun y i hy=>hy.mono (by omega)) (fun x r hr=>?_)
   have:=vO h ho f (mJ c.2 e e) (k+k+1) (CO (ho c hc).1 (ho c hc).2 he he (Nat.le_refl _))
   have hl : ∀(f:Nat) (x:Ex) (r:Rd),r.bad≠0→(jS below ops f x r).2.bad≠0:=fun f=>by
    induction f with
    | zero=>intro x r hr;exact hr
    |
     succ f ih =>
     intro x r hr
     show ((if (aK ops r).1=0 then bg x else aF below fun y=>jS below ops f (mJ (aK ops r).1 x y)) (aK ops r).2).2.bad≠0
     have hc:=(fQ (N:=N) ops).mono r hr
     split
     ·exact hc
     ·exact ih _ _ (h.mono _ hc)
   exact hl _ _ _ hr
theorem EX {below:Pa Ex} {ops:List (List UInt8 × Int)} (h:fE N below jH):∀(f:Nat) (x:Ex) (r:Rd),r.bad≠0→(jS below ops f x r).2.bad≠0:=fun f=>by
 induction f with
 | zero=>intro x r hr;exact hr
 |
  succ f ih =>
  intro x r hr
  show ((if (aK ops r).1=0 then bg x else aF below fun y=>jS below ops f (mJ (aK ops r).1 x y)) (aK ops r).2).2.bad≠0
  have hc:=(fQ (N:=N) ops).mono r hr
  split
  ·exact hc
  ·exact ih _ _ (h.mono _ hc)
theorem uF {below:Pa Ex} {ops:List (List UInt8 × Int)} (h:fE N below jH) (ho : ∀c∈ops,1≤c.2∧c.2≤13) (f:Nat):fE N (rowP f below ops) jH :=
 h.bind (fun e n he=>vO h ho f e n he) (fun e=>EX h f e)
theorem GK {e:Ex} {n:Nat} (he:jH e n):fE N (qb e) (fun x m=>jH x (n+1+m)):=by
 unfold qb fI
 refine fE.bind (Q:=fun b m=>b=true→1≤m) (iF (bB _ (fun _=>Nat.le_refl _)) (bB _ (fun h=>by cases h))) (fun b m hb=>dL.bind (fun _ k _=>bB _ ?_) (fun _ r h=>h)) (fun b r h=>(dL (N:=N)).mono r h)
 split
 ·rename_i hb1
  exact Dn (Da he (Nat.le_refl _)) (by have:=hb hb1;omega)
 ·exact (Da he (Nat.le_refl _)).mono (by omega)
theorem FR {sum:Pa Ex} (h:fE N sum jH):fE N (iP sum) jH:=by
 unfold iP
 have hmC : ∀(e:Ex) (o:Int) (r:Rd),r.bad≠0→((if o=0 then bg e else aF sum fun x=>bg (mJ o e x)) r).2.bad≠0:=fun e o r hr=>by
  split
  ·exact hr
  ·exact h.mono r hr
 refine h.bind (fun e n he=>iF ((GK he).mp fun x m hx=>hx.mono (by omega)) ((fQ oI).bind (fun o m ho=>?_) (hmC e))) (fun e r hr=>?_)
 ·split
  ·exact bB _ (he.mono (by omega))
  ·rename_i h0
   obtain⟨hmem,hn⟩:=ho.resolve_left h0
   have ho13 : ∀x∈oI.map Prod.snd,1≤x∧x≤13:=by decide
   exact h.bind (fun x k hx=>bB _ (CO (ho13 _ hmem).1 (ho13 _ hmem).2 he hx (by omega))) (fun x r h=>h)
 ·show ((gV [73,83] (qb e) _) r).2.bad≠0
  unfold gV
  rw[if_neg (by rw[qA hr];exact Bool.false_ne_true)]
  exact hmC e _ _ ((fQ (N:=N) oI).mono r hr)
theorem IJ {nt test:Pa Ex} (h1:fE N nt jH) (h2:fE (N+1) test jH):fE (N+1) (notP nt test) jH :=
 iF ((nS h1).bind (fun e n he=>bB _ (Dn he (by omega))) (fun e r h=>h)) h2
theorem Gt {F:Nat} {L:Lv} (h1:fE N L.nt jH) (h2:fE N L.fc jH) (h3:fE N L.ex jH):fE (N+1) (Il F L) jH∧fE (N+1) (dQ L.fc L.ex) jH∧fE (N+1) (Db F L) jH:=by
 have f:=Bz h2 h3
 have t:=uF f (ops:=qR) (by decide) F
 have s:=uF t (ops:=rJ) (by decide) F
 have n:=IJ h1 (FR s)
 have a:=uF n (ops:=rE) (by decide) F
 have e:=uF a (ops:=yL) (by decide) F
 exact⟨n,f,e⟩
theorem DC (F:Nat):∀n,fE n (mE F n).nt jH∧fE n (mE F n).fc jH∧fE n (mE F n).ex jH
 |
  0=>by
  have h:fE 0 (bg Dr) jH:=⟨fun r h=>h,fun r hr hd hN hb=>by exfalso;have:(12:Int)≤r.d+((0:Nat):Int):=hN;omega⟩
  exact⟨h,h,h⟩
 |
  n+1=>by
  obtain⟨h1,h2,h3⟩:=DC F n
  exact Gt h1 h2 h3
theorem Fz (F:Nat):fE 12 (dU F) jH:=(DC F 12).2.2
theorem FB {s:List UInt8} {t:Tk} {n:Nat} (h:gY s=(0,t,n)) (hk:t.k=1):bL t.s=true:=by
 match s,h with
 | [],h=>simp[gY] at h
 |
  c::r,h =>
  unfold gY at h
  dsimp only at h
  by_cases hl:cZ iD c=true
  ·rw[if_pos hl] at h
   unfold iH at h
   split at h
   ·cases h
   ·split at h
    ·cases h
    ·rename_i g1 g2
     cases h
     have h1:=zR (cZ dM) (c::r)
     have hc:cZ dM c=true:=vN hl
     have hpos:1≤row (cZ dM) (c::r):=by rw[gM hc];omega
     have hle:=mq (cZ dM) (c::r)
     show bL ((c::r).take (row (cZ dM) (c::r)))=true
     have hlen:((c::r).take (row (cZ dM) (c::r))).length=row (cZ dM) (c::r):=by rw[List.length_take];omega
     unfold bL
     rw[hlen,decide_eq_true (show 0<row (cZ dM) (c::r) by omega),decide_eq_true (show row (cZ dM) (c::r)≤16 by omega)]
     have hhd:((c::r).take (row (cZ dM) (c::r))).headD 0=c:=by
      obtain⟨j,hj⟩:∃j,row (cZ dM) (c::r)=j+1:=⟨row (cZ dM) (c::r)-1,by omega⟩
      rw[hj];rfl
     rw[hhd,hl]
     have hrow:row (cZ dM) ((c::r).take (row (cZ dM) (c::r)))=row (cZ dM) (c::r):=by
      have:=qI (p:=cZ dM) (a:=(c::r).take (row (cZ dM) (c::r))) (x:=[]) (by rw[h1];exact p9 _ _) (Dt _)
      rw[List.append_nil] at this
      rw[this,hlen]
     rw[hrow]
     simp
  ·rw[if_neg hl] at h
   exfalso
   by_cases hu:cZ jm c=true
   ·rw[if_pos hu] at h
    unfold iW at h
    split at h
    ·cases h
    ·split at h
     ·cases h
     ·cases h;exact absurd (show (2:Int)=1 from hk) (by decide)
   ·rw[if_neg hu] at h
    by_cases hd:cZ dD c=true
    ·rw[if_pos hd] at h
     unfold jF at h
     split at h
     ·cases h
     ·unfold FJ at h
      split at h
      ·cases h;exact absurd (show (3:Int)=1 from hk) (by decide)
      ·cases h
    ·rw[if_neg hd] at h
     by_cases hq:cZ [39] c=true
     ·rw[if_pos hq] at h
      unfold iM oz at h
      split at h
      ·cases h
      ·split at h
       ·cases h
       ·cases h;exact absurd (show (4:Int)=1 from hk) (by decide)
     ·rw[if_neg hq,sign_eq] at h
      have:=(qD h).2.1
      omega
theorem EC (s:List UInt8):C8 (dV s):=by
 intro t ht
 have ht:t∈(tokens s).2.2:=ht
 by_cases h0:(tokens s).1=0
 ·obtain⟨_,_,L,hL,_,hg⟩:=zM h0
  rw[hL] at ht
  rcases List.mem_append.1 ht with ht | ht
  ·have hgt:=hg t ht
   refine ⟨fun hk=>?_,fun _=>hgt.len,hgt.n0,hgt.n1⟩
   have hw:wr t=t.s:=by unfold wr;rw[if_neg (by omega),if_neg (by omega)]
   have hc:=hgt.ct [] (.inl rfl)
   have:=FB hc hk
   exact this
  ·rw[List.mem_singleton] at ht
   subst ht
   exact⟨fun h=>absurd (show (6:Int)=1 from h) (by decide),fun h=>absurd (show (6:Int)=4 from h) (by decide),Int.le_refl _,show (0:Int)≤9223372036854775807 by decide⟩
 ·rw[Cu h0] at ht;cases ht
end Go.Proofs.YtaaggohjmhifbaaGreatDoor
