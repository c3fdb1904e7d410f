/- Packed for the hand-in: WGive -/
import Derived.Test.YtaaggohjmhifbaaGreatDoorY22
import Derived.Test.YtaaggohjmhifbaaGreatDoorY34
namespace Go.Proofs.YtaaggohjmhifbaaGreatDoor
set_option linter.unusedSimpArgs false
set_option linter.unusedVariables false
set_option maxHeartbeats 8000000
def Lm (t:Tk):Prop:=(t.k=1→aQ t.s=true)∧(t.k=4→t.s.length≤40)∧0≤t.n∧t.n≤9223372036854775807
def Ct (r:Rd):Prop:=∀t∈r.ts,Lm t
structure eZ (N:Nat) {α:Type} (p:Pa α) (Q:α→Nat→Prop):Prop where
 mono : ∀r,r.bad≠0→(p r).2.bad≠0
 giv : ∀r,Ct r→r.d≤10→12≤r.d+(N:Int)→(p r).2.bad=0→Ct (p r).2∧(p r).2.d=r.d∧∃n,(p r).2.ts.length+n≤r.ts.length∧Q (p r).1 n
variable {N : Nat}
theorem aV {α:Type} (a:α) {Q:α→Nat→Prop} (h:Q a 0):eZ N (aT a) Q:=⟨fun r h=>h,fun r hr _ _ _=>⟨hr,rfl,0,Nat.le_refl _,h⟩⟩
theorem eZ.bind {α β:Type} {p:Pa α} {q:α→Pa β} {Q:α→Nat→Prop} {R:β→Nat→Prop} (hp:eZ N p Q) (hq : ∀a n,Q a n→eZ N (q a) (fun b m=>R b (n+m))) (hm : ∀a r,r.bad≠0→(q a r).2.bad≠0):eZ N (aB p q) R:=by
 refine ⟨fun r h=>hm _ _ (hp.mono r h),fun r hr hd hN hb=>?_⟩
 have hb1:(p r).2.bad=0:=by
  by_cases e:(p r).2.bad=0
  ·exact e
  ·exact absurd hb (hm _ _ e)
 obtain⟨h1,hd1,n,h2,h3⟩:=hp.giv r hr hd hN hb1
 obtain⟨h4,hd2,m,h5,h6⟩:=(hq _ _ h3).giv _ h1 (by omega) (by omega) hb
 exact⟨h4,hd2.trans hd1,n+m,by show (q (p r).1 (p r).2).2.ts.length+(n+m)≤_;omega,h6⟩
theorem eZ.mp {α:Type} {p:Pa α} {Q R:α→Nat→Prop} (h:eZ N p Q) (hr : ∀a n,Q a n→R a n):eZ N p R :=
 ⟨h.mono,fun r h1 ha hb h2=>by obtain⟨h3,hd,n,h4,h5⟩:=h.giv r h1 ha hb h2;exact⟨h3,hd,n,h4,hr _ _ h5⟩⟩
theorem jA {α:Type} {p:Pa α} {F:Nat} (h:bf false F p):∀r,r.bad≠0→(p r).2.bad≠0:=fun r hr=>by rw[(h.mono r hr).1];exact hr
theorem CJ {t:List UInt8} {r:Rd} (h:dK t r=true):r.bad=0∧∃x l,r.ts=x::l∧iU x t=true:=by
 have hb:=jO h
 refine ⟨hb,?_⟩
 cases ht:r.ts with
 | nil=>unfold dK bq at h;rw[if_pos hb,ht] at h;exact absurd (show false=true from h) Bool.false_ne_true
 | cons x l=>unfold dK bq at h;rw[if_pos hb,ht] at h;exact⟨x,l,rfl,h⟩
theorem gW {α:Type} {t:List UInt8} {y m:Pa α} {Q:α→Nat→Prop} (hy:eZ N y (fun a n=>Q a (n+1))) (hm:eZ N m Q):eZ N (gI t y m) Q:=by
 refine ⟨fun r h=>?_,fun r hr hd hN hb=>?_⟩
 ·unfold gI
  rw[if_neg (by rw[pR h];exact Bool.false_ne_true)]
  exact hm.mono r h
 ·unfold gI at hb ⊢
  by_cases hi:dK t r=true
  ·rw[if_pos hi] at hb ⊢
   obtain⟨_,x,l,hx,_⟩:=CJ hi
   have hn:(nextR r).ts=l:=by unfold nextR;rw[hx];rfl
   obtain⟨h1,hd1,n,h2,h3⟩:=hy.giv (nextR r) (fun u hu=>hr u (by rw[hn] at hu;rw[hx];simp[hu])) hd hN hb
   rw[hn] at h2
   exact⟨h1,hd1,n+1,by rw[hx];simp;omega,h3⟩
  ·rw[if_neg hi] at hb ⊢
   exact hm.giv r hr hd hN hb
theorem nV {e:Int} (he:e≠0) {Q:Unit→Nat→Prop}:eZ N (iF e) Q:=by
 refine ⟨fun r h=>by show (dh e r).bad≠0;rw[fP h];exact h,fun r hr hd hN hb=>?_⟩
 exfalso
 have hb:(dh e r).bad=0:=hb
 by_cases h0:r.bad=0
 ·rw[fZ h0] at hb;exact he hb
 ·rw[fP h0] at hb;exact h0 hb
theorem dA {t:List UInt8}:eZ N (cK t) (fun _ _=>True):=gW (aV () trivial) (nV (by decide))
theorem BR {r:Rd} {k:Int} (hk:k≠0) (h:(bq r).k=k):r.bad=0∧∃l,r.ts=bq r::l:=by
 by_cases hb:r.bad=0
 ·refine ⟨hb,?_⟩
  unfold bq at h ⊢
  rw[if_pos hb] at h ⊢
  cases ht:r.ts with
  | nil=>rw[ht] at h;exact absurd h.symm hk
  | cons x l=>exact⟨l,rfl⟩
 ·rw[iV hb] at h;exact absurd h.symm hk
theorem gy:eZ N nameP (fun s n=>aQ s=true∧1≤n):=by
 refine ⟨jA (F:=0) aZ,fun r hr hd hN hb=>?_⟩
 unfold nameP at hb ⊢
 by_cases hk:(bq r).k=1
 ·rw[if_pos hk] at hb ⊢
  obtain⟨_,l,hl⟩:=BR (by decide) hk
  have hm:bq r∈r.ts:=by rw[hl];simp
  exact⟨fun u hu=>hr u (List.mem_of_mem_tail hu),rfl,1,by show r.ts.tail.length+1≤_;rw[hl];simp,(hr _ hm).1 hk,Nat.le_refl _⟩
 ·rw[if_neg hk] at hb
  by_cases h0:r.bad=0
  ·rw[fZ h0] at hb;cases hb
  ·rw[fP h0] at hb;exact absurd hb h0
theorem xS:eZ N iT (fun n m=>(0≤n∧n≤9223372036854775807)∧1≤m):=by
 refine ⟨jA (F:=0) j6,fun r hr hd hN hb=>?_⟩
 unfold iT at hb ⊢
 by_cases hk:(bq r).k=3
 ·rw[if_pos hk] at hb ⊢
  obtain⟨_,l,hl⟩:=BR (by decide) hk
  have hm:bq r∈r.ts:=by rw[hl];simp
  exact⟨fun u hu=>hr u (List.mem_of_mem_tail hu),rfl,1,by show r.ts.tail.length+1≤_;rw[hl];simp,(hr _ hm).2.2,Nat.le_refl _⟩
 ·rw[if_neg hk] at hb
  by_cases h0:r.bad=0
  ·rw[fZ h0] at hb;cases hb
  ·rw[fP h0] at hb;exact absurd hb h0
theorem GQ:eZ N qy (fun o n=>∀s,o=some s→s.length≤40∧1≤n):=by
 refine ⟨jA (F:=0) vW,fun r hr hd hN hb=>?_⟩
 unfold qy at hb ⊢
 by_cases hk:(bq r).k=4
 ·rw[if_pos hk] at hb ⊢
  obtain⟨_,l,hl⟩:=BR (by decide) hk
  have hm:bq r∈r.ts:=by rw[hl];simp
  exact⟨fun u hu=>hr u (List.mem_of_mem_tail hu),rfl,1,by show r.ts.tail.length+1≤_;rw[hl];simp,fun s hs=>by cases hs;exact⟨(hr _ hm).2.1 hk,Nat.le_refl _⟩⟩
 ·rw[if_neg hk] at hb ⊢
  exact⟨hr,rfl,0,Nat.le_refl _,fun s hs=>by cases hs⟩
theorem fF : ∀ops:List (List UInt8 × Int),eZ N (aF ops) (fun o n=>o=0∨(o∈ops.map Prod.snd∧1≤n))
 | []=>aV _ (.inl rfl)
 | c
  :: ops=>gW (aV _ (.inr ⟨by simp,Nat.le_refl _⟩)) ((fF ops).mp fun o n h=>by
  rcases h with h | ⟨h,hn⟩
  ·exact .inl h
  ·exact .inr ⟨by simp only[List.map_cons,List.mem_cons];exact .inr h,hn⟩)
def jh (e:Ex) (n:Nat):Prop:=aK e=true∧qR e≤n
theorem tV {e:Ex} {n:Nat} (h:jh e n):∃t:Tm,t.ok∧t.ex=e∧t.sz≤n:=by
 obtain⟨h1,h2⟩:=lX h.1
 exact⟨pF e,h1,h2,h.2⟩
theorem pV {t:Tm} (h:t.ok) {n:Nat} (hn:t.sz≤n):jh t.ex n:=⟨FY t h,by unfold qR;rw[F8 t h];exact hn⟩
theorem Br {o:Int} (h1:1≤o) (h2:o≤13) {a b:Ex} {n m k:Nat} (ha:jh a n) (hb:jh b m) (hk:n+m+1≤k):jh (oZ o a b) k:=by
 obtain⟨ta,oa,ea,sa⟩:=tV ha
 obtain⟨tb,ob,eb,sb⟩:=tV hb
 have:=pV (t:=.op o ta tb) ⟨h1,h2,oa,ob⟩ (n:=k) (by show ta.sz+tb.sz+1≤k;omega)
 rw[← ea,← eb]
 exact this
theorem IW {a:Ex} {n k:Nat} (ha:jh a n) (hk:n+1≤k):jh (jE 5 a) k:=by
 obtain⟨ta,oa,ea,sa⟩:=tV ha
 rw[← ea]
 exact pV (t:=.neg ta) oa (by show ta.sz+1≤k;omega)
theorem Cg {a:Ex} {n k:Nat} (ha:jh a n) (hk:n+1≤k):jh (jE 6 a) k:=by
 obtain⟨ta,oa,ea,sa⟩:=tV ha
 rw[← ea]
 exact pV (t:=.nul ta) oa (by show ta.sz+1≤k;omega)
theorem Ch {a:Ex} {n k:Nat} (ha:jh a n) (hk:n+1≤k):jh (jE 4 a) k:=by
 obtain⟨ta,oa,ea,sa⟩:=tV ha
 rw[← ea]
 cases hN:ta.FL with
 | false=>exact pV (t:=.not ta) ⟨hN,oa⟩ (by show ta.sz+1≤k;omega)
 |
  true =>
  cases ta with
  | nul x=>exact pV (t:=.nnul x) oa (by show x.sz+2≤k;have:x.sz+1≤n:=sa;omega)
  | _=>cases hN
theorem wN {n:Int} (h1 : -9223372036854775807≤n) (h2:n≤9223372036854775807):dL ⟨1,n,[]⟩=true:=by
 unfold dL
 have:fV ⟨1,n,[]⟩=0:=by unfold fV kL;simp[eqv]
 rw[this]
 simp[h1,h2]
theorem Aj {s:List UInt8} (h:s.length≤40):dL ⟨2,0,s⟩=true:=by
 unfold dL
 have:fV ⟨2,0,s⟩=0:=by unfold fV kL;simp[eqv];omega
 rw[this]
 simp
theorem wT:eZ N jk (fun v n=>dL v=true∧1≤n):=by
 unfold jk
 refine gW (aV _ ⟨by decide,Nat.le_refl _⟩) (GQ.bind (fun o n ho=>?_) (fun o=>?_))
 ·cases o with
  | some s=>exact aV _ ⟨Aj (ho s rfl).1,by have:=(ho s rfl).2;omega⟩
  | none=>exact gW (xS.bind (fun k m hk=>aV _ ⟨wN (by omega) (by omega),by omega⟩) (fun k r h=>h)) (xS.bind (fun k m hk=>aV _ ⟨wN (by omega) (by omega),by omega⟩) (fun k r h=>h))
 ·cases o with
  | some s=>exact fun r h=>h
  | none=>exact jA (F:=0) (eU _ (fun _=>by decide) (j6.bind fun n=>ay _).ok (j6.bind fun n=>ay _))
theorem xZ:eZ N fq (fun e n=>jh e n∧fJ e=true):=by
 have hc : ∀t s:List UInt8,∀n:Nat,(t=[]∨aQ t=true)→aQ s=true→1≤n→jh (lq t s) n∧fJ (lq t s)=true:=fun t s n h1 h2 hn=>by
  have:=pV (t:=.col t s) ⟨h2,h1⟩ (n:=n) hn
  exact⟨this,by unfold fJ;rw[Bool.and_eq_true];exact⟨rfl,this.1⟩⟩
 unfold fq
 refine gy.bind (fun s n hs=>gW (gy.bind (fun t m ht=>aV _ (hc s t _ (.inr hs.1) ht.1 (by omega))) (fun t r h=>h)) (aV _ (hc [] s _ (.inl rfl) hs.1 (by omega)))) (fun s=>jA (F:=0) (eU _ (fun _=>by decide) (aZ.bind fun m=>ay _).ok (ay _)))
theorem nI {p:Pa Ex} {Q:Ex→Nat→Prop} (h:eZ N p Q):eZ (N+1) (fT p) Q:=by
 refine ⟨fun r hr=>?_,fun r hr hd hN hb=>?_⟩
 ·have:(bJ r).bad≠0:=by
   unfold bJ
   split
   ·rw[fP (show ({ r with d:=r.d+1 }:Rd).bad≠0 from hr)];exact hr
   ·exact hr
  exact h.mono _ this
 ·have hb':(p (bJ r)).2.bad=0:=hb
  have hd0:(bJ r).bad=0:=by
   by_cases e:(bJ r).bad=0
   ·exact e
   ·exact absurd hb' (h.mono _ e)
  have hdn:bJ r = { r with d:=r.d+1 }∧r.d+1≤10:=by
   unfold bJ at hd0 ⊢
   by_cases h10:10<r.d+1
   ·rw[if_pos h10] at hd0
    exfalso
    by_cases e:r.bad=0
    ·rw[fZ (show ({ r with d:=r.d+1 }:Rd).bad=0 from e)] at hd0;cases hd0
    ·rw[fP (show ({ r with d:=r.d+1 }:Rd).bad≠0 from e)] at hd0;exact e hd0
   ·rw[if_neg h10];exact⟨rfl,by omega⟩
  obtain⟨h1,hd1,n,h2,h3⟩:=h.giv (bJ r) (fun u hu=>hr u (by rw[hdn.1] at hu;exact hu)) (by rw[hdn.1];exact hdn.2) (by rw[hdn.1];show 12≤r.d+1+(N:Int);omega) hb'
  rw[hdn.1] at hd1 h2
  refine ⟨h1,?_,n,?_,h3⟩
  ·show (p (bJ r)).2.d-1=r.d
   rw[hdn.1,hd1]
   show r.d+1-1=r.d
   omega
  ·show (p (bJ r)).2.ts.length+n≤_
   rw[hdn.1]
   exact h2
theorem wO {α:Type} {y m:Pa α} {Q:α→Nat→Prop} (hy:eZ N y (fun a n=>Q a (n+1))) (hm:eZ N m Q):eZ N (iD y m) Q:=by
 refine ⟨fun r h=>?_,fun r hr hd hN hb=>?_⟩
 ·unfold iD
  rw[if_neg (fun hh=>by rw[pR h] at hh;exact Bool.false_ne_true hh.1)]
  exact hm.mono r h
 ·unfold iD at hb ⊢
  by_cases hi:dK [45] r=true∧(bZ r).k≠3
  ·rw[if_pos hi] at hb ⊢
   obtain⟨_,x,l,hx,_⟩:=CJ hi.1
   have hn:(nextR r).ts=l:=by unfold nextR;rw[hx];rfl
   obtain⟨h1,hd1,n,h2,h3⟩:=hy.giv (nextR r) (fun u hu=>hr u (by rw[hn] at hu;rw[hx];simp[hu])) hd hN hb
   rw[hn] at h2
   exact⟨h1,hd1,n+1,by rw[hx];simp;omega,h3⟩
  ·rw[if_neg hi] at hb ⊢
   exact hm.giv r hr hd hN hb
theorem BA:eZ N jF (fun _ _=>True):=⟨fun r h=>h,fun r hr _ _ _=>⟨hr,rfl,0,Nat.le_refl _,trivial⟩⟩
theorem jh.mono {e:Ex} {n m:Nat} (h:jh e n) (hm:n≤m):jh e m:=⟨h.1,Nat.le_trans h.2 hm⟩
theorem Hy {v:Vl} (h:dL v=true) {n:Nat} (hn:1≤n):jh (zA v) n:=pV (t:=.val v) h hn
theorem AZ {fc ex:Pa Ex} (h1:eZ N fc jh) (h2:eZ N ex jh):eZ (N+1) (dF fc ex) jh:=by
 have m1 : ∀(e:Ex) (r:Rd),r.bad≠0→((aB (cK [41]) fun _=>aT e) r).2.bad≠0:=fun e r h=>(dA (N:=N)).mono r h
 unfold dF
 refine BA.bind (fun b n _=>?_) (fun b=>?_)
 ·split
  ·exact xZ.mp fun e m h=>h.1.mono (by omega)
  ·refine wO ((nI h1).bind (fun e m he=>aV _ (IW he (by omega))) (fun e r h=>h)) (gW ((nI h2).bind (fun e m he=>dA.bind (fun _ k _=>aV _ (he.mono (by omega))) (fun _ r h=>h)) m1) (wT.bind (fun v m hv=>aV _ (Hy hv.1 (by omega))) (fun v r h=>h)))
 ·intro r h
  split
  ·exact (xZ (N:=N)).mono r h
  ·refine (wO (N:=N+1) (Q:=fun _ _=>True) ((nI h1).bind (fun e m he=>aV _ trivial) (fun e r h=>h)) (gW ((nI h2).bind (fun e m he=>dA.bind (fun _ k _=>aV _ trivial) (fun _ r h=>h)) m1) (wT.bind (fun v m hv=>aV _ trivial) (fun v r h=>h)))).mono r h
theorem um {below:Pa Ex} {ops:List (List UInt8 × Int)} (h:eZ N below jh) (ho : ∀c∈ops,1≤c.2∧c.2≤13):∀(f:Nat) (e:Ex) (k:Nat),jh e k→eZ N (jy below ops f e) (fun x n=>jh x (k+n))
 | 0,e,k,he=>aV _ he
 |
  f+1,e,k,he=>by
  have hm : ∀(o:Int) (r:Rd),r.bad≠0→((if o=0 then aT e else aB below fun x=>jy below ops f (oZ o e x)) r).2.bad≠0:=fun o r hr=>by
   split
   ·exact hr
   ·have hl : ∀(f:Nat) (x:Ex) (r:Rd),r.bad≠0→(jy below ops f x r).2.bad≠0:=fun f=>by
     induction f with
     | zero=>intro x r hr;exact hr
     |
      succ f ih =>
      intro x r hr
      show ((if (aF ops r).1=0 then aT x else aB below fun y=>jy below ops f (oZ (aF ops r).1 x y)) (aF ops r).2).2.bad≠0
      have hc:=(fF (N:=N) ops).mono r hr
      split
      ·exact hc
      ·exact ih _ _ (h.mono _ hc)
    exact hl _ _ _ (h.mono _ hr)
  refine (fF ops).bind (fun o n hon=>?_) hm
  split
  ·exact aV _ (he.mono (by omega))
  ·rename_i h0
   obtain⟨hmem,hn⟩:=hon.resolve_left h0
   obtain⟨c,hc,rfl⟩:=List.mem_map.1 hmem
   refine h.bind (fun x m hx=>(um h ho f _ (k+n+m) (Br (ho c hc).1 (ho c hc).2 he hx (by omega))).mp fun y i hy=>hy.mono (by omega)) (fun x r hr=>?_)
   have:=um h ho f (oZ c.2 e e) (k+k+1) (Br (ho c hc).1 (ho c hc).2 he he (Nat.le_refl _))
   have hl : ∀(f:Nat) (x:Ex) (r:Rd),r.bad≠0→(jy below ops f x r).2.bad≠0:=fun f=>by
    induction f with
    | zero=>intro x r hr;exact hr
    |
     succ f ih =>
     intro x r hr
     show ((if (aF ops r).1=0 then aT x else aB below fun y=>jy below ops f (oZ (aF ops r).1 x y)) (aF ops r).2).2.bad≠0
     have hc:=(fF (N:=N) ops).mono r hr
     split
     ·exact hc
     ·exact ih _ _ (h.mono _ hc)
   exact hl _ _ _ hr
theorem Ey {below:Pa Ex} {ops:List (List UInt8 × Int)} (h:eZ N below jh):∀(f:Nat) (x:Ex) (r:Rd),r.bad≠0→(jy below ops f x r).2.bad≠0:=fun f=>by
 induction f with
 | zero=>intro x r hr;exact hr
 |
  succ f ih =>
  intro x r hr
  show ((if (aF ops r).1=0 then aT x else aB below fun y=>jy below ops f (oZ (aF ops r).1 x y)) (aF ops r).2).2.bad≠0
  have hc:=(fF (N:=N) ops).mono r hr
  split
  ·exact hc
  ·exact ih _ _ (h.mono _ hc)
theorem tF {below:Pa Ex} {ops:List (List UInt8 × Int)} (h:eZ N below jh) (ho : ∀c∈ops,1≤c.2∧c.2≤13) (f:Nat):eZ N (rowP f below ops) jh :=
 h.bind (fun e n he=>um h ho f e n he) (fun e=>Ey h f e)
theorem GH {e:Ex} {n:Nat} (he:jh e n):eZ N (o9 e) (fun x m=>jh x (n+1+m)):=by
 unfold o9 fD
 refine eZ.bind (Q:=fun b m=>b=true→1≤m) (gW (aV _ (fun _=>Nat.le_refl _)) (aV _ (fun h=>by cases h))) (fun b m hb=>dA.bind (fun _ k _=>aV _ ?_) (fun _ r h=>h)) (fun b r h=>(dA (N:=N)).mono r h)
 split
 ·rename_i hb1
  exact Ch (Cg he (Nat.le_refl _)) (by have:=hb hb1;omega)
 ·exact (Cg he (Nat.le_refl _)).mono (by omega)
theorem Fu {sum:Pa Ex} (h:eZ N sum jh):eZ N (iB sum) jh:=by
 unfold iB
 have hmC : ∀(e:Ex) (o:Int) (r:Rd),r.bad≠0→((if o=0 then aT e else aB sum fun x=>aT (oZ o e x)) r).2.bad≠0:=fun e o r hr=>by
  split
  ·exact hr
  ·exact h.mono r hr
 refine h.bind (fun e n he=>gW ((GH he).mp fun x m hx=>hx.mono (by omega)) ((fF nW).bind (fun o m ho=>?_) (hmC e))) (fun e r hr=>?_)
 ·split
  ·exact aV _ (he.mono (by omega))
  ·rename_i h0
   obtain⟨hmem,hn⟩:=ho.resolve_left h0
   have ho13 : ∀x∈nW.map Prod.snd,1≤x∧x≤13:=by decide
   exact h.bind (fun x k hx=>aV _ (Br (ho13 _ hmem).1 (ho13 _ hmem).2 he hx (by omega))) (fun x r h=>h)
 ·show ((gI [73,83] (o9 e) _) r).2.bad≠0
  unfold gI
  rw[if_neg (by rw[pR hr];exact Bool.false_ne_true)]
  exact hmC e _ _ ((fF (N:=N) nW).mono r hr)
theorem Ik {nt test:Pa Ex} (h1:eZ N nt jh) (h2:eZ (N+1) test jh):eZ (N+1) (notP nt test) jh :=
 gW ((nI h1).bind (fun e n he=>aV _ (Ch he (by omega))) (fun e r h=>h)) h2
theorem GL {F:Nat} {L:Lv} (h1:eZ N L.nt jh) (h2:eZ N L.fc jh) (h3:eZ N L.ex jh):eZ (N+1) (Fh F L) jh∧eZ (N+1) (dF L.fc L.ex) jh∧eZ (N+1) (Ca F L) jh:=by
 have f:=AZ h2 h3
 have t:=tF f (ops:=qJ) (by decide) F
 have s:=tF t (ops:=qm) (by decide) F
 have n:=Ik h1 (Fu s)
 have a:=tF n (ops:=qH) (by decide) F
 have e:=tF a (ops:=xX) (by decide) F
 exact⟨n,f,e⟩
theorem Cu (F:Nat):∀n,eZ n (lJ F n).nt jh∧eZ n (lJ F n).fc jh∧eZ n (lJ F n).ex jh
 |
  0=>by
  have h:eZ 0 (aT Ef) jh:=⟨fun r h=>h,fun r hr hd hN hb=>by exfalso;have:(12:Int)≤r.d+((0:Nat):Int):=hN;omega⟩
  exact⟨h,h,h⟩
 |
  n+1=>by
  obtain⟨h1,h2,h3⟩:=Cu F n
  exact GL h1 h2 h3
theorem Gm (F:Nat):eZ 12 (dG F) jh:=(Cu F 12).2.2
theorem FM {s:List UInt8} {t:Tk} {n:Nat} (h:gH s=(0,t,n)) (hk:t.k=1):aQ t.s=true:=by
 match s,h with
 | [],h=>simp[gH] at h
 |
  c::r,h =>
  unfold gH at h
  dsimp only at h
  by_cases hl:bK eY c=true
  ·rw[if_pos hl] at h
   unfold iq at h
   split at h
   ·cases h
   ·split at h
    ·cases h
    ·rename_i g1 g2
     cases h
     have h1:=zO (bK bS) (c::r)
     have hc:bK bS c=true:=ug hl
     have hpos:1≤row (bK bS) (c::r):=by rw[eO hc];omega
     have hle:=kK (bK bS) (c::r)
     show aQ ((c::r).take (row (bK bS) (c::r)))=true
     have hlen:((c::r).take (row (bK bS) (c::r))).length=row (bK bS) (c::r):=by rw[List.length_take];omega
     unfold aQ
     rw[hlen,decide_eq_true (show 0<row (bK bS) (c::r) by omega),decide_eq_true (show row (bK bS) (c::r)≤16 by omega)]
     have hhd:((c::r).take (row (bK bS) (c::r))).headD 0=c:=by
      obtain⟨j,hj⟩:∃j,row (bK bS) (c::r)=j+1:=⟨row (bK bS) (c::r)-1,by omega⟩
      rw[hj];rfl
     rw[hhd,hl]
     have hrow:row (bK bS) ((c::r).take (row (bK bS) (c::r)))=row (bK bS) (c::r):=by
      have:=qc (p:=bK bS) (a:=(c::r).take (row (bK bS) (c::r))) (x:=[]) (by rw[h1];exact o8 _ _) (wZ _)
      rw[List.append_nil] at this
      rw[this,hlen]
     rw[hrow]
     simp
  ·rw[if_neg hl] at h
   exfalso
   by_cases hu:bK je c=true
   ·rw[if_pos hu] at h
    unfold iH at h
    split at h
    ·cases h
    ·split at h
     ·cases h
     ·cases h;exact absurd (show (2:Int)=1 from hk) (by decide)
   ·rw[if_neg hu] at h
    by_cases hd:bK bU c=true
    ·rw[if_pos hd] at h
     unfold iW at h
     split at h
     ·cases h
     ·unfold FB at h
      split at h
      ·cases h;exact absurd (show (3:Int)=1 from hk) (by decide)
      ·cases h
    ·rw[if_neg hd] at h
     by_cases hq:bK [39] c=true
     ·rw[if_pos hq] at h
      unfold iw nX at h
      split at h
      ·cases h
      ·split at h
       ·cases h
       ·cases h;exact absurd (show (4:Int)=1 from hk) (by decide)
     ·rw[if_neg hq,sign_eq] at h
      have:=(pY h).2.1
      omega
theorem Eh (s:List UInt8):Ct (dI s):=by
 intro t ht
 have ht:t∈(tokens s).2.2:=ht
 by_cases h0:(tokens s).1=0
 ·obtain⟨_,_,L,hL,_,hg⟩:=yE h0
  rw[hL] at ht
  rcases List.mem_append.1 ht with ht | ht
  ·have hgt:=hg t ht
   refine ⟨fun hk=>?_,fun _=>hgt.len,hgt.n0,hgt.n1⟩
   have hw:wr t=t.s:=by unfold wr;rw[if_neg (by omega),if_neg (by omega)]
   have hc:=hgt.ct [] (.inl rfl)
   have:=FM hc hk
   exact this
  ·rw[List.mem_singleton] at ht
   subst ht
   exact⟨fun h=>absurd (show (6:Int)=1 from h) (by decide),fun h=>absurd (show (6:Int)=4 from h) (by decide),Int.le_refl _,show (0:Int)≤9223372036854775807 by decide⟩
 ·rw[Ah h0] at ht;cases ht
end Go.Proofs.YtaaggohjmhifbaaGreatDoor
