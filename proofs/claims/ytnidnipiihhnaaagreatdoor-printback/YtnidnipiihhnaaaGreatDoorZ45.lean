/- Packed for the hand-in: WGive -/
import Derived.Test.YtnidnipiihhnaaaGreatDoorZ24
import Derived.Test.YtnidnipiihhnaaaGreatDoorZ44
namespace Go.Proofs.YtnidnipiihhnaaaGreatDoor
set_option linter.unusedSimpArgs false
set_option linter.unusedVariables false
set_option maxHeartbeats 8000000
def Km (t:Tk):Prop:=(t.k=1→bM t.s=true)∧(t.k=4→t.s.length≤40)∧0≤t.n∧t.n≤9223372036854775807
def yI (r:Rd):Prop:=∀t∈r.ts,Km t
structure fA (N:Nat) {α:Type} (p:Pa α) (Q:α→Nat→Prop):Prop where
 mono : ∀r,r.bad≠0→(p r).2.bad≠0
 giv : ∀r,yI r→r.d≤10→12≤r.d+(N:Int)→(p r).2.bad=0→yI (p r).2∧(p r).2.d=r.d∧∃n,(p r).2.ts.length+n≤r.ts.length∧Q (p r).1 n
variable {N : Nat}
theorem bg {α:Type} (a:α) {Q:α→Nat→Prop} (h:Q a 0):fA N (aZ a) Q:=⟨fun r h=>h,fun r hr _ _ _=>⟨hr,rfl,0,Nat.le_refl _,h⟩⟩
theorem fA.bind {α β:Type} {p:Pa α} {q:α→Pa β} {Q:α→Nat→Prop} {R:β→Nat→Prop} (hp:fA N p Q) (hq : ∀a n,Q a n→fA N (q a) (fun b m=>R b (n+m))) (hm : ∀a r,r.bad≠0→(q a r).2.bad≠0):fA N (aG p q) R:=by
 refine ⟨fun r h=>hm _ _ (hp.mono r h),fun r hr hd hN hb=>?_⟩
 have hb1:(p r).2.bad=0:=by
  by_cases e:(p r).2.bad=0
  ·exact e
  ·exact absurd hb (hm _ _ e)
 obtain⟨h1,hd1,n,h2,h3⟩:=hp.giv r hr hd hN hb1
 obtain⟨h4,hd2,m,h5,h6⟩:=(hq _ _ h3).giv _ h1 (by omega) (by omega) hb
 exact⟨h4,hd2.trans hd1,n+m,by show (q (p r).1 (p r).2).2.ts.length+(n+m)≤_;omega,h6⟩
theorem fA.mp {α:Type} {p:Pa α} {Q R:α→Nat→Prop} (h:fA N p Q) (hr : ∀a n,Q a n→R a n):fA N p R :=
 ⟨h.mono,fun r h1 ha hb h2=>by obtain⟨h3,hd,n,h4,h5⟩:=h.giv r h1 ha hb h2;exact⟨h3,hd,n,h4,hr _ _ h5⟩⟩
theorem jQ {α:Type} {p:Pa α} {F:Nat} (h:bC false F p):∀r,r.bad≠0→(p r).2.bad≠0:=fun r hr=>by rw[(h.mono r hr).1];exact hr
theorem Cn {t:List UInt8} {r:Rd} (h:dR t r=true):r.bad=0∧∃x l,r.ts=x::l∧jm x t=true:=by
 have hb:=jX h
 refine ⟨hb,?_⟩
 cases ht:r.ts with
 | nil=>unfold dR bF at h;rw[if_pos hb,ht] at h;exact absurd (show false=true from h) Bool.false_ne_true
 | cons x l=>unfold dR bF at h;rw[if_pos hb,ht] at h;exact⟨x,l,rfl,h⟩
theorem iA {α:Type} {t:List UInt8} {y m:Pa α} {Q:α→Nat→Prop} (hy:fA N y (fun a n=>Q a (n+1))) (hm:fA N m Q):fA N (gP t y m) Q:=by
 refine ⟨fun r h=>?_,fun r hr hd hN hb=>?_⟩
 ·unfold gP
  rw[if_neg (by rw[qb h];exact Bool.false_ne_true)]
  exact hm.mono r h
 ·unfold gP at hb ⊢
  by_cases hi:dR t r=true
  ·rw[if_pos hi] at hb ⊢
   obtain⟨_,x,l,hx,_⟩:=Cn hi
   have hn:(nextR r).ts=l:=by unfold nextR;rw[hx];rfl
   obtain⟨h1,hd1,n,h2,h3⟩:=hy.giv (nextR r) (fun u hu=>hr u (by rw[hn] at hu;rw[hx];simp[hu])) hd hN hb
   rw[hn] at h2
   exact⟨h1,hd1,n+1,by rw[hx];simp;omega,h3⟩
  ·rw[if_neg hi] at hb ⊢
   exact hm.giv r hr hd hN hb
theorem oh {e:Int} (he:e≠0) {Q:Unit→Nat→Prop}:fA N (iR e) Q:=by
 refine ⟨fun r h=>by show (dB e r).bad≠0;rw[fU h];exact h,fun r hr hd hN hb=>?_⟩
 exfalso
 have hb:(dB e r).bad=0:=hb
 by_cases h0:r.bad=0
 ·rw[gG h0] at hb;exact he hb
 ·rw[fU h0] at hb;exact h0 hb
theorem dL {t:List UInt8}:fA N (dx t) (fun _ _=>True):=iA (bg () trivial) (oh (by decide))
theorem Br {r:Rd} {k:Int} (hk:k≠0) (h:(bF r).k=k):r.bad=0∧∃l,r.ts=bF r::l:=by
 by_cases hb:r.bad=0
 ·refine ⟨hb,?_⟩
  unfold bF at h ⊢
  rw[if_pos hb] at h ⊢
  cases ht:r.ts with
  | nil=>rw[ht] at h;exact absurd h.symm hk
  | cons x l=>exact⟨l,rfl⟩
 ·rw[jB hb] at h;exact absurd h.symm hk
theorem gI:fA N nameP (fun s n=>bM s=true∧1≤n):=by
 refine ⟨jQ (F:=0) bD,fun r hr hd hN hb=>?_⟩
 unfold nameP at hb ⊢
 by_cases hk:(bF r).k=1
 ·rw[if_pos hk] at hb ⊢
  obtain⟨_,l,hl⟩:=Br (by decide) hk
  have hm:bF r∈r.ts:=by rw[hl];simp
  exact⟨fun u hu=>hr u (List.mem_of_mem_tail hu),rfl,1,by show r.ts.tail.length+1≤_;rw[hl];simp,(hr _ hm).1 hk,Nat.le_refl _⟩
 ·rw[if_neg hk] at hb
  by_cases h0:r.bad=0
  ·rw[gG h0] at hb;cases hb
  ·rw[fU h0] at hb;exact absurd hb h0
theorem wQ:fA N jl (fun n m=>(0≤n∧n≤9223372036854775807)∧1≤m):=by
 refine ⟨jQ (F:=0) kS,fun r hr hd hN hb=>?_⟩
 unfold jl at hb ⊢
 by_cases hk:(bF r).k=3
 ·rw[if_pos hk] at hb ⊢
  obtain⟨_,l,hl⟩:=Br (by decide) hk
  have hm:bF r∈r.ts:=by rw[hl];simp
  exact⟨fun u hu=>hr u (List.mem_of_mem_tail hu),rfl,1,by show r.ts.tail.length+1≤_;rw[hl];simp,(hr _ hm).2.2,Nat.le_refl _⟩
 ·rw[if_neg hk] at hb
  by_cases h0:r.bad=0
  ·rw[gG h0] at hb;cases hb
  ·rw[fU h0] at hb;exact absurd hb h0
theorem ER:fA N qA (fun o n=>∀s,o=some s→s.length≤40∧1≤n):=by
 refine ⟨jQ (F:=0) vN,fun r hr hd hN hb=>?_⟩
 unfold qA at hb ⊢
 by_cases hk:(bF r).k=4
 ·rw[if_pos hk] at hb ⊢
  obtain⟨_,l,hl⟩:=Br (by decide) hk
  have hm:bF r∈r.ts:=by rw[hl];simp
  exact⟨fun u hu=>hr u (List.mem_of_mem_tail hu),rfl,1,by show r.ts.tail.length+1≤_;rw[hl];simp,fun s hs=>by cases hs;exact⟨(hr _ hm).2.1 hk,Nat.le_refl _⟩⟩
 ·rw[if_neg hk] at hb ⊢
  exact⟨hr,rfl,0,Nat.le_refl _,fun s hs=>by cases hs⟩
theorem fH : ∀ops:List (List UInt8 × Int),fA N (aK ops) (fun o n=>o=0∨(o∈ops.map Prod.snd∧1≤n))
 | []=>bg _ (.inl rfl)
 | c
  :: ops=>iA (bg _ (.inr ⟨by simp,Nat.le_refl _⟩)) ((fH ops).mp fun o n h=>by
  rcases h with h | ⟨h,hn⟩
  ·exact .inl h
  ·exact .inr ⟨by simp only[List.map_cons,List.mem_cons];exact .inr h,hn⟩)
def jK (e:Ex) (n:Nat):Prop:=aN e=true∧nA e≤n
theorem uD {e:Ex} {n:Nat} (h:jK e n):∃t:Tm,t.ok∧t.ex=e∧t.sz≤n:=by
 obtain⟨h1,h2⟩:=jo h.1
 exact⟨lD e,h1,h2,h.2⟩
theorem pY {t:Tm} (h:t.ok) {n:Nat} (hn:t.sz≤n):jK t.ex n:=⟨tZ t h,by unfold nA;rw[wX t h];exact hn⟩
theorem Az {o:Int} (h1:1≤o) (h2:o≤13) {a b:Ex} {n m k:Nat} (ha:jK a n) (hb:jK b m) (hk:n+m+1≤k):jK (mq o a b) k:=by
 obtain⟨ta,oa,ea,sa⟩:=uD ha
 obtain⟨tb,ob,eb,sb⟩:=uD hb
 have:=pY (t:=.op o ta tb) ⟨h1,h2,oa,ob⟩ (n:=k) (by show ta.sz+tb.sz+1≤k;omega)
 rw[← ea,← eb]
 exact this
theorem Hw {a:Ex} {n k:Nat} (ha:jK a n) (hk:n+1≤k):jK (eT 5 a) k:=by
 obtain⟨ta,oa,ea,sa⟩:=uD ha
 rw[← ea]
 exact pY (t:=.neg ta) oa (by show ta.sz+1≤k;omega)
theorem Ct {a:Ex} {n k:Nat} (ha:jK a n) (hk:n+1≤k):jK (eT 6 a) k:=by
 obtain⟨ta,oa,ea,sa⟩:=uD ha
 rw[← ea]
 exact pY (t:=.nul ta) oa (by show ta.sz+1≤k;omega)
theorem Cv {a:Ex} {n k:Nat} (ha:jK a n) (hk:n+1≤k):jK (eT 4 a) k:=by
 obtain⟨ta,oa,ea,sa⟩:=uD ha
 rw[← ea]
 cases hN:ta.zM with
 | false=>exact pY (t:=.not ta) ⟨hN,oa⟩ (by show ta.sz+1≤k;omega)
 |
  true =>
  cases ta with
  | nul x=>exact pY (t:=.nnul x) oa (by show x.sz+2≤k;have:x.sz+1≤n:=sa;omega)
  | _=>cases hN
theorem vK {n:Int} (h1 : -9223372036854775807≤n) (h2:n≤9223372036854775807):fq ⟨1,n,[]⟩=true:=by
 unfold fq
 have:iZ ⟨1,n,[]⟩=0:=by unfold iZ iC;simp[eqv]
 rw[this]
 simp[h1,h2]
theorem Bu {s:List UInt8} (h:s.length≤40):fq ⟨2,0,s⟩=true:=by
 unfold fq
 have:iZ ⟨2,0,s⟩=0:=by unfold iZ iC;simp[eqv];omega
 rw[this]
 simp
theorem wW:fA N jI (fun v n=>fq v=true∧1≤n):=by
 unfold jI
 refine iA (bg _ ⟨by decide,Nat.le_refl _⟩) (ER.bind (fun o n ho=>?_) (fun o=>?_))
 ·cases o with
  | some s=>exact bg _ ⟨Bu (ho s rfl).1,by have:=(ho s rfl).2;omega⟩
  | none=>exact iA (wQ.bind (fun k m hk=>bg _ ⟨vK (by omega) (by omega),by omega⟩) (fun k r h=>h)) (wQ.bind (fun k m hk=>bg _ ⟨vK (by omega) (by omega),by omega⟩) (fun k r h=>h))
 ·cases o with
  | some s=>exact fun r h=>h
  | none=>exact jQ (F:=0) (eY _ (fun _=>by decide) (kS.bind fun n=>aB _).ok (kS.bind fun n=>aB _))
theorem xA:fA N fu (fun e n=>jK e n∧eu e=true):=by
 have hc : ∀t s:List UInt8,∀n:Nat,(t=[]∨bM t=true)→bM s=true→1≤n→jK (jM t s) n∧eu (jM t s)=true:=fun t s n h1 h2 hn=>by
  have:=pY (t:=.col t s) ⟨h2,h1⟩ (n:=n) hn
  exact⟨this,by unfold eu;rw[Bool.and_eq_true];exact⟨rfl,this.1⟩⟩
 unfold fu
 refine gI.bind (fun s n hs=>iA (gI.bind (fun t m ht=>bg _ (hc s t _ (.inr hs.1) ht.1 (by omega))) (fun t r h=>h)) (bg _ (hc [] s _ (.inl rfl) hs.1 (by omega)))) (fun s=>jQ (F:=0) (eY _ (fun _=>by decide) (bD.bind fun m=>aB _).ok (aB _)))
theorem oD {p:Pa Ex} {Q:Ex→Nat→Prop} (h:fA N p Q):fA (N+1) (fZ p) Q:=by
 refine ⟨fun r hr=>?_,fun r hr hd hN hb=>?_⟩
 ·have:(bO r).bad≠0:=by
   unfold bO
   split
   ·rw[fU (show ({ r with d:=r.d+1 }:Rd).bad≠0 from hr)];exact hr
   ·exact hr
  exact h.mono _ this
 ·have hb':(p (bO r)).2.bad=0:=hb
  have hd0:(bO r).bad=0:=by
   by_cases e:(bO r).bad=0
   ·exact e
   ·exact absurd hb' (h.mono _ e)
  have hdn:bO r = { r with d:=r.d+1 }∧r.d+1≤10:=by
   unfold bO at hd0 ⊢
   by_cases h10:10<r.d+1
   ·rw[if_pos h10] at hd0
    exfalso
    by_cases e:r.bad=0
    ·rw[gG (show ({ r with d:=r.d+1 }:Rd).bad=0 from e)] at hd0;cases hd0
    ·rw[fU (show ({ r with d:=r.d+1 }:Rd).bad≠0 from e)] at hd0;exact e hd0
   ·rw[if_neg h10];exact⟨rfl,by omega⟩
  obtain⟨h1,hd1,n,h2,h3⟩:=h.giv (bO r) (fun u hu=>hr u (by rw[hdn.1] at hu;exact hu)) (by rw[hdn.1];exact hdn.2) (by rw[hdn.1];show 12≤r.d+1+(N:Int);omega) hb'
  rw[hdn.1] at hd1 h2
  refine ⟨h1,?_,n,?_,h3⟩
  ·show (p (bO r)).2.d-1=r.d
   rw[hdn.1,hd1]
   show r.d+1-1=r.d
   omega
  ·show (p (bO r)).2.ts.length+n≤_
   rw[hdn.1]
   exact h2
theorem wu {α:Type} {y m:Pa α} {Q:α→Nat→Prop} (hy:fA N y (fun a n=>Q a (n+1))) (hm:fA N m Q):fA N (iO y m) Q:=by
 refine ⟨fun r h=>?_,fun r hr hd hN hb=>?_⟩
 ·unfold iO
  rw[if_neg (fun hh=>by rw[qb h] at hh;exact Bool.false_ne_true hh.1)]
  exact hm.mono r h
 ·unfold iO at hb ⊢
  by_cases hi:dR [45] r=true∧(cO r).k≠3
  ·rw[if_pos hi] at hb ⊢
   obtain⟨_,x,l,hx,_⟩:=Cn hi.1
   have hn:(nextR r).ts=l:=by unfold nextR;rw[hx];rfl
   obtain⟨h1,hd1,n,h2,h3⟩:=hy.giv (nextR r) (fun u hu=>hr u (by rw[hn] at hu;rw[hx];simp[hu])) hd hN hb
   rw[hn] at h2
   exact⟨h1,hd1,n+1,by rw[hx];simp;omega,h3⟩
  ·rw[if_neg hi] at hb ⊢
   exact hm.giv r hr hd hN hb
theorem BH:fA N jV (fun _ _=>True):=⟨fun r h=>h,fun r hr _ _ _=>⟨hr,rfl,0,Nat.le_refl _,trivial⟩⟩
theorem jK.mono {e:Ex} {n m:Nat} (h:jK e n) (hm:n≤m):jK e m:=⟨h.1,Nat.le_trans h.2 hm⟩
theorem Hl {v:Vl} (h:fq v=true) {n:Nat} (hn:1≤n):jK (jf v) n:=pY (t:=.val v) h hn
theorem BQ {fc ex:Pa Ex} (h1:fA N fc jK) (h2:fA N ex jK):fA (N+1) (dO fc ex) jK:=by
 have m1 : ∀(e:Ex) (r:Rd),r.bad≠0→((aG (dx [41]) fun _=>aZ e) r).2.bad≠0:=fun e r h=>(dL (N:=N)).mono r h
 unfold dO
 refine BH.bind (fun b n _=>?_) (fun b=>?_)
 ·split
  ·exact xA.mp fun e m h=>h.1.mono (by omega)
  ·refine wu ((oD h1).bind (fun e m he=>bg _ (Hw he (by omega))) (fun e r h=>h)) (iA ((oD h2).bind (fun e m he=>dL.bind (fun _ k _=>bg _ (he.mono (by omega))) (fun _ r h=>h)) m1) (wW.bind (fun v m hv=>bg _ (Hl hv.1 (by omega))) (fun v r h=>h)))
 ·intro r h
  split
  ·exact (xA (N:=N)).mono r h
  ·refine (wu (N:=N+1) (Q:=fun _ _=>True) ((oD h1).bind (fun e m he=>bg _ trivial) (fun e r h=>h)) (iA ((oD h2).bind (fun e m he=>dL.bind (fun _ k _=>bg _ trivial) (fun _ r h=>h)) m1) (wW.bind (fun v m hv=>bg _ trivial) (fun v r h=>h)))).mono r h
theorem um {below:Pa Ex} {ops:List (List UInt8 × Int)} (h:fA N below jK) (ho : ∀c∈ops,1≤c.2∧c.2≤13):∀(f:Nat) (e:Ex) (k:Nat),jK e k→fA N (jT below ops f e) (fun x n=>jK x (k+n))
 | 0,e,k,he=>bg _ he
 |
  f+1,e,k,he=>by
  have hm : ∀(o:Int) (r:Rd),r.bad≠0→((if o=0 then aZ e else aG below fun x=>jT below ops f (mq o e x)) r).2.bad≠0:=fun o r hr=>by
   split
   ·exact hr
   ·have hl : ∀(f:Nat) (x:Ex) (r:Rd),r.bad≠0→(jT below ops f x r).2.bad≠0:=fun f=>by
     induction f with
     | zero=>intro x r hr;exact hr
     |
      succ f ih =>
      intro x r hr
      show ((if (aK ops r).1=0 then aZ x else aG below fun y=>jT below ops f (mq (aK ops r).1 x y)) (aK ops r).2).2.bad≠0
      have hc:=(fH (N:=N) ops).mono r hr
      split
      ·exact hc
      ·exact ih _ _ (h.mono _ hc)
    exact hl _ _ _ (h.mono _ hr)
  refine (fH ops).bind (fun o n hon=>?_) hm
  split
  ·exact bg _ (he.mono (by omega))
  ·rename_i h0
   obtain⟨hmem,hn⟩:=hon.resolve_left h0
   obtain⟨c,hc,rfl⟩:=List.mem_map.1 hmem
   refine h.bind (fun x m hx=>(um h ho f _ (k+n+m) (Az (ho c hc).1 (ho c hc).2 he hx (by omega))).mp fun y i hy=>hy.mono (by omega)) (fun x r hr=>?_)
   have:=um h ho f (mq c.2 e e) (k+k+1) (Az (ho c hc).1 (ho c hc).2 he he (Nat.le_refl _))
   have hl : ∀(f:Nat) (x:Ex) (r:Rd),r.bad≠0→(jT below ops f x r).2.bad≠0:=fun f=>by
    induction f with
    | zero=>intro x r hr;exact hr
    |
     succ f ih =>
     intro x r hr
     show ((if (aK ops r).1=0 then aZ x else aG below fun y=>jT below ops f (mq (aK ops r).1 x y)) (aK ops r).2).2.bad≠0
     have hc:=(fH (N:=N) ops).mono r hr
     split
     ·exact hc
     ·exact ih _ _ (h.mono _ hc)
   exact hl _ _ _ hr
theorem Dm {below:Pa Ex} {ops:List (List UInt8 × Int)} (h:fA N below jK):∀(f:Nat) (x:Ex) (r:Rd),r.bad≠0→(jT below ops f x r).2.bad≠0:=fun f=>by
 induction f with
 | zero=>intro x r hr;exact hr
 |
  succ f ih =>
  intro x r hr
  show ((if (aK ops r).1=0 then aZ x else aG below fun y=>jT below ops f (mq (aK ops r).1 x y)) (aK ops r).2).2.bad≠0
  have hc:=(fH (N:=N) ops).mono r hr
  split
  ·exact hc
  ·exact ih _ _ (h.mono _ hc)
theorem tC {below:Pa Ex} {ops:List (List UInt8 × Int)} (h:fA N below jK) (ho : ∀c∈ops,1≤c.2∧c.2≤13) (f:Nat):fA N (rowP f below ops) jK :=
 h.bind (fun e n he=>um h ho f e n he) (fun e=>Dm h f e)
theorem FP {e:Ex} {n:Nat} (he:jK e n):fA N (pO e) (fun x m=>jK x (n+1+m)):=by
 unfold pO fF
 refine fA.bind (Q:=fun b m=>b=true→1≤m) (iA (bg _ (fun _=>Nat.le_refl _)) (bg _ (fun h=>by cases h))) (fun b m hb=>dL.bind (fun _ k _=>bg _ ?_) (fun _ r h=>h)) (fun b r h=>(dL (N:=N)).mono r h)
 split
 ·rename_i hb1
  exact Cv (Ct he (Nat.le_refl _)) (by have:=hb hb1;omega)
 ·exact (Ct he (Nat.le_refl _)).mono (by omega)
theorem Fu {sum:Pa Ex} (h:fA N sum jK):fA N (iK sum) jK:=by
 unfold iK
 have hmC : ∀(e:Ex) (o:Int) (r:Rd),r.bad≠0→((if o=0 then aZ e else aG sum fun x=>aZ (mq o e x)) r).2.bad≠0:=fun e o r hr=>by
  split
  ·exact hr
  ·exact h.mono r hr
 refine h.bind (fun e n he=>iA ((FP he).mp fun x m hx=>hx.mono (by omega)) ((fH nU).bind (fun o m ho=>?_) (hmC e))) (fun e r hr=>?_)
 ·split
  ·exact bg _ (he.mono (by omega))
  ·rename_i h0
   obtain⟨hmem,hn⟩:=ho.resolve_left h0
   have ho13 : ∀x∈nU.map Prod.snd,1≤x∧x≤13:=by decide
   exact h.bind (fun x k hx=>bg _ (Az (ho13 _ hmem).1 (ho13 _ hmem).2 he hx (by omega))) (fun x r h=>h)
 ·show ((gP [73,83] (pO e) _) r).2.bad≠0
  unfold gP
  rw[if_neg (by rw[qb hr];exact Bool.false_ne_true)]
  exact hmC e _ _ ((fH (N:=N) nU).mono r hr)
theorem Gv {nt test:Pa Ex} (h1:fA N nt jK) (h2:fA (N+1) test jK):fA (N+1) (notP nt test) jK :=
 iA ((oD h1).bind (fun e n he=>bg _ (Cv he (by omega))) (fun e r h=>h)) h2
theorem EA {F:Nat} {L:Lv} (h1:fA N L.nt jK) (h2:fA N L.fc jK) (h3:fA N L.ex jK):fA (N+1) (EB F L) jK∧fA (N+1) (dO L.fc L.ex) jK∧fA (N+1) (Ca F L) jK:=by
 have f:=BQ h2 h3
 have t:=tC f (ops:=qW) (by decide) F
 have s:=tC t (ops:=qV) (by decide) F
 have n:=Gv h1 (Fu s)
 have a:=tC n (ops:=qC) (by decide) F
 have e:=tC a (ops:=wP) (by decide) F
 exact⟨n,f,e⟩
theorem BX (F:Nat):∀n,fA n (lV F n).nt jK∧fA n (lV F n).fc jK∧fA n (lV F n).ex jK
 |
  0=>by
  have h:fA 0 (aZ Ag) jK:=⟨fun r h=>h,fun r hr hd hN hb=>by exfalso;have:(12:Int)≤r.d+((0:Nat):Int):=hN;omega⟩
  exact⟨h,h,h⟩
 |
  n+1=>by
  obtain⟨h1,h2,h3⟩:=BX F n
  exact EA h1 h2 h3
theorem zo (F:Nat):fA 12 (dn F) jK:=(BX F 12).2.2
theorem Ey {s:List UInt8} {t:Tk} {n:Nat} (h:gM s=(0,t,n)) (hk:t.k=1):bM t.s=true:=by
 match s,h with
 | [],h=>simp[gM] at h
 |
  c::r,h =>
  unfold gM at h
  dsimp only at h
  by_cases hl:cu iE c=true
  ·rw[if_pos hl] at h
   unfold gY at h
   split at h
   ·cases h
   ·split at h
    ·cases h
    ·rename_i g1 g2
     cases h
     have h1:=zK (cu dK) (c::r)
     have hc:cu dK c=true:=uN hl
     have hpos:1≤row (cu dK) (c::r):=by rw[gF hc];omega
     have hle:=lT (cu dK) (c::r)
     show bM ((c::r).take (row (cu dK) (c::r)))=true
     have hlen:((c::r).take (row (cu dK) (c::r))).length=row (cu dK) (c::r):=by rw[List.length_take];omega
     unfold bM
     rw[hlen,decide_eq_true (show 0<row (cu dK) (c::r) by omega),decide_eq_true (show row (cu dK) (c::r)≤16 by omega)]
     have hhd:((c::r).take (row (cu dK) (c::r))).headD 0=c:=by
      obtain⟨j,hj⟩:∃j,row (cu dK) (c::r)=j+1:=⟨row (cu dK) (c::r)-1,by omega⟩
      rw[hj];rfl
     rw[hhd,hl]
     have hrow:row (cu dK) ((c::r).take (row (cu dK) (c::r)))=row (cu dK) (c::r):=by
      have:=qd (p:=cu dK) (a:=(c::r).take (row (cu dK) (c::r))) (x:=[]) (by rw[h1];exact pU _ _) (Cx _)
      rw[List.append_nil] at this
      rw[this,hlen]
     rw[hrow]
     simp
  ·rw[if_neg hl] at h
   exfalso
   by_cases hu:cu jr c=true
   ·rw[if_pos hu] at h
    unfold iT at h
    split at h
    ·cases h
    ·split at h
     ·cases h
     ·cases h;exact absurd (show (2:Int)=1 from hk) (by decide)
   ·rw[if_neg hu] at h
    by_cases hd:cu dz c=true
    ·rw[if_pos hd] at h
     unfold jD at h
     split at h
     ·cases h
     ·unfold Gg at h
      split at h
      ·cases h;exact absurd (show (3:Int)=1 from hk) (by decide)
      ·cases h
    ·rw[if_neg hd] at h
     by_cases hq:cu [39] c=true
     ·rw[if_pos hq] at h
      unfold ig nO at h
      split at h
      ·cases h
      ·split at h
       ·cases h
       ·cases h;exact absurd (show (4:Int)=1 from hk) (by decide)
     ·rw[if_neg hq,sign_eq] at h
      have:=(pW h).2.1
      omega
theorem wL (s:List UInt8):yI (bV s):=by
 intro t ht
 have ht:t∈(tokens s).2.2:=ht
 by_cases h0:(tokens s).1=0
 ·obtain⟨_,_,L,hL,_,hg⟩:=yH h0
  rw[hL] at ht
  rcases List.mem_append.1 ht with ht | ht
  ·have hgt:=hg t ht
   refine ⟨fun hk=>?_,fun _=>hgt.len,hgt.n0,hgt.n1⟩
   have hw:wr t=t.s:=by unfold wr;rw[if_neg (by omega),if_neg (by omega)]
   have hc:=hgt.ct [] (.inl rfl)
   have:=Ey hc hk
   exact this
  ·rw[List.mem_singleton] at ht
   subst ht
   exact⟨fun h=>absurd (show (6:Int)=1 from h) (by decide),fun h=>absurd (show (6:Int)=4 from h) (by decide),Int.le_refl _,show (0:Int)≤9223372036854775807 by decide⟩
 ·rw[AX h0] at ht;cases ht
theorem Aq (F:Nat) (r:Rd) (h1:yI r) (h2:r.d=0) (hb:(sZ F r).2.bad=0):aN (sZ F r).1=true∧nA (sZ F r).1≤r.ts.length:=by
 have hb1:(dn F r).2.bad=0:=(FJ (r:=(dn F r).2) hb).1
 obtain⟨_,_,n,h3,h4,h5⟩:=(zo F).giv r h1 (by omega) (by omega) hb1
 exact⟨h4,Nat.le_trans h5 (by omega)⟩
theorem DR {s:List UInt8} (h:(qO s).2.1=0):aN (qO s).1=true∧nA (qO s).1≤2001:=by
 have hg:=mQ s
 have ht:=wL s
 have hd:(bV s).d=0:=rfl
 unfold qO at h ⊢
 generalize bV s=r at hg ht hd h ⊢
 by_cases hb:(sZ 2001 r).2.bad=0
 ·rw[if_pos hb]
  obtain⟨h1,h2⟩:=Aq 2001 r ht hd hb
  exact⟨h1,Nat.le_trans h2 hg.many⟩
 ·rw[if_neg hb] at h
  exact absurd h hb
end Go.Proofs.YtnidnipiihhnaaaGreatDoor
