/- Packed for the hand-in: WGive -/
import Derived.Test.YtaaggohjmhifbaaGreatDoorP21
import Derived.Test.YtaaggohjmhifbaaGreatDoorP31
namespace Go.Proofs.YtaaggohjmhifbaaGreatDoor
set_option linter.unusedSimpArgs false
set_option linter.unusedVariables false
set_option maxHeartbeats 8000000
def TkR (t:Tk):Prop:=(t.k=1→nameOk t.s=true)∧(t.k=4→t.s.length≤40)∧0≤t.n∧t.n≤9223372036854775807
def TkAll (r:Rd):Prop:=∀t∈r.ts,TkR t
structure Giv (N:Nat) {α:Type} (p:Pa α) (Q:α→Nat→Prop):Prop where
 mono : ∀r,r.bad≠0→(p r).2.bad≠0
 giv : ∀r,TkAll r→r.d≤10→12≤r.d+(N:Int)→(p r).2.bad=0→TkAll (p r).2∧(p r).2.d=r.d∧∃n,(p r).2.ts.length+n≤r.ts.length∧Q (p r).1 n
variable {N : Nat}
theorem giv_ret {α:Type} (a:α) {Q:α→Nat→Prop} (h:Q a 0):Giv N (retP a) Q:=⟨fun r h=>h,fun r hr _ _ _=>⟨hr,rfl,0,Nat.le_refl _,h⟩⟩
theorem Giv.bind {α β:Type} {p:Pa α} {q:α→Pa β} {Q:α→Nat→Prop} {R:β→Nat→Prop} (hp:Giv N p Q) (hq : ∀a n,Q a n→Giv N (q a) (fun b m=>R b (n+m))) (hm : ∀a r,r.bad≠0→(q a r).2.bad≠0):Giv N (bindP p q) R:=by
 refine ⟨fun r h=>hm _ _ (hp.mono r h),fun r hr hd hN hb=>?_⟩
 have hb1:(p r).2.bad=0:=by
  by_cases e:(p r).2.bad=0
  ·exact e
  ·exact absurd hb (hm _ _ e)
 obtain⟨h1,hd1,n,h2,h3⟩:=hp.giv r hr hd hN hb1
 obtain⟨h4,hd2,m,h5,h6⟩:=(hq _ _ h3).giv _ h1 (by omega) (by omega) hb
 exact⟨h4,hd2.trans hd1,n+m,by show (q (p r).1 (p r).2).2.ts.length+(n+m)≤_;omega,h6⟩
theorem Giv.mp {α:Type} {p:Pa α} {Q R:α→Nat→Prop} (h:Giv N p Q) (hr : ∀a n,Q a n→R a n):Giv N p R :=
 ⟨h.mono,fun r h1 ha hb h2=>by obtain⟨h3,hd,n,h4,h5⟩:=h.giv r h1 ha hb h2;exact⟨h3,hd,n,h4,hr _ _ h5⟩⟩
theorem nice_monoB {α:Type} {p:Pa α} {F:Nat} (h:Nice false F p):∀r,r.bad≠0→(p r).2.bad≠0:=fun r hr=>by rw[(h.mono r hr).1];exact hr
theorem is_take {t:List UInt8} {r:Rd} (h:isR t r=true):r.bad=0∧∃x l,r.ts=x::l∧isT x t=true:=by
 have hb:=is_ok h
 refine ⟨hb,?_⟩
 cases ht:r.ts with
 | nil=>unfold isR nowR at h;rw[if_pos hb,ht] at h;exact absurd (show false=true from h) Bool.false_ne_true
 | cons x l=>unfold isR nowR at h;rw[if_pos hb,ht] at h;exact⟨x,l,rfl,h⟩
theorem giv_if {α:Type} {t:List UInt8} {y m:Pa α} {Q:α→Nat→Prop} (hy:Giv N y (fun a n=>Q a (n+1))) (hm:Giv N m Q):Giv N (ifP t y m) Q:=by
 refine ⟨fun r h=>?_,fun r hr hd hN hb=>?_⟩
 ·unfold ifP
  rw[if_neg (by rw[is_bad h];exact Bool.false_ne_true)]
  exact hm.mono r h
 ·unfold ifP at hb ⊢
  by_cases hi:isR t r=true
  ·rw[if_pos hi] at hb ⊢
   obtain⟨_,x,l,hx,_⟩:=is_take hi
   have hn:(nextR r).ts=l:=by unfold nextR;rw[hx];rfl
   obtain⟨h1,hd1,n,h2,h3⟩:=hy.giv (nextR r) (fun u hu=>hr u (by rw[hn] at hu;rw[hx];simp[hu])) hd hN hb
   rw[hn] at h2
   exact⟨h1,hd1,n+1,by rw[hx];simp;omega,h3⟩
  ·rw[if_neg hi] at hb ⊢
   exact hm.giv r hr hd hN hb
theorem giv_fail {e:Int} (he:e≠0) {Q:Unit→Nat→Prop}:Giv N (failP e) Q:=by
 refine ⟨fun r h=>by show (failR e r).bad≠0;rw[fail_bad h];exact h,fun r hr hd hN hb=>?_⟩
 exfalso
 have hb:(failR e r).bad=0:=hb
 by_cases h0:r.bad=0
 ·rw[fail_ok h0] at hb;exact he hb
 ·rw[fail_bad h0] at hb;exact h0 hb
theorem giv_must {t:List UInt8}:Giv N (mustP t) (fun _ _=>True):=giv_if (giv_ret () trivial) (giv_fail (by decide))
theorem now_in {r:Rd} {k:Int} (hk:k≠0) (h:(nowR r).k=k):r.bad=0∧∃l,r.ts=nowR r::l:=by
 by_cases hb:r.bad=0
 ·refine ⟨hb,?_⟩
  unfold nowR at h ⊢
  rw[if_pos hb] at h ⊢
  cases ht:r.ts with
  | nil=>rw[ht] at h;exact absurd h.symm hk
  | cons x l=>exact⟨l,rfl⟩
 ·rw[now_bad hb] at h;exact absurd h.symm hk
theorem giv_name:Giv N nameP (fun s n=>nameOk s=true∧1≤n):=by
 refine ⟨nice_monoB (F:=0) nice_name,fun r hr hd hN hb=>?_⟩
 unfold nameP at hb ⊢
 by_cases hk:(nowR r).k=1
 ·rw[if_pos hk] at hb ⊢
  obtain⟨_,l,hl⟩:=now_in (by decide) hk
  have hm:nowR r∈r.ts:=by rw[hl];simp
  exact⟨fun u hu=>hr u (List.mem_of_mem_tail hu),rfl,1,by show r.ts.tail.length+1≤_;rw[hl];simp,(hr _ hm).1 hk,Nat.le_refl _⟩
 ·rw[if_neg hk] at hb
  by_cases h0:r.bad=0
  ·rw[fail_ok h0] at hb;cases hb
  ·rw[fail_bad h0] at hb;exact absurd hb h0
theorem giv_num:Giv N numP (fun n m=>(0≤n∧n≤9223372036854775807)∧1≤m):=by
 refine ⟨nice_monoB (F:=0) nice_num,fun r hr hd hN hb=>?_⟩
 unfold numP at hb ⊢
 by_cases hk:(nowR r).k=3
 ·rw[if_pos hk] at hb ⊢
  obtain⟨_,l,hl⟩:=now_in (by decide) hk
  have hm:nowR r∈r.ts:=by rw[hl];simp
  exact⟨fun u hu=>hr u (List.mem_of_mem_tail hu),rfl,1,by show r.ts.tail.length+1≤_;rw[hl];simp,(hr _ hm).2.2,Nat.le_refl _⟩
 ·rw[if_neg hk] at hb
  by_cases h0:r.bad=0
  ·rw[fail_ok h0] at hb;cases hb
  ·rw[fail_bad h0] at hb;exact absurd hb h0
theorem giv_text:Giv N textP (fun o n=>∀s,o=some s→s.length≤40∧1≤n):=by
 refine ⟨nice_monoB (F:=0) nice_text,fun r hr hd hN hb=>?_⟩
 unfold textP at hb ⊢
 by_cases hk:(nowR r).k=4
 ·rw[if_pos hk] at hb ⊢
  obtain⟨_,l,hl⟩:=now_in (by decide) hk
  have hm:nowR r∈r.ts:=by rw[hl];simp
  exact⟨fun u hu=>hr u (List.mem_of_mem_tail hu),rfl,1,by show r.ts.tail.length+1≤_;rw[hl];simp,fun s hs=>by cases hs;exact⟨(hr _ hm).2.1 hk,Nat.le_refl _⟩⟩
 ·rw[if_neg hk] at hb ⊢
  exact⟨hr,rfl,0,Nat.le_refl _,fun s hs=>by cases hs⟩
theorem giv_choose : ∀ops:List (List UInt8 × Int),Giv N (chooseP ops) (fun o n=>o=0∨(o∈ops.map Prod.snd∧1≤n))
 | []=>giv_ret _ (.inl rfl)
 | c
  :: ops=>giv_if (giv_ret _ (.inr ⟨by simp,Nat.le_refl _⟩)) ((giv_choose ops).mp fun o n h=>by
  rcases h with h | ⟨h,hn⟩
  ·exact .inl h
  ·exact .inr ⟨by simp only[List.map_cons,List.mem_cons];exact .inr h,hn⟩)
def ExQ (e:Ex) (n:Nat):Prop:=rightE e=true∧exZ e≤n
theorem exq_tm {e:Ex} {n:Nat} (h:ExQ e n):∃t:Tm,t.ok∧t.ex=e∧t.sz≤n:=by
 obtain⟨h1,h2⟩:=right_ok h.1
 exact⟨tmE e,h1,h2,h.2⟩
theorem exq_of {t:Tm} (h:t.ok) {n:Nat} (hn:t.sz≤n):ExQ t.ex n:=⟨right_tm t h,by unfold exZ;rw[tmE_ex t h];exact hn⟩
theorem exq_op {o:Int} (h1:1≤o) (h2:o≤13) {a b:Ex} {n m k:Nat} (ha:ExQ a n) (hb:ExQ b m) (hk:n+m+1≤k):ExQ (exOp o a b) k:=by
 obtain⟨ta,oa,ea,sa⟩:=exq_tm ha
 obtain⟨tb,ob,eb,sb⟩:=exq_tm hb
 have:=exq_of (t:=.op o ta tb) ⟨h1,h2,oa,ob⟩ (n:=k) (by show ta.sz+tb.sz+1≤k;omega)
 rw[← ea,← eb]
 exact this
theorem exq_neg {a:Ex} {n k:Nat} (ha:ExQ a n) (hk:n+1≤k):ExQ (exOf 5 a) k:=by
 obtain⟨ta,oa,ea,sa⟩:=exq_tm ha
 rw[← ea]
 exact exq_of (t:=.neg ta) oa (by show ta.sz+1≤k;omega)
theorem exq_nul {a:Ex} {n k:Nat} (ha:ExQ a n) (hk:n+1≤k):ExQ (exOf 6 a) k:=by
 obtain⟨ta,oa,ea,sa⟩:=exq_tm ha
 rw[← ea]
 exact exq_of (t:=.nul ta) oa (by show ta.sz+1≤k;omega)
theorem exq_not {a:Ex} {n k:Nat} (ha:ExQ a n) (hk:n+1≤k):ExQ (exOf 4 a) k:=by
 obtain⟨ta,oa,ea,sa⟩:=exq_tm ha
 rw[← ea]
 cases hN:ta.isNul with
 | false=>exact exq_of (t:=.not ta) ⟨hN,oa⟩ (by show ta.sz+1≤k;omega)
 |
  true =>
  cases ta with
  | nul x=>exact exq_of (t:=.nnul x) oa (by show x.sz+2≤k;have:x.sz+1≤n:=sa;omega)
  | _=>cases hN
theorem valOk_num {n:Int} (h1 : -9223372036854775807≤n) (h2:n≤9223372036854775807):valOk ⟨1,n,[]⟩=true:=by
 unfold valOk
 have:rightV ⟨1,n,[]⟩=0:=by unfold rightV namedV;simp[eqv]
 rw[this]
 simp[h1,h2]
theorem valOk_text {s:List UInt8} (h:s.length≤40):valOk ⟨2,0,s⟩=true:=by
 unfold valOk
 have:rightV ⟨2,0,s⟩=0:=by unfold rightV namedV;simp[eqv];omega
 rw[this]
 simp
theorem giv_lit:Giv N litP (fun v n=>valOk v=true∧1≤n):=by
 unfold litP
 refine giv_if (giv_ret _ ⟨by decide,Nat.le_refl _⟩) (giv_text.bind (fun o n ho=>?_) (fun o=>?_))
 ·cases o with
  | some s=>exact giv_ret _ ⟨valOk_text (ho s rfl).1,by have:=(ho s rfl).2;omega⟩
  | none=>exact giv_if (giv_num.bind (fun k m hk=>giv_ret _ ⟨valOk_num (by omega) (by omega),by omega⟩) (fun k r h=>h)) (giv_num.bind (fun k m hk=>giv_ret _ ⟨valOk_num (by omega) (by omega),by omega⟩) (fun k r h=>h))
 ·cases o with
  | some s=>exact fun r h=>h
  | none=>exact nice_monoB (F:=0) (nice_if _ (fun _=>by decide) (nice_num.bind fun n=>nice_ret _).ok (nice_num.bind fun n=>nice_ret _))
theorem giv_col:Giv N colP (fun e n=>ExQ e n∧colEB e=true):=by
 have hc : ∀t s:List UInt8,∀n:Nat,(t=[]∨nameOk t=true)→nameOk s=true→1≤n→ExQ (exCol t s) n∧colEB (exCol t s)=true:=fun t s n h1 h2 hn=>by
  have:=exq_of (t:=.col t s) ⟨h2,h1⟩ (n:=n) hn
  exact⟨this,by unfold colEB;rw[Bool.and_eq_true];exact⟨rfl,this.1⟩⟩
 unfold colP
 refine giv_name.bind (fun s n hs=>giv_if (giv_name.bind (fun t m ht=>giv_ret _ (hc s t _ (.inr hs.1) ht.1 (by omega))) (fun t r h=>h)) (giv_ret _ (hc [] s _ (.inl rfl) hs.1 (by omega)))) (fun s=>nice_monoB (F:=0) (nice_if _ (fun _=>by decide) (nice_name.bind fun m=>nice_ret _).ok (nice_ret _)))
theorem giv_deep {p:Pa Ex} {Q:Ex→Nat→Prop} (h:Giv N p Q):Giv (N+1) (deepP p) Q:=by
 refine ⟨fun r hr=>?_,fun r hr hd hN hb=>?_⟩
 ·have:(downR r).bad≠0:=by
   unfold downR
   split
   ·rw[fail_bad (show ({ r with d:=r.d+1 }:Rd).bad≠0 from hr)];exact hr
   ·exact hr
  exact h.mono _ this
 ·have hb':(p (downR r)).2.bad=0:=hb
  have hd0:(downR r).bad=0:=by
   by_cases e:(downR r).bad=0
   ·exact e
   ·exact absurd hb' (h.mono _ e)
  have hdn:downR r = { r with d:=r.d+1 }∧r.d+1≤10:=by
   unfold downR at hd0 ⊢
   by_cases h10:10<r.d+1
   ·rw[if_pos h10] at hd0
    exfalso
    by_cases e:r.bad=0
    ·rw[fail_ok (show ({ r with d:=r.d+1 }:Rd).bad=0 from e)] at hd0;cases hd0
    ·rw[fail_bad (show ({ r with d:=r.d+1 }:Rd).bad≠0 from e)] at hd0;exact e hd0
   ·rw[if_neg h10];exact⟨rfl,by omega⟩
  obtain⟨h1,hd1,n,h2,h3⟩:=h.giv (downR r) (fun u hu=>hr u (by rw[hdn.1] at hu;exact hu)) (by rw[hdn.1];exact hdn.2) (by rw[hdn.1];show 12≤r.d+1+(N:Int);omega) hb'
  rw[hdn.1] at hd1 h2
  refine ⟨h1,?_,n,?_,h3⟩
  ·show (p (downR r)).2.d-1=r.d
   rw[hdn.1,hd1]
   show r.d+1-1=r.d
   omega
  ·show (p (downR r)).2.ts.length+n≤_
   rw[hdn.1]
   exact h2
theorem giv_minus {α:Type} {y m:Pa α} {Q:α→Nat→Prop} (hy:Giv N y (fun a n=>Q a (n+1))) (hm:Giv N m Q):Giv N (minusP y m) Q:=by
 refine ⟨fun r h=>?_,fun r hr hd hN hb=>?_⟩
 ·unfold minusP
  rw[if_neg (fun hh=>by rw[is_bad h] at hh;exact Bool.false_ne_true hh.1)]
  exact hm.mono r h
 ·unfold minusP at hb ⊢
  by_cases hi:isR [45] r=true∧(behindR r).k≠3
  ·rw[if_pos hi] at hb ⊢
   obtain⟨_,x,l,hx,_⟩:=is_take hi.1
   have hn:(nextR r).ts=l:=by unfold nextR;rw[hx];rfl
   obtain⟨h1,hd1,n,h2,h3⟩:=hy.giv (nextR r) (fun u hu=>hr u (by rw[hn] at hu;rw[hx];simp[hu])) hd hN hb
   rw[hn] at h2
   exact⟨h1,hd1,n+1,by rw[hx];simp;omega,h3⟩
  ·rw[if_neg hi] at hb ⊢
   exact hm.giv r hr hd hN hb
theorem giv_isName:Giv N isNameP (fun _ _=>True):=⟨fun r h=>h,fun r hr _ _ _=>⟨hr,rfl,0,Nat.le_refl _,trivial⟩⟩
theorem ExQ.mono {e:Ex} {n m:Nat} (h:ExQ e n) (hm:n≤m):ExQ e m:=⟨h.1,Nat.le_trans h.2 hm⟩
theorem exq_val {v:Vl} (h:valOk v=true) {n:Nat} (hn:1≤n):ExQ (exVal v) n:=exq_of (t:=.val v) h hn
theorem giv_factor {fc ex:Pa Ex} (h1:Giv N fc ExQ) (h2:Giv N ex ExQ):Giv (N+1) (factorP fc ex) ExQ:=by
 have m1 : ∀(e:Ex) (r:Rd),r.bad≠0→((bindP (mustP [41]) fun _=>retP e) r).2.bad≠0:=fun e r h=>(giv_must (N:=N)).mono r h
 unfold factorP
 refine giv_isName.bind (fun b n _=>?_) (fun b=>?_)
 ·split
  ·exact giv_col.mp fun e m h=>h.1.mono (by omega)
  ·refine giv_minus ((giv_deep h1).bind (fun e m he=>giv_ret _ (exq_neg he (by omega))) (fun e r h=>h)) (giv_if ((giv_deep h2).bind (fun e m he=>giv_must.bind (fun _ k _=>giv_ret _ (he.mono (by omega))) (fun _ r h=>h)) m1) (giv_lit.bind (fun v m hv=>giv_ret _ (exq_val hv.1 (by omega))) (fun v r h=>h)))
 ·intro r h
  split
  ·exact (giv_col (N:=N)).mono r h
  ·refine (giv_minus (N:=N+1) (Q:=fun _ _=>True) ((giv_deep h1).bind (fun e m he=>giv_ret _ trivial) (fun e r h=>h)) (giv_if ((giv_deep h2).bind (fun e m he=>giv_must.bind (fun _ k _=>giv_ret _ trivial) (fun _ r h=>h)) m1) (giv_lit.bind (fun v m hv=>giv_ret _ trivial) (fun v r h=>h)))).mono r h
theorem giv_rowL {below:Pa Ex} {ops:List (List UInt8 × Int)} (h:Giv N below ExQ) (ho : ∀c∈ops,1≤c.2∧c.2≤13):∀(f:Nat) (e:Ex) (k:Nat),ExQ e k→Giv N (rowL below ops f e) (fun x n=>ExQ x (k+n))
 | 0,e,k,he=>giv_ret _ he
 |
  f+1,e,k,he=>by
  have hm : ∀(o:Int) (r:Rd),r.bad≠0→((if o=0 then retP e else bindP below fun x=>rowL below ops f (exOp o e x)) r).2.bad≠0:=fun o r hr=>by
   split
   ·exact hr
   ·have hl : ∀(f:Nat) (x:Ex) (r:Rd),r.bad≠0→(rowL below ops f x r).2.bad≠0:=fun f=>by
     induction f with
     | zero=>intro x r hr;exact hr
     |
      succ f ih =>
      intro x r hr
      show ((if (chooseP ops r).1=0 then retP x else bindP below fun y=>rowL below ops f (exOp (chooseP ops r).1 x y)) (chooseP ops r).2).2.bad≠0
      have hc:=(giv_choose (N:=N) ops).mono r hr
      split
      ·exact hc
      ·exact ih _ _ (h.mono _ hc)
    exact hl _ _ _ (h.mono _ hr)
  refine (giv_choose ops).bind (fun o n hon=>?_) hm
  split
  ·exact giv_ret _ (he.mono (by omega))
  ·rename_i h0
   obtain⟨hmem,hn⟩:=hon.resolve_left h0
   obtain⟨c,hc,rfl⟩:=List.mem_map.1 hmem
   refine h.bind (fun x m hx=>(giv_rowL h ho f _ (k+n+m) (exq_op (ho c hc).1 (ho c hc).2 he hx (by omega))).mp fun y i hy=>hy.mono (by omega)) (fun x r hr=>?_)
   have:=giv_rowL h ho f (exOp c.2 e e) (k+k+1) (exq_op (ho c hc).1 (ho c hc).2 he he (Nat.le_refl _))
   have hl : ∀(f:Nat) (x:Ex) (r:Rd),r.bad≠0→(rowL below ops f x r).2.bad≠0:=fun f=>by
    induction f with
    | zero=>intro x r hr;exact hr
    |
     succ f ih =>
     intro x r hr
     show ((if (chooseP ops r).1=0 then retP x else bindP below fun y=>rowL below ops f (exOp (chooseP ops r).1 x y)) (chooseP ops r).2).2.bad≠0
     have hc:=(giv_choose (N:=N) ops).mono r hr
     split
     ·exact hc
     ·exact ih _ _ (h.mono _ hc)
   exact hl _ _ _ hr
theorem rowL_mono {below:Pa Ex} {ops:List (List UInt8 × Int)} (h:Giv N below ExQ):∀(f:Nat) (x:Ex) (r:Rd),r.bad≠0→(rowL below ops f x r).2.bad≠0:=fun f=>by
 induction f with
 | zero=>intro x r hr;exact hr
 |
  succ f ih =>
  intro x r hr
  show ((if (chooseP ops r).1=0 then retP x else bindP below fun y=>rowL below ops f (exOp (chooseP ops r).1 x y)) (chooseP ops r).2).2.bad≠0
  have hc:=(giv_choose (N:=N) ops).mono r hr
  split
  ·exact hc
  ·exact ih _ _ (h.mono _ hc)
theorem giv_row {below:Pa Ex} {ops:List (List UInt8 × Int)} (h:Giv N below ExQ) (ho : ∀c∈ops,1≤c.2∧c.2≤13) (f:Nat):Giv N (rowP f below ops) ExQ :=
 h.bind (fun e n he=>giv_rowL h ho f e n he) (fun e=>rowL_mono h f e)
theorem giv_null {e:Ex} {n:Nat} (he:ExQ e n):Giv N (nullP e) (fun x m=>ExQ x (n+1+m)):=by
 unfold nullP skipP
 refine Giv.bind (Q:=fun b m=>b=true→1≤m) (giv_if (giv_ret _ (fun _=>Nat.le_refl _)) (giv_ret _ (fun h=>by cases h))) (fun b m hb=>giv_must.bind (fun _ k _=>giv_ret _ ?_) (fun _ r h=>h)) (fun b r h=>(giv_must (N:=N)).mono r h)
 split
 ·rename_i hb1
  exact exq_not (exq_nul he (Nat.le_refl _)) (by have:=hb hb1;omega)
 ·exact (exq_nul he (Nat.le_refl _)).mono (by omega)
theorem giv_test {sum:Pa Ex} (h:Giv N sum ExQ):Giv N (testP sum) ExQ:=by
 unfold testP
 have hmC : ∀(e:Ex) (o:Int) (r:Rd),r.bad≠0→((if o=0 then retP e else bindP sum fun x=>retP (exOp o e x)) r).2.bad≠0:=fun e o r hr=>by
  split
  ·exact hr
  ·exact h.mono r hr
 refine h.bind (fun e n he=>giv_if ((giv_null he).mp fun x m hx=>hx.mono (by omega)) ((giv_choose cmpsB).bind (fun o m ho=>?_) (hmC e))) (fun e r hr=>?_)
 ·split
  ·exact giv_ret _ (he.mono (by omega))
  ·rename_i h0
   obtain⟨hmem,hn⟩:=ho.resolve_left h0
   have ho13 : ∀x∈cmpsB.map Prod.snd,1≤x∧x≤13:=by decide
   exact h.bind (fun x k hx=>giv_ret _ (exq_op (ho13 _ hmem).1 (ho13 _ hmem).2 he hx (by omega))) (fun x r h=>h)
 ·show ((ifP [73,83] (nullP e) _) r).2.bad≠0
  unfold ifP
  rw[if_neg (by rw[is_bad hr];exact Bool.false_ne_true)]
  exact hmC e _ _ ((giv_choose (N:=N) cmpsB).mono r hr)
theorem giv_not {nt test:Pa Ex} (h1:Giv N nt ExQ) (h2:Giv (N+1) test ExQ):Giv (N+1) (notP nt test) ExQ :=
 giv_if ((giv_deep h1).bind (fun e n he=>giv_ret _ (exq_not he (by omega))) (fun e r h=>h)) h2
theorem giv_levs {F:Nat} {L:Lv} (h1:Giv N L.nt ExQ) (h2:Giv N L.fc ExQ) (h3:Giv N L.ex ExQ):Giv (N+1) (notQ F L) ExQ∧Giv (N+1) (factorP L.fc L.ex) ExQ∧Giv (N+1) (exprQ F L) ExQ:=by
 have f:=giv_factor h2 h3
 have t:=giv_row f (ops:=mulsB) (by decide) F
 have s:=giv_row t (ops:=addsB) (by decide) F
 have n:=giv_not h1 (giv_test s)
 have a:=giv_row n (ops:=andsB) (by decide) F
 have e:=giv_row a (ops:=orsB) (by decide) F
 exact⟨n,f,e⟩
theorem giv_lev (F:Nat):∀n,Giv n (lev F n).nt ExQ∧Giv n (lev F n).fc ExQ∧Giv n (lev F n).ex ExQ
 |
  0=>by
  have h:Giv 0 (retP zEx) ExQ:=⟨fun r h=>h,fun r hr hd hN hb=>by exfalso;have:(12:Int)≤r.d+((0:Nat):Int):=hN;omega⟩
  exact⟨h,h,h⟩
 |
  n+1=>by
  obtain⟨h1,h2,h3⟩:=giv_lev F n
  exact giv_levs h1 h2 h3
theorem giv_expr (F:Nat):Giv 12 (exprP F) ExQ:=(giv_lev F 12).2.2
theorem cut_name {s:List UInt8} {t:Tk} {n:Nat} (h:cutT s=(0,t,n)) (hk:t.k=1):nameOk t.s=true:=by
 match s,h with
 | [],h=>simp[cutT] at h
 |
  c::r,h =>
  unfold cutT at h
  dsimp only at h
  by_cases hl:inS lowsB c=true
  ·rw[if_pos hl] at h
   unfold cutNameT at h
   split at h
   ·cases h
   ·split at h
    ·cases h
    ·rename_i g1 g2
     cases h
     have h1:=take_row (inS nameB) (c::r)
     have hc:inS nameB c=true:=low_name hl
     have hpos:1≤row (inS nameB) (c::r):=by rw[row_cons_pos hc];omega
     have hle:=row_le (inS nameB) (c::r)
     show nameOk ((c::r).take (row (inS nameB) (c::r)))=true
     have hlen:((c::r).take (row (inS nameB) (c::r))).length=row (inS nameB) (c::r):=by rw[List.length_take];omega
     unfold nameOk
     rw[hlen,decide_eq_true (show 0<row (inS nameB) (c::r) by omega),decide_eq_true (show row (inS nameB) (c::r)≤16 by omega)]
     have hhd:((c::r).take (row (inS nameB) (c::r))).headD 0=c:=by
      obtain⟨j,hj⟩:∃j,row (inS nameB) (c::r)=j+1:=⟨row (inS nameB) (c::r)-1,by omega⟩
      rw[hj];rfl
     rw[hhd,hl]
     have hrow:row (inS nameB) ((c::r).take (row (inS nameB) (c::r)))=row (inS nameB) (c::r):=by
      have:=row_append (p:=inS nameB) (a:=(c::r).take (row (inS nameB) (c::r))) (x:=[]) (by rw[h1];exact takeWhile_all _ _) (row_nil _)
      rw[List.append_nil] at this
      rw[this,hlen]
     rw[hrow]
     simp
  ·rw[if_neg hl] at h
   exfalso
   by_cases hu:inS upsB c=true
   ·rw[if_pos hu] at h
    unfold cutWordT at h
    split at h
    ·cases h
    ·split at h
     ·cases h
     ·cases h;exact absurd (show (2:Int)=1 from hk) (by decide)
   ·rw[if_neg hu] at h
    by_cases hd:inS digsB c=true
    ·rw[if_pos hd] at h
     unfold cutNumT at h
     split at h
     ·cases h
     ·unfold numT at h
      split at h
      ·cases h;exact absurd (show (3:Int)=1 from hk) (by decide)
      ·cases h
    ·rw[if_neg hd] at h
     by_cases hq:inS [39] c=true
     ·rw[if_pos hq] at h
      unfold cutTextT textT at h
      split at h
      ·cases h
      ·split at h
       ·cases h
       ·cases h;exact absurd (show (4:Int)=1 from hk) (by decide)
     ·rw[if_neg hq,sign_eq] at h
      have:=(signH_used h).2.1
      omega
theorem start_tks (s:List UInt8):TkAll (startR s):=by
 intro t ht
 have ht:t∈(tokens s).2.2:=ht
 by_cases h0:(tokens s).1=0
 ·obtain⟨_,_,L,hL,_,hg⟩:=tokens_good h0
  rw[hL] at ht
  rcases List.mem_append.1 ht with ht | ht
  ·have hgt:=hg t ht
   refine ⟨fun hk=>?_,fun _=>hgt.len,hgt.n0,hgt.n1⟩
   have hw:wr t=t.s:=by unfold wr;rw[if_neg (by omega),if_neg (by omega)]
   have hc:=hgt.ct [] (.inl rfl)
   have:=cut_name hc hk
   exact this
  ·rw[List.mem_singleton] at ht
   subst ht
   exact⟨fun h=>absurd (show (6:Int)=1 from h) (by decide),fun h=>absurd (show (6:Int)=4 from h) (by decide),Int.le_refl _,show (0:Int)≤9223372036854775807 by decide⟩
 ·rw[tokens_bad h0] at ht;cases ht
end Go.Proofs.YtaaggohjmhifbaaGreatDoor
