/- Packed for the hand-in: WGiveS WRg CDef CPure -/
import Derived.Test.YtaaggohjmhifbaaGreatDoorY35
import Derived.Test.YtaaggohjmhifbaaGreatDoorY34
import Derived.Test.YtaaggohjmhifbaaGreatDoorY27
import Derived.Test.YtaaggohjmhifbaaGreatDoorY25
import Derived.Lib.SlBy2
namespace Go.Proofs.YtaaggohjmhifbaaGreatDoor
set_option linter.unusedSimpArgs false
set_option linter.unusedVariables false
set_option maxHeartbeats 8000000
variable {N : Nat}
theorem eZ.bN {α β:Type} {p:Pa α} {q:α→Pa β} {Q:α→Nat→Prop} {R:β→Nat→Prop} (hp:eZ N p Q) (hq : ∀a n,Q a n→eZ N (q a) (fun b m=>R b (n+m))) (hn : ∀a,bf false 2001 (q a)):eZ N (aB p q) R:=hp.bind hq (fun a=>jA (hn a))
theorem kG {α:Type} {one:Pa α} {more:Pa Bool} {P:α→Nat→Prop} (hP : ∀a n m,P a n→n≤m→P a m) (h1:eZ N one P) (h2:eZ N more (fun _ _=>True)) (n1:bf false 2001 one) (n2:bf false 2001 more) :
  ∀(m:Nat) (acc:List α) (k:Nat),(∀a∈acc,P a k)→eZ N (aR one more m acc) (fun l n=>(∀a∈l,P a (k+n))∧acc.length+1≤l.length∧l.length≤acc.length+m)
 | 0,acc,k,hacc=>(nV (by decide) (Q:=fun _ _=>False)).bN (fun a n h=>h.elim) (fun _=>ay _)
 |
  m+1,acc,k,hacc=>by
  have hadd : ∀(x:α) (n j:Nat),P x n→∀a∈acc++[x],P a (k+n+j):=fun x n j hx a ha=>by
   rcases List.mem_append.1 ha with ha | ha
   ·exact hP _ _ _ (hacc a ha) (by omega)
   ·rw[List.mem_singleton] at ha
    subst ha
    exact hP _ _ _ hx (by omega)
  refine h1.bN (fun x n hx=>h2.bN (fun b j _=>?_) (fun b=>?_)) (fun x=>n2.bind fun b=>?_)
  ·split
   ·refine (kG hP h1 h2 n1 n2 m (acc++[x]) (k+n) (hadd x n 0 hx)).mp ?_
    rintro l i ⟨ha,hb,hc⟩
    simp only[List.length_append,List.length_cons,List.length_nil] at hb hc
    exact⟨fun a h=>hP _ _ _ (ha a h) (by omega),by omega,by omega⟩
   ·refine aV _ ⟨fun a ha=>hP _ _ _ (hadd x n 0 hx a ha) (by omega),by simp,by simp⟩
  ·split
   ·exact bV n1 n2 m _
   ·exact ay _
  ·split
   ·exact bV n1 n2 m _
   ·exact ay _
theorem nK (t:List UInt8):eZ N (fD t) (fun _ _=>True):=gW (aV _ trivial) (aV _ trivial)
theorem pQ (t:List UInt8):bf false 2001 (fD t):=jC _ (fun h=>by cases h)
theorem oF:eZ N bH (fun _ _=>True):=nK _
theorem GN:eZ N iG (fun _ _=>True):=nK _
theorem oH : ∀l:List (List UInt8),eZ N (aD l) (fun _ _=>True)
 | []=>aV _ trivial
 | t::l=>dA.bN (fun _ n _=>(oH l).mp fun _ _ _=>trivial) (fun _=>aY l)
theorem nQ {read:Pa Ex} {P:Ex→Nat→Prop} (hP : ∀a n m,P a n→n≤m→P a m) (h:eZ N read P) (nr:bf false 2001 read) (w:List UInt8) (ws:List (List UInt8)):eZ N (bI read w ws) (fun l n=>l.length≤1∧∀x∈l,P x n) :=
 gW ((oH ws).bN (fun _ n _=>h.bN (fun e m he=>aV _ ⟨Nat.le_refl _,fun x hx=>by
  rw[List.mem_singleton] at hx
  subst hx
  exact hP _ _ _ he (by omega)⟩) (fun e=>ay _)) (fun _=>nr.bind fun e=>ay _)) (aV _ ⟨Nat.zero_le _,fun x hx=>by cases hx⟩)
theorem AJ:eZ N eX (fun c _=>gB c=true):=by
 unfold eX
 have n4 : ∀(nm:List UInt8) (k:Int) (nn:Bool),bf false 2001 (aB (fD [85,78,73,81,85,69]) fun uq=>aT (⟨nm,k,nn,uq⟩:Co)):=fun nm k nn=>(pQ _).bind fun uq=>ay _
 have n3 : ∀(nm:List UInt8) (k:Int),bf false 2001 (aB (gI [78,79,84] (aB (cK [78,85,76,76]) fun _=>aT true) (aT false)) fun nn=>aB (fD [85,78,73,81,85,69]) fun uq=>aT (⟨nm,k,nn,uq⟩:Co)):=fun nm k=>(eU _ (fun h=>by cases h) ((bD _).bind fun _=>ay _).ok (ay _)).bind fun nn=>n4 nm k nn
 have n2 : ∀(nm:List UInt8) (k:Int),bf false 2001 (aB (if k=0 then iF 4 else aT ()) fun _=>aB (gI [78,79,84] (aB (cK [78,85,76,76]) fun _=>aT true) (aT false)) fun nn=>aB (fD [85,78,73,81,85,69]) fun uq=>aT (⟨nm,k,nn,uq⟩:Co)):=fun nm k=>iC.bind (by
  split
  ·exact fM 4 (by decide)
  ·exact ay _) fun _=>n3 nm k
 refine gy.bN (fun nm n hn=>(fF gJ).bN (fun k m hk=>eZ.bN (Q:=fun _ _=>k≠0) ?_ (fun _ i hk0=>?_) (fun _=>n3 nm k)) (fun k=>n2 nm k)) (fun nm=>(dB _ (fun h=>by cases h)).bind fun k=>n2 nm k)
 ·split
  ·exact nV (by decide)
  ·rename_i h0
   exact aV _ h0
 ·have hc : ∀nn uq,gB ⟨nm,k,nn,uq⟩=true:=fun nn uq=>by
   have hk12:=(hk.resolve_left hk0).1
   have:k=1∨k=2:=by simpa [gJ] using hk12
   unfold gB
   dsimp only
   rw[hn.1]
   simp[this]
  refine eZ.bN (Q:=fun _ _=>True) (gW (dA.bN (fun _ _ _=>aV _ trivial) (fun _=>ay _)) (aV _ trivial)) (fun nn _ _=>(nK _).bN (fun uq _ _=>aV _ (hc nn uq)) (fun uq=>ay _)) (fun nn=>n4 nm k nn)
theorem gL {α:Type} {l:List α} {a b:Nat} {p:α→Bool} (h1:a≤l.length) (h2:l.length≤b) (h : ∀x∈l,p x=true):aX l a b p=true:=by
 unfold aX
 simp only[Bool.and_eq_true,decide_eq_true_eq,List.all_eq_true]
 exact⟨⟨h1,h2⟩,h⟩
theorem Bc:eZ N fI (fun l _=>nG l=true):=by
 unfold fI
 refine dA.bN (fun _ n _=>(kG (P:=fun v _=>dL v=true) (fun a n m h _=>h) (wT.mp fun v n h=>h.1) oF ny bR 8 [] 0 (fun a ha=>by cases ha)).bN (fun l m hl=>dA.bN (fun _ i _=>aV _ (gL hl.2.1 hl.2.2 hl.1)) (fun _=>ay _)) (fun l=>(bD _).bind fun _=>ay _)) (fun _=>(bV ny bR 8 []).bind fun l=>(bD _).bind fun _=>ay _)
def G7 (s:St) (n:Nat):Prop:=aM s=true∧∀e∈nM s,qR e≤n
theorem Ak:eZ N dw G7:=by
 unfold dw
 refine dA.bN (fun _ _ _=>gy.bN (fun tb _ ht=>dA.bN (fun _ _ _=>(kG (P:=fun v _=>gB v=true) (fun a n m h _=>h) AJ (gW (Q:=fun _ _=>True) (eZ.bN (Q:=fun _ _=>True) ⟨fun r h=>h,fun r hr _ _ _=>⟨hr,rfl,0,Nat.le_refl _,trivial⟩⟩ (fun b _ _=>aV _ trivial) (fun b=>ay _)) ((nV (by decide) (Q:=fun _ _=>True)).bN (fun _ _ _=>aV _ trivial) (fun _=>ay _))) ig dR 8 [] 0 (fun a ha=>by cases ha)).bN (fun cs _ hc=>(oH _).bN (fun _ _ _=>gy.bN (fun pr _ hp=>(oH _).bN (fun _ _ _=>aV _ ?_) (fun _=>ay _)) (fun pr=>(aY _).bind fun _=>ay _)) (fun _=>aZ.bind fun pr=>(aY _).bind fun _=>ay _)) (fun cs=>(aY _).bind fun _=>aZ.bind fun pr=>(aY _).bind fun _=>ay _)) (fun _=>(bV ig dR 8 []).bind fun cs=>(aY _).bind fun _=>aZ.bind fun pr=>(aY _).bind fun _=>ay _)) (fun tb=>(bD _).bind fun _=>(bV ig dR 8 []).bind fun cs=>(aY _).bind fun _=>aZ.bind fun pr=>(aY _).bind fun _=>ay _)) (fun _=>aZ.bind fun tb=>(bD _).bind fun _=>(bV ig dR 8 []).bind fun cs=>(aY _).bind fun _=>aZ.bind fun pr=>(aY _).bind fun _=>ay _)
 refine ⟨?_,fun e he=>by simp[nM,gZ] at he⟩
 have h8:aX cs 1 8 gB=true:=gL hc.2.1 hc.2.2 hc.1
 unfold aM lu
 simp only[if_pos]
 rw[h8,hp.1,ht.1]
 rfl
theorem GK:eZ N jR G7:=by
 unfold jR
 refine dA.bN (fun _ _ _=>gy.bN (fun tb _ ht=>aV _ ⟨?_,fun e he=>by simp[nM,gZ] at he⟩) (fun tb=>ay _)) (fun _=>aZ.bind fun tb=>ay _)
 show (true&&(aQ tb&&_))=true
 rw[ht.1]
 rfl
theorem BM:eZ N dD G7:=by
 unfold dD
 refine dA.bN (fun _ _ _=>gy.bN (fun tb _ ht=>dA.bN (fun _ _ _=>(kG (P:=fun v _=>nG v=true) (fun a n m h _=>h) Bc oF gU bR 16 [] 0 (fun a ha=>by cases ha)).bN (fun rs _ hr=>aV _ ⟨?_,fun e he=>by simp[nM,gZ] at he⟩) (fun rs=>ay _)) (fun _=>(bV gU bR 16 []).bind fun rs=>ay _)) (fun tb=>(bD _).bind fun _=>(bV gU bR 16 []).bind fun rs=>ay _)) (fun _=>aZ.bind fun tb=>(bD _).bind fun _=>(bV gU bR 16 []).bind fun rs=>ay _)
 show (aX rs 1 16 nG&&(aQ tb&&_))=true
 rw[gL (a:=1) (b:=16) hr.2.1 hr.2.2 hr.1,ht.1]
 rfl
theorem uX : ∀a n m,jh a n→n≤m→jh a m:=fun a n m h hm=>h.mono hm
def Lh (s:Se) (n:Nat):Prop:=mR s=true∧qR s.e≤n
def La (i:It) (n:Nat):Prop:=rJ i=true∧∀e∈i.xs,qR e≤n
theorem II {ex:Pa Ex} (h:eZ N ex jh) (nx:bf false 2001 ex):eZ N (nR ex) Lh:=by
 unfold nR
 refine gy.bN (fun nm n hn=>dA.bN (fun _ m _=>h.bN (fun e i he=>aV _ ⟨?_,?_⟩) (fun e=>ay _)) (fun _=>nx.bind fun e=>ay _)) (fun nm=>(bD _).bind fun _=>nx.bind fun e=>ay _)
 ·unfold mR
  dsimp only
  rw[hn.1,he.1]
  rfl
 ·show qR e≤_
  have:=he.2
  omega
theorem Ba {ex:Pa Ex} (h:eZ N ex jh) (nx:bf false 2001 ex):eZ N (dz ex) G7:=by
 unfold dz
 refine gy.bN (fun tb n1 ht=>dA.bN (fun _ n2 _=>(kG (P:=Lh) (fun a n m h hm=>⟨h.1,Nat.le_trans h.2 hm⟩) (II h nx) oF (lY nx) bR 8 [] 0 (fun a ha=>by cases ha)).bN (fun ss n3 hs=>(nQ uX h nx _ _).bN (fun wh n4 hw=>aV _ ⟨?_,?_⟩) (fun wh=>ay _)) (fun ss=>(bG nx _ _ (by decide)).bind fun wh=>ay _)) (fun _=>(bV (lY nx) bR 8 []).bind fun ss=>(bG nx _ _ (by decide)).bind fun wh=>ay _)) (fun tb=>(bD _).bind fun _=>(bV (lY nx) bR 8 []).bind fun ss=>(bG nx _ _ (by decide)).bind fun wh=>ay _)
 ·show ((aX ss 1 8 mR&&aX wh 0 1 aK)&&(aQ tb&&_))=true
  rw[gL (a:=1) (b:=8) hs.2.1 hs.2.2 (fun x hx=>(hs.1 x hx).1),gL (Nat.zero_le _) hw.1 (fun x hx=>(hw.2 x hx).1),ht.1]
  rfl
 ·intro e he
  have he':e∈ss.map (fun x=>x.e)++wh:=by simpa [nM,gZ] using he
  rcases List.mem_append.1 he' with he | he
  ·obtain⟨x,hx,rfl⟩:=List.mem_map.1 he
   have:=(hs.1 x hx).2
   omega
  ·have:=(hw.2 e he).2
   omega
theorem AY {ex:Pa Ex} (h:eZ N ex jh) (nx:bf false 2001 ex):eZ N (fH ex) G7:=by
 unfold fH
 refine dA.bN (fun _ n1 _=>gy.bN (fun tb n2 ht=>(nQ uX h nx _ _).bN (fun wh n4 hw=>aV _ ⟨?_,?_⟩) (fun wh=>ay _)) (fun tb=>(bG nx _ _ (by decide)).bind fun wh=>ay _)) (fun _=>aZ.bind fun tb=>(bG nx _ _ (by decide)).bind fun wh=>ay _)
 ·show (aX wh 0 1 aK&&(aQ tb&&_))=true
  rw[gL (Nat.zero_le _) hw.1 (fun x hx=>(hw.2 x hx).1),ht.1]
  rfl
 ·intro e he
  have he':e∈wh:=by simpa [nM,gZ] using he
  have:=(hw.2 e he').2
  omega
theorem Ga {ex:Pa Ex} (h:eZ N ex jh) (nx:bf false 2001 ex):eZ N (dV ex) La:=by
 unfold dV
 have n1 : ∀i:It,bf false 2001 (aB (cK [41]) fun _=>aT i):=fun i=>(bD _).bind fun _=>ay _
 have n2 : ∀(k:Int) (b:Bool),bf false 2001 (aB (if b=true then aT ⟨3,[]⟩ else aB ex fun e=>aT (⟨k,[e]⟩:It)) fun i=>aB (cK [41]) fun _=>aT i):=fun k b=>iC.bind (by
  split
  ·exact ay _
  ·exact nx.bind fun e=>ay _) n1
 have n3 : ∀(k:Int),bf false 2001 (aB (if k=4 then fD [42] else aT false) fun b=>aB (if b=true then aT ⟨3,[]⟩ else aB ex fun e=>aT (⟨k,[e]⟩:It)) fun i=>aB (cK [41]) fun _=>aT i):=fun k=>iC.bind (by
  split
  ·exact pQ _
  ·exact ay _) (n2 k)
 have hone : ∀(k:Int) (e:Ex) (n:Nat),(k=2∨k=4∨k=5∨k=6∨k=7)→jh e n→La ⟨k,[e]⟩ n:=fun k e n hk he=>by
  refine ⟨?_,fun x hx=>by rw[List.mem_singleton.1 hx];exact he.2⟩
  unfold rJ
  dsimp only
  rw[if_neg (by omega),if_pos hk]
  exact gL (Nat.le_refl _) (Nat.le_refl _) (fun x hx=>by rw[List.mem_singleton.1 hx];exact he.1)
 refine gW (aV _ ⟨rfl,fun e he=>by cases he⟩) ((fF eu).bN (fun k m hk=>?_) (fun k=>?_))
 ·split
  ·exact h.bN (fun e i he=>aV _ (hone 2 e _ (.inl rfl) (he.mono (by omega)))) (fun e=>ay _)
  ·rename_i h0
   have hk4:k=4∨k=5∨k=6∨k=7:=by
    have:=(hk.resolve_left h0).1
    simpa [eu] using this
   refine dA.bN (fun _ n1' _=>eZ.bN (Q:=fun _ _=>True) ?_ (fun b n2' _=>eZ.bN (Q:=fun i n=>La i n) ?_ (fun i n3' hi=>dA.bN (fun _ n4' _=>aV _ ⟨hi.1,fun e he=>Nat.le_trans (hi.2 e he) (by omega)⟩) (fun _=>ay _)) n1) (n2 k)) (fun _=>n3 k)
   ·split
    ·exact nK _
    ·exact aV _ trivial
   ·split
    ·exact aV _ ⟨rfl,fun e he=>by cases he⟩
    ·exact h.bN (fun e i he=>aV _ (hone k e _ (.inr hk4) (he.mono (by omega)))) (fun e=>ay _)
 ·split
  ·exact nx.bind fun e=>ay _
  ·exact (bD _).bind fun _=>n3 k
theorem Fb {ex:Pa Ex} (h:eZ N ex jh) (nx:bf false 2001 ex):eZ N (iA ex) (fun j n=>qW j.1=true∧aX j.2 (kF j.1) (kF j.1) aK=true∧∀e∈j.2,qR e≤n):=by
 unfold iA
 refine gW (gy.bN (fun j n1 hj=>dA.bN (fun _ n2 _=>h.bN (fun e n3 he=>aV _ ⟨?_,?_,fun x hx=>by rw[List.mem_singleton.1 hx];have:=he.2;omega⟩) (fun e=>ay _)) (fun _=>nx.bind fun e=>ay _)) (fun j=>(bD _).bind fun _=>nx.bind fun e=>ay _)) (aV _ ⟨rfl,rfl,fun e he=>by cases he⟩)
 ·unfold qW
  dsimp only
  rw[hj.1]
  simp
 ·have:kF j=1:=if_neg (IX hj.1)
  dsimp only
  rw[this]
  exact gL (Nat.le_refl _) (Nat.le_refl _) (fun x hx=>by rw[List.mem_singleton.1 hx];exact he.1)
theorem BQ {ex:Pa Ex} (h:eZ N ex jh) (nx:bf false 2001 ex):eZ N (dY ex) G7:=by
 unfold dY
 have hcol:eZ N fq (fun e n=>jh e n∧fJ e=true):=xZ
 have hcm : ∀(a:Ex) (n m:Nat),(jh a n∧fJ a=true)→n≤m→(jh a m∧fJ a=true):=fun a n m h hm=>⟨h.1.mono hm,h.2⟩
 have n1 : ∀(its:List It) (tb:List UInt8) (j:List UInt8 × List Ex) (wh gr od:List Ex) (de:Bool),bf false 2001 (aB (gI [76,73,77,73,84] iT (aT (-1))) fun li=>aT { gZ 6 with tb:=tb,items:=its,jn:=j.1,on:=j.2,wh:=wh,gr:=gr,od:=od,desc:=de,lim:=li }):=fun its tb j wh gr od de=>(eU _ (fun h=>by cases h) j6.ok (ay _)).bind fun li=>ay _
 have n2 : ∀(its:List It) (tb:List UInt8) (j:List UInt8 × List Ex) (wh gr od:List Ex),bf false 2001 (aB (if od.length=0 then aT false else fD [68,69,83,67]) fun de=>aB (gI [76,73,77,73,84] iT (aT (-1))) fun li=>aT { gZ 6 with tb:=tb,items:=its,jn:=j.1,on:=j.2,wh:=wh,gr:=gr,od:=od,desc:=de,lim:=li }):=fun its tb j wh gr od=>iC.bind (by
  split
  ·exact ay _
  ·exact pQ _) (n1 its tb j wh gr od)
 refine (kG (P:=La) (fun a n m h hm=>⟨h.1,fun e he=>Nat.le_trans (h.2 e he) hm⟩) (Ga h nx) oF (oN nx) bR 8 [] 0 (fun a ha=>by cases ha)).bN (fun its m1 hi=>dA.bN (fun _ m2 _=>gy.bN (fun tb m3 ht=>(Fb h nx).bN (fun j m4 hj=>(nQ uX h nx _ _).bN (fun wh m5 hw=>(nQ hcm hcol dP _ _).bN (fun gr m6 hg=>(nQ hcm hcol dP _ _).bN (fun od m7 ho=>eZ.bN (Q:=fun de _=>(!de||decide (od.length=1))=true) ?_ (fun de m8 hde=>eZ.bN (Q:=fun li _=>-1≤li∧li≤9223372036854775807) (gW (xS.mp fun n m h=>⟨by omega,h.1.2⟩) (aV _ (by decide))) (fun li m9 hli=>aV _ ⟨?_,?_⟩) (fun li=>ay _)) (n1 its tb j wh gr od)) (n2 its tb j wh gr)) (fun gr=>(bG dP _ _ (by decide)).bind (n2 its tb j wh gr))) (fun wh=>(bG dP _ _ (by decide)).bind fun gr=>(bG dP _ _ (by decide)).bind (n2 its tb j wh gr))) (fun j=>(bG nx _ _ (by decide)).bind fun wh=>(bG dP _ _ (by decide)).bind fun gr=>(bG dP _ _ (by decide)).bind (n2 its tb j wh gr)))
   (fun tb=>(lV nx).bind fun j=>(bG nx _ _ (by decide)).bind fun wh=>(bG dP _ _ (by decide)).bind fun gr=>(bG dP _ _ (by decide)).bind (n2 its tb j wh gr)))
   (fun _=>aZ.bind fun tb=>(lV nx).bind fun j=>(bG nx _ _ (by decide)).bind fun wh=>(bG dP _ _ (by decide)).bind fun gr=>(bG dP _ _ (by decide)).bind (n2 its tb j wh gr)))
   (fun its=>(bD _).bind fun _=>aZ.bind fun tb=>(lV nx).bind fun j=>(bG nx _ _ (by decide)).bind fun wh=>(bG dP _ _ (by decide)).bind fun gr=>(bG dP _ _ (by decide)).bind (n2 its tb j wh gr))
 ·split
  ·exact aV _ rfl
  ·rename_i h0
   have:od.length=1:=by have:=ho.1;omega
   exact (nK _).mp fun b n _=>by rw[this];simp
 ·show ((aX its 1 8 rJ&&(qW j.1&&(aX j.2 (kF j.1) (kF j.1) aK&&(aX wh 0 1 aK&&(aX gr 0 1 fJ&&(aX od 0 1 fJ&&((!de||decide (od.length=1))&&decide (-1≤li∧li≤9223372036854775807))))))))&&(aQ tb&&_))=true
  rw[gL (a:=1) (b:=8) hi.2.1 hi.2.2 (fun x hx=>(hi.1 x hx).1),hj.1,hj.2.1,gL (Nat.zero_le _) hw.1 (fun x hx=>(hw.2 x hx).1),gL (Nat.zero_le _) hg.1 (fun x hx=>(hg.2 x hx).2),gL (Nat.zero_le _) ho.1 (fun x hx=>(ho.2 x hx).2),hde,decide_eq_true hli,ht.1]
  rfl
 ·intro e he
  have he':e∈its.flatMap (fun i=>i.xs)++(j.2++(wh++(gr++od))):=by simpa [nM,gZ] using he
  rcases List.mem_append.1 he' with he | he
  ·obtain⟨x,hx,hxe⟩:=List.mem_flatMap.1 he
   have:=(hi.1 x hx).2 e hxe
   omega
  rcases List.mem_append.1 he with he | he
  ·have:=hj.2.2 e he
   omega
  rcases List.mem_append.1 he with he | he
  ·have:=(hw.2 e he).2
   omega
  rcases List.mem_append.1 he with he | he
  ·have:=(hg.2 e he).1.2
   omega
  ·have:=(ho.2 e he).1.2
   omega
theorem kJ : ∀a n m,G7 a n→n≤m→G7 a m:=fun a n m h hm=>⟨h.1,fun e he=>Nat.le_trans (h.2 e he) hm⟩
theorem Et {ex:Pa Ex} (h:eZ N ex jh) (nx:bf false 2001 ex):eZ N (eH ex) G7:=by
 unfold eH
 refine (fF gK).bN (fun k n hk=>?_) (fun k=>?_)
 ·split
  ·exact Ak.mp fun a m h=>kJ _ _ _ h (by omega)
  split
  ·exact GK.mp fun a m h=>kJ _ _ _ h (by omega)
  split
  ·exact BM.mp fun a m h=>kJ _ _ _ h (by omega)
  split
  ·exact (Ba h nx).mp fun a m h=>kJ _ _ _ h (by omega)
  split
  ·exact (AY h nx).mp fun a m h=>kJ _ _ _ h (by omega)
  split
  ·exact (BQ h nx).mp fun a m h=>kJ _ _ _ h (by omega)
  ·exact (nV (by decide) (Q:=fun _ _=>False)).bN (fun _ _ h=>h.elim) (fun _=>ay _)
 ·split
  ·exact sw
  split
  ·exact wm
  split
  ·exact su
  split
  ·exact sG nx
  split
  ·exact sH nx
  split
  ·exact sO nx
  ·exact (fM 4 (by decide)).bind fun _=>ay _
theorem vE (F:Nat) (hnx:bf false 2001 (dG F)) (r:Rd) (h1:Ct r) (h2:r.d=0) (hb:(iJ F r).2.bad=0):aX (iJ F r).1 1 8 aM=true∧∀x∈(iJ F r).1,∀e∈nM x,qR e≤r.ts.length:=by
 have hb1:(aR (eH (dG F)) iG 8 [] r).2.bad=0:=(Kl (r:=(aR (eH (dG F)) iG 8 [] r).2) hb).1
 obtain⟨_,_,n,h3,h4,h5,h6⟩:=(kG (P:=G7) kJ (Et (Gm F) hnx) GN (pI hnx) rM 8 [] 0 (fun a ha=>by cases ha)).giv r h1 (by omega) (by omega) hb1
 refine ⟨gL h5 h6 (fun x hx=>(h4 x hx).1),fun x hx e he=>Nat.le_trans ((h4 x hx).2 e he) (by omega)⟩
theorem xg {s:List UInt8} (h:(dM s).2.1=0):aX (dM s).1 1 8 aM=true∧∀x∈(dM s).1,∀e∈nM x,qR e≤2001:=by
 have hg:=qb s
 have ht:=Eh s
 have hd:(dI s).d=0:=rfl
 unfold dM at h ⊢
 generalize dI s=r at hg ht hd h ⊢
 by_cases hb:(iJ 2001 r).2.bad=0
 ·rw[if_pos hb]
  obtain⟨h1,h2⟩:=vE 2001 oL r ht hd hb
  exact⟨h1,fun x hx e he=>Nat.le_trans (h2 x hx e he) hg.many⟩
 ·rw[if_neg hb] at h
  exact absurd h hb
theorem BO (L:List Tk) (m:Int):((vo L m).2=10∨(vo L m).2=2)∨(vo L m=(Lib.join (oh L) [32],0)∧m≤10∧(Lib.join (oh L) [32]).length≤2000):=by
 unfold vo
 by_cases h1:10<m
 ·rw[if_pos h1];exact .inl (.inl rfl)
 ·rw[if_neg h1]
  by_cases h2:2000<(Lib.join (oh L) [32]).length
  ·rw[if_pos h2];exact .inl (.inr rfl)
  ·rw[if_neg h2];exact .inr ⟨rfl,by omega,by omega⟩
theorem xC {l:List St} (h:aX l 1 8 aM=true):((jN l).2=10∨(jN l).2=2)∨((jN l).2=0∧dM (jN l).1=(l,0,0)∧(jN l).1.length≤2000):=by
 unfold jN
 rw[if_neg (by have:=(dO h).2;omega),if_pos h]
 rcases BO (bL (aJ [59]) (l.map kW)) ((dJ (l.map vJ):Nat):Int) with h1 | ⟨h1,h2,h3⟩
 ·exact .inl h1
 ·rw[h1]
  refine .inr ⟨rfl,za h (fun s hs=>lg (show dJ (l.map vJ)≤10 by omega) _ (List.mem_map.2 ⟨s,hs,rfl⟩)) (bA.sep (bO (by decide)) (fun x hx=>?_)) h3,h3⟩
  obtain⟨s,hs,rfl⟩:=List.mem_map.1 hx
  exact uO (bC h s hs)
end Go.Proofs.YtaaggohjmhifbaaGreatDoor
namespace Go.Proofs.YtaaggohjmhifbaaGreatDoor
open Go.RowKit Go.Shelf
set_option linter.unusedSimpArgs false
set_option linter.unusedVariables false
set_option maxRecDepth 20000
set_option maxHeartbeats 8000000
structure Tb where
 nm:List UInt8
 cols:List Co
 pr:Int
def vB:Tb:=⟨[],[],0⟩
def qh (l:List Co) (i:Nat):List UInt8:=(l[i]?.map Co.nm).getD []
def bT (t:Tb):St:={ gZ 1 with tb:=t.nm,cols:=t.cols,prim:=qh t.cols t.pr.toNat }
def dQ (l:List Co) (nm:List UInt8):Nat:=l.findIdx fun c=>decide (c.nm=nm)
def KZ (c:Co):Co:={ c with nn:=true,uq:=true }
def keyed (l:List Co) (p:Nat):List Co:=l.modify p KZ
def qP (a b:Co):Bool:=decide (a.nm=b.nm∧a.k=b.k∧a.nn=b.nn∧a.uq=b.uq)
theorem xP (a b:Co):qP a b=true↔a=b:=by
 obtain⟨a1,a2,a3,a4⟩:=a
 obtain⟨b1,b2,b3,b4⟩:=b
 simp[qP]
theorem jW : ∀(xs ys:List Co),Lib.allEq qP xs ys=true↔xs=ys
 | [],[]=>by simp[Lib.allEq]
 | [],y::ys=>by simp[Lib.allEq]
 | x::xs,[]=>by simp[Lib.allEq]
 |
  x::xs,y::ys=>by
  rw[Lib.allEq,Bool.and_eq_true,xP,jW xs ys,List.cons.injEq]
theorem qw {l:List Co} {nm:List UInt8} (h:dQ l nm<l.length):(l[dQ l nm]'h).nm=nm:=by
 have:=List.findIdx_getElem (w:=h) (p:=fun c:Co=>decide (c.nm=nm))
 exact of_decide_eq_true this
theorem pz {l:List Co} {nm:List UInt8} {j:Nat} (h:j<dQ l nm) (hj:j<l.length):(l[j]'hj).nm≠nm:=fun e=>by
 have:=List.not_of_lt_findIdx (p:=fun c:Co=>decide (c.nm=nm)) h
 simp[e] at this
theorem tO {l:List Co} {nm:List UInt8} {j:Nat} (hj:j<l.length) (h:(l[j]'hj).nm=nm):dQ l nm≤j:=by
 rcases Nat.lt_or_ge j (dQ l nm) with h1 | h1
 ·exact absurd h (pz h1 hj)
 ·exact h1
theorem uD {l:List Co} (hn:(l.map Co.nm).Nodup) {j:Nat} (hj:j<l.length):dQ l (l[j]'hj).nm=j:=by
 have h1:=tO hj (rfl:(l[j]'hj).nm=_)
 have h2:dQ l (l[j]'hj).nm<l.length:=by omega
 have h3:=qw h2
 have h4:(l.map Co.nm)[dQ l (l[j]'hj).nm]'(by simpa using h2)=(l.map Co.nm)[j]'(by simpa using hj):=by simpa using h3
 exact (List.getElem_inj hn).1 h4
theorem uY {l:List Co} (h : ∀j (hj:j<l.length),dQ l (l[j]'hj).nm=j):(l.map Co.nm).Nodup:=by
 rw[List.nodup_iff_pairwise_ne,List.pairwise_iff_getElem]
 intro i j hi hj hij e
 simp only[List.getElem_map] at e
 simp only[List.length_map] at hi hj
 have h1:=h i hi
 have h2:=h j hj
 rw[e,h2] at h1
 omega
theorem fA (l:List Co) (p:Nat):(keyed l p).length=l.length:=by simp[keyed]
theorem nL (l:List Co) (p j:Nat):(keyed l p)[j]?=if p=j then l[j]?.map KZ else l[j]?:=by
 unfold keyed
 rw[List.getElem?_modify]
 split
 ·rfl
 ·simp
theorem ru (l:List Co) (p:Nat):(keyed l p).map Co.nm=l.map Co.nm:=by
 apply List.ext_getElem?
 intro j
 rw[List.getElem?_map,List.getElem?_map,nL]
 split
 ·cases l[j]?<;>rfl
 ·rfl
theorem yJ (l:List Co) (p:Nat):keyed (keyed l p) p=keyed l p:=by
 apply List.ext_getElem?
 intro j
 rw[nL,nL]
 split
 ·cases l[j]?<;>rfl
 ·rfl
theorem nZ (nm:List UInt8):∀l:List Co,dQ l nm=(l.map Co.nm).findIdx fun x=>decide (x=nm)
 | []=>rfl
 |
  c::l=>by
  unfold dQ
  rw[List.map_cons,List.findIdx_cons,List.findIdx_cons,← nZ nm l]
  rfl
theorem Dk (l:List Co) (p:Nat) (nm:List UInt8):dQ (keyed l p) nm=dQ l nm:=by
 rw[nZ,nZ,ru]
theorem wP {l:List Co} {p:Nat} {c:Co} (h:c∈keyed l p):∃d∈l,c.nm=d.nm∧c.k=d.k:=by
 obtain⟨j,hj⟩:=List.getElem?_of_mem h
 rw[nL] at hj
 split at hj
 ·cases hl:l[j]? with
  | none=>rw[hl] at hj;cases hj
  |
   some d =>
   rw[hl,Option.map_some,Option.some.injEq] at hj
   subst hj
   exact⟨d,List.mem_of_getElem? hl,rfl,rfl⟩
 ·exact⟨c,List.mem_of_getElem? hj,rfl,rfl⟩
theorem GJ {l m:List Co} (h:l.map Co.nm=m.map Co.nm) (i:Nat):qh l i=qh m i:=by
 unfold qh
 rw[← List.getElem?_map,← List.getElem?_map,h]
theorem tT {l:List Co} {i:Nat} (h:i<l.length):qh l i=(l[i]'h).nm:=by
 unfold qh
 rw[List.getElem?_eq_getElem h]
 rfl
def bY (s:St):Tb × Int :=
 if s.k=1∧aM s=true then
  if (s.cols.map Co.nm).Nodup then
   (if dQ s.cols s.prim<s.cols.length then (⟨s.tb,keyed s.cols (dQ s.cols s.prim),(dQ s.cols s.prim:Nat)⟩,0) else (vB,12))
  else (vB,13)
 else (vB,4)
def pX (t:Tb):Bool:=decide (0≤t.pr∧t.pr<t.cols.length)&&(decide ((bY (bT t)).2=0)&&Lib.allEq qP (bY (bT t)).1.cols t.cols)
def nD (t:Tb):List UInt8 × Int:=if pX t=true then jN [bT t] else ([],4)
def uj (s:List UInt8):Tb × Int :=
 if (dM s).2.1=0∧(dM s).1.length=1 then
  (if (bY ((dM s).1.headD (gZ 0))).2=0 then (if (nD (bY ((dM s).1.headD (gZ 0))).1).1=s then ((bY ((dM s).1.headD (gZ 0))).1,0) else (vB,4)) else (vB,4))
 else (vB,4)
theorem mH {s:St} (h:(bY s).2=0):s.k=1∧aM s=true∧(s.cols.map Co.nm).Nodup∧dQ s.cols s.prim<s.cols.length∧bY s=(⟨s.tb,keyed s.cols (dQ s.cols s.prim),(dQ s.cols s.prim:Nat)⟩,0):=by
 unfold bY at h ⊢
 by_cases h1:s.k=1∧aM s=true
 ·rw[if_pos h1] at h ⊢
  by_cases h2:(s.cols.map Co.nm).Nodup
  ·rw[if_pos h2] at h ⊢
   by_cases h3:dQ s.cols s.prim<s.cols.length
   ·rw[if_pos h3] at h ⊢
    exact⟨h1.1,h1.2,h2,h3,rfl⟩
   ·rw[if_neg h3] at h;cases h
  ·rw[if_neg h2] at h;cases h
 ·rw[if_neg h1] at h;cases h
theorem jT {s:St} (hk:s.k=1) (h:aM s=true):aX s.cols 1 8 gB=true∧aQ s.prim=true∧aQ s.tb=true:=by
 unfold aM lu at h
 rw[if_pos hk] at h
 simp only[Bool.and_eq_true] at h
 exact⟨h.1.1,h.1.2,h.2.1⟩
theorem xJ {t:Tb} (h1:aX t.cols 1 8 gB=true) (h2:aQ (qh t.cols t.pr.toNat)=true) (h3:aQ t.nm=true):aM (bT t)=true:=by
 unfold aM lu
 rw[if_pos (show (bT t).k=1 from rfl)]
 simp only[Bool.and_eq_true]
 refine ⟨⟨h1,h2⟩,h3,?_⟩
 unfold vY
 rw[if_pos (show (bT t).k=1 from rfl)]
 simp[bT,gZ,mQ]
theorem Am {s:St} (h:(bY s).2=0):bY (bT (bY s).1)=bY s:=by
 obtain⟨hk,hr,hn,hi,e⟩:=mH h
 obtain⟨r1,r2,r3⟩:=jT hk hr
 rw[e]
 generalize hp:dQ s.cols s.prim=p at *
 have hpr:qh (keyed s.cols p) p=s.prim:=by
  rw[GJ (ru s.cols p),tT hi]
  have:=qw (l:=s.cols) (nm:=s.prim) (by rw[hp];exact hi)
  simp only[hp] at this
  exact this
 have hcr:bT ⟨s.tb,keyed s.cols p,(p:Nat)⟩ = { gZ 1 with tb:=s.tb,cols:=keyed s.cols p,prim:=s.prim }:=by
  unfold bT
  dsimp only
  rw[Int.toNat_natCast,hpr]
 have hri:aM (bT ⟨s.tb,keyed s.cols p,(p:Nat)⟩)=true:=by
  refine xJ ?_ ?_ r3
  ·refine gL (by rw[fA];exact (dO r1).1) (by rw[fA];exact (dO r1).2) (fun c hc=>?_)
   obtain⟨d,hd,e1,e2⟩:=wP hc
   have:=bC r1 d hd
   unfold gB at this ⊢
   rw[e1,e2]
   exact this
  ·dsimp only
   rw[Int.toNat_natCast,hpr]
   exact r2
 unfold bY
 rw[if_pos ⟨rfl,hri⟩,hcr]
 dsimp only
 rw[ru,if_pos hn,Dk,hp,fA,if_pos hi,yJ]
theorem Gp {s:St} (h:(bY s).2=0):pX (bY s).1=true:=by
 have ha:=Am h
 obtain⟨hk,hr,hn,hi,e⟩:=mH h
 unfold pX
 rw[ha,h,decide_eq_true (rfl:(0:Int)=0),(jW _ _).2 rfl,Bool.true_and,Bool.and_true]
 rw[e]
 dsimp only
 rw[fA]
 exact decide_eq_true ⟨by omega,by omega⟩
theorem yC {t:Tb} (h:pX t=true):bY (bT t)=(t,0):=by
 unfold pX at h
 simp only[Bool.and_eq_true,decide_eq_true_eq] at h
 obtain⟨⟨h1,h2⟩,h3,h4⟩:=h
 obtain⟨hk,hr,hn,hi,e⟩:=mH h3
 have hc:=(jW _ _).1 h4
 rw[e] at hc ⊢
 obtain⟨nm,cols,pr⟩:=t
 dsimp only[bT] at *
 obtain⟨p,rfl⟩:=Int.eq_ofNat_of_zero_le h1
 have hp:p<cols.length:=by omega
 have e1:dQ cols (qh cols p)=p:=by
  rw[tT hp]
  exact uD hn hp
 rw[Int.toNat_natCast,e1] at hc ⊢
 rw[hc]
theorem uV (n:Nat):∀(l:List (List UInt8)),(∀x∈l,x.length≤n)→(Lib.join l [32]).length≤l.length*(n+1)
 | [],_=>by simp[Lib.join_nil]
 |
  [x],h=>by
  rw[Lib.join_one]
  have:=h x (by simp)
  simp
  omega
 |
  x::y::l,h=>by
  have ih:=uV n (y::l) (fun z hz=>h z (by simp at hz ⊢;exact .inr hz))
  have hx:=h x (by simp)
  have e:Lib.join (x::y::l) [32]=x++32::Lib.join (y::l) [32]:=by
   rw[Lib.join_cons,Lib.join_cons]
   simp[Lib.joinTail]
  rw[e]
  simp only[List.length_append,List.length_cons] at ih ⊢
  rw[Nat.add_mul (l.length+1) 1]
  omega
def Sh (t:Tk):Prop:=(t.k=1∨t.k=2∨t.k=5)∧t.s.length≤16
theorem Cq {s:List UInt8} (h:s.length≤16):Sh (aJ s):=by
 unfold aJ
 split
 ·exact⟨.inr (.inl rfl),h⟩
 ·exact⟨.inr (.inr rfl),h⟩
theorem FT {s:List UInt8} (h:aQ s=true):Sh (cB s):=⟨.inl rfl,fE h⟩
theorem og {l:List (List UInt8)} (h : ∀s∈l,s.length≤16):∀t∈au l,Sh t:=fun t ht=>by
 obtain⟨s,hs,rfl⟩:=List.mem_map.1 ht
 exact Cq (h s hs)
theorem KG {t:Tk} (h:Sh t):(wr t).length≤16:=by
 unfold wr
 rw[if_neg (by rcases h.1 with e | e | e<;>rw[e]<;>decide),if_neg (by rcases h.1 with e | e | e<;>rw[e]<;>decide)]
 exact h.2
theorem Gx {sep:Tk} (hs:Sh sep):∀{l:List (List Tk)},(∀x∈l,∀t∈x,Sh t)→∀t∈bL sep l,Sh t
 | [],_,t,ht=>by cases ht
 | [x],h,t,ht=>h x (by simp) t (by simpa [bL] using ht)
 |
  x::y::l,h,t,ht=>by
  have e:bL sep (x::y::l)=x++sep::bL sep (y::l):=rfl
  rw[e] at ht
  rcases List.mem_append.1 ht with ht | ht
  ·exact h x (by simp) t ht
  ·rcases List.mem_cons.1 ht with rfl | ht
   ·exact hs
   ·exact Gx hs (fun z hz=>h z (by simp at hz ⊢;exact .inr hz)) t ht
theorem JF {c:Co} (h:gB c=true):∀t∈jD c,Sh t:=fun t ht=>by
 unfold gB at h
 rw[Bool.and_eq_true] at h
 unfold jD at ht
 rcases List.mem_cons.1 ht with rfl | ht
 ·exact FT h.1
 ·rcases List.mem_cons.1 ht with rfl | ht
  ·split<;>exact Cq (by decide)
  ·rcases List.mem_append.1 ht with ht | ht
   ·split at ht
    ·exact og (by decide) t ht
    ·cases ht
   ·split at ht
    ·exact og (by decide) t ht
    ·cases ht
theorem Dt {s:St} (hk:s.k=1) (h:aM s=true):∀t∈kW s,Sh t:=fun t ht=>by
 obtain⟨h1,h2,h3⟩:=jT hk h
 unfold kW at ht
 rw[if_pos hk] at ht
 unfold KF at ht
 rcases List.mem_append.1 ht with ht | ht
 ·exact og (by decide) t ht
 ·rcases List.mem_cons.1 ht with rfl | ht
  ·exact FT h3
  ·rcases List.mem_cons.1 ht with rfl | ht
   ·exact Cq (by decide)
   ·rcases List.mem_append.1 ht with ht | ht
    ·refine Gx (Cq (by decide)) (fun x hx=>?_) t ht
     obtain⟨c,hc,rfl⟩:=List.mem_map.1 hx
     exact JF (bC h1 c hc)
    ·rcases List.mem_append.1 ht with ht | ht
     ·exact og (by decide) t ht
     ·rcases List.mem_cons.1 ht with rfl | ht
      ·exact FT h2
      ·exact og (by decide) t ht
theorem AU {s:St} (hk:s.k=1) (h:aM s=true):(kW s).length≤61:=by
 obtain⟨h1,h2,h3⟩:=jT hk h
 have hc:=mV (aJ [44]) jD 5 s.cols (fun c _=>CF c)
 have h8:=(dO h1).2
 unfold kW
 rw[if_pos hk]
 unfold KF au
 simp only[List.length_append,List.length_cons,List.length_map,List.length_nil]
 omega
theorem sj {s:St} (h:aM s=true):aX [s] 1 8 aM=true:=by
 unfold aX
 simp[h]
theorem sF {s:St} (hk:s.k=1) (h:aM s=true):(jN [s]).2=0∧(jN [s]).1.length≤2000:=by
 have hA:=sj h
 have e:jN [s]=vo (kW s) 0:=by
  unfold jN
  rw[if_neg (by simp),if_pos hA]
  have e1:bL (aJ [59]) ([s].map kW)=kW s:=by simp[bL]
  have e2:dJ ([s].map vJ)=0:=by
   have:vJ s=0:=by
    unfold vJ
    rw[if_neg (by omega),if_neg (by omega),if_neg (by omega)]
   simp[dJ,this]
  rw[e1,e2]
  rfl
 have hb : ¬2000<(Lib.join (oh (kW s)) [32]).length:=by
  have h2:=uV 16 (oh (kW s)) (fun x hx=>by
   unfold oh at hx
   obtain⟨t,ht,rfl⟩:=List.mem_map.1 hx
   exact KG (Dt hk h t (List.mem_filter.1 ht).1))
  have h3:(oh (kW s)).length≤61:=by
   unfold oh
   rw[List.length_map]
   exact Nat.le_trans (List.length_filter_le _ _) (AU hk h)
  have h4:(oh (kW s)).length*(16+1)≤61*17:=Nat.mul_le_mul_right _ h3
  omega
 rw[e]
 unfold vo
 rw[if_neg (by decide),if_neg hb]
 exact⟨rfl,by show (Lib.join _ _).length≤2000;omega⟩
theorem xE {s:St} (hk:s.k=1) (h:aM s=true):(jN [s]).2=0∧dM (jN [s]).1=([s],0,0)∧(jN [s]).1.length≤2000:=by
 obtain⟨h0,hl⟩:=sF hk h
 rcases xC (sj h) with h1 | h1
 ·rw[h0] at h1
  rcases h1 with h1 | h1<;>exact absurd h1 (by decide)
 ·exact h1
theorem Jc {t:Tb} (h:pX t=true):(nD t).2=0∧uj (nD t).1=(t,0)∧(nD t).1.length≤2000:=by
 have hm:=yC h
 have hk:=mH (s:=bT t) (by rw[hm])
 obtain⟨h1,h2,h3⟩:=xE hk.1 hk.2.1
 have e:nD t=jN [bT t]:=by unfold nD;rw[if_pos h]
 refine ⟨by rw[e];exact h1,?_,by rw[e];exact h3⟩
 unfold uj
 rw[e,h2]
 have hh:(([bT t],(0:Int),(0:Int)).1.headD (gZ 0))=bT t:=rfl
 rw[if_pos ⟨rfl,rfl⟩,hh,if_pos (by rw[hm]),if_pos (by rw[hm,e]),hm]
end Go.Proofs.YtaaggohjmhifbaaGreatDoor
