/- Packed for the hand-in: WGiveS WRg CDef CPure -/
import Derived.Test.YtaaggohjmhifbaaGreatDoorZ44
import Derived.Test.YtaaggohjmhifbaaGreatDoorZ43
import Derived.Test.YtaaggohjmhifbaaGreatDoorZ36
import Derived.Test.YtaaggohjmhifbaaGreatDoorZ28
import Derived.Lib.SlBy2
namespace Go.Proofs.YtaaggohjmhifbaaGreatDoor
set_option linter.unusedSimpArgs false
set_option linter.unusedVariables false
set_option maxHeartbeats 8000000
variable {N : Nat}
theorem fE.bV {α β:Type} {p:Pa α} {q:α→Pa β} {Q:α→Nat→Prop} {R:β→Nat→Prop} (hp:fE N p Q) (hq : ∀a n,Q a n→fE N (q a) (fun b m=>R b (n+m))) (hn : ∀a,bE false 2001 (q a)):fE N (aF p q) R:=hp.bind hq (fun a=>jP (hn a))
theorem lN {α:Type} {one:Pa α} {more:Pa Bool} {P:α→Nat→Prop} (hP : ∀a n m,P a n→n≤m→P a m) (h1:fE N one P) (h2:fE N more (fun _ _=>True)) (n1:bE false 2001 one) (n2:bE false 2001 more) :
  ∀(m:Nat) (acc:List α) (k:Nat),(∀a∈acc,P a k)→fE N (aU one more m acc) (fun l n=>(∀a∈l,P a (k+n))∧acc.length+1≤l.length∧l.length≤acc.length+m)
 | 0,acc,k,hacc=>(ow (by decide) (Q:=fun _ _=>False)).bV (fun a n h=>h.elim) (fun _=>aA _)
 |
  m+1,acc,k,hacc=>by
  have hadd : ∀(x:α) (n j:Nat),P x n→∀a∈acc++[x],P a (k+n+j):=fun x n j hx a ha=>by
   rcases List.mem_append.1 ha with ha | ha
   ·exact hP _ _ _ (hacc a ha) (by omega)
   ·rw[List.mem_singleton] at ha
    subst ha
    exact hP _ _ _ hx (by omega)
  refine h1.bV (fun x n hx=>h2.bV (fun b j _=>?_) (fun b=>?_)) (fun x=>n2.bind fun b=>?_)
  ·split
   ·refine (lN hP h1 h2 n1 n2 m (acc++[x]) (k+n) (hadd x n 0 hx)).mp ?_
    rintro l i ⟨ha,hb,hc⟩
    simp only[List.length_append,List.length_cons,List.length_nil] at hb hc
    exact⟨fun a h=>hP _ _ _ (ha a h) (by omega),by omega,by omega⟩
   ·refine bB _ ⟨fun a ha=>hP _ _ _ (hadd x n 0 hx a ha) (by omega),by simp,by simp⟩
  ·split
   ·exact dn n1 n2 m _
   ·exact aA _
  ·split
   ·exact dn n1 n2 m _
   ·exact aA _
theorem nV (t:List UInt8):fE N (fI t) (fun _ _=>True):=iF (bB _ trivial) (bB _ trivial)
theorem qw (t:List UInt8):bE false 2001 (fI t):=jR _ (fun h=>by cases h)
theorem pK:fE N bO (fun _ _=>True):=nV _
theorem Gh:fE N iV (fun _ _=>True):=nV _
theorem pF : ∀l:List (List UInt8),fE N (aJ l) (fun _ _=>True)
 | []=>bB _ trivial
 | t::l=>dL.bV (fun _ n _=>(pF l).mp fun _ _ _=>trivial) (fun _=>bC l)
theorem oq {read:Pa Ex} {P:Ex→Nat→Prop} (hP : ∀a n m,P a n→n≤m→P a m) (h:fE N read P) (nr:bE false 2001 read) (w:List UInt8) (ws:List (List UInt8)):fE N (bQ read w ws) (fun l n=>l.length≤1∧∀x∈l,P x n) :=
 iF ((pF ws).bV (fun _ n _=>h.bV (fun e m he=>bB _ ⟨Nat.le_refl _,fun x hx=>by
  rw[List.mem_singleton] at hx
  subst hx
  exact hP _ _ _ he (by omega)⟩) (fun e=>aA _)) (fun _=>nr.bind fun e=>aA _)) (bB _ ⟨Nat.zero_le _,fun x hx=>by cases hx⟩)
theorem CB:fE N fC (fun c _=>jT c=true):=by
 unfold fC
 have n4 : ∀(nm:List UInt8) (k:Int) (nn:Bool),bE false 2001 (aF (fI [85,78,73,81,85,69]) fun uq=>bg (⟨nm,k,nn,uq⟩:Co)):=fun nm k nn=>(qw _).bind fun uq=>aA _
 have n3 : ∀(nm:List UInt8) (k:Int),bE false 2001 (aF (gV [78,79,84] (aF (dB [78,85,76,76]) fun _=>bg true) (bg false)) fun nn=>aF (fI [85,78,73,81,85,69]) fun uq=>bg (⟨nm,k,nn,uq⟩:Co)):=fun nm k=>(fD _ (fun h=>by cases h) ((bM _).bind fun _=>aA _).ok (aA _)).bind fun nn=>n4 nm k nn
 have n2 : ∀(nm:List UInt8) (k:Int),bE false 2001 (aF (if k=0 then iU 4 else bg ()) fun _=>aF (gV [78,79,84] (aF (dB [78,85,76,76]) fun _=>bg true) (bg false)) fun nn=>aF (fI [85,78,73,81,85,69]) fun uq=>bg (⟨nm,k,nn,uq⟩:Co)):=fun nm k=>iT.bind (by
  split
  ·exact gD 4 (by decide)
  ·exact aA _) fun _=>n3 nm k
 refine gT.bV (fun nm n hn=>(fQ gX).bV (fun k m hk=>fE.bV (Q:=fun _ _=>k≠0) ?_ (fun _ i hk0=>?_) (fun _=>n3 nm k)) (fun k=>n2 nm k)) (fun nm=>(dN _ (fun h=>by cases h)).bind fun k=>n2 nm k)
 ·split
  ·exact ow (by decide)
  ·rename_i h0
   exact bB _ h0
 ·have hc : ∀nn uq,jT ⟨nm,k,nn,uq⟩=true:=fun nn uq=>by
   have hk12:=(hk.resolve_left hk0).1
   have:k=1∨k=2:=by simpa [gX] using hk12
   unfold jT
   dsimp only
   rw[hn.1]
   simp[this]
  refine fE.bV (Q:=fun _ _=>True) (iF (dL.bV (fun _ _ _=>bB _ trivial) (fun _=>aA _)) (bB _ trivial)) (fun nn _ _=>(nV _).bV (fun uq _ _=>bB _ (hc nn uq)) (fun uq=>aA _)) (fun nn=>n4 nm k nn)
theorem gK {α:Type} {l:List α} {a b:Nat} {p:α→Bool} (h1:a≤l.length) (h2:l.length≤b) (h : ∀x∈l,p x=true):aZ l a b p=true:=by
 unfold aZ
 simp only[Bool.and_eq_true,decide_eq_true_eq,List.all_eq_true]
 exact⟨⟨h1,h2⟩,h⟩
theorem Cj:fE N fZ (fun l _=>ru l=true):=by
 unfold fZ
 refine dL.bV (fun _ n _=>(lN (P:=fun v _=>gG v=true) (fun a n m h _=>h) (xU.mp fun v n h=>h.1) pK nT bZ 8 [] 0 (fun a ha=>by cases ha)).bV (fun l m hl=>dL.bV (fun _ i _=>bB _ (gK hl.2.1 hl.2.2 hl.1)) (fun _=>aA _)) (fun l=>(bM _).bind fun _=>aA _)) (fun _=>(dn nT bZ 8 []).bind fun l=>(bM _).bind fun _=>aA _)
def Ip (s:St) (n:Nat):Prop:=bP s=true∧∀e∈oK s,rQ e≤n
theorem Cg:fE N dK Ip:=by
 unfold dK
 refine dL.bV (fun _ _ _=>gT.bV (fun tb _ ht=>dL.bV (fun _ _ _=>(lN (P:=fun v _=>jT v=true) (fun a n m h _=>h) CB (iF (Q:=fun _ _=>True) (fE.bV (Q:=fun _ _=>True) ⟨fun r h=>h,fun r hr _ _ _=>⟨hr,rfl,0,Nat.le_refl _,trivial⟩⟩ (fun b _ _=>bB _ trivial) (fun b=>aA _)) ((ow (by decide) (Q:=fun _ _=>True)).bV (fun _ _ _=>bB _ trivial) (fun _=>aA _))) iG eF 8 [] 0 (fun a ha=>by cases ha)).bV (fun cs _ hc=>(pF _).bV (fun _ _ _=>gT.bV (fun pr _ hp=>(pF _).bV (fun _ _ _=>bB _ ?_) (fun _=>aA _)) (fun pr=>(bC _).bind fun _=>aA _)) (fun _=>bD.bind fun pr=>(bC _).bind fun _=>aA _)) (fun cs=>(bC _).bind fun _=>bD.bind fun pr=>(bC _).bind fun _=>aA _)) (fun _=>(dn iG eF 8 []).bind fun cs=>(bC _).bind fun _=>bD.bind fun pr=>(bC _).bind fun _=>aA _)) (fun tb=>(bM _).bind fun _=>(dn iG eF 8 []).bind fun cs=>(bC _).bind fun _=>bD.bind fun pr=>(bC _).bind fun _=>aA _)) (fun _=>bD.bind fun tb=>(bM _).bind fun _=>(dn iG eF 8 []).bind fun cs=>(bC _).bind fun _=>bD.bind fun pr=>(bC _).bind fun _=>aA _)
 refine ⟨?_,fun e he=>by simp[oK,gQ] at he⟩
 have h8:aZ cs 1 8 jT=true:=gK hc.2.1 hc.2.2 hc.1
 unfold bP mK
 simp only[if_pos]
 rw[h8,hp.1,ht.1]
 rfl
theorem G8:fE N kE Ip:=by
 unfold kE
 refine dL.bV (fun _ _ _=>gT.bV (fun tb _ ht=>bB _ ⟨?_,fun e he=>by simp[oK,gQ] at he⟩) (fun tb=>aA _)) (fun _=>bD.bind fun tb=>aA _)
 show (true&&(bL tb&&_))=true
 rw[ht.1]
 rfl
theorem Bg:fE N dP Ip:=by
 unfold dP
 refine dL.bV (fun _ _ _=>gT.bV (fun tb _ ht=>dL.bV (fun _ _ _=>(lN (P:=fun v _=>ru v=true) (fun a n m h _=>h) Cj pK iJ bZ 16 [] 0 (fun a ha=>by cases ha)).bV (fun rs _ hr=>bB _ ⟨?_,fun e he=>by simp[oK,gQ] at he⟩) (fun rs=>aA _)) (fun _=>(dn iJ bZ 16 []).bind fun rs=>aA _)) (fun tb=>(bM _).bind fun _=>(dn iJ bZ 16 []).bind fun rs=>aA _)) (fun _=>bD.bind fun tb=>(bM _).bind fun _=>(dn iJ bZ 16 []).bind fun rs=>aA _)
 show (aZ rs 1 16 ru&&(bL tb&&_))=true
 rw[gK (a:=1) (b:=16) hr.2.1 hr.2.2 hr.1,ht.1]
 rfl
theorem uL : ∀a n m,jH a n→n≤m→jH a m:=fun a n m h hm=>h.mono hm
def L9 (s:Se) (n:Nat):Prop:=pW s=true∧rQ s.e≤n
def LU (i:It) (n:Nat):Prop:=uQ i=true∧∀e∈i.xs,rQ e≤n
theorem JJ {ex:Pa Ex} (h:fE N ex jH) (nx:bE false 2001 ex):fE N (oM ex) L9:=by
 unfold oM
 refine gT.bV (fun nm n hn=>dL.bV (fun _ m _=>h.bV (fun e i he=>bB _ ⟨?_,?_⟩) (fun e=>aA _)) (fun _=>nx.bind fun e=>aA _)) (fun nm=>(bM _).bind fun _=>nx.bind fun e=>aA _)
 ·unfold pW
  dsimp only
  rw[hn.1,he.1]
  rfl
 ·show rQ e≤_
  have:=he.2
  omega
theorem Cw {ex:Pa Ex} (h:fE N ex jH) (nx:bE false 2001 ex):fE N (dJ ex) Ip:=by
 unfold dJ
 refine gT.bV (fun tb n1 ht=>dL.bV (fun _ n2 _=>(lN (P:=L9) (fun a n m h hm=>⟨h.1,Nat.le_trans h.2 hm⟩) (JJ h nx) pK (mG nx) bZ 8 [] 0 (fun a ha=>by cases ha)).bV (fun ss n3 hs=>(oq uL h nx _ _).bV (fun wh n4 hw=>bB _ ⟨?_,?_⟩) (fun wh=>aA _)) (fun ss=>(bN nx _ _ (by decide)).bind fun wh=>aA _)) (fun _=>(dn (mG nx) bZ 8 []).bind fun ss=>(bN nx _ _ (by decide)).bind fun wh=>aA _)) (fun tb=>(bM _).bind fun _=>(dn (mG nx) bZ 8 []).bind fun ss=>(bN nx _ _ (by decide)).bind fun wh=>aA _)
 ·show ((aZ ss 1 8 pW&&aZ wh 0 1 aP)&&(bL tb&&_))=true
  rw[gK (a:=1) (b:=8) hs.2.1 hs.2.2 (fun x hx=>(hs.1 x hx).1),gK (Nat.zero_le _) hw.1 (fun x hx=>(hw.2 x hx).1),ht.1]
  rfl
 ·intro e he
  have he':e∈ss.map (fun x=>x.e)++wh:=by simpa [oK,gQ] using he
  rcases List.mem_append.1 he' with he | he
  ·obtain⟨x,hx,rfl⟩:=List.mem_map.1 he
   have:=(hs.1 x hx).2
   omega
  ·have:=(hw.2 e he).2
   omega
theorem CK {ex:Pa Ex} (h:fE N ex jH) (nx:bE false 2001 ex):fE N (fV ex) Ip:=by
 unfold fV
 refine dL.bV (fun _ n1 _=>gT.bV (fun tb n2 ht=>(oq uL h nx _ _).bV (fun wh n4 hw=>bB _ ⟨?_,?_⟩) (fun wh=>aA _)) (fun tb=>(bN nx _ _ (by decide)).bind fun wh=>aA _)) (fun _=>bD.bind fun tb=>(bN nx _ _ (by decide)).bind fun wh=>aA _)
 ·show (aZ wh 0 1 aP&&(bL tb&&_))=true
  rw[gK (Nat.zero_le _) hw.1 (fun x hx=>(hw.2 x hx).1),ht.1]
  rfl
 ·intro e he
  have he':e∈wh:=by simpa [oK,gQ] using he
  have:=(hw.2 e he').2
  omega
theorem Ih {ex:Pa Ex} (h:fE N ex jH) (nx:bE false 2001 ex):fE N (eH ex) LU:=by
 unfold eH
 have n1 : ∀i:It,bE false 2001 (aF (dB [41]) fun _=>bg i):=fun i=>(bM _).bind fun _=>aA _
 have n2 : ∀(k:Int) (b:Bool),bE false 2001 (aF (if b=true then bg ⟨3,[]⟩ else aF ex fun e=>bg (⟨k,[e]⟩:It)) fun i=>aF (dB [41]) fun _=>bg i):=fun k b=>iT.bind (by
  split
  ·exact aA _
  ·exact nx.bind fun e=>aA _) n1
 have n3 : ∀(k:Int),bE false 2001 (aF (if k=4 then fI [42] else bg false) fun b=>aF (if b=true then bg ⟨3,[]⟩ else aF ex fun e=>bg (⟨k,[e]⟩:It)) fun i=>aF (dB [41]) fun _=>bg i):=fun k=>iT.bind (by
  split
  ·exact qw _
  ·exact aA _) (n2 k)
 have hone : ∀(k:Int) (e:Ex) (n:Nat),(k=2∨k=4∨k=5∨k=6∨k=7)→jH e n→LU ⟨k,[e]⟩ n:=fun k e n hk he=>by
  refine ⟨?_,fun x hx=>by rw[List.mem_singleton.1 hx];exact he.2⟩
  unfold uQ
  dsimp only
  rw[if_neg (by omega),if_pos hk]
  exact gK (Nat.le_refl _) (Nat.le_refl _) (fun x hx=>by rw[List.mem_singleton.1 hx];exact he.1)
 refine iF (bB _ ⟨rfl,fun e he=>by cases he⟩) ((fQ eU).bV (fun k m hk=>?_) (fun k=>?_))
 ·split
  ·exact h.bV (fun e i he=>bB _ (hone 2 e _ (.inl rfl) (he.mono (by omega)))) (fun e=>aA _)
  ·rename_i h0
   have hk4:k=4∨k=5∨k=6∨k=7:=by
    have:=(hk.resolve_left h0).1
    simpa [eU] using this
   refine dL.bV (fun _ n1' _=>fE.bV (Q:=fun _ _=>True) ?_ (fun b n2' _=>fE.bV (Q:=fun i n=>LU i n) ?_ (fun i n3' hi=>dL.bV (fun _ n4' _=>bB _ ⟨hi.1,fun e he=>Nat.le_trans (hi.2 e he) (by omega)⟩) (fun _=>aA _)) n1) (n2 k)) (fun _=>n3 k)
   ·split
    ·exact nV _
    ·exact bB _ trivial
   ·split
    ·exact bB _ ⟨rfl,fun e he=>by cases he⟩
    ·exact h.bV (fun e i he=>bB _ (hone k e _ (.inr hk4) (he.mono (by omega)))) (fun e=>aA _)
 ·split
  ·exact nx.bind fun e=>aA _
  ·exact (bM _).bind fun _=>n3 k
theorem GQ {ex:Pa Ex} (h:fE N ex jH) (nx:bE false 2001 ex):fE N (iQ ex) (fun j n=>mV j.1=true∧aZ j.2 (gJ j.1) (gJ j.1) aP=true∧∀e∈j.2,rQ e≤n):=by
 unfold iQ
 refine iF (gT.bV (fun j n1 hj=>dL.bV (fun _ n2 _=>h.bV (fun e n3 he=>bB _ ⟨?_,?_,fun x hx=>by rw[List.mem_singleton.1 hx];have:=he.2;omega⟩) (fun e=>aA _)) (fun _=>nx.bind fun e=>aA _)) (fun j=>(bM _).bind fun _=>nx.bind fun e=>aA _)) (bB _ ⟨rfl,rfl,fun e he=>by cases he⟩)
 ·unfold mV
  dsimp only
  rw[hj.1]
  simp
 ·have:gJ j=1:=if_neg (Jc hj.1)
  dsimp only
  rw[this]
  exact gK (Nat.le_refl _) (Nat.le_refl _) (fun x hx=>by rw[List.mem_singleton.1 hx];exact he.1)
theorem Ci {ex:Pa Ex} (h:fE N ex jH) (nx:bE false 2001 ex):fE N (eT ex) Ip:=by
 unfold eT
 have hcol:fE N fG (fun e n=>jH e n∧fq e=true):=xS
 have hcm : ∀(a:Ex) (n m:Nat),(jH a n∧fq a=true)→n≤m→(jH a m∧fq a=true):=fun a n m h hm=>⟨h.1.mono hm,h.2⟩
 have n1 : ∀(its:List It) (tb:List UInt8) (j:List UInt8 × List Ex) (wh gr od:List Ex) (de:Bool),bE false 2001 (aF (gV [76,73,77,73,84] ji (bg (-1))) fun li=>bg { gQ 6 with tb:=tb,items:=its,jn:=j.1,on:=j.2,wh:=wh,gr:=gr,od:=od,desc:=de,lim:=li }):=fun its tb j wh gr od de=>(fD _ (fun h=>by cases h) lC.ok (aA _)).bind fun li=>aA _
 have n2 : ∀(its:List It) (tb:List UInt8) (j:List UInt8 × List Ex) (wh gr od:List Ex),bE false 2001 (aF (if od.length=0 then bg false else fI [68,69,83,67]) fun de=>aF (gV [76,73,77,73,84] ji (bg (-1))) fun li=>bg { gQ 6 with tb:=tb,items:=its,jn:=j.1,on:=j.2,wh:=wh,gr:=gr,od:=od,desc:=de,lim:=li }):=fun its tb j wh gr od=>iT.bind (by
  split
  ·exact aA _
  ·exact qw _) (n1 its tb j wh gr od)
 refine (lN (P:=LU) (fun a n m h hm=>⟨h.1,fun e he=>Nat.le_trans (h.2 e he) hm⟩) (Ih h nx) pK (o8 nx) bZ 8 [] 0 (fun a ha=>by cases ha)).bV (fun its m1 hi=>dL.bV (fun _ m2 _=>gT.bV (fun tb m3 ht=>(GQ h nx).bV (fun j m4 hj=>(oq uL h nx _ _).bV (fun wh m5 hw=>(oq hcm hcol dY _ _).bV (fun gr m6 hg=>(oq hcm hcol dY _ _).bV (fun od m7 ho=>fE.bV (Q:=fun de _=>(!de||decide (od.length=1))=true) ?_ (fun de m8 hde=>fE.bV (Q:=fun li _=>-1≤li∧li≤9223372036854775807) (iF (yE.mp fun n m h=>⟨by omega,h.1.2⟩) (bB _ (by decide))) (fun li m9 hli=>bB _ ⟨?_,?_⟩) (fun li=>aA _)) (n1 its tb j wh gr od)) (n2 its tb j wh gr)) (fun gr=>(bN dY _ _ (by decide)).bind (n2 its tb j wh gr))) (fun wh=>(bN dY _ _ (by decide)).bind fun gr=>(bN dY _ _ (by decide)).bind (n2 its tb j wh gr))) (fun j=>(bN nx _ _ (by decide)).bind fun wh=>(bN dY _ _ (by decide)).bind fun gr=>(bN dY _ _ (by decide)).bind (n2 its tb j wh gr)))
   (fun tb=>(mM nx).bind fun j=>(bN nx _ _ (by decide)).bind fun wh=>(bN dY _ _ (by decide)).bind fun gr=>(bN dY _ _ (by decide)).bind (n2 its tb j wh gr)))
   (fun _=>bD.bind fun tb=>(mM nx).bind fun j=>(bN nx _ _ (by decide)).bind fun wh=>(bN dY _ _ (by decide)).bind fun gr=>(bN dY _ _ (by decide)).bind (n2 its tb j wh gr)))
   (fun its=>(bM _).bind fun _=>bD.bind fun tb=>(mM nx).bind fun j=>(bN nx _ _ (by decide)).bind fun wh=>(bN dY _ _ (by decide)).bind fun gr=>(bN dY _ _ (by decide)).bind (n2 its tb j wh gr))
 ·split
  ·exact bB _ rfl
  ·rename_i h0
   have:od.length=1:=by have:=ho.1;omega
   exact (nV _).mp fun b n _=>by rw[this];simp
 ·show ((aZ its 1 8 uQ&&(mV j.1&&(aZ j.2 (gJ j.1) (gJ j.1) aP&&(aZ wh 0 1 aP&&(aZ gr 0 1 fq&&(aZ od 0 1 fq&&((!de||decide (od.length=1))&&decide (-1≤li∧li≤9223372036854775807))))))))&&(bL tb&&_))=true
  rw[gK (a:=1) (b:=8) hi.2.1 hi.2.2 (fun x hx=>(hi.1 x hx).1),hj.1,hj.2.1,gK (Nat.zero_le _) hw.1 (fun x hx=>(hw.2 x hx).1),gK (Nat.zero_le _) hg.1 (fun x hx=>(hg.2 x hx).2),gK (Nat.zero_le _) ho.1 (fun x hx=>(ho.2 x hx).2),hde,decide_eq_true hli,ht.1]
  rfl
 ·intro e he
  have he':e∈its.flatMap (fun i=>i.xs)++(j.2++(wh++(gr++od))):=by simpa [oK,gQ] using he
  rcases List.mem_append.1 he' with he | he
  ·obtain⟨x,hx,hxe⟩:=List.mem_flatMap.1 he
   have:=(hi.1 x hx).2 e hxe
   omega
  rcases List.mem_append.1 he with he | he
  ·have:=hj.2.2 e he
   omega
  rcases List.mem_append.1 he with he | he
  ·have:=(hw.2 e he).2
   omega
  rcases List.mem_append.1 he with he | he
  ·have:=(hg.2 e he).1.2
   omega
  ·have:=(ho.2 e he).1.2
   omega
theorem lQ : ∀a n m,Ip a n→n≤m→Ip a m:=fun a n m h hm=>⟨h.1,fun e he=>Nat.le_trans (h.2 e he) hm⟩
theorem Ez {ex:Pa Ex} (h:fE N ex jH) (nx:bE false 2001 ex):fE N (eZ ex) Ip:=by
 unfold eZ
 refine (fQ ig).bV (fun k n hk=>?_) (fun k=>?_)
 ·split
  ·exact Cg.mp fun a m h=>lQ _ _ _ h (by omega)
  split
  ·exact G8.mp fun a m h=>lQ _ _ _ h (by omega)
  split
  ·exact Bg.mp fun a m h=>lQ _ _ _ h (by omega)
  split
  ·exact (Cw h nx).mp fun a m h=>lQ _ _ _ h (by omega)
  split
  ·exact (CK h nx).mp fun a m h=>lQ _ _ _ h (by omega)
  split
  ·exact (Ci h nx).mp fun a m h=>lQ _ _ _ h (by omega)
  ·exact (ow (by decide) (Q:=fun _ _=>False)).bV (fun _ _ h=>h.elim) (fun _=>aA _)
 ·split
  ·exact sS
  split
  ·exact xw
  split
  ·exact tO
  split
  ·exact tF nx
  split
  ·exact tC nx
  split
  ·exact sW nx
  ·exact (gD 4 (by decide)).bind fun _=>aA _
theorem wu (F:Nat) (hnx:bE false 2001 (dU F)) (r:Rd) (h1:C8 r) (h2:r.d=0) (hb:(iY F r).2.bad=0):aZ (iY F r).1 1 8 bP=true∧∀x∈(iY F r).1,∀e∈oK x,rQ e≤r.ts.length:=by
 have hb1:(aU (eZ (dU F)) iV 8 [] r).2.bad=0:=(Kt (r:=(aU (eZ (dU F)) iV 8 [] r).2) hb).1
 obtain⟨_,_,n,h3,h4,h5,h6⟩:=(lN (P:=Ip) lQ (Ez (Fz F) hnx) Gh (qp hnx) sw 8 [] 0 (fun a ha=>by cases ha)).giv r h1 (by omega) (by omega) hb1
 refine ⟨gK h5 h6 (fun x hx=>(h4 x hx).1),fun x hx e he=>Nat.le_trans ((h4 x hx).2 e he) (by omega)⟩
theorem xX {s:List UInt8} (h:(cu s).2.1=0):aZ (cu s).1 1 8 bP=true∧∀x∈(cu s).1,∀e∈oK x,rQ e≤2001:=by
 have hg:=qB s
 have ht:=EC s
 have hd:(dV s).d=0:=rfl
 unfold cu at h ⊢
 generalize dV s=r at hg ht hd h ⊢
 by_cases hb:(iY 2001 r).2.bad=0
 ·rw[if_pos hb]
  obtain⟨h1,h2⟩:=wu 2001 oW r ht hd hb
  exact⟨h1,fun x hx e he=>Nat.le_trans (h2 x hx e he) hg.many⟩
 ·rw[if_neg hb] at h
  exact absurd h hb
theorem Bo (L:List Tk) (m:Int):((vJ L m).2=10∨(vJ L m).2=2)∨(vJ L m=(Lib.join (oD L) [32],0)∧m≤10∧(Lib.join (oD L) [32]).length≤2000):=by
 unfold vJ
 by_cases h1:10<m
 ·rw[if_pos h1];exact .inl (.inl rfl)
 ·rw[if_neg h1]
  by_cases h2:2000<(Lib.join (oD L) [32]).length
  ·rw[if_pos h2];exact .inl (.inr rfl)
  ·rw[if_neg h2];exact .inr ⟨rfl,by omega,by omega⟩
theorem yI {l:List St} (h:aZ l 1 8 bP=true):((kJ l).2=10∨(kJ l).2=2)∨((kJ l).2=0∧cu (kJ l).1=(l,0,0)∧(kJ l).1.length≤2000):=by
 unfold kJ
 rw[if_neg (by have:=(dZ h).2;omega),if_pos h]
 rcases Bo (aN (aH [59]) (l.map lY)) ((bq (l.map wH):Nat):Int) with h1 | ⟨h1,h2,h3⟩
 ·exact .inl h1
 ·rw[h1]
  refine .inr ⟨rfl,Ad h (fun s hs=>mg (show bq (l.map wH)≤10 by omega) _ (List.mem_map.2 ⟨s,hs,rfl⟩)) (bJ.sep (bW (by decide)) (fun x hx=>?_)) h3,h3⟩
  obtain⟨s,hs,rfl⟩:=List.mem_map.1 hx
  exact vL (aX h s hs)
end Go.Proofs.YtaaggohjmhifbaaGreatDoor
namespace Go.Proofs.YtaaggohjmhifbaaGreatDoor
open Go.RowKit Go.Shelf
set_option linter.unusedSimpArgs false
set_option linter.unusedVariables false
set_option maxRecDepth 20000
set_option maxHeartbeats 8000000
structure Tb where
 nm:List UInt8
 cols:List Co
 pr:Int
def vW:Tb:=⟨[],[],0⟩
def rF (l:List Co) (i:Nat):List UInt8:=(l[i]?.map Co.nm).getD []
def cK (t:Tb):St:={ gQ 1 with tb:=t.nm,cols:=t.cols,prim:=rF t.cols t.pr.toNat }
def fO (l:List Co) (nm:List UInt8):Nat:=l.findIdx fun c=>decide (c.nm=nm)
def Ac (c:Co):Co:={ c with nn:=true,uq:=true }
def keyed (l:List Co) (p:Nat):List Co:=l.modify p Ac
def rP (a b:Co):Bool:=decide (a.nm=b.nm∧a.k=b.k∧a.nn=b.nn∧a.uq=b.uq)
theorem yu (a b:Co):rP a b=true↔a=b:=by
 obtain⟨a1,a2,a3,a4⟩:=a
 obtain⟨b1,b2,b3,b4⟩:=b
 simp[rP]
theorem lg : ∀(xs ys:List Co),Lib.allEq rP xs ys=true↔xs=ys
 | [],[]=>by simp[Lib.allEq]
 | [],y::ys=>by simp[Lib.allEq]
 | x::xs,[]=>by simp[Lib.allEq]
 |
  x::xs,y::ys=>by
  rw[Lib.allEq,Bool.and_eq_true,yu,lg xs ys,List.cons.injEq]
theorem uD {l:List Co} {nm:List UInt8} (h:fO l nm<l.length):(l[fO l nm]'h).nm=nm:=by
 have:=List.findIdx_getElem (w:=h) (p:=fun c:Co=>decide (c.nm=nm))
 exact of_decide_eq_true this
theorem qj {l:List Co} {nm:List UInt8} {j:Nat} (h:j<fO l nm) (hj:j<l.length):(l[j]'hj).nm≠nm:=fun e=>by
 have:=List.not_of_lt_findIdx (p:=fun c:Co=>decide (c.nm=nm)) h
 simp[e] at this
theorem Dm {l:List Co} {nm:List UInt8} {j:Nat} (hj:j<l.length) (h:(l[j]'hj).nm=nm):fO l nm≤j:=by
 rcases Nat.lt_or_ge j (fO l nm) with h1 | h1
 ·exact absurd h (qj h1 hj)
 ·exact h1
theorem uP {l:List Co} (hn:(l.map Co.nm).Nodup) {j:Nat} (hj:j<l.length):fO l (l[j]'hj).nm=j:=by
 have h1:=Dm hj (rfl:(l[j]'hj).nm=_)
 have h2:fO l (l[j]'hj).nm<l.length:=by omega
 have h3:=uD h2
 have h4:(l.map Co.nm)[fO l (l[j]'hj).nm]'(by simpa using h2)=(l.map Co.nm)[j]'(by simpa using hj):=by simpa using h3
 exact (List.getElem_inj hn).1 h4
theorem uR {l:List Co} (h : ∀j (hj:j<l.length),fO l (l[j]'hj).nm=j):(l.map Co.nm).Nodup:=by
 rw[List.nodup_iff_pairwise_ne,List.pairwise_iff_getElem]
 intro i j hi hj hij e
 simp only[List.getElem_map] at e
 simp only[List.length_map] at hi hj
 have h1:=h i hi
 have h2:=h j hj
 rw[e,h2] at h1
 omega
theorem fu (l:List Co) (p:Nat):(keyed l p).length=l.length:=by simp[keyed]
theorem lH (l:List Co) (p j:Nat):(keyed l p)[j]?=if p=j then l[j]?.map Ac else l[j]?:=by
 unfold keyed
 rw[List.getElem?_modify]
 split
 ·rfl
 ·simp
theorem sH (l:List Co) (p:Nat):(keyed l p).map Co.nm=l.map Co.nm:=by
 apply List.ext_getElem?
 intro j
 rw[List.getElem?_map,List.getElem?_map,lH]
 split
 ·cases l[j]?<;>rfl
 ·rfl
theorem Am (l:List Co) (p:Nat):keyed (keyed l p) p=keyed l p:=by
 apply List.ext_getElem?
 intro j
 rw[lH,lH]
 split
 ·cases l[j]?<;>rfl
 ·rfl
theorem ou (nm:List UInt8):∀l:List Co,fO l nm=(l.map Co.nm).findIdx fun x=>decide (x=nm)
 | []=>rfl
 |
  c::l=>by
  unfold fO
  rw[List.map_cons,List.findIdx_cons,List.findIdx_cons,← ou nm l]
  rfl
theorem ET (l:List Co) (p:Nat) (nm:List UInt8):fO (keyed l p) nm=fO l nm:=by
 rw[ou,ou,sH]
theorem wO {l:List Co} {p:Nat} {c:Co} (h:c∈keyed l p):∃d∈l,c.nm=d.nm∧c.k=d.k:=by
 obtain⟨j,hj⟩:=List.getElem?_of_mem h
 rw[lH] at hj
 split at hj
 ·cases hl:l[j]? with
  | none=>rw[hl] at hj;cases hj
  |
   some d =>
   rw[hl,Option.map_some,Option.some.injEq] at hj
   subst hj
   exact⟨d,List.mem_of_getElem? hl,rfl,rfl⟩
 ·exact⟨c,List.mem_of_getElem? hj,rfl,rfl⟩
theorem Ig {l m:List Co} (h:l.map Co.nm=m.map Co.nm) (i:Nat):rF l i=rF m i:=by
 unfold rF
 rw[← List.getElem?_map,← List.getElem?_map,h]
theorem uE {l:List Co} {i:Nat} (h:i<l.length):rF l i=(l[i]'h).nm:=by
 unfold rF
 rw[List.getElem?_eq_getElem h]
 rfl
def dh (s:St):Tb × Int :=
 if s.k=1∧bP s=true then
  if (s.cols.map Co.nm).Nodup then
   (if fO s.cols s.prim<s.cols.length then (⟨s.tb,keyed s.cols (fO s.cols s.prim),(fO s.cols s.prim:Nat)⟩,0) else (vW,12))
  else (vW,13)
 else (vW,4)
def qG (t:Tb):Bool:=decide (0≤t.pr∧t.pr<t.cols.length)&&(decide ((dh (cK t)).2=0)&&Lib.allEq rP (dh (cK t)).1.cols t.cols)
def lW (t:Tb):List UInt8 × Int:=if qG t=true then kJ [cK t] else ([],4)
def j5 (s:List UInt8):Tb × Int :=
 if (cu s).2.1=0∧(cu s).1.length=1 then
  (if (dh ((cu s).1.headD (gQ 0))).2=0 then (if (lW (dh ((cu s).1.headD (gQ 0))).1).1=s then ((dh ((cu s).1.headD (gQ 0))).1,0) else (vW,4)) else (vW,4))
 else (vW,4)
theorem l9 {s:St} (h:(dh s).2=0):s.k=1∧bP s=true∧(s.cols.map Co.nm).Nodup∧fO s.cols s.prim<s.cols.length∧dh s=(⟨s.tb,keyed s.cols (fO s.cols s.prim),(fO s.cols s.prim:Nat)⟩,0):=by
 unfold dh at h ⊢
 by_cases h1:s.k=1∧bP s=true
 ·rw[if_pos h1] at h ⊢
  by_cases h2:(s.cols.map Co.nm).Nodup
  ·rw[if_pos h2] at h ⊢
   by_cases h3:fO s.cols s.prim<s.cols.length
   ·rw[if_pos h3] at h ⊢
    exact⟨h1.1,h1.2,h2,h3,rfl⟩
   ·rw[if_neg h3] at h;cases h
  ·rw[if_neg h2] at h;cases h
 ·rw[if_neg h1] at h;cases h
theorem kH {s:St} (hk:s.k=1) (h:bP s=true):aZ s.cols 1 8 jT=true∧bL s.prim=true∧bL s.tb=true:=by
 unfold bP mK at h
 rw[if_pos hk] at h
 simp only[Bool.and_eq_true] at h
 exact⟨h.1.1,h.1.2,h.2.1⟩
theorem yx {t:Tb} (h1:aZ t.cols 1 8 jT=true) (h2:bL (rF t.cols t.pr.toNat)=true) (h3:bL t.nm=true):bP (cK t)=true:=by
 unfold bP mK
 rw[if_pos (show (cK t).k=1 from rfl)]
 simp only[Bool.and_eq_true]
 refine ⟨⟨h1,h2⟩,h3,?_⟩
 unfold xQ
 rw[if_pos (show (cK t).k=1 from rfl)]
 simp[cK,gQ,CJ]
theorem Cn {s:St} (h:(dh s).2=0):dh (cK (dh s).1)=dh s:=by
 obtain⟨hk,hr,hn,hi,e⟩:=l9 h
 obtain⟨r1,r2,r3⟩:=kH hk hr
 rw[e]
 generalize hp:fO s.cols s.prim=p at *
 have hpr:rF (keyed s.cols p) p=s.prim:=by
  rw[Ig (sH s.cols p),uE hi]
  have:=uD (l:=s.cols) (nm:=s.prim) (by rw[hp];exact hi)
  simp only[hp] at this
  exact this
 have hcr:cK ⟨s.tb,keyed s.cols p,(p:Nat)⟩ = { gQ 1 with tb:=s.tb,cols:=keyed s.cols p,prim:=s.prim }:=by
  unfold cK
  dsimp only
  rw[Int.toNat_natCast,hpr]
 have hri:bP (cK ⟨s.tb,keyed s.cols p,(p:Nat)⟩)=true:=by
  refine yx ?_ ?_ r3
  ·refine gK (by rw[fu];exact (dZ r1).1) (by rw[fu];exact (dZ r1).2) (fun c hc=>?_)
   obtain⟨d,hd,e1,e2⟩:=wO hc
   have:=aX r1 d hd
   unfold jT at this ⊢
   rw[e1,e2]
   exact this
  ·dsimp only
   rw[Int.toNat_natCast,hpr]
   exact r2
 unfold dh
 rw[if_pos ⟨rfl,hri⟩,hcr]
 dsimp only
 rw[sH,if_pos hn,ET,hp,fu,if_pos hi,Am]
theorem vV {s:St} (h:(dh s).2=0):qG (dh s).1=true:=by
 have ha:=Cn h
 obtain⟨hk,hr,hn,hi,e⟩:=l9 h
 unfold qG
 rw[ha,h,decide_eq_true (rfl:(0:Int)=0),(lg _ _).2 rfl,Bool.true_and,Bool.and_true]
 rw[e]
 dsimp only
 rw[fu]
 exact decide_eq_true ⟨by omega,by omega⟩
theorem AU {t:Tb} (h:qG t=true):dh (cK t)=(t,0):=by
 unfold qG at h
 simp only[Bool.and_eq_true,decide_eq_true_eq] at h
 obtain⟨⟨h1,h2⟩,h3,h4⟩:=h
 obtain⟨hk,hr,hn,hi,e⟩:=l9 h3
 have hc:=(lg _ _).1 h4
 rw[e] at hc ⊢
 obtain⟨nm,cols,pr⟩:=t
 dsimp only[cK] at *
 obtain⟨p,rfl⟩:=Int.eq_ofNat_of_zero_le h1
 have hp:p<cols.length:=by omega
 have e1:fO cols (rF cols p)=p:=by
  rw[uE hp]
  exact uP hn hp
 rw[Int.toNat_natCast,e1] at hc ⊢
 rw[hc]
theorem vv (n:Nat):∀(l:List (List UInt8)),(∀x∈l,x.length≤n)→(Lib.join l [32]).length≤l.length*(n+1)
 | [],_=>by simp[Lib.join_nil]
 |
  [x],h=>by
  rw[Lib.join_one]
  have:=h x (by simp)
  simp
  omega
 |
  x::y::l,h=>by
  have ih:=vv n (y::l) (fun z hz=>h z (by simp at hz ⊢;exact .inr hz))
  have hx:=h x (by simp)
  have e:Lib.join (x::y::l) [32]=x++32::Lib.join (y::l) [32]:=by
   rw[Lib.join_cons,Lib.join_cons]
   simp[Lib.joinTail]
  rw[e]
  simp only[List.length_append,List.length_cons] at ih ⊢
  rw[Nat.add_mul (l.length+1) 1]
  omega
def Sh (t:Tk):Prop:=(t.k=1∨t.k=2∨t.k=5)∧t.s.length≤16
theorem Di {s:List UInt8} (h:s.length≤16):Sh (aH s):=by
 unfold aH
 split
 ·exact⟨.inr (.inl rfl),h⟩
 ·exact⟨.inr (.inr rfl),h⟩
theorem Ga {s:List UInt8} (h:bL s=true):Sh (aR s):=⟨.inl rfl,fP h⟩
theorem oG {l:List (List UInt8)} (h : ∀s∈l,s.length≤16):∀t∈ah l,Sh t:=fun t ht=>by
 obtain⟨s,hs,rfl⟩:=List.mem_map.1 ht
 exact Di (h s hs)
theorem LH {t:Tk} (h:Sh t):(wr t).length≤16:=by
 unfold wr
 rw[if_neg (by rcases h.1 with e | e | e<;>rw[e]<;>decide),if_neg (by rcases h.1 with e | e | e<;>rw[e]<;>decide)]
 exact h.2
theorem GR {sep:Tk} (hs:Sh sep):∀{l:List (List Tk)},(∀x∈l,∀t∈x,Sh t)→∀t∈aN sep l,Sh t
 | [],_,t,ht=>by cases ht
 | [x],h,t,ht=>h x (by simp) t (by simpa [aN] using ht)
 |
  x::y::l,h,t,ht=>by
  have e:aN sep (x::y::l)=x++sep::aN sep (y::l):=rfl
  rw[e] at ht
  rcases List.mem_append.1 ht with ht | ht
  ·exact h x (by simp) t ht
  ·rcases List.mem_cons.1 ht with rfl | ht
   ·exact hs
   ·exact GR hs (fun z hz=>h z (by simp at hz ⊢;exact .inr hz)) t ht
theorem Ky {c:Co} (h:jT c=true):∀t∈jQ c,Sh t:=fun t ht=>by
 unfold jT at h
 rw[Bool.and_eq_true] at h
 unfold jQ at ht
 rcases List.mem_cons.1 ht with rfl | ht
 ·exact Ga h.1
 ·rcases List.mem_cons.1 ht with rfl | ht
  ·split<;>exact Di (by decide)
  ·rcases List.mem_append.1 ht with ht | ht
   ·split at ht
    ·exact oG (by decide) t ht
    ·cases ht
   ·split at ht
    ·exact oG (by decide) t ht
    ·cases ht
theorem EZ {s:St} (hk:s.k=1) (h:bP s=true):∀t∈lY s,Sh t:=fun t ht=>by
 obtain⟨h1,h2,h3⟩:=kH hk h
 unfold lY at ht
 rw[if_pos hk] at ht
 unfold KZ at ht
 rcases List.mem_append.1 ht with ht | ht
 ·exact oG (by decide) t ht
 ·rcases List.mem_cons.1 ht with rfl | ht
  ·exact Ga h3
  ·rcases List.mem_cons.1 ht with rfl | ht
   ·exact Di (by decide)
   ·rcases List.mem_append.1 ht with ht | ht
    ·refine GR (Di (by decide)) (fun x hx=>?_) t ht
     obtain⟨c,hc,rfl⟩:=List.mem_map.1 hx
     exact Ky (aX h1 c hc)
    ·rcases List.mem_append.1 ht with ht | ht
     ·exact oG (by decide) t ht
     ·rcases List.mem_cons.1 ht with rfl | ht
      ·exact Ga h2
      ·exact oG (by decide) t ht
theorem Cv {s:St} (hk:s.k=1) (h:bP s=true):(lY s).length≤61:=by
 obtain⟨h1,h2,h3⟩:=kH hk h
 have hc:=ny (aH [44]) jQ 5 s.cols (fun c _=>Df c)
 have h8:=(dZ h1).2
 unfold lY
 rw[if_pos hk]
 unfold KZ ah
 simp only[List.length_append,List.length_cons,List.length_map,List.length_nil]
 omega
theorem qM {s:St} (hk:s.k=1) (h:bP s=true):(kJ [s]).2=0∧cu (kJ [s]).1=([s],0,0)∧(kJ [s]).1.length≤2000:=by
 have hA:aZ [s] 1 8 bP=true:=gK (by simp) (by simp) (fun x hx=>by rw[List.mem_singleton.1 hx];exact h)
 rcases yI hA with h1 | h1
 ·exfalso
  have e:kJ [s]=vJ (lY s) 0:=by
   unfold kJ
   rw[if_neg (by simp),if_pos hA]
   have e1:aN (aH [59]) ([s].map lY)=lY s:=by simp[aN]
   have e2:bq ([s].map wH)=0:=by
    have:wH s=0:=by
     unfold wH
     rw[if_neg (by omega),if_neg (by omega),if_neg (by omega)]
    simp[bq,this]
   rw[e1,e2]
   rfl
  rw[e] at h1
  unfold vJ at h1
  rw[if_neg (by decide)] at h1
  have hb : ¬2000<(Lib.join (oD (lY s)) [32]).length:=by
   have h2:=vv 16 (oD (lY s)) (fun x hx=>by
    unfold oD at hx
    obtain⟨t,ht,rfl⟩:=List.mem_map.1 hx
    exact LH (EZ hk h t (List.mem_filter.1 ht).1))
   have h3:(oD (lY s)).length≤61:=by
    unfold oD
    rw[List.length_map]
    exact Nat.le_trans (List.length_filter_le _ _) (Cv hk h)
   have h4:(oD (lY s)).length*(16+1)≤61*17:=Nat.mul_le_mul_right _ h3
   omega
  rw[if_neg hb] at h1
  rcases h1 with h1 | h1<;>exact absurd (show (0:Int)=_ from h1) (by decide)
 ·exact h1
theorem yJ {t:Tb} (h:qG t=true):(lW t).2=0∧j5 (lW t).1=(t,0)∧(lW t).1.length≤2000:=by
 have hm:=AU h
 have hk:=l9 (s:=cK t) (by rw[hm])
 obtain⟨h1,h2,h3⟩:=qM hk.1 hk.2.1
 have e:lW t=kJ [cK t]:=by unfold lW;rw[if_pos h]
 refine ⟨by rw[e];exact h1,?_,by rw[e];exact h3⟩
 unfold j5
 rw[e,h2]
 have hh:(([cK t],(0:Int),(0:Int)).1.headD (gQ 0))=cK t:=rfl
 rw[if_pos ⟨rfl,rfl⟩,hh,if_pos (by rw[hm]),if_pos (by rw[hm,e]),hm]
theorem FW {s:List UInt8} (h:(j5 s).2=0):lW (j5 s).1=(s,0):=by
 unfold j5 at h ⊢
 by_cases h1:(cu s).2.1=0∧(cu s).1.length=1
 ·rw[if_pos h1] at h ⊢
  by_cases h2:(dh ((cu s).1.headD (gQ 0))).2=0
  ·rw[if_pos h2] at h ⊢
   by_cases h3:(lW (dh ((cu s).1.headD (gQ 0))).1).1=s
   ·rw[if_pos h3]
    exact Prod.ext h3 (yJ (vV h2)).1
   ·rw[if_neg h3] at h;exact absurd (show (4:Int)=0 from h) (by decide)
  ·rw[if_neg h2] at h;exact absurd (show (4:Int)=0 from h) (by decide)
 ·rw[if_neg h1] at h;exact absurd (show (4:Int)=0 from h) (by decide)
theorem F6 {s:List UInt8} (h:(j5 s).2≠0):j5 s=(vW,4):=by
 unfold j5 at h ⊢
 by_cases h1:(cu s).2.1=0∧(cu s).1.length=1
 ·rw[if_pos h1] at h ⊢
  by_cases h2:(dh ((cu s).1.headD (gQ 0))).2=0
  ·rw[if_pos h2] at h ⊢
   by_cases h3:(lW (dh ((cu s).1.headD (gQ 0))).1).1=s
   ·rw[if_pos h3] at h;exact absurd rfl h
   ·rw[if_neg h3]
  ·rw[if_neg h2]
 ·rw[if_neg h1]
end Go.Proofs.YtaaggohjmhifbaaGreatDoor
