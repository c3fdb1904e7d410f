/- Packed for the hand-in: WGiveS -/
import Derived.Test.YtnidnipiihhnaaaGreatDoorZ45
import Derived.Test.YtnidnipiihhnaaaGreatDoorZ44
import Derived.Test.YtnidnipiihhnaaaGreatDoorZ37
namespace Go.Proofs.YtnidnipiihhnaaaGreatDoor
set_option linter.unusedSimpArgs false
set_option linter.unusedVariables false
variable {N : Nat}
set_option maxHeartbeats 8000000
theorem fA.bR {α β:Type} {p:Pa α} {q:α→Pa β} {Q:α→Nat→Prop} {R:β→Nat→Prop} (hp:fA N p Q) (hq : ∀a n,Q a n→fA N (q a) (fun b m=>R b (n+m))) (hn : ∀a,bC false 2001 (q a)):fA N (aG p q) R:=hp.bind hq (fun a=>jQ (hn a))
theorem kQ {α:Type} {one:Pa α} {more:Pa Bool} {P:α→Nat→Prop} (hP : ∀a n m,P a n→n≤m→P a m) (h1:fA N one P) (h2:fA N more (fun _ _=>True)) (n1:bC false 2001 one) (n2:bC false 2001 more) :
  ∀(m:Nat) (acc:List α) (k:Nat),(∀a∈acc,P a k)→fA N (aV one more m acc) (fun l n=>(∀a∈l,P a (k+n))∧acc.length+1≤l.length∧l.length≤acc.length+m)
 | 0,acc,k,hacc=>(oh (by decide) (Q:=fun _ _=>False)).bR (fun a n h=>h.elim) (fun _=>aB _)
 |
  m+1,acc,k,hacc=>by
  have hadd : ∀(x:α) (n j:Nat),P x n→∀a∈acc++[x],P a (k+n+j):=fun x n j hx a ha=>by
   rcases List.mem_append.1 ha with ha | ha
   ·exact hP _ _ _ (hacc a ha) (by omega)
   ·rw[List.mem_singleton] at ha
    subst ha
    exact hP _ _ _ hx (by omega)
  refine h1.bR (fun x n hx=>h2.bR (fun b j _=>?_) (fun b=>?_)) (fun x=>n2.bind fun b=>?_)
  ·split
   ·refine (kQ hP h1 h2 n1 n2 m (acc++[x]) (k+n) (hadd x n 0 hx)).mp ?_
    rintro l i ⟨ha,hb,hc⟩
    simp only[List.length_append,List.length_cons,List.length_nil] at hb hc
    exact⟨fun a h=>hP _ _ _ (ha a h) (by omega),by omega,by omega⟩
   ·refine bg _ ⟨fun a ha=>hP _ _ _ (hadd x n 0 hx a ha) (by omega),by simp,by simp⟩
  ·split
   ·exact cB n1 n2 m _
   ·exact aB _
  ·split
   ·exact cB n1 n2 m _
   ·exact aB _
theorem nZ (t:List UInt8):fA N (fF t) (fun _ _=>True):=iA (bg _ trivial) (bg _ trivial)
theorem qw (t:List UInt8):bC false 2001 (fF t):=jS _ (fun h=>by cases h)
theorem oH:fA N bL (fun _ _=>True):=nZ _
theorem FM:fA N iU (fun _ _=>True):=nZ _
theorem pq : ∀l:List (List UInt8),fA N (aJ l) (fun _ _=>True)
 | []=>bg _ trivial
 | t::l=>dL.bR (fun _ n _=>(pq l).mp fun _ _ _=>trivial) (fun _=>bA l)
theorem nJ {read:Pa Ex} {P:Ex→Nat→Prop} (hP : ∀a n m,P a n→n≤m→P a m) (h:fA N read P) (nr:bC false 2001 read) (w:List UInt8) (ws:List (List UInt8)):fA N (bN read w ws) (fun l n=>l.length≤1∧∀x∈l,P x n) :=
 iA ((pq ws).bR (fun _ n _=>h.bR (fun e m he=>bg _ ⟨Nat.le_refl _,fun x hx=>by
  rw[List.mem_singleton] at hx
  subst hx
  exact hP _ _ _ he (by omega)⟩) (fun e=>aB _)) (fun _=>nr.bind fun e=>aB _)) (bg _ ⟨Nat.zero_le _,fun x hx=>by cases hx⟩)
theorem Bh:fA N eZ (fun c _=>lU c=true):=by
 unfold eZ
 have n4 : ∀(nm:List UInt8) (k:Int) (nn:Bool),bC false 2001 (aG (fF [85,78,73,81,85,69]) fun uq=>aZ (⟨nm,k,nn,uq⟩:Co)):=fun nm k nn=>(qw _).bind fun uq=>aB _
 have n3 : ∀(nm:List UInt8) (k:Int),bC false 2001 (aG (gP [78,79,84] (aG (dx [78,85,76,76]) fun _=>aZ true) (aZ false)) fun nn=>aG (fF [85,78,73,81,85,69]) fun uq=>aZ (⟨nm,k,nn,uq⟩:Co)):=fun nm k=>(eY _ (fun h=>by cases h) ((bI _).bind fun _=>aB _).ok (aB _)).bind fun nn=>n4 nm k nn
 have n2 : ∀(nm:List UInt8) (k:Int),bC false 2001 (aG (if k=0 then iR 4 else aZ ()) fun _=>aG (gP [78,79,84] (aG (dx [78,85,76,76]) fun _=>aZ true) (aZ false)) fun nn=>aG (fF [85,78,73,81,85,69]) fun uq=>aZ (⟨nm,k,nn,uq⟩:Co)):=fun nm k=>iN.bind (by
  split
  ·exact fV 4 (by decide)
  ·exact aB _) fun _=>n3 nm k
 refine gI.bR (fun nm n hn=>(fH gL).bR (fun k m hk=>fA.bR (Q:=fun _ _=>k≠0) ?_ (fun _ i hk0=>?_) (fun _=>n3 nm k)) (fun k=>n2 nm k)) (fun nm=>(dM _ (fun h=>by cases h)).bind fun k=>n2 nm k)
 ·split
  ·exact oh (by decide)
  ·rename_i h0
   exact bg _ h0
 ·have hc : ∀nn uq,lU ⟨nm,k,nn,uq⟩=true:=fun nn uq=>by
   have hk12:=(hk.resolve_left hk0).1
   have:k=1∨k=2:=by simpa [gL] using hk12
   unfold lU
   dsimp only
   rw[hn.1]
   simp[this]
  refine fA.bR (Q:=fun _ _=>True) (iA (dL.bR (fun _ _ _=>bg _ trivial) (fun _=>aB _)) (bg _ trivial)) (fun nn _ _=>(nZ _).bR (fun uq _ _=>bg _ (hc nn uq)) (fun uq=>aB _)) (fun nn=>n4 nm k nn)
theorem iH {α:Type} {l:List α} {a b:Nat} {p:α→Bool} (h1:a≤l.length) (h2:l.length≤b) (h : ∀x∈l,p x=true):bf l a b p=true:=by
 unfold bf
 simp only[Bool.and_eq_true,decide_eq_true_eq,List.all_eq_true]
 exact⟨⟨h1,h2⟩,h⟩
theorem AB:fA N fK (fun l _=>qN l=true):=by
 unfold fK
 refine dL.bR (fun _ n _=>(kQ (P:=fun v _=>fq v=true) (fun a n m h _=>h) (wW.mp fun v n h=>h.1) oH nI bW 8 [] 0 (fun a ha=>by cases ha)).bR (fun l m hl=>dL.bR (fun _ i _=>bg _ (iH hl.2.1 hl.2.2 hl.1)) (fun _=>aB _)) (fun l=>(bI _).bind fun _=>aB _)) (fun _=>(cB nI bW 8 []).bind fun l=>(bI _).bind fun _=>aB _)
def Gr (s:St) (n:Nat):Prop:=dQ s=true∧∀e∈nS s,nA e≤n
theorem Aw:fA N dH Gr:=by
 unfold dH
 refine dL.bR (fun _ _ _=>gI.bR (fun tb _ ht=>dL.bR (fun _ _ _=>(kQ (P:=fun v _=>lU v=true) (fun a n m h _=>h) Bh (iA (Q:=fun _ _=>True) (fA.bR (Q:=fun _ _=>True) ⟨fun r h=>h,fun r hr _ _ _=>⟨hr,rfl,0,Nat.le_refl _,trivial⟩⟩ (fun b _ _=>bg _ trivial) (fun b=>aB _)) ((oh (by decide) (Q:=fun _ _=>True)).bR (fun _ _ _=>bg _ trivial) (fun _=>aB _))) iq dV 8 [] 0 (fun a ha=>by cases ha)).bR (fun cs _ hc=>(pq _).bR (fun _ _ _=>gI.bR (fun pr _ hp=>(pq _).bR (fun _ _ _=>bg _ ?_) (fun _=>aB _)) (fun pr=>(bA _).bind fun _=>aB _)) (fun _=>bD.bind fun pr=>(bA _).bind fun _=>aB _)) (fun cs=>(bA _).bind fun _=>bD.bind fun pr=>(bA _).bind fun _=>aB _)) (fun _=>(cB iq dV 8 []).bind fun cs=>(bA _).bind fun _=>bD.bind fun pr=>(bA _).bind fun _=>aB _)) (fun tb=>(bI _).bind fun _=>(cB iq dV 8 []).bind fun cs=>(bA _).bind fun _=>bD.bind fun pr=>(bA _).bind fun _=>aB _)) (fun _=>bD.bind fun tb=>(bI _).bind fun _=>(cB iq dV 8 []).bind fun cs=>(bA _).bind fun _=>bD.bind fun pr=>(bA _).bind fun _=>aB _)
 refine ⟨?_,fun e he=>by simp[nS,iP] at he⟩
 have h8:bf cs 1 8 lU=true:=iH hc.2.1 hc.2.2 hc.1
 unfold dQ nC
 simp only[if_pos]
 rw[h8,hp.1,ht.1]
 rfl
theorem Es:fA N ko Gr:=by
 unfold ko
 refine dL.bR (fun _ _ _=>gI.bR (fun tb _ ht=>bg _ ⟨?_,fun e he=>by simp[nS,iP] at he⟩) (fun tb=>aB _)) (fun _=>bD.bind fun tb=>aB _)
 show (true&&(bM tb&&_))=true
 rw[ht.1]
 rfl
theorem Am:fA N dN Gr:=by
 unfold dN
 refine dL.bR (fun _ _ _=>gI.bR (fun tb _ ht=>dL.bR (fun _ _ _=>(kQ (P:=fun v _=>qN v=true) (fun a n m h _=>h) AB oH iG bW 16 [] 0 (fun a ha=>by cases ha)).bR (fun rs _ hr=>bg _ ⟨?_,fun e he=>by simp[nS,iP] at he⟩) (fun rs=>aB _)) (fun _=>(cB iG bW 16 []).bind fun rs=>aB _)) (fun tb=>(bI _).bind fun _=>(cB iG bW 16 []).bind fun rs=>aB _)) (fun _=>bD.bind fun tb=>(bI _).bind fun _=>(cB iG bW 16 []).bind fun rs=>aB _)
 show (bf rs 1 16 qN&&(bM tb&&_))=true
 rw[iH (a:=1) (b:=16) hr.2.1 hr.2.2 hr.1,ht.1]
 rfl
theorem uf : ∀a n m,jK a n→n≤m→jK a m:=fun a n m h hm=>h.mono hm
def Kl (s:Se) (n:Nat):Prop:=nY s=true∧nA s.e≤n
def J6 (i:It) (n:Nat):Prop:=tN i=true∧∀e∈i.xs,nA e≤n
theorem Hy {ex:Pa Ex} (h:fA N ex jK) (nx:bC false 2001 ex):fA N (nM ex) Kl:=by
 unfold nM
 refine gI.bR (fun nm n hn=>dL.bR (fun _ m _=>h.bR (fun e i he=>bg _ ⟨?_,?_⟩) (fun e=>aB _)) (fun _=>nx.bind fun e=>aB _)) (fun nm=>(bI _).bind fun _=>nx.bind fun e=>aB _)
 ·unfold nY
  dsimp only
  rw[hn.1,he.1]
  rfl
 ·show nA e≤_
  have:=he.2
  omega
theorem Ay {ex:Pa Ex} (h:fA N ex jK) (nx:bC false 2001 ex):fA N (dI ex) Gr:=by
 unfold dI
 refine gI.bR (fun tb n1 ht=>dL.bR (fun _ n2 _=>(kQ (P:=Kl) (fun a n m h hm=>⟨h.1,Nat.le_trans h.2 hm⟩) (Hy h nx) oH (mI nx) bW 8 [] 0 (fun a ha=>by cases ha)).bR (fun ss n3 hs=>(nJ uf h nx _ _).bR (fun wh n4 hw=>bg _ ⟨?_,?_⟩) (fun wh=>aB _)) (fun ss=>(bK nx _ _ (by decide)).bind fun wh=>aB _)) (fun _=>(cB (mI nx) bW 8 []).bind fun ss=>(bK nx _ _ (by decide)).bind fun wh=>aB _)) (fun tb=>(bI _).bind fun _=>(cB (mI nx) bW 8 []).bind fun ss=>(bK nx _ _ (by decide)).bind fun wh=>aB _)
 ·show ((bf ss 1 8 nY&&bf wh 0 1 aN)&&(bM tb&&_))=true
  rw[iH (a:=1) (b:=8) hs.2.1 hs.2.2 (fun x hx=>(hs.1 x hx).1),iH (Nat.zero_le _) hw.1 (fun x hx=>(hw.2 x hx).1),ht.1]
  rfl
 ·intro e he
  have he':e∈ss.map (fun x=>x.e)++wh:=by simpa [nS,iP] using he
  rcases List.mem_append.1 he' with he | he
  ·obtain⟨x,hx,rfl⟩:=List.mem_map.1 he
   have:=(hs.1 x hx).2
   omega
  ·have:=(hw.2 e he).2
   omega
theorem Bw {ex:Pa Ex} (h:fA N ex jK) (nx:bC false 2001 ex):fA N (fJ ex) Gr:=by
 unfold fJ
 refine dL.bR (fun _ n1 _=>gI.bR (fun tb n2 ht=>(nJ uf h nx _ _).bR (fun wh n4 hw=>bg _ ⟨?_,?_⟩) (fun wh=>aB _)) (fun tb=>(bK nx _ _ (by decide)).bind fun wh=>aB _)) (fun _=>bD.bind fun tb=>(bK nx _ _ (by decide)).bind fun wh=>aB _)
 ·show (bf wh 0 1 aN&&(bM tb&&_))=true
  rw[iH (Nat.zero_le _) hw.1 (fun x hx=>(hw.2 x hx).1),ht.1]
  rfl
 ·intro e he
  have he':e∈wh:=by simpa [nS,iP] using he
  have:=(hw.2 e he').2
  omega
theorem E8 {ex:Pa Ex} (h:fA N ex jK) (nx:bC false 2001 ex):fA N (dY ex) J6:=by
 unfold dY
 have n1 : ∀i:It,bC false 2001 (aG (dx [41]) fun _=>aZ i):=fun i=>(bI _).bind fun _=>aB _
 have n2 : ∀(k:Int) (b:Bool),bC false 2001 (aG (if b=true then aZ ⟨3,[]⟩ else aG ex fun e=>aZ (⟨k,[e]⟩:It)) fun i=>aG (dx [41]) fun _=>aZ i):=fun k b=>iN.bind (by
  split
  ·exact aB _
  ·exact nx.bind fun e=>aB _) n1
 have n3 : ∀(k:Int),bC false 2001 (aG (if k=4 then fF [42] else aZ false) fun b=>aG (if b=true then aZ ⟨3,[]⟩ else aG ex fun e=>aZ (⟨k,[e]⟩:It)) fun i=>aG (dx [41]) fun _=>aZ i):=fun k=>iN.bind (by
  split
  ·exact qw _
  ·exact aB _) (n2 k)
 have hone : ∀(k:Int) (e:Ex) (n:Nat),(k=2∨k=4∨k=5∨k=6∨k=7)→jK e n→J6 ⟨k,[e]⟩ n:=fun k e n hk he=>by
  refine ⟨?_,fun x hx=>by rw[List.mem_singleton.1 hx];exact he.2⟩
  unfold tN
  dsimp only
  rw[if_neg (by omega),if_pos hk]
  exact iH (Nat.le_refl _) (Nat.le_refl _) (fun x hx=>by rw[List.mem_singleton.1 hx];exact he.1)
 refine iA (bg _ ⟨rfl,fun e he=>by cases he⟩) ((fH eG).bR (fun k m hk=>?_) (fun k=>?_))
 ·split
  ·exact h.bR (fun e i he=>bg _ (hone 2 e _ (.inl rfl) (he.mono (by omega)))) (fun e=>aB _)
  ·rename_i h0
   have hk4:k=4∨k=5∨k=6∨k=7:=by
    have:=(hk.resolve_left h0).1
    simpa [eG] using this
   refine dL.bR (fun _ n1' _=>fA.bR (Q:=fun _ _=>True) ?_ (fun b n2' _=>fA.bR (Q:=fun i n=>J6 i n) ?_ (fun i n3' hi=>dL.bR (fun _ n4' _=>bg _ ⟨hi.1,fun e he=>Nat.le_trans (hi.2 e he) (by omega)⟩) (fun _=>aB _)) n1) (n2 k)) (fun _=>n3 k)
   ·split
    ·exact nZ _
    ·exact bg _ trivial
   ·split
    ·exact bg _ ⟨rfl,fun e he=>by cases he⟩
    ·exact h.bR (fun e i he=>bg _ (hone k e _ (.inr hk4) (he.mono (by omega)))) (fun e=>aB _)
 ·split
  ·exact nx.bind fun e=>aB _
  ·exact (bI _).bind fun _=>n3 k
theorem F7 {ex:Pa Ex} (h:fA N ex jK) (nx:bC false 2001 ex):fA N (iL ex) (fun j n=>mD j.1=true∧bf j.2 (fI j.1) (fI j.1) aN=true∧∀e∈j.2,nA e≤n):=by
 unfold iL
 refine iA (gI.bR (fun j n1 hj=>dL.bR (fun _ n2 _=>h.bR (fun e n3 he=>bg _ ⟨?_,?_,fun x hx=>by rw[List.mem_singleton.1 hx];have:=he.2;omega⟩) (fun e=>aB _)) (fun _=>nx.bind fun e=>aB _)) (fun j=>(bI _).bind fun _=>nx.bind fun e=>aB _)) (bg _ ⟨rfl,rfl,fun e he=>by cases he⟩)
 ·unfold mD
  dsimp only
  rw[hj.1]
  simp
 ·have:fI j=1:=if_neg (G5 hj.1)
  dsimp only
  rw[this]
  exact iH (Nat.le_refl _) (Nat.le_refl _) (fun x hx=>by rw[List.mem_singleton.1 hx];exact he.1)
theorem BN {ex:Pa Ex} (h:fA N ex jK) (nx:bC false 2001 ex):fA N (eB ex) Gr:=by
 unfold eB
 have hcol:fA N fu (fun e n=>jK e n∧eu e=true):=xA
 have hcm : ∀(a:Ex) (n m:Nat),(jK a n∧eu a=true)→n≤m→(jK a m∧eu a=true):=fun a n m h hm=>⟨h.1.mono hm,h.2⟩
 have n1 : ∀(its:List It) (tb:List UInt8) (j:List UInt8 × List Ex) (wh gr od:List Ex) (de:Bool),bC false 2001 (aG (gP [76,73,77,73,84] jl (aZ (-1))) fun li=>aZ { iP 6 with tb:=tb,items:=its,jn:=j.1,on:=j.2,wh:=wh,gr:=gr,od:=od,desc:=de,lim:=li }):=fun its tb j wh gr od de=>(eY _ (fun h=>by cases h) kS.ok (aB _)).bind fun li=>aB _
 have n2 : ∀(its:List It) (tb:List UInt8) (j:List UInt8 × List Ex) (wh gr od:List Ex),bC false 2001 (aG (if od.length=0 then aZ false else fF [68,69,83,67]) fun de=>aG (gP [76,73,77,73,84] jl (aZ (-1))) fun li=>aZ { iP 6 with tb:=tb,items:=its,jn:=j.1,on:=j.2,wh:=wh,gr:=gr,od:=od,desc:=de,lim:=li }):=fun its tb j wh gr od=>iN.bind (by
  split
  ·exact aB _
  ·exact qw _) (n1 its tb j wh gr od)
 refine (kQ (P:=J6) (fun a n m h hm=>⟨h.1,fun e he=>Nat.le_trans (h.2 e he) hm⟩) (E8 h nx) oH (oM nx) bW 8 [] 0 (fun a ha=>by cases ha)).bR (fun its m1 hi=>dL.bR (fun _ m2 _=>gI.bR (fun tb m3 ht=>(F7 h nx).bR (fun j m4 hj=>(nJ uf h nx _ _).bR (fun wh m5 hw=>(nJ hcm hcol dS _ _).bR (fun gr m6 hg=>(nJ hcm hcol dS _ _).bR (fun od m7 ho=>fA.bR (Q:=fun de _=>(!de||decide (od.length=1))=true) ?_ (fun de m8 hde=>fA.bR (Q:=fun li _=>-1≤li∧li≤9223372036854775807) (iA (wQ.mp fun n m h=>⟨by omega,h.1.2⟩) (bg _ (by decide))) (fun li m9 hli=>bg _ ⟨?_,?_⟩) (fun li=>aB _)) (n1 its tb j wh gr od)) (n2 its tb j wh gr)) (fun gr=>(bK dS _ _ (by decide)).bind (n2 its tb j wh gr))) (fun wh=>(bK dS _ _ (by decide)).bind fun gr=>(bK dS _ _ (by decide)).bind (n2 its tb j wh gr))) (fun j=>(bK nx _ _ (by decide)).bind fun wh=>(bK dS _ _ (by decide)).bind fun gr=>(bK dS _ _ (by decide)).bind (n2 its tb j wh gr)))
   (fun tb=>(l8 nx).bind fun j=>(bK nx _ _ (by decide)).bind fun wh=>(bK dS _ _ (by decide)).bind fun gr=>(bK dS _ _ (by decide)).bind (n2 its tb j wh gr)))
   (fun _=>bD.bind fun tb=>(l8 nx).bind fun j=>(bK nx _ _ (by decide)).bind fun wh=>(bK dS _ _ (by decide)).bind fun gr=>(bK dS _ _ (by decide)).bind (n2 its tb j wh gr)))
   (fun its=>(bI _).bind fun _=>bD.bind fun tb=>(l8 nx).bind fun j=>(bK nx _ _ (by decide)).bind fun wh=>(bK dS _ _ (by decide)).bind fun gr=>(bK dS _ _ (by decide)).bind (n2 its tb j wh gr))
 ·split
  ·exact bg _ rfl
  ·rename_i h0
   have:od.length=1:=by have:=ho.1;omega
   exact (nZ _).mp fun b n _=>by rw[this];simp
 ·show ((bf its 1 8 tN&&(mD j.1&&(bf j.2 (fI j.1) (fI j.1) aN&&(bf wh 0 1 aN&&(bf gr 0 1 eu&&(bf od 0 1 eu&&((!de||decide (od.length=1))&&decide (-1≤li∧li≤9223372036854775807))))))))&&(bM tb&&_))=true
  rw[iH (a:=1) (b:=8) hi.2.1 hi.2.2 (fun x hx=>(hi.1 x hx).1),hj.1,hj.2.1,iH (Nat.zero_le _) hw.1 (fun x hx=>(hw.2 x hx).1),iH (Nat.zero_le _) hg.1 (fun x hx=>(hg.2 x hx).2),iH (Nat.zero_le _) ho.1 (fun x hx=>(ho.2 x hx).2),hde,decide_eq_true hli,ht.1]
  rfl
 ·intro e he
  have he':e∈its.flatMap (fun i=>i.xs)++(j.2++(wh++(gr++od))):=by simpa [nS,iP] using he
  rcases List.mem_append.1 he' with he | he
  ·obtain⟨x,hx,hxe⟩:=List.mem_flatMap.1 he
   have:=(hi.1 x hx).2 e hxe
   omega
  rcases List.mem_append.1 he with he | he
  ·have:=hj.2.2 e he
   omega
  rcases List.mem_append.1 he with he | he
  ·have:=(hw.2 e he).2
   omega
  rcases List.mem_append.1 he with he | he
  ·have:=(hg.2 e he).1.2
   omega
  ·have:=(ho.2 e he).1.2
   omega
theorem kT : ∀a n m,Gr a n→n≤m→Gr a m:=fun a n m h hm=>⟨h.1,fun e he=>Nat.le_trans (h.2 e he) hm⟩
theorem DN {ex:Pa Ex} (h:fA N ex jK) (nx:bC false 2001 ex):fA N (eO ex) Gr:=by
 unfold eO
 refine (fH gQ).bR (fun k n hk=>?_) (fun k=>?_)
 ·split
  ·exact Aw.mp fun a m h=>kT _ _ _ h (by omega)
  split
  ·exact Es.mp fun a m h=>kT _ _ _ h (by omega)
  split
  ·exact Am.mp fun a m h=>kT _ _ _ h (by omega)
  split
  ·exact (Ay h nx).mp fun a m h=>kT _ _ _ h (by omega)
  split
  ·exact (Bw h nx).mp fun a m h=>kT _ _ _ h (by omega)
  split
  ·exact (BN h nx).mp fun a m h=>kT _ _ _ h (by omega)
  ·exact (oh (by decide) (Q:=fun _ _=>False)).bR (fun _ _ h=>h.elim) (fun _=>aB _)
 ·split
  ·exact rY
  split
  ·exact wN
  split
  ·exact sK
  split
  ·exact sG nx
  split
  ·exact sJ nx
  split
  ·exact sI nx
  ·exact (fV 4 (by decide)).bind fun _=>aB _
theorem vH (F:Nat) (hnx:bC false 2001 (dn F)) (r:Rd) (h1:yI r) (h2:r.d=0) (hb:(iW F r).2.bad=0):bf (iW F r).1 1 8 dQ=true∧∀x∈(iW F r).1,∀e∈nS x,nA e≤r.ts.length:=by
 have hb1:(aV (eO (dn F)) iU 8 [] r).2.bad=0:=(FJ (r:=(aV (eO (dn F)) iU 8 [] r).2) hb).1
 obtain⟨_,_,n,h3,h4,h5,h6⟩:=(kQ (P:=Gr) kT (DN (zo F) hnx) FM (qx hnx) rR 8 [] 0 (fun a ha=>by cases ha)).giv r h1 (by omega) (by omega) hb1
 refine ⟨iH h5 h6 (fun x hx=>(h4 x hx).1),fun x hx e he=>Nat.le_trans ((h4 x hx).2 e he) (by omega)⟩
theorem xG {s:List UInt8} (h:(gT s).2.1=0):bf (gT s).1 1 8 dQ=true∧∀x∈(gT s).1,∀e∈nS x,nA e≤2001:=by
 have hg:=mQ s
 have ht:=wL s
 have hd:(bV s).d=0:=rfl
 unfold gT at h ⊢
 generalize bV s=r at hg ht hd h ⊢
 by_cases hb:(iW 2001 r).2.bad=0
 ·rw[if_pos hb]
  obtain⟨h1,h2⟩:=vH 2001 mg r ht hd hb
  exact⟨h1,fun x hx e he=>Nat.le_trans (h2 x hx e he) hg.many⟩
 ·rw[if_neg hb] at h
  exact absurd h hb
end Go.Proofs.YtnidnipiihhnaaaGreatDoor
