/- Packed for the hand-in: PGram -/
import Derived.Test.YtaaggohjmhifbaaGreatDoorY09
namespace Go.Proofs.YtaaggohjmhifbaaGreatDoor
set_option linter.unusedSimpArgs false
set_option linter.unusedVariables false
set_option maxHeartbeats 8000000
inductive Ex where
 | mk (k op:Int) (tb nm:List UInt8) (v:Vl) (xs:List Ex)
def zV:Vl:=⟨0,0,[]⟩
def Ef:Ex:=.mk 0 0 [] [] zV []
def oZ (op:Int) (a b:Ex):Ex:=.mk 3 op [] [] zV [a,b]
def jE (k:Int) (a:Ex):Ex:=.mk k 0 [] [] zV [a]
def lq (t n:List UInt8):Ex:=.mk 2 0 t n zV []
def zA (v:Vl):Ex:=.mk 1 0 [] [] v []
def jy (below:Pa Ex) (ops:List (List UInt8 × Int)):Nat→Ex→Pa Ex
 | 0,e=>aT e
 | f+1,e=>aB (aF ops) fun op=>if op=0 then aT e else aB below fun x=>jy below ops f (oZ op e x)
def rowP (F:Nat) (below:Pa Ex) (ops:List (List UInt8 × Int)):Pa Ex:=aB below fun e=>jy below ops F e
def xX:List (List UInt8 × Int):=[([79,82],1)]
def qH:List (List UInt8 × Int):=[([65,78,68],2)]
def nW:List (List UInt8 × Int):=[([61],3),([60,62],4),([60],5),([60,61],6),([62],7),([62,61],8)]
def qm:List (List UInt8 × Int):=[([43],9),([45],10)]
def qJ:List (List UInt8 × Int):=[([42],11),([47],12),([37],13)]
def gK:List (List UInt8 × Int):=[([67,82,69,65,84,69],1),([68,82,79,80],2),([73,78,83,69,82,84],3),([85,80,68,65,84,69],4),([68,69,76,69,84,69],5),([83,69,76,69,67,84],6)]
def gJ:List (List UInt8 × Int):=[([73,78,84],1),([84,69,88,84],2)]
def eu:List (List UInt8 × Int):=[([67,79,85,78,84],4),([83,85,77],5),([77,73,78],6),([77,65,88],7)]
def jk:Pa Vl:=gI [78,85,76,76] (aT zV) (aB qy fun o=>match o with
 | some s=>aT ⟨2,0,s⟩
 | none=>gI [45] (aB iT fun n=>aT ⟨1,-n,[]⟩) (aB iT fun n=>aT ⟨1,n,[]⟩))
def fq:Pa Ex:=aB nameP fun n=>gI [46] (aB nameP fun m=>aT (lq n m)) (aT (lq [] n))
def dF (fc ex:Pa Ex):Pa Ex:=aB jF fun b=>if b=true then fq else
 iD (aB (fT fc) fun e=>aT (jE 5 e)) (gI [40] (aB (fT ex) fun e=>aB (cK [41]) fun _=>aT e) (aB jk fun v=>aT (zA v)))
def o9 (e:Ex):Pa Ex:=aB (fD [78,79,84]) fun t=>aB (cK [78,85,76,76]) fun _=>aT (if t=true then jE 4 (jE 6 e) else jE 6 e)
def iB (sum:Pa Ex):Pa Ex:=aB sum fun e=>gI [73,83] (o9 e) (aB (aF nW) fun op=>if op=0 then aT e else aB sum fun x=>aT (oZ op e x))
def notP (nt test:Pa Ex):Pa Ex:=gI [78,79,84] (aB (fT nt) fun e=>aT (jE 4 e)) test
structure Lv where
 nt:Pa Ex
 fc:Pa Ex
 ex:Pa Ex
def E5 (F:Nat) (L:Lv):Pa Ex:=rowP F (dF L.fc L.ex) qJ
def qB (F:Nat) (L:Lv):Pa Ex:=rowP F (E5 F L) qm
def Fh (F:Nat) (L:Lv):Pa Ex:=notP L.nt (iB (qB F L))
def JU (F:Nat) (L:Lv):Pa Ex:=rowP F (Fh F L) qH
def Ca (F:Nat) (L:Lv):Pa Ex:=rowP F (JU F L) xX
def lJ (F:Nat):Nat→Lv
 | 0=>⟨aT Ef,aT Ef,aT Ef⟩
 | n+1=>⟨Fh F (lJ F n),dF (lJ F n).fc (lJ F n).ex,Ca F (lJ F n)⟩
def dG (F:Nat):Pa Ex:=(lJ F 12).ex
structure Co where
 nm:List UInt8
 k:Int
 nn:Bool
 uq:Bool
structure It where
 k:Int
 xs:List Ex
structure Se where
 nm:List UInt8
 e:Ex
structure St where
 k:Int
 tb:List UInt8
 cols:List Co
 prim:List UInt8
 rows:List (List Vl)
 sets:List Se
 items:List It
 jn:List UInt8
 on:List Ex
 wh:List Ex
 gr:List Ex
 od:List Ex
 desc:Bool
 lim:Int
def gZ (k:Int):St:=⟨k,[],[],[],[],[],[],[],[],[],[],[],false,-1⟩
def bI (read:Pa Ex) (first:List UInt8) (others:List (List UInt8)):Pa (List Ex):=gI first (aB (aD others) fun _=>aB read fun e=>aT [e]) (aT [])
def bH:Pa Bool:=fD [44]
def iG:Pa Bool:=fD [59]
def eX:Pa Co:=aB nameP fun n=>aB (aF gJ) fun k=>aB (if k=0 then iF 4 else aT ()) fun _=>aB (gI [78,79,84] (aB (cK [78,85,76,76]) fun _=>aT true) (aT false)) fun nn=>aB (fD [85,78,73,81,85,69]) fun uq=>aT ⟨n,k,nn,uq⟩
def bM:Pa Bool:=gI [44] (aB (Ld [80,82,73,77,65,82,89]) fun b=>aT (!b)) (aB (iF 4) fun _=>aT false)
def dw:Pa St:=aB (cK [84,65,66,76,69]) fun _=>aB nameP fun tb=>aB (cK [40]) fun _=>aB (aR eX bM 8 []) fun cs=>aB (aD [[80,82,73,77,65,82,89],[75,69,89],[40]]) fun _=>aB nameP fun pr=>aB (aD [[41],[41]]) fun _=>aT { gZ 1 with tb:=tb,cols:=cs,prim:=pr }
def jR:Pa St:=aB (cK [84,65,66,76,69]) fun _=>aB nameP fun tb=>aT { gZ 2 with tb:=tb }
def fI:Pa (List Vl):=aB (cK [40]) fun _=>aB (aR jk bH 8 []) fun l=>aB (cK [41]) fun _=>aT l
def dD:Pa St:=aB (cK [73,78,84,79]) fun _=>aB nameP fun tb=>aB (cK [86,65,76,85,69,83]) fun _=>aB (aR fI bH 16 []) fun rs=>aT { gZ 3 with tb:=tb,rows:=rs }
def nR (ex:Pa Ex):Pa Se:=aB nameP fun n=>aB (cK [61]) fun _=>aB ex fun e=>aT ⟨n,e⟩
def dz (ex:Pa Ex):Pa St:=aB nameP fun tb=>aB (cK [83,69,84]) fun _=>aB (aR (nR ex) bH 8 []) fun ss=>aB (bI ex [87,72,69,82,69] []) fun wh=>aT { gZ 4 with tb:=tb,sets:=ss,wh:=wh }
def fH (ex:Pa Ex):Pa St:=aB (cK [70,82,79,77]) fun _=>aB nameP fun tb=>aB (bI ex [87,72,69,82,69] []) fun wh=>aT { gZ 5 with tb:=tb,wh:=wh }
def dV (ex:Pa Ex):Pa It:=gI [42] (aT ⟨1,[]⟩) (aB (aF eu) fun k=>if k=0 then aB ex fun e=>aT ⟨2,[e]⟩ else
 aB (cK [40]) fun _=>aB (if k=4 then fD [42] else aT false) fun b=>aB (if b=true then aT ⟨3,[]⟩ else aB ex fun e=>aT ⟨k,[e]⟩) fun i=>aB (cK [41]) fun _=>aT i)
def iA (ex:Pa Ex):Pa (List UInt8 × List Ex):=gI [74,79,73,78] (aB nameP fun j=>aB (cK [79,78]) fun _=>aB ex fun e=>aT (j,[e])) (aT ([],[]))
def dY (ex:Pa Ex):Pa St:=aB (aR (dV ex) bH 8 []) fun its=>aB (cK [70,82,79,77]) fun _=>aB nameP fun tb=>aB (iA ex) fun j=>aB (bI ex [87,72,69,82,69] []) fun wh=>aB (bI fq [71,82,79,85,80] [[66,89]]) fun gr=>aB (bI fq [79,82,68,69,82] [[66,89]]) fun od =>
 aB (if od.length=0 then aT false else fD [68,69,83,67]) fun de=>aB (gI [76,73,77,73,84] iT (aT (-1))) fun li=>aT { gZ 6 with tb:=tb,items:=its,jn:=j.1,on:=j.2,wh:=wh,gr:=gr,od:=od,desc:=de,lim:=li }
def eH (ex:Pa Ex):Pa St:=aB (aF gK) fun k=>if k=1 then dw else if k=2 then jR else if k=3 then dD else if k=4 then dz ex else if k=5 then fH ex else if k=6 then dY ex else aB (iF 4) fun _=>aT (gZ k)
def iJ (F:Nat):Pa (List St):=aB (aR (eH (dG F)) iG 8 []) fun l=>aB endP fun _=>aT l
theorem wD {b:Bool} {F:Nat} {below:Pa Ex} {ops:List (List UInt8 × Int)} (h:bf b F below) (ho:b=true→∀c∈ops,c.1≠[59]∧c.1≠[41]):∀(f:Nat) (e:Ex),bf b F (jy below ops f e)
 | 0,e=>ay _
 |
  f+1,e=>(dB ops ho).bind fun op=>by
  split
  ·exact ay _
  ·exact h.bind fun x=>wD h ho f _
theorem qE {b:Bool} {F:Nat} {below:Pa Ex} {ops:List (List UInt8 × Int)} (h:bf b F below) (ho:b=true→∀c∈ops,c.1≠[59]∧c.1≠[41]) (f:Nat):bf b F (rowP f below ops):=h.bind fun e=>wD h ho f e
theorem ny {b:Bool} {F:Nat}:bf b F jk :=
 eU _ (fun _=>by decide) (ay _).ok (vW.bind fun o=>by
  cases o with
  | some s=>exact ay _
  | none=>exact eU _ (fun _=>by decide) (j6.bind fun n=>ay _).ok (j6.bind fun n=>ay _))
theorem dP {b:Bool} {F:Nat}:bf b F fq:=aZ.bind fun n=>eU _ (fun _=>by decide) (aZ.bind fun m=>ay _).ok (ay _)
theorem nU {b:Bool} {F:Nat} {fc ex:Pa Ex} (h1:bf b F fc) (h2:bf b F ex):bf b F (dF fc ex) :=
 zx.bind fun c=>by
  split
  ·exact dP
  ·exact Az ((oz h1).bind fun e=>ay _) (eU _ (fun _=>by decide) ((oz h2).bind fun e=>(bD _).bind fun _=>ay _) (ny.bind fun v=>ay _))
theorem Dc {b:Bool} {F:Nat} (e:Ex):bf b F (o9 e):=(jC _ (fun _=>by decide)).bind fun t=>(bD _).bind fun _=>ay _
theorem Ee {b:Bool} {F:Nat} {sum:Pa Ex} (h:bf b F sum):bf b F (iB sum) :=
 h.bind fun e=>eU _ (fun _=>by decide) (Dc e).ok ((dB _ (fun _=>by decide)).bind fun op=>by
  split
  ·exact ay _
  ·exact h.bind fun x=>ay _)
theorem EO {b:Bool} {F:Nat} {nt test:Pa Ex} (h1:bf b F nt) (h2:bf b F test):bf b F (notP nt test) :=
 eU _ (fun _=>by decide) ((oz h1).bind fun e=>ay _) h2
structure vO (b:Bool) (F:Nat) (L:Lv):Prop where
 nt:bf b F L.nt
 fc:bf b F L.fc
 ex:bf b F L.ex
theorem vQ {b:Bool} {F:Nat} {L:Lv} (h:vO b F L):bf b F (E5 F L):=qE (nU h.fc h.ex) (fun _=>by decide) F
theorem yG {b:Bool} {F:Nat} {L:Lv} (h:vO b F L):bf b F (qB F L):=qE (vQ h) (fun _=>by decide) F
theorem rC {b:Bool} {F:Nat} {L:Lv} (h:vO b F L):bf b F (Fh F L):=EO h.nt (Ee (yG h))
theorem yO {b:Bool} {F:Nat} {L:Lv} (h:vO b F L):bf b F (JU F L):=qE (rC h) (fun _=>by decide) F
theorem Bl {b:Bool} {F:Nat} {L:Lv} (h:vO b F L):bf b F (Ca F L):=qE (yO h) (fun _=>by decide) F
theorem lM {b:Bool} {F:Nat}:∀n,vO b F (lJ F n)
 | 0=>⟨ay _,ay _,ay _⟩
 | n+1=>⟨rC (lM n),nU (lM n).fc (lM n).ex,Bl (lM n)⟩
theorem oL {b:Bool} {F:Nat}:bf b F (dG F):=(lM 12).ex
theorem bG {b:Bool} {F:Nat} {read:Pa Ex} (h:bf b F read) (t:List UInt8) (l:List (List UInt8)) (ht:t≠[59]∧t≠[41]):bf b F (bI read t l) :=
 eU _ (fun _=>ht) ((aY l).bind fun _=>h.bind fun e=>ay _).ok (ay _)
theorem bR {b:Bool} {F:Nat}:bf b F bH:=jC _ (fun _=>by decide)
theorem ig {b:Bool} {F:Nat}:bf b F eX :=
 aZ.bind fun n=>(dB _ (fun _=>by decide)).bind fun k=>iC.bind (p:=if k=0 then iF 4 else aT ()) (by
  split
  ·exact fM 4 (by decide)
  ·exact ay _) fun _=>(eU _ (fun _=>by decide) ((bD _).bind fun _=>ay _).ok (ay _)).bind fun nn=>(jC _ (fun _=>by decide)).bind fun uq=>ay _
theorem dR {b:Bool} {F:Nat}:bf b F bM :=
 eU _ (fun _=>by decide) ((Im _ (fun _=>by decide)).bind fun c=>ay _).ok ((fM 4 (by decide)).bind fun _=>ay _)
theorem sw {b:Bool} {F:Nat}:bf b F dw :=
 (bD _).bind fun _=>aZ.bind fun tb=>(bD _).bind fun _=>(bV ig dR 8 []).bind fun cs=>(aY _).bind fun _=>aZ.bind fun pr=>(aY _).bind fun _=>ay _
theorem wm {b:Bool} {F:Nat}:bf b F jR:=(bD _).bind fun _=>aZ.bind fun tb=>ay _
theorem gU {b:Bool} {F:Nat}:bf b F fI:=(bD _).bind fun _=>(bV ny bR 8 []).bind fun l=>(bD _).bind fun _=>ay _
theorem su {b:Bool} {F:Nat}:bf b F dD :=
 (bD _).bind fun _=>aZ.bind fun tb=>(bD _).bind fun _=>(bV gU bR 16 []).bind fun rs=>ay _
theorem lY {b:Bool} {F:Nat} {ex:Pa Ex} (h:bf b F ex):bf b F (nR ex):=aZ.bind fun n=>(bD _).bind fun _=>h.bind fun e=>ay _
theorem sG {b:Bool} {F:Nat} {ex:Pa Ex} (h:bf b F ex):bf b F (dz ex) :=
 aZ.bind fun tb=>(bD _).bind fun _=>(bV (lY h) bR 8 []).bind fun ss=>(bG h _ _ (by decide)).bind fun wh=>ay _
theorem sH {b:Bool} {F:Nat} {ex:Pa Ex} (h:bf b F ex):bf b F (fH ex) :=
 (bD _).bind fun _=>aZ.bind fun tb=>(bG h _ _ (by decide)).bind fun wh=>ay _
theorem oN {b:Bool} {F:Nat} {ex:Pa Ex} (h:bf b F ex):bf b F (dV ex) :=
 eU _ (fun _=>by decide) (ay _).ok ((dB _ (fun _=>by decide)).bind fun k=>by
  split
  ·exact h.bind fun e=>ay _
  ·refine (bD _).bind fun _=>iC.bind ?_ fun c=>iC.bind ?_ fun i=>(bD _).bind fun _=>ay _
   ·split
    ·exact jC _ (fun _=>by decide)
    ·exact ay _
   ·split
    ·exact ay _
    ·exact h.bind fun e=>ay _)
theorem lV {b:Bool} {F:Nat} {ex:Pa Ex} (h:bf b F ex):bf b F (iA ex) :=
 eU _ (fun _=>by decide) (aZ.bind fun j=>(bD _).bind fun _=>h.bind fun e=>ay _).ok (ay _)
theorem sO {b:Bool} {F:Nat} {ex:Pa Ex} (h:bf b F ex):bf b F (dY ex) :=
 (bV (oN h) bR 8 []).bind fun its=>(bD _).bind fun _=>aZ.bind fun tb=>(lV h).bind fun j=>(bG h _ _ (by decide)).bind fun wh=>(bG dP _ _ (by decide)).bind fun gr=>(bG dP _ _ (by decide)).bind fun od =>
  iC.bind (p:=if od.length=0 then aT false else fD [68,69,83,67]) (by
   split
   ·exact ay _
   ·exact jC _ (fun _=>by decide)) fun de=>(eU _ (fun _=>by decide) j6.ok (ay _)).bind fun li=>ay _
theorem pI {b:Bool} {F:Nat} {ex:Pa Ex} (h:bf b F ex):bf b F (eH ex) :=
 (dB _ (fun _=>by decide)).bind fun k=>by
  split
  ·exact sw
  ·split
   ·exact wm
   ·split
    ·exact su
    ·split
     ·exact sG h
     ·split
      ·exact sH h
      ·split
       ·exact sO h
       ·exact (fM 4 (by decide)).bind fun _=>ay _
theorem rM {F:Nat}:bf false F iG:=jC _ (fun e=>by cases e)
theorem GU {F:Nat}:bf false F endP where
 mono:=fun r h=>by unfold endP;rw[iV h,if_neg (by decide),fP h];exact⟨rfl,rfl⟩
 fine:=fun r _ h=>by
  unfold endP
  split
  ·exact⟨h,rfl,Nat.le_refl _⟩
  ·exact (fM (b:=false) 4 (by decide)).fine r trivial h
 simA:=fun r r' h=>by
  unfold endP
  rw[(ql (lT h)).1]
  split
  ·exact⟨rfl,h⟩
  ·exact⟨rfl,j4 h 4⟩
 simB:=fun e=>by cases e
theorem yj {F:Nat}:bf false F (aR (eH (dG F)) iG 8 []):=bV (pI oL) rM 8 []
theorem zl {F:Nat}:bf false F (iJ F):=yj.bind fun l=>GU.bind fun _=>ay _
def bQ (n:Nat) (r:Rd):Prop:=(r.bad=0→12≤r.d+n)∧1≤n
def wI (F n:Nat) (G:Rd→Prop) {α:Type} (p q:Pa α):Prop:=∀r,G r→Good F r→bQ n r→p r=q r
abbrev Lj (F n:Nat) {α:Type} (p q:Pa α):Prop:=wI F n (fun _=>True) p q
abbrev KO (F n:Nat) {α:Type} (p q:Pa α):Prop:=wI F n (fun r=>r.bad=0) p q
theorem wI.ok {F n:Nat} {α:Type} {p q:Pa α} (h:Lj F n p q):KO F n p q:=fun r _=>h r trivial
theorem bQ.after {F n:Nat} {G:Rd→Prop} {α:Type} {p:Pa α} {r:Rd} (hp:iC false F G p) (g:G r) (hG:Good F r) (h:bQ n r):bQ n (p r).2:=by
 refine ⟨fun hb=>?_,h.2⟩
 rw[(hp.fine r g hG).2.1]
 refine h.1 ?_
 by_cases e:r.bad=0
 ·exact e
 ·rw[(hp.mono r e).1] at hb;exact hb
theorem wI.bind {F n:Nat} {G:Rd→Prop} {α β:Type} {p p':Pa α} {q q':α→Pa β} (hp:wI F n G p p') (hn:iC false F G p) (hq : ∀a,Lj F n (q a) (q' a)):wI F n G (aB p q) (aB p' q'):=fun r g hG hE=>by
 unfold aB
 rw[← hp r g hG hE]
 exact hq _ _ trivial (hn.fine r g hG).1 (hE.after hn g hG)
theorem bQ.next {n:Nat} {r:Rd} (h:bQ n r):bQ n (nextR r):=⟨h.1,h.2⟩
theorem Good.down {F:Nat} {r:Rd} (h:Good F r) (hb:r.bad=0):Good F (bJ r)∧(bJ r).d=r.d+1∧(bJ r).ts=r.ts:=by
 have h2:=h.d2 hb
 have h0:=h.d0
 unfold bJ
 split
 ·rename_i h10
  obtain⟨t1,t2⟩:=oK ({ r with d:=r.d+1 }:Rd) 10
  have hf:=fZ (r:=({ r with d:=r.d+1 }:Rd)) hb 10
  exact⟨⟨fun e=>absurd (hf.symm.trans e) (by decide),by rw[t2];show 0≤r.d+1;omega,by rw[t2];show r.d+1≤11;omega,fun e=>absurd (hf.symm.trans e) (by decide),by rw[t1];exact h.nums,by rw[t1];exact h.many⟩,t2,t1⟩
 ·exact⟨⟨h.last,by show 0≤r.d+1;omega,by show r.d+1≤11;omega,fun _=>by show r.d+1≤10;omega,h.nums,h.many⟩,rfl,rfl⟩
theorem bQ.down {F n:Nat} {r:Rd} (h:bQ (n+1) r) (hG:Good F r) (hb:r.bad=0):bQ n (bJ r):=by
 have h1:=h.1 hb
 have h2:=hG.d2 hb
 refine ⟨fun _=>?_,by omega⟩
 rw[(hG.down hb).2.1]
 omega
end Go.Proofs.YtaaggohjmhifbaaGreatDoor
