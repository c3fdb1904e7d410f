/- Packed for the hand-in: WPure -/
import Derived.Test.YtnidnipiihhnaaaGreatDoorZ08
namespace Go.Proofs.YtnidnipiihhnaaaGreatDoor
set_option linter.unusedSimpArgs false
set_option linter.unusedVariables false
set_option maxHeartbeats 8000000
def bM (s:List UInt8):Bool:=decide (0<s.length)&&(decide (s.length≤16)&&(cu iE (s.headD 0)&&decide (row (cu dK) s=s.length)))
def fq (v:Vl):Bool:=decide (iZ v=0)&&decide (-9223372036854775807≤v.n∧v.n≤9223372036854775807)
def aI (s:List UInt8):Tk:=if 65≤s.headD 0∧s.headD 0≤90 then ⟨2,s,0,0⟩ else ⟨5,s,0,0⟩
def aT (s:List UInt8):Tk:=⟨1,s,0,0⟩
def ny (n:Int):Tk:=⟨3,[],n,0⟩
def J8 (s:List UInt8):Tk:=⟨4,s,0,0⟩
inductive Tm where
 | val (v:Vl)
 | col (t n:List UInt8)
 | op (o:Int) (a b:Tm)
 | not (a:Tm)
 | neg (a:Tm)
 | nul (a:Tm)
 | nnul (a:Tm)
def Tm.ex:Tm→Ex
 | .val v=>jf v
 | .col t n=>jM t n
 | .op o a b=>mq o a.ex b.ex
 | .not a=>eT 4 a.ex
 | .neg a=>eT 5 a.ex
 | .nul a=>eT 6 a.ex
 | .nnul a=>eT 4 (eT 6 a.ex)
def uj:List (List UInt8 × Nat):=[([],0),([79,82],0),([65,78,68],1),([61],3),([60,62],3),([60],3),([60,61],3),([62],3),([62,61],3),([43],4),([45],4),([42],5),([47],5),([37],5)]
def kN (o:Int):List UInt8:=(uj.getD o.toNat ([],0)).1
def bU (o:Int):Nat:=(uj.getD o.toNat ([],0)).2
def rP (o:Int):Nat:=if bU o=3 then 4 else bU o
def Tm.zM:Tm→Bool
 | .nul _=>true
 | _=>false
def Tm.isNum:Tm→Bool
 | .val v=>decide (v.k=1)&&decide (0≤v.n)
 | _=>false
def Tm.lv:Tm→Nat
 | .op o _ _=>bU o
 | .nul _=>3
 | .nnul _=>3
 | .not _=>2
 | _=>6
def gX (v:Vl):List Tk:=if v.k=2 then [J8 v.s] else if v.k=0 then [aI [78,85,76,76]] else if v.n<0 then [aI [45],ny (-v.n)] else [ny v.n]
def fM (l lv:Nat) (ts:List Tk):List Tk:=if l≤lv then ts else aI [40]::(ts++[aI [41]])
def lG (l lv d:Nat):Nat:=if l≤lv then d else d+1
def negL (a:Tm):Nat:=if a.isNum=true then 7 else 6
def isK:Tk:=aI [73,83]
def uH:Tk:=aI [78,79,84]
def vB:Tk:=aI [78,85,76,76]
def Tm.tk:Tm→List Tk
 | .val v=>gX v
 | .col t n=>if t=[] then [aT n] else [aT t,aI [46],aT n]
 | .op o a b=>fM (rP o) a.lv a.tk++aI (kN o)::fM (bU o+1) b.lv b.tk
 | .not a=>uH::fM 2 a.lv a.tk
 | .neg a=>aI [45]::fM (negL a) a.lv a.tk
 | .nul a=>fM 4 a.lv a.tk++[isK,vB]
 | .nnul a=>fM 4 a.lv a.tk++[isK,uH,vB]
def Tm.dp:Tm→Nat
 | .val _=>0
 | .col _ _=>0
 | .op o a b=>max (lG (rP o) a.lv a.dp) (lG (bU o+1) b.lv b.dp)
 | .not a=>lG 2 a.lv a.dp+1
 | .neg a=>lG (negL a) a.lv a.dp+1
 | .nul a=>lG 4 a.lv a.dp
 | .nnul a=>lG 4 a.lv a.dp
def Tm.ok:Tm→Prop
 | .val v=>fq v=true
 | .col t n=>bM n=true∧(t=[]∨bM t=true)
 | .op o a b=>1≤o∧o≤13∧a.ok∧b.ok
 | .not a=>a.zM=false∧a.ok
 | .neg a=>a.ok
 | .nul a=>a.ok
 | .nnul a=>a.ok
def Tm.sz:Tm→Nat
 | .val _=>1
 | .col _ _=>1
 | .op _ a b=>a.sz+b.sz+1
 | .not a=>a.sz+1
 | .neg a=>a.sz+1
 | .nul a=>a.sz+1
 | .nnul a=>a.sz+2
theorem fD (l lv:Nat) (ts:List Tk):ts.length≤(fM l lv ts).length∧(fM l lv ts).length≤ts.length+2:=by
 unfold fM
 split
 ·omega
 ·simp only[List.length_cons,List.length_append,List.length_nil];omega
theorem uw (v:Vl):1≤(gX v).length∧(gX v).length≤2:=by
 unfold gX
 split
 ·simp
 ·split
  ·simp
  ·split<;>simp
theorem Ez (t:Tm):1≤t.sz:=by cases t<;>simp[Tm.sz]
theorem ED (t:Tm):1≤t.tk.length∧t.tk.length+2≤8*t.sz:=by
 induction t with
 | val v=>have:=uw v;simp only[Tm.tk,Tm.sz];omega
 | col t n=>simp only[Tm.tk,Tm.sz];split<;>simp
 |
  op o a b ha hb =>
  have h1:=fD (rP o) a.lv a.tk
  have h2:=fD (bU o+1) b.lv b.tk
  simp only[Tm.tk,Tm.sz,List.length_append,List.length_cons]
  omega
 | not a ha=>have h1:=fD 2 a.lv a.tk;simp only[Tm.tk,Tm.sz,List.length_cons];omega
 | neg a ha=>have h1:=fD (negL a) a.lv a.tk;simp only[Tm.tk,Tm.sz,List.length_cons];omega
 | nul a ha=>have h1:=fD 4 a.lv a.tk;simp only[Tm.tk,Tm.sz,List.length_append,List.length_cons,List.length_nil];omega
 | nnul a ha=>have h1:=fD 4 a.lv a.tk;simp only[Tm.tk,Tm.sz,List.length_append,List.length_cons,List.length_nil];omega
theorem kR (l lv d:Nat):d≤lG l lv d∧lG l lv d≤d+1:=by unfold lG;split<;>omega
theorem Ir (t:Tm):t.dp+2≤2*t.sz:=by
 induction t with
 | val v=>simp[Tm.dp,Tm.sz]
 | col t n=>simp[Tm.dp,Tm.sz]
 |
  op o a b ha hb =>
  have h1:=kR (rP o) a.lv a.dp
  have h2:=kR (bU o+1) b.lv b.dp
  have h3:=Ez a
  have h4:=Ez b
  simp only[Tm.dp,Tm.sz]
  omega
 | not a ha=>have h1:=kR 2 a.lv a.dp;simp only[Tm.dp,Tm.sz];omega
 | neg a ha=>have h1:=kR (negL a) a.lv a.dp;simp only[Tm.dp,Tm.sz];omega
 | nul a ha=>have h1:=kR 4 a.lv a.dp;simp only[Tm.dp,Tm.sz];omega
 | nnul a ha=>have h1:=kR 4 a.lv a.dp;simp only[Tm.dp,Tm.sz];omega
def jm (t:Tk) (s:List UInt8):Bool:=(t.k==2||t.k==5)&&t.s==s
abbrev RR (d bp:Int) (ts:List Tk):Rd:=⟨ts,d,0,bp⟩
theorem xL (d bp:Int) (ts:List Tk) (s:List UInt8):dR s (RR d bp ts)=jm (ts.headD jJ) s:=rfl
theorem Ew (d bp:Int) (t:Tk) (ts:List Tk):nextR (RR d bp (t::ts))=RR d bp ts:=rfl
theorem aL {α β:Type} {p:Pa α} {q:α→Pa β} {r r1:Rd} {x:α} (h:p r=(x,r1)):aG p q r=q x r1:=by
 unfold aG;rw[h]
theorem j3 {α:Type} {d bp:Int} {t:Tk} {ts:List Tk} {s:List UInt8} (y m:Pa α) (h:jm t s=true):gP s y m (RR d bp (t::ts))=y (RR d bp ts):=by
 unfold gP
 rw[xL,List.headD_cons,if_pos h]
 rfl
theorem jO {α:Type} {d bp:Int} {ts:List Tk} {s:List UInt8} (y m:Pa α) (h:jm (ts.headD jJ) s=false):gP s y m (RR d bp ts)=m (RR d bp ts):=by
 unfold gP
 rw[xL,if_neg (by rw[h];exact Bool.false_ne_true)]
theorem oV {d bp:Int} {ts:List Tk}:∀ops:List (List UInt8 × Int),(∀c∈ops,jm (ts.headD jJ) c.1=false)→aK ops (RR d bp ts)=(0,RR d bp ts)
 | [],_=>rfl
 |
  c::ops,h=>by
  unfold aK
  rw[jO _ _ (h c (by simp))]
  exact oV ops (fun x hx=>h x (by simp[hx]))
def j5 (l:Nat):List (List UInt8) :=
 [46]::((if l≤5 then [[42],[47],[37]] else [])++((if l≤4 then [[43],[45]] else [])++((if l≤3 then [[73,83],[61],[60,62],[60],[60,61],[62],[62,61]] else [])++((if l≤1 then [[65,78,68]] else [])++(if l=0 then [[79,82]] else [])))))
def Stops (l:Nat) (rest:List Tk):Prop:=∀s∈j5 l,jm (rest.headD jJ) s=false
theorem Stops.up {l m:Nat} {rest:List Tk} (h:Stops l rest) (hm:l≤m):Stops m rest:=fun s hs=>h s (by
 unfold j5 at hs ⊢
 rw[List.mem_cons] at hs ⊢
 rcases hs with hs | hs
 ·exact .inl hs
 ·right
  simp only[List.mem_append] at hs ⊢
  rcases hs with hs | hs | hs | hs | hs
  ·left;split at hs
   ·rw[if_pos (by omega)];exact hs
   ·cases hs
  ·right;left;split at hs
   ·rw[if_pos (by omega)];exact hs
   ·cases hs
  ·right;right;left;split at hs
   ·rw[if_pos (by omega)];exact hs
   ·cases hs
  ·right;right;right;left;split at hs
   ·rw[if_pos (by omega)];exact hs
   ·cases hs
  ·right;right;right;right;split at hs
   ·rw[if_pos (by omega)];exact hs
   ·cases hs)
def Pl (F n:Nat):Nat→Pa Ex
 | 0=>Ca F (lV F n)
 | 1=>Jk F (lV F n)
 | 2=>EB F (lV F n)
 | 3=>iK (qF F (lV F n))
 | 4=>qF F (lV F n)
 | 5=>EL F (lV F n)
 | _=>dO (lV F n).fc (lV F n).ex
theorem wJ {below:Pa Ex} {ops:List (List UInt8 × Int)} {d bp:Int} {ts:List Tk} (e:Ex) (h : ∀c∈ops,jm (ts.headD jJ) c.1=false):∀f,jT below ops f e (RR d bp ts)=(e,RR d bp ts)
 | 0=>rfl
 |
  f+1=>by
  unfold jT aG
  rw[oV ops h]
  rfl
theorem pF {below:Pa Ex} {ops:List (List UInt8 × Int)} {d bp:Int} {ts rest:List Tk} {e:Ex} {f:Nat} (hb:below (RR d bp ts)=(e,RR d bp rest)) (h : ∀c∈ops,jm (rest.headD jJ) c.1=false):rowP f below ops (RR d bp ts)=(e,RR d bp rest):=by
 unfold rowP aG
 rw[hb]
 exact wJ e h f
theorem Ig {F n l:Nat} {d bp:Int} {ts rest:List Tk} {e:Ex} (hl:l<6) (h:Pl F n (l+1) (RR d bp ts)=(e,RR d bp rest)) (hs:Stops l rest) (hn:l=2→jm (ts.headD jJ) [78,79,84]=false):Pl F n l (RR d bp ts)=(e,RR d bp rest):=by
 have hb : ∀c,c∈j5 l→jm (rest.headD jJ) c=false:=hs
 match l,hl,h,hb,hn with
 | 0,_,h,hb,_=>exact pF h (fun c hc=>hb _ (by revert c;decide))
 | 1,_,h,hb,_=>exact pF h (fun c hc=>hb _ (by revert c;decide))
 | 2,_,h,hb,hn=>exact (jO _ _ (hn rfl)).trans h
 |
  3,_,h,hb,_ =>
  show iK (qF F (lV F n)) _=_
  unfold iK aG
  rw[show qF F (lV F n) (RR d bp ts)=(e,RR d bp rest) from h]
  dsimp only
  rw[jO _ _ (hb _ (by decide))]
  rw[oV _ (fun c hc=>hb _ (by revert c;decide))]
  rfl
 | 4,_,h,hb,_=>exact pF h (fun c hc=>hb _ (by revert c;decide))
 | 5,_,h,hb,_=>exact pF h (fun c hc=>hb _ (by revert c;decide))
theorem uP {F n:Nat} {d bp:Int} {ts rest:List Tk} {e:Ex} (L:Nat) (hL:L≤6) (h:Pl F n L (RR d bp ts)=(e,RR d bp rest)):∀l,l≤L→Stops l rest→(l≤2→3≤L→jm (ts.headD jJ) [78,79,84]=false)→Pl F n l (RR d bp ts)=(e,RR d bp rest):=by
 induction L with
 | zero =>
    intro l hl _ _;obtain rfl:l=0:=by omega
    exact h
 |
  succ L ih =>
  intro l hl hs hn
  by_cases e1:l=L+1
  ·subst e1;exact h
  ·refine ih (by omega) (Ig (by omega) h (hs.up (by omega)) (fun e2=>hn (by omega) (by omega))) l (by omega) hs (fun h1 h2=>hn h1 (by omega))
theorem Cz (t:Tm) (hok:t.ok):∃h X,t.tk=h::X∧(3≤t.lv→jm h [78,79,84]=false):=by
 have hat : ∀(l:Nat) (a:Tm),3≤l→(∃h X,a.tk=h::X∧(3≤a.lv→jm h [78,79,84]=false))→∃h X,fM l a.lv a.tk=h::X∧jm h [78,79,84]=false:=fun l a hl ⟨h,X,e,hn⟩=>by
  unfold fM
  split
  ·rename_i hh;exact⟨h,X,e,hn (by omega)⟩
  ·exact⟨_,_,rfl,by decide⟩
 have hat0 : ∀(l:Nat) (a:Tm),(∃h X,a.tk=h::X∧(3≤a.lv→jm h [78,79,84]=false))→∃h X,fM l a.lv a.tk=h::X:=fun l a ⟨h,X,e,hn⟩=>by
  unfold fM
  split
  ·exact⟨h,X,e⟩
  ·exact⟨_,_,rfl⟩
 induction t with
 |
  val v =>
  simp only[Tm.tk,gX]
  split
  ·exact⟨_,_,rfl,fun _=>rfl⟩
  ·split
   ·exact⟨_,_,rfl,fun _=>by decide⟩
   ·split
    ·exact⟨_,_,rfl,fun _=>by decide⟩
    ·exact⟨_,_,rfl,fun _=>rfl⟩
 |
  col t n =>
  simp only[Tm.tk]
  split
  ·exact⟨_,_,rfl,fun _=>rfl⟩
  ·exact⟨_,_,rfl,fun _=>rfl⟩
 |
  op o a b ha hb =>
  simp only[Tm.tk]
  by_cases h3:3≤rP o
  ·obtain⟨h,X,e,hn⟩:=hat (rP o) a h3 (ha hok.2.2.1)
   rw[e];exact⟨_,_,rfl,fun _=>hn⟩
  ·obtain⟨h,X,e⟩:=hat0 (rP o) a (ha hok.2.2.1)
   rw[e]
   refine ⟨_,_,rfl,fun hh=>absurd ?_ h3⟩
   show 3≤rP o
   unfold rP
   have:3≤bU o:=hh
   split<;>omega
 | not a ha=>exact⟨_,_,rfl,fun h=>absurd (show 3≤2 from h) (by decide)⟩
 | neg a ha=>exact⟨_,_,rfl,fun _=>by decide⟩
 |
  nul a ha =>
  obtain⟨h,X,e,hn⟩:=hat 4 a (by decide) (ha hok)
  simp only[Tm.tk]
  rw[e];exact⟨_,_,rfl,fun _=>hn⟩
 |
  nnul a ha =>
  obtain⟨h,X,e,hn⟩:=hat 4 a (by decide) (ha hok)
  simp only[Tm.tk]
  rw[e];exact⟨_,_,rfl,fun _=>hn⟩
theorem Gn (a:Tm) (hok:a.ok):∃h X,fM (negL a) a.lv a.tk=h::X∧h.k≠3:=by
 unfold fM
 split
 ·rename_i hl
  have hn:a.isNum=false:=by
   cases h:a.isNum with
   | false=>rfl
   |
    true =>
    exfalso
    unfold negL at hl
    rw[if_pos h] at hl
    cases a with
    | val v=>have:(7:Nat)≤6:=hl;omega
    | _=>simp[Tm.isNum] at h
  unfold negL at hl
  rw[hn] at hl
  have hl:6≤a.lv:=hl
  cases a with
  |
   val v =>
   simp only[Tm.tk,gX]
   split
   ·exact⟨_,_,rfl,by show (4:Int)≠3;decide⟩
   ·rename_i h2
    split
    ·exact⟨_,_,rfl,by decide⟩
    ·rename_i h0
     have hk:v.k=1:=by
      have hv:fq v=true:=hok
      unfold fq at hv
      simp only[Bool.and_eq_true,decide_eq_true_eq] at hv
      have hr:=hv.1
      unfold iZ at hr
      by_cases he:eqv v (iC v)=false
      ·rw[if_pos he] at hr;cases hr
      ·have he:=mO.1 (by simpa using he)
       unfold iC at he
       by_cases h1:v.k=1
       ·exact h1
       ·rw[if_neg h1,if_neg h2] at he
        exact absurd (congrArg Vl.k he) h0
     split
     ·exact⟨_,_,rfl,by decide⟩
     ·rename_i hneg
      simp[Tm.isNum,hk] at hn
      omega
  |
   col t n =>
   simp only[Tm.tk]
   split
   ·exact⟨_,_,rfl,by show (1:Int)≠3;decide⟩
   ·exact⟨_,_,rfl,by show (1:Int)≠3;decide⟩
  |
   op o b c =>
   exfalso
   have hl:6≤bU o:=hl
   obtain⟨h1,h2,_⟩:=hok
   have : ∀k:Nat,k≤13→(uj.getD k ([],0)).2≤5:=by decide
   have:=this o.toNat (by omega)
   unfold bU at hl
   omega
  | not b=>exfalso;have:(6:Nat)≤2:=hl;omega
  | neg b=>exact⟨_,_,rfl,by decide⟩
  | nul b=>exfalso;have:(6:Nat)≤3:=hl;omega
  | nnul b=>exfalso;have:(6:Nat)≤3:=hl;omega
 ·exact⟨_,_,rfl,by decide⟩
theorem nW {v:Vl} (hv:fq v=true):(v.k=2∧v.n=0∧v.s.length≤40)∨(v.k=0∧v.n=0∧v.s=[])∨(v.k=1∧v.s=[]∧-9223372036854775807≤v.n∧v.n≤9223372036854775807):=by
 unfold fq at hv
 simp only[Bool.and_eq_true,decide_eq_true_eq] at hv
 obtain⟨hr,hm⟩:=hv
 unfold iZ at hr
 by_cases he:eqv v (iC v)=false
 ·rw[if_pos he] at hr;cases hr
 ·rw[if_neg he] at hr
  have he:=mO.1 (by simpa using he)
  have hlen:v.s.length≤40:=by
   by_cases h:40<v.s.length
   ·rw[if_pos h] at hr;cases hr
   ·omega
  unfold iC at he
  by_cases h1:v.k=1
  ·rw[if_pos h1] at he;exact .inr (.inr ⟨h1,congrArg Vl.s he,hm⟩)
  ·rw[if_neg h1] at he
   by_cases h2:v.k=2
   ·rw[if_pos h2] at he;exact .inl ⟨h2,congrArg Vl.n he,hlen⟩
   ·rw[if_neg h2] at he;exact .inr (.inl ⟨congrArg Vl.k he,congrArg Vl.n he,congrArg Vl.s he⟩)
theorem Ae {v:Vl} (hv:fq v=true) (d bp:Int) (rest:List Tk):jI (RR d bp (gX v++rest))=(v,RR d bp rest):=by
 obtain⟨k,n,s⟩:=v
 rcases nW hv with⟨h1,h2,h3⟩ | ⟨h1,h2,h3⟩ | ⟨h1,h2,h3⟩
 ·dsimp only at h1 h2;subst h1 h2
  rfl
 ·dsimp only at h1 h2 h3;subst h1 h2 h3
  rfl
 ·dsimp only at h1 h2;subst h1 h2
  have e:gX ⟨1,n,[]⟩=if n<0 then [aI [45],ny (-n)] else [ny n]:=rfl
  rw[e]
  by_cases hn:n<0
  ·rw[if_pos hn]
   show ((⟨1,- -n,[]⟩:Vl),RR d bp rest)=_
   rw[Int.neg_neg]
  ·rw[if_neg hn]
   rfl
theorem uR {v:Vl} (hv:fq v=true) (d bp:Int) (rest:List Tk) (yes no:Pa Ex):jV (RR d bp (gX v++rest))=(false,RR d bp (gX v++rest))∧iO yes no (RR d bp (gX v++rest))=no (RR d bp (gX v++rest))∧jm ((gX v++rest).headD jJ) [40]=false:=by
 obtain⟨k,n,s⟩:=v
 rcases nW hv with⟨h1,h2,h3⟩ | ⟨h1,h2,h3⟩ | ⟨h1,h2,h3⟩
 ·dsimp only at h1 h2;subst h1 h2
  exact⟨rfl,rfl,rfl⟩
 ·dsimp only at h1 h2 h3;subst h1 h2 h3
  exact⟨rfl,rfl,by show jm (aI [78,85,76,76]) [40]=false;decide⟩
 ·dsimp only at h1 h2;subst h1 h2
  have e:gX ⟨1,n,[]⟩=if n<0 then [aI [45],ny (-n)] else [ny n]:=rfl
  rw[e]
  by_cases hn:n<0
  ·rw[if_pos hn]
   refine ⟨rfl,?_,by show jm (aI [45]) [40]=false;decide⟩
   unfold iO
   rw[if_neg (fun h=>h.2 rfl)]
  ·rw[if_neg hn]
   exact⟨rfl,rfl,rfl⟩
theorem rT {α:Type} {p:Pa α} {d bp:Int} {ts rest:List Tk} {x:α} (hd:d+1≤10) (h:p (RR (d+1) bp ts)=(x,RR (d+1) bp rest)):fZ p (RR d bp ts)=(x,RR d bp rest):=by
 have e:bO (RR d bp ts)=RR (d+1) bp ts:=by
  unfold bO
  rw[if_neg (by show ¬10<d+1;omega)]
 unfold fZ
 rw[e,h]
 show (x,Iq (RR (d+1) bp rest))=_
 unfold Iq
 show (x,(⟨rest,d+1-1,0,bp⟩:Rd))=_
 rw[show d+1-1=d by omega]
theorem vT {d bp:Int} {t:Tk} {ts:List Tk} {s:List UInt8} (h:jm t s=true):dx s (RR d bp (t::ts))=((),RR d bp ts):=j3 _ _ h
theorem nT (l:Nat) (ts:List Tk):Stops l (aI [41]::ts):=fun s hs=>by
 have h0 : ∀s∈j5 0,jm (aI [41]) s=false:=by decide
 have:=Stops.up (l:=0) (m:=l) (rest:=[aI [41]]) h0 (Nat.zero_le _)
 exact this s hs
theorem wU {F n:Nat} {d bp:Int} {ts rest:List Tk} {e:Ex} (hd:d+1≤10) (h:Pl F n 0 (RR (d+1) bp (ts++aI [41]::rest))=(e,RR (d+1) bp (aI [41]::rest))) :
  Pl F (n+1) 6 (RR d bp (aI [40]::(ts++[aI [41]])++rest))=(e,RR d bp rest):=by
 show dO (lV F (n+1)).fc (lV F (n+1)).ex _=_
 rw[show aI [40]::(ts++[aI [41]])++rest=aI [40]::(ts++aI [41]::rest) by simp]
 unfold dO
 rw[aL (show jV (RR d bp (aI [40]::(ts++aI [41]::rest)))=(false,RR d bp (aI [40]::(ts++aI [41]::rest))) from rfl),if_neg (by decide)]
 unfold iO
 rw[if_neg (fun h=>absurd h.1 (by rw[xL,List.headD_cons];decide))]
 rw[j3 _ _ (by decide)]
 unfold aG
 rw[rT hd (show (lV F (n+1)).ex _=_ from h)]
 dsimp only
 rw[vT (by decide)]
 rfl
def opsOf (l:Nat):List (List UInt8 × Int):=if l=0 then wP else if l=1 then qC else if l=4 then qV else qW
theorem IW (F n l:Nat) (hl:l=0∨l=1∨l=4∨l=5):Pl F n l=rowP F (Pl F n (l+1)) (opsOf l):=by
 rcases hl with rfl | rfl | rfl | rfl<;>rfl
theorem rU (o:Int) (h1:1≤o) (h2:o≤13):o=1∨o=2∨o=3∨o=4∨o=5∨o=6∨o=7∨o=8∨o=9∨o=10∨o=11∨o=12∨o=13:=by omega
theorem wG (o:Int) (h1:1≤o) (h2:o≤13) (d bp:Int) (ts:List Tk):aK (if bU o=3 then nU else opsOf (bU o)) (RR d bp (aI (kN o)::ts))=(o,RR d bp ts):=by
 rcases rU o h1 h2 with rfl | rfl | rfl | rfl | rfl | rfl | rfl | rfl | rfl | rfl | rfl | rfl | rfl<;>rfl
theorem Ac (o:Int) (h1:1≤o) (h2:o≤13) (ts:List Tk):Stops (bU o+1) (aI (kN o)::ts):=by
 unfold Stops
 rw[List.headD_cons]
 rcases rU o h1 h2 with rfl | rfl | rfl | rfl | rfl | rfl | rfl | rfl | rfl | rfl | rfl | rfl | rfl<;>decide
theorem EW (o:Int) (h1:1≤o) (h2:o≤13):bU o=0∨bU o=1∨bU o=3∨bU o=4∨bU o=5:=by
 rcases rU o h1 h2 with rfl | rfl | rfl | rfl | rfl | rfl | rfl | rfl | rfl | rfl | rfl | rfl | rfl<;>decide
theorem J3 (o:Int) (h1:1≤o) (h2:o≤13):jm (aI (kN o)) [73,83]=false:=by
 rcases rU o h1 h2 with rfl | rfl | rfl | rfl | rfl | rfl | rfl | rfl | rfl | rfl | rfl | rfl | rfl<;>decide
theorem JV (t:Tm) (hok:t.ok):t.lv≤6:=by
 cases t with
 | op o a b=>have:=EW o hok.1 hok.2.1;show bU o≤6;omega
 | _=>simp[Tm.lv]
theorem G5 {s:List UInt8} (h:bM s=true):s≠[]:=by
 rintro rfl
 exact absurd h (by decide)
structure BF (F:Nat) (t:Tm):Prop where
 own : ∀(n:Nat) (d bp:Int) (rest:List Tk),t.dp≤n→d+t.dp≤10→Stops t.lv rest→Pl F n t.lv (RR d bp (t.tk++rest))=(t.ex,RR d bp rest)
 row : ∀(n:Nat) (d bp:Int) (rest:List Tk) (f:Nat),t.dp≤n→d+t.dp≤10→(t.lv=0∨t.lv=1∨t.lv=4∨t.lv=5)→t.tk.length≤f→Stops (t.lv+1) rest →
  ∃f',f≤f'+t.tk.length∧aG (Pl F n (t.lv+1)) (jT (Pl F n (t.lv+1)) (opsOf t.lv) f) (RR d bp (t.tk++rest))=jT (Pl F n (t.lv+1)) (opsOf t.lv) f' t.ex (RR d bp rest)
theorem jG {F:Nat} {t:Tm} (hok:t.ok) (h:BF F t) (l:Nat) (hl:l≤7) (n:Nat) (d bp:Int) (rest:List Tk) (hn:lG l t.lv t.dp≤n) (hd:d+lG l t.lv t.dp≤10) (hs:Stops (min l 6) rest):Pl F n (min l 6) (RR d bp (fM l t.lv t.tk++rest))=(t.ex,RR d bp rest):=by
 have hlv:=JV t hok
 unfold fM lG at *
 by_cases hle:l≤t.lv
 ·rw[if_pos hle] at hn hd ⊢
  obtain⟨x,X,hX,hXn⟩:=Cz t hok
  rw[Nat.min_eq_left (by omega)] at hs ⊢
  refine uP t.lv hlv (h.own n d bp rest hn (by omega) (hs.up hle)) l hle hs (fun _ h3=>?_)
  rw[hX]
  exact hXn h3
 ·rw[if_neg hle] at hn hd ⊢
  obtain⟨m,rfl⟩:∃m,n=m+1:=⟨n-1,by omega⟩
  obtain⟨x,X,hX,hXn⟩:=Cz t hok
  have h0:=uP t.lv hlv (h.own m (d+1) bp (aI [41]::rest) (by omega) (by omega) (nT _ _)) 0 (Nat.zero_le _) (nT _ _) (fun _ h3=>by rw[hX];exact hXn h3)
  exact uP 6 (Nat.le_refl _) (wU (by omega) h0) (min l 6) (Nat.min_le_right _ _) hs (fun _ _=>by show jm (aI [40]) _=false;decide)
theorem Ec {F:Nat} {t:Tm} (hok:t.ok) (h:BF F t) (l:Nat) (hl:l=0∨l=1∨l=4∨l=5) (n:Nat) (d bp:Int) (rest:List Tk) (f:Nat) (hn:lG l t.lv t.dp≤n) (hd:d+lG l t.lv t.dp≤10) (hf:(fM l t.lv t.tk).length≤f) (hs:Stops (l+1) rest) :
  ∃f',f≤f'+(fM l t.lv t.tk).length∧aG (Pl F n (l+1)) (jT (Pl F n (l+1)) (opsOf l) f) (RR d bp (fM l t.lv t.tk++rest))=jT (Pl F n (l+1)) (opsOf l) f' t.ex (RR d bp rest):=by
 by_cases hle:l=t.lv
 ·subst hle
  have e1:fM t.lv t.lv t.tk=t.tk:=if_pos (Nat.le_refl _)
  have e2:lG t.lv t.lv t.dp=t.dp:=if_pos (Nat.le_refl _)
  rw[e1] at hf ⊢
  rw[e2] at hn hd
  exact h.row n d bp rest f hn hd hl hf hs
 ·have e1:fM l t.lv t.tk=fM (l+1) t.lv t.tk:=by
   unfold fM
   by_cases h2:l≤t.lv
   ·rw[if_pos h2,if_pos (by omega)]
   ·rw[if_neg h2,if_neg (by omega)]
  have e2:lG l t.lv t.dp=lG (l+1) t.lv t.dp:=by
   unfold lG
   by_cases h2:l≤t.lv
   ·rw[if_pos h2,if_pos (by omega)]
   ·rw[if_neg h2,if_neg (by omega)]
  have hm:min (l+1) 6=l+1:=Nat.min_eq_left (by omega)
  have:=jG hok h (l+1) (by omega) n d bp rest (by rw[← e2];exact hn) (by rw[← e2];exact hd) (by rw[hm];exact hs)
  rw[hm,← e1] at this
  refine ⟨f,by omega,?_⟩
  unfold aG
  rw[this]
theorem BK (F:Nat):∀t:Tm,t.ok→t.tk.length≤F→BF F t:=by
 intro t
 induction t with
 |
  val v =>
  intro hok _
  refine ⟨fun n d bp rest _ _ _=>?_,fun n d bp rest f _ _ hl=>by rcases hl with h | h | h | h<;>cases h⟩
  show dO (lV F n).fc (lV F n).ex (RR d bp (gX v++rest))=_
  unfold dO aG
  rw[(uR hok d bp rest (aZ Ag) (aZ Ag)).1]
  dsimp only
  rw[if_neg (by decide),(uR hok d bp rest _ _).2.1,jO _ _ (uR hok d bp rest (aZ Ag) (aZ Ag)).2.2,Ae hok]
  rfl
 |
  col t n =>
  intro hok _
  refine ⟨fun m d bp rest _ _ hs=>?_,fun n d bp rest f _ _ hl=>by rcases hl with h | h | h | h<;>cases h⟩
  have h46:jm (rest.headD jJ) [46]=false:=hs _ (by unfold j5;simp)
  show dO (lV F m).fc (lV F m).ex (RR d bp ((if t=[] then [aT n] else [aT t,aI [46],aT n])++rest))=_
  by_cases ht:t=[]
  ·subst ht
   rw[if_pos rfl]
   show fu (RR d bp (aT n::rest))=_
   show (gP [46] (aG nameP fun m=>aZ (jM n m)) (aZ (jM [] n))) (RR d bp rest)=_
   rw[jO _ _ h46]
   rfl
  ·rw[if_neg ht]
   show fu (RR d bp (aT t::aI [46]::aT n::rest))=_
   show (gP [46] (aG nameP fun m=>aZ (jM t m)) (aZ (jM [] t))) (RR d bp (aI [46]::aT n::rest))=_
   rw[j3 _ _ (by decide)]
   rfl
 |
  op o a b iha ihb =>
  intro hok hF
  obtain⟨h1,h2,hoka,hokb⟩:=hok
  have hF':(fM (rP o) a.lv a.tk).length+((fM (bU o+1) b.lv b.tk).length+1)≤F:=by
   have:=hF
   simp only[Tm.tk,List.length_append,List.length_cons] at this
   omega
  have hla:=fD (rP o) a.lv a.tk
  have hlb:=fD (bU o+1) b.lv b.tk
  have ra:=iha hoka (by omega)
  have rb:=ihb hokb (by omega)
  have hrow : ∀(n:Nat) (d bp:Int) (rest:List Tk) (f:Nat),(Tm.op o a b).dp≤n→d+(Tm.op o a b).dp≤10→(bU o=0∨bU o=1∨bU o=4∨bU o=5)→(Tm.op o a b).tk.length≤f→Stops (bU o+1) rest →
    ∃f',f≤f'+(Tm.op o a b).tk.length∧aG (Pl F n (bU o+1)) (jT (Pl F n (bU o+1)) (opsOf (bU o)) f) (RR d bp ((Tm.op o a b).tk++rest))=jT (Pl F n (bU o+1)) (opsOf (bU o)) f' (Tm.op o a b).ex (RR d bp rest):=by
   intro n d bp rest f hn hd hl hf hs
   have e3:rP o=bU o:=if_neg (by omega)
   simp only[Tm.tk,List.length_append,List.length_cons] at hf ⊢
   simp only[Tm.dp] at hn hd
   rw[e3] at hf hn hd ⊢
   obtain⟨f',hf',e⟩:=Ec hoka ra (bU o) hl n d bp (aI (kN o)::(fM (bU o+1) b.lv b.tk++rest)) f (by omega) (by omega) (by omega) (Ac o h1 h2 _)
   obtain⟨f2,rfl⟩:∃f2,f'=f2+1:=⟨f'-1,by omega⟩
   refine ⟨f2,by omega,?_⟩
   rw[show fM (bU o) a.lv a.tk++aI (kN o)::fM (bU o+1) b.lv b.tk++rest=fM (bU o) a.lv a.tk++aI (kN o)::(fM (bU o+1) b.lv b.tk++rest) by simp,e]
   have hc:=wG o h1 h2 d bp (fM (bU o+1) b.lv b.tk++rest)
   rw[if_neg (by omega)] at hc
   have hb:=jG hokb rb (bU o+1) (by omega) n d bp rest (by omega) (by omega) (by rw[Nat.min_eq_left (by omega)];exact hs)
   rw[Nat.min_eq_left (by omega)] at hb
   show (aG (aK _) _) _=_
   unfold aG
   rw[hc]
   dsimp only
   rw[if_neg (by omega),hb]
   rfl
  refine ⟨fun n d bp rest hn hd hs=>?_,hrow⟩
  by_cases h3:bU o=3
  ·have e3:rP o=4:=if_pos h3
   simp only[Tm.dp] at hn hd
   have hs3:Stops 3 rest:=by have:=hs;simp only[Tm.lv] at this;rw[h3] at this;exact this
   show Pl F n (bU o) (RR d bp (fM (rP o) a.lv a.tk++aI (kN o)::fM (bU o+1) b.lv b.tk++rest))=_
   rw[e3,h3,show (3+1:Nat)=4 from rfl] at hn hd ⊢
   have ha:=jG hoka ra 4 (by omega) n d bp (aI (kN o)::(fM 4 b.lv b.tk++rest)) (by omega) (by omega) (by have:=Ac o h1 h2 (fM 4 b.lv b.tk++rest);rw[h3] at this;exact this)
   have hb:=jG hokb rb 4 (by omega) n d bp rest (by omega) (by omega) (hs3.up (by omega))
   have hc:=wG o h1 h2 d bp (fM 4 b.lv b.tk++rest)
   rw[if_pos h3] at hc
   show iK (qF F (lV F n)) _=_
   rw[show fM 4 a.lv a.tk++aI (kN o)::fM 4 b.lv b.tk++rest=fM 4 a.lv a.tk++aI (kN o)::(fM 4 b.lv b.tk++rest) by simp]
   unfold iK aG
   rw[show qF F (lV F n) _=_ from ha]
   dsimp only
   rw[jO (ts:=aI (kN o)::(fM 4 b.lv b.tk++rest)) _ _ (J3 o h1 h2),hc]
   dsimp only
   rw[if_neg (by omega),show qF F (lV F n) _=_ from hb]
   rfl
  ·have hl:bU o=0∨bU o=1∨bU o=4∨bU o=5:=by have:=EW o h1 h2;omega
   obtain⟨f',_,e⟩:=hrow n d bp rest F hn hd hl hF (hs.up (Nat.le_succ _))
   show Pl F n (bU o) _=_
   rw[IW F n _ hl]
   show aG _ _ _=_
   rw[e]
   refine wJ _ (fun c hc=>hs _ ?_) f'
   show c.1∈j5 (bU o)
   revert c
   rcases hl with h | h | h | h<;>rw[h]<;>decide
 |
  not a iha =>
  intro hok hF
  have hla:=fD 2 a.lv a.tk
  have ra:=iha hok.2 (by simp only[Tm.tk,List.length_cons] at hF;omega)
  refine ⟨fun n d bp rest hn hd hs=>?_,fun n d bp rest f _ _ hl=>by rcases hl with h | h | h | h<;>cases h⟩
  simp only[Tm.dp] at hn hd
  obtain⟨m,rfl⟩:∃m,n=m+1:=⟨n-1,by omega⟩
  have ha:=jG hok.2 ra 2 (by omega) m (d+1) bp rest (by omega) (by omega) hs
  show notP (lV F (m+1)).nt (iK (qF F (lV F (m+1)))) (RR d bp (uH::(fM 2 a.lv a.tk++rest)))=_
  unfold notP
  rw[j3 _ _ (by decide)]
  unfold aG
  rw[rT (by omega) (show (lV F (m+1)).nt _=_ from ha)]
  rfl
 |
  neg a iha =>
  intro hok hF
  have hok:a.ok:=hok
  have hla:=fD (negL a) a.lv a.tk
  have ra:=iha hok (by simp only[Tm.tk,List.length_cons] at hF;omega)
  refine ⟨fun n d bp rest hn hd hs=>?_,fun n d bp rest f _ _ hl=>by rcases hl with h | h | h | h<;>cases h⟩
  simp only[Tm.dp] at hn hd
  obtain⟨m,rfl⟩:∃m,n=m+1:=⟨n-1,by omega⟩
  have h6:min (negL a) 6=6:=by unfold negL;split<;>rfl
  have ha:=jG hok ra (negL a) (by unfold negL;split<;>omega) m (d+1) bp rest (by omega) (by omega) (by rw[h6];exact hs)
  rw[h6] at ha
  obtain⟨x,X,hX,hX3⟩:=Gn a hok
  show dO (lV F (m+1)).fc (lV F (m+1)).ex (RR d bp (aI [45]::(fM (negL a) a.lv a.tk++rest)))=_
  unfold dO
  rw[aL (show jV (RR d bp (aI [45]::(fM (negL a) a.lv a.tk++rest)))=(false,RR d bp (aI [45]::(fM (negL a) a.lv a.tk++rest))) from rfl),if_neg (by decide)]
  unfold iO
  rw[if_pos ⟨by rw[xL,List.headD_cons];decide,by rw[hX];exact hX3⟩,Ew]
  unfold aG
  rw[rT (by omega) (show (lV F (m+1)).fc _=_ from ha)]
  rfl
 |
  nul a iha =>
  intro hok hF
  have hok:a.ok:=hok
  have hla:=fD 4 a.lv a.tk
  have ra:=iha hok (by simp only[Tm.tk,List.length_append] at hF;omega)
  refine ⟨fun n d bp rest hn hd hs=>?_,fun n d bp rest f _ _ hl=>by rcases hl with h | h | h | h<;>cases h⟩
  have ha:=jG hok ra 4 (by omega) n d bp (isK::vB::rest) hn hd (show ∀s∈j5 4,jm isK s=false by decide)
  show iK (qF F (lV F n)) (RR d bp (fM 4 a.lv a.tk++[isK,vB]++rest))=_
  rw[show fM 4 a.lv a.tk++[isK,vB]++rest=fM 4 a.lv a.tk++isK::vB::rest by simp]
  unfold iK aG
  rw[show qF F (lV F n) _=_ from ha]
  rfl
 |
  nnul a iha =>
  intro hok hF
  have hok:a.ok:=hok
  have hla:=fD 4 a.lv a.tk
  have ra:=iha hok (by simp only[Tm.tk,List.length_append] at hF;omega)
  refine ⟨fun n d bp rest hn hd hs=>?_,fun n d bp rest f _ _ hl=>by rcases hl with h | h | h | h<;>cases h⟩
  have ha:=jG hok ra 4 (by omega) n d bp (isK::uH::vB::rest) hn hd (show ∀s∈j5 4,jm isK s=false by decide)
  show iK (qF F (lV F n)) (RR d bp (fM 4 a.lv a.tk++[isK,uH,vB]++rest))=_
  rw[show fM 4 a.lv a.tk++[isK,uH,vB]++rest=fM 4 a.lv a.tk++isK::uH::vB::rest by simp]
  unfold iK aG
  rw[show qF F (lV F n) _=_ from ha]
  rfl
theorem DV (t:Tm) (hok:t.ok) (F:Nat) (hF:t.tk.length≤F) (hd:t.dp≤10) (bp:Int) (rest:List Tk) (hs:Stops 0 rest):dn F (RR 0 bp (t.tk++rest))=(t.ex,RR 0 bp rest):=by
 have:=jG hok (BK F t hok hF) 0 (by omega) 11 0 bp rest (by show (if 0≤t.lv then t.dp else t.dp+1)≤11;rw[if_pos (Nat.zero_le _)];omega) (by show 0+((if 0≤t.lv then t.dp else t.dp+1:Nat):Int)≤10;rw[if_pos (Nat.zero_le _)];omega) hs
 have e:fM 0 t.lv t.tk=t.tk:=if_pos (Nat.zero_le _)
 rw[e] at this
 exact this
end Go.Proofs.YtnidnipiihhnaaaGreatDoor
