/- Packed for the hand-in: WPure -/
import Derived.Test.YtaaggohjmhifbaaGreatDoorZ08
namespace Go.Proofs.YtaaggohjmhifbaaGreatDoor
set_option linter.unusedSimpArgs false
set_option linter.unusedVariables false
set_option maxHeartbeats 8000000
def bL (s:List UInt8):Bool:=decide (0<s.length)&&(decide (s.length≤16)&&(cZ iD (s.headD 0)&&decide (row (cZ dM) s=s.length)))
def gG (v:Vl):Bool:=decide (jc v=0)&&decide (-9223372036854775807≤v.n∧v.n≤9223372036854775807)
def aH (s:List UInt8):Tk:=if 65≤s.headD 0∧s.headD 0≤90 then ⟨2,s,0,0⟩ else ⟨5,s,0,0⟩
def aR (s:List UInt8):Tk:=⟨1,s,0,0⟩
def nP (n:Int):Tk:=⟨3,[],n,0⟩
def LP (s:List UInt8):Tk:=⟨4,s,0,0⟩
inductive Tm where
 | val (v:Vl)
 | col (t n:List UInt8)
 | op (o:Int) (a b:Tm)
 | not (a:Tm)
 | neg (a:Tm)
 | nul (a:Tm)
 | nnul (a:Tm)
def Tm.ex:Tm→Ex
 | .val v=>rM v
 | .col t n=>jK t n
 | .op o a b=>mJ o a.ex b.ex
 | .not a=>fT 4 a.ex
 | .neg a=>fT 5 a.ex
 | .nul a=>fT 6 a.ex
 | .nnul a=>fT 4 (fT 6 a.ex)
def uV:List (List UInt8 × Nat):=[([],0),([79,82],0),([65,78,68],1),([61],3),([60,62],3),([60],3),([60,61],3),([62],3),([62,61],3),([43],4),([45],4),([42],5),([47],5),([37],5)]
def lM (o:Int):List UInt8:=(uV.getD o.toNat ([],0)).1
def bY (o:Int):Nat:=(uV.getD o.toNat ([],0)).2
def sO (o:Int):Nat:=if bY o=3 then 4 else bY o
def Tm.zX:Tm→Bool
 | .nul _=>true
 | _=>false
def Tm.isNum:Tm→Bool
 | .val v=>decide (v.k=1)&&decide (0≤v.n)
 | _=>false
def Tm.lv:Tm→Nat
 | .op o _ _=>bY o
 | .nul _=>3
 | .nnul _=>3
 | .not _=>2
 | _=>6
def iy (v:Vl):List Tk:=if v.k=2 then [LP v.s] else if v.k=0 then [aH [78,85,76,76]] else if v.n<0 then [aH [45],nP (-v.n)] else [nP v.n]
def fU (l lv:Nat) (ts:List Tk):List Tk:=if l≤lv then ts else aH [40]::(ts++[aH [41]])
def lX (l lv d:Nat):Nat:=if l≤lv then d else d+1
def negL (a:Tm):Nat:=if a.isNum=true then 7 else 6
def isK:Tk:=aH [73,83]
def vB:Tk:=aH [78,79,84]
def vY:Tk:=aH [78,85,76,76]
def Tm.tk:Tm→List Tk
 | .val v=>iy v
 | .col t n=>if t=[] then [aR n] else [aR t,aH [46],aR n]
 | .op o a b=>fU (sO o) a.lv a.tk++aH (lM o)::fU (bY o+1) b.lv b.tk
 | .not a=>vB::fU 2 a.lv a.tk
 | .neg a=>aH [45]::fU (negL a) a.lv a.tk
 | .nul a=>fU 4 a.lv a.tk++[isK,vY]
 | .nnul a=>fU 4 a.lv a.tk++[isK,vB,vY]
def Tm.dp:Tm→Nat
 | .val _=>0
 | .col _ _=>0
 | .op o a b=>max (lX (sO o) a.lv a.dp) (lX (bY o+1) b.lv b.dp)
 | .not a=>lX 2 a.lv a.dp+1
 | .neg a=>lX (negL a) a.lv a.dp+1
 | .nul a=>lX 4 a.lv a.dp
 | .nnul a=>lX 4 a.lv a.dp
def Tm.ok:Tm→Prop
 | .val v=>gG v=true
 | .col t n=>bL n=true∧(t=[]∨bL t=true)
 | .op o a b=>1≤o∧o≤13∧a.ok∧b.ok
 | .not a=>a.zX=false∧a.ok
 | .neg a=>a.ok
 | .nul a=>a.ok
 | .nnul a=>a.ok
def Tm.sz:Tm→Nat
 | .val _=>1
 | .col _ _=>1
 | .op _ a b=>a.sz+b.sz+1
 | .not a=>a.sz+1
 | .neg a=>a.sz+1
 | .nul a=>a.sz+1
 | .nnul a=>a.sz+2
theorem fM (l lv:Nat) (ts:List Tk):ts.length≤(fU l lv ts).length∧(fU l lv ts).length≤ts.length+2:=by
 unfold fU
 split
 ·omega
 ·simp only[List.length_cons,List.length_append,List.length_nil];omega
theorem uO (v:Vl):1≤(iy v).length∧(iy v).length≤2:=by
 unfold iy
 split
 ·simp
 ·split
  ·simp
  ·split<;>simp
theorem F8 (t:Tm):1≤t.sz:=by cases t<;>simp[Tm.sz]
theorem J5 (t:Tm):1≤t.tk.length∧t.tk.length+2≤8*t.sz:=by
 induction t with
 | val v=>have:=uO v;simp only[Tm.tk,Tm.sz];omega
 | col t n=>simp only[Tm.tk,Tm.sz];split<;>simp
 |
  op o a b ha hb =>
  have h1:=fM (sO o) a.lv a.tk
  have h2:=fM (bY o+1) b.lv b.tk
  simp only[Tm.tk,Tm.sz,List.length_append,List.length_cons]
  omega
 | not a ha=>have h1:=fM 2 a.lv a.tk;simp only[Tm.tk,Tm.sz,List.length_cons];omega
 | neg a ha=>have h1:=fM (negL a) a.lv a.tk;simp only[Tm.tk,Tm.sz,List.length_cons];omega
 | nul a ha=>have h1:=fM 4 a.lv a.tk;simp only[Tm.tk,Tm.sz,List.length_append,List.length_cons,List.length_nil];omega
 | nnul a ha=>have h1:=fM 4 a.lv a.tk;simp only[Tm.tk,Tm.sz,List.length_append,List.length_cons,List.length_nil];omega
theorem lJ (l lv d:Nat):d≤lX l lv d∧lX l lv d≤d+1:=by unfold lX;split<;>omega
theorem LM (t:Tm):t.dp+2≤2*t.sz:=by
 induction t with
 | val v=>simp[Tm.dp,Tm.sz]
 | col t n=>simp[Tm.dp,Tm.sz]
 |
  op o a b ha hb =>
  have h1:=lJ (sO o) a.lv a.dp
  have h2:=lJ (bY o+1) b.lv b.dp
  have h3:=F8 a
  have h4:=F8 b
  simp only[Tm.dp,Tm.sz]
  omega
 | not a ha=>have h1:=lJ 2 a.lv a.dp;simp only[Tm.dp,Tm.sz];omega
 | neg a ha=>have h1:=lJ (negL a) a.lv a.dp;simp only[Tm.dp,Tm.sz];omega
 | nul a ha=>have h1:=lJ 4 a.lv a.dp;simp only[Tm.dp,Tm.sz];omega
 | nnul a ha=>have h1:=lJ 4 a.lv a.dp;simp only[Tm.dp,Tm.sz];omega
def jk (t:Tk) (s:List UInt8):Bool:=(t.k==2||t.k==5)&&t.s==s
abbrev RR (d bp:Int) (ts:List Tk):Rd:=⟨ts,d,0,bp⟩
theorem yH (d bp:Int) (ts:List Tk) (s:List UInt8):dX s (RR d bp ts)=jk (ts.headD jG) s:=rfl
theorem Ie (d bp:Int) (t:Tk) (ts:List Tk):nextR (RR d bp (t::ts))=RR d bp ts:=rfl
theorem aL {α β:Type} {p:Pa α} {q:α→Pa β} {r r1:Rd} {x:α} (h:p r=(x,r1)):aF p q r=q x r1:=by
 unfold aF;rw[h]
theorem ku {α:Type} {d bp:Int} {t:Tk} {ts:List Tk} {s:List UInt8} (y m:Pa α) (h:jk t s=true):gV s y m (RR d bp (t::ts))=y (RR d bp ts):=by
 unfold gV
 rw[yH,List.headD_cons,if_pos h]
 rfl
theorem jM {α:Type} {d bp:Int} {ts:List Tk} {s:List UInt8} (y m:Pa α) (h:jk (ts.headD jG) s=false):gV s y m (RR d bp ts)=m (RR d bp ts):=by
 unfold gV
 rw[yH,if_neg (by rw[h];exact Bool.false_ne_true)]
theorem pq {d bp:Int} {ts:List Tk}:∀ops:List (List UInt8 × Int),(∀c∈ops,jk (ts.headD jG) c.1=false)→aK ops (RR d bp ts)=(0,RR d bp ts)
 | [],_=>rfl
 |
  c::ops,h=>by
  unfold aK
  rw[jM _ _ (h c (by simp))]
  exact pq ops (fun x hx=>h x (by simp[hx]))
def ko (l:Nat):List (List UInt8) :=
 [46]::((if l≤5 then [[42],[47],[37]] else [])++((if l≤4 then [[43],[45]] else [])++((if l≤3 then [[73,83],[61],[60,62],[60],[60,61],[62],[62,61]] else [])++((if l≤1 then [[65,78,68]] else [])++(if l=0 then [[79,82]] else [])))))
def Stops (l:Nat) (rest:List Tk):Prop:=∀s∈ko l,jk (rest.headD jG) s=false
theorem Stops.up {l m:Nat} {rest:List Tk} (h:Stops l rest) (hm:l≤m):Stops m rest:=fun s hs=>h s (by
 unfold ko at hs ⊢
 rw[List.mem_cons] at hs ⊢
 rcases hs with hs | hs
 ·exact .inl hs
 ·right
  simp only[List.mem_append] at hs ⊢
  rcases hs with hs | hs | hs | hs | hs
  ·left;split at hs
   ·rw[if_pos (by omega)];exact hs
   ·cases hs
  ·right;left;split at hs
   ·rw[if_pos (by omega)];exact hs
   ·cases hs
  ·right;right;left;split at hs
   ·rw[if_pos (by omega)];exact hs
   ·cases hs
  ·right;right;right;left;split at hs
   ·rw[if_pos (by omega)];exact hs
   ·cases hs
  ·right;right;right;right;split at hs
   ·rw[if_pos (by omega)];exact hs
   ·cases hs)
def Pl (F n:Nat):Nat→Pa Ex
 | 0=>Db F (mE F n)
 | 1=>J4 F (mE F n)
 | 2=>Il F (mE F n)
 | 3=>iP (qN F (mE F n))
 | 4=>qN F (mE F n)
 | 5=>G9 F (mE F n)
 | _=>dQ (mE F n).fc (mE F n).ex
theorem wP {below:Pa Ex} {ops:List (List UInt8 × Int)} {d bp:Int} {ts:List Tk} (e:Ex) (h : ∀c∈ops,jk (ts.headD jG) c.1=false):∀f,jS below ops f e (RR d bp ts)=(e,RR d bp ts)
 | 0=>rfl
 |
  f+1=>by
  unfold jS aF
  rw[pq ops h]
  rfl
theorem oU {below:Pa Ex} {ops:List (List UInt8 × Int)} {d bp:Int} {ts rest:List Tk} {e:Ex} {f:Nat} (hb:below (RR d bp ts)=(e,RR d bp rest)) (h : ∀c∈ops,jk (rest.headD jG) c.1=false):rowP f below ops (RR d bp ts)=(e,RR d bp rest):=by
 unfold rowP aF
 rw[hb]
 exact wP e h f
theorem Jq {F n l:Nat} {d bp:Int} {ts rest:List Tk} {e:Ex} (hl:l<6) (h:Pl F n (l+1) (RR d bp ts)=(e,RR d bp rest)) (hs:Stops l rest) (hn:l=2→jk (ts.headD jG) [78,79,84]=false):Pl F n l (RR d bp ts)=(e,RR d bp rest):=by
 have hb : ∀c,c∈ko l→jk (rest.headD jG) c=false:=hs
 match l,hl,h,hb,hn with
 | 0,_,h,hb,_=>exact oU h (fun c hc=>hb _ (by revert c;decide))
 | 1,_,h,hb,_=>exact oU h (fun c hc=>hb _ (by revert c;decide))
 | 2,_,h,hb,hn=>exact (jM _ _ (hn rfl)).trans h
 |
  3,_,h,hb,_ =>
  show iP (qN F (mE F n)) _=_
  unfold iP aF
  rw[show qN F (mE F n) (RR d bp ts)=(e,RR d bp rest) from h]
  dsimp only
  rw[jM _ _ (hb _ (by decide))]
  rw[pq _ (fun c hc=>hb _ (by revert c;decide))]
  rfl
 | 4,_,h,hb,_=>exact oU h (fun c hc=>hb _ (by revert c;decide))
 | 5,_,h,hb,_=>exact oU h (fun c hc=>hb _ (by revert c;decide))
theorem vH {F n:Nat} {d bp:Int} {ts rest:List Tk} {e:Ex} (L:Nat) (hL:L≤6) (h:Pl F n L (RR d bp ts)=(e,RR d bp rest)):∀l,l≤L→Stops l rest→(l≤2→3≤L→jk (ts.headD jG) [78,79,84]=false)→Pl F n l (RR d bp ts)=(e,RR d bp rest):=by
 induction L with
 | zero =>
    intro l hl _ _;obtain rfl:l=0:=by omega
    exact h
 |
  succ L ih =>
  intro l hl hs hn
  by_cases e1:l=L+1
  ·subst e1;exact h
  ·refine ih (by omega) (Jq (by omega) h (hs.up (by omega)) (fun e2=>hn (by omega) (by omega))) l (by omega) hs (fun h1 h2=>hn h1 (by omega))
theorem Dp (t:Tm) (hok:t.ok):∃h X,t.tk=h::X∧(3≤t.lv→jk h [78,79,84]=false):=by
 have hat : ∀(l:Nat) (a:Tm),3≤l→(∃h X,a.tk=h::X∧(3≤a.lv→jk h [78,79,84]=false))→∃h X,fU l a.lv a.tk=h::X∧jk h [78,79,84]=false:=fun l a hl ⟨h,X,e,hn⟩=>by
  unfold fU
  split
  ·rename_i hh;exact⟨h,X,e,hn (by omega)⟩
  ·exact⟨_,_,rfl,by decide⟩
 have hat0 : ∀(l:Nat) (a:Tm),(∃h X,a.tk=h::X∧(3≤a.lv→jk h [78,79,84]=false))→∃h X,fU l a.lv a.tk=h::X:=fun l a ⟨h,X,e,hn⟩=>by
  unfold fU
  split
  ·exact⟨h,X,e⟩
  ·exact⟨_,_,rfl⟩
 induction t with
 |
  val v =>
  simp only[Tm.tk,iy]
  split
  ·exact⟨_,_,rfl,fun _=>rfl⟩
  ·split
   ·exact⟨_,_,rfl,fun _=>by decide⟩
   ·split
    ·exact⟨_,_,rfl,fun _=>by decide⟩
    ·exact⟨_,_,rfl,fun _=>rfl⟩
 |
  col t n =>
  simp only[Tm.tk]
  split
  ·exact⟨_,_,rfl,fun _=>rfl⟩
  ·exact⟨_,_,rfl,fun _=>rfl⟩
 |
  op o a b ha hb =>
  simp only[Tm.tk]
  by_cases h3:3≤sO o
  ·obtain⟨h,X,e,hn⟩:=hat (sO o) a h3 (ha hok.2.2.1)
   rw[e];exact⟨_,_,rfl,fun _=>hn⟩
  ·obtain⟨h,X,e⟩:=hat0 (sO o) a (ha hok.2.2.1)
   rw[e]
   refine ⟨_,_,rfl,fun hh=>absurd ?_ h3⟩
   show 3≤sO o
   unfold sO
   have:3≤bY o:=hh
   split<;>omega
 | not a ha=>exact⟨_,_,rfl,fun h=>absurd (show 3≤2 from h) (by decide)⟩
 | neg a ha=>exact⟨_,_,rfl,fun _=>by decide⟩
 |
  nul a ha =>
  obtain⟨h,X,e,hn⟩:=hat 4 a (by decide) (ha hok)
  simp only[Tm.tk]
  rw[e];exact⟨_,_,rfl,fun _=>hn⟩
 |
  nnul a ha =>
  obtain⟨h,X,e,hn⟩:=hat 4 a (by decide) (ha hok)
  simp only[Tm.tk]
  rw[e];exact⟨_,_,rfl,fun _=>hn⟩
theorem Gc (a:Tm) (hok:a.ok):∃h X,fU (negL a) a.lv a.tk=h::X∧h.k≠3:=by
 unfold fU
 split
 ·rename_i hl
  have hn:a.isNum=false:=by
   cases h:a.isNum with
   | false=>rfl
   |
    true =>
    exfalso
    unfold negL at hl
    rw[if_pos h] at hl
    cases a with
    | val v=>have:(7:Nat)≤6:=hl;omega
    | _=>simp[Tm.isNum] at h
  unfold negL at hl
  rw[hn] at hl
  have hl:6≤a.lv:=hl
  cases a with
  |
   val v =>
   simp only[Tm.tk,iy]
   split
   ·exact⟨_,_,rfl,by show (4:Int)≠3;decide⟩
   ·rename_i h2
    split
    ·exact⟨_,_,rfl,by decide⟩
    ·rename_i h0
     have hk:v.k=1:=by
      have hv:gG v=true:=hok
      unfold gG at hv
      simp only[Bool.and_eq_true,decide_eq_true_eq] at hv
      have hr:=hv.1
      unfold jc at hr
      by_cases he:eqv v (iL v)=false
      ·rw[if_pos he] at hr;cases hr
      ·have he:=qP.1 (by simpa using he)
       unfold iL at he
       by_cases h1:v.k=1
       ·exact h1
       ·rw[if_neg h1,if_neg h2] at he
        exact absurd (congrArg Vl.k he) h0
     split
     ·exact⟨_,_,rfl,by decide⟩
     ·rename_i hneg
      simp[Tm.isNum,hk] at hn
      omega
  |
   col t n =>
   simp only[Tm.tk]
   split
   ·exact⟨_,_,rfl,by show (1:Int)≠3;decide⟩
   ·exact⟨_,_,rfl,by show (1:Int)≠3;decide⟩
  |
   op o b c =>
   exfalso
   have hl:6≤bY o:=hl
   obtain⟨h1,h2,_⟩:=hok
   have : ∀k:Nat,k≤13→(uV.getD k ([],0)).2≤5:=by decide
   have:=this o.toNat (by omega)
   unfold bY at hl
   omega
  | not b=>exfalso;have:(6:Nat)≤2:=hl;omega
  | neg b=>exact⟨_,_,rfl,by decide⟩
  | nul b=>exfalso;have:(6:Nat)≤3:=hl;omega
  | nnul b=>exfalso;have:(6:Nat)≤3:=hl;omega
 ·exact⟨_,_,rfl,by decide⟩
theorem nW {v:Vl} (hv:gG v=true):(v.k=2∧v.n=0∧v.s.length≤40)∨(v.k=0∧v.n=0∧v.s=[])∨(v.k=1∧v.s=[]∧-9223372036854775807≤v.n∧v.n≤9223372036854775807):=by
 unfold gG at hv
 simp only[Bool.and_eq_true,decide_eq_true_eq] at hv
 obtain⟨hr,hm⟩:=hv
 unfold jc at hr
 by_cases he:eqv v (iL v)=false
 ·rw[if_pos he] at hr;cases hr
 ·rw[if_neg he] at hr
  have he:=qP.1 (by simpa using he)
  have hlen:v.s.length≤40:=by
   by_cases h:40<v.s.length
   ·rw[if_pos h] at hr;cases hr
   ·omega
  unfold iL at he
  by_cases h1:v.k=1
  ·rw[if_pos h1] at he;exact .inr (.inr ⟨h1,congrArg Vl.s he,hm⟩)
  ·rw[if_neg h1] at he
   by_cases h2:v.k=2
   ·rw[if_pos h2] at he;exact .inl ⟨h2,congrArg Vl.n he,hlen⟩
   ·rw[if_neg h2] at he;exact .inr (.inl ⟨congrArg Vl.k he,congrArg Vl.n he,congrArg Vl.s he⟩)
theorem AQ {v:Vl} (hv:gG v=true) (d bp:Int) (rest:List Tk):jI (RR d bp (iy v++rest))=(v,RR d bp rest):=by
 obtain⟨k,n,s⟩:=v
 rcases nW hv with⟨h1,h2,h3⟩ | ⟨h1,h2,h3⟩ | ⟨h1,h2,h3⟩
 ·dsimp only at h1 h2;subst h1 h2
  rfl
 ·dsimp only at h1 h2 h3;subst h1 h2 h3
  rfl
 ·dsimp only at h1 h2;subst h1 h2
  have e:iy ⟨1,n,[]⟩=if n<0 then [aH [45],nP (-n)] else [nP n]:=rfl
  rw[e]
  by_cases hn:n<0
  ·rw[if_pos hn]
   show ((⟨1,- -n,[]⟩:Vl),RR d bp rest)=_
   rw[Int.neg_neg]
  ·rw[if_neg hn]
   rfl
theorem uM {v:Vl} (hv:gG v=true) (d bp:Int) (rest:List Tk) (yes no:Pa Ex):jW (RR d bp (iy v++rest))=(false,RR d bp (iy v++rest))∧iR yes no (RR d bp (iy v++rest))=no (RR d bp (iy v++rest))∧jk ((iy v++rest).headD jG) [40]=false:=by
 obtain⟨k,n,s⟩:=v
 rcases nW hv with⟨h1,h2,h3⟩ | ⟨h1,h2,h3⟩ | ⟨h1,h2,h3⟩
 ·dsimp only at h1 h2;subst h1 h2
  exact⟨rfl,rfl,rfl⟩
 ·dsimp only at h1 h2 h3;subst h1 h2 h3
  exact⟨rfl,rfl,by show jk (aH [78,85,76,76]) [40]=false;decide⟩
 ·dsimp only at h1 h2;subst h1 h2
  have e:iy ⟨1,n,[]⟩=if n<0 then [aH [45],nP (-n)] else [nP n]:=rfl
  rw[e]
  by_cases hn:n<0
  ·rw[if_pos hn]
   refine ⟨rfl,?_,by show jk (aH [45]) [40]=false;decide⟩
   unfold iR
   rw[if_neg (fun h=>h.2 rfl)]
  ·rw[if_neg hn]
   exact⟨rfl,rfl,rfl⟩
theorem sI {α:Type} {p:Pa α} {d bp:Int} {ts rest:List Tk} {x:α} (hd:d+1≤10) (h:p (RR (d+1) bp ts)=(x,RR (d+1) bp rest)):gI p (RR d bp ts)=(x,RR d bp rest):=by
 have e:bR (RR d bp ts)=RR (d+1) bp ts:=by
  unfold bR
  rw[if_neg (by show ¬10<d+1;omega)]
 unfold gI
 rw[e,h]
 show (x,JX (RR (d+1) bp rest))=_
 unfold JX
 show (x,(⟨rest,d+1-1,0,bp⟩:Rd))=_
 rw[show d+1-1=d by omega]
theorem wX {d bp:Int} {t:Tk} {ts:List Tk} {s:List UInt8} (h:jk t s=true):dB s (RR d bp (t::ts))=((),RR d bp ts):=ku _ _ h
theorem nZ (l:Nat) (ts:List Tk):Stops l (aH [41]::ts):=fun s hs=>by
 have h0 : ∀s∈ko 0,jk (aH [41]) s=false:=by decide
 have:=Stops.up (l:=0) (m:=l) (rest:=[aH [41]]) h0 (Nat.zero_le _)
 exact this s hs
theorem yV {F n:Nat} {d bp:Int} {ts rest:List Tk} {e:Ex} (hd:d+1≤10) (h:Pl F n 0 (RR (d+1) bp (ts++aH [41]::rest))=(e,RR (d+1) bp (aH [41]::rest))) :
  Pl F (n+1) 6 (RR d bp (aH [40]::(ts++[aH [41]])++rest))=(e,RR d bp rest):=by
 show dQ (mE F (n+1)).fc (mE F (n+1)).ex _=_
 rw[show aH [40]::(ts++[aH [41]])++rest=aH [40]::(ts++aH [41]::rest) by simp]
 unfold dQ
 rw[aL (show jW (RR d bp (aH [40]::(ts++aH [41]::rest)))=(false,RR d bp (aH [40]::(ts++aH [41]::rest))) from rfl),if_neg (by decide)]
 unfold iR
 rw[if_neg (fun h=>absurd h.1 (by rw[yH,List.headD_cons];decide))]
 rw[ku _ _ (by decide)]
 unfold aF
 rw[sI hd (show (mE F (n+1)).ex _=_ from h)]
 dsimp only
 rw[wX (by decide)]
 rfl
def opsOf (l:Nat):List (List UInt8 × Int):=if l=0 then yL else if l=1 then rE else if l=4 then rJ else qR
theorem Kr (F n l:Nat) (hl:l=0∨l=1∨l=4∨l=5):Pl F n l=rowP F (Pl F n (l+1)) (opsOf l):=by
 rcases hl with rfl | rfl | rfl | rfl<;>rfl
theorem sG (o:Int) (h1:1≤o) (h2:o≤13):o=1∨o=2∨o=3∨o=4∨o=5∨o=6∨o=7∨o=8∨o=9∨o=10∨o=11∨o=12∨o=13:=by omega
theorem xM (o:Int) (h1:1≤o) (h2:o≤13) (d bp:Int) (ts:List Tk):aK (if bY o=3 then oI else opsOf (bY o)) (RR d bp (aH (lM o)::ts))=(o,RR d bp ts):=by
 rcases sG o h1 h2 with rfl | rfl | rfl | rfl | rfl | rfl | rfl | rfl | rfl | rfl | rfl | rfl | rfl<;>rfl
theorem z8 (o:Int) (h1:1≤o) (h2:o≤13) (ts:List Tk):Stops (bY o+1) (aH (lM o)::ts):=by
 unfold Stops
 rw[List.headD_cons]
 rcases sG o h1 h2 with rfl | rfl | rfl | rfl | rfl | rfl | rfl | rfl | rfl | rfl | rfl | rfl | rfl<;>decide
theorem G6 (o:Int) (h1:1≤o) (h2:o≤13):bY o=0∨bY o=1∨bY o=3∨bY o=4∨bY o=5:=by
 rcases sG o h1 h2 with rfl | rfl | rfl | rfl | rfl | rfl | rfl | rfl | rfl | rfl | rfl | rfl | rfl<;>decide
theorem Lc (o:Int) (h1:1≤o) (h2:o≤13):jk (aH (lM o)) [73,83]=false:=by
 rcases sG o h1 h2 with rfl | rfl | rfl | rfl | rfl | rfl | rfl | rfl | rfl | rfl | rfl | rfl | rfl<;>decide
theorem LA (t:Tm) (hok:t.ok):t.lv≤6:=by
 cases t with
 | op o a b=>have:=G6 o hok.1 hok.2.1;show bY o≤6;omega
 | _=>simp[Tm.lv]
theorem Jc {s:List UInt8} (h:bL s=true):s≠[]:=by
 rintro rfl
 exact absurd h (by decide)
structure Bp (F:Nat) (t:Tm):Prop where
 own : ∀(n:Nat) (d bp:Int) (rest:List Tk),t.dp≤n→d+t.dp≤10→Stops t.lv rest→Pl F n t.lv (RR d bp (t.tk++rest))=(t.ex,RR d bp rest)
 row : ∀(n:Nat) (d bp:Int) (rest:List Tk) (f:Nat),t.dp≤n→d+t.dp≤10→(t.lv=0∨t.lv=1∨t.lv=4∨t.lv=5)→t.tk.length≤f→Stops (t.lv+1) rest →
  ∃f',f≤f'+t.tk.length∧aF (Pl F n (t.lv+1)) (jS (Pl F n (t.lv+1)) (opsOf t.lv) f) (RR d bp (t.tk++rest))=jS (Pl F n (t.lv+1)) (opsOf t.lv) f' t.ex (RR d bp rest)
theorem jw {F:Nat} {t:Tm} (hok:t.ok) (h:Bp F t) (l:Nat) (hl:l≤7) (n:Nat) (d bp:Int) (rest:List Tk) (hn:lX l t.lv t.dp≤n) (hd:d+lX l t.lv t.dp≤10) (hs:Stops (min l 6) rest):Pl F n (min l 6) (RR d bp (fU l t.lv t.tk++rest))=(t.ex,RR d bp rest):=by
 have hlv:=LA t hok
 unfold fU lX at *
 by_cases hle:l≤t.lv
 ·rw[if_pos hle] at hn hd ⊢
  obtain⟨x,X,hX,hXn⟩:=Dp t hok
  rw[Nat.min_eq_left (by omega)] at hs ⊢
  refine vH t.lv hlv (h.own n d bp rest hn (by omega) (hs.up hle)) l hle hs (fun _ h3=>?_)
  rw[hX]
  exact hXn h3
 ·rw[if_neg hle] at hn hd ⊢
  obtain⟨m,rfl⟩:∃m,n=m+1:=⟨n-1,by omega⟩
  obtain⟨x,X,hX,hXn⟩:=Dp t hok
  have h0:=vH t.lv hlv (h.own m (d+1) bp (aH [41]::rest) (by omega) (by omega) (nZ _ _)) 0 (Nat.zero_le _) (nZ _ _) (fun _ h3=>by rw[hX];exact hXn h3)
  exact vH 6 (Nat.le_refl _) (yV (by omega) h0) (min l 6) (Nat.min_le_right _ _) hs (fun _ _=>by show jk (aH [40]) _=false;decide)
theorem Er {F:Nat} {t:Tm} (hok:t.ok) (h:Bp F t) (l:Nat) (hl:l=0∨l=1∨l=4∨l=5) (n:Nat) (d bp:Int) (rest:List Tk) (f:Nat) (hn:lX l t.lv t.dp≤n) (hd:d+lX l t.lv t.dp≤10) (hf:(fU l t.lv t.tk).length≤f) (hs:Stops (l+1) rest) :
  ∃f',f≤f'+(fU l t.lv t.tk).length∧aF (Pl F n (l+1)) (jS (Pl F n (l+1)) (opsOf l) f) (RR d bp (fU l t.lv t.tk++rest))=jS (Pl F n (l+1)) (opsOf l) f' t.ex (RR d bp rest):=by
 by_cases hle:l=t.lv
 ·subst hle
  have e1:fU t.lv t.lv t.tk=t.tk:=if_pos (Nat.le_refl _)
  have e2:lX t.lv t.lv t.dp=t.dp:=if_pos (Nat.le_refl _)
  rw[e1] at hf ⊢
  rw[e2] at hn hd
  exact h.row n d bp rest f hn hd hl hf hs
 ·have e1:fU l t.lv t.tk=fU (l+1) t.lv t.tk:=by
   unfold fU
   by_cases h2:l≤t.lv
   ·rw[if_pos h2,if_pos (by omega)]
   ·rw[if_neg h2,if_neg (by omega)]
  have e2:lX l t.lv t.dp=lX (l+1) t.lv t.dp:=by
   unfold lX
   by_cases h2:l≤t.lv
   ·rw[if_pos h2,if_pos (by omega)]
   ·rw[if_neg h2,if_neg (by omega)]
  have hm:min (l+1) 6=l+1:=Nat.min_eq_left (by omega)
  have:=jw hok h (l+1) (by omega) n d bp rest (by rw[← e2];exact hn) (by rw[← e2];exact hd) (by rw[hm];exact hs)
  rw[hm,← e1] at this
  refine ⟨f,by omega,?_⟩
  unfold aF
  rw[this]
theorem Ca (F:Nat):∀t:Tm,t.ok→t.tk.length≤F→Bp F t:=by
 intro t
 induction t with
 |
  val v =>
  intro hok _
  refine ⟨fun n d bp rest _ _ _=>?_,fun n d bp rest f _ _ hl=>by rcases hl with h | h | h | h<;>cases h⟩
  show dQ (mE F n).fc (mE F n).ex (RR d bp (iy v++rest))=_
  unfold dQ aF
  rw[(uM hok d bp rest (bg Dr) (bg Dr)).1]
  dsimp only
  rw[if_neg (by decide),(uM hok d bp rest _ _).2.1,jM _ _ (uM hok d bp rest (bg Dr) (bg Dr)).2.2,AQ hok]
  rfl
 |
  col t n =>
  intro hok _
  refine ⟨fun m d bp rest _ _ hs=>?_,fun n d bp rest f _ _ hl=>by rcases hl with h | h | h | h<;>cases h⟩
  have h46:jk (rest.headD jG) [46]=false:=hs _ (by unfold ko;simp)
  show dQ (mE F m).fc (mE F m).ex (RR d bp ((if t=[] then [aR n] else [aR t,aH [46],aR n])++rest))=_
  by_cases ht:t=[]
  ·subst ht
   rw[if_pos rfl]
   show fG (RR d bp (aR n::rest))=_
   show (gV [46] (aF nameP fun m=>bg (jK n m)) (bg (jK [] n))) (RR d bp rest)=_
   rw[jM _ _ h46]
   rfl
  ·rw[if_neg ht]
   show fG (RR d bp (aR t::aH [46]::aR n::rest))=_
   show (gV [46] (aF nameP fun m=>bg (jK t m)) (bg (jK [] t))) (RR d bp (aH [46]::aR n::rest))=_
   rw[ku _ _ (by decide)]
   rfl
 |
  op o a b iha ihb =>
  intro hok hF
  obtain⟨h1,h2,hoka,hokb⟩:=hok
  have hF':(fU (sO o) a.lv a.tk).length+((fU (bY o+1) b.lv b.tk).length+1)≤F:=by
   have:=hF
   simp only[Tm.tk,List.length_append,List.length_cons] at this
   omega
  have hla:=fM (sO o) a.lv a.tk
  have hlb:=fM (bY o+1) b.lv b.tk
  have ra:=iha hoka (by omega)
  have rb:=ihb hokb (by omega)
  have hrow : ∀(n:Nat) (d bp:Int) (rest:List Tk) (f:Nat),(Tm.op o a b).dp≤n→d+(Tm.op o a b).dp≤10→(bY o=0∨bY o=1∨bY o=4∨bY o=5)→(Tm.op o a b).tk.length≤f→Stops (bY o+1) rest →
    ∃f',f≤f'+(Tm.op o a b).tk.length∧aF (Pl F n (bY o+1)) (jS (Pl F n (bY o+1)) (opsOf (bY o)) f) (RR d bp ((Tm.op o a b).tk++rest))=jS (Pl F n (bY o+1)) (opsOf (bY o)) f' (Tm.op o a b).ex (RR d bp rest):=by
   intro n d bp rest f hn hd hl hf hs
   have e3:sO o=bY o:=if_neg (by omega)
   simp only[Tm.tk,List.length_append,List.length_cons] at hf ⊢
   simp only[Tm.dp] at hn hd
   rw[e3] at hf hn hd ⊢
   obtain⟨f',hf',e⟩:=Er hoka ra (bY o) hl n d bp (aH (lM o)::(fU (bY o+1) b.lv b.tk++rest)) f (by omega) (by omega) (by omega) (z8 o h1 h2 _)
   obtain⟨f2,rfl⟩:∃f2,f'=f2+1:=⟨f'-1,by omega⟩
   refine ⟨f2,by omega,?_⟩
   rw[show fU (bY o) a.lv a.tk++aH (lM o)::fU (bY o+1) b.lv b.tk++rest=fU (bY o) a.lv a.tk++aH (lM o)::(fU (bY o+1) b.lv b.tk++rest) by simp,e]
   have hc:=xM o h1 h2 d bp (fU (bY o+1) b.lv b.tk++rest)
   rw[if_neg (by omega)] at hc
   have hb:=jw hokb rb (bY o+1) (by omega) n d bp rest (by omega) (by omega) (by rw[Nat.min_eq_left (by omega)];exact hs)
   rw[Nat.min_eq_left (by omega)] at hb
   show (aF (aK _) _) _=_
   unfold aF
   rw[hc]
   dsimp only
   rw[if_neg (by omega),hb]
   rfl
  refine ⟨fun n d bp rest hn hd hs=>?_,hrow⟩
  by_cases h3:bY o=3
  ·have e3:sO o=4:=if_pos h3
   simp only[Tm.dp] at hn hd
   have hs3:Stops 3 rest:=by have:=hs;simp only[Tm.lv] at this;rw[h3] at this;exact this
   show Pl F n (bY o) (RR d bp (fU (sO o) a.lv a.tk++aH (lM o)::fU (bY o+1) b.lv b.tk++rest))=_
   rw[e3,h3,show (3+1:Nat)=4 from rfl] at hn hd ⊢
   have ha:=jw hoka ra 4 (by omega) n d bp (aH (lM o)::(fU 4 b.lv b.tk++rest)) (by omega) (by omega) (by have:=z8 o h1 h2 (fU 4 b.lv b.tk++rest);rw[h3] at this;exact this)
   have hb:=jw hokb rb 4 (by omega) n d bp rest (by omega) (by omega) (hs3.up (by omega))
   have hc:=xM o h1 h2 d bp (fU 4 b.lv b.tk++rest)
   rw[if_pos h3] at hc
   show iP (qN F (mE F n)) _=_
   rw[show fU 4 a.lv a.tk++aH (lM o)::fU 4 b.lv b.tk++rest=fU 4 a.lv a.tk++aH (lM o)::(fU 4 b.lv b.tk++rest) by simp]
   unfold iP aF
   rw[show qN F (mE F n) _=_ from ha]
   dsimp only
   rw[jM (ts:=aH (lM o)::(fU 4 b.lv b.tk++rest)) _ _ (Lc o h1 h2),hc]
   dsimp only
   rw[if_neg (by omega),show qN F (mE F n) _=_ from hb]
   rfl
  ·have hl:bY o=0∨bY o=1∨bY o=4∨bY o=5:=by have:=G6 o h1 h2;omega
   obtain⟨f',_,e⟩:=hrow n d bp rest F hn hd hl hF (hs.up (Nat.le_succ _))
   show Pl F n (bY o) _=_
   rw[Kr F n _ hl]
   show aF _ _ _=_
   rw[e]
   refine wP _ (fun c hc=>hs _ ?_) f'
   show c.1∈ko (bY o)
   revert c
   rcases hl with h | h | h | h<;>rw[h]<;>decide
 |
  not a iha =>
  intro hok hF
  have hla:=fM 2 a.lv a.tk
  have ra:=iha hok.2 (by simp only[Tm.tk,List.length_cons] at hF;omega)
  refine ⟨fun n d bp rest hn hd hs=>?_,fun n d bp rest f _ _ hl=>by rcases hl with h | h | h | h<;>cases h⟩
  simp only[Tm.dp] at hn hd
  obtain⟨m,rfl⟩:∃m,n=m+1:=⟨n-1,by omega⟩
  have ha:=jw hok.2 ra 2 (by omega) m (d+1) bp rest (by omega) (by omega) hs
  show notP (mE F (m+1)).nt (iP (qN F (mE F (m+1)))) (RR d bp (vB::(fU 2 a.lv a.tk++rest)))=_
  unfold notP
  rw[ku _ _ (by decide)]
  unfold aF
  rw[sI (by omega) (show (mE F (m+1)).nt _=_ from ha)]
  rfl
 |
  neg a iha =>
  intro hok hF
  have hok:a.ok:=hok
  have hla:=fM (negL a) a.lv a.tk
  have ra:=iha hok (by simp only[Tm.tk,List.length_cons] at hF;omega)
  refine ⟨fun n d bp rest hn hd hs=>?_,fun n d bp rest f _ _ hl=>by rcases hl with h | h | h | h<;>cases h⟩
  simp only[Tm.dp] at hn hd
  obtain⟨m,rfl⟩:∃m,n=m+1:=⟨n-1,by omega⟩
  have h6:min (negL a) 6=6:=by unfold negL;split<;>rfl
  have ha:=jw hok ra (negL a) (by unfold negL;split<;>omega) m (d+1) bp rest (by omega) (by omega) (by rw[h6];exact hs)
  rw[h6] at ha
  obtain⟨x,X,hX,hX3⟩:=Gc a hok
  show dQ (mE F (m+1)).fc (mE F (m+1)).ex (RR d bp (aH [45]::(fU (negL a) a.lv a.tk++rest)))=_
  unfold dQ
  rw[aL (show jW (RR d bp (aH [45]::(fU (negL a) a.lv a.tk++rest)))=(false,RR d bp (aH [45]::(fU (negL a) a.lv a.tk++rest))) from rfl),if_neg (by decide)]
  unfold iR
  rw[if_pos ⟨by rw[yH,List.headD_cons];decide,by rw[hX];exact hX3⟩,Ie]
  unfold aF
  rw[sI (by omega) (show (mE F (m+1)).fc _=_ from ha)]
  rfl
 |
  nul a iha =>
  intro hok hF
  have hok:a.ok:=hok
  have hla:=fM 4 a.lv a.tk
  have ra:=iha hok (by simp only[Tm.tk,List.length_append] at hF;omega)
  refine ⟨fun n d bp rest hn hd hs=>?_,fun n d bp rest f _ _ hl=>by rcases hl with h | h | h | h<;>cases h⟩
  have ha:=jw hok ra 4 (by omega) n d bp (isK::vY::rest) hn hd (show ∀s∈ko 4,jk isK s=false by decide)
  show iP (qN F (mE F n)) (RR d bp (fU 4 a.lv a.tk++[isK,vY]++rest))=_
  rw[show fU 4 a.lv a.tk++[isK,vY]++rest=fU 4 a.lv a.tk++isK::vY::rest by simp]
  unfold iP aF
  rw[show qN F (mE F n) _=_ from ha]
  rfl
 |
  nnul a iha =>
  intro hok hF
  have hok:a.ok:=hok
  have hla:=fM 4 a.lv a.tk
  have ra:=iha hok (by simp only[Tm.tk,List.length_append] at hF;omega)
  refine ⟨fun n d bp rest hn hd hs=>?_,fun n d bp rest f _ _ hl=>by rcases hl with h | h | h | h<;>cases h⟩
  have ha:=jw hok ra 4 (by omega) n d bp (isK::vB::vY::rest) hn hd (show ∀s∈ko 4,jk isK s=false by decide)
  show iP (qN F (mE F n)) (RR d bp (fU 4 a.lv a.tk++[isK,vB,vY]++rest))=_
  rw[show fU 4 a.lv a.tk++[isK,vB,vY]++rest=fU 4 a.lv a.tk++isK::vB::vY::rest by simp]
  unfold iP aF
  rw[show qN F (mE F n) _=_ from ha]
  rfl
theorem EO (t:Tm) (hok:t.ok) (F:Nat) (hF:t.tk.length≤F) (hd:t.dp≤10) (bp:Int) (rest:List Tk) (hs:Stops 0 rest):dU F (RR 0 bp (t.tk++rest))=(t.ex,RR 0 bp rest):=by
 have:=jw hok (Ca F t hok hF) 0 (by omega) 11 0 bp rest (by show (if 0≤t.lv then t.dp else t.dp+1)≤11;rw[if_pos (Nat.zero_le _)];omega) (by show 0+((if 0≤t.lv then t.dp else t.dp+1:Nat):Int)≤10;rw[if_pos (Nat.zero_le _)];omega) hs
 have e:fU 0 t.lv t.tk=t.tk:=if_pos (Nat.zero_le _)
 rw[e] at this
 exact this
end Go.Proofs.YtaaggohjmhifbaaGreatDoor
