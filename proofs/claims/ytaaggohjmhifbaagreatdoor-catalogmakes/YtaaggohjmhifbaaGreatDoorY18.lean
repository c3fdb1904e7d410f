/- Packed for the hand-in: WPure -/
import Derived.Test.YtaaggohjmhifbaaGreatDoorY10
namespace Go.Proofs.YtaaggohjmhifbaaGreatDoor
set_option linter.unusedSimpArgs false
set_option linter.unusedVariables false
set_option maxHeartbeats 8000000
def aQ (s:List UInt8):Bool:=decide (0<s.length)&&(decide (s.length≤16)&&(bK eY (s.headD 0)&&decide (row (bK bS) s=s.length)))
def dL (v:Vl):Bool:=decide (fV v=0)&&decide (-9223372036854775807≤v.n∧v.n≤9223372036854775807)
def aJ (s:List UInt8):Tk:=if 65≤s.headD 0∧s.headD 0≤90 then ⟨2,s,0,0⟩ else ⟨5,s,0,0⟩
def cB (s:List UInt8):Tk:=⟨1,s,0,0⟩
def BZ (n:Int):Tk:=⟨3,[],n,0⟩
def Ll (s:List UInt8):Tk:=⟨4,s,0,0⟩
inductive Tm where
 | val (v:Vl)
 | col (t n:List UInt8)
 | op (o:Int) (a b:Tm)
 | not (a:Tm)
 | neg (a:Tm)
 | nul (a:Tm)
 | nnul (a:Tm)
def Tm.ex:Tm→Ex
 | .val v=>zA v
 | .col t n=>lq t n
 | .op o a b=>oZ o a.ex b.ex
 | .not a=>jE 4 a.ex
 | .neg a=>jE 5 a.ex
 | .nul a=>jE 6 a.ex
 | .nnul a=>jE 4 (jE 6 a.ex)
def uN:List (List UInt8 × Nat):=[([],0),([79,82],0),([65,78,68],1),([61],3),([60,62],3),([60],3),([60,61],3),([62],3),([62,61],3),([43],4),([45],4),([42],5),([47],5),([37],5)]
def oV (o:Int):List UInt8:=(uN.getD o.toNat ([],0)).1
def dX (o:Int):Nat:=(uN.getD o.toNat ([],0)).2
def AV (o:Int):Nat:=if dX o=3 then 4 else dX o
def Tm.FL:Tm→Bool
 | .nul _=>true
 | _=>false
def Tm.isNum:Tm→Bool
 | .val v=>decide (v.k=1)&&decide (0≤v.n)
 | _=>false
def Tm.lv:Tm→Nat
 | .op o _ _=>dX o
 | .nul _=>3
 | .nnul _=>3
 | .not _=>2
 | _=>6
def jS (v:Vl):List Tk:=if v.k=2 then [Ll v.s] else if v.k=0 then [aJ [78,85,76,76]] else if v.n<0 then [aJ [45],BZ (-v.n)] else [BZ v.n]
def ji (l lv:Nat) (ts:List Tk):List Tk:=if l≤lv then ts else aJ [40]::(ts++[aJ [41]])
def x9 (l lv d:Nat):Nat:=if l≤lv then d else d+1
def negL (a:Tm):Nat:=if a.isNum=true then 7 else 6
def isK:Tk:=aJ [73,83]
def A8:Tk:=aJ [78,79,84]
def vD:Tk:=aJ [78,85,76,76]
def Tm.tk:Tm→List Tk
 | .val v=>jS v
 | .col t n=>if t=[] then [cB n] else [cB t,aJ [46],cB n]
 | .op o a b=>ji (AV o) a.lv a.tk++aJ (oV o)::ji (dX o+1) b.lv b.tk
 | .not a=>A8::ji 2 a.lv a.tk
 | .neg a=>aJ [45]::ji (negL a) a.lv a.tk
 | .nul a=>ji 4 a.lv a.tk++[isK,vD]
 | .nnul a=>ji 4 a.lv a.tk++[isK,A8,vD]
def Tm.dp:Tm→Nat
 | .val _=>0
 | .col _ _=>0
 | .op o a b=>max (x9 (AV o) a.lv a.dp) (x9 (dX o+1) b.lv b.dp)
 | .not a=>x9 2 a.lv a.dp+1
 | .neg a=>x9 (negL a) a.lv a.dp+1
 | .nul a=>x9 4 a.lv a.dp
 | .nnul a=>x9 4 a.lv a.dp
def Tm.ok:Tm→Prop
 | .val v=>dL v=true
 | .col t n=>aQ n=true∧(t=[]∨aQ t=true)
 | .op o a b=>1≤o∧o≤13∧a.ok∧b.ok
 | .not a=>a.FL=false∧a.ok
 | .neg a=>a.ok
 | .nul a=>a.ok
 | .nnul a=>a.ok
def Tm.sz:Tm→Nat
 | .val _=>1
 | .col _ _=>1
 | .op _ a b=>a.sz+b.sz+1
 | .not a=>a.sz+1
 | .neg a=>a.sz+1
 | .nul a=>a.sz+1
 | .nnul a=>a.sz+2
theorem iL (l lv:Nat) (ts:List Tk):ts.length≤(ji l lv ts).length∧(ji l lv ts).length≤ts.length+2:=by
 unfold ji
 split
 ·omega
 ·simp only[List.length_cons,List.length_append,List.length_nil];omega
theorem yT (v:Vl):1≤(jS v).length∧(jS v).length≤2:=by
 unfold jS
 split
 ·simp
 ·split
  ·simp
  ·split<;>simp
theorem EG (t:Tm):1≤t.sz:=by cases t<;>simp[Tm.sz]
theorem Jz (t:Tm):1≤t.tk.length∧t.tk.length+2≤8*t.sz:=by
 induction t with
 | val v=>have:=yT v;simp only[Tm.tk,Tm.sz];omega
 | col t n=>simp only[Tm.tk,Tm.sz];split<;>simp
 |
  op o a b ha hb =>
  have h1:=iL (AV o) a.lv a.tk
  have h2:=iL (dX o+1) b.lv b.tk
  simp only[Tm.tk,Tm.sz,List.length_append,List.length_cons]
  omega
 | not a ha=>have h1:=iL 2 a.lv a.tk;simp only[Tm.tk,Tm.sz,List.length_cons];omega
 | neg a ha=>have h1:=iL (negL a) a.lv a.tk;simp only[Tm.tk,Tm.sz,List.length_cons];omega
 | nul a ha=>have h1:=iL 4 a.lv a.tk;simp only[Tm.tk,Tm.sz,List.length_append,List.length_cons,List.length_nil];omega
 | nnul a ha=>have h1:=iL 4 a.lv a.tk;simp only[Tm.tk,Tm.sz,List.length_append,List.length_cons,List.length_nil];omega
theorem rH (l lv d:Nat):d≤x9 l lv d∧x9 l lv d≤d+1:=by unfold x9;split<;>omega
theorem K4 (t:Tm):t.dp+2≤2*t.sz:=by
 induction t with
 | val v=>simp[Tm.dp,Tm.sz]
 | col t n=>simp[Tm.dp,Tm.sz]
 |
  op o a b ha hb =>
  have h1:=rH (AV o) a.lv a.dp
  have h2:=rH (dX o+1) b.lv b.dp
  have h3:=EG a
  have h4:=EG b
  simp only[Tm.dp,Tm.sz]
  omega
 | not a ha=>have h1:=rH 2 a.lv a.dp;simp only[Tm.dp,Tm.sz];omega
 | neg a ha=>have h1:=rH (negL a) a.lv a.dp;simp only[Tm.dp,Tm.sz];omega
 | nul a ha=>have h1:=rH 4 a.lv a.dp;simp only[Tm.dp,Tm.sz];omega
 | nnul a ha=>have h1:=rH 4 a.lv a.dp;simp only[Tm.dp,Tm.sz];omega
def iU (t:Tk) (s:List UInt8):Bool:=(t.k==2||t.k==5)&&t.s==s
abbrev RR (d bp:Int) (ts:List Tk):Rd:=⟨ts,d,0,bp⟩
theorem xL (d bp:Int) (ts:List Tk) (s:List UInt8):dK s (RR d bp ts)=iU (ts.headD jl) s:=rfl
theorem F6 (d bp:Int) (t:Tk) (ts:List Tk):nextR (RR d bp (t::ts))=RR d bp ts:=rfl
theorem aH {α β:Type} {p:Pa α} {q:α→Pa β} {r r1:Rd} {x:α} (h:p r=(x,r1)):aB p q r=q x r1:=by
 unfold aB;rw[h]
theorem jQ {α:Type} {d bp:Int} {t:Tk} {ts:List Tk} {s:List UInt8} (y m:Pa α) (h:iU t s=true):gI s y m (RR d bp (t::ts))=y (RR d bp ts):=by
 unfold gI
 rw[xL,List.headD_cons,if_pos h]
 rfl
theorem jo {α:Type} {d bp:Int} {ts:List Tk} {s:List UInt8} (y m:Pa α) (h:iU (ts.headD jl) s=false):gI s y m (RR d bp ts)=m (RR d bp ts):=by
 unfold gI
 rw[xL,if_neg (by rw[h];exact Bool.false_ne_true)]
theorem oG {d bp:Int} {ts:List Tk}:∀ops:List (List UInt8 × Int),(∀c∈ops,iU (ts.headD jl) c.1=false)→aF ops (RR d bp ts)=(0,RR d bp ts)
 | [],_=>rfl
 |
  c::ops,h=>by
  unfold aF
  rw[jo _ _ (h c (by simp))]
  exact oG ops (fun x hx=>h x (by simp[hx]))
def jP (l:Nat):List (List UInt8) :=
 [46]::((if l≤5 then [[42],[47],[37]] else [])++((if l≤4 then [[43],[45]] else [])++((if l≤3 then [[73,83],[61],[60,62],[60],[60,61],[62],[62,61]] else [])++((if l≤1 then [[65,78,68]] else [])++(if l=0 then [[79,82]] else [])))))
def Stops (l:Nat) (rest:List Tk):Prop:=∀s∈jP l,iU (rest.headD jl) s=false
theorem Stops.up {l m:Nat} {rest:List Tk} (h:Stops l rest) (hm:l≤m):Stops m rest:=fun s hs=>h s (by
 unfold jP at hs ⊢
 rw[List.mem_cons] at hs ⊢
 rcases hs with hs | hs
 ·exact .inl hs
 ·right
  simp only[List.mem_append] at hs ⊢
  rcases hs with hs | hs | hs | hs | hs
  ·left;split at hs
   ·rw[if_pos (by omega)];exact hs
   ·cases hs
  ·right;left;split at hs
   ·rw[if_pos (by omega)];exact hs
   ·cases hs
  ·right;right;left;split at hs
   ·rw[if_pos (by omega)];exact hs
   ·cases hs
  ·right;right;right;left;split at hs
   ·rw[if_pos (by omega)];exact hs
   ·cases hs
  ·right;right;right;right;split at hs
   ·rw[if_pos (by omega)];exact hs
   ·cases hs)
def Pl (F n:Nat):Nat→Pa Ex
 | 0=>Ca F (lJ F n)
 | 1=>JU F (lJ F n)
 | 2=>Fh F (lJ F n)
 | 3=>iB (qB F (lJ F n))
 | 4=>qB F (lJ F n)
 | 5=>E5 F (lJ F n)
 | _=>dF (lJ F n).fc (lJ F n).ex
theorem vS {below:Pa Ex} {ops:List (List UInt8 × Int)} {d bp:Int} {ts:List Tk} (e:Ex) (h : ∀c∈ops,iU (ts.headD jl) c.1=false):∀f,jy below ops f e (RR d bp ts)=(e,RR d bp ts)
 | 0=>rfl
 |
  f+1=>by
  unfold jy aB
  rw[oG ops h]
  rfl
theorem oO {below:Pa Ex} {ops:List (List UInt8 × Int)} {d bp:Int} {ts rest:List Tk} {e:Ex} {f:Nat} (hb:below (RR d bp ts)=(e,RR d bp rest)) (h : ∀c∈ops,iU (rest.headD jl) c.1=false):rowP f below ops (RR d bp ts)=(e,RR d bp rest):=by
 unfold rowP aB
 rw[hb]
 exact vS e h f
theorem I7 {F n l:Nat} {d bp:Int} {ts rest:List Tk} {e:Ex} (hl:l<6) (h:Pl F n (l+1) (RR d bp ts)=(e,RR d bp rest)) (hs:Stops l rest) (hn:l=2→iU (ts.headD jl) [78,79,84]=false):Pl F n l (RR d bp ts)=(e,RR d bp rest):=by
 have hb : ∀c,c∈jP l→iU (rest.headD jl) c=false:=hs
 match l,hl,h,hb,hn with
 | 0,_,h,hb,_=>exact oO h (fun c hc=>hb _ (by revert c;decide))
 | 1,_,h,hb,_=>exact oO h (fun c hc=>hb _ (by revert c;decide))
 | 2,_,h,hb,hn=>exact (jo _ _ (hn rfl)).trans h
 |
  3,_,h,hb,_ =>
  show iB (qB F (lJ F n)) _=_
  unfold iB aB
  rw[show qB F (lJ F n) (RR d bp ts)=(e,RR d bp rest) from h]
  dsimp only
  rw[jo _ _ (hb _ (by decide))]
  rw[oG _ (fun c hc=>hb _ (by revert c;decide))]
  rfl
 | 4,_,h,hb,_=>exact oO h (fun c hc=>hb _ (by revert c;decide))
 | 5,_,h,hb,_=>exact oO h (fun c hc=>hb _ (by revert c;decide))
theorem uL {F n:Nat} {d bp:Int} {ts rest:List Tk} {e:Ex} (L:Nat) (hL:L≤6) (h:Pl F n L (RR d bp ts)=(e,RR d bp rest)):∀l,l≤L→Stops l rest→(l≤2→3≤L→iU (ts.headD jl) [78,79,84]=false)→Pl F n l (RR d bp ts)=(e,RR d bp rest):=by
 induction L with
 | zero =>
    intro l hl _ _;obtain rfl:l=0:=by omega
    exact h
 |
  succ L ih =>
  intro l hl hs hn
  by_cases e1:l=L+1
  ·subst e1;exact h
  ·refine ih (by omega) (I7 (by omega) h (hs.up (by omega)) (fun e2=>hn (by omega) (by omega))) l (by omega) hs (fun h1 h2=>hn h1 (by omega))
theorem CG (t:Tm) (hok:t.ok):∃h X,t.tk=h::X∧(3≤t.lv→iU h [78,79,84]=false):=by
 have hat : ∀(l:Nat) (a:Tm),3≤l→(∃h X,a.tk=h::X∧(3≤a.lv→iU h [78,79,84]=false))→∃h X,ji l a.lv a.tk=h::X∧iU h [78,79,84]=false:=fun l a hl ⟨h,X,e,hn⟩=>by
  unfold ji
  split
  ·rename_i hh;exact⟨h,X,e,hn (by omega)⟩
  ·exact⟨_,_,rfl,by decide⟩
 have hat0 : ∀(l:Nat) (a:Tm),(∃h X,a.tk=h::X∧(3≤a.lv→iU h [78,79,84]=false))→∃h X,ji l a.lv a.tk=h::X:=fun l a ⟨h,X,e,hn⟩=>by
  unfold ji
  split
  ·exact⟨h,X,e⟩
  ·exact⟨_,_,rfl⟩
 induction t with
 |
  val v =>
  simp only[Tm.tk,jS]
  split
  ·exact⟨_,_,rfl,fun _=>rfl⟩
  ·split
   ·exact⟨_,_,rfl,fun _=>by decide⟩
   ·split
    ·exact⟨_,_,rfl,fun _=>by decide⟩
    ·exact⟨_,_,rfl,fun _=>rfl⟩
 |
  col t n =>
  simp only[Tm.tk]
  split
  ·exact⟨_,_,rfl,fun _=>rfl⟩
  ·exact⟨_,_,rfl,fun _=>rfl⟩
 |
  op o a b ha hb =>
  simp only[Tm.tk]
  by_cases h3:3≤AV o
  ·obtain⟨h,X,e,hn⟩:=hat (AV o) a h3 (ha hok.2.2.1)
   rw[e];exact⟨_,_,rfl,fun _=>hn⟩
  ·obtain⟨h,X,e⟩:=hat0 (AV o) a (ha hok.2.2.1)
   rw[e]
   refine ⟨_,_,rfl,fun hh=>absurd ?_ h3⟩
   show 3≤AV o
   unfold AV
   have:3≤dX o:=hh
   split<;>omega
 | not a ha=>exact⟨_,_,rfl,fun h=>absurd (show 3≤2 from h) (by decide)⟩
 | neg a ha=>exact⟨_,_,rfl,fun _=>by decide⟩
 |
  nul a ha =>
  obtain⟨h,X,e,hn⟩:=hat 4 a (by decide) (ha hok)
  simp only[Tm.tk]
  rw[e];exact⟨_,_,rfl,fun _=>hn⟩
 |
  nnul a ha =>
  obtain⟨h,X,e,hn⟩:=hat 4 a (by decide) (ha hok)
  simp only[Tm.tk]
  rw[e];exact⟨_,_,rfl,fun _=>hn⟩
theorem EZ (a:Tm) (hok:a.ok):∃h X,ji (negL a) a.lv a.tk=h::X∧h.k≠3:=by
 unfold ji
 split
 ·rename_i hl
  have hn:a.isNum=false:=by
   cases h:a.isNum with
   | false=>rfl
   |
    true =>
    exfalso
    unfold negL at hl
    rw[if_pos h] at hl
    cases a with
    | val v=>have:(7:Nat)≤6:=hl;omega
    | _=>simp[Tm.isNum] at h
  unfold negL at hl
  rw[hn] at hl
  have hl:6≤a.lv:=hl
  cases a with
  |
   val v =>
   simp only[Tm.tk,jS]
   split
   ·exact⟨_,_,rfl,by show (4:Int)≠3;decide⟩
   ·rename_i h2
    split
    ·exact⟨_,_,rfl,by decide⟩
    ·rename_i h0
     have hk:v.k=1:=by
      have hv:dL v=true:=hok
      unfold dL at hv
      simp only[Bool.and_eq_true,decide_eq_true_eq] at hv
      have hr:=hv.1
      unfold fV at hr
      by_cases he:eqv v (kL v)=false
      ·rw[if_pos he] at hr;cases hr
      ·have he:=lC.1 (by simpa using he)
       unfold kL at he
       by_cases h1:v.k=1
       ·exact h1
       ·rw[if_neg h1,if_neg h2] at he
        exact absurd (congrArg Vl.k he) h0
     split
     ·exact⟨_,_,rfl,by decide⟩
     ·rename_i hneg
      simp[Tm.isNum,hk] at hn
      omega
  |
   col t n =>
   simp only[Tm.tk]
   split
   ·exact⟨_,_,rfl,by show (1:Int)≠3;decide⟩
   ·exact⟨_,_,rfl,by show (1:Int)≠3;decide⟩
  |
   op o b c =>
   exfalso
   have hl:6≤dX o:=hl
   obtain⟨h1,h2,_⟩:=hok
   have : ∀k:Nat,k≤13→(uN.getD k ([],0)).2≤5:=by decide
   have:=this o.toNat (by omega)
   unfold dX at hl
   omega
  | not b=>exfalso;have:(6:Nat)≤2:=hl;omega
  | neg b=>exact⟨_,_,rfl,by decide⟩
  | nul b=>exfalso;have:(6:Nat)≤3:=hl;omega
  | nnul b=>exfalso;have:(6:Nat)≤3:=hl;omega
 ·exact⟨_,_,rfl,by decide⟩
theorem qI {v:Vl} (hv:dL v=true):(v.k=2∧v.n=0∧v.s.length≤40)∨(v.k=0∧v.n=0∧v.s=[])∨(v.k=1∧v.s=[]∧-9223372036854775807≤v.n∧v.n≤9223372036854775807):=by
 unfold dL at hv
 simp only[Bool.and_eq_true,decide_eq_true_eq] at hv
 obtain⟨hr,hm⟩:=hv
 unfold fV at hr
 by_cases he:eqv v (kL v)=false
 ·rw[if_pos he] at hr;cases hr
 ·rw[if_neg he] at hr
  have he:=lC.1 (by simpa using he)
  have hlen:v.s.length≤40:=by
   by_cases h:40<v.s.length
   ·rw[if_pos h] at hr;cases hr
   ·omega
  unfold kL at he
  by_cases h1:v.k=1
  ·rw[if_pos h1] at he;exact .inr (.inr ⟨h1,congrArg Vl.s he,hm⟩)
  ·rw[if_neg h1] at he
   by_cases h2:v.k=2
   ·rw[if_pos h2] at he;exact .inl ⟨h2,congrArg Vl.n he,hlen⟩
   ·rw[if_neg h2] at he;exact .inr (.inl ⟨congrArg Vl.k he,congrArg Vl.n he,congrArg Vl.s he⟩)
theorem zL {v:Vl} (hv:dL v=true) (d bp:Int) (rest:List Tk):jk (RR d bp (jS v++rest))=(v,RR d bp rest):=by
 obtain⟨k,n,s⟩:=v
 rcases qI hv with⟨h1,h2,h3⟩ | ⟨h1,h2,h3⟩ | ⟨h1,h2,h3⟩
 ·dsimp only at h1 h2;subst h1 h2
  rfl
 ·dsimp only at h1 h2 h3;subst h1 h2 h3
  rfl
 ·dsimp only at h1 h2;subst h1 h2
  have e:jS ⟨1,n,[]⟩=if n<0 then [aJ [45],BZ (-n)] else [BZ n]:=rfl
  rw[e]
  by_cases hn:n<0
  ·rw[if_pos hn]
   show ((⟨1,- -n,[]⟩:Vl),RR d bp rest)=_
   rw[Int.neg_neg]
  ·rw[if_neg hn]
   rfl
theorem uF {v:Vl} (hv:dL v=true) (d bp:Int) (rest:List Tk) (yes no:Pa Ex):jF (RR d bp (jS v++rest))=(false,RR d bp (jS v++rest))∧iD yes no (RR d bp (jS v++rest))=no (RR d bp (jS v++rest))∧iU ((jS v++rest).headD jl) [40]=false:=by
 obtain⟨k,n,s⟩:=v
 rcases qI hv with⟨h1,h2,h3⟩ | ⟨h1,h2,h3⟩ | ⟨h1,h2,h3⟩
 ·dsimp only at h1 h2;subst h1 h2
  exact⟨rfl,rfl,rfl⟩
 ·dsimp only at h1 h2 h3;subst h1 h2 h3
  exact⟨rfl,rfl,by show iU (aJ [78,85,76,76]) [40]=false;decide⟩
 ·dsimp only at h1 h2;subst h1 h2
  have e:jS ⟨1,n,[]⟩=if n<0 then [aJ [45],BZ (-n)] else [BZ n]:=rfl
  rw[e]
  by_cases hn:n<0
  ·rw[if_pos hn]
   refine ⟨rfl,?_,by show iU (aJ [45]) [40]=false;decide⟩
   unfold iD
   rw[if_neg (fun h=>h.2 rfl)]
  ·rw[if_neg hn]
   exact⟨rfl,rfl,rfl⟩
theorem qV {α:Type} {p:Pa α} {d bp:Int} {ts rest:List Tk} {x:α} (hd:d+1≤10) (h:p (RR (d+1) bp ts)=(x,RR (d+1) bp rest)):fT p (RR d bp ts)=(x,RR d bp rest):=by
 have e:bJ (RR d bp ts)=RR (d+1) bp ts:=by
  unfold bJ
  rw[if_neg (by show ¬10<d+1;omega)]
 unfold fT
 rw[e,h]
 show (x,Jq (RR (d+1) bp rest))=_
 unfold Jq
 show (x,(⟨rest,d+1-1,0,bp⟩:Rd))=_
 rw[show d+1-1=d by omega]
theorem wC {d bp:Int} {t:Tk} {ts:List Tk} {s:List UInt8} (h:iU t s=true):cK s (RR d bp (t::ts))=((),RR d bp ts):=jQ _ _ h
theorem ni (l:Nat) (ts:List Tk):Stops l (aJ [41]::ts):=fun s hs=>by
 have h0 : ∀s∈jP 0,iU (aJ [41]) s=false:=by decide
 have:=Stops.up (l:=0) (m:=l) (rest:=[aJ [41]]) h0 (Nat.zero_le _)
 exact this s hs
theorem xW {F n:Nat} {d bp:Int} {ts rest:List Tk} {e:Ex} (hd:d+1≤10) (h:Pl F n 0 (RR (d+1) bp (ts++aJ [41]::rest))=(e,RR (d+1) bp (aJ [41]::rest))) :
  Pl F (n+1) 6 (RR d bp (aJ [40]::(ts++[aJ [41]])++rest))=(e,RR d bp rest):=by
 show dF (lJ F (n+1)).fc (lJ F (n+1)).ex _=_
 rw[show aJ [40]::(ts++[aJ [41]])++rest=aJ [40]::(ts++aJ [41]::rest) by simp]
 unfold dF
 rw[aH (show jF (RR d bp (aJ [40]::(ts++aJ [41]::rest)))=(false,RR d bp (aJ [40]::(ts++aJ [41]::rest))) from rfl),if_neg (by decide)]
 unfold iD
 rw[if_neg (fun h=>absurd h.1 (by rw[xL,List.headD_cons];decide))]
 rw[jQ _ _ (by decide)]
 unfold aB
 rw[qV hd (show (lJ F (n+1)).ex _=_ from h)]
 dsimp only
 rw[wC (by decide)]
 rfl
def opsOf (l:Nat):List (List UInt8 × Int):=if l=0 then xX else if l=1 then qH else if l=4 then qm else qJ
theorem Kn (F n l:Nat) (hl:l=0∨l=1∨l=4∨l=5):Pl F n l=rowP F (Pl F n (l+1)) (opsOf l):=by
 rcases hl with rfl | rfl | rfl | rfl<;>rfl
theorem uH (o:Int) (h1:1≤o) (h2:o≤13):o=1∨o=2∨o=3∨o=4∨o=5∨o=6∨o=7∨o=8∨o=9∨o=10∨o=11∨o=12∨o=13:=by omega
theorem wF (o:Int) (h1:1≤o) (h2:o≤13) (d bp:Int) (ts:List Tk):aF (if dX o=3 then nW else opsOf (dX o)) (RR d bp (aJ (oV o)::ts))=(o,RR d bp ts):=by
 rcases uH o h1 h2 with rfl | rfl | rfl | rfl | rfl | rfl | rfl | rfl | rfl | rfl | rfl | rfl | rfl<;>rfl
theorem zh (o:Int) (h1:1≤o) (h2:o≤13) (ts:List Tk):Stops (dX o+1) (aJ (oV o)::ts):=by
 unfold Stops
 rw[List.headD_cons]
 rcases uH o h1 h2 with rfl | rfl | rfl | rfl | rfl | rfl | rfl | rfl | rfl | rfl | rfl | rfl | rfl<;>decide
theorem Jo (o:Int) (h1:1≤o) (h2:o≤13):dX o=0∨dX o=1∨dX o=3∨dX o=4∨dX o=5:=by
 rcases uH o h1 h2 with rfl | rfl | rfl | rfl | rfl | rfl | rfl | rfl | rfl | rfl | rfl | rfl | rfl<;>decide
theorem KU (o:Int) (h1:1≤o) (h2:o≤13):iU (aJ (oV o)) [73,83]=false:=by
 rcases uH o h1 h2 with rfl | rfl | rfl | rfl | rfl | rfl | rfl | rfl | rfl | rfl | rfl | rfl | rfl<;>decide
theorem K7 (t:Tm) (hok:t.ok):t.lv≤6:=by
 cases t with
 | op o a b=>have:=Jo o hok.1 hok.2.1;show dX o≤6;omega
 | _=>simp[Tm.lv]
theorem IX {s:List UInt8} (h:aQ s=true):s≠[]:=by
 rintro rfl
 exact absurd h (by decide)
structure BF (F:Nat) (t:Tm):Prop where
 own : ∀(n:Nat) (d bp:Int) (rest:List Tk),t.dp≤n→d+t.dp≤10→Stops t.lv rest→Pl F n t.lv (RR d bp (t.tk++rest))=(t.ex,RR d bp rest)
 row : ∀(n:Nat) (d bp:Int) (rest:List Tk) (f:Nat),t.dp≤n→d+t.dp≤10→(t.lv=0∨t.lv=1∨t.lv=4∨t.lv=5)→t.tk.length≤f→Stops (t.lv+1) rest →
  ∃f',f≤f'+t.tk.length∧aB (Pl F n (t.lv+1)) (jy (Pl F n (t.lv+1)) (opsOf t.lv) f) (RR d bp (t.tk++rest))=jy (Pl F n (t.lv+1)) (opsOf t.lv) f' t.ex (RR d bp rest)
theorem iY {F:Nat} {t:Tm} (hok:t.ok) (h:BF F t) (l:Nat) (hl:l≤7) (n:Nat) (d bp:Int) (rest:List Tk) (hn:x9 l t.lv t.dp≤n) (hd:d+x9 l t.lv t.dp≤10) (hs:Stops (min l 6) rest):Pl F n (min l 6) (RR d bp (ji l t.lv t.tk++rest))=(t.ex,RR d bp rest):=by
 have hlv:=K7 t hok
 unfold ji x9 at *
 by_cases hle:l≤t.lv
 ·rw[if_pos hle] at hn hd ⊢
  obtain⟨x,X,hX,hXn⟩:=CG t hok
  rw[Nat.min_eq_left (by omega)] at hs ⊢
  refine uL t.lv hlv (h.own n d bp rest hn (by omega) (hs.up hle)) l hle hs (fun _ h3=>?_)
  rw[hX]
  exact hXn h3
 ·rw[if_neg hle] at hn hd ⊢
  obtain⟨m,rfl⟩:∃m,n=m+1:=⟨n-1,by omega⟩
  obtain⟨x,X,hX,hXn⟩:=CG t hok
  have h0:=uL t.lv hlv (h.own m (d+1) bp (aJ [41]::rest) (by omega) (by omega) (ni _ _)) 0 (Nat.zero_le _) (ni _ _) (fun _ h3=>by rw[hX];exact hXn h3)
  exact uL 6 (Nat.le_refl _) (xW (by omega) h0) (min l 6) (Nat.min_le_right _ _) hs (fun _ _=>by show iU (aJ [40]) _=false;decide)
theorem Db {F:Nat} {t:Tm} (hok:t.ok) (h:BF F t) (l:Nat) (hl:l=0∨l=1∨l=4∨l=5) (n:Nat) (d bp:Int) (rest:List Tk) (f:Nat) (hn:x9 l t.lv t.dp≤n) (hd:d+x9 l t.lv t.dp≤10) (hf:(ji l t.lv t.tk).length≤f) (hs:Stops (l+1) rest) :
  ∃f',f≤f'+(ji l t.lv t.tk).length∧aB (Pl F n (l+1)) (jy (Pl F n (l+1)) (opsOf l) f) (RR d bp (ji l t.lv t.tk++rest))=jy (Pl F n (l+1)) (opsOf l) f' t.ex (RR d bp rest):=by
 by_cases hle:l=t.lv
 ·subst hle
  have e1:ji t.lv t.lv t.tk=t.tk:=if_pos (Nat.le_refl _)
  have e2:x9 t.lv t.lv t.dp=t.dp:=if_pos (Nat.le_refl _)
  rw[e1] at hf ⊢
  rw[e2] at hn hd
  exact h.row n d bp rest f hn hd hl hf hs
 ·have e1:ji l t.lv t.tk=ji (l+1) t.lv t.tk:=by
   unfold ji
   by_cases h2:l≤t.lv
   ·rw[if_pos h2,if_pos (by omega)]
   ·rw[if_neg h2,if_neg (by omega)]
  have e2:x9 l t.lv t.dp=x9 (l+1) t.lv t.dp:=by
   unfold x9
   by_cases h2:l≤t.lv
   ·rw[if_pos h2,if_pos (by omega)]
   ·rw[if_neg h2,if_neg (by omega)]
  have hm:min (l+1) 6=l+1:=Nat.min_eq_left (by omega)
  have:=iY hok h (l+1) (by omega) n d bp rest (by rw[← e2];exact hn) (by rw[← e2];exact hd) (by rw[hm];exact hs)
  rw[hm,← e1] at this
  refine ⟨f,by omega,?_⟩
  unfold aB
  rw[this]
theorem Ag (F:Nat):∀t:Tm,t.ok→t.tk.length≤F→BF F t:=by
 intro t
 induction t with
 |
  val v =>
  intro hok _
  refine ⟨fun n d bp rest _ _ _=>?_,fun n d bp rest f _ _ hl=>by rcases hl with h | h | h | h<;>cases h⟩
  show dF (lJ F n).fc (lJ F n).ex (RR d bp (jS v++rest))=_
  unfold dF aB
  rw[(uF hok d bp rest (aT Ef) (aT Ef)).1]
  dsimp only
  rw[if_neg (by decide),(uF hok d bp rest _ _).2.1,jo _ _ (uF hok d bp rest (aT Ef) (aT Ef)).2.2,zL hok]
  rfl
 |
  col t n =>
  intro hok _
  refine ⟨fun m d bp rest _ _ hs=>?_,fun n d bp rest f _ _ hl=>by rcases hl with h | h | h | h<;>cases h⟩
  have h46:iU (rest.headD jl) [46]=false:=hs _ (by unfold jP;simp)
  show dF (lJ F m).fc (lJ F m).ex (RR d bp ((if t=[] then [cB n] else [cB t,aJ [46],cB n])++rest))=_
  by_cases ht:t=[]
  ·subst ht
   rw[if_pos rfl]
   show fq (RR d bp (cB n::rest))=_
   show (gI [46] (aB nameP fun m=>aT (lq n m)) (aT (lq [] n))) (RR d bp rest)=_
   rw[jo _ _ h46]
   rfl
  ·rw[if_neg ht]
   show fq (RR d bp (cB t::aJ [46]::cB n::rest))=_
   show (gI [46] (aB nameP fun m=>aT (lq t m)) (aT (lq [] t))) (RR d bp (aJ [46]::cB n::rest))=_
   rw[jQ _ _ (by decide)]
   rfl
 |
  op o a b iha ihb =>
  intro hok hF
  obtain⟨h1,h2,hoka,hokb⟩:=hok
  have hF':(ji (AV o) a.lv a.tk).length+((ji (dX o+1) b.lv b.tk).length+1)≤F:=by
   have:=hF
   simp only[Tm.tk,List.length_append,List.length_cons] at this
   omega
  have hla:=iL (AV o) a.lv a.tk
  have hlb:=iL (dX o+1) b.lv b.tk
  have ra:=iha hoka (by omega)
  have rb:=ihb hokb (by omega)
  have hrow : ∀(n:Nat) (d bp:Int) (rest:List Tk) (f:Nat),(Tm.op o a b).dp≤n→d+(Tm.op o a b).dp≤10→(dX o=0∨dX o=1∨dX o=4∨dX o=5)→(Tm.op o a b).tk.length≤f→Stops (dX o+1) rest →
    ∃f',f≤f'+(Tm.op o a b).tk.length∧aB (Pl F n (dX o+1)) (jy (Pl F n (dX o+1)) (opsOf (dX o)) f) (RR d bp ((Tm.op o a b).tk++rest))=jy (Pl F n (dX o+1)) (opsOf (dX o)) f' (Tm.op o a b).ex (RR d bp rest):=by
   intro n d bp rest f hn hd hl hf hs
   have e3:AV o=dX o:=if_neg (by omega)
   simp only[Tm.tk,List.length_append,List.length_cons] at hf ⊢
   simp only[Tm.dp] at hn hd
   rw[e3] at hf hn hd ⊢
   obtain⟨f',hf',e⟩:=Db hoka ra (dX o) hl n d bp (aJ (oV o)::(ji (dX o+1) b.lv b.tk++rest)) f (by omega) (by omega) (by omega) (zh o h1 h2 _)
   obtain⟨f2,rfl⟩:∃f2,f'=f2+1:=⟨f'-1,by omega⟩
   refine ⟨f2,by omega,?_⟩
   rw[show ji (dX o) a.lv a.tk++aJ (oV o)::ji (dX o+1) b.lv b.tk++rest=ji (dX o) a.lv a.tk++aJ (oV o)::(ji (dX o+1) b.lv b.tk++rest) by simp,e]
   have hc:=wF o h1 h2 d bp (ji (dX o+1) b.lv b.tk++rest)
   rw[if_neg (by omega)] at hc
   have hb:=iY hokb rb (dX o+1) (by omega) n d bp rest (by omega) (by omega) (by rw[Nat.min_eq_left (by omega)];exact hs)
   rw[Nat.min_eq_left (by omega)] at hb
   show (aB (aF _) _) _=_
   unfold aB
   rw[hc]
   dsimp only
   rw[if_neg (by omega),hb]
   rfl
  refine ⟨fun n d bp rest hn hd hs=>?_,hrow⟩
  by_cases h3:dX o=3
  ·have e3:AV o=4:=if_pos h3
   simp only[Tm.dp] at hn hd
   have hs3:Stops 3 rest:=by have:=hs;simp only[Tm.lv] at this;rw[h3] at this;exact this
   show Pl F n (dX o) (RR d bp (ji (AV o) a.lv a.tk++aJ (oV o)::ji (dX o+1) b.lv b.tk++rest))=_
   rw[e3,h3,show (3+1:Nat)=4 from rfl] at hn hd ⊢
   have ha:=iY hoka ra 4 (by omega) n d bp (aJ (oV o)::(ji 4 b.lv b.tk++rest)) (by omega) (by omega) (by have:=zh o h1 h2 (ji 4 b.lv b.tk++rest);rw[h3] at this;exact this)
   have hb:=iY hokb rb 4 (by omega) n d bp rest (by omega) (by omega) (hs3.up (by omega))
   have hc:=wF o h1 h2 d bp (ji 4 b.lv b.tk++rest)
   rw[if_pos h3] at hc
   show iB (qB F (lJ F n)) _=_
   rw[show ji 4 a.lv a.tk++aJ (oV o)::ji 4 b.lv b.tk++rest=ji 4 a.lv a.tk++aJ (oV o)::(ji 4 b.lv b.tk++rest) by simp]
   unfold iB aB
   rw[show qB F (lJ F n) _=_ from ha]
   dsimp only
   rw[jo (ts:=aJ (oV o)::(ji 4 b.lv b.tk++rest)) _ _ (KU o h1 h2),hc]
   dsimp only
   rw[if_neg (by omega),show qB F (lJ F n) _=_ from hb]
   rfl
  ·have hl:dX o=0∨dX o=1∨dX o=4∨dX o=5:=by have:=Jo o h1 h2;omega
   obtain⟨f',_,e⟩:=hrow n d bp rest F hn hd hl hF (hs.up (Nat.le_succ _))
   show Pl F n (dX o) _=_
   rw[Kn F n _ hl]
   show aB _ _ _=_
   rw[e]
   refine vS _ (fun c hc=>hs _ ?_) f'
   show c.1∈jP (dX o)
   revert c
   rcases hl with h | h | h | h<;>rw[h]<;>decide
 |
  not a iha =>
  intro hok hF
  have hla:=iL 2 a.lv a.tk
  have ra:=iha hok.2 (by simp only[Tm.tk,List.length_cons] at hF;omega)
  refine ⟨fun n d bp rest hn hd hs=>?_,fun n d bp rest f _ _ hl=>by rcases hl with h | h | h | h<;>cases h⟩
  simp only[Tm.dp] at hn hd
  obtain⟨m,rfl⟩:∃m,n=m+1:=⟨n-1,by omega⟩
  have ha:=iY hok.2 ra 2 (by omega) m (d+1) bp rest (by omega) (by omega) hs
  show notP (lJ F (m+1)).nt (iB (qB F (lJ F (m+1)))) (RR d bp (A8::(ji 2 a.lv a.tk++rest)))=_
  unfold notP
  rw[jQ _ _ (by decide)]
  unfold aB
  rw[qV (by omega) (show (lJ F (m+1)).nt _=_ from ha)]
  rfl
 |
  neg a iha =>
  intro hok hF
  have hok:a.ok:=hok
  have hla:=iL (negL a) a.lv a.tk
  have ra:=iha hok (by simp only[Tm.tk,List.length_cons] at hF;omega)
  refine ⟨fun n d bp rest hn hd hs=>?_,fun n d bp rest f _ _ hl=>by rcases hl with h | h | h | h<;>cases h⟩
  simp only[Tm.dp] at hn hd
  obtain⟨m,rfl⟩:∃m,n=m+1:=⟨n-1,by omega⟩
  have h6:min (negL a) 6=6:=by unfold negL;split<;>rfl
  have ha:=iY hok ra (negL a) (by unfold negL;split<;>omega) m (d+1) bp rest (by omega) (by omega) (by rw[h6];exact hs)
  rw[h6] at ha
  obtain⟨x,X,hX,hX3⟩:=EZ a hok
  show dF (lJ F (m+1)).fc (lJ F (m+1)).ex (RR d bp (aJ [45]::(ji (negL a) a.lv a.tk++rest)))=_
  unfold dF
  rw[aH (show jF (RR d bp (aJ [45]::(ji (negL a) a.lv a.tk++rest)))=(false,RR d bp (aJ [45]::(ji (negL a) a.lv a.tk++rest))) from rfl),if_neg (by decide)]
  unfold iD
  rw[if_pos ⟨by rw[xL,List.headD_cons];decide,by rw[hX];exact hX3⟩,F6]
  unfold aB
  rw[qV (by omega) (show (lJ F (m+1)).fc _=_ from ha)]
  rfl
 |
  nul a iha =>
  intro hok hF
  have hok:a.ok:=hok
  have hla:=iL 4 a.lv a.tk
  have ra:=iha hok (by simp only[Tm.tk,List.length_append] at hF;omega)
  refine ⟨fun n d bp rest hn hd hs=>?_,fun n d bp rest f _ _ hl=>by rcases hl with h | h | h | h<;>cases h⟩
  have ha:=iY hok ra 4 (by omega) n d bp (isK::vD::rest) hn hd (show ∀s∈jP 4,iU isK s=false by decide)
  show iB (qB F (lJ F n)) (RR d bp (ji 4 a.lv a.tk++[isK,vD]++rest))=_
  rw[show ji 4 a.lv a.tk++[isK,vD]++rest=ji 4 a.lv a.tk++isK::vD::rest by simp]
  unfold iB aB
  rw[show qB F (lJ F n) _=_ from ha]
  rfl
 |
  nnul a iha =>
  intro hok hF
  have hok:a.ok:=hok
  have hla:=iL 4 a.lv a.tk
  have ra:=iha hok (by simp only[Tm.tk,List.length_append] at hF;omega)
  refine ⟨fun n d bp rest hn hd hs=>?_,fun n d bp rest f _ _ hl=>by rcases hl with h | h | h | h<;>cases h⟩
  have ha:=iY hok ra 4 (by omega) n d bp (isK::A8::vD::rest) hn hd (show ∀s∈jP 4,iU isK s=false by decide)
  show iB (qB F (lJ F n)) (RR d bp (ji 4 a.lv a.tk++[isK,A8,vD]++rest))=_
  rw[show ji 4 a.lv a.tk++[isK,A8,vD]++rest=ji 4 a.lv a.tk++isK::A8::vD::rest by simp]
  unfold iB aB
  rw[show qB F (lJ F n) _=_ from ha]
  rfl
theorem Dx (t:Tm) (hok:t.ok) (F:Nat) (hF:t.tk.length≤F) (hd:t.dp≤10) (bp:Int) (rest:List Tk) (hs:Stops 0 rest):dG F (RR 0 bp (t.tk++rest))=(t.ex,RR 0 bp rest):=by
 have:=iY hok (Ag F t hok hF) 0 (by omega) 11 0 bp rest (by show (if 0≤t.lv then t.dp else t.dp+1)≤11;rw[if_pos (Nat.zero_le _)];omega) (by show 0+((if 0≤t.lv then t.dp else t.dp+1:Nat):Int)≤10;rw[if_pos (Nat.zero_le _)];omega) hs
 have e:ji 0 t.lv t.tk=t.tk:=if_pos (Nat.zero_le _)
 rw[e] at this
 exact this
end Go.Proofs.YtaaggohjmhifbaaGreatDoor
