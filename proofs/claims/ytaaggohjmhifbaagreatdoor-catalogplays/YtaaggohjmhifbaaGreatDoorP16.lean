/- Packed for the hand-in: WPure -/
import Derived.Test.YtaaggohjmhifbaaGreatDoorP08
namespace Go.Proofs.YtaaggohjmhifbaaGreatDoor
set_option linter.unusedSimpArgs false
set_option linter.unusedVariables false
set_option maxHeartbeats 8000000
def nameOk (s:List UInt8):Bool:=decide (0<s.length)&&(decide (s.length≤16)&&(inS lowsB (s.headD 0)&&decide (row (inS nameB) s=s.length)))
def valOk (v:Vl):Bool:=decide (rightV v=0)&&decide (-9223372036854775807≤v.n∧v.n≤9223372036854775807)
def fxT (s:List UInt8):Tk:=if 65≤s.headD 0∧s.headD 0≤90 then ⟨2,s,0,0⟩ else ⟨5,s,0,0⟩
def nmT (s:List UInt8):Tk:=⟨1,s,0,0⟩
def nuT (n:Int):Tk:=⟨3,[],n,0⟩
def txT (s:List UInt8):Tk:=⟨4,s,0,0⟩
inductive Tm where
 | val (v:Vl)
 | col (t n:List UInt8)
 | op (o:Int) (a b:Tm)
 | not (a:Tm)
 | neg (a:Tm)
 | nul (a:Tm)
 | nnul (a:Tm)
def Tm.ex:Tm→Ex
 | .val v=>exVal v
 | .col t n=>exCol t n
 | .op o a b=>exOp o a.ex b.ex
 | .not a=>exOf 4 a.ex
 | .neg a=>exOf 5 a.ex
 | .nul a=>exOf 6 a.ex
 | .nnul a=>exOf 4 (exOf 6 a.ex)
def opTab:List (List UInt8 × Nat):=[([],0),([79,82],0),([65,78,68],1),([61],3),([60,62],3),([60],3),([60,61],3),([62],3),([62,61],3),([43],4),([45],4),([42],5),([47],5),([37],5)]
def opTx (o:Int):List UInt8:=(opTab.getD o.toNat ([],0)).1
def opLv (o:Int):Nat:=(opTab.getD o.toNat ([],0)).2
def opL (o:Int):Nat:=if opLv o=3 then 4 else opLv o
def Tm.isNul:Tm→Bool
 | .nul _=>true
 | _=>false
def Tm.isNum:Tm→Bool
 | .val v=>decide (v.k=1)&&decide (0≤v.n)
 | _=>false
def Tm.lv:Tm→Nat
 | .op o _ _=>opLv o
 | .nul _=>3
 | .nnul _=>3
 | .not _=>2
 | _=>6
def litK (v:Vl):List Tk:=if v.k=2 then [txT v.s] else if v.k=0 then [fxT [78,85,76,76]] else if v.n<0 then [fxT [45],nuT (-v.n)] else [nuT v.n]
def atK (l lv:Nat) (ts:List Tk):List Tk:=if l≤lv then ts else fxT [40]::(ts++[fxT [41]])
def atD (l lv d:Nat):Nat:=if l≤lv then d else d+1
def negL (a:Tm):Nat:=if a.isNum=true then 7 else 6
def isK:Tk:=fxT [73,83]
def notK:Tk:=fxT [78,79,84]
def nulK:Tk:=fxT [78,85,76,76]
def Tm.tk:Tm→List Tk
 | .val v=>litK v
 | .col t n=>if t=[] then [nmT n] else [nmT t,fxT [46],nmT n]
 | .op o a b=>atK (opL o) a.lv a.tk++fxT (opTx o)::atK (opLv o+1) b.lv b.tk
 | .not a=>notK::atK 2 a.lv a.tk
 | .neg a=>fxT [45]::atK (negL a) a.lv a.tk
 | .nul a=>atK 4 a.lv a.tk++[isK,nulK]
 | .nnul a=>atK 4 a.lv a.tk++[isK,notK,nulK]
def Tm.dp:Tm→Nat
 | .val _=>0
 | .col _ _=>0
 | .op o a b=>max (atD (opL o) a.lv a.dp) (atD (opLv o+1) b.lv b.dp)
 | .not a=>atD 2 a.lv a.dp+1
 | .neg a=>atD (negL a) a.lv a.dp+1
 | .nul a=>atD 4 a.lv a.dp
 | .nnul a=>atD 4 a.lv a.dp
def Tm.ok:Tm→Prop
 | .val v=>valOk v=true
 | .col t n=>nameOk n=true∧(t=[]∨nameOk t=true)
 | .op o a b=>1≤o∧o≤13∧a.ok∧b.ok
 | .not a=>a.isNul=false∧a.ok
 | .neg a=>a.ok
 | .nul a=>a.ok
 | .nnul a=>a.ok
def Tm.sz:Tm→Nat
 | .val _=>1
 | .col _ _=>1
 | .op _ a b=>a.sz+b.sz+1
 | .not a=>a.sz+1
 | .neg a=>a.sz+1
 | .nul a=>a.sz+1
 | .nnul a=>a.sz+2
theorem atK_len (l lv:Nat) (ts:List Tk):ts.length≤(atK l lv ts).length∧(atK l lv ts).length≤ts.length+2:=by
 unfold atK
 split
 ·omega
 ·simp only[List.length_cons,List.length_append,List.length_nil];omega
theorem litK_len (v:Vl):1≤(litK v).length∧(litK v).length≤2:=by
 unfold litK
 split
 ·simp
 ·split
  ·simp
  ·split<;>simp
theorem sz_pos (t:Tm):1≤t.sz:=by cases t<;>simp[Tm.sz]
theorem tk_len (t:Tm):1≤t.tk.length∧t.tk.length+2≤8*t.sz:=by
 induction t with
 | val v=>have:=litK_len v;simp only[Tm.tk,Tm.sz];omega
 | col t n=>simp only[Tm.tk,Tm.sz];split<;>simp
 |
  op o a b ha hb =>
  have h1:=atK_len (opL o) a.lv a.tk
  have h2:=atK_len (opLv o+1) b.lv b.tk
  simp only[Tm.tk,Tm.sz,List.length_append,List.length_cons]
  omega
 | not a ha=>have h1:=atK_len 2 a.lv a.tk;simp only[Tm.tk,Tm.sz,List.length_cons];omega
 | neg a ha=>have h1:=atK_len (negL a) a.lv a.tk;simp only[Tm.tk,Tm.sz,List.length_cons];omega
 | nul a ha=>have h1:=atK_len 4 a.lv a.tk;simp only[Tm.tk,Tm.sz,List.length_append,List.length_cons,List.length_nil];omega
 | nnul a ha=>have h1:=atK_len 4 a.lv a.tk;simp only[Tm.tk,Tm.sz,List.length_append,List.length_cons,List.length_nil];omega
theorem atD_le (l lv d:Nat):d≤atD l lv d∧atD l lv d≤d+1:=by unfold atD;split<;>omega
theorem dp_le (t:Tm):t.dp+2≤2*t.sz:=by
 induction t with
 | val v=>simp[Tm.dp,Tm.sz]
 | col t n=>simp[Tm.dp,Tm.sz]
 |
  op o a b ha hb =>
  have h1:=atD_le (opL o) a.lv a.dp
  have h2:=atD_le (opLv o+1) b.lv b.dp
  have h3:=sz_pos a
  have h4:=sz_pos b
  simp only[Tm.dp,Tm.sz]
  omega
 | not a ha=>have h1:=atD_le 2 a.lv a.dp;simp only[Tm.dp,Tm.sz];omega
 | neg a ha=>have h1:=atD_le (negL a) a.lv a.dp;simp only[Tm.dp,Tm.sz];omega
 | nul a ha=>have h1:=atD_le 4 a.lv a.dp;simp only[Tm.dp,Tm.sz];omega
 | nnul a ha=>have h1:=atD_le 4 a.lv a.dp;simp only[Tm.dp,Tm.sz];omega
def isT (t:Tk) (s:List UInt8):Bool:=(t.k==2||t.k==5)&&t.s==s
abbrev RR (d bp:Int) (ts:List Tk):Rd:=⟨ts,d,0,bp⟩
theorem isR_RR (d bp:Int) (ts:List Tk) (s:List UInt8):isR s (RR d bp ts)=isT (ts.headD zTk) s:=rfl
theorem nextR_RR (d bp:Int) (t:Tk) (ts:List Tk):nextR (RR d bp (t::ts))=RR d bp ts:=rfl
theorem bind_at {α β:Type} {p:Pa α} {q:α→Pa β} {r r1:Rd} {x:α} (h:p r=(x,r1)):bindP p q r=q x r1:=by
 unfold bindP;rw[h]
theorem if_yes {α:Type} {d bp:Int} {t:Tk} {ts:List Tk} {s:List UInt8} (y m:Pa α) (h:isT t s=true):ifP s y m (RR d bp (t::ts))=y (RR d bp ts):=by
 unfold ifP
 rw[isR_RR,List.headD_cons,if_pos h]
 rfl
theorem if_no {α:Type} {d bp:Int} {ts:List Tk} {s:List UInt8} (y m:Pa α) (h:isT (ts.headD zTk) s=false):ifP s y m (RR d bp ts)=m (RR d bp ts):=by
 unfold ifP
 rw[isR_RR,if_neg (by rw[h];exact Bool.false_ne_true)]
theorem choose_no {d bp:Int} {ts:List Tk}:∀ops:List (List UInt8 × Int),(∀c∈ops,isT (ts.headD zTk) c.1=false)→chooseP ops (RR d bp ts)=(0,RR d bp ts)
 | [],_=>rfl
 |
  c::ops,h=>by
  unfold chooseP
  rw[if_no _ _ (h c (by simp))]
  exact choose_no ops (fun x hx=>h x (by simp[hx]))
def barred (l:Nat):List (List UInt8) :=
 [46]::((if l≤5 then [[42],[47],[37]] else [])++((if l≤4 then [[43],[45]] else [])++((if l≤3 then [[73,83],[61],[60,62],[60],[60,61],[62],[62,61]] else [])++((if l≤1 then [[65,78,68]] else [])++(if l=0 then [[79,82]] else [])))))
def Stops (l:Nat) (rest:List Tk):Prop:=∀s∈barred l,isT (rest.headD zTk) s=false
theorem Stops.up {l m:Nat} {rest:List Tk} (h:Stops l rest) (hm:l≤m):Stops m rest:=fun s hs=>h s (by
 unfold barred at hs ⊢
 rw[List.mem_cons] at hs ⊢
 rcases hs with hs | hs
 ·exact .inl hs
 ·right
  simp only[List.mem_append] at hs ⊢
  rcases hs with hs | hs | hs | hs | hs
  ·left;split at hs
   ·rw[if_pos (by omega)];exact hs
   ·cases hs
  ·right;left;split at hs
   ·rw[if_pos (by omega)];exact hs
   ·cases hs
  ·right;right;left;split at hs
   ·rw[if_pos (by omega)];exact hs
   ·cases hs
  ·right;right;right;left;split at hs
   ·rw[if_pos (by omega)];exact hs
   ·cases hs
  ·right;right;right;right;split at hs
   ·rw[if_pos (by omega)];exact hs
   ·cases hs)
def Pl (F n:Nat):Nat→Pa Ex
 | 0=>exprQ F (lev F n)
 | 1=>andP F (lev F n)
 | 2=>notQ F (lev F n)
 | 3=>testP (sumP F (lev F n))
 | 4=>sumP F (lev F n)
 | 5=>termP F (lev F n)
 | _=>factorP (lev F n).fc (lev F n).ex
theorem rowK_stop {below:Pa Ex} {ops:List (List UInt8 × Int)} {d bp:Int} {ts:List Tk} (e:Ex) (h : ∀c∈ops,isT (ts.headD zTk) c.1=false):∀f,rowL below ops f e (RR d bp ts)=(e,RR d bp ts)
 | 0=>rfl
 |
  f+1=>by
  unfold rowL bindP
  rw[choose_no ops h]
  rfl
theorem rowP_stop {below:Pa Ex} {ops:List (List UInt8 × Int)} {d bp:Int} {ts rest:List Tk} {e:Ex} {f:Nat} (hb:below (RR d bp ts)=(e,RR d bp rest)) (h : ∀c∈ops,isT (rest.headD zTk) c.1=false):rowP f below ops (RR d bp ts)=(e,RR d bp rest):=by
 unfold rowP bindP
 rw[hb]
 exact rowK_stop e h f
theorem pl_down {F n l:Nat} {d bp:Int} {ts rest:List Tk} {e:Ex} (hl:l<6) (h:Pl F n (l+1) (RR d bp ts)=(e,RR d bp rest)) (hs:Stops l rest) (hn:l=2→isT (ts.headD zTk) [78,79,84]=false):Pl F n l (RR d bp ts)=(e,RR d bp rest):=by
 have hb : ∀c,c∈barred l→isT (rest.headD zTk) c=false:=hs
 match l,hl,h,hb,hn with
 | 0,_,h,hb,_=>exact rowP_stop h (fun c hc=>hb _ (by revert c;decide))
 | 1,_,h,hb,_=>exact rowP_stop h (fun c hc=>hb _ (by revert c;decide))
 | 2,_,h,hb,hn=>exact (if_no _ _ (hn rfl)).trans h
 |
  3,_,h,hb,_ =>
  show testP (sumP F (lev F n)) _=_
  unfold testP bindP
  rw[show sumP F (lev F n) (RR d bp ts)=(e,RR d bp rest) from h]
  dsimp only
  rw[if_no _ _ (hb _ (by decide))]
  rw[choose_no _ (fun c hc=>hb _ (by revert c;decide))]
  rfl
 | 4,_,h,hb,_=>exact rowP_stop h (fun c hc=>hb _ (by revert c;decide))
 | 5,_,h,hb,_=>exact rowP_stop h (fun c hc=>hb _ (by revert c;decide))
theorem pl_downs {F n:Nat} {d bp:Int} {ts rest:List Tk} {e:Ex} (L:Nat) (hL:L≤6) (h:Pl F n L (RR d bp ts)=(e,RR d bp rest)):∀l,l≤L→Stops l rest→(l≤2→3≤L→isT (ts.headD zTk) [78,79,84]=false)→Pl F n l (RR d bp ts)=(e,RR d bp rest):=by
 induction L with
 | zero =>
    intro l hl _ _;obtain rfl:l=0:=by omega
    exact h
 |
  succ L ih =>
  intro l hl hs hn
  by_cases e1:l=L+1
  ·subst e1;exact h
  ·refine ih (by omega) (pl_down (by omega) h (hs.up (by omega)) (fun e2=>hn (by omega) (by omega))) l (by omega) hs (fun h1 h2=>hn h1 (by omega))
theorem tk_head (t:Tm) (hok:t.ok):∃h X,t.tk=h::X∧(3≤t.lv→isT h [78,79,84]=false):=by
 have hat : ∀(l:Nat) (a:Tm),3≤l→(∃h X,a.tk=h::X∧(3≤a.lv→isT h [78,79,84]=false))→∃h X,atK l a.lv a.tk=h::X∧isT h [78,79,84]=false:=fun l a hl ⟨h,X,e,hn⟩=>by
  unfold atK
  split
  ·rename_i hh;exact⟨h,X,e,hn (by omega)⟩
  ·exact⟨_,_,rfl,by decide⟩
 have hat0 : ∀(l:Nat) (a:Tm),(∃h X,a.tk=h::X∧(3≤a.lv→isT h [78,79,84]=false))→∃h X,atK l a.lv a.tk=h::X:=fun l a ⟨h,X,e,hn⟩=>by
  unfold atK
  split
  ·exact⟨h,X,e⟩
  ·exact⟨_,_,rfl⟩
 induction t with
 |
  val v =>
  simp only[Tm.tk,litK]
  split
  ·exact⟨_,_,rfl,fun _=>rfl⟩
  ·split
   ·exact⟨_,_,rfl,fun _=>by decide⟩
   ·split
    ·exact⟨_,_,rfl,fun _=>by decide⟩
    ·exact⟨_,_,rfl,fun _=>rfl⟩
 |
  col t n =>
  simp only[Tm.tk]
  split
  ·exact⟨_,_,rfl,fun _=>rfl⟩
  ·exact⟨_,_,rfl,fun _=>rfl⟩
 |
  op o a b ha hb =>
  simp only[Tm.tk]
  by_cases h3:3≤opL o
  ·obtain⟨h,X,e,hn⟩:=hat (opL o) a h3 (ha hok.2.2.1)
   rw[e];exact⟨_,_,rfl,fun _=>hn⟩
  ·obtain⟨h,X,e⟩:=hat0 (opL o) a (ha hok.2.2.1)
   rw[e]
   refine ⟨_,_,rfl,fun hh=>absurd ?_ h3⟩
   show 3≤opL o
   unfold opL
   have:3≤opLv o:=hh
   split<;>omega
 | not a ha=>exact⟨_,_,rfl,fun h=>absurd (show 3≤2 from h) (by decide)⟩
 | neg a ha=>exact⟨_,_,rfl,fun _=>by decide⟩
 |
  nul a ha =>
  obtain⟨h,X,e,hn⟩:=hat 4 a (by decide) (ha hok)
  simp only[Tm.tk]
  rw[e];exact⟨_,_,rfl,fun _=>hn⟩
 |
  nnul a ha =>
  obtain⟨h,X,e,hn⟩:=hat 4 a (by decide) (ha hok)
  simp only[Tm.tk]
  rw[e];exact⟨_,_,rfl,fun _=>hn⟩
theorem neg_head (a:Tm) (hok:a.ok):∃h X,atK (negL a) a.lv a.tk=h::X∧h.k≠3:=by
 unfold atK
 split
 ·rename_i hl
  have hn:a.isNum=false:=by
   cases h:a.isNum with
   | false=>rfl
   |
    true =>
    exfalso
    unfold negL at hl
    rw[if_pos h] at hl
    cases a with
    | val v=>have:(7:Nat)≤6:=hl;omega
    | _=>simp[Tm.isNum] at h
  unfold negL at hl
  rw[hn] at hl
  have hl:6≤a.lv:=hl
  cases a with
  |
   val v =>
   simp only[Tm.tk,litK]
   split
   ·exact⟨_,_,rfl,by show (4:Int)≠3;decide⟩
   ·rename_i h2
    split
    ·exact⟨_,_,rfl,by decide⟩
    ·rename_i h0
     have hk:v.k=1:=by
      have hv:valOk v=true:=hok
      unfold valOk at hv
      simp only[Bool.and_eq_true,decide_eq_true_eq] at hv
      have hr:=hv.1
      unfold rightV at hr
      by_cases he:eqv v (namedV v)=false
      ·rw[if_pos he] at hr;cases hr
      ·have he:=eqv_iff.1 (by simpa using he)
       unfold namedV at he
       by_cases h1:v.k=1
       ·exact h1
       ·rw[if_neg h1,if_neg h2] at he
        exact absurd (congrArg Vl.k he) h0
     split
     ·exact⟨_,_,rfl,by decide⟩
     ·rename_i hneg
      simp[Tm.isNum,hk] at hn
      omega
  |
   col t n =>
   simp only[Tm.tk]
   split
   ·exact⟨_,_,rfl,by show (1:Int)≠3;decide⟩
   ·exact⟨_,_,rfl,by show (1:Int)≠3;decide⟩
  |
   op o b c =>
   exfalso
   have hl:6≤opLv o:=hl
   obtain⟨h1,h2,_⟩:=hok
   have : ∀k:Nat,k≤13→(opTab.getD k ([],0)).2≤5:=by decide
   have:=this o.toNat (by omega)
   unfold opLv at hl
   omega
  | not b=>exfalso;have:(6:Nat)≤2:=hl;omega
  | neg b=>exact⟨_,_,rfl,by decide⟩
  | nul b=>exfalso;have:(6:Nat)≤3:=hl;omega
  | nnul b=>exfalso;have:(6:Nat)≤3:=hl;omega
 ·exact⟨_,_,rfl,by decide⟩
theorem val_kind {v:Vl} (hv:valOk v=true):(v.k=2∧v.n=0∧v.s.length≤40)∨(v.k=0∧v.n=0∧v.s=[])∨(v.k=1∧v.s=[]∧-9223372036854775807≤v.n∧v.n≤9223372036854775807):=by
 unfold valOk at hv
 simp only[Bool.and_eq_true,decide_eq_true_eq] at hv
 obtain⟨hr,hm⟩:=hv
 unfold rightV at hr
 by_cases he:eqv v (namedV v)=false
 ·rw[if_pos he] at hr;cases hr
 ·rw[if_neg he] at hr
  have he:=eqv_iff.1 (by simpa using he)
  have hlen:v.s.length≤40:=by
   by_cases h:40<v.s.length
   ·rw[if_pos h] at hr;cases hr
   ·omega
  unfold namedV at he
  by_cases h1:v.k=1
  ·rw[if_pos h1] at he;exact .inr (.inr ⟨h1,congrArg Vl.s he,hm⟩)
  ·rw[if_neg h1] at he
   by_cases h2:v.k=2
   ·rw[if_pos h2] at he;exact .inl ⟨h2,congrArg Vl.n he,hlen⟩
   ·rw[if_neg h2] at he;exact .inr (.inl ⟨congrArg Vl.k he,congrArg Vl.n he,congrArg Vl.s he⟩)
theorem lit_read {v:Vl} (hv:valOk v=true) (d bp:Int) (rest:List Tk):litP (RR d bp (litK v++rest))=(v,RR d bp rest):=by
 obtain⟨k,n,s⟩:=v
 rcases val_kind hv with⟨h1,h2,h3⟩ | ⟨h1,h2,h3⟩ | ⟨h1,h2,h3⟩
 ·dsimp only at h1 h2;subst h1 h2
  rfl
 ·dsimp only at h1 h2 h3;subst h1 h2 h3
  rfl
 ·dsimp only at h1 h2;subst h1 h2
  have e:litK ⟨1,n,[]⟩=if n<0 then [fxT [45],nuT (-n)] else [nuT n]:=rfl
  rw[e]
  by_cases hn:n<0
  ·rw[if_pos hn]
   show ((⟨1,- -n,[]⟩:Vl),RR d bp rest)=_
   rw[Int.neg_neg]
  ·rw[if_neg hn]
   rfl
theorem lit_head {v:Vl} (hv:valOk v=true) (d bp:Int) (rest:List Tk) (yes no:Pa Ex):isNameP (RR d bp (litK v++rest))=(false,RR d bp (litK v++rest))∧minusP yes no (RR d bp (litK v++rest))=no (RR d bp (litK v++rest))∧isT ((litK v++rest).headD zTk) [40]=false:=by
 obtain⟨k,n,s⟩:=v
 rcases val_kind hv with⟨h1,h2,h3⟩ | ⟨h1,h2,h3⟩ | ⟨h1,h2,h3⟩
 ·dsimp only at h1 h2;subst h1 h2
  exact⟨rfl,rfl,rfl⟩
 ·dsimp only at h1 h2 h3;subst h1 h2 h3
  exact⟨rfl,rfl,by show isT (fxT [78,85,76,76]) [40]=false;decide⟩
 ·dsimp only at h1 h2;subst h1 h2
  have e:litK ⟨1,n,[]⟩=if n<0 then [fxT [45],nuT (-n)] else [nuT n]:=rfl
  rw[e]
  by_cases hn:n<0
  ·rw[if_pos hn]
   refine ⟨rfl,?_,by show isT (fxT [45]) [40]=false;decide⟩
   unfold minusP
   rw[if_neg (fun h=>h.2 rfl)]
  ·rw[if_neg hn]
   exact⟨rfl,rfl,rfl⟩
theorem deep_read {α:Type} {p:Pa α} {d bp:Int} {ts rest:List Tk} {x:α} (hd:d+1≤10) (h:p (RR (d+1) bp ts)=(x,RR (d+1) bp rest)):deepP p (RR d bp ts)=(x,RR d bp rest):=by
 have e:downR (RR d bp ts)=RR (d+1) bp ts:=by
  unfold downR
  rw[if_neg (by show ¬10<d+1;omega)]
 unfold deepP
 rw[e,h]
 show (x,upR (RR (d+1) bp rest))=_
 unfold upR
 show (x,(⟨rest,d+1-1,0,bp⟩:Rd))=_
 rw[show d+1-1=d by omega]
theorem must_read {d bp:Int} {t:Tk} {ts:List Tk} {s:List UInt8} (h:isT t s=true):mustP s (RR d bp (t::ts))=((),RR d bp ts):=if_yes _ _ h
theorem stops_close (l:Nat) (ts:List Tk):Stops l (fxT [41]::ts):=fun s hs=>by
 have h0 : ∀s∈barred 0,isT (fxT [41]) s=false:=by decide
 have:=Stops.up (l:=0) (m:=l) (rest:=[fxT [41]]) h0 (Nat.zero_le _)
 exact this s hs
theorem bracket_read {F n:Nat} {d bp:Int} {ts rest:List Tk} {e:Ex} (hd:d+1≤10) (h:Pl F n 0 (RR (d+1) bp (ts++fxT [41]::rest))=(e,RR (d+1) bp (fxT [41]::rest))) :
  Pl F (n+1) 6 (RR d bp (fxT [40]::(ts++[fxT [41]])++rest))=(e,RR d bp rest):=by
 show factorP (lev F (n+1)).fc (lev F (n+1)).ex _=_
 rw[show fxT [40]::(ts++[fxT [41]])++rest=fxT [40]::(ts++fxT [41]::rest) by simp]
 unfold factorP
 rw[bind_at (show isNameP (RR d bp (fxT [40]::(ts++fxT [41]::rest)))=(false,RR d bp (fxT [40]::(ts++fxT [41]::rest))) from rfl),if_neg (by decide)]
 unfold minusP
 rw[if_neg (fun h=>absurd h.1 (by rw[isR_RR,List.headD_cons];decide))]
 rw[if_yes _ _ (by decide)]
 unfold bindP
 rw[deep_read hd (show (lev F (n+1)).ex _=_ from h)]
 dsimp only
 rw[must_read (by decide)]
 rfl
def opsOf (l:Nat):List (List UInt8 × Int):=if l=0 then orsB else if l=1 then andsB else if l=4 then addsB else mulsB
theorem pl_row (F n l:Nat) (hl:l=0∨l=1∨l=4∨l=5):Pl F n l=rowP F (Pl F n (l+1)) (opsOf l):=by
 rcases hl with rfl | rfl | rfl | rfl<;>rfl
theorem op_tab (o:Int) (h1:1≤o) (h2:o≤13):o=1∨o=2∨o=3∨o=4∨o=5∨o=6∨o=7∨o=8∨o=9∨o=10∨o=11∨o=12∨o=13:=by omega
theorem op_choose (o:Int) (h1:1≤o) (h2:o≤13) (d bp:Int) (ts:List Tk):chooseP (if opLv o=3 then cmpsB else opsOf (opLv o)) (RR d bp (fxT (opTx o)::ts))=(o,RR d bp ts):=by
 rcases op_tab o h1 h2 with rfl | rfl | rfl | rfl | rfl | rfl | rfl | rfl | rfl | rfl | rfl | rfl | rfl<;>rfl
theorem op_stops (o:Int) (h1:1≤o) (h2:o≤13) (ts:List Tk):Stops (opLv o+1) (fxT (opTx o)::ts):=by
 unfold Stops
 rw[List.headD_cons]
 rcases op_tab o h1 h2 with rfl | rfl | rfl | rfl | rfl | rfl | rfl | rfl | rfl | rfl | rfl | rfl | rfl<;>decide
theorem op_lv (o:Int) (h1:1≤o) (h2:o≤13):opLv o=0∨opLv o=1∨opLv o=3∨opLv o=4∨opLv o=5:=by
 rcases op_tab o h1 h2 with rfl | rfl | rfl | rfl | rfl | rfl | rfl | rfl | rfl | rfl | rfl | rfl | rfl<;>decide
theorem op_is (o:Int) (h1:1≤o) (h2:o≤13):isT (fxT (opTx o)) [73,83]=false:=by
 rcases op_tab o h1 h2 with rfl | rfl | rfl | rfl | rfl | rfl | rfl | rfl | rfl | rfl | rfl | rfl | rfl<;>decide
theorem lv_le (t:Tm) (hok:t.ok):t.lv≤6:=by
 cases t with
 | op o a b=>have:=op_lv o hok.1 hok.2.1;show opLv o≤6;omega
 | _=>simp[Tm.lv]
theorem name_ne {s:List UInt8} (h:nameOk s=true):s≠[]:=by
 rintro rfl
 exact absurd h (by decide)
structure ReadsT (F:Nat) (t:Tm):Prop where
 own : ∀(n:Nat) (d bp:Int) (rest:List Tk),t.dp≤n→d+t.dp≤10→Stops t.lv rest→Pl F n t.lv (RR d bp (t.tk++rest))=(t.ex,RR d bp rest)
 row : ∀(n:Nat) (d bp:Int) (rest:List Tk) (f:Nat),t.dp≤n→d+t.dp≤10→(t.lv=0∨t.lv=1∨t.lv=4∨t.lv=5)→t.tk.length≤f→Stops (t.lv+1) rest →
  ∃f',f≤f'+t.tk.length∧bindP (Pl F n (t.lv+1)) (rowL (Pl F n (t.lv+1)) (opsOf t.lv) f) (RR d bp (t.tk++rest))=rowL (Pl F n (t.lv+1)) (opsOf t.lv) f' t.ex (RR d bp rest)
theorem reads_at {F:Nat} {t:Tm} (hok:t.ok) (h:ReadsT F t) (l:Nat) (hl:l≤7) (n:Nat) (d bp:Int) (rest:List Tk) (hn:atD l t.lv t.dp≤n) (hd:d+atD l t.lv t.dp≤10) (hs:Stops (min l 6) rest):Pl F n (min l 6) (RR d bp (atK l t.lv t.tk++rest))=(t.ex,RR d bp rest):=by
 have hlv:=lv_le t hok
 unfold atK atD at *
 by_cases hle:l≤t.lv
 ·rw[if_pos hle] at hn hd ⊢
  obtain⟨x,X,hX,hXn⟩:=tk_head t hok
  rw[Nat.min_eq_left (by omega)] at hs ⊢
  refine pl_downs t.lv hlv (h.own n d bp rest hn (by omega) (hs.up hle)) l hle hs (fun _ h3=>?_)
  rw[hX]
  exact hXn h3
 ·rw[if_neg hle] at hn hd ⊢
  obtain⟨m,rfl⟩:∃m,n=m+1:=⟨n-1,by omega⟩
  obtain⟨x,X,hX,hXn⟩:=tk_head t hok
  have h0:=pl_downs t.lv hlv (h.own m (d+1) bp (fxT [41]::rest) (by omega) (by omega) (stops_close _ _)) 0 (Nat.zero_le _) (stops_close _ _) (fun _ h3=>by rw[hX];exact hXn h3)
  exact pl_downs 6 (Nat.le_refl _) (bracket_read (by omega) h0) (min l 6) (Nat.min_le_right _ _) hs (fun _ _=>by show isT (fxT [40]) _=false;decide)
theorem reads_row {F:Nat} {t:Tm} (hok:t.ok) (h:ReadsT F t) (l:Nat) (hl:l=0∨l=1∨l=4∨l=5) (n:Nat) (d bp:Int) (rest:List Tk) (f:Nat) (hn:atD l t.lv t.dp≤n) (hd:d+atD l t.lv t.dp≤10) (hf:(atK l t.lv t.tk).length≤f) (hs:Stops (l+1) rest) :
  ∃f',f≤f'+(atK l t.lv t.tk).length∧bindP (Pl F n (l+1)) (rowL (Pl F n (l+1)) (opsOf l) f) (RR d bp (atK l t.lv t.tk++rest))=rowL (Pl F n (l+1)) (opsOf l) f' t.ex (RR d bp rest):=by
 by_cases hle:l=t.lv
 ·subst hle
  have e1:atK t.lv t.lv t.tk=t.tk:=if_pos (Nat.le_refl _)
  have e2:atD t.lv t.lv t.dp=t.dp:=if_pos (Nat.le_refl _)
  rw[e1] at hf ⊢
  rw[e2] at hn hd
  exact h.row n d bp rest f hn hd hl hf hs
 ·have e1:atK l t.lv t.tk=atK (l+1) t.lv t.tk:=by
   unfold atK
   by_cases h2:l≤t.lv
   ·rw[if_pos h2,if_pos (by omega)]
   ·rw[if_neg h2,if_neg (by omega)]
  have e2:atD l t.lv t.dp=atD (l+1) t.lv t.dp:=by
   unfold atD
   by_cases h2:l≤t.lv
   ·rw[if_pos h2,if_pos (by omega)]
   ·rw[if_neg h2,if_neg (by omega)]
  have hm:min (l+1) 6=l+1:=Nat.min_eq_left (by omega)
  have:=reads_at hok h (l+1) (by omega) n d bp rest (by rw[← e2];exact hn) (by rw[← e2];exact hd) (by rw[hm];exact hs)
  rw[hm,← e1] at this
  refine ⟨f,by omega,?_⟩
  unfold bindP
  rw[this]
theorem readsT_all (F:Nat):∀t:Tm,t.ok→t.tk.length≤F→ReadsT F t:=by
 intro t
 induction t with
 |
  val v =>
  intro hok _
  refine ⟨fun n d bp rest _ _ _=>?_,fun n d bp rest f _ _ hl=>by rcases hl with h | h | h | h<;>cases h⟩
  show factorP (lev F n).fc (lev F n).ex (RR d bp (litK v++rest))=_
  unfold factorP bindP
  rw[(lit_head hok d bp rest (retP zEx) (retP zEx)).1]
  dsimp only
  rw[if_neg (by decide),(lit_head hok d bp rest _ _).2.1,if_no _ _ (lit_head hok d bp rest (retP zEx) (retP zEx)).2.2,lit_read hok]
  rfl
 |
  col t n =>
  intro hok _
  refine ⟨fun m d bp rest _ _ hs=>?_,fun n d bp rest f _ _ hl=>by rcases hl with h | h | h | h<;>cases h⟩
  have h46:isT (rest.headD zTk) [46]=false:=hs _ (by unfold barred;simp)
  show factorP (lev F m).fc (lev F m).ex (RR d bp ((if t=[] then [nmT n] else [nmT t,fxT [46],nmT n])++rest))=_
  by_cases ht:t=[]
  ·subst ht
   rw[if_pos rfl]
   show colP (RR d bp (nmT n::rest))=_
   show (ifP [46] (bindP nameP fun m=>retP (exCol n m)) (retP (exCol [] n))) (RR d bp rest)=_
   rw[if_no _ _ h46]
   rfl
  ·rw[if_neg ht]
   show colP (RR d bp (nmT t::fxT [46]::nmT n::rest))=_
   show (ifP [46] (bindP nameP fun m=>retP (exCol t m)) (retP (exCol [] t))) (RR d bp (fxT [46]::nmT n::rest))=_
   rw[if_yes _ _ (by decide)]
   rfl
 |
  op o a b iha ihb =>
  intro hok hF
  obtain⟨h1,h2,hoka,hokb⟩:=hok
  have hF':(atK (opL o) a.lv a.tk).length+((atK (opLv o+1) b.lv b.tk).length+1)≤F:=by
   have:=hF
   simp only[Tm.tk,List.length_append,List.length_cons] at this
   omega
  have hla:=atK_len (opL o) a.lv a.tk
  have hlb:=atK_len (opLv o+1) b.lv b.tk
  have ra:=iha hoka (by omega)
  have rb:=ihb hokb (by omega)
  have hrow : ∀(n:Nat) (d bp:Int) (rest:List Tk) (f:Nat),(Tm.op o a b).dp≤n→d+(Tm.op o a b).dp≤10→(opLv o=0∨opLv o=1∨opLv o=4∨opLv o=5)→(Tm.op o a b).tk.length≤f→Stops (opLv o+1) rest →
    ∃f',f≤f'+(Tm.op o a b).tk.length∧bindP (Pl F n (opLv o+1)) (rowL (Pl F n (opLv o+1)) (opsOf (opLv o)) f) (RR d bp ((Tm.op o a b).tk++rest))=rowL (Pl F n (opLv o+1)) (opsOf (opLv o)) f' (Tm.op o a b).ex (RR d bp rest):=by
   intro n d bp rest f hn hd hl hf hs
   have e3:opL o=opLv o:=if_neg (by omega)
   simp only[Tm.tk,List.length_append,List.length_cons] at hf ⊢
   simp only[Tm.dp] at hn hd
   rw[e3] at hf hn hd ⊢
   obtain⟨f',hf',e⟩:=reads_row hoka ra (opLv o) hl n d bp (fxT (opTx o)::(atK (opLv o+1) b.lv b.tk++rest)) f (by omega) (by omega) (by omega) (op_stops o h1 h2 _)
   obtain⟨f2,rfl⟩:∃f2,f'=f2+1:=⟨f'-1,by omega⟩
   refine ⟨f2,by omega,?_⟩
   rw[show atK (opLv o) a.lv a.tk++fxT (opTx o)::atK (opLv o+1) b.lv b.tk++rest=atK (opLv o) a.lv a.tk++fxT (opTx o)::(atK (opLv o+1) b.lv b.tk++rest) by simp,e]
   have hc:=op_choose o h1 h2 d bp (atK (opLv o+1) b.lv b.tk++rest)
   rw[if_neg (by omega)] at hc
   have hb:=reads_at hokb rb (opLv o+1) (by omega) n d bp rest (by omega) (by omega) (by rw[Nat.min_eq_left (by omega)];exact hs)
   rw[Nat.min_eq_left (by omega)] at hb
   show (bindP (chooseP _) _) _=_
   unfold bindP
   rw[hc]
   dsimp only
   rw[if_neg (by omega),hb]
   rfl
  refine ⟨fun n d bp rest hn hd hs=>?_,hrow⟩
  by_cases h3:opLv o=3
  ·have e3:opL o=4:=if_pos h3
   simp only[Tm.dp] at hn hd
   have hs3:Stops 3 rest:=by have:=hs;simp only[Tm.lv] at this;rw[h3] at this;exact this
   show Pl F n (opLv o) (RR d bp (atK (opL o) a.lv a.tk++fxT (opTx o)::atK (opLv o+1) b.lv b.tk++rest))=_
   rw[e3,h3,show (3+1:Nat)=4 from rfl] at hn hd ⊢
   have ha:=reads_at hoka ra 4 (by omega) n d bp (fxT (opTx o)::(atK 4 b.lv b.tk++rest)) (by omega) (by omega) (by have:=op_stops o h1 h2 (atK 4 b.lv b.tk++rest);rw[h3] at this;exact this)
   have hb:=reads_at hokb rb 4 (by omega) n d bp rest (by omega) (by omega) (hs3.up (by omega))
   have hc:=op_choose o h1 h2 d bp (atK 4 b.lv b.tk++rest)
   rw[if_pos h3] at hc
   show testP (sumP F (lev F n)) _=_
   rw[show atK 4 a.lv a.tk++fxT (opTx o)::atK 4 b.lv b.tk++rest=atK 4 a.lv a.tk++fxT (opTx o)::(atK 4 b.lv b.tk++rest) by simp]
   unfold testP bindP
   rw[show sumP F (lev F n) _=_ from ha]
   dsimp only
   rw[if_no (ts:=fxT (opTx o)::(atK 4 b.lv b.tk++rest)) _ _ (op_is o h1 h2),hc]
   dsimp only
   rw[if_neg (by omega),show sumP F (lev F n) _=_ from hb]
   rfl
  ·have hl:opLv o=0∨opLv o=1∨opLv o=4∨opLv o=5:=by have:=op_lv o h1 h2;omega
   obtain⟨f',_,e⟩:=hrow n d bp rest F hn hd hl hF (hs.up (Nat.le_succ _))
   show Pl F n (opLv o) _=_
   rw[pl_row F n _ hl]
   show bindP _ _ _=_
   rw[e]
   refine rowK_stop _ (fun c hc=>hs _ ?_) f'
   show c.1∈barred (opLv o)
   revert c
   rcases hl with h | h | h | h<;>rw[h]<;>decide
 |
  not a iha =>
  intro hok hF
  have hla:=atK_len 2 a.lv a.tk
  have ra:=iha hok.2 (by simp only[Tm.tk,List.length_cons] at hF;omega)
  refine ⟨fun n d bp rest hn hd hs=>?_,fun n d bp rest f _ _ hl=>by rcases hl with h | h | h | h<;>cases h⟩
  simp only[Tm.dp] at hn hd
  obtain⟨m,rfl⟩:∃m,n=m+1:=⟨n-1,by omega⟩
  have ha:=reads_at hok.2 ra 2 (by omega) m (d+1) bp rest (by omega) (by omega) hs
  show notP (lev F (m+1)).nt (testP (sumP F (lev F (m+1)))) (RR d bp (notK::(atK 2 a.lv a.tk++rest)))=_
  unfold notP
  rw[if_yes _ _ (by decide)]
  unfold bindP
  rw[deep_read (by omega) (show (lev F (m+1)).nt _=_ from ha)]
  rfl
 |
  neg a iha =>
  intro hok hF
  have hok:a.ok:=hok
  have hla:=atK_len (negL a) a.lv a.tk
  have ra:=iha hok (by simp only[Tm.tk,List.length_cons] at hF;omega)
  refine ⟨fun n d bp rest hn hd hs=>?_,fun n d bp rest f _ _ hl=>by rcases hl with h | h | h | h<;>cases h⟩
  simp only[Tm.dp] at hn hd
  obtain⟨m,rfl⟩:∃m,n=m+1:=⟨n-1,by omega⟩
  have h6:min (negL a) 6=6:=by unfold negL;split<;>rfl
  have ha:=reads_at hok ra (negL a) (by unfold negL;split<;>omega) m (d+1) bp rest (by omega) (by omega) (by rw[h6];exact hs)
  rw[h6] at ha
  obtain⟨x,X,hX,hX3⟩:=neg_head a hok
  show factorP (lev F (m+1)).fc (lev F (m+1)).ex (RR d bp (fxT [45]::(atK (negL a) a.lv a.tk++rest)))=_
  unfold factorP
  rw[bind_at (show isNameP (RR d bp (fxT [45]::(atK (negL a) a.lv a.tk++rest)))=(false,RR d bp (fxT [45]::(atK (negL a) a.lv a.tk++rest))) from rfl),if_neg (by decide)]
  unfold minusP
  rw[if_pos ⟨by rw[isR_RR,List.headD_cons];decide,by rw[hX];exact hX3⟩,nextR_RR]
  unfold bindP
  rw[deep_read (by omega) (show (lev F (m+1)).fc _=_ from ha)]
  rfl
 |
  nul a iha =>
  intro hok hF
  have hok:a.ok:=hok
  have hla:=atK_len 4 a.lv a.tk
  have ra:=iha hok (by simp only[Tm.tk,List.length_append] at hF;omega)
  refine ⟨fun n d bp rest hn hd hs=>?_,fun n d bp rest f _ _ hl=>by rcases hl with h | h | h | h<;>cases h⟩
  have ha:=reads_at hok ra 4 (by omega) n d bp (isK::nulK::rest) hn hd (show ∀s∈barred 4,isT isK s=false by decide)
  show testP (sumP F (lev F n)) (RR d bp (atK 4 a.lv a.tk++[isK,nulK]++rest))=_
  rw[show atK 4 a.lv a.tk++[isK,nulK]++rest=atK 4 a.lv a.tk++isK::nulK::rest by simp]
  unfold testP bindP
  rw[show sumP F (lev F n) _=_ from ha]
  rfl
 |
  nnul a iha =>
  intro hok hF
  have hok:a.ok:=hok
  have hla:=atK_len 4 a.lv a.tk
  have ra:=iha hok (by simp only[Tm.tk,List.length_append] at hF;omega)
  refine ⟨fun n d bp rest hn hd hs=>?_,fun n d bp rest f _ _ hl=>by rcases hl with h | h | h | h<;>cases h⟩
  have ha:=reads_at hok ra 4 (by omega) n d bp (isK::notK::nulK::rest) hn hd (show ∀s∈barred 4,isT isK s=false by decide)
  show testP (sumP F (lev F n)) (RR d bp (atK 4 a.lv a.tk++[isK,notK,nulK]++rest))=_
  rw[show atK 4 a.lv a.tk++[isK,notK,nulK]++rest=atK 4 a.lv a.tk++isK::notK::nulK::rest by simp]
  unfold testP bindP
  rw[show sumP F (lev F n) _=_ from ha]
  rfl
theorem expr_read (t:Tm) (hok:t.ok) (F:Nat) (hF:t.tk.length≤F) (hd:t.dp≤10) (bp:Int) (rest:List Tk) (hs:Stops 0 rest):exprP F (RR 0 bp (t.tk++rest))=(t.ex,RR 0 bp rest):=by
 have:=reads_at hok (readsT_all F t hok hF) 0 (by omega) 11 0 bp rest (by show (if 0≤t.lv then t.dp else t.dp+1)≤11;rw[if_pos (Nat.zero_le _)];omega) (by show 0+((if 0≤t.lv then t.dp else t.dp+1:Nat):Int)≤10;rw[if_pos (Nat.zero_le _)];omega) hs
 have e:atK 0 t.lv t.tk=t.tk:=if_pos (Nat.zero_le _)
 rw[e] at this
 exact this
end Go.Proofs.YtaaggohjmhifbaaGreatDoor
