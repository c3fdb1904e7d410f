/- Packed for the hand-in: WStm LWrite WMem -/
import Derived.Test.YtaaggohjmhifbaaGreatDoorY18
import Derived.Test.YtaaggohjmhifbaaGreatDoorY08
import Derived.Test.YtaaggohjmhifbaaGreatDoorY17
namespace Go.Proofs.YtaaggohjmhifbaaGreatDoor
set_option linter.unusedSimpArgs false
set_option linter.unusedVariables false
set_option maxHeartbeats 8000000
def Tm.mkNot:Tm→Tm
 | .nul x=>.nnul x
 | t=>.not t
def pF:Ex→Tm
 |
  .mk k op tb nm v xs =>
  if k=1 then .val v else if k=2 then .col tb nm else
  match xs with
  | [a]=>if k=4 then (pF a).mkNot else if k=5 then .neg (pF a) else .nul (pF a)
  | [a,b]=>.op op (pF a) (pF b)
  | _=>.val zV
termination_by e=>SizeOf.sizeOf e
decreasing_by all_goals (simp_wf;omega)
theorem F8 (t:Tm) (h:t.ok):pF t.ex=t:=by
 induction t with
 | val v=>show pF (.mk 1 0 [] [] v [])=_;simp[pF]
 | col a b=>show pF (.mk 2 0 a b zV [])=_;simp[pF]
 | op o a b ha hb=>show pF (.mk 3 o [] [] zV [a.ex,b.ex])=_;rw[pF,ha h.2.2.1,hb h.2.2.2];rfl
 |
  not a ha =>
  show pF (.mk 4 0 [] [] zV [a.ex])=_
  rw[pF,ha h.2]
  have hn:=h.1
  cases a with
  | nul x=>cases hn
  | _=>rfl
 | neg a ha=>show pF (.mk 5 0 [] [] zV [a.ex])=_;rw[pF,ha h];rfl
 | nul a ha=>show pF (.mk 6 0 [] [] zV [a.ex])=_;rw[pF,ha h];rfl
 |
  nnul a ha =>
  show pF (.mk 4 0 [] [] zV [.mk 6 0 [] [] zV [a.ex]])=_
  rw[pF,pF,ha h];rfl
def aK:Ex→Bool
 |
  .mk k op tb nm v xs =>
  if k=1 then dL v&&(decide (op=0)&&decide (tb=[])&&decide (nm=[])&&decide (xs.length=0))
  else if k=2 then (aQ nm&&(decide (tb=[])||aQ tb))&&(decide (op=0)&&eqv v zV&&decide (xs.length=0))
  else if k=3 then (decide (1≤op∧op≤13)&&(decide (xs.length=2)&&xs.attach.all fun x=>aK x.1))&&(decide (tb=[])&&decide (nm=[])&&eqv v zV)
  else if k=4∨k=5∨k=6 then (decide (xs.length=1)&&xs.attach.all fun x=>aK x.1)&&(decide (op=0)&&decide (tb=[])&&decide (nm=[])&&eqv v zV)
  else false
termination_by e=>SizeOf.sizeOf e
decreasing_by all_goals (simp_wf;have:=List.sizeOf_lt_of_mem x.2;omega)
theorem all_attach {α:Type} (xs:List α) (p:α→Bool):(xs.attach.all fun x=>p x.1)=xs.all p:=by
 rw[Bool.eq_iff_iff,List.all_eq_true,List.all_eq_true]
 exact⟨fun h x hx=>h ⟨x,hx⟩ (List.mem_attach _ _),fun h x _=>h x.1 x.2⟩
theorem gF (k op:Int) (tb nm:List UInt8) (v:Vl) (xs:List Ex):aK (.mk k op tb nm v xs) =
  if k=1 then dL v&&(decide (op=0)&&decide (tb=[])&&decide (nm=[])&&decide (xs.length=0))
  else if k=2 then (aQ nm&&(decide (tb=[])||aQ tb))&&(decide (op=0)&&eqv v zV&&decide (xs.length=0))
  else if k=3 then (decide (1≤op∧op≤13)&&(decide (xs.length=2)&&xs.all aK))&&(decide (tb=[])&&decide (nm=[])&&eqv v zV)
  else if k=4∨k=5∨k=6 then (decide (xs.length=1)&&xs.all aK)&&(decide (op=0)&&decide (tb=[])&&decide (nm=[])&&eqv v zV)
  else false:=by
 rw[aK,all_attach]
theorem pW:eqv zV zV=true:=by decide
theorem FY (t:Tm) (h:t.ok):aK t.ex=true:=by
 induction t with
 |
  val v =>
  show aK (.mk 1 0 [] [] v [])=true
  rw[gF,if_pos rfl,show dL v=true from h];rfl
 |
  col a b =>
  show aK (.mk 2 0 a b zV [])=true
  rw[gF,if_neg (by decide),if_pos rfl,h.1]
  rcases h.2 with h2 | h2
  ·subst h2;rfl
  ·rw[h2,Bool.or_true];rfl
 |
  op o a b ha hb =>
  show aK (.mk 3 o [] [] zV [a.ex,b.ex])=true
  rw[gF,if_neg (by decide),if_neg (by decide),if_pos rfl,decide_eq_true (⟨h.1,h.2.1⟩:1≤o∧o≤13)]
  simp[ha h.2.2.1,hb h.2.2.2,pW]
 |
  not a ha =>
  show aK (.mk 4 0 [] [] zV [a.ex])=true
  rw[gF,if_neg (by decide),if_neg (by decide),if_neg (by decide),if_pos (by decide)]
  simp[ha h.2,pW]
 |
  neg a ha =>
  show aK (.mk 5 0 [] [] zV [a.ex])=true
  rw[gF,if_neg (by decide),if_neg (by decide),if_neg (by decide),if_pos (by decide)]
  simp[ha h,pW]
 |
  nul a ha =>
  show aK (.mk 6 0 [] [] zV [a.ex])=true
  rw[gF,if_neg (by decide),if_neg (by decide),if_neg (by decide),if_pos (by decide)]
  simp[ha h,pW]
 |
  nnul a ha =>
  show aK (.mk 4 0 [] [] zV [.mk 6 0 [] [] zV [a.ex]])=true
  rw[gF,if_neg (by decide),if_neg (by decide),if_neg (by decide),if_pos (by decide)]
  simp[gF,ha h,pW]
theorem oC : ∀(n:Nat) (e:Ex),SizeOf.sizeOf e<n→aK e=true→∃t:Tm,t.ok∧t.ex=e
 |
  n+1,.mk k op tb nm v xs,hn,h=>by
  rw[gF] at h
  split at h
  ·rename_i h1
   simp only[Bool.and_eq_true,decide_eq_true_eq] at h
   obtain⟨hv,⟨⟨h2,h3⟩,h4⟩,h5⟩:=h
   obtain rfl:xs=[]:=List.eq_nil_of_length_eq_zero h5
   subst h1 h2 h3 h4
   exact⟨.val v,hv,rfl⟩
  ·split at h
   ·rename_i h1
    simp only[Bool.and_eq_true,Bool.or_eq_true,decide_eq_true_eq] at h
    obtain⟨⟨hnn,ht⟩,⟨h2,h3⟩,h4⟩:=h
    obtain rfl:xs=[]:=List.eq_nil_of_length_eq_zero h4
    obtain rfl:=lC.1 h3
    subst h1 h2
    exact⟨.col tb nm,⟨hnn,ht⟩,rfl⟩
   ·split at h
    ·rename_i h1
     simp only[Bool.and_eq_true,decide_eq_true_eq] at h
     obtain⟨⟨ho,hl,ha⟩,⟨h2,h3⟩,h4⟩:=h
     obtain rfl:=lC.1 h4
     match xs,hl with
     |
      [a,b],_ =>
      simp only[List.all_cons,List.all_nil,Bool.and_true,Bool.and_eq_true] at ha
      obtain⟨ta,oka,ea⟩:=oC n a (by simp at hn;omega) ha.1
      obtain⟨tb',okb,eb⟩:=oC n b (by simp at hn;omega) ha.2
      subst h1 h2 h3
      exact⟨.op op ta tb',⟨ho.1,ho.2,oka,okb⟩,by rw[← ea,← eb];rfl⟩
    ·split at h
     ·rename_i h1
      simp only[Bool.and_eq_true,decide_eq_true_eq] at h
      obtain⟨⟨hl,ha⟩,⟨⟨h2,h3⟩,h4⟩,h5⟩:=h
      obtain rfl:=lC.1 h5
      match xs,hl with
      |
       [a],_ =>
       simp only[List.all_cons,List.all_nil,Bool.and_true] at ha
       obtain⟨ta,oka,ea⟩:=oC n a (by simp at hn;omega) ha
       subst h2 h3 h4
       rcases h1 with rfl | rfl | rfl
       ·cases hN:ta.FL with
        | false=>exact⟨.not ta,⟨hN,oka⟩,by rw[← ea];rfl⟩
        |
         true =>
         cases ta with
         | nul x=>exact⟨.nnul x,oka,by rw[← ea];rfl⟩
         | _=>cases hN
       ·exact⟨.neg ta,oka,by rw[← ea];rfl⟩
       ·exact⟨.nul ta,oka,by rw[← ea];rfl⟩
     ·cases h
theorem lX {e:Ex} (h:aK e=true):(pF e).ok∧(pF e).ex=e:=by
 obtain⟨t,h1,h2⟩:=oC (SizeOf.sizeOf e+1) e (Nat.lt_succ_self _) h
 rw[← h2,F8 t h1]
 exact⟨h1,rfl⟩
def qg (e:Ex):List Tk:=(pF e).tk
def G6 (e:Ex):Nat:=(pF e).dp
def qR (e:Ex):Nat:=(pF e).sz
def bL (sep:Tk):List (List Tk)→List Tk
 | []=>[]
 | x::l=>x++l.flatMap fun y=>sep::y
theorem vT (sep:Tk) (l:List (List Tk)) (y:List Tk):bL sep (l++[y])=if l=[] then y else bL sep l++sep::y:=by
 cases l with
 | nil=>simp[bL]
 | cons x l=>simp[bL,List.flatMap_append]
def au (l:List (List UInt8)):List Tk:=l.map aJ
def bX (xs:List Ex) (ws:List (List UInt8)):List Tk:=xs.flatMap fun e=>au ws++qg e
def dJ (l:List Nat):Nat:=l.foldr max 0
def mY (l:List Ex):Nat:=dJ (l.map G6)
def jD (c:Co):List Tk:=cB c.nm::aJ (if c.k=1 then [73,78,84] else [84,69,88,84])::((if c.nn=true then au [[78,79,84],[78,85,76,76]] else [])++(if c.uq=true then au [[85,78,73,81,85,69]] else []))
def qD (r:List Vl):List Tk:=aJ [40]::(bL (aJ [44]) (r.map jS)++[aJ [41]])
def qA (s:Se):List Tk:=cB s.nm::aJ [61]::qg s.e
def JY (k:Int):List UInt8:=if k=4 then [67,79,85,78,84] else if k=5 then [83,85,77] else if k=6 then [77,73,78] else [77,65,88]
def z8 (i:It):List Tk:=if i.k=1 then [aJ [42]] else if i.k=2 then qg (i.xs.headD Ef) else if i.k=3 then au [[67,79,85,78,84],[40],[42],[41]] else au [JY i.k,[40]]++(qg (i.xs.headD Ef)++[aJ [41]])
def KA (i:It):Nat:=mY i.xs
def Km (s:St):List Tk :=
 aJ [83,69,76,69,67,84]::(bL (aJ [44]) (s.items.map z8)++aJ [70,82,79,77]::cB s.tb::((if s.jn=[] then [] else [aJ [74,79,73,78],cB s.jn])++(bX s.on [[79,78]]++(bX s.wh [[87,72,69,82,69]]++(bX s.gr [[71,82,79,85,80],[66,89]]++(bX s.od [[79,82,68,69,82],[66,89]]++((if s.desc=true then [aJ [68,69,83,67]] else [])++(if s.lim = -1 then [] else [aJ [76,73,77,73,84],BZ s.lim]))))))))
def KF (s:St):List Tk :=
 au [[67,82,69,65,84,69],[84,65,66,76,69]]++cB s.tb::aJ [40]::(bL (aJ [44]) (s.cols.map jD)++(au [[44],[80,82,73,77,65,82,89],[75,69,89],[40]]++cB s.prim::au [[41],[41]]))
def kW (s:St):List Tk :=
 if s.k=1 then KF s
 else if s.k=2 then au [[68,82,79,80],[84,65,66,76,69]]++[cB s.tb]
 else if s.k=3 then au [[73,78,83,69,82,84],[73,78,84,79]]++cB s.tb::aJ [86,65,76,85,69,83]::bL (aJ [44]) (s.rows.map qD)
 else if s.k=4 then aJ [85,80,68,65,84,69]::cB s.tb::aJ [83,69,84]::(bL (aJ [44]) (s.sets.map qA)++bX s.wh [[87,72,69,82,69]])
 else if s.k=5 then au [[68,69,76,69,84,69],[70,82,79,77]]++cB s.tb::bX s.wh [[87,72,69,82,69]]
 else Km s
def vJ (s:St):Nat :=
 if s.k=4 then max (dJ (s.sets.map fun x=>G6 x.e)) (mY s.wh)
 else if s.k=5 then mY s.wh
 else if s.k=6 then max (dJ (s.items.map KA)) (max (mY s.on) (max (mY s.wh) (max (mY s.gr) (mY s.od))))
 else 0
def aX {α:Type} (xs:List α) (a b:Nat) (p:α→Bool):Bool:=decide (a≤xs.length∧xs.length≤b)&&xs.all p
def gB (c:Co):Bool:=aQ c.nm&&decide (c.k=1∨c.k=2)
def nG (r:List Vl):Bool:=aX r 1 8 dL
def mR (s:Se):Bool:=aQ s.nm&&aK s.e
def wV:Ex→Int
 | .mk k _ _ _ _ _=>k
def fJ (e:Ex):Bool:=decide (wV e=2)&&aK e
def rJ (i:It):Bool:=if i.k=1∨i.k=3 then decide (i.xs.length=0) else if i.k=2∨i.k=4∨i.k=5∨i.k=6∨i.k=7 then aX i.xs 1 1 aK else false
def qW (s:List UInt8):Bool:=decide (s=[])||aQ s
def kF (s:List UInt8):Nat:=if s=[] then 0 else 1
def Af (s:St):Bool :=
 aX s.items 1 8 rJ&&(qW s.jn&&(aX s.on (kF s.jn) (kF s.jn) aK&&(aX s.wh 0 1 aK&&(aX s.gr 0 1 fJ&&(aX s.od 0 1 fJ&&((!s.desc||decide (s.od.length=1))&&decide (-1≤s.lim∧s.lim≤9223372036854775807)))))))
def mQ (s:St):Bool:=decide (s.k=0∧s.tb=[]∧s.cols.length=0∧s.prim=[]∧s.rows.length=0∧s.sets.length=0∧s.items.length=0∧s.jn=[]∧s.on.length=0∧s.wh.length=0∧s.gr.length=0∧s.od.length=0∧s.desc=false∧s.lim = -1)
def vY (s:St):St :=
 if s.k=1 then { s with k:=0,tb:=[],cols:=[],prim:=[] }
 else if s.k=3 then { s with k:=0,tb:=[],rows:=[] }
 else if s.k=4 then { s with k:=0,tb:=[],sets:=[],wh:=[] }
 else if s.k=5 then { s with k:=0,tb:=[],wh:=[] }
 else if s.k=6 then { s with k:=0,tb:=[],items:=[],jn:=[],on:=[],wh:=[],gr:=[],od:=[],desc:=false,lim:=-1 }
 else { s with k:=0,tb:=[] }
def lu (s:St):Bool :=
 if s.k=1 then aX s.cols 1 8 gB&&aQ s.prim
 else if s.k=2 then true
 else if s.k=3 then aX s.rows 1 16 nG
 else if s.k=4 then aX s.sets 1 8 mR&&aX s.wh 0 1 aK
 else if s.k=5 then aX s.wh 0 1 aK
 else if s.k=6 then Af s
 else false
def aM (s:St):Bool:=lu s&&(aQ s.tb&&mQ (vY s))
def mX (rest:List Tk):Prop:=∀s,iU (rest.headD jl) s=true→s=[59]
theorem mX.no {rest:List Tk} (h:mX rest) {s:List UInt8} (hs:s≠[59]):iU (rest.headD jl) s=false:=by
 cases e:iU (rest.headD jl) s with
 | false=>rfl
 | true=>exact absurd (h s e) hs
theorem Es : ∀s∈jP 0,s≠[59]∧s≠[44]∧s≠[41]:=by decide
theorem mX.stops {rest:List Tk} (h:mX rest):Stops 0 rest:=fun s hs=>h.no (Es s hs).1
theorem xq {t:Tk} {s u:List UInt8} (h:iU t s=true) (hu:iU t u=true):s=u:=by
 unfold iU at h hu
 simp only[Bool.and_eq_true,beq_iff_eq] at h hu
 exact h.2.symm.trans hu.2
theorem jB (s:List UInt8):iU (aJ s) s=true:=by
 unfold aJ iU
 split<;>simp
theorem eP {s u:List UInt8} (h:s≠u):iU (aJ s) u=false:=by
 cases e:iU (aJ s) u with
 | false=>rfl
 | true=>exact absurd (xq (jB s) e) h
theorem fu (d bp:Int) (s:List UInt8) (ts:List Tk):nameP (RR d bp (cB s::ts))=(s,RR d bp ts):=rfl
theorem jm {d bp:Int} {ts:List Tk} (s:List UInt8):cK s (RR d bp (aJ s::ts))=((),RR d bp ts):=wC (jB s)
theorem mO (d bp:Int) (ts:List Tk):∀l:List (List UInt8),aD l (RR d bp (au l++ts))=((),RR d bp ts)
 | []=>rfl
 |
  s::l=>by
  unfold aD
  rw[show au (s::l)++ts=aJ s::(au l++ts) from rfl,aH (jm s)]
  exact mO d bp ts l
theorem lU {d bp:Int} {ts:List Tk} (s:List UInt8):fD s (RR d bp (aJ s::ts))=(true,RR d bp ts):=jQ _ _ (jB s)
theorem nH {d bp:Int} {ts:List Tk} {s:List UInt8} (h:iU (ts.headD jl) s=false):fD s (RR d bp ts)=(false,RR d bp ts):=jo _ _ h
theorem oD {α:Type} {one:Pa α} {more:Pa Bool} {sep:Tk} {tk:α→List Tk} {d bp:Int} {rest rest':List Tk}
  (hend:more (RR d bp rest)=(false,RR d bp rest')) :
  ∀
   (xs:List α) (x:α) (m:Nat) (acc:List α),xs.length+1≤m→(∀y∈x::xs,∀ts,ts=rest∨(∃u,ts=sep::u)→one (RR d bp (tk y++ts))=(y,RR d bp ts)) →
   (∀y∈xs,∀ts,more (RR d bp (sep::(tk y++ts)))=(true,RR d bp (tk y++ts))) →
   aR one more m acc (RR d bp (bL sep ((x::xs).map tk)++rest))=(acc++x::xs,RR d bp rest')
 |
  [],x,m+1,acc,hm,hone,hmo=>by
  rw[show bL sep ([x].map tk)++rest=tk x++rest by simp[bL]]
  unfold aR
  rw[aH (hone x (by simp) rest (.inl rfl)),aH hend]
  rfl
 |
  y::xs,x,m+1,acc,hm,hone,hmo=>by
  rw[show bL sep ((x::y::xs).map tk)++rest=tk x++sep::(bL sep ((y::xs).map tk)++rest) by simp[bL]]
  unfold aR
  rw[aH (hone x (by simp) _ (.inr ⟨_,rfl⟩))]
  have e:bL sep ((y::xs).map tk)++rest=tk y++((xs.map tk).flatMap (fun y=>sep::y)++rest):=by simp[bL]
  rw[e,aH (hmo y (by simp) _),if_pos rfl,← e]
  have ih:=oD (one:=one) (tk:=tk) hend xs y m (acc++[x]) (by simp at hm;omega) (fun z hz=>hone z (List.mem_cons_of_mem _ hz)) (fun z hz=>hmo z (List.mem_cons_of_mem _ hz))
  rw[ih]
  simp
end Go.Proofs.YtaaggohjmhifbaaGreatDoor
namespace Go.Proofs.YtaaggohjmhifbaaGreatDoor
open Go.RowKit Go.Shelf
set_option linter.unusedSimpArgs false
set_option linter.unusedVariables false
set_option maxRecDepth 20000
set_option maxHeartbeats 8000000
def KS (t:Tk):Prop:=t.s.length≤40∧0≤t.n∧t.n≤9223372036854775807
theorem K5 {t:Tk} (h:KS t):(wr t).length≤100:=by
 obtain⟨h1,h2,h3⟩:=h
 unfold wr
 split
 ·unfold Lib.itoa
  rw[if_neg (by omega)]
  have:=(mI t.n.toNat (by omega)).2.2.2.1
  omega
 ·split
  ·have:=ER t.s
   simp
   omega
  ·omega
theorem rW : ∀ps:List (List UInt8),(∀p∈ps,p.length≤100)→(Lib.joinTail [32] ps).length≤101*ps.length
 | [],_=>by simp[Lib.joinTail]
 |
  p::ps,h=>by
  have ih:=rW ps (fun q hq=>h q (by simp[hq]))
  have hp:=h p (by simp)
  have e:Lib.joinTail [32] (p::ps)=32::(p++Lib.joinTail [32] ps):=by simp[Lib.joinTail]
  rw[e]
  simp
  omega
theorem join_le (ps:List (List UInt8)) (h : ∀p∈ps,p.length≤100):(Lib.join ps [32]).length≤101*ps.length:=by
 cases ps with
 | nil=>simp[Lib.join_nil]
 |
  cons p ps =>
  rw[Lib.join_cons]
  have:=rW ps (fun q hq=>h q (by simp[hq]))
  have hp:=h p (by simp)
  simp
  omega
def JK (ps:List (List UInt8)):List Value:=ps.map fun l=>.string (ah l)
def oh (l:List Tk):List (List UInt8):=(l.filter fun t=>t.k != 6).map wr
theorem vw (l:List Tk) (t:Tk):oh (l++[t])=if t.k=6 then oh l else oh l++[wr t]:=by
 unfold oh
 rw[List.filter_append]
 by_cases h:t.k=6
 ·simp[h]
 ·simp[h]
theorem IE (l:List Tk):(oh l).length≤l.length:=by
 unfold oh
 rw[List.length_map]
 exact List.length_filter_le _ _
theorem AP {α:Type} (xs:List α) (k:Nat) (x:α) (h:xs[k]?=some x):xs.take (k+1)=xs.take k++[x]:=by
 obtain⟨hk,e⟩:=List.getElem?_eq_some_iff.1 h
 rw[List.take_succ_eq_append_getElem hk,e]
theorem Tryz.Hq:(Tryz.prog.info? 9).map (fun i=>(i.zero,i.size,i.bytes))=some (some (.string ⟨#[]⟩),1,16):=by kernel_rfl
def Jp (w:World):Prop:=∀o:Nat,o≤13→w.cell? ⟨0,o*2,none⟩=some (.string (ah (oV o)))∧w.cell? ⟨0,o*2+1,none⟩=some (.int .i64 (dX o))
structure mh (w:World):Prop where
 tv:zm w
 ops:Jp w
 lt:10<w.heap.size
theorem mh.below {w w':World} {B:Nat} (h:mh w) (hb:Below B w w') (hB:10<B):mh w' :=
 ⟨h.tv.below hb (by omega),fun o ho=>⟨(hb.cell (p:=⟨0,o*2,none⟩) (by show 0<B;omega)).trans (h.ops o ho).1,(hb.cell (p:=⟨0,o*2+1,none⟩) (by show 0<B;omega)).trans (h.ops o ho).2⟩,Nat.lt_of_lt_of_le h.lt hb.size⟩
theorem mh.on {w w':World} (h:mh w) (hb:Below w.heap.size w w'):mh w':=h.below hb h.lt
structure gN (w:World) (g:Nat) (tb:Option Nat) (L:List Tk) (d m:Int):Prop where
 lie : ∃v,w.heap[g]?=some (.cells #[v,.int .i64 d,.int .i64 m] 98)∧w.ownsRow (g+1) 162 4 v L.length (tcs L)∧v.ownBlock=tb
 tab:mh w
 big:10<g
theorem gN.lt {w:World} {g:Nat} {tb:Option Nat} {L:List Tk} {d m:Int} (h:gN w g tb L d m):g<w.heap.size:=by
 obtain⟨v,hv,_⟩:=h.lie
 exact World.lt_of_block hv
theorem gN.Lb {w:World} {g:Nat} {tb:Option Nat} {L:List Tk} {d m:Int} (h:gN w g tb L d m):∀k,tb=some k→g<k∧k<w.heap.size:=by
 obtain⟨v,_,ho,rfl⟩:=h.lie
 exact fun k hk=>⟨(ho.lt k hk).1,(ho.lt k hk).2⟩
abbrev lZ (g:Nat) (tb:Option Nat) (w w':World):Prop:=aj (fun k=>k=g∨tb=some k) w w'
def Wrote (g:Nat) (tb:Option Nat) (w w':World) (L:List Tk) (d m:Int):Prop :=
 ∃tb',gN w' g tb' L d m∧(∀k,tb'=some k→tb=some k∨w.heap.size≤k)∧lZ g tb w w'
theorem gN.here {w:World} {g:Nat} {tb:Option Nat} {L:List Tk} {d m:Int} (h:gN w g tb L d m):Wrote g tb w w L d m:=⟨tb,h,fun k hk=>.inl hk,aj.refl _ _⟩
theorem Wrote.then {g:Nat} {tb tb1:Option Nat} {w w1 w2:World} {L:List Tk} {d m:Int} (h1 : ∀k,tb1=some k→tb=some k∨w.heap.size≤k) (hf:lZ g tb w w1) (h2:Wrote g tb1 w1 w2 L d m):Wrote g tb w w2 L d m:=by
 obtain⟨tb2,h3,h4,h5⟩:=h2
 refine ⟨tb2,h3,fun k hk=>?_,hf.andThen h5 fun i hi=>?_⟩
 ·rcases h4 k hk with e | e
  ·exact h1 k e
  ·exact .inr (Nat.le_trans hf.size e)
 ·rcases hi with rfl | e
  ·exact .inl (.inl rfl)
  ·rcases h1 i e with e | e
   ·exact .inl (.inr e)
   ·exact .inr e
theorem gN.below {w w':World} {g:Nat} {tb:Option Nat} {L:List Tk} {d m:Int} (h:gN w g tb L d m) (hb:Below w.heap.size w w'):gN w' g tb L d m:=by
 have hlt:=h.lt
 obtain⟨v,hv,ho,e⟩:=h.lie
 exact⟨⟨v,by rw[hb.block g hlt];exact hv,qp ho hb,e⟩,h.tab.on hb,h.big⟩
theorem Wrote.new {g:Nat} {tb:Option Nat} {w w1 w2:World} {L:List Tk} {d m:Int} (hb:Below w.heap.size w w1) (h2:Wrote g tb w1 w2 L d m):Wrote g tb w w2 L d m :=
 Wrote.then (fun k hk=>.inl hk) (aj.aC hb) h2
structure lK (g:Nat) (tb:Option Nat) (w:World) (q:Nat) (o:Obj):Prop where
 at':w.heap[q]?=some o
 ng:q≠g
 nt:tb≠some q
theorem lK.on {g:Nat} {tb tb1:Option Nat} {w w1:World} {q:Nat} {o:Obj} (h:lK g tb w q o) (h1 : ∀k,tb1=some k→tb=some k∨w.heap.size≤k) (hf:lZ g tb w w1):lK g tb1 w1 q o:=by
 have hq:=World.lt_of_block h.at'
 refine ⟨(hf.block q hq (fun e=>by rcases e with e | e;exact h.ng e;exact h.nt e)).trans h.at',h.ng,fun e=>?_⟩
 rcases h1 q e with e | e
 ·exact h.nt e
 ·omega
theorem lK.below {g:Nat} {tb:Option Nat} {w w1:World} {q:Nat} {o:Obj} (h:lK g tb w q o) (hb:Below w.heap.size w w1):lK g tb w1 q o :=
 ⟨(hb.block q (World.lt_of_block h.at')).trans h.at',h.ng,h.nt⟩
theorem lK.mk' {w W:World} {g:Nat} {tb:Option Nat} {L:List Tk} {d m:Int} (h:gN w g tb L d m) {q:Nat} {o:Obj} (hW:W.heap[q]?=some o) (hq:w.heap.size≤q):lK g tb W q o :=
 ⟨hW,by have:=h.lt;omega,fun e=>by have:=(h.Lb q e).2;omega⟩
theorem lZ.keeps {w w':World} {g:Nat} {tb:Option Nat} {L:List Tk} {d m:Int} (h:gN w g tb L d m) (hf:lZ g tb w w'):∀b,b<g→b<w.heap.size→¬(b=g∨tb=some b)∧b<g:=fun b hb _ =>
 ⟨fun e=>by rcases e with e | e;omega;have:=(h.Lb b e).1;omega,hb⟩
theorem gN.CP {w w':World} {g:Nat} {tb:Option Nat} {L:List Tk} {d m:Int} (h:gN w g tb L d m) (hf:lZ g tb w w'):Below g w w' :=
 hf.below (fun i hi=>by rcases hi with rfl | e;exact Nat.le_refl _;have:=(h.Lb i e).1;omega) (Nat.le_of_lt h.lt)
theorem pq.new {S:Nat→Prop} {w w':World} {x:Ex} {v:Value} (hx:pq S w x v) (hb:Below w.heap.size w w'):pq S w' x v:=hx.to (R:=fun _=>False) (aj.aC hb) (fun b h _=>⟨id,h⟩)
theorem bg.new {S:Nat→Prop} {w w':World} {x:List Ex} {v:Value} (hx:bg S w x v) (hb:Below w.heap.size w w'):bg S w' x v:=hx.to (R:=fun _=>False) (aj.aC hb) (fun b h _=>⟨id,h⟩)
theorem mG {w:World} {g:Nat} {a b c:Value} {t:TypeId} (h:w.heap[g]?=some (.cells #[a,b,c] t)) :
  w.cell? ⟨g,0,none⟩=some a∧w.cell? ⟨g,1,none⟩=some b∧w.cell? ⟨g,2,none⟩=some c∧∀i,w.frozen? ⟨g,i,none⟩=false :=
 ⟨by rw[aN _ _ _ _ _ _ h];rfl,by rw[aN _ _ _ _ _ _ h];rfl,by rw[aN _ _ _ _ _ _ h];rfl,fun i=>by simp[World.frozen?,h]⟩
theorem IC {w W:World} {g:Nat} {tb:Option Nat} {L L':List Tk} {d m:Int} {v v':Value} (hw:gN w g tb L d m) (hv:W.heap[g]?=some (.cells #[v,.int .i64 d,.int .i64 m] 98)) (ho:W.ownsRow (g+1) 162 4 v' L'.length (tcs L')) (hf:lZ g tb w W) (ht:v'.ownBlock=tb∨∃k,v'.ownBlock=some k∧w.heap.size≤k) :
  Wrote g tb w (W.setCell ⟨g,0,none⟩ v') L' d m:=by
 have hf2:lZ g tb w (W.setCell ⟨g,0,none⟩ v'):=aj.setCell hf (.inl (.inl rfl)) v'
 refine ⟨v'.ownBlock,⟨⟨v',?_,ownsRow_setCell_below ho (Nat.lt_succ_self g) v',rfl⟩,hw.tab.below (hw.CP hf2) hw.big,hw.big⟩,fun k hk=>?_,hf2⟩
 ·rw[setCell_eq_setRow W g 0 _ _ _ v' hv,setRow_heap W g _ _ _ _ hv]
  rfl
 ·rcases ht with e | ⟨j,e,hj⟩
  ·exact .inl (e ▸ hk)
  ·obtain rfl:=Option.some.inj (e.symm.trans hk)
   exact .inr hj
theorem FH (L:List Tk) (t:Tk):tcs (L++[t])=tcs L++[.int .i64 t.k,.string (ah t.s),.int .i64 t.n,.int .i64 t.p]:=by simp[tcs,tc]
theorem Iz (g:Nat) (tb:Option Nat) (L:List Tk) (d m:Int) (w:World) (h:gN w g tb L d m) (t:Tk) (hL:L.length+1≤1000000000) (b:Nat) (ty:TypeId) (hb:w.heap[b]?=some (.cells #[.int .i64 t.k,.string (ah t.s),.int .i64 t.n,.int .i64 t.p] ty)) :
  Calls Tryz.prog 163 #[.pointer (some ⟨g,0,none⟩),.slice (some ⟨b,0,none⟩) 1 1] w fun e w'=>e = .returned (.tuple #[])∧Wrote g tb w w' (L++[t]) d m:=by
 obtain⟨i0,hi,hz0,hz1,hz2⟩:=info_parts Tryz.Cy
 have hlt:=h.lt
 obtain⟨v,hv,ho,hob⟩:=h.lie
 have k:=mG hv
 have HH:=hid h
 have HV:=hid hv
 have hnew : ∀(j:Nat) (u:Value),[Value.int .i64 t.k,.string (ah t.s),.int .i64 t.n,.int .i64 t.p][j]?=some u→w.cell? ((⟨b,0,none⟩:Addr).add j)=some u:=by
  intro j u hj
  rw[Addr.add_lit,Nat.zero_add,cell_of_row _ _ _ _ _ _ hb]
  simpa using hj
 have hone : ∀u∈[Value.int .i64 t.k,.string (ah t.s),.int .i64 t.n,.int .i64 t.p],u.oneCell'=true:=by intro u hu;simp at hu;rcases hu with rfl | rfl | rfl | rfl<;>rfl
 have HTB:=hid hob
 have hsz:g+1≤w.heap.size:=hlt
 clear h hv hb
 go_enter Tryz.func163,Tryz.ntmps163
 go_wp2_with (first
  | (
    at_builtin;refine dn _ rfl (.tmp 8) (.tmp 9) 94 rfl (g+1) 162 i0 (.agg #[.int .i64 0,.string ⟨#[]⟩,.int .i64 0,.int .i64 0]) 4 40 Tryz.underlying94 hi hz0 hz1 hz2 rfl (by decide) v L.length (tcs L) rfl ho ⟨b,0,none⟩ 1 [.int .i64 t.k,.string (ah t.s),.int .i64 t.n,.int .i64 t.p] rfl rfl hnew hone (by unfold maxLen;omega) (by omega) hsz ?_;intro v3 w3 hown3 hg3 hob3
    have HV3:Hid (w3.heap[g]?=some (.cells #[v,.int .i64 d,.int .i64 m] 98)):=hid ((hg3.block g hlt (fun e=>by have:=(ho.lt g e.symm).1;omega)).trans HV.out)
    have k3:=mG HV3.out
    obtain⟨va,vn,vc,rfl⟩:∃va vn vc,v3 = .slice va vn vc:=by
      rcases hown3.2 with⟨rfl,_⟩ | ⟨_,_,_,rfl,_⟩
      ·exact⟨_,_,_,rfl⟩
      ·exact⟨_,_,_,rfl⟩)
  | fail)
 have HF:Hid (lZ g tb w w3):=hid (aj.fO hg3 (fun k hk=>.inr (HTB.out ▸ hk)))
 have hone3:Wrote g tb w (w3.setCell ⟨g,0,none⟩ (.slice va vn vc)) (L++[t]) d m:=by
  refine IC HH.out HV3.out ?_ HF.out ?_
  ·rw[List.length_append,FH];exact hown3
  ·rcases hob3 with e | e
   · exact .inl (e.trans HTB.out)
   · exact .inr ⟨_,e,Nat.le_refl _⟩
 exact bodyPost_end (v:=.tuple #[]) (by simp[results,Tryz.results163,go_sem]) rfl ⟨rfl,hone3⟩
theorem xB (g:Nat) (tb:Option Nat) (L:List Tk) (d m:Int) (w:World) (h:gN w g tb L d m) (t:Tk) (hL:L.length+1≤1000000000) :
  Calls Tryz.prog 163 #[.pointer (some ⟨g,0,none⟩),.slice (some ⟨w.heap.size,0,none⟩) 1 1] (w.alloc (.cells #[.int .i64 t.k,.string (ah t.s),.int .i64 t.n,.int .i64 t.p] 162)) fun e w'=>e = .returned (.tuple #[])∧Wrote g tb w w' (L++[t]) d m:=by
 have hb:Below w.heap.size w (w.alloc (.cells #[.int .i64 t.k,.string (ah t.s),.int .i64 t.n,.int .i64 t.p] 162)):=(Below.refl _ _).alloc (Nat.le_refl _) _
 refine (Iz g tb L d m _ (h.below hb) t hL w.heap.size _ (heap_alloc_new w _)).mono ?_
 rintro e w' ⟨rfl,h1⟩
 exact⟨rfl,h1.new hb⟩
theorem lF (g:Nat) (tb:Option Nat) (L:List Tk) (d m:Int) (w:World) (h:gN w g tb L d m) (s:List UInt8) (hL:L.length+1≤1000000000) :
  Calls Tryz.prog 99 #[.pointer (some ⟨g,0,none⟩),.string (ah s)] w fun e w'=>e = .returned (.tuple #[])∧Wrote g tb w w' (L++[cB s]) d m:=by
 have HP:Hid (Calls Tryz.prog 163 #[.pointer (some ⟨g,0,none⟩),.slice (some ⟨w.heap.size,0,none⟩) 1 1] (w.alloc (.cells #[.int .i64 1,.string (ah s),.int .i64 0,.int .i64 0] 162)) fun e w'=>e = .returned (.tuple #[])∧Wrote g tb w w' (L++[cB s]) d m):=hid (xB g tb L d m w h (cB s) hL)
 clear h
 go_enter Tryz.func99,Tryz.ntmps99
 go_wp2_with fail
 refine HP.out.mono ?_
 rintro e w1 ⟨rfl,h1⟩
 go_wp2
 exact bodyPost_end (v:=.tuple #[]) (by simp[results,Tryz.results99,go_sem]) rfl ⟨rfl,h1⟩
def Ck (g:Nat) (tb:Option Nat) (w:World) (v:Value) (ts:List (List UInt8)):Prop :=
 ∃a c,v = .slice a ts.length c∧ts.length≤1000∧(ts≠[]→∃b,a=some ⟨b,0,none⟩∧b≠g∧tb≠some b∧b<w.heap.size∧∀j t,ts[j]?=some t→w.cell? ⟨b,j,none⟩=some (.string (ah t)))
theorem Ck.on {g:Nat} {tb tb1:Option Nat} {w w1:World} {v:Value} {ts:List (List UInt8)} (h:Ck g tb w v ts) (h1 : ∀k,tb1=some k→tb=some k∨w.heap.size≤k) (hf:lZ g tb w w1):Ck g tb1 w1 v ts:=by
 obtain⟨a,c,hv,hl,h3⟩:=h
 refine ⟨a,c,hv,hl,fun hne=>?_⟩
 obtain⟨b,ha,hg,ht,hlt,hc⟩:=h3 hne
 refine ⟨b,ha,hg,fun e=>?_,Nat.lt_of_lt_of_le hlt hf.size,fun j t hj=>hf.cell (hc j t hj) (fun e=>by rcases e with e | e;exact hg e;exact ht e)⟩
 rcases h1 b e with e | e
 ·exact ht e
 ·omega
theorem Ev (g:Nat) (tb:Option Nat) (L:List Tk) (d m:Int) (w:World) (h:gN w g tb L d m) (v:Value) (ts:List (List UInt8)) (hv:Ck g tb w v ts) (hne : ∀t∈ts,t≠[]) (hL:L.length+ts.length≤1000000000) :
  Calls Tryz.prog 97 #[.pointer (some ⟨g,0,none⟩),v] w fun e w'=>e = .returned (.tuple #[])∧Wrote g tb w w' (L++au ts) d m:=by
 have HV:=hid hv
 have HW:=hid h.here
 have HN:=hid hne
 obtain⟨a,c,rfl,hlen,_⟩:=hv
 clear h hne
 go_enter Tryz.func97,Tryz.ntmps97
 go_wp2_with fail
 go_loopw [5,6,9] (fun _ _ i wr=>∃(k:Nat),k≤ts.length∧i = .int .i64 k∧Wrote g tb w wr (L++au (ts.take k)) d m) (fun _ _ i _=>ts.length-(intOf i).toNat)
 case atStart=>exact⟨0,Nat.zero_le _,rfl,by simpa [au] using HW.out⟩
 case round =>
  obtain⟨k,hk,rfl,hq⟩:=hrel
  by_cases hlt:k<ts.length
  ·obtain⟨t,ht⟩:∃t,ts[k]?=some t:=⟨_,List.getElem?_eq_getElem hlt⟩
   have hlt':((k:Int)<(ts.length:Int)):=by omega
   obtain⟨tb1,hw1,ht1,hf1⟩:=hq
   obtain⟨a',c',hvv,_,h3⟩:=HV.out.on ht1 hf1
   simp only[Value.slice.injEq] at hvv
   obtain⟨rfl,_,rfl⟩:=hvv
   obtain⟨b,rfl,_,_,_,hcell⟩:=h3 (fun e=>by rw[e] at hlt;simp at hlt)
   have hc:=hcell k t ht
   clear hcell h3
   obtain⟨x,t',rfl⟩:∃x t',t=x::t':=by
    cases t with
    | nil=>exact absurd rfl (HN.out [] (List.mem_of_getElem? ht))
    | cons x t'=>exact⟨x,t',rfl⟩
   have hp0:0<(ah (x::t')).size:=by rw[cu];simp
   have hxv:((ah (x::t'))[0]'hp0).toNat=x.toNat:=rfl
   have htk:au (ts.take (k+1))=au (ts.take k)++[aJ (x::t')]:=by
    obtain⟨h1,h2⟩:=List.getElem?_eq_some_iff.1 ht
    rw[List.take_succ_eq_append_getElem h1,h2]
    simp[au]
   have hl1:(L++au (ts.take k)).length+1≤1000000000:=by
    simp[au,List.length_take]
    omega
   have HT1:=hid ht1
   have HF1:=hid hf1
   by_cases hU:65≤x∧x≤90
   ·have h65:((65:Int)≤(x.toNat:Int)):=by have:=UInt8.le_iff_toNat_le.1 hU.1;simp at this;omega
    have h90:((x.toNat:Int)≤90):=by have:=UInt8.le_iff_toNat_le.1 hU.2;simp at this;omega
    rw[← hxv] at h65 h90
    have hfx:aJ (x::t')=⟨2,x::t',0,0⟩:=if_pos hU
    have HP:Hid (Calls Tryz.prog 163 #[.pointer (some ⟨g,0,none⟩),.slice (some ⟨wr.heap.size,0,none⟩) 1 1] (wr.alloc (.cells #[.int .i64 2,.string (ah (x::t')),.int .i64 0,.int .i64 0] 162)) fun e w'=>e = .returned (.tuple #[])∧Wrote g tb1 wr w' (L++au (ts.take (k+1))) d m):=hid (by
     have:=xB g tb1 _ d m wr hw1 (aJ (x::t')) hl1
     rw[List.append_assoc,← htk] at this
     rw[hfx] at this
     exact this)
    clear hw1 ht htk hl1 hfx ht1 hf1 hU hxv
    go_wp2_with fail
    refine HP.out.mono ?_
    rintro e w2 ⟨rfl,h2⟩
    have HQ:=hid (Wrote.then HT1.out HF1.out h2)
    clear h2 HP
    go_wp2
    go_roundw
    case rel=>exact⟨k+1,by omega,by go_num,HQ.out⟩
    case measure=>simp[intOf];omega
   ·have hfx:aJ (x::t')=⟨5,x::t',0,0⟩:=if_neg hU
    have HP:Hid (Calls Tryz.prog 163 #[.pointer (some ⟨g,0,none⟩),.slice (some ⟨wr.heap.size,0,none⟩) 1 1] (wr.alloc (.cells #[.int .i64 5,.string (ah (x::t')),.int .i64 0,.int .i64 0] 162)) fun e w'=>e = .returned (.tuple #[])∧Wrote g tb1 wr w' (L++au (ts.take (k+1))) d m):=hid (by
     have:=xB g tb1 _ d m wr hw1 (aJ (x::t')) hl1
     rw[List.append_assoc,← htk] at this
     rw[hfx] at this
     exact this)
    have hU' : ¬((65:Int)≤(x.toNat:Int))∨((65:Int)≤(x.toNat:Int)∧¬((x.toNat:Int)≤90)):=by
     by_cases h1:(65:Int)≤(x.toNat:Int)
     ·refine .inr ⟨h1,fun h2=>hU ⟨UInt8.le_iff_toNat_le.2 ?_,UInt8.le_iff_toNat_le.2 ?_⟩⟩
      ·simp;omega
      ·simp;omega
     ·exact .inl h1
    rw[← hxv] at hU'
    clear hw1 ht htk hl1 hfx ht1 hf1 hU hxv
    rcases hU' with h65 | ⟨h65,h90⟩
    ·go_wp2_with fail
     refine HP.out.mono ?_
     rintro e w2 ⟨rfl,h2⟩
     have HQ:=hid (Wrote.then HT1.out HF1.out h2)
     clear h2 HP
     go_wp2
     go_roundw
     case rel=>exact⟨k+1,by omega,by go_num,HQ.out⟩
     case measure=>simp[intOf];omega
    ·go_wp2_with fail
     refine HP.out.mono ?_
     rintro e w2 ⟨rfl,h2⟩
     have HQ:=hid (Wrote.then HT1.out HF1.out h2)
     clear h2 HP
     go_wp2
     go_roundw
     case rel=>exact⟨k+1,by omega,by go_num,HQ.out⟩
     case measure=>simp[intOf];omega
  ·have hlt' : ¬((k:Int)<(ts.length:Int)):=by omega
   have HQ:Hid (Wrote g tb w wr (L++au ts) d m):=hid (by rw[List.take_of_length_le (by omega)] at hq;exact hq)
   clear hq
   go_wp2
   exact bodyPost_end (v:=.tuple #[]) (by simp[results,Tryz.results97,go_sem]) rfl ⟨rfl,HQ.out⟩
theorem bW (g:Nat) (tb:Option Nat) (L:List Tk) (d m:Int) (ts:List (List UInt8)) (w:World) (h:gN w g tb L d m) (hl:ts.length≤1000) (hne : ∀t∈ts,t≠[]) (hL:L.length+ts.length≤1000000000) :
  Calls Tryz.prog 97 #[.pointer (some ⟨g,0,none⟩),.slice (some ⟨w.heap.size,0,none⟩) ts.length ts.length] (w.alloc (.cells (ts.map fun t=>Value.string (ah t)).toArray 9)) fun e w'=>e = .returned (.tuple #[])∧Wrote g tb w w' (L++au ts) d m:=by
 have hb:Below w.heap.size w (w.alloc (.cells (ts.map fun t=>Value.string (ah t)).toArray 9)):=(Below.refl _ _).alloc (Nat.le_refl _) _
 refine (Ev g tb L d m _ (h.below hb) _ ts ⟨_,_,rfl,hl,fun _=>⟨_,rfl,by have:=h.lt;omega,fun e=>by have:=(h.Lb _ e).2;omega,by simp,fun j t ht=>?_⟩⟩ hne hL).mono ?_
 ·rw[cell_of_row _ _ _ _ _ _ (heap_alloc_new w _)]
  simp[ht]
 ·rintro e w' ⟨rfl,h1⟩
  exact⟨rfl,h1.new hb⟩
end Go.Proofs.YtaaggohjmhifbaaGreatDoor
