/- Packed for the hand-in: WStm LWrite WMem -/
import Derived.Test.YtaaggohjmhifbaaGreatDoorZ16
import Derived.Test.YtaaggohjmhifbaaGreatDoorZ07
import Derived.Test.YtaaggohjmhifbaaGreatDoorZ15
namespace Go.Proofs.YtaaggohjmhifbaaGreatDoor
set_option linter.unusedSimpArgs false
set_option linter.unusedVariables false
set_option maxHeartbeats 8000000
def Tm.mkNot:Tm→Tm
 | .nul x=>.nnul x
 | t=>.not t
def p8:Ex→Tm
 |
  .mk k op tb nm v xs =>
  if k=1 then .val v else if k=2 then .col tb nm else
  match xs with
  | [a]=>if k=4 then (p8 a).mkNot else if k=5 then .neg (p8 a) else .nul (p8 a)
  | [a,b]=>.op op (p8 a) (p8 b)
  | _=>.val zV
termination_by e=>SizeOf.sizeOf e
decreasing_by all_goals (simp_wf;omega)
theorem F3 (t:Tm) (h:t.ok):p8 t.ex=t:=by
 induction t with
 | val v=>show p8 (.mk 1 0 [] [] v [])=_;simp[p8]
 | col a b=>show p8 (.mk 2 0 a b zV [])=_;simp[p8]
 | op o a b ha hb=>show p8 (.mk 3 o [] [] zV [a.ex,b.ex])=_;rw[p8,ha h.2.2.1,hb h.2.2.2];rfl
 |
  not a ha =>
  show p8 (.mk 4 0 [] [] zV [a.ex])=_
  rw[p8,ha h.2]
  have hn:=h.1
  cases a with
  | nul x=>cases hn
  | _=>rfl
 | neg a ha=>show p8 (.mk 5 0 [] [] zV [a.ex])=_;rw[p8,ha h];rfl
 | nul a ha=>show p8 (.mk 6 0 [] [] zV [a.ex])=_;rw[p8,ha h];rfl
 |
  nnul a ha =>
  show p8 (.mk 4 0 [] [] zV [.mk 6 0 [] [] zV [a.ex]])=_
  rw[p8,p8,ha h];rfl
def aP:Ex→Bool
 |
  .mk k op tb nm v xs =>
  if k=1 then gG v&&(decide (op=0)&&decide (tb=[])&&decide (nm=[])&&decide (xs.length=0))
  else if k=2 then (bL nm&&(decide (tb=[])||bL tb))&&(decide (op=0)&&eqv v zV&&decide (xs.length=0))
  else if k=3 then (decide (1≤op∧op≤13)&&(decide (xs.length=2)&&xs.attach.all fun x=>aP x.1))&&(decide (tb=[])&&decide (nm=[])&&eqv v zV)
  else if k=4∨k=5∨k=6 then (decide (xs.length=1)&&xs.attach.all fun x=>aP x.1)&&(decide (op=0)&&decide (tb=[])&&decide (nm=[])&&eqv v zV)
  else false
termination_by e=>SizeOf.sizeOf e
decreasing_by all_goals (simp_wf;have:=List.sizeOf_lt_of_mem x.2;omega)
theorem all_attach {α:Type} (xs:List α) (p:α→Bool):(xs.attach.all fun x=>p x.1)=xs.all p:=by
 rw[Bool.eq_iff_iff,List.all_eq_true,List.all_eq_true]
 exact⟨fun h x hx=>h ⟨x,hx⟩ (List.mem_attach _ _),fun h x _=>h x.1 x.2⟩
theorem gU (k op:Int) (tb nm:List UInt8) (v:Vl) (xs:List Ex):aP (.mk k op tb nm v xs) =
  if k=1 then gG v&&(decide (op=0)&&decide (tb=[])&&decide (nm=[])&&decide (xs.length=0))
  else if k=2 then (bL nm&&(decide (tb=[])||bL tb))&&(decide (op=0)&&eqv v zV&&decide (xs.length=0))
  else if k=3 then (decide (1≤op∧op≤13)&&(decide (xs.length=2)&&xs.all aP))&&(decide (tb=[])&&decide (nm=[])&&eqv v zV)
  else if k=4∨k=5∨k=6 then (decide (xs.length=1)&&xs.all aP)&&(decide (op=0)&&decide (tb=[])&&decide (nm=[])&&eqv v zV)
  else false:=by
 rw[aP,all_attach]
theorem rW:eqv zV zV=true:=by decide
theorem Gr (t:Tm) (h:t.ok):aP t.ex=true:=by
 induction t with
 |
  val v =>
  show aP (.mk 1 0 [] [] v [])=true
  rw[gU,if_pos rfl,show gG v=true from h];rfl
 |
  col a b =>
  show aP (.mk 2 0 a b zV [])=true
  rw[gU,if_neg (by decide),if_pos rfl,h.1]
  rcases h.2 with h2 | h2
  ·subst h2;rfl
  ·rw[h2,Bool.or_true];rfl
 |
  op o a b ha hb =>
  show aP (.mk 3 o [] [] zV [a.ex,b.ex])=true
  rw[gU,if_neg (by decide),if_neg (by decide),if_pos rfl,decide_eq_true (⟨h.1,h.2.1⟩:1≤o∧o≤13)]
  simp[ha h.2.2.1,hb h.2.2.2,rW]
 |
  not a ha =>
  show aP (.mk 4 0 [] [] zV [a.ex])=true
  rw[gU,if_neg (by decide),if_neg (by decide),if_neg (by decide),if_pos (by decide)]
  simp[ha h.2,rW]
 |
  neg a ha =>
  show aP (.mk 5 0 [] [] zV [a.ex])=true
  rw[gU,if_neg (by decide),if_neg (by decide),if_neg (by decide),if_pos (by decide)]
  simp[ha h,rW]
 |
  nul a ha =>
  show aP (.mk 6 0 [] [] zV [a.ex])=true
  rw[gU,if_neg (by decide),if_neg (by decide),if_neg (by decide),if_pos (by decide)]
  simp[ha h,rW]
 |
  nnul a ha =>
  show aP (.mk 4 0 [] [] zV [.mk 6 0 [] [] zV [a.ex]])=true
  rw[gU,if_neg (by decide),if_neg (by decide),if_neg (by decide),if_pos (by decide)]
  simp[gU,ha h,rW]
theorem pQ : ∀(n:Nat) (e:Ex),SizeOf.sizeOf e<n→aP e=true→∃t:Tm,t.ok∧t.ex=e
 |
  n+1,.mk k op tb nm v xs,hn,h=>by
  rw[gU] at h
  split at h
  ·rename_i h1
   simp only[Bool.and_eq_true,decide_eq_true_eq] at h
   obtain⟨hv,⟨⟨h2,h3⟩,h4⟩,h5⟩:=h
   obtain rfl:xs=[]:=List.eq_nil_of_length_eq_zero h5
   subst h1 h2 h3 h4
   exact⟨.val v,hv,rfl⟩
  ·split at h
   ·rename_i h1
    simp only[Bool.and_eq_true,Bool.or_eq_true,decide_eq_true_eq] at h
    obtain⟨⟨hnn,ht⟩,⟨h2,h3⟩,h4⟩:=h
    obtain rfl:xs=[]:=List.eq_nil_of_length_eq_zero h4
    obtain rfl:=qP.1 h3
    subst h1 h2
    exact⟨.col tb nm,⟨hnn,ht⟩,rfl⟩
   ·split at h
    ·rename_i h1
     simp only[Bool.and_eq_true,decide_eq_true_eq] at h
     obtain⟨⟨ho,hl,ha⟩,⟨h2,h3⟩,h4⟩:=h
     obtain rfl:=qP.1 h4
     match xs,hl with
     |
      [a,b],_ =>
      simp only[List.all_cons,List.all_nil,Bool.and_true,Bool.and_eq_true] at ha
      obtain⟨ta,oka,ea⟩:=pQ n a (by simp at hn;omega) ha.1
      obtain⟨tb',okb,eb⟩:=pQ n b (by simp at hn;omega) ha.2
      subst h1 h2 h3
      exact⟨.op op ta tb',⟨ho.1,ho.2,oka,okb⟩,by rw[← ea,← eb];rfl⟩
    ·split at h
     ·rename_i h1
      simp only[Bool.and_eq_true,decide_eq_true_eq] at h
      obtain⟨⟨hl,ha⟩,⟨⟨h2,h3⟩,h4⟩,h5⟩:=h
      obtain rfl:=qP.1 h5
      match xs,hl with
      |
       [a],_ =>
       simp only[List.all_cons,List.all_nil,Bool.and_true] at ha
       obtain⟨ta,oka,ea⟩:=pQ n a (by simp at hn;omega) ha
       subst h2 h3 h4
       rcases h1 with rfl | rfl | rfl
       ·cases hN:ta.zX with
        | false=>exact⟨.not ta,⟨hN,oka⟩,by rw[← ea];rfl⟩
        |
         true =>
         cases ta with
         | nul x=>exact⟨.nnul x,oka,by rw[← ea];rfl⟩
         | _=>cases hN
       ·exact⟨.neg ta,oka,by rw[← ea];rfl⟩
       ·exact⟨.nul ta,oka,by rw[← ea];rfl⟩
     ·cases h
theorem lS {e:Ex} (h:aP e=true):(p8 e).ok∧(p8 e).ex=e:=by
 obtain⟨t,h1,h2⟩:=pQ (SizeOf.sizeOf e+1) e (Nat.lt_succ_self _) h
 rw[← h2,F3 t h1]
 exact⟨h1,rfl⟩
def jV (e:Ex):List Tk:=(p8 e).tk
def iX (e:Ex):Nat:=(p8 e).dp
def rQ (e:Ex):Nat:=(p8 e).sz
def aN (sep:Tk):List (List Tk)→List Tk
 | []=>[]
 | x::l=>x++l.flatMap fun y=>sep::y
theorem kM (sep:Tk) (l:List (List Tk)) (y:List Tk):aN sep (l++[y])=if l=[] then y else aN sep l++sep::y:=by
 cases l with
 | nil=>simp[aN]
 | cons x l=>simp[aN,List.flatMap_append]
def ah (l:List (List UInt8)):List Tk:=l.map aH
def aT (xs:List Ex) (ws:List (List UInt8)):List Tk:=xs.flatMap fun e=>ah ws++jV e
def bq (l:List Nat):Nat:=l.foldr max 0
def dH (l:List Ex):Nat:=bq (l.map iX)
def jQ (c:Co):List Tk:=aR c.nm::aH (if c.k=1 then [73,78,84] else [84,69,88,84])::((if c.nn=true then ah [[78,79,84],[78,85,76,76]] else [])++(if c.uq=true then ah [[85,78,73,81,85,69]] else []))
def jZ (r:List Vl):List Tk:=aH [40]::(aN (aH [44]) (r.map iy)++[aH [41]])
def lU (s:Se):List Tk:=aR s.nm::aH [61]::jV s.e
def Cx (k:Int):List UInt8:=if k=4 then [67,79,85,78,84] else if k=5 then [83,85,77] else if k=6 then [77,73,78] else [77,65,88]
def tK (i:It):List Tk:=if i.k=1 then [aH [42]] else if i.k=2 then jV (i.xs.headD Dr) else if i.k=3 then ah [[67,79,85,78,84],[40],[42],[41]] else ah [Cx i.k,[40]]++(jV (i.xs.headD Dr)++[aH [41]])
def zT (i:It):Nat:=dH i.xs
def IY (s:St):List Tk :=
 aH [83,69,76,69,67,84]::(aN (aH [44]) (s.items.map tK)++aH [70,82,79,77]::aR s.tb::((if s.jn=[] then [] else [aH [74,79,73,78],aR s.jn])++(aT s.on [[79,78]]++(aT s.wh [[87,72,69,82,69]]++(aT s.gr [[71,82,79,85,80],[66,89]]++(aT s.od [[79,82,68,69,82],[66,89]]++((if s.desc=true then [aH [68,69,83,67]] else [])++(if s.lim = -1 then [] else [aH [76,73,77,73,84],nP s.lim]))))))))
def KZ (s:St):List Tk :=
 ah [[67,82,69,65,84,69],[84,65,66,76,69]]++aR s.tb::aH [40]::(aN (aH [44]) (s.cols.map jQ)++(ah [[44],[80,82,73,77,65,82,89],[75,69,89],[40]]++aR s.prim::ah [[41],[41]]))
def lY (s:St):List Tk :=
 if s.k=1 then KZ s
 else if s.k=2 then ah [[68,82,79,80],[84,65,66,76,69]]++[aR s.tb]
 else if s.k=3 then ah [[73,78,83,69,82,84],[73,78,84,79]]++aR s.tb::aH [86,65,76,85,69,83]::aN (aH [44]) (s.rows.map jZ)
 else if s.k=4 then aH [85,80,68,65,84,69]::aR s.tb::aH [83,69,84]::(aN (aH [44]) (s.sets.map lU)++aT s.wh [[87,72,69,82,69]])
 else if s.k=5 then ah [[68,69,76,69,84,69],[70,82,79,77]]++aR s.tb::aT s.wh [[87,72,69,82,69]]
 else IY s
def wH (s:St):Nat :=
 if s.k=4 then max (bq (s.sets.map fun x=>iX x.e)) (dH s.wh)
 else if s.k=5 then dH s.wh
 else if s.k=6 then max (bq (s.items.map zT)) (max (dH s.on) (max (dH s.wh) (max (dH s.gr) (dH s.od))))
 else 0
def aZ {α:Type} (xs:List α) (a b:Nat) (p:α→Bool):Bool:=decide (a≤xs.length∧xs.length≤b)&&xs.all p
def jT (c:Co):Bool:=bL c.nm&&decide (c.k=1∨c.k=2)
def ru (r:List Vl):Bool:=aZ r 1 8 gG
def pW (s:Se):Bool:=bL s.nm&&aP s.e
def qK:Ex→Int
 | .mk k _ _ _ _ _=>k
def fq (e:Ex):Bool:=decide (qK e=2)&&aP e
def uQ (i:It):Bool:=if i.k=1∨i.k=3 then decide (i.xs.length=0) else if i.k=2∨i.k=4∨i.k=5∨i.k=6∨i.k=7 then aZ i.xs 1 1 aP else false
def mV (s:List UInt8):Bool:=decide (s=[])||bL s
def gJ (s:List UInt8):Nat:=if s=[] then 0 else 1
def Ag (s:St):Bool :=
 aZ s.items 1 8 uQ&&(mV s.jn&&(aZ s.on (gJ s.jn) (gJ s.jn) aP&&(aZ s.wh 0 1 aP&&(aZ s.gr 0 1 fq&&(aZ s.od 0 1 fq&&((!s.desc||decide (s.od.length=1))&&decide (-1≤s.lim∧s.lim≤9223372036854775807)))))))
def CJ (s:St):Bool:=decide (s.k=0∧s.tb=[]∧s.cols.length=0∧s.prim=[]∧s.rows.length=0∧s.sets.length=0∧s.items.length=0∧s.jn=[]∧s.on.length=0∧s.wh.length=0∧s.gr.length=0∧s.od.length=0∧s.desc=false∧s.lim = -1)
def xQ (s:St):St :=
 if s.k=1 then { s with k:=0,tb:=[],cols:=[],prim:=[] }
 else if s.k=3 then { s with k:=0,tb:=[],rows:=[] }
 else if s.k=4 then { s with k:=0,tb:=[],sets:=[],wh:=[] }
 else if s.k=5 then { s with k:=0,tb:=[],wh:=[] }
 else if s.k=6 then { s with k:=0,tb:=[],items:=[],jn:=[],on:=[],wh:=[],gr:=[],od:=[],desc:=false,lim:=-1 }
 else { s with k:=0,tb:=[] }
def mK (s:St):Bool :=
 if s.k=1 then aZ s.cols 1 8 jT&&bL s.prim
 else if s.k=2 then true
 else if s.k=3 then aZ s.rows 1 16 ru
 else if s.k=4 then aZ s.sets 1 8 pW&&aZ s.wh 0 1 aP
 else if s.k=5 then aZ s.wh 0 1 aP
 else if s.k=6 then Ag s
 else false
def bP (s:St):Bool:=mK s&&(bL s.tb&&CJ (xQ s))
def nO (rest:List Tk):Prop:=∀s,jk (rest.headD jG) s=true→s=[59]
theorem nO.no {rest:List Tk} (h:nO rest) {s:List UInt8} (hs:s≠[59]):jk (rest.headD jG) s=false:=by
 cases e:jk (rest.headD jG) s with
 | false=>rfl
 | true=>exact absurd (h s e) hs
theorem Ec : ∀s∈ko 0,s≠[59]∧s≠[44]∧s≠[41]:=by decide
theorem nO.stops {rest:List Tk} (h:nO rest):Stops 0 rest:=fun s hs=>h.no (Ec s hs).1
theorem xW {t:Tk} {s u:List UInt8} (h:jk t s=true) (hu:jk t u=true):s=u:=by
 unfold jk at h hu
 simp only[Bool.and_eq_true,beq_iff_eq] at h hu
 exact h.2.symm.trans hu.2
theorem jN (s:List UInt8):jk (aH s) s=true:=by
 unfold aH jk
 split<;>simp
theorem fB {s u:List UInt8} (h:s≠u):jk (aH s) u=false:=by
 cases e:jk (aH s) u with
 | false=>rfl
 | true=>exact absurd (xW (jN s) e) h
theorem fH (d bp:Int) (s:List UInt8) (ts:List Tk):nameP (RR d bp (aR s::ts))=(s,RR d bp ts):=rfl
theorem jJ {d bp:Int} {ts:List Tk} (s:List UInt8):dB s (RR d bp (aH s::ts))=((),RR d bp ts):=wX (jN s)
theorem nC (d bp:Int) (ts:List Tk):∀l:List (List UInt8),aJ l (RR d bp (ah l++ts))=((),RR d bp ts)
 | []=>rfl
 |
  s::l=>by
  unfold aJ
  rw[show ah (s::l)++ts=aH s::(ah l++ts) from rfl,aL (jJ s)]
  exact nC d bp ts l
theorem mU {d bp:Int} {ts:List Tk} (s:List UInt8):fI s (RR d bp (aH s::ts))=(true,RR d bp ts):=ku _ _ (jN s)
theorem oJ {d bp:Int} {ts:List Tk} {s:List UInt8} (h:jk (ts.headD jG) s=false):fI s (RR d bp ts)=(false,RR d bp ts):=jM _ _ h
theorem oQ {α:Type} {one:Pa α} {more:Pa Bool} {sep:Tk} {tk:α→List Tk} {d bp:Int} {rest rest':List Tk}
  (hend:more (RR d bp rest)=(false,RR d bp rest')) :
  ∀
   (xs:List α) (x:α) (m:Nat) (acc:List α),xs.length+1≤m→(∀y∈x::xs,∀ts,ts=rest∨(∃u,ts=sep::u)→one (RR d bp (tk y++ts))=(y,RR d bp ts)) →
   (∀y∈xs,∀ts,more (RR d bp (sep::(tk y++ts)))=(true,RR d bp (tk y++ts))) →
   aU one more m acc (RR d bp (aN sep ((x::xs).map tk)++rest))=(acc++x::xs,RR d bp rest')
 |
  [],x,m+1,acc,hm,hone,hmo=>by
  rw[show aN sep ([x].map tk)++rest=tk x++rest by simp[aN]]
  unfold aU
  rw[aL (hone x (by simp) rest (.inl rfl)),aL hend]
  rfl
 |
  y::xs,x,m+1,acc,hm,hone,hmo=>by
  rw[show aN sep ((x::y::xs).map tk)++rest=tk x++sep::(aN sep ((y::xs).map tk)++rest) by simp[aN]]
  unfold aU
  rw[aL (hone x (by simp) _ (.inr ⟨_,rfl⟩))]
  have e:aN sep ((y::xs).map tk)++rest=tk y++((xs.map tk).flatMap (fun y=>sep::y)++rest):=by simp[aN]
  rw[e,aL (hmo y (by simp) _),if_pos rfl,← e]
  have ih:=oQ (one:=one) (tk:=tk) hend xs y m (acc++[x]) (by simp at hm;omega) (fun z hz=>hone z (List.mem_cons_of_mem _ hz)) (fun z hz=>hmo z (List.mem_cons_of_mem _ hz))
  rw[ih]
  simp
end Go.Proofs.YtaaggohjmhifbaaGreatDoor
namespace Go.Proofs.YtaaggohjmhifbaaGreatDoor
open Go.RowKit Go.Shelf
set_option linter.unusedSimpArgs false
set_option linter.unusedVariables false
set_option maxRecDepth 20000
set_option maxHeartbeats 8000000
def Lx (t:Tk):Prop:=t.s.length≤40∧0≤t.n∧t.n≤9223372036854775807
theorem LG {t:Tk} (h:Lx t):(wr t).length≤100:=by
 obtain⟨h1,h2,h3⟩:=h
 unfold wr
 split
 ·unfold Lib.itoa
  rw[if_neg (by omega)]
  have:=(nE t.n.toNat (by omega)).2.2.2.1
  omega
 ·split
  ·have:=Gq t.s
   simp
   omega
  ·omega
theorem tJ : ∀ps:List (List UInt8),(∀p∈ps,p.length≤100)→(Lib.joinTail [32] ps).length≤101*ps.length
 | [],_=>by simp[Lib.joinTail]
 |
  p::ps,h=>by
  have ih:=tJ ps (fun q hq=>h q (by simp[hq]))
  have hp:=h p (by simp)
  have e:Lib.joinTail [32] (p::ps)=32::(p++Lib.joinTail [32] ps):=by simp[Lib.joinTail]
  rw[e]
  simp
  omega
theorem join_le (ps:List (List UInt8)) (h : ∀p∈ps,p.length≤100):(Lib.join ps [32]).length≤101*ps.length:=by
 cases ps with
 | nil=>simp[Lib.join_nil]
 |
  cons p ps =>
  rw[Lib.join_cons]
  have:=tJ ps (fun q hq=>h q (by simp[hq]))
  have hp:=h p (by simp)
  simp
  omega
def J6 (ps:List (List UInt8)):List Value:=ps.map fun l=>.string (aj l)
def oD (l:List Tk):List (List UInt8):=(l.filter fun t=>t.k != 6).map wr
theorem uY (l:List Tk) (t:Tk):oD (l++[t])=if t.k=6 then oD l else oD l++[wr t]:=by
 unfold oD
 rw[List.filter_append]
 by_cases h:t.k=6
 ·simp[h]
 ·simp[h]
theorem JH (l:List Tk):(oD l).length≤l.length:=by
 unfold oD
 rw[List.length_map]
 exact List.length_filter_le _ _
theorem BN {α:Type} (xs:List α) (k:Nat) (x:α) (h:xs[k]?=some x):xs.take (k+1)=xs.take k++[x]:=by
 obtain⟨hk,e⟩:=List.getElem?_eq_some_iff.1 h
 rw[List.take_succ_eq_append_getElem hk,e]
theorem Tryz.Jy:(Tryz.prog.info? 9).map (fun i=>(i.zero,i.size,i.bytes))=some (some (.string ⟨#[]⟩),1,16):=by kernel_rfl
def FU (w:World):Prop:=∀o:Nat,o≤13→w.cell? ⟨0,o*2,none⟩=some (.string (aj (lM o)))∧w.cell? ⟨0,o*2+1,none⟩=some (.int .i64 (bY o))
structure lV (w:World):Prop where
 tv:Ay w
 ops:FU w
 lt:10<w.heap.size
theorem lV.below {w w':World} {B:Nat} (h:lV w) (hb:Below B w w') (hB:10<B):lV w' :=
 ⟨h.tv.below hb (by omega),fun o ho=>⟨(hb.cell (p:=⟨0,o*2,none⟩) (by show 0<B;omega)).trans (h.ops o ho).1,(hb.cell (p:=⟨0,o*2+1,none⟩) (by show 0<B;omega)).trans (h.ops o ho).2⟩,Nat.lt_of_lt_of_le h.lt hb.size⟩
theorem lV.on {w w':World} (h:lV w) (hb:Below w.heap.size w w'):lV w':=h.below hb h.lt
structure cB (w:World) (g:Nat) (tb:Option Nat) (L:List Tk) (d m:Int):Prop where
 lie : ∃v,w.heap[g]?=some (.cells #[v,.int .i64 d,.int .i64 m] 98)∧w.ownsRow (g+1) 162 4 v L.length (tcs L)∧v.ownBlock=tb
 tab:lV w
 big:10<g
theorem cB.lt {w:World} {g:Nat} {tb:Option Nat} {L:List Tk} {d m:Int} (h:cB w g tb L d m):g<w.heap.size:=by
 obtain⟨v,hv,_⟩:=h.lie
 exact World.lt_of_block hv
theorem cB.Ir {w:World} {g:Nat} {tb:Option Nat} {L:List Tk} {d m:Int} (h:cB w g tb L d m):∀k,tb=some k→g<k∧k<w.heap.size:=by
 obtain⟨v,_,ho,rfl⟩:=h.lie
 exact fun k hk=>⟨(ho.lt k hk).1,(ho.lt k hk).2⟩
abbrev eO (g:Nat) (tb:Option Nat) (w w':World):Prop:=ay (fun k=>k=g∨tb=some k) w w'
def Wrote (g:Nat) (tb:Option Nat) (w w':World) (L:List Tk) (d m:Int):Prop :=
 ∃tb',cB w' g tb' L d m∧(∀k,tb'=some k→tb=some k∨w.heap.size≤k)∧eO g tb w w'
theorem cB.here {w:World} {g:Nat} {tb:Option Nat} {L:List Tk} {d m:Int} (h:cB w g tb L d m):Wrote g tb w w L d m:=⟨tb,h,fun k hk=>.inl hk,ay.refl _ _⟩
theorem Wrote.then {g:Nat} {tb tb1:Option Nat} {w w1 w2:World} {L:List Tk} {d m:Int} (h1 : ∀k,tb1=some k→tb=some k∨w.heap.size≤k) (hf:eO g tb w w1) (h2:Wrote g tb1 w1 w2 L d m):Wrote g tb w w2 L d m:=by
 obtain⟨tb2,h3,h4,h5⟩:=h2
 refine ⟨tb2,h3,fun k hk=>?_,hf.andThen h5 fun i hi=>?_⟩
 ·rcases h4 k hk with e | e
  ·exact h1 k e
  ·exact .inr (Nat.le_trans hf.size e)
 ·rcases hi with rfl | e
  ·exact .inl (.inl rfl)
  ·rcases h1 i e with e | e
   ·exact .inl (.inr e)
   ·exact .inr e
theorem cB.below {w w':World} {g:Nat} {tb:Option Nat} {L:List Tk} {d m:Int} (h:cB w g tb L d m) (hb:Below w.heap.size w w'):cB w' g tb L d m:=by
 have hlt:=h.lt
 obtain⟨v,hv,ho,e⟩:=h.lie
 exact⟨⟨v,by rw[hb.block g hlt];exact hv,rH ho hb,e⟩,h.tab.on hb,h.big⟩
theorem Wrote.new {g:Nat} {tb:Option Nat} {w w1 w2:World} {L:List Tk} {d m:Int} (hb:Below w.heap.size w w1) (h2:Wrote g tb w1 w2 L d m):Wrote g tb w w2 L d m :=
 Wrote.then (fun k hk=>.inl hk) (ay.aI hb) h2
structure fA (g:Nat) (tb:Option Nat) (w:World) (q:Nat) (o:Obj):Prop where
 at':w.heap[q]?=some o
 ng:q≠g
 nt:tb≠some q
theorem fA.on {g:Nat} {tb tb1:Option Nat} {w w1:World} {q:Nat} {o:Obj} (h:fA g tb w q o) (h1 : ∀k,tb1=some k→tb=some k∨w.heap.size≤k) (hf:eO g tb w w1):fA g tb1 w1 q o:=by
 have hq:=World.lt_of_block h.at'
 refine ⟨(hf.block q hq (fun e=>by rcases e with e | e;exact h.ng e;exact h.nt e)).trans h.at',h.ng,fun e=>?_⟩
 rcases h1 q e with e | e
 ·exact h.nt e
 ·omega
theorem fA.below {g:Nat} {tb:Option Nat} {w w1:World} {q:Nat} {o:Obj} (h:fA g tb w q o) (hb:Below w.heap.size w w1):fA g tb w1 q o :=
 ⟨(hb.block q (World.lt_of_block h.at')).trans h.at',h.ng,h.nt⟩
theorem fA.mk' {w W:World} {g:Nat} {tb:Option Nat} {L:List Tk} {d m:Int} (h:cB w g tb L d m) {q:Nat} {o:Obj} (hW:W.heap[q]?=some o) (hq:w.heap.size≤q):fA g tb W q o :=
 ⟨hW,by have:=h.lt;omega,fun e=>by have:=(h.Ir q e).2;omega⟩
theorem eO.keeps {w w':World} {g:Nat} {tb:Option Nat} {L:List Tk} {d m:Int} (h:cB w g tb L d m) (hf:eO g tb w w'):∀b,b<g→b<w.heap.size→¬(b=g∨tb=some b)∧b<g:=fun b hb _ =>
 ⟨fun e=>by rcases e with e | e;omega;have:=(h.Ir b e).1;omega,hb⟩
theorem cB.yQ {w w':World} {g:Nat} {tb:Option Nat} {L:List Tk} {d m:Int} (h:cB w g tb L d m) (hf:eO g tb w w'):Below g w w' :=
 hf.below (fun i hi=>by rcases hi with rfl | e;exact Nat.le_refl _;have:=(h.Ir i e).1;omega) (Nat.le_of_lt h.lt)
theorem jU.wz {w w':World} {g:Nat} {tb:Option Nat} {L:List Tk} {d m:Int} {x:Ex} {v:Value} (h:cB w g tb L d m) (hf:eO g tb w w') (hx:jU (fun b=>b<g) w x v):jU (fun b=>b<g) w' x v:=hx.to hf (eO.keeps h hf)
theorem aV.wz {w w':World} {g:Nat} {tb:Option Nat} {L:List Tk} {d m:Int} {x:List Ex} {v:Value} (h:cB w g tb L d m) (hf:eO g tb w w') (hx:aV (fun b=>b<g) w x v):aV (fun b=>b<g) w' x v:=hx.to hf (eO.keeps h hf)
theorem jU.new {S:Nat→Prop} {w w':World} {x:Ex} {v:Value} (hx:jU S w x v) (hb:Below w.heap.size w w'):jU S w' x v:=hx.to (R:=fun _=>False) (ay.aI hb) (fun b h _=>⟨id,h⟩)
theorem aV.new {S:Nat→Prop} {w w':World} {x:List Ex} {v:Value} (hx:aV S w x v) (hb:Below w.heap.size w w'):aV S w' x v:=hx.to (R:=fun _=>False) (ay.aI hb) (fun b h _=>⟨id,h⟩)
theorem kG {w:World} {g:Nat} {a b c:Value} {t:TypeId} (h:w.heap[g]?=some (.cells #[a,b,c] t)) :
  w.cell? ⟨g,0,none⟩=some a∧w.cell? ⟨g,1,none⟩=some b∧w.cell? ⟨g,2,none⟩=some c∧∀i,w.frozen? ⟨g,i,none⟩=false :=
 ⟨by rw[aC _ _ _ _ _ _ h];rfl,by rw[aC _ _ _ _ _ _ h];rfl,by rw[aC _ _ _ _ _ _ h];rfl,fun i=>by simp[World.frozen?,h]⟩
theorem JE {w W:World} {g:Nat} {tb:Option Nat} {L L':List Tk} {d m:Int} {v v':Value} (hw:cB w g tb L d m) (hv:W.heap[g]?=some (.cells #[v,.int .i64 d,.int .i64 m] 98)) (ho:W.ownsRow (g+1) 162 4 v' L'.length (tcs L')) (hf:eO g tb w W) (ht:v'.ownBlock=tb∨∃k,v'.ownBlock=some k∧w.heap.size≤k) :
  Wrote g tb w (W.setCell ⟨g,0,none⟩ v') L' d m:=by
 have hf2:eO g tb w (W.setCell ⟨g,0,none⟩ v'):=ay.setCell hf (.inl (.inl rfl)) v'
 refine ⟨v'.ownBlock,⟨⟨v',?_,ownsRow_setCell_below ho (Nat.lt_succ_self g) v',rfl⟩,hw.tab.below (hw.yQ hf2) hw.big,hw.big⟩,fun k hk=>?_,hf2⟩
 ·rw[setCell_eq_setRow W g 0 _ _ _ v' hv,setRow_heap W g _ _ _ _ hv]
  rfl
 ·rcases ht with e | ⟨j,e,hj⟩
  ·exact .inl (e ▸ hk)
  ·obtain rfl:=Option.some.inj (e.symm.trans hk)
   exact .inr hj
theorem FH (L:List Tk) (t:Tk):tcs (L++[t])=tcs L++[.int .i64 t.k,.string (aj t.s),.int .i64 t.n,.int .i64 t.p]:=by simp[tcs,tc]
theorem Ja (g:Nat) (tb:Option Nat) (L:List Tk) (d m:Int) (w:World) (h:cB w g tb L d m) (t:Tk) (hL:L.length+1≤1000000000) (b:Nat) (ty:TypeId) (hb:w.heap[b]?=some (.cells #[.int .i64 t.k,.string (aj t.s),.int .i64 t.n,.int .i64 t.p] ty)) :
  Calls Tryz.prog 163 #[.pointer (some ⟨g,0,none⟩),.slice (some ⟨b,0,none⟩) 1 1] w fun e w'=>e = .returned (.tuple #[])∧Wrote g tb w w' (L++[t]) d m:=by
 obtain⟨i0,hi,hz0,hz1,hz2⟩:=info_parts Tryz.Du
 have hlt:=h.lt
 obtain⟨v,hv,ho,hob⟩:=h.lie
 have k:=kG hv
 have HH:=hid h
 have HV:=hid hv
 have hnew : ∀(j:Nat) (u:Value),[Value.int .i64 t.k,.string (aj t.s),.int .i64 t.n,.int .i64 t.p][j]?=some u→w.cell? ((⟨b,0,none⟩:Addr).add j)=some u:=by
  intro j u hj
  rw[Addr.add_lit,Nat.zero_add,cell_of_row _ _ _ _ _ _ hb]
  simpa using hj
 have hone : ∀u∈[Value.int .i64 t.k,.string (aj t.s),.int .i64 t.n,.int .i64 t.p],u.oneCell'=true:=by intro u hu;simp at hu;rcases hu with rfl | rfl | rfl | rfl<;>rfl
 have HTB:=hid hob
 have hsz:g+1≤w.heap.size:=hlt
 clear h hv hb
 go_enter Tryz.func163,Tryz.ntmps163
 go_wp2_with (first
  | (
    at_builtin;refine dI _ rfl (.tmp 8) (.tmp 9) 94 rfl (g+1) 162 i0 (.agg #[.int .i64 0,.string ⟨#[]⟩,.int .i64 0,.int .i64 0]) 4 40 Tryz.underlying94 hi hz0 hz1 hz2 rfl (by decide) v L.length (tcs L) rfl ho ⟨b,0,none⟩ 1 [.int .i64 t.k,.string (aj t.s),.int .i64 t.n,.int .i64 t.p] rfl rfl hnew hone (by unfold maxLen;omega) (by omega) hsz ?_;intro v3 w3 hown3 hg3 hob3
    have HV3:Hid (w3.heap[g]?=some (.cells #[v,.int .i64 d,.int .i64 m] 98)):=hid ((hg3.block g hlt (fun e=>by have:=(ho.lt g e.symm).1;omega)).trans HV.out)
    have k3:=kG HV3.out
    obtain⟨va,vn,vc,rfl⟩:∃va vn vc,v3 = .slice va vn vc:=by
      rcases hown3.2 with⟨rfl,_⟩ | ⟨_,_,_,rfl,_⟩
      ·exact⟨_,_,_,rfl⟩
      ·exact⟨_,_,_,rfl⟩)
  | fail)
 have HF:Hid (eO g tb w w3):=hid (ay.jB hg3 (fun k hk=>.inr (HTB.out ▸ hk)))
 have hone3:Wrote g tb w (w3.setCell ⟨g,0,none⟩ (.slice va vn vc)) (L++[t]) d m:=by
  refine JE HH.out HV3.out ?_ HF.out ?_
  ·rw[List.length_append,FH];exact hown3
  ·rcases hob3 with e | e
   · exact .inl (e.trans HTB.out)
   · exact .inr ⟨_,e,Nat.le_refl _⟩
 exact bodyPost_end (v:=.tuple #[]) (by simp[results,Tryz.results163,go_sem]) rfl ⟨rfl,hone3⟩
theorem qU (g:Nat) (tb:Option Nat) (L:List Tk) (d m:Int) (w:World) (h:cB w g tb L d m) (t:Tk) (hL:L.length+1≤1000000000) :
  Calls Tryz.prog 163 #[.pointer (some ⟨g,0,none⟩),.slice (some ⟨w.heap.size,0,none⟩) 1 1] (w.alloc (.cells #[.int .i64 t.k,.string (aj t.s),.int .i64 t.n,.int .i64 t.p] 162)) fun e w'=>e = .returned (.tuple #[])∧Wrote g tb w w' (L++[t]) d m:=by
 have hb:Below w.heap.size w (w.alloc (.cells #[.int .i64 t.k,.string (aj t.s),.int .i64 t.n,.int .i64 t.p] 162)):=(Below.refl _ _).alloc (Nat.le_refl _) _
 refine (Ja g tb L d m _ (h.below hb) t hL w.heap.size _ (heap_alloc_new w _)).mono ?_
 rintro e w' ⟨rfl,h1⟩
 exact⟨rfl,h1.new hb⟩
theorem dS (g:Nat) (tb:Option Nat) (L:List Tk) (d m:Int) (w:World) (h:cB w g tb L d m) (s:List UInt8) (hL:L.length+1≤1000000000) :
  Calls Tryz.prog 99 #[.pointer (some ⟨g,0,none⟩),.string (aj s)] w fun e w'=>e = .returned (.tuple #[])∧Wrote g tb w w' (L++[aR s]) d m:=by
 have HP:Hid (Calls Tryz.prog 163 #[.pointer (some ⟨g,0,none⟩),.slice (some ⟨w.heap.size,0,none⟩) 1 1] (w.alloc (.cells #[.int .i64 1,.string (aj s),.int .i64 0,.int .i64 0] 162)) fun e w'=>e = .returned (.tuple #[])∧Wrote g tb w w' (L++[aR s]) d m):=hid (qU g tb L d m w h (aR s) hL)
 clear h
 go_enter Tryz.func99,Tryz.ntmps99
 go_wp2_with fail
 refine HP.out.mono ?_
 rintro e w1 ⟨rfl,h1⟩
 go_wp2
 exact bodyPost_end (v:=.tuple #[]) (by simp[results,Tryz.results99,go_sem]) rfl ⟨rfl,h1⟩
theorem mY (g:Nat) (tb:Option Nat) (L:List Tk) (d m:Int) (w:World) (h:cB w g tb L d m) (n:Int) (hL:L.length+1≤1000000000) :
  Calls Tryz.prog 171 #[.pointer (some ⟨g,0,none⟩),.int .i64 n] w fun e w'=>e = .returned (.tuple #[])∧Wrote g tb w w' (L++[nP n]) d m:=by
 have HP:Hid (Calls Tryz.prog 163 #[.pointer (some ⟨g,0,none⟩),.slice (some ⟨w.heap.size,0,none⟩) 1 1] (w.alloc (.cells #[.int .i64 3,.string ⟨#[]⟩,.int .i64 n,.int .i64 0] 162)) fun e w'=>e = .returned (.tuple #[])∧Wrote g tb w w' (L++[nP n]) d m):=hid (qU g tb L d m w h (nP n) hL)
 clear h
 go_enter Tryz.func171,Tryz.ntmps171
 go_wp2_with fail
 refine HP.out.mono ?_
 rintro e w1 ⟨rfl,h1⟩
 go_wp2
 exact bodyPost_end (v:=.tuple #[]) (by simp[results,Tryz.results171,go_sem]) rfl ⟨rfl,h1⟩
theorem KV (g:Nat) (tb:Option Nat) (L:List Tk) (d m:Int) (w:World) (h:cB w g tb L d m) (s:List UInt8) (hL:L.length+1≤1000000000) :
  Calls Tryz.prog 211 #[.pointer (some ⟨g,0,none⟩),.string (aj s)] w fun e w'=>e = .returned (.tuple #[])∧Wrote g tb w w' (L++[LP s]) d m:=by
 have HP:Hid (Calls Tryz.prog 163 #[.pointer (some ⟨g,0,none⟩),.slice (some ⟨w.heap.size,0,none⟩) 1 1] (w.alloc (.cells #[.int .i64 4,.string (aj s),.int .i64 0,.int .i64 0] 162)) fun e w'=>e = .returned (.tuple #[])∧Wrote g tb w w' (L++[LP s]) d m):=hid (qU g tb L d m w h (LP s) hL)
 clear h
 go_enter Tryz.func211,Tryz.ntmps211
 go_wp2_with fail
 refine HP.out.mono ?_
 rintro e w1 ⟨rfl,h1⟩
 go_wp2
 exact bodyPost_end (v:=.tuple #[]) (by simp[results,Tryz.results211,go_sem]) rfl ⟨rfl,h1⟩
def wR (g:Nat) (tb:Option Nat) (w:World) (v:Value) (ts:List (List UInt8)):Prop :=
 ∃a c,v = .slice a ts.length c∧ts.length≤1000∧(ts≠[]→∃b,a=some ⟨b,0,none⟩∧b≠g∧tb≠some b∧b<w.heap.size∧∀j t,ts[j]?=some t→w.cell? ⟨b,j,none⟩=some (.string (aj t)))
theorem wR.on {g:Nat} {tb tb1:Option Nat} {w w1:World} {v:Value} {ts:List (List UInt8)} (h:wR g tb w v ts) (h1 : ∀k,tb1=some k→tb=some k∨w.heap.size≤k) (hf:eO g tb w w1):wR g tb1 w1 v ts:=by
 obtain⟨a,c,hv,hl,h3⟩:=h
 refine ⟨a,c,hv,hl,fun hne=>?_⟩
 obtain⟨b,ha,hg,ht,hlt,hc⟩:=h3 hne
 refine ⟨b,ha,hg,fun e=>?_,Nat.lt_of_lt_of_le hlt hf.size,fun j t hj=>hf.cell (hc j t hj) (fun e=>by rcases e with e | e;exact hg e;exact ht e)⟩
 rcases h1 b e with e | e
 ·exact ht e
 ·omega
theorem sD (g:Nat) (tb:Option Nat) (L:List Tk) (d m:Int) (w:World) (h:cB w g tb L d m) (v:Value) (ts:List (List UInt8)) (hv:wR g tb w v ts) (hne : ∀t∈ts,t≠[]) (hL:L.length+ts.length≤1000000000) :
  Calls Tryz.prog 97 #[.pointer (some ⟨g,0,none⟩),v] w fun e w'=>e = .returned (.tuple #[])∧Wrote g tb w w' (L++ah ts) d m:=by
 have HV:=hid hv
 have HW:=hid h.here
 have HN:=hid hne
 obtain⟨a,c,rfl,hlen,_⟩:=hv
 clear h hne
 go_enter Tryz.func97,Tryz.ntmps97
 go_wp2_with fail
 go_loopw [5,6,9] (fun _ _ i wr=>∃(k:Nat),k≤ts.length∧i = .int .i64 k∧Wrote g tb w wr (L++ah (ts.take k)) d m) (fun _ _ i _=>ts.length-(intOf i).toNat)
 case atStart=>exact⟨0,Nat.zero_le _,rfl,by simpa [ah] using HW.out⟩
 case round =>
  obtain⟨k,hk,rfl,hq⟩:=hrel
  by_cases hlt:k<ts.length
  ·obtain⟨t,ht⟩:∃t,ts[k]?=some t:=⟨_,List.getElem?_eq_getElem hlt⟩
   have hlt':((k:Int)<(ts.length:Int)):=by omega
   obtain⟨tb1,hw1,ht1,hf1⟩:=hq
   obtain⟨a',c',hvv,_,h3⟩:=HV.out.on ht1 hf1
   simp only[Value.slice.injEq] at hvv
   obtain⟨rfl,_,rfl⟩:=hvv
   obtain⟨b,rfl,_,_,_,hcell⟩:=h3 (fun e=>by rw[e] at hlt;simp at hlt)
   have hc:=hcell k t ht
   clear hcell h3
   obtain⟨x,t',rfl⟩:∃x t',t=x::t':=by
    cases t with
    | nil=>exact absurd rfl (HN.out [] (List.mem_of_getElem? ht))
    | cons x t'=>exact⟨x,t',rfl⟩
   have hp0:0<(aj (x::t')).size:=by rw[dz];simp
   have hxv:((aj (x::t'))[0]'hp0).toNat=x.toNat:=rfl
   have htk:ah (ts.take (k+1))=ah (ts.take k)++[aH (x::t')]:=by
    obtain⟨h1,h2⟩:=List.getElem?_eq_some_iff.1 ht
    rw[List.take_succ_eq_append_getElem h1,h2]
    simp[ah]
   have hl1:(L++ah (ts.take k)).length+1≤1000000000:=by
    simp[ah,List.length_take]
    omega
   have HT1:=hid ht1
   have HF1:=hid hf1
   by_cases hU:65≤x∧x≤90
   ·have h65:((65:Int)≤(x.toNat:Int)):=by have:=UInt8.le_iff_toNat_le.1 hU.1;simp at this;omega
    have h90:((x.toNat:Int)≤90):=by have:=UInt8.le_iff_toNat_le.1 hU.2;simp at this;omega
    rw[← hxv] at h65 h90
    have hfx:aH (x::t')=⟨2,x::t',0,0⟩:=if_pos hU
    have HP:Hid (Calls Tryz.prog 163 #[.pointer (some ⟨g,0,none⟩),.slice (some ⟨wr.heap.size,0,none⟩) 1 1] (wr.alloc (.cells #[.int .i64 2,.string (aj (x::t')),.int .i64 0,.int .i64 0] 162)) fun e w'=>e = .returned (.tuple #[])∧Wrote g tb1 wr w' (L++ah (ts.take (k+1))) d m):=hid (by
     have:=qU g tb1 _ d m wr hw1 (aH (x::t')) hl1
     rw[List.append_assoc,← htk] at this
     rw[hfx] at this
     exact this)
    clear hw1 ht htk hl1 hfx ht1 hf1 hU hxv
    go_wp2_with fail
    refine HP.out.mono ?_
    rintro e w2 ⟨rfl,h2⟩
    have HQ:=hid (Wrote.then HT1.out HF1.out h2)
    clear h2 HP
    go_wp2
    go_roundw
    case rel=>exact⟨k+1,by omega,by go_num,HQ.out⟩
    case measure=>simp[intOf];omega
   ·have hfx:aH (x::t')=⟨5,x::t',0,0⟩:=if_neg hU
    have HP:Hid (Calls Tryz.prog 163 #[.pointer (some ⟨g,0,none⟩),.slice (some ⟨wr.heap.size,0,none⟩) 1 1] (wr.alloc (.cells #[.int .i64 5,.string (aj (x::t')),.int .i64 0,.int .i64 0] 162)) fun e w'=>e = .returned (.tuple #[])∧Wrote g tb1 wr w' (L++ah (ts.take (k+1))) d m):=hid (by
     have:=qU g tb1 _ d m wr hw1 (aH (x::t')) hl1
     rw[List.append_assoc,← htk] at this
     rw[hfx] at this
     exact this)
    have hU' : ¬((65:Int)≤(x.toNat:Int))∨((65:Int)≤(x.toNat:Int)∧¬((x.toNat:Int)≤90)):=by
     by_cases h1:(65:Int)≤(x.toNat:Int)
     ·refine .inr ⟨h1,fun h2=>hU ⟨UInt8.le_iff_toNat_le.2 ?_,UInt8.le_iff_toNat_le.2 ?_⟩⟩
      ·simp;omega
      ·simp;omega
     ·exact .inl h1
    rw[← hxv] at hU'
    clear hw1 ht htk hl1 hfx ht1 hf1 hU hxv
    rcases hU' with h65 | ⟨h65,h90⟩
    ·go_wp2_with fail
     refine HP.out.mono ?_
     rintro e w2 ⟨rfl,h2⟩
     have HQ:=hid (Wrote.then HT1.out HF1.out h2)
     clear h2 HP
     go_wp2
     go_roundw
     case rel=>exact⟨k+1,by omega,by go_num,HQ.out⟩
     case measure=>simp[intOf];omega
    ·go_wp2_with fail
     refine HP.out.mono ?_
     rintro e w2 ⟨rfl,h2⟩
     have HQ:=hid (Wrote.then HT1.out HF1.out h2)
     clear h2 HP
     go_wp2
     go_roundw
     case rel=>exact⟨k+1,by omega,by go_num,HQ.out⟩
     case measure=>simp[intOf];omega
  ·have hlt' : ¬((k:Int)<(ts.length:Int)):=by omega
   have HQ:Hid (Wrote g tb w wr (L++ah ts) d m):=hid (by rw[List.take_of_length_le (by omega)] at hq;exact hq)
   clear hq
   go_wp2
   exact bodyPost_end (v:=.tuple #[]) (by simp[results,Tryz.results97,go_sem]) rfl ⟨rfl,HQ.out⟩
theorem aG (g:Nat) (tb:Option Nat) (L:List Tk) (d m:Int) (ts:List (List UInt8)) (w:World) (h:cB w g tb L d m) (hl:ts.length≤1000) (hne : ∀t∈ts,t≠[]) (hL:L.length+ts.length≤1000000000) :
  Calls Tryz.prog 97 #[.pointer (some ⟨g,0,none⟩),.slice (some ⟨w.heap.size,0,none⟩) ts.length ts.length] (w.alloc (.cells (ts.map fun t=>Value.string (aj t)).toArray 9)) fun e w'=>e = .returned (.tuple #[])∧Wrote g tb w w' (L++ah ts) d m:=by
 have hb:Below w.heap.size w (w.alloc (.cells (ts.map fun t=>Value.string (aj t)).toArray 9)):=(Below.refl _ _).alloc (Nat.le_refl _) _
 refine (sD g tb L d m _ (h.below hb) _ ts ⟨_,_,rfl,hl,fun _=>⟨_,rfl,by have:=h.lt;omega,fun e=>by have:=(h.Ir _ e).2;omega,by simp,fun j t ht=>?_⟩⟩ hne hL).mono ?_
 ·rw[cell_of_row _ _ _ _ _ _ (heap_alloc_new w _)]
  simp[ht]
 ·rintro e w' ⟨rfl,h1⟩
  exact⟨rfl,h1.new hb⟩
end Go.Proofs.YtaaggohjmhifbaaGreatDoor
