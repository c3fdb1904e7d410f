/- Packed for the hand-in: WStm LWrite WMem -/
import Derived.Test.YtnidnipiihhnaaaGreatDoorZ16
import Derived.Test.YtnidnipiihhnaaaGreatDoorZ07
import Derived.Test.YtnidnipiihhnaaaGreatDoorZ15
namespace Go.Proofs.YtnidnipiihhnaaaGreatDoor
set_option linter.unusedSimpArgs false
set_option linter.unusedVariables false
set_option maxHeartbeats 8000000
def Tm.mkNot:Tm→Tm
 | .nul x=>.nnul x
 | t=>.not t
def lD:Ex→Tm
 |
  .mk k op tb nm v xs =>
  if k=1 then .val v else if k=2 then .col tb nm else
  match xs with
  | [a]=>if k=4 then (lD a).mkNot else if k=5 then .neg (lD a) else .nul (lD a)
  | [a,b]=>.op op (lD a) (lD b)
  | _=>.val zV
termination_by e=>SizeOf.sizeOf e
decreasing_by all_goals (simp_wf;omega)
theorem wX (t:Tm) (h:t.ok):lD t.ex=t:=by
 induction t with
 | val v=>show lD (.mk 1 0 [] [] v [])=_;simp[lD]
 | col a b=>show lD (.mk 2 0 a b zV [])=_;simp[lD]
 | op o a b ha hb=>show lD (.mk 3 o [] [] zV [a.ex,b.ex])=_;rw[lD,ha h.2.2.1,hb h.2.2.2];rfl
 |
  not a ha =>
  show lD (.mk 4 0 [] [] zV [a.ex])=_
  rw[lD,ha h.2]
  have hn:=h.1
  cases a with
  | nul x=>cases hn
  | _=>rfl
 | neg a ha=>show lD (.mk 5 0 [] [] zV [a.ex])=_;rw[lD,ha h];rfl
 | nul a ha=>show lD (.mk 6 0 [] [] zV [a.ex])=_;rw[lD,ha h];rfl
 |
  nnul a ha =>
  show lD (.mk 4 0 [] [] zV [.mk 6 0 [] [] zV [a.ex]])=_
  rw[lD,lD,ha h];rfl
def aN:Ex→Bool
 |
  .mk k op tb nm v xs =>
  if k=1 then fq v&&(decide (op=0)&&decide (tb=[])&&decide (nm=[])&&decide (xs.length=0))
  else if k=2 then (bM nm&&(decide (tb=[])||bM tb))&&(decide (op=0)&&eqv v zV&&decide (xs.length=0))
  else if k=3 then (decide (1≤op∧op≤13)&&(decide (xs.length=2)&&xs.attach.all fun x=>aN x.1))&&(decide (tb=[])&&decide (nm=[])&&eqv v zV)
  else if k=4∨k=5∨k=6 then (decide (xs.length=1)&&xs.attach.all fun x=>aN x.1)&&(decide (op=0)&&decide (tb=[])&&decide (nm=[])&&eqv v zV)
  else false
termination_by e=>SizeOf.sizeOf e
decreasing_by all_goals (simp_wf;have:=List.sizeOf_lt_of_mem x.2;omega)
theorem all_attach {α:Type} (xs:List α) (p:α→Bool):(xs.attach.all fun x=>p x.1)=xs.all p:=by
 rw[Bool.eq_iff_iff,List.all_eq_true,List.all_eq_true]
 exact⟨fun h x hx=>h ⟨x,hx⟩ (List.mem_attach _ _),fun h x _=>h x.1 x.2⟩
theorem gK (k op:Int) (tb nm:List UInt8) (v:Vl) (xs:List Ex):aN (.mk k op tb nm v xs) =
  if k=1 then fq v&&(decide (op=0)&&decide (tb=[])&&decide (nm=[])&&decide (xs.length=0))
  else if k=2 then (bM nm&&(decide (tb=[])||bM tb))&&(decide (op=0)&&eqv v zV&&decide (xs.length=0))
  else if k=3 then (decide (1≤op∧op≤13)&&(decide (xs.length=2)&&xs.all aN))&&(decide (tb=[])&&decide (nm=[])&&eqv v zV)
  else if k=4∨k=5∨k=6 then (decide (xs.length=1)&&xs.all aN)&&(decide (op=0)&&decide (tb=[])&&decide (nm=[])&&eqv v zV)
  else false:=by
 rw[aN,all_attach]
theorem rM:eqv zV zV=true:=by decide
theorem tZ (t:Tm) (h:t.ok):aN t.ex=true:=by
 induction t with
 |
  val v =>
  show aN (.mk 1 0 [] [] v [])=true
  rw[gK,if_pos rfl,show fq v=true from h];rfl
 |
  col a b =>
  show aN (.mk 2 0 a b zV [])=true
  rw[gK,if_neg (by decide),if_pos rfl,h.1]
  rcases h.2 with h2 | h2
  ·subst h2;rfl
  ·rw[h2,Bool.or_true];rfl
 |
  op o a b ha hb =>
  show aN (.mk 3 o [] [] zV [a.ex,b.ex])=true
  rw[gK,if_neg (by decide),if_neg (by decide),if_pos rfl,decide_eq_true (⟨h.1,h.2.1⟩:1≤o∧o≤13)]
  simp[ha h.2.2.1,hb h.2.2.2,rM]
 |
  not a ha =>
  show aN (.mk 4 0 [] [] zV [a.ex])=true
  rw[gK,if_neg (by decide),if_neg (by decide),if_neg (by decide),if_pos (by decide)]
  simp[ha h.2,rM]
 |
  neg a ha =>
  show aN (.mk 5 0 [] [] zV [a.ex])=true
  rw[gK,if_neg (by decide),if_neg (by decide),if_neg (by decide),if_pos (by decide)]
  simp[ha h,rM]
 |
  nul a ha =>
  show aN (.mk 6 0 [] [] zV [a.ex])=true
  rw[gK,if_neg (by decide),if_neg (by decide),if_neg (by decide),if_pos (by decide)]
  simp[ha h,rM]
 |
  nnul a ha =>
  show aN (.mk 4 0 [] [] zV [.mk 6 0 [] [] zV [a.ex]])=true
  rw[gK,if_neg (by decide),if_neg (by decide),if_neg (by decide),if_pos (by decide)]
  simp[gK,ha h,rM]
theorem o9 : ∀(n:Nat) (e:Ex),SizeOf.sizeOf e<n→aN e=true→∃t:Tm,t.ok∧t.ex=e
 |
  n+1,.mk k op tb nm v xs,hn,h=>by
  rw[gK] at h
  split at h
  ·rename_i h1
   simp only[Bool.and_eq_true,decide_eq_true_eq] at h
   obtain⟨hv,⟨⟨h2,h3⟩,h4⟩,h5⟩:=h
   obtain rfl:xs=[]:=List.eq_nil_of_length_eq_zero h5
   subst h1 h2 h3 h4
   exact⟨.val v,hv,rfl⟩
  ·split at h
   ·rename_i h1
    simp only[Bool.and_eq_true,Bool.or_eq_true,decide_eq_true_eq] at h
    obtain⟨⟨hnn,ht⟩,⟨h2,h3⟩,h4⟩:=h
    obtain rfl:xs=[]:=List.eq_nil_of_length_eq_zero h4
    obtain rfl:=mO.1 h3
    subst h1 h2
    exact⟨.col tb nm,⟨hnn,ht⟩,rfl⟩
   ·split at h
    ·rename_i h1
     simp only[Bool.and_eq_true,decide_eq_true_eq] at h
     obtain⟨⟨ho,hl,ha⟩,⟨h2,h3⟩,h4⟩:=h
     obtain rfl:=mO.1 h4
     match xs,hl with
     |
      [a,b],_ =>
      simp only[List.all_cons,List.all_nil,Bool.and_true,Bool.and_eq_true] at ha
      obtain⟨ta,oka,ea⟩:=o9 n a (by simp at hn;omega) ha.1
      obtain⟨tb',okb,eb⟩:=o9 n b (by simp at hn;omega) ha.2
      subst h1 h2 h3
      exact⟨.op op ta tb',⟨ho.1,ho.2,oka,okb⟩,by rw[← ea,← eb];rfl⟩
    ·split at h
     ·rename_i h1
      simp only[Bool.and_eq_true,decide_eq_true_eq] at h
      obtain⟨⟨hl,ha⟩,⟨⟨h2,h3⟩,h4⟩,h5⟩:=h
      obtain rfl:=mO.1 h5
      match xs,hl with
      |
       [a],_ =>
       simp only[List.all_cons,List.all_nil,Bool.and_true] at ha
       obtain⟨ta,oka,ea⟩:=o9 n a (by simp at hn;omega) ha
       subst h2 h3 h4
       rcases h1 with rfl | rfl | rfl
       ·cases hN:ta.zM with
        | false=>exact⟨.not ta,⟨hN,oka⟩,by rw[← ea];rfl⟩
        |
         true =>
         cases ta with
         | nul x=>exact⟨.nnul x,oka,by rw[← ea];rfl⟩
         | _=>cases hN
       ·exact⟨.neg ta,oka,by rw[← ea];rfl⟩
       ·exact⟨.nul ta,oka,by rw[← ea];rfl⟩
     ·cases h
theorem jo {e:Ex} (h:aN e=true):(lD e).ok∧(lD e).ex=e:=by
 obtain⟨t,h1,h2⟩:=o9 (SizeOf.sizeOf e+1) e (Nat.lt_succ_self _) h
 rw[← h2,wX t h1]
 exact⟨h1,rfl⟩
def je (e:Ex):List Tk:=(lD e).tk
def iM (e:Ex):Nat:=(lD e).dp
def nA (e:Ex):Nat:=(lD e).sz
def aQ (sep:Tk):List (List Tk)→List Tk
 | []=>[]
 | x::l=>x++l.flatMap fun y=>sep::y
theorem kM (sep:Tk) (l:List (List Tk)) (y:List Tk):aQ sep (l++[y])=if l=[] then y else aQ sep l++sep::y:=by
 cases l with
 | nil=>simp[aQ]
 | cons x l=>simp[aQ,List.flatMap_append]
def ah (l:List (List UInt8)):List Tk:=l.map aI
def aW (xs:List Ex) (ws:List (List UInt8)):List Tk:=xs.flatMap fun e=>ah ws++je e
def bq (l:List Nat):Nat:=l.foldr max 0
def dG (l:List Ex):Nat:=bq (l.map iM)
def kE (c:Co):List Tk:=aT c.nm::aI (if c.k=1 then [73,78,84] else [84,69,88,84])::((if c.nn=true then ah [[78,79,84],[78,85,76,76]] else [])++(if c.uq=true then ah [[85,78,73,81,85,69]] else []))
def jW (r:List Vl):List Tk:=aI [40]::(aQ (aI [44]) (r.map gX)++[aI [41]])
def lF (s:Se):List Tk:=aT s.nm::aI [61]::je s.e
def AY (k:Int):List UInt8:=if k=4 then [67,79,85,78,84] else if k=5 then [83,85,77] else if k=6 then [77,73,78] else [77,65,88]
def sO (i:It):List Tk:=if i.k=1 then [aI [42]] else if i.k=2 then je (i.xs.headD Ag) else if i.k=3 then ah [[67,79,85,78,84],[40],[42],[41]] else ah [AY i.k,[40]]++(je (i.xs.headD Ag)++[aI [41]])
def yZ (i:It):Nat:=dG i.xs
def Hg (s:St):List Tk :=
 aI [83,69,76,69,67,84]::(aQ (aI [44]) (s.items.map sO)++aI [70,82,79,77]::aT s.tb::((if s.jn=[] then [] else [aI [74,79,73,78],aT s.jn])++(aW s.on [[79,78]]++(aW s.wh [[87,72,69,82,69]]++(aW s.gr [[71,82,79,85,80],[66,89]]++(aW s.od [[79,82,68,69,82],[66,89]]++((if s.desc=true then [aI [68,69,83,67]] else [])++(if s.lim = -1 then [] else [aI [76,73,77,73,84],ny s.lim]))))))))
def J7 (s:St):List Tk :=
 ah [[67,82,69,65,84,69],[84,65,66,76,69]]++aT s.tb::aI [40]::(aQ (aI [44]) (s.cols.map kE)++(ah [[44],[80,82,73,77,65,82,89],[75,69,89],[40]]++aT s.prim::ah [[41],[41]]))
def pI (s:St):List Tk :=
 if s.k=1 then J7 s
 else if s.k=2 then ah [[68,82,79,80],[84,65,66,76,69]]++[aT s.tb]
 else if s.k=3 then ah [[73,78,83,69,82,84],[73,78,84,79]]++aT s.tb::aI [86,65,76,85,69,83]::aQ (aI [44]) (s.rows.map jW)
 else if s.k=4 then aI [85,80,68,65,84,69]::aT s.tb::aI [83,69,84]::(aQ (aI [44]) (s.sets.map lF)++aW s.wh [[87,72,69,82,69]])
 else if s.k=5 then ah [[68,69,76,69,84,69],[70,82,79,77]]++aT s.tb::aW s.wh [[87,72,69,82,69]]
 else Hg s
def x9 (s:St):Nat :=
 if s.k=4 then max (bq (s.sets.map fun x=>iM x.e)) (dG s.wh)
 else if s.k=5 then dG s.wh
 else if s.k=6 then max (bq (s.items.map yZ)) (max (dG s.on) (max (dG s.wh) (max (dG s.gr) (dG s.od))))
 else 0
def bf {α:Type} (xs:List α) (a b:Nat) (p:α→Bool):Bool:=decide (a≤xs.length∧xs.length≤b)&&xs.all p
def lU (c:Co):Bool:=bM c.nm&&decide (c.k=1∨c.k=2)
def qN (r:List Vl):Bool:=bf r 1 8 fq
def nY (s:Se):Bool:=bM s.nm&&aN s.e
def qo:Ex→Int
 | .mk k _ _ _ _ _=>k
def eu (e:Ex):Bool:=decide (qo e=2)&&aN e
def tN (i:It):Bool:=if i.k=1∨i.k=3 then decide (i.xs.length=0) else if i.k=2∨i.k=4∨i.k=5∨i.k=6∨i.k=7 then bf i.xs 1 1 aN else false
def mD (s:List UInt8):Bool:=decide (s=[])||bM s
def fI (s:List UInt8):Nat:=if s=[] then 0 else 1
def xQ (s:St):Bool :=
 bf s.items 1 8 tN&&(mD s.jn&&(bf s.on (fI s.jn) (fI s.jn) aN&&(bf s.wh 0 1 aN&&(bf s.gr 0 1 eu&&(bf s.od 0 1 eu&&((!s.desc||decide (s.od.length=1))&&decide (-1≤s.lim∧s.lim≤9223372036854775807)))))))
def FX (s:St):Bool:=decide (s.k=0∧s.tb=[]∧s.cols.length=0∧s.prim=[]∧s.rows.length=0∧s.sets.length=0∧s.items.length=0∧s.jn=[]∧s.on.length=0∧s.wh.length=0∧s.gr.length=0∧s.od.length=0∧s.desc=false∧s.lim = -1)
def zu (s:St):St :=
 if s.k=1 then { s with k:=0,tb:=[],cols:=[],prim:=[] }
 else if s.k=3 then { s with k:=0,tb:=[],rows:=[] }
 else if s.k=4 then { s with k:=0,tb:=[],sets:=[],wh:=[] }
 else if s.k=5 then { s with k:=0,tb:=[],wh:=[] }
 else if s.k=6 then { s with k:=0,tb:=[],items:=[],jn:=[],on:=[],wh:=[],gr:=[],od:=[],desc:=false,lim:=-1 }
 else { s with k:=0,tb:=[] }
def nC (s:St):Bool :=
 if s.k=1 then bf s.cols 1 8 lU&&bM s.prim
 else if s.k=2 then true
 else if s.k=3 then bf s.rows 1 16 qN
 else if s.k=4 then bf s.sets 1 8 nY&&bf s.wh 0 1 aN
 else if s.k=5 then bf s.wh 0 1 aN
 else if s.k=6 then xQ s
 else false
def dQ (s:St):Bool:=nC s&&(bM s.tb&&FX (zu s))
def nu (rest:List Tk):Prop:=∀s,jm (rest.headD jJ) s=true→s=[59]
theorem nu.no {rest:List Tk} (h:nu rest) {s:List UInt8} (hs:s≠[59]):jm (rest.headD jJ) s=false:=by
 cases e:jm (rest.headD jJ) s with
 | false=>rfl
 | true=>exact absurd (h s e) hs
theorem Di : ∀s∈j5 0,s≠[59]∧s≠[44]∧s≠[41]:=by decide
theorem nu.stops {rest:List Tk} (h:nu rest):Stops 0 rest:=fun s hs=>h.no (Di s hs).1
theorem wV {t:Tk} {s u:List UInt8} (h:jm t s=true) (hu:jm t u=true):s=u:=by
 unfold jm at h hu
 simp only[Bool.and_eq_true,beq_iff_eq] at h hu
 exact h.2.symm.trans hu.2
theorem jR (s:List UInt8):jm (aI s) s=true:=by
 unfold aI jm
 split<;>simp
theorem eX {s u:List UInt8} (h:s≠u):jm (aI s) u=false:=by
 cases e:jm (aI s) u with
 | false=>rfl
 | true=>exact absurd (wV (jR s) e) h
theorem fB (d bp:Int) (s:List UInt8) (ts:List Tk):nameP (RR d bp (aT s::ts))=(s,RR d bp ts):=rfl
theorem jL {d bp:Int} {ts:List Tk} (s:List UInt8):dx s (RR d bp (aI s::ts))=((),RR d bp ts):=vT (jR s)
theorem mZ (d bp:Int) (ts:List Tk):∀l:List (List UInt8),aJ l (RR d bp (ah l++ts))=((),RR d bp ts)
 | []=>rfl
 |
  s::l=>by
  unfold aJ
  rw[show ah (s::l)++ts=aI s::(ah l++ts) from rfl,aL (jL s)]
  exact mZ d bp ts l
theorem lW {d bp:Int} {ts:List Tk} (s:List UInt8):fF s (RR d bp (aI s::ts))=(true,RR d bp ts):=j3 _ _ (jR s)
theorem nH {d bp:Int} {ts:List Tk} {s:List UInt8} (h:jm (ts.headD jJ) s=false):fF s (RR d bp ts)=(false,RR d bp ts):=jO _ _ h
theorem oI {α:Type} {one:Pa α} {more:Pa Bool} {sep:Tk} {tk:α→List Tk} {d bp:Int} {rest rest':List Tk}
  (hend:more (RR d bp rest)=(false,RR d bp rest')) :
  ∀
   (xs:List α) (x:α) (m:Nat) (acc:List α),xs.length+1≤m→(∀y∈x::xs,∀ts,ts=rest∨(∃u,ts=sep::u)→one (RR d bp (tk y++ts))=(y,RR d bp ts)) →
   (∀y∈xs,∀ts,more (RR d bp (sep::(tk y++ts)))=(true,RR d bp (tk y++ts))) →
   aV one more m acc (RR d bp (aQ sep ((x::xs).map tk)++rest))=(acc++x::xs,RR d bp rest')
 |
  [],x,m+1,acc,hm,hone,hmo=>by
  rw[show aQ sep ([x].map tk)++rest=tk x++rest by simp[aQ]]
  unfold aV
  rw[aL (hone x (by simp) rest (.inl rfl)),aL hend]
  rfl
 |
  y::xs,x,m+1,acc,hm,hone,hmo=>by
  rw[show aQ sep ((x::y::xs).map tk)++rest=tk x++sep::(aQ sep ((y::xs).map tk)++rest) by simp[aQ]]
  unfold aV
  rw[aL (hone x (by simp) _ (.inr ⟨_,rfl⟩))]
  have e:aQ sep ((y::xs).map tk)++rest=tk y++((xs.map tk).flatMap (fun y=>sep::y)++rest):=by simp[aQ]
  rw[e,aL (hmo y (by simp) _),if_pos rfl,← e]
  have ih:=oI (one:=one) (tk:=tk) hend xs y m (acc++[x]) (by simp at hm;omega) (fun z hz=>hone z (List.mem_cons_of_mem _ hz)) (fun z hz=>hmo z (List.mem_cons_of_mem _ hz))
  rw[ih]
  simp
end Go.Proofs.YtnidnipiihhnaaaGreatDoor
namespace Go.Proofs.YtnidnipiihhnaaaGreatDoor
open Go.RowKit Go.Shelf
set_option linter.unusedSimpArgs false
set_option linter.unusedVariables false
set_option maxRecDepth 20000
set_option maxHeartbeats 8000000
def JB (t:Tk):Prop:=t.s.length≤40∧0≤t.n∧t.n≤9223372036854775807
theorem JU {t:Tk} (h:JB t):(wr t).length≤100:=by
 obtain⟨h1,h2,h3⟩:=h
 unfold wr
 split
 ·unfold Lib.itoa
  rw[if_neg (by omega)]
  have:=(mP t.n.toNat (by omega)).2.2.2.1
  omega
 ·split
  ·have:=Fw t.s
   simp
   omega
  ·omega
theorem sN : ∀ps:List (List UInt8),(∀p∈ps,p.length≤100)→(Lib.joinTail [32] ps).length≤101*ps.length
 | [],_=>by simp[Lib.joinTail]
 |
  p::ps,h=>by
  have ih:=sN ps (fun q hq=>h q (by simp[hq]))
  have hp:=h p (by simp)
  have e:Lib.joinTail [32] (p::ps)=32::(p++Lib.joinTail [32] ps):=by simp[Lib.joinTail]
  rw[e]
  simp
  omega
theorem join_le (ps:List (List UInt8)) (h : ∀p∈ps,p.length≤100):(Lib.join ps [32]).length≤101*ps.length:=by
 cases ps with
 | nil=>simp[Lib.join_nil]
 |
  cons p ps =>
  rw[Lib.join_cons]
  have:=sN ps (fun q hq=>h q (by simp[hq]))
  have hp:=h p (by simp)
  simp
  omega
def Ja (ps:List (List UInt8)):List Value:=ps.map fun l=>.string (aj l)
def pV (l:List Tk):List (List UInt8):=(l.filter fun t=>t.k != 6).map wr
theorem uX (l:List Tk) (t:Tk):pV (l++[t])=if t.k=6 then pV l else pV l++[wr t]:=by
 unfold pV
 rw[List.filter_append]
 by_cases h:t.k=6
 ·simp[h]
 ·simp[h]
theorem G6 (l:List Tk):(pV l).length≤l.length:=by
 unfold pV
 rw[List.length_map]
 exact List.length_filter_le _ _
theorem AQ {α:Type} (xs:List α) (k:Nat) (x:α) (h:xs[k]?=some x):xs.take (k+1)=xs.take k++[x]:=by
 obtain⟨hk,e⟩:=List.getElem?_eq_some_iff.1 h
 rw[List.take_succ_eq_append_getElem hk,e]
theorem Tryz.GJ:(Tryz.prog.info? 9).map (fun i=>(i.zero,i.size,i.bytes))=some (some (.string ⟨#[]⟩),1,16):=by kernel_rfl
def EP (w:World):Prop:=∀o:Nat,o≤13→w.cell? ⟨0,o*2,none⟩=some (.string (aj (kN o)))∧w.cell? ⟨0,o*2+1,none⟩=some (.int .i64 (bU o))
structure j6 (w:World):Prop where
 tv:yt w
 ops:EP w
 lt:10<w.heap.size
theorem j6.below {w w':World} {B:Nat} (h:j6 w) (hb:Below B w w') (hB:10<B):j6 w' :=
 ⟨h.tv.below hb (by omega),fun o ho=>⟨(hb.cell (p:=⟨0,o*2,none⟩) (by show 0<B;omega)).trans (h.ops o ho).1,(hb.cell (p:=⟨0,o*2+1,none⟩) (by show 0<B;omega)).trans (h.ops o ho).2⟩,Nat.lt_of_lt_of_le h.lt hb.size⟩
theorem j6.on {w w':World} (h:j6 w) (hb:Below w.heap.size w w'):j6 w':=h.below hb h.lt
structure bY (w:World) (g:Nat) (tb:Option Nat) (L:List Tk) (d m:Int):Prop where
 lie : ∃v,w.heap[g]?=some (.cells #[v,.int .i64 d,.int .i64 m] 59)∧w.ownsRow (g+1) 119 4 v L.length (tcs L)∧v.ownBlock=tb
 tab:j6 w
 big:10<g
theorem bY.lt {w:World} {g:Nat} {tb:Option Nat} {L:List Tk} {d m:Int} (h:bY w g tb L d m):g<w.heap.size:=by
 obtain⟨v,hv,_⟩:=h.lie
 exact World.lt_of_block hv
theorem bY.Gq {w:World} {g:Nat} {tb:Option Nat} {L:List Tk} {d m:Int} (h:bY w g tb L d m):∀k,tb=some k→g<k∧k<w.heap.size:=by
 obtain⟨v,_,ho,rfl⟩:=h.lie
 exact fun k hk=>⟨(ho.lt k hk).1,(ho.lt k hk).2⟩
abbrev dZ (g:Nat) (tb:Option Nat) (w w':World):Prop:=ay (fun k=>k=g∨tb=some k) w w'
def Wrote (g:Nat) (tb:Option Nat) (w w':World) (L:List Tk) (d m:Int):Prop :=
 ∃tb',bY w' g tb' L d m∧(∀k,tb'=some k→tb=some k∨w.heap.size≤k)∧dZ g tb w w'
theorem bY.here {w:World} {g:Nat} {tb:Option Nat} {L:List Tk} {d m:Int} (h:bY w g tb L d m):Wrote g tb w w L d m:=⟨tb,h,fun k hk=>.inl hk,ay.refl _ _⟩
theorem Wrote.then {g:Nat} {tb tb1:Option Nat} {w w1 w2:World} {L:List Tk} {d m:Int} (h1 : ∀k,tb1=some k→tb=some k∨w.heap.size≤k) (hf:dZ g tb w w1) (h2:Wrote g tb1 w1 w2 L d m):Wrote g tb w w2 L d m:=by
 obtain⟨tb2,h3,h4,h5⟩:=h2
 refine ⟨tb2,h3,fun k hk=>?_,hf.andThen h5 fun i hi=>?_⟩
 ·rcases h4 k hk with e | e
  ·exact h1 k e
  ·exact .inr (Nat.le_trans hf.size e)
 ·rcases hi with rfl | e
  ·exact .inl (.inl rfl)
  ·rcases h1 i e with e | e
   ·exact .inl (.inr e)
   ·exact .inr e
theorem bY.below {w w':World} {g:Nat} {tb:Option Nat} {L:List Tk} {d m:Int} (h:bY w g tb L d m) (hb:Below w.heap.size w w'):bY w' g tb L d m:=by
 have hlt:=h.lt
 obtain⟨v,hv,ho,e⟩:=h.lie
 exact⟨⟨v,by rw[hb.block g hlt];exact hv,qJ ho hb,e⟩,h.tab.on hb,h.big⟩
theorem Wrote.new {g:Nat} {tb:Option Nat} {w w1 w2:World} {L:List Tk} {d m:Int} (hb:Below w.heap.size w w1) (h2:Wrote g tb w1 w2 L d m):Wrote g tb w w2 L d m :=
 Wrote.then (fun k hk=>.inl hk) (ay.aA hb) h2
structure eU (g:Nat) (tb:Option Nat) (w:World) (q:Nat) (o:Obj):Prop where
 at':w.heap[q]?=some o
 ng:q≠g
 nt:tb≠some q
theorem eU.on {g:Nat} {tb tb1:Option Nat} {w w1:World} {q:Nat} {o:Obj} (h:eU g tb w q o) (h1 : ∀k,tb1=some k→tb=some k∨w.heap.size≤k) (hf:dZ g tb w w1):eU g tb1 w1 q o:=by
 have hq:=World.lt_of_block h.at'
 refine ⟨(hf.block q hq (fun e=>by rcases e with e | e;exact h.ng e;exact h.nt e)).trans h.at',h.ng,fun e=>?_⟩
 rcases h1 q e with e | e
 ·exact h.nt e
 ·omega
theorem eU.below {g:Nat} {tb:Option Nat} {w w1:World} {q:Nat} {o:Obj} (h:eU g tb w q o) (hb:Below w.heap.size w w1):eU g tb w1 q o :=
 ⟨(hb.block q (World.lt_of_block h.at')).trans h.at',h.ng,h.nt⟩
theorem eU.mk' {w W:World} {g:Nat} {tb:Option Nat} {L:List Tk} {d m:Int} (h:bY w g tb L d m) {q:Nat} {o:Obj} (hW:W.heap[q]?=some o) (hq:w.heap.size≤q):eU g tb W q o :=
 ⟨hW,by have:=h.lt;omega,fun e=>by have:=(h.Gq q e).2;omega⟩
theorem dZ.keeps {w w':World} {g:Nat} {tb:Option Nat} {L:List Tk} {d m:Int} (h:bY w g tb L d m) (hf:dZ g tb w w'):∀b,b<g→b<w.heap.size→¬(b=g∨tb=some b)∧b<g:=fun b hb _ =>
 ⟨fun e=>by rcases e with e | e;omega;have:=(h.Gq b e).1;omega,hb⟩
theorem bY.xO {w w':World} {g:Nat} {tb:Option Nat} {L:List Tk} {d m:Int} (h:bY w g tb L d m) (hf:dZ g tb w w'):Below g w w' :=
 hf.below (fun i hi=>by rcases hi with rfl | e;exact Nat.le_refl _;have:=(h.Gq i e).1;omega) (Nat.le_of_lt h.lt)
theorem iQ.vo {w w':World} {g:Nat} {tb:Option Nat} {L:List Tk} {d m:Int} {x:Ex} {v:Value} (h:bY w g tb L d m) (hf:dZ g tb w w') (hx:iQ (fun b=>b<g) w x v):iQ (fun b=>b<g) w' x v:=hx.to hf (dZ.keeps h hf)
theorem aO.vo {w w':World} {g:Nat} {tb:Option Nat} {L:List Tk} {d m:Int} {x:List Ex} {v:Value} (h:bY w g tb L d m) (hf:dZ g tb w w') (hx:aO (fun b=>b<g) w x v):aO (fun b=>b<g) w' x v:=hx.to hf (dZ.keeps h hf)
theorem iQ.new {S:Nat→Prop} {w w':World} {x:Ex} {v:Value} (hx:iQ S w x v) (hb:Below w.heap.size w w'):iQ S w' x v:=hx.to (R:=fun _=>False) (ay.aA hb) (fun b h _=>⟨id,h⟩)
theorem aO.new {S:Nat→Prop} {w w':World} {x:List Ex} {v:Value} (hx:aO S w x v) (hb:Below w.heap.size w w'):aO S w' x v:=hx.to (R:=fun _=>False) (ay.aA hb) (fun b h _=>⟨id,h⟩)
theorem ku {w:World} {g:Nat} {a b c:Value} {t:TypeId} (h:w.heap[g]?=some (.cells #[a,b,c] t)) :
  w.cell? ⟨g,0,none⟩=some a∧w.cell? ⟨g,1,none⟩=some b∧w.cell? ⟨g,2,none⟩=some c∧∀i,w.frozen? ⟨g,i,none⟩=false :=
 ⟨by rw[aD _ _ _ _ _ _ h];rfl,by rw[aD _ _ _ _ _ _ h];rfl,by rw[aD _ _ _ _ _ _ h];rfl,fun i=>by simp[World.frozen?,h]⟩
theorem G7 {w W:World} {g:Nat} {tb:Option Nat} {L L':List Tk} {d m:Int} {v v':Value} (hw:bY w g tb L d m) (hv:W.heap[g]?=some (.cells #[v,.int .i64 d,.int .i64 m] 59)) (ho:W.ownsRow (g+1) 119 4 v' L'.length (tcs L')) (hf:dZ g tb w W) (ht:v'.ownBlock=tb∨∃k,v'.ownBlock=some k∧w.heap.size≤k) :
  Wrote g tb w (W.setCell ⟨g,0,none⟩ v') L' d m:=by
 have hf2:dZ g tb w (W.setCell ⟨g,0,none⟩ v'):=ay.setCell hf (.inl (.inl rfl)) v'
 refine ⟨v'.ownBlock,⟨⟨v',?_,ownsRow_setCell_below ho (Nat.lt_succ_self g) v',rfl⟩,hw.tab.below (hw.xO hf2) hw.big,hw.big⟩,fun k hk=>?_,hf2⟩
 ·rw[setCell_eq_setRow W g 0 _ _ _ v' hv,setRow_heap W g _ _ _ _ hv]
  rfl
 ·rcases ht with e | ⟨j,e,hj⟩
  ·exact .inl (e ▸ hk)
  ·obtain rfl:=Option.some.inj (e.symm.trans hk)
   exact .inr hj
theorem E9 (L:List Tk) (t:Tk):tcs (L++[t])=tcs L++[.int .i64 t.k,.string (aj t.s),.int .i64 t.n,.int .i64 t.p]:=by simp[tcs,tc]
theorem Gz (g:Nat) (tb:Option Nat) (L:List Tk) (d m:Int) (w:World) (h:bY w g tb L d m) (t:Tk) (hL:L.length+1≤1000000000) (b:Nat) (ty:TypeId) (hb:w.heap[b]?=some (.cells #[.int .i64 t.k,.string (aj t.s),.int .i64 t.n,.int .i64 t.p] ty)) :
  Calls Tryz.prog 132 #[.pointer (some ⟨g,0,none⟩),.slice (some ⟨b,0,none⟩) 1 1] w fun e w'=>e = .returned (.tuple #[])∧Wrote g tb w w' (L++[t]) d m:=by
 obtain⟨i0,hi,hz0,hz1,hz2⟩:=info_parts Tryz.Ck
 have hlt:=h.lt
 obtain⟨v,hv,ho,hob⟩:=h.lie
 have k:=ku hv
 have HH:=hid h
 have HV:=hid hv
 have hnew : ∀(j:Nat) (u:Value),[Value.int .i64 t.k,.string (aj t.s),.int .i64 t.n,.int .i64 t.p][j]?=some u→w.cell? ((⟨b,0,none⟩:Addr).add j)=some u:=by
  intro j u hj
  rw[Addr.add_lit,Nat.zero_add,cell_of_row _ _ _ _ _ _ hb]
  simpa using hj
 have hone : ∀u∈[Value.int .i64 t.k,.string (aj t.s),.int .i64 t.n,.int .i64 t.p],u.oneCell'=true:=by intro u hu;simp at hu;rcases hu with rfl | rfl | rfl | rfl<;>rfl
 have HTB:=hid hob
 have hsz:g+1≤w.heap.size:=hlt
 clear h hv hb
 go_enter Tryz.func132,Tryz.ntmps132
 go_wp2_with (first
  | (
    at_builtin;refine dF _ rfl (.tmp 8) (.tmp 9) 55 rfl (g+1) 119 i0 (.agg #[.int .i64 0,.string ⟨#[]⟩,.int .i64 0,.int .i64 0]) 4 40 Tryz.underlying55 hi hz0 hz1 hz2 rfl (by decide) v L.length (tcs L) rfl ho ⟨b,0,none⟩ 1 [.int .i64 t.k,.string (aj t.s),.int .i64 t.n,.int .i64 t.p] rfl rfl hnew hone (by unfold maxLen;omega) (by omega) hsz ?_;intro v3 w3 hown3 hg3 hob3
    have HV3:Hid (w3.heap[g]?=some (.cells #[v,.int .i64 d,.int .i64 m] 59)):=hid ((hg3.block g hlt (fun e=>by have:=(ho.lt g e.symm).1;omega)).trans HV.out)
    have k3:=ku HV3.out
    obtain⟨va,vn,vc,rfl⟩:∃va vn vc,v3 = .slice va vn vc:=by
      rcases hown3.2 with⟨rfl,_⟩ | ⟨_,_,_,rfl,_⟩
      ·exact⟨_,_,_,rfl⟩
      ·exact⟨_,_,_,rfl⟩)
  | fail)
 have HF:Hid (dZ g tb w w3):=hid (ay.lq hg3 (fun k hk=>.inr (HTB.out ▸ hk)))
 have hone3:Wrote g tb w (w3.setCell ⟨g,0,none⟩ (.slice va vn vc)) (L++[t]) d m:=by
  refine G7 HH.out HV3.out ?_ HF.out ?_
  ·rw[List.length_append,E9];exact hown3
  ·rcases hob3 with e | e
   · exact .inl (e.trans HTB.out)
   · exact .inr ⟨_,e,Nat.le_refl _⟩
 exact bodyPost_end (v:=.tuple #[]) (by simp[results,Tryz.results132,go_sem]) rfl ⟨rfl,hone3⟩
theorem qE (g:Nat) (tb:Option Nat) (L:List Tk) (d m:Int) (w:World) (h:bY w g tb L d m) (t:Tk) (hL:L.length+1≤1000000000) :
  Calls Tryz.prog 132 #[.pointer (some ⟨g,0,none⟩),.slice (some ⟨w.heap.size,0,none⟩) 1 1] (w.alloc (.cells #[.int .i64 t.k,.string (aj t.s),.int .i64 t.n,.int .i64 t.p] 119)) fun e w'=>e = .returned (.tuple #[])∧Wrote g tb w w' (L++[t]) d m:=by
 have hb:Below w.heap.size w (w.alloc (.cells #[.int .i64 t.k,.string (aj t.s),.int .i64 t.n,.int .i64 t.p] 119)):=(Below.refl _ _).alloc (Nat.le_refl _) _
 refine (Gz g tb L d m _ (h.below hb) t hL w.heap.size _ (heap_alloc_new w _)).mono ?_
 rintro e w' ⟨rfl,h1⟩
 exact⟨rfl,h1.new hb⟩
theorem dP (g:Nat) (tb:Option Nat) (L:List Tk) (d m:Int) (w:World) (h:bY w g tb L d m) (s:List UInt8) (hL:L.length+1≤1000000000) :
  Calls Tryz.prog 70 #[.pointer (some ⟨g,0,none⟩),.string (aj s)] w fun e w'=>e = .returned (.tuple #[])∧Wrote g tb w w' (L++[aT s]) d m:=by
 have HP:Hid (Calls Tryz.prog 132 #[.pointer (some ⟨g,0,none⟩),.slice (some ⟨w.heap.size,0,none⟩) 1 1] (w.alloc (.cells #[.int .i64 1,.string (aj s),.int .i64 0,.int .i64 0] 119)) fun e w'=>e = .returned (.tuple #[])∧Wrote g tb w w' (L++[aT s]) d m):=hid (qE g tb L d m w h (aT s) hL)
 clear h
 go_enter Tryz.func70,Tryz.ntmps70
 go_wp2_with fail
 refine HP.out.mono ?_
 rintro e w1 ⟨rfl,h1⟩
 go_wp2
 exact bodyPost_end (v:=.tuple #[]) (by simp[results,Tryz.results70,go_sem]) rfl ⟨rfl,h1⟩
theorem mK (g:Nat) (tb:Option Nat) (L:List Tk) (d m:Int) (w:World) (h:bY w g tb L d m) (n:Int) (hL:L.length+1≤1000000000) :
  Calls Tryz.prog 112 #[.pointer (some ⟨g,0,none⟩),.int .i64 n] w fun e w'=>e = .returned (.tuple #[])∧Wrote g tb w w' (L++[ny n]) d m:=by
 have HP:Hid (Calls Tryz.prog 132 #[.pointer (some ⟨g,0,none⟩),.slice (some ⟨w.heap.size,0,none⟩) 1 1] (w.alloc (.cells #[.int .i64 3,.string ⟨#[]⟩,.int .i64 n,.int .i64 0] 119)) fun e w'=>e = .returned (.tuple #[])∧Wrote g tb w w' (L++[ny n]) d m):=hid (qE g tb L d m w h (ny n) hL)
 clear h
 go_enter Tryz.func112,Tryz.ntmps112
 go_wp2_with fail
 refine HP.out.mono ?_
 rintro e w1 ⟨rfl,h1⟩
 go_wp2
 exact bodyPost_end (v:=.tuple #[]) (by simp[results,Tryz.results112,go_sem]) rfl ⟨rfl,h1⟩
theorem I5 (g:Nat) (tb:Option Nat) (L:List Tk) (d m:Int) (w:World) (h:bY w g tb L d m) (s:List UInt8) (hL:L.length+1≤1000000000) :
  Calls Tryz.prog 111 #[.pointer (some ⟨g,0,none⟩),.string (aj s)] w fun e w'=>e = .returned (.tuple #[])∧Wrote g tb w w' (L++[J8 s]) d m:=by
 have HP:Hid (Calls Tryz.prog 132 #[.pointer (some ⟨g,0,none⟩),.slice (some ⟨w.heap.size,0,none⟩) 1 1] (w.alloc (.cells #[.int .i64 4,.string (aj s),.int .i64 0,.int .i64 0] 119)) fun e w'=>e = .returned (.tuple #[])∧Wrote g tb w w' (L++[J8 s]) d m):=hid (qE g tb L d m w h (J8 s) hL)
 clear h
 go_enter Tryz.func111,Tryz.ntmps111
 go_wp2_with fail
 refine HP.out.mono ?_
 rintro e w1 ⟨rfl,h1⟩
 go_wp2
 exact bodyPost_end (v:=.tuple #[]) (by simp[results,Tryz.results111,go_sem]) rfl ⟨rfl,h1⟩
def wI (g:Nat) (tb:Option Nat) (w:World) (v:Value) (ts:List (List UInt8)):Prop :=
 ∃a c,v = .slice a ts.length c∧ts.length≤1000∧(ts≠[]→∃b,a=some ⟨b,0,none⟩∧b≠g∧tb≠some b∧b<w.heap.size∧∀j t,ts[j]?=some t→w.cell? ⟨b,j,none⟩=some (.string (aj t)))
theorem wI.on {g:Nat} {tb tb1:Option Nat} {w w1:World} {v:Value} {ts:List (List UInt8)} (h:wI g tb w v ts) (h1 : ∀k,tb1=some k→tb=some k∨w.heap.size≤k) (hf:dZ g tb w w1):wI g tb1 w1 v ts:=by
 obtain⟨a,c,hv,hl,h3⟩:=h
 refine ⟨a,c,hv,hl,fun hne=>?_⟩
 obtain⟨b,ha,hg,ht,hlt,hc⟩:=h3 hne
 refine ⟨b,ha,hg,fun e=>?_,Nat.lt_of_lt_of_le hlt hf.size,fun j t hj=>hf.cell (hc j t hj) (fun e=>by rcases e with e | e;exact hg e;exact ht e)⟩
 rcases h1 b e with e | e
 ·exact ht e
 ·omega
theorem rJ (g:Nat) (tb:Option Nat) (L:List Tk) (d m:Int) (w:World) (h:bY w g tb L d m) (v:Value) (ts:List (List UInt8)) (hv:wI g tb w v ts) (hne : ∀t∈ts,t≠[]) (hL:L.length+ts.length≤1000000000) :
  Calls Tryz.prog 68 #[.pointer (some ⟨g,0,none⟩),v] w fun e w'=>e = .returned (.tuple #[])∧Wrote g tb w w' (L++ah ts) d m:=by
 have HV:=hid hv
 have HW:=hid h.here
 have HN:=hid hne
 obtain⟨a,c,rfl,hlen,_⟩:=hv
 clear h hne
 go_enter Tryz.func68,Tryz.ntmps68
 go_wp2_with fail
 go_loopw [5,6,9] (fun _ _ i wr=>∃(k:Nat),k≤ts.length∧i = .int .i64 k∧Wrote g tb w wr (L++ah (ts.take k)) d m) (fun _ _ i _=>ts.length-(intOf i).toNat)
 case atStart=>exact⟨0,Nat.zero_le _,rfl,by simpa [ah] using HW.out⟩
 case round =>
  obtain⟨k,hk,rfl,hq⟩:=hrel
  by_cases hlt:k<ts.length
  ·obtain⟨t,ht⟩:∃t,ts[k]?=some t:=⟨_,List.getElem?_eq_getElem hlt⟩
   have hlt':((k:Int)<(ts.length:Int)):=by omega
   obtain⟨tb1,hw1,ht1,hf1⟩:=hq
   obtain⟨a',c',hvv,_,h3⟩:=HV.out.on ht1 hf1
   simp only[Value.slice.injEq] at hvv
   obtain⟨rfl,_,rfl⟩:=hvv
   obtain⟨b,rfl,_,_,_,hcell⟩:=h3 (fun e=>by rw[e] at hlt;simp at hlt)
   have hc:=hcell k t ht
   clear hcell h3
   obtain⟨x,t',rfl⟩:∃x t',t=x::t':=by
    cases t with
    | nil=>exact absurd rfl (HN.out [] (List.mem_of_getElem? ht))
    | cons x t'=>exact⟨x,t',rfl⟩
   have hp0:0<(aj (x::t')).size:=by rw[dJ];simp
   have hxv:((aj (x::t'))[0]'hp0).toNat=x.toNat:=rfl
   have htk:ah (ts.take (k+1))=ah (ts.take k)++[aI (x::t')]:=by
    obtain⟨h1,h2⟩:=List.getElem?_eq_some_iff.1 ht
    rw[List.take_succ_eq_append_getElem h1,h2]
    simp[ah]
   have hl1:(L++ah (ts.take k)).length+1≤1000000000:=by
    simp[ah,List.length_take]
    omega
   have HT1:=hid ht1
   have HF1:=hid hf1
   by_cases hU:65≤x∧x≤90
   ·have h65:((65:Int)≤(x.toNat:Int)):=by have:=UInt8.le_iff_toNat_le.1 hU.1;simp at this;omega
    have h90:((x.toNat:Int)≤90):=by have:=UInt8.le_iff_toNat_le.1 hU.2;simp at this;omega
    rw[← hxv] at h65 h90
    have hfx:aI (x::t')=⟨2,x::t',0,0⟩:=if_pos hU
    have HP:Hid (Calls Tryz.prog 132 #[.pointer (some ⟨g,0,none⟩),.slice (some ⟨wr.heap.size,0,none⟩) 1 1] (wr.alloc (.cells #[.int .i64 2,.string (aj (x::t')),.int .i64 0,.int .i64 0] 119)) fun e w'=>e = .returned (.tuple #[])∧Wrote g tb1 wr w' (L++ah (ts.take (k+1))) d m):=hid (by
     have:=qE g tb1 _ d m wr hw1 (aI (x::t')) hl1
     rw[List.append_assoc,← htk] at this
     rw[hfx] at this
     exact this)
    clear hw1 ht htk hl1 hfx ht1 hf1 hU hxv
    go_wp2_with fail
    refine HP.out.mono ?_
    rintro e w2 ⟨rfl,h2⟩
    have HQ:=hid (Wrote.then HT1.out HF1.out h2)
    clear h2 HP
    go_wp2
    go_roundw
    case rel=>exact⟨k+1,by omega,by go_num,HQ.out⟩
    case measure=>simp[intOf];omega
   ·have hfx:aI (x::t')=⟨5,x::t',0,0⟩:=if_neg hU
    have HP:Hid (Calls Tryz.prog 132 #[.pointer (some ⟨g,0,none⟩),.slice (some ⟨wr.heap.size,0,none⟩) 1 1] (wr.alloc (.cells #[.int .i64 5,.string (aj (x::t')),.int .i64 0,.int .i64 0] 119)) fun e w'=>e = .returned (.tuple #[])∧Wrote g tb1 wr w' (L++ah (ts.take (k+1))) d m):=hid (by
     have:=qE g tb1 _ d m wr hw1 (aI (x::t')) hl1
     rw[List.append_assoc,← htk] at this
     rw[hfx] at this
     exact this)
    have hU' : ¬((65:Int)≤(x.toNat:Int))∨((65:Int)≤(x.toNat:Int)∧¬((x.toNat:Int)≤90)):=by
     by_cases h1:(65:Int)≤(x.toNat:Int)
     ·refine .inr ⟨h1,fun h2=>hU ⟨UInt8.le_iff_toNat_le.2 ?_,UInt8.le_iff_toNat_le.2 ?_⟩⟩
      ·simp;omega
      ·simp;omega
     ·exact .inl h1
    rw[← hxv] at hU'
    clear hw1 ht htk hl1 hfx ht1 hf1 hU hxv
    rcases hU' with h65 | ⟨h65,h90⟩
    ·go_wp2_with fail
     refine HP.out.mono ?_
     rintro e w2 ⟨rfl,h2⟩
     have HQ:=hid (Wrote.then HT1.out HF1.out h2)
     clear h2 HP
     go_wp2
     go_roundw
     case rel=>exact⟨k+1,by omega,by go_num,HQ.out⟩
     case measure=>simp[intOf];omega
    ·go_wp2_with fail
     refine HP.out.mono ?_
     rintro e w2 ⟨rfl,h2⟩
     have HQ:=hid (Wrote.then HT1.out HF1.out h2)
     clear h2 HP
     go_wp2
     go_roundw
     case rel=>exact⟨k+1,by omega,by go_num,HQ.out⟩
     case measure=>simp[intOf];omega
  ·have hlt' : ¬((k:Int)<(ts.length:Int)):=by omega
   have HQ:Hid (Wrote g tb w wr (L++ah ts) d m):=hid (by rw[List.take_of_length_le (by omega)] at hq;exact hq)
   clear hq
   go_wp2
   exact bodyPost_end (v:=.tuple #[]) (by simp[results,Tryz.results68,go_sem]) rfl ⟨rfl,HQ.out⟩
theorem aH (g:Nat) (tb:Option Nat) (L:List Tk) (d m:Int) (ts:List (List UInt8)) (w:World) (h:bY w g tb L d m) (hl:ts.length≤1000) (hne : ∀t∈ts,t≠[]) (hL:L.length+ts.length≤1000000000) :
  Calls Tryz.prog 68 #[.pointer (some ⟨g,0,none⟩),.slice (some ⟨w.heap.size,0,none⟩) ts.length ts.length] (w.alloc (.cells (ts.map fun t=>Value.string (aj t)).toArray 9)) fun e w'=>e = .returned (.tuple #[])∧Wrote g tb w w' (L++ah ts) d m:=by
 have hb:Below w.heap.size w (w.alloc (.cells (ts.map fun t=>Value.string (aj t)).toArray 9)):=(Below.refl _ _).alloc (Nat.le_refl _) _
 refine (rJ g tb L d m _ (h.below hb) _ ts ⟨_,_,rfl,hl,fun _=>⟨_,rfl,by have:=h.lt;omega,fun e=>by have:=(h.Gq _ e).2;omega,by simp,fun j t ht=>?_⟩⟩ hne hL).mono ?_
 ·rw[cell_of_row _ _ _ _ _ _ (heap_alloc_new w _)]
  simp[ht]
 ·rintro e w' ⟨rfl,h1⟩
  exact⟨rfl,h1.new hb⟩
end Go.Proofs.YtnidnipiihhnaaaGreatDoor
