/- Packed for the hand-in: WStm LWrite WMem -/
import Derived.Test.YtaaggohjmhifbaaGreatDoorP16
import Derived.Test.YtaaggohjmhifbaaGreatDoorP06
import Derived.Test.YtaaggohjmhifbaaGreatDoorP15
namespace Go.Proofs.YtaaggohjmhifbaaGreatDoor
set_option linter.unusedSimpArgs false
set_option linter.unusedVariables false
set_option maxHeartbeats 8000000
def Tm.mkNot:Tm→Tm
 | .nul x=>.nnul x
 | t=>.not t
def tmE:Ex→Tm
 |
  .mk k op tb nm v xs =>
  if k=1 then .val v else if k=2 then .col tb nm else
  match xs with
  | [a]=>if k=4 then (tmE a).mkNot else if k=5 then .neg (tmE a) else .nul (tmE a)
  | [a,b]=>.op op (tmE a) (tmE b)
  | _=>.val zV
termination_by e=>SizeOf.sizeOf e
decreasing_by all_goals (simp_wf;omega)
theorem tmE_ex (t:Tm) (h:t.ok):tmE t.ex=t:=by
 induction t with
 | val v=>show tmE (.mk 1 0 [] [] v [])=_;simp[tmE]
 | col a b=>show tmE (.mk 2 0 a b zV [])=_;simp[tmE]
 | op o a b ha hb=>show tmE (.mk 3 o [] [] zV [a.ex,b.ex])=_;rw[tmE,ha h.2.2.1,hb h.2.2.2];rfl
 |
  not a ha =>
  show tmE (.mk 4 0 [] [] zV [a.ex])=_
  rw[tmE,ha h.2]
  have hn:=h.1
  cases a with
  | nul x=>cases hn
  | _=>rfl
 | neg a ha=>show tmE (.mk 5 0 [] [] zV [a.ex])=_;rw[tmE,ha h];rfl
 | nul a ha=>show tmE (.mk 6 0 [] [] zV [a.ex])=_;rw[tmE,ha h];rfl
 |
  nnul a ha =>
  show tmE (.mk 4 0 [] [] zV [.mk 6 0 [] [] zV [a.ex]])=_
  rw[tmE,tmE,ha h];rfl
def rightE:Ex→Bool
 |
  .mk k op tb nm v xs =>
  if k=1 then valOk v&&(decide (op=0)&&decide (tb=[])&&decide (nm=[])&&decide (xs.length=0))
  else if k=2 then (nameOk nm&&(decide (tb=[])||nameOk tb))&&(decide (op=0)&&eqv v zV&&decide (xs.length=0))
  else if k=3 then (decide (1≤op∧op≤13)&&(decide (xs.length=2)&&xs.attach.all fun x=>rightE x.1))&&(decide (tb=[])&&decide (nm=[])&&eqv v zV)
  else if k=4∨k=5∨k=6 then (decide (xs.length=1)&&xs.attach.all fun x=>rightE x.1)&&(decide (op=0)&&decide (tb=[])&&decide (nm=[])&&eqv v zV)
  else false
termination_by e=>SizeOf.sizeOf e
decreasing_by all_goals (simp_wf;have:=List.sizeOf_lt_of_mem x.2;omega)
theorem all_attach {α:Type} (xs:List α) (p:α→Bool):(xs.attach.all fun x=>p x.1)=xs.all p:=by
 rw[Bool.eq_iff_iff,List.all_eq_true,List.all_eq_true]
 exact⟨fun h x hx=>h ⟨x,hx⟩ (List.mem_attach _ _),fun h x _=>h x.1 x.2⟩
theorem rightE_eq (k op:Int) (tb nm:List UInt8) (v:Vl) (xs:List Ex):rightE (.mk k op tb nm v xs) =
  if k=1 then valOk v&&(decide (op=0)&&decide (tb=[])&&decide (nm=[])&&decide (xs.length=0))
  else if k=2 then (nameOk nm&&(decide (tb=[])||nameOk tb))&&(decide (op=0)&&eqv v zV&&decide (xs.length=0))
  else if k=3 then (decide (1≤op∧op≤13)&&(decide (xs.length=2)&&xs.all rightE))&&(decide (tb=[])&&decide (nm=[])&&eqv v zV)
  else if k=4∨k=5∨k=6 then (decide (xs.length=1)&&xs.all rightE)&&(decide (op=0)&&decide (tb=[])&&decide (nm=[])&&eqv v zV)
  else false:=by
 rw[rightE,all_attach]
theorem eqv_zV:eqv zV zV=true:=by decide
theorem right_tm (t:Tm) (h:t.ok):rightE t.ex=true:=by
 induction t with
 |
  val v =>
  show rightE (.mk 1 0 [] [] v [])=true
  rw[rightE_eq,if_pos rfl,show valOk v=true from h];rfl
 |
  col a b =>
  show rightE (.mk 2 0 a b zV [])=true
  rw[rightE_eq,if_neg (by decide),if_pos rfl,h.1]
  rcases h.2 with h2 | h2
  ·subst h2;rfl
  ·rw[h2,Bool.or_true];rfl
 |
  op o a b ha hb =>
  show rightE (.mk 3 o [] [] zV [a.ex,b.ex])=true
  rw[rightE_eq,if_neg (by decide),if_neg (by decide),if_pos rfl,decide_eq_true (⟨h.1,h.2.1⟩:1≤o∧o≤13)]
  simp[ha h.2.2.1,hb h.2.2.2,eqv_zV]
 |
  not a ha =>
  show rightE (.mk 4 0 [] [] zV [a.ex])=true
  rw[rightE_eq,if_neg (by decide),if_neg (by decide),if_neg (by decide),if_pos (by decide)]
  simp[ha h.2,eqv_zV]
 |
  neg a ha =>
  show rightE (.mk 5 0 [] [] zV [a.ex])=true
  rw[rightE_eq,if_neg (by decide),if_neg (by decide),if_neg (by decide),if_pos (by decide)]
  simp[ha h,eqv_zV]
 |
  nul a ha =>
  show rightE (.mk 6 0 [] [] zV [a.ex])=true
  rw[rightE_eq,if_neg (by decide),if_neg (by decide),if_neg (by decide),if_pos (by decide)]
  simp[ha h,eqv_zV]
 |
  nnul a ha =>
  show rightE (.mk 4 0 [] [] zV [.mk 6 0 [] [] zV [a.ex]])=true
  rw[rightE_eq,if_neg (by decide),if_neg (by decide),if_neg (by decide),if_pos (by decide)]
  simp[rightE_eq,ha h,eqv_zV]
theorem right_has : ∀(n:Nat) (e:Ex),SizeOf.sizeOf e<n→rightE e=true→∃t:Tm,t.ok∧t.ex=e
 |
  n+1,.mk k op tb nm v xs,hn,h=>by
  rw[rightE_eq] at h
  split at h
  ·rename_i h1
   simp only[Bool.and_eq_true,decide_eq_true_eq] at h
   obtain⟨hv,⟨⟨h2,h3⟩,h4⟩,h5⟩:=h
   obtain rfl:xs=[]:=List.eq_nil_of_length_eq_zero h5
   subst h1 h2 h3 h4
   exact⟨.val v,hv,rfl⟩
  ·split at h
   ·rename_i h1
    simp only[Bool.and_eq_true,Bool.or_eq_true,decide_eq_true_eq] at h
    obtain⟨⟨hnn,ht⟩,⟨h2,h3⟩,h4⟩:=h
    obtain rfl:xs=[]:=List.eq_nil_of_length_eq_zero h4
    obtain rfl:=eqv_iff.1 h3
    subst h1 h2
    exact⟨.col tb nm,⟨hnn,ht⟩,rfl⟩
   ·split at h
    ·rename_i h1
     simp only[Bool.and_eq_true,decide_eq_true_eq] at h
     obtain⟨⟨ho,hl,ha⟩,⟨h2,h3⟩,h4⟩:=h
     obtain rfl:=eqv_iff.1 h4
     match xs,hl with
     |
      [a,b],_ =>
      simp only[List.all_cons,List.all_nil,Bool.and_true,Bool.and_eq_true] at ha
      obtain⟨ta,oka,ea⟩:=right_has n a (by simp at hn;omega) ha.1
      obtain⟨tb',okb,eb⟩:=right_has n b (by simp at hn;omega) ha.2
      subst h1 h2 h3
      exact⟨.op op ta tb',⟨ho.1,ho.2,oka,okb⟩,by rw[← ea,← eb];rfl⟩
    ·split at h
     ·rename_i h1
      simp only[Bool.and_eq_true,decide_eq_true_eq] at h
      obtain⟨⟨hl,ha⟩,⟨⟨h2,h3⟩,h4⟩,h5⟩:=h
      obtain rfl:=eqv_iff.1 h5
      match xs,hl with
      |
       [a],_ =>
       simp only[List.all_cons,List.all_nil,Bool.and_true] at ha
       obtain⟨ta,oka,ea⟩:=right_has n a (by simp at hn;omega) ha
       subst h2 h3 h4
       rcases h1 with rfl | rfl | rfl
       ·cases hN:ta.isNul with
        | false=>exact⟨.not ta,⟨hN,oka⟩,by rw[← ea];rfl⟩
        |
         true =>
         cases ta with
         | nul x=>exact⟨.nnul x,oka,by rw[← ea];rfl⟩
         | _=>cases hN
       ·exact⟨.neg ta,oka,by rw[← ea];rfl⟩
       ·exact⟨.nul ta,oka,by rw[← ea];rfl⟩
     ·cases h
theorem right_ok {e:Ex} (h:rightE e=true):(tmE e).ok∧(tmE e).ex=e:=by
 obtain⟨t,h1,h2⟩:=right_has (SizeOf.sizeOf e+1) e (Nat.lt_succ_self _) h
 rw[← h2,tmE_ex t h1]
 exact⟨h1,rfl⟩
def exK (e:Ex):List Tk:=(tmE e).tk
def exD (e:Ex):Nat:=(tmE e).dp
def exZ (e:Ex):Nat:=(tmE e).sz
def sepK (sep:Tk):List (List Tk)→List Tk
 | []=>[]
 | x::l=>x++l.flatMap fun y=>sep::y
theorem sepK_snoc (sep:Tk) (l:List (List Tk)) (y:List Tk):sepK sep (l++[y])=if l=[] then y else sepK sep l++sep::y:=by
 cases l with
 | nil=>simp[sepK]
 | cons x l=>simp[sepK,List.flatMap_append]
def wordsK (l:List (List UInt8)):List Tk:=l.map fxT
def partK (xs:List Ex) (ws:List (List UInt8)):List Tk:=xs.flatMap fun e=>wordsK ws++exK e
def maxL (l:List Nat):Nat:=l.foldr max 0
def exDs (l:List Ex):Nat:=maxL (l.map exD)
def colK (c:Co):List Tk:=nmT c.nm::fxT (if c.k=1 then [73,78,84] else [84,69,88,84])::((if c.nn=true then wordsK [[78,79,84],[78,85,76,76]] else [])++(if c.uq=true then wordsK [[85,78,73,81,85,69]] else []))
def vrowK (r:List Vl):List Tk:=fxT [40]::(sepK (fxT [44]) (r.map litK)++[fxT [41]])
def setK (s:Se):List Tk:=nmT s.nm::fxT [61]::exK s.e
def itW (k:Int):List UInt8:=if k=4 then [67,79,85,78,84] else if k=5 then [83,85,77] else if k=6 then [77,73,78] else [77,65,88]
def itK (i:It):List Tk:=if i.k=1 then [fxT [42]] else if i.k=2 then exK (i.xs.headD zEx) else if i.k=3 then wordsK [[67,79,85,78,84],[40],[42],[41]] else wordsK [itW i.k,[40]]++(exK (i.xs.headD zEx)++[fxT [41]])
def itD (i:It):Nat:=exDs i.xs
def selK (s:St):List Tk :=
 fxT [83,69,76,69,67,84]::(sepK (fxT [44]) (s.items.map itK)++fxT [70,82,79,77]::nmT s.tb::((if s.jn=[] then [] else [fxT [74,79,73,78],nmT s.jn])++(partK s.on [[79,78]]++(partK s.wh [[87,72,69,82,69]]++(partK s.gr [[71,82,79,85,80],[66,89]]++(partK s.od [[79,82,68,69,82],[66,89]]++((if s.desc=true then [fxT [68,69,83,67]] else [])++(if s.lim = -1 then [] else [fxT [76,73,77,73,84],nuT s.lim]))))))))
def crK (s:St):List Tk :=
 wordsK [[67,82,69,65,84,69],[84,65,66,76,69]]++nmT s.tb::fxT [40]::(sepK (fxT [44]) (s.cols.map colK)++(wordsK [[44],[80,82,73,77,65,82,89],[75,69,89],[40]]++nmT s.prim::wordsK [[41],[41]]))
def tkS (s:St):List Tk :=
 if s.k=1 then crK s
 else if s.k=2 then wordsK [[68,82,79,80],[84,65,66,76,69]]++[nmT s.tb]
 else if s.k=3 then wordsK [[73,78,83,69,82,84],[73,78,84,79]]++nmT s.tb::fxT [86,65,76,85,69,83]::sepK (fxT [44]) (s.rows.map vrowK)
 else if s.k=4 then fxT [85,80,68,65,84,69]::nmT s.tb::fxT [83,69,84]::(sepK (fxT [44]) (s.sets.map setK)++partK s.wh [[87,72,69,82,69]])
 else if s.k=5 then wordsK [[68,69,76,69,84,69],[70,82,79,77]]++nmT s.tb::partK s.wh [[87,72,69,82,69]]
 else selK s
def dpS (s:St):Nat :=
 if s.k=4 then max (maxL (s.sets.map fun x=>exD x.e)) (exDs s.wh)
 else if s.k=5 then exDs s.wh
 else if s.k=6 then max (maxL (s.items.map itD)) (max (exDs s.on) (max (exDs s.wh) (max (exDs s.gr) (exDs s.od))))
 else 0
def areB {α:Type} (xs:List α) (a b:Nat) (p:α→Bool):Bool:=decide (a≤xs.length∧xs.length≤b)&&xs.all p
def colB (c:Co):Bool:=nameOk c.nm&&decide (c.k=1∨c.k=2)
def rowB (r:List Vl):Bool:=areB r 1 8 valOk
def setB (s:Se):Bool:=nameOk s.nm&&rightE s.e
def exKind:Ex→Int
 | .mk k _ _ _ _ _=>k
def colEB (e:Ex):Bool:=decide (exKind e=2)&&rightE e
def itB (i:It):Bool:=if i.k=1∨i.k=3 then decide (i.xs.length=0) else if i.k=2∨i.k=4∨i.k=5∨i.k=6∨i.k=7 then areB i.xs 1 1 rightE else false
def noeB (s:List UInt8):Bool:=decide (s=[])||nameOk s
def joinN (s:List UInt8):Nat:=if s=[] then 0 else 1
def selB (s:St):Bool :=
 areB s.items 1 8 itB&&(noeB s.jn&&(areB s.on (joinN s.jn) (joinN s.jn) rightE&&(areB s.wh 0 1 rightE&&(areB s.gr 0 1 colEB&&(areB s.od 0 1 colEB&&((!s.desc||decide (s.od.length=1))&&decide (-1≤s.lim∧s.lim≤9223372036854775807)))))))
def empS (s:St):Bool:=decide (s.k=0∧s.tb=[]∧s.cols.length=0∧s.prim=[]∧s.rows.length=0∧s.sets.length=0∧s.items.length=0∧s.jn=[]∧s.on.length=0∧s.wh.length=0∧s.gr.length=0∧s.od.length=0∧s.desc=false∧s.lim = -1)
def restS (s:St):St :=
 if s.k=1 then { s with k:=0,tb:=[],cols:=[],prim:=[] }
 else if s.k=3 then { s with k:=0,tb:=[],rows:=[] }
 else if s.k=4 then { s with k:=0,tb:=[],sets:=[],wh:=[] }
 else if s.k=5 then { s with k:=0,tb:=[],wh:=[] }
 else if s.k=6 then { s with k:=0,tb:=[],items:=[],jn:=[],on:=[],wh:=[],gr:=[],od:=[],desc:=false,lim:=-1 }
 else { s with k:=0,tb:=[] }
def kindB (s:St):Bool :=
 if s.k=1 then areB s.cols 1 8 colB&&nameOk s.prim
 else if s.k=2 then true
 else if s.k=3 then areB s.rows 1 16 rowB
 else if s.k=4 then areB s.sets 1 8 setB&&areB s.wh 0 1 rightE
 else if s.k=5 then areB s.wh 0 1 rightE
 else if s.k=6 then selB s
 else false
def rightS (s:St):Bool:=kindB s&&(nameOk s.tb&&empS (restS s))
def StopS (rest:List Tk):Prop:=∀s,isT (rest.headD zTk) s=true→s=[59]
theorem StopS.no {rest:List Tk} (h:StopS rest) {s:List UInt8} (hs:s≠[59]):isT (rest.headD zTk) s=false:=by
 cases e:isT (rest.headD zTk) s with
 | false=>rfl
 | true=>exact absurd (h s e) hs
theorem barred_no : ∀s∈barred 0,s≠[59]∧s≠[44]∧s≠[41]:=by decide
theorem StopS.stops {rest:List Tk} (h:StopS rest):Stops 0 rest:=fun s hs=>h.no (barred_no s hs).1
theorem isT_eq {t:Tk} {s u:List UInt8} (h:isT t s=true) (hu:isT t u=true):s=u:=by
 unfold isT at h hu
 simp only[Bool.and_eq_true,beq_iff_eq] at h hu
 exact h.2.symm.trans hu.2
theorem isT_fx (s:List UInt8):isT (fxT s) s=true:=by
 unfold fxT isT
 split<;>simp
theorem isT_fx_no {s u:List UInt8} (h:s≠u):isT (fxT s) u=false:=by
 cases e:isT (fxT s) u with
 | false=>rfl
 | true=>exact absurd (isT_eq (isT_fx s) e) h
theorem name_read (d bp:Int) (s:List UInt8) (ts:List Tk):nameP (RR d bp (nmT s::ts))=(s,RR d bp ts):=rfl
theorem mustF {d bp:Int} {ts:List Tk} (s:List UInt8):mustP s (RR d bp (fxT s::ts))=((),RR d bp ts):=must_read (isT_fx s)
theorem musts_read (d bp:Int) (ts:List Tk):∀l:List (List UInt8),mustsP l (RR d bp (wordsK l++ts))=((),RR d bp ts)
 | []=>rfl
 |
  s::l=>by
  unfold mustsP
  rw[show wordsK (s::l)++ts=fxT s::(wordsK l++ts) from rfl,bind_at (mustF s)]
  exact musts_read d bp ts l
theorem skipK_yes {d bp:Int} {ts:List Tk} (s:List UInt8):skipP s (RR d bp (fxT s::ts))=(true,RR d bp ts):=if_yes _ _ (isT_fx s)
theorem skipK_no {d bp:Int} {ts:List Tk} {s:List UInt8} (h:isT (ts.headD zTk) s=false):skipP s (RR d bp ts)=(false,RR d bp ts):=if_no _ _ h
theorem list_read {α:Type} {one:Pa α} {more:Pa Bool} {sep:Tk} {tk:α→List Tk} {d bp:Int} {rest rest':List Tk}
  (hend:more (RR d bp rest)=(false,RR d bp rest')) :
  ∀
   (xs:List α) (x:α) (m:Nat) (acc:List α),xs.length+1≤m→(∀y∈x::xs,∀ts,ts=rest∨(∃u,ts=sep::u)→one (RR d bp (tk y++ts))=(y,RR d bp ts)) →
   (∀y∈xs,∀ts,more (RR d bp (sep::(tk y++ts)))=(true,RR d bp (tk y++ts))) →
   listL one more m acc (RR d bp (sepK sep ((x::xs).map tk)++rest))=(acc++x::xs,RR d bp rest')
 |
  [],x,m+1,acc,hm,hone,hmo=>by
  rw[show sepK sep ([x].map tk)++rest=tk x++rest by simp[sepK]]
  unfold listL
  rw[bind_at (hone x (by simp) rest (.inl rfl)),bind_at hend]
  rfl
 |
  y::xs,x,m+1,acc,hm,hone,hmo=>by
  rw[show sepK sep ((x::y::xs).map tk)++rest=tk x++sep::(sepK sep ((y::xs).map tk)++rest) by simp[sepK]]
  unfold listL
  rw[bind_at (hone x (by simp) _ (.inr ⟨_,rfl⟩))]
  have e:sepK sep ((y::xs).map tk)++rest=tk y++((xs.map tk).flatMap (fun y=>sep::y)++rest):=by simp[sepK]
  rw[e,bind_at (hmo y (by simp) _),if_pos rfl,← e]
  have ih:=list_read (one:=one) (tk:=tk) hend xs y m (acc++[x]) (by simp at hm;omega) (fun z hz=>hone z (List.mem_cons_of_mem _ hz)) (fun z hz=>hmo z (List.mem_cons_of_mem _ hz))
  rw[ih]
  simp
end Go.Proofs.YtaaggohjmhifbaaGreatDoor
namespace Go.Proofs.YtaaggohjmhifbaaGreatDoor
open Go.RowKit Go.Shelf
set_option linter.unusedSimpArgs false
set_option linter.unusedVariables false
set_option maxRecDepth 20000
set_option maxHeartbeats 8000000
def OkT (t:Tk):Prop:=t.s.length≤40∧0≤t.n∧t.n≤9223372036854775807
theorem wr_le {t:Tk} (h:OkT t):(wr t).length≤100:=by
 obtain⟨h1,h2,h3⟩:=h
 unfold wr
 split
 ·unfold Lib.itoa
  rw[if_neg (by omega)]
  have:=(digits_facts t.n.toNat (by omega)).2.2.2.1
  omega
 ·split
  ·have:=dbl_le t.s
   simp
   omega
  ·omega
theorem joinTail_le : ∀ps:List (List UInt8),(∀p∈ps,p.length≤100)→(Lib.joinTail [32] ps).length≤101*ps.length
 | [],_=>by simp[Lib.joinTail]
 |
  p::ps,h=>by
  have ih:=joinTail_le ps (fun q hq=>h q (by simp[hq]))
  have hp:=h p (by simp)
  have e:Lib.joinTail [32] (p::ps)=32::(p++Lib.joinTail [32] ps):=by simp[Lib.joinTail]
  rw[e]
  simp
  omega
theorem join_le (ps:List (List UInt8)) (h : ∀p∈ps,p.length≤100):(Lib.join ps [32]).length≤101*ps.length:=by
 cases ps with
 | nil=>simp[Lib.join_nil]
 |
  cons p ps =>
  rw[Lib.join_cons]
  have:=joinTail_le ps (fun q hq=>h q (by simp[hq]))
  have hp:=h p (by simp)
  simp
  omega
def scs (ps:List (List UInt8)):List Value:=ps.map fun l=>.string (str8 l)
def wrs (l:List Tk):List (List UInt8):=(l.filter fun t=>t.k != 6).map wr
theorem wrs_snoc (l:List Tk) (t:Tk):wrs (l++[t])=if t.k=6 then wrs l else wrs l++[wr t]:=by
 unfold wrs
 rw[List.filter_append]
 by_cases h:t.k=6
 ·simp[h]
 ·simp[h]
theorem wrs_len (l:List Tk):(wrs l).length≤l.length:=by
 unfold wrs
 rw[List.length_map]
 exact List.length_filter_le _ _
theorem take_snocL {α:Type} (xs:List α) (k:Nat) (x:α) (h:xs[k]?=some x):xs.take (k+1)=xs.take k++[x]:=by
 obtain⟨hk,e⟩:=List.getElem?_eq_some_iff.1 h
 rw[List.take_succ_eq_append_getElem hk,e]
theorem Tryz.infoStr:(Tryz.prog.info? 9).map (fun i=>(i.zero,i.size,i.bytes))=some (some (.string ⟨#[]⟩),1,16):=by kernel_rfl
def OpsAt (w:World):Prop:=∀o:Nat,o≤13→w.cell? ⟨0,o*2,none⟩=some (.string (str8 (opTx o)))∧w.cell? ⟨0,o*2+1,none⟩=some (.int .i64 (opLv o))
structure TabW (w:World):Prop where
 tv:TabV w
 ops:OpsAt w
 lt:10<w.heap.size
theorem TabW.below {w w':World} {B:Nat} (h:TabW w) (hb:Below B w w') (hB:10<B):TabW w' :=
 ⟨h.tv.below hb (by omega),fun o ho=>⟨(hb.cell (p:=⟨0,o*2,none⟩) (by show 0<B;omega)).trans (h.ops o ho).1,(hb.cell (p:=⟨0,o*2+1,none⟩) (by show 0<B;omega)).trans (h.ops o ho).2⟩,Nat.lt_of_lt_of_le h.lt hb.size⟩
theorem TabW.on {w w':World} (h:TabW w) (hb:Below w.heap.size w w'):TabW w':=h.below hb h.lt
structure WrAt (w:World) (g:Nat) (tb:Option Nat) (L:List Tk) (d m:Int):Prop where
 lie : ∃v,w.heap[g]?=some (.cells #[v,.int .i64 d,.int .i64 m] 98)∧w.ownsRow (g+1) 162 4 v L.length (tcs L)∧v.ownBlock=tb
 tab:TabW w
 big:10<g
theorem WrAt.lt {w:World} {g:Nat} {tb:Option Nat} {L:List Tk} {d m:Int} (h:WrAt w g tb L d m):g<w.heap.size:=by
 obtain⟨v,hv,_⟩:=h.lie
 exact World.lt_of_block hv
theorem WrAt.tbs {w:World} {g:Nat} {tb:Option Nat} {L:List Tk} {d m:Int} (h:WrAt w g tb L d m):∀k,tb=some k→g<k∧k<w.heap.size:=by
 obtain⟨v,_,ho,rfl⟩:=h.lie
 exact fun k hk=>⟨(ho.lt k hk).1,(ho.lt k hk).2⟩
abbrev FrW (g:Nat) (tb:Option Nat) (w w':World):Prop:=Spares (fun k=>k=g∨tb=some k) w w'
def Wrote (g:Nat) (tb:Option Nat) (w w':World) (L:List Tk) (d m:Int):Prop :=
 ∃tb',WrAt w' g tb' L d m∧(∀k,tb'=some k→tb=some k∨w.heap.size≤k)∧FrW g tb w w'
theorem WrAt.here {w:World} {g:Nat} {tb:Option Nat} {L:List Tk} {d m:Int} (h:WrAt w g tb L d m):Wrote g tb w w L d m:=⟨tb,h,fun k hk=>.inl hk,Spares.refl _ _⟩
theorem Wrote.then {g:Nat} {tb tb1:Option Nat} {w w1 w2:World} {L:List Tk} {d m:Int} (h1 : ∀k,tb1=some k→tb=some k∨w.heap.size≤k) (hf:FrW g tb w w1) (h2:Wrote g tb1 w1 w2 L d m):Wrote g tb w w2 L d m:=by
 obtain⟨tb2,h3,h4,h5⟩:=h2
 refine ⟨tb2,h3,fun k hk=>?_,hf.andThen h5 fun i hi=>?_⟩
 ·rcases h4 k hk with e | e
  ·exact h1 k e
  ·exact .inr (Nat.le_trans hf.size e)
 ·rcases hi with rfl | e
  ·exact .inl (.inl rfl)
  ·rcases h1 i e with e | e
   ·exact .inl (.inr e)
   ·exact .inr e
theorem WrAt.below {w w':World} {g:Nat} {tb:Option Nat} {L:List Tk} {d m:Int} (h:WrAt w g tb L d m) (hb:Below w.heap.size w w'):WrAt w' g tb L d m:=by
 have hlt:=h.lt
 obtain⟨v,hv,ho,e⟩:=h.lie
 exact⟨⟨v,by rw[hb.block g hlt];exact hv,owns_onL ho hb,e⟩,h.tab.on hb,h.big⟩
theorem Wrote.new {g:Nat} {tb:Option Nat} {w w1 w2:World} {L:List Tk} {d m:Int} (hb:Below w.heap.size w w1) (h2:Wrote g tb w1 w2 L d m):Wrote g tb w w2 L d m :=
 Wrote.then (fun k hk=>.inl hk) (Spares.of_new hb) h2
structure BoxW (g:Nat) (tb:Option Nat) (w:World) (q:Nat) (o:Obj):Prop where
 at':w.heap[q]?=some o
 ng:q≠g
 nt:tb≠some q
theorem BoxW.on {g:Nat} {tb tb1:Option Nat} {w w1:World} {q:Nat} {o:Obj} (h:BoxW g tb w q o) (h1 : ∀k,tb1=some k→tb=some k∨w.heap.size≤k) (hf:FrW g tb w w1):BoxW g tb1 w1 q o:=by
 have hq:=World.lt_of_block h.at'
 refine ⟨(hf.block q hq (fun e=>by rcases e with e | e;exact h.ng e;exact h.nt e)).trans h.at',h.ng,fun e=>?_⟩
 rcases h1 q e with e | e
 ·exact h.nt e
 ·omega
theorem BoxW.below {g:Nat} {tb:Option Nat} {w w1:World} {q:Nat} {o:Obj} (h:BoxW g tb w q o) (hb:Below w.heap.size w w1):BoxW g tb w1 q o :=
 ⟨(hb.block q (World.lt_of_block h.at')).trans h.at',h.ng,h.nt⟩
theorem BoxW.mk' {w W:World} {g:Nat} {tb:Option Nat} {L:List Tk} {d m:Int} (h:WrAt w g tb L d m) {q:Nat} {o:Obj} (hW:W.heap[q]?=some o) (hq:w.heap.size≤q):BoxW g tb W q o :=
 ⟨hW,by have:=h.lt;omega,fun e=>by have:=(h.tbs q e).2;omega⟩
theorem FrW.keeps {w w':World} {g:Nat} {tb:Option Nat} {L:List Tk} {d m:Int} (h:WrAt w g tb L d m) (hf:FrW g tb w w'):∀b,b<g→b<w.heap.size→¬(b=g∨tb=some b)∧b<g:=fun b hb _ =>
 ⟨fun e=>by rcases e with e | e;omega;have:=(h.tbs b e).1;omega,hb⟩
theorem WrAt.frBelow {w w':World} {g:Nat} {tb:Option Nat} {L:List Tk} {d m:Int} (h:WrAt w g tb L d m) (hf:FrW g tb w w'):Below g w w' :=
 hf.below (fun i hi=>by rcases hi with rfl | e;exact Nat.le_refl _;have:=(h.tbs i e).1;omega) (Nat.le_of_lt h.lt)
theorem ExV.new {S:Nat→Prop} {w w':World} {x:Ex} {v:Value} (hx:ExV S w x v) (hb:Below w.heap.size w w'):ExV S w' x v:=hx.to (R:=fun _=>False) (Spares.of_new hb) (fun b h _=>⟨id,h⟩)
theorem ArgsAt.new {S:Nat→Prop} {w w':World} {x:List Ex} {v:Value} (hx:ArgsAt S w x v) (hb:Below w.heap.size w w'):ArgsAt S w' x v:=hx.to (R:=fun _=>False) (Spares.of_new hb) (fun b h _=>⟨id,h⟩)
theorem cells3W {w:World} {g:Nat} {a b c:Value} {t:TypeId} (h:w.heap[g]?=some (.cells #[a,b,c] t)) :
  w.cell? ⟨g,0,none⟩=some a∧w.cell? ⟨g,1,none⟩=some b∧w.cell? ⟨g,2,none⟩=some c∧∀i,w.frozen? ⟨g,i,none⟩=false :=
 ⟨by rw[cell_row _ _ _ _ _ _ h];rfl,by rw[cell_row _ _ _ _ _ _ h];rfl,by rw[cell_row _ _ _ _ _ _ h];rfl,fun i=>by simp[World.frozen?,h]⟩
theorem wr_set0 {w W:World} {g:Nat} {tb:Option Nat} {L L':List Tk} {d m:Int} {v v':Value} (hw:WrAt w g tb L d m) (hv:W.heap[g]?=some (.cells #[v,.int .i64 d,.int .i64 m] 98)) (ho:W.ownsRow (g+1) 162 4 v' L'.length (tcs L')) (hf:FrW g tb w W) (ht:v'.ownBlock=tb∨∃k,v'.ownBlock=some k∧w.heap.size≤k) :
  Wrote g tb w (W.setCell ⟨g,0,none⟩ v') L' d m:=by
 have hf2:FrW g tb w (W.setCell ⟨g,0,none⟩ v'):=Spares.setCell hf (.inl (.inl rfl)) v'
 refine ⟨v'.ownBlock,⟨⟨v',?_,ownsRow_setCell_below ho (Nat.lt_succ_self g) v',rfl⟩,hw.tab.below (hw.frBelow hf2) hw.big,hw.big⟩,fun k hk=>?_,hf2⟩
 ·rw[setCell_eq_setRow W g 0 _ _ _ v' hv,setRow_heap W g _ _ _ _ hv]
  rfl
 ·rcases ht with e | ⟨j,e,hj⟩
  ·exact .inl (e ▸ hk)
  ·obtain rfl:=Option.some.inj (e.symm.trans hk)
   exact .inr hj
theorem tcs_snoc (L:List Tk) (t:Tk):tcs (L++[t])=tcs L++[.int .i64 t.k,.string (str8 t.s),.int .i64 t.n,.int .i64 t.p]:=by simp[tcs,tc]
theorem put_any (g:Nat) (tb:Option Nat) (L:List Tk) (d m:Int) (w:World) (h:WrAt w g tb L d m) (t:Tk) (hL:L.length+1≤1000000000) (b:Nat) (ty:TypeId) (hb:w.heap[b]?=some (.cells #[.int .i64 t.k,.string (str8 t.s),.int .i64 t.n,.int .i64 t.p] ty)) :
  Calls Tryz.prog 163 #[.pointer (some ⟨g,0,none⟩),.slice (some ⟨b,0,none⟩) 1 1] w fun e w'=>e = .returned (.tuple #[])∧Wrote g tb w w' (L++[t]) d m:=by
 obtain⟨i0,hi,hz0,hz1,hz2⟩:=info_parts Tryz.infoTok
 have hlt:=h.lt
 obtain⟨v,hv,ho,hob⟩:=h.lie
 have k:=cells3W hv
 have HH:=hid h
 have HV:=hid hv
 have hnew : ∀(j:Nat) (u:Value),[Value.int .i64 t.k,.string (str8 t.s),.int .i64 t.n,.int .i64 t.p][j]?=some u→w.cell? ((⟨b,0,none⟩:Addr).add j)=some u:=by
  intro j u hj
  rw[Addr.add_lit,Nat.zero_add,cell_of_row _ _ _ _ _ _ hb]
  simpa using hj
 have hone : ∀u∈[Value.int .i64 t.k,.string (str8 t.s),.int .i64 t.n,.int .i64 t.p],u.oneCell'=true:=by intro u hu;simp at hu;rcases hu with rfl | rfl | rfl | rfl<;>rfl
 have HTB:=hid hob
 have hsz:g+1≤w.heap.size:=hlt
 clear h hv hb
 go_enter Tryz.func163,Tryz.ntmps163
 go_wp2_with (first
  | (
    at_builtin;refine wpList_append_where _ rfl (.tmp 8) (.tmp 9) 94 rfl (g+1) 162 i0 (.agg #[.int .i64 0,.string ⟨#[]⟩,.int .i64 0,.int .i64 0]) 4 40 Tryz.underlying94 hi hz0 hz1 hz2 rfl (by decide) v L.length (tcs L) rfl ho ⟨b,0,none⟩ 1 [.int .i64 t.k,.string (str8 t.s),.int .i64 t.n,.int .i64 t.p] rfl rfl hnew hone (by unfold maxLen;omega) (by omega) hsz ?_;intro v3 w3 hown3 hg3 hob3
    have HV3:Hid (w3.heap[g]?=some (.cells #[v,.int .i64 d,.int .i64 m] 98)):=hid ((hg3.block g hlt (fun e=>by have:=(ho.lt g e.symm).1;omega)).trans HV.out)
    have k3:=cells3W HV3.out
    obtain⟨va,vn,vc,rfl⟩:∃va vn vc,v3 = .slice va vn vc:=by
      rcases hown3.2 with⟨rfl,_⟩ | ⟨_,_,_,rfl,_⟩
      ·exact⟨_,_,_,rfl⟩
      ·exact⟨_,_,_,rfl⟩)
  | fail)
 have HF:Hid (FrW g tb w w3):=hid (Spares.of_grown hg3 (fun k hk=>.inr (HTB.out ▸ hk)))
 have hone3:Wrote g tb w (w3.setCell ⟨g,0,none⟩ (.slice va vn vc)) (L++[t]) d m:=by
  refine wr_set0 HH.out HV3.out ?_ HF.out ?_
  ·rw[List.length_append,tcs_snoc];exact hown3
  ·rcases hob3 with e | e
   · exact .inl (e.trans HTB.out)
   · exact .inr ⟨_,e,Nat.le_refl _⟩
 exact bodyPost_end (v:=.tuple #[]) (by simp[results,Tryz.results163,go_sem]) rfl ⟨rfl,hone3⟩
theorem put_new (g:Nat) (tb:Option Nat) (L:List Tk) (d m:Int) (w:World) (h:WrAt w g tb L d m) (t:Tk) (hL:L.length+1≤1000000000) :
  Calls Tryz.prog 163 #[.pointer (some ⟨g,0,none⟩),.slice (some ⟨w.heap.size,0,none⟩) 1 1] (w.alloc (.cells #[.int .i64 t.k,.string (str8 t.s),.int .i64 t.n,.int .i64 t.p] 162)) fun e w'=>e = .returned (.tuple #[])∧Wrote g tb w w' (L++[t]) d m:=by
 have hb:Below w.heap.size w (w.alloc (.cells #[.int .i64 t.k,.string (str8 t.s),.int .i64 t.n,.int .i64 t.p] 162)):=(Below.refl _ _).alloc (Nat.le_refl _) _
 refine (put_any g tb L d m _ (h.below hb) t hL w.heap.size _ (heap_alloc_new w _)).mono ?_
 rintro e w' ⟨rfl,h1⟩
 exact⟨rfl,h1.new hb⟩
theorem name_w (g:Nat) (tb:Option Nat) (L:List Tk) (d m:Int) (w:World) (h:WrAt w g tb L d m) (s:List UInt8) (hL:L.length+1≤1000000000) :
  Calls Tryz.prog 99 #[.pointer (some ⟨g,0,none⟩),.string (str8 s)] w fun e w'=>e = .returned (.tuple #[])∧Wrote g tb w w' (L++[nmT s]) d m:=by
 have HP:Hid (Calls Tryz.prog 163 #[.pointer (some ⟨g,0,none⟩),.slice (some ⟨w.heap.size,0,none⟩) 1 1] (w.alloc (.cells #[.int .i64 1,.string (str8 s),.int .i64 0,.int .i64 0] 162)) fun e w'=>e = .returned (.tuple #[])∧Wrote g tb w w' (L++[nmT s]) d m):=hid (put_new g tb L d m w h (nmT s) hL)
 clear h
 go_enter Tryz.func99,Tryz.ntmps99
 go_wp2_with fail
 refine HP.out.mono ?_
 rintro e w1 ⟨rfl,h1⟩
 go_wp2
 exact bodyPost_end (v:=.tuple #[]) (by simp[results,Tryz.results99,go_sem]) rfl ⟨rfl,h1⟩
def StrsW (g:Nat) (tb:Option Nat) (w:World) (v:Value) (ts:List (List UInt8)):Prop :=
 ∃a c,v = .slice a ts.length c∧ts.length≤1000∧(ts≠[]→∃b,a=some ⟨b,0,none⟩∧b≠g∧tb≠some b∧b<w.heap.size∧∀j t,ts[j]?=some t→w.cell? ⟨b,j,none⟩=some (.string (str8 t)))
theorem StrsW.on {g:Nat} {tb tb1:Option Nat} {w w1:World} {v:Value} {ts:List (List UInt8)} (h:StrsW g tb w v ts) (h1 : ∀k,tb1=some k→tb=some k∨w.heap.size≤k) (hf:FrW g tb w w1):StrsW g tb1 w1 v ts:=by
 obtain⟨a,c,hv,hl,h3⟩:=h
 refine ⟨a,c,hv,hl,fun hne=>?_⟩
 obtain⟨b,ha,hg,ht,hlt,hc⟩:=h3 hne
 refine ⟨b,ha,hg,fun e=>?_,Nat.lt_of_lt_of_le hlt hf.size,fun j t hj=>hf.cell (hc j t hj) (fun e=>by rcases e with e | e;exact hg e;exact ht e)⟩
 rcases h1 b e with e | e
 ·exact ht e
 ·omega
theorem fixed_any (g:Nat) (tb:Option Nat) (L:List Tk) (d m:Int) (w:World) (h:WrAt w g tb L d m) (v:Value) (ts:List (List UInt8)) (hv:StrsW g tb w v ts) (hne : ∀t∈ts,t≠[]) (hL:L.length+ts.length≤1000000000) :
  Calls Tryz.prog 97 #[.pointer (some ⟨g,0,none⟩),v] w fun e w'=>e = .returned (.tuple #[])∧Wrote g tb w w' (L++wordsK ts) d m:=by
 have HV:=hid hv
 have HW:=hid h.here
 have HN:=hid hne
 obtain⟨a,c,rfl,hlen,_⟩:=hv
 clear h hne
 go_enter Tryz.func97,Tryz.ntmps97
 go_wp2_with fail
 go_loopw [5,6,9] (fun _ _ i wr=>∃(k:Nat),k≤ts.length∧i = .int .i64 k∧Wrote g tb w wr (L++wordsK (ts.take k)) d m) (fun _ _ i _=>ts.length-(intOf i).toNat)
 case atStart=>exact⟨0,Nat.zero_le _,rfl,by simpa [wordsK] using HW.out⟩
 case round =>
  obtain⟨k,hk,rfl,hq⟩:=hrel
  by_cases hlt:k<ts.length
  ·obtain⟨t,ht⟩:∃t,ts[k]?=some t:=⟨_,List.getElem?_eq_getElem hlt⟩
   have hlt':((k:Int)<(ts.length:Int)):=by omega
   obtain⟨tb1,hw1,ht1,hf1⟩:=hq
   obtain⟨a',c',hvv,_,h3⟩:=HV.out.on ht1 hf1
   simp only[Value.slice.injEq] at hvv
   obtain⟨rfl,_,rfl⟩:=hvv
   obtain⟨b,rfl,_,_,_,hcell⟩:=h3 (fun e=>by rw[e] at hlt;simp at hlt)
   have hc:=hcell k t ht
   clear hcell h3
   obtain⟨x,t',rfl⟩:∃x t',t=x::t':=by
    cases t with
    | nil=>exact absurd rfl (HN.out [] (List.mem_of_getElem? ht))
    | cons x t'=>exact⟨x,t',rfl⟩
   have hp0:0<(str8 (x::t')).size:=by rw[str8_size];simp
   have hxv:((str8 (x::t'))[0]'hp0).toNat=x.toNat:=rfl
   have htk:wordsK (ts.take (k+1))=wordsK (ts.take k)++[fxT (x::t')]:=by
    obtain⟨h1,h2⟩:=List.getElem?_eq_some_iff.1 ht
    rw[List.take_succ_eq_append_getElem h1,h2]
    simp[wordsK]
   have hl1:(L++wordsK (ts.take k)).length+1≤1000000000:=by
    simp[wordsK,List.length_take]
    omega
   have HT1:=hid ht1
   have HF1:=hid hf1
   by_cases hU:65≤x∧x≤90
   ·have h65:((65:Int)≤(x.toNat:Int)):=by have:=UInt8.le_iff_toNat_le.1 hU.1;simp at this;omega
    have h90:((x.toNat:Int)≤90):=by have:=UInt8.le_iff_toNat_le.1 hU.2;simp at this;omega
    rw[← hxv] at h65 h90
    have hfx:fxT (x::t')=⟨2,x::t',0,0⟩:=if_pos hU
    have HP:Hid (Calls Tryz.prog 163 #[.pointer (some ⟨g,0,none⟩),.slice (some ⟨wr.heap.size,0,none⟩) 1 1] (wr.alloc (.cells #[.int .i64 2,.string (str8 (x::t')),.int .i64 0,.int .i64 0] 162)) fun e w'=>e = .returned (.tuple #[])∧Wrote g tb1 wr w' (L++wordsK (ts.take (k+1))) d m):=hid (by
     have:=put_new g tb1 _ d m wr hw1 (fxT (x::t')) hl1
     rw[List.append_assoc,← htk] at this
     rw[hfx] at this
     exact this)
    clear hw1 ht htk hl1 hfx ht1 hf1 hU hxv
    go_wp2_with fail
    refine HP.out.mono ?_
    rintro e w2 ⟨rfl,h2⟩
    have HQ:=hid (Wrote.then HT1.out HF1.out h2)
    clear h2 HP
    go_wp2
    go_roundw
    case rel=>exact⟨k+1,by omega,by go_num,HQ.out⟩
    case measure=>simp[intOf];omega
   ·have hfx:fxT (x::t')=⟨5,x::t',0,0⟩:=if_neg hU
    have HP:Hid (Calls Tryz.prog 163 #[.pointer (some ⟨g,0,none⟩),.slice (some ⟨wr.heap.size,0,none⟩) 1 1] (wr.alloc (.cells #[.int .i64 5,.string (str8 (x::t')),.int .i64 0,.int .i64 0] 162)) fun e w'=>e = .returned (.tuple #[])∧Wrote g tb1 wr w' (L++wordsK (ts.take (k+1))) d m):=hid (by
     have:=put_new g tb1 _ d m wr hw1 (fxT (x::t')) hl1
     rw[List.append_assoc,← htk] at this
     rw[hfx] at this
     exact this)
    have hU' : ¬((65:Int)≤(x.toNat:Int))∨((65:Int)≤(x.toNat:Int)∧¬((x.toNat:Int)≤90)):=by
     by_cases h1:(65:Int)≤(x.toNat:Int)
     ·refine .inr ⟨h1,fun h2=>hU ⟨UInt8.le_iff_toNat_le.2 ?_,UInt8.le_iff_toNat_le.2 ?_⟩⟩
      ·simp;omega
      ·simp;omega
     ·exact .inl h1
    rw[← hxv] at hU'
    clear hw1 ht htk hl1 hfx ht1 hf1 hU hxv
    rcases hU' with h65 | ⟨h65,h90⟩
    ·go_wp2_with fail
     refine HP.out.mono ?_
     rintro e w2 ⟨rfl,h2⟩
     have HQ:=hid (Wrote.then HT1.out HF1.out h2)
     clear h2 HP
     go_wp2
     go_roundw
     case rel=>exact⟨k+1,by omega,by go_num,HQ.out⟩
     case measure=>simp[intOf];omega
    ·go_wp2_with fail
     refine HP.out.mono ?_
     rintro e w2 ⟨rfl,h2⟩
     have HQ:=hid (Wrote.then HT1.out HF1.out h2)
     clear h2 HP
     go_wp2
     go_roundw
     case rel=>exact⟨k+1,by omega,by go_num,HQ.out⟩
     case measure=>simp[intOf];omega
  ·have hlt' : ¬((k:Int)<(ts.length:Int)):=by omega
   have HQ:Hid (Wrote g tb w wr (L++wordsK ts) d m):=hid (by rw[List.take_of_length_le (by omega)] at hq;exact hq)
   clear hq
   go_wp2
   exact bodyPost_end (v:=.tuple #[]) (by simp[results,Tryz.results97,go_sem]) rfl ⟨rfl,HQ.out⟩
theorem fixed_new (g:Nat) (tb:Option Nat) (L:List Tk) (d m:Int) (ts:List (List UInt8)) (w:World) (h:WrAt w g tb L d m) (hl:ts.length≤1000) (hne : ∀t∈ts,t≠[]) (hL:L.length+ts.length≤1000000000) :
  Calls Tryz.prog 97 #[.pointer (some ⟨g,0,none⟩),.slice (some ⟨w.heap.size,0,none⟩) ts.length ts.length] (w.alloc (.cells (ts.map fun t=>Value.string (str8 t)).toArray 9)) fun e w'=>e = .returned (.tuple #[])∧Wrote g tb w w' (L++wordsK ts) d m:=by
 have hb:Below w.heap.size w (w.alloc (.cells (ts.map fun t=>Value.string (str8 t)).toArray 9)):=(Below.refl _ _).alloc (Nat.le_refl _) _
 refine (fixed_any g tb L d m _ (h.below hb) _ ts ⟨_,_,rfl,hl,fun _=>⟨_,rfl,by have:=h.lt;omega,fun e=>by have:=(h.tbs _ e).2;omega,by simp,fun j t ht=>?_⟩⟩ hne hL).mono ?_
 ·rw[cell_of_row _ _ _ _ _ _ (heap_alloc_new w _)]
  simp[ht]
 ·rintro e w' ⟨rfl,h1⟩
  exact⟨rfl,h1.new hb⟩
end Go.Proofs.YtaaggohjmhifbaaGreatDoor
