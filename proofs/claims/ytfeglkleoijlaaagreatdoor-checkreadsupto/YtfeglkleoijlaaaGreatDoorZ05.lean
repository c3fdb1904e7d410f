/- Packed for the hand-in: WPure WStm LWrite WMem -/
import Derived.Test.YtfeglkleoijlaaaGreatDoorZ04
import Derived.Test.YtfeglkleoijlaaaGreatDoorZ03
namespace Go.Proofs.YtfeglkleoijlaaaGreatDoor
set_option linter.unusedSimpArgs false
set_option linter.unusedVariables false
set_option maxHeartbeats 8000000
def bC (s:List UInt8):Bool:=decide (0<s.length)&&(decide (s.length≤16)&&(bT dX (s.headD 0)&&decide (row (bT dD) s=s.length)))
def gK (v:Vl):Bool:=decide (iw v=0)&&decide (-9223372036854775807≤v.n∧v.n≤9223372036854775807)
def aK (s:List UInt8):Tk:=if 65≤s.headD 0∧s.headD 0≤90 then ⟨2,s,0,0⟩ else ⟨5,s,0,0⟩
def aW (s:List UInt8):Tk:=⟨1,s,0,0⟩
def mV (n:Int):Tk:=⟨3,[],n,0⟩
def Jd (s:List UInt8):Tk:=⟨4,s,0,0⟩
inductive Tm where
 | val (v:Vl)
 | col (t n:List UInt8)
 | op (o:Int) (a b:Tm)
 | not (a:Tm)
 | neg (a:Tm)
 | nul (a:Tm)
 | nnul (a:Tm)
def Tm.ex:Tm→Ex
 | .val v=>rU v
 | .col t n=>pQ t n
 | .op o a b=>yQ o a.ex b.ex
 | .not a=>gD 4 a.ex
 | .neg a=>gD 5 a.ex
 | .nul a=>gD 6 a.ex
 | .nnul a=>gD 4 (gD 6 a.ex)
def rW:List (List UInt8 × Nat):=[([],0),([79,82],0),([65,78,68],1),([61],3),([60,62],3),([60],3),([60,61],3),([62],3),([62,61],3),([43],4),([45],4),([42],5),([47],5),([37],5)]
def oh (o:Int):List UInt8:=(rW.getD o.toNat ([],0)).1
def cZ (o:Int):Nat:=(rW.getD o.toNat ([],0)).2
def xE (o:Int):Nat:=if cZ o=3 then 4 else cZ o
def Tm.zI:Tm→Bool
 | .nul _=>true
 | _=>false
def Tm.isNum:Tm→Bool
 | .val v=>decide (v.k=1)&&decide (0≤v.n)
 | _=>false
def Tm.lv:Tm→Nat
 | .op o _ _=>cZ o
 | .nul _=>3
 | .nnul _=>3
 | .not _=>2
 | _=>6
def iX (v:Vl):List Tk:=if v.k=2 then [Jd v.s] else if v.k=0 then [aK [78,85,76,76]] else if v.n<0 then [aK [45],mV (-v.n)] else [mV v.n]
def jw (l lv:Nat) (ts:List Tk):List Tk:=if l≤lv then ts else aK [40]::(ts++[aK [41]])
def jI (l lv d:Nat):Nat:=if l≤lv then d else d+1
def negL (a:Tm):Nat:=if a.isNum=true then 7 else 6
def isK:Tk:=aK [73,83]
def AZ:Tk:=aK [78,79,84]
def IZ:Tk:=aK [78,85,76,76]
def Tm.tk:Tm→List Tk
 | .val v=>iX v
 | .col t n=>if t=[] then [aW n] else [aW t,aK [46],aW n]
 | .op o a b=>jw (xE o) a.lv a.tk++aK (oh o)::jw (cZ o+1) b.lv b.tk
 | .not a=>AZ::jw 2 a.lv a.tk
 | .neg a=>aK [45]::jw (negL a) a.lv a.tk
 | .nul a=>jw 4 a.lv a.tk++[isK,IZ]
 | .nnul a=>jw 4 a.lv a.tk++[isK,AZ,IZ]
def Tm.dp:Tm→Nat
 | .val _=>0
 | .col _ _=>0
 | .op o a b=>max (jI (xE o) a.lv a.dp) (jI (cZ o+1) b.lv b.dp)
 | .not a=>jI 2 a.lv a.dp+1
 | .neg a=>jI (negL a) a.lv a.dp+1
 | .nul a=>jI 4 a.lv a.dp
 | .nnul a=>jI 4 a.lv a.dp
def Tm.ok:Tm→Prop
 | .val v=>gK v=true
 | .col t n=>bC n=true∧(t=[]∨bC t=true)
 | .op o a b=>1≤o∧o≤13∧a.ok∧b.ok
 | .not a=>a.zI=false∧a.ok
 | .neg a=>a.ok
 | .nul a=>a.ok
 | .nnul a=>a.ok
def Tm.sz:Tm→Nat
 | .val _=>1
 | .col _ _=>1
 | .op _ a b=>a.sz+b.sz+1
 | .not a=>a.sz+1
 | .neg a=>a.sz+1
 | .nul a=>a.sz+1
 | .nnul a=>a.sz+2
theorem fG (l lv:Nat) (ts:List Tk):ts.length≤(jw l lv ts).length∧(jw l lv ts).length≤ts.length+2:=by
 unfold jw
 split
 ·omega
 ·simp only[List.length_cons,List.length_append,List.length_nil];omega
theorem pJ (v:Vl):1≤(iX v).length∧(iX v).length≤2:=by
 unfold iX
 split
 ·simp
 ·split
  ·simp
  ·split<;>simp
theorem Dh (t:Tm):1≤t.sz:=by cases t<;>simp[Tm.sz]
theorem BQ (t:Tm):1≤t.tk.length∧t.tk.length+2≤8*t.sz:=by
 induction t with
 | val v=>have:=pJ v;simp only[Tm.tk,Tm.sz];omega
 | col t n=>simp only[Tm.tk,Tm.sz];split<;>simp
 |
  op o a b ha hb =>
  have h1:=fG (xE o) a.lv a.tk
  have h2:=fG (cZ o+1) b.lv b.tk
  simp only[Tm.tk,Tm.sz,List.length_append,List.length_cons]
  omega
 | not a ha=>have h1:=fG 2 a.lv a.tk;simp only[Tm.tk,Tm.sz,List.length_cons];omega
 | neg a ha=>have h1:=fG (negL a) a.lv a.tk;simp only[Tm.tk,Tm.sz,List.length_cons];omega
 | nul a ha=>have h1:=fG 4 a.lv a.tk;simp only[Tm.tk,Tm.sz,List.length_append,List.length_cons,List.length_nil];omega
 | nnul a ha=>have h1:=fG 4 a.lv a.tk;simp only[Tm.tk,Tm.sz,List.length_append,List.length_cons,List.length_nil];omega
theorem gY (l lv d:Nat):d≤jI l lv d∧jI l lv d≤d+1:=by unfold jI;split<;>omega
theorem F3 (t:Tm):t.dp+2≤2*t.sz:=by
 induction t with
 | val v=>simp[Tm.dp,Tm.sz]
 | col t n=>simp[Tm.dp,Tm.sz]
 |
  op o a b ha hb =>
  have h1:=gY (xE o) a.lv a.dp
  have h2:=gY (cZ o+1) b.lv b.dp
  have h3:=Dh a
  have h4:=Dh b
  simp only[Tm.dp,Tm.sz]
  omega
 | not a ha=>have h1:=gY 2 a.lv a.dp;simp only[Tm.dp,Tm.sz];omega
 | neg a ha=>have h1:=gY (negL a) a.lv a.dp;simp only[Tm.dp,Tm.sz];omega
 | nul a ha=>have h1:=gY 4 a.lv a.dp;simp only[Tm.dp,Tm.sz];omega
 | nnul a ha=>have h1:=gY 4 a.lv a.dp;simp only[Tm.dp,Tm.sz];omega
def GI (t:Tk) (s:List UInt8):Bool:=(t.k==2||t.k==5)&&t.s==s
def Cz (l:Nat):List (List UInt8) :=
 [46]::((if l≤5 then [[42],[47],[37]] else [])++((if l≤4 then [[43],[45]] else [])++((if l≤3 then [[73,83],[61],[60,62],[60],[60,61],[62],[62,61]] else [])++((if l≤1 then [[65,78,68]] else [])++(if l=0 then [[79,82]] else [])))))
def Stops (l:Nat) (rest:List Tk):Prop:=∀s∈Cz l,GI (rest.headD rQ) s=false
theorem Stops.up {l m:Nat} {rest:List Tk} (h:Stops l rest) (hm:l≤m):Stops m rest:=fun s hs=>h s (by
 unfold Cz at hs ⊢
 rw[List.mem_cons] at hs ⊢
 rcases hs with hs | hs
 ·exact .inl hs
 ·right
  simp only[List.mem_append] at hs ⊢
  rcases hs with hs | hs | hs | hs | hs
  ·left;split at hs
   ·rw[if_pos (by omega)];exact hs
   ·cases hs
  ·right;left;split at hs
   ·rw[if_pos (by omega)];exact hs
   ·cases hs
  ·right;right;left;split at hs
   ·rw[if_pos (by omega)];exact hs
   ·cases hs
  ·right;right;right;left;split at hs
   ·rw[if_pos (by omega)];exact hs
   ·cases hs
  ·right;right;right;right;split at hs
   ·rw[if_pos (by omega)];exact hs
   ·cases hs)
def Pl (F n:Nat):Nat→Pa Ex
 | 0=>F7 F (BK F n)
 | 1=>I6 F (BK F n)
 | 2=>Gu F (BK F n)
 | 3=>F8 (Gv F (BK F n))
 | 4=>Gv F (BK F n)
 | 5=>Gf F (BK F n)
 | _=>tZ (BK F n).fc (BK F n).ex
theorem u7 {v:Vl} (hv:gK v=true):(v.k=2∧v.n=0∧v.s.length≤40)∨(v.k=0∧v.n=0∧v.s=[])∨(v.k=1∧v.s=[]∧-9223372036854775807≤v.n∧v.n≤9223372036854775807):=by
 unfold gK at hv
 simp only[Bool.and_eq_true,decide_eq_true_eq] at hv
 obtain⟨hr,hm⟩:=hv
 unfold iw at hr
 by_cases he:eqv v (fU v)=false
 ·rw[if_pos he] at hr;cases hr
 ·rw[if_neg he] at hr
  have he:=oG.1 (by simpa using he)
  have hlen:v.s.length≤40:=by
   by_cases h:40<v.s.length
   ·rw[if_pos h] at hr;cases hr
   ·omega
  unfold fU at he
  by_cases h1:v.k=1
  ·rw[if_pos h1] at he;exact .inr (.inr ⟨h1,congrArg Vl.s he,hm⟩)
  ·rw[if_neg h1] at he
   by_cases h2:v.k=2
   ·rw[if_pos h2] at he;exact .inl ⟨h2,congrArg Vl.n he,hlen⟩
   ·rw[if_neg h2] at he;exact .inr (.inl ⟨congrArg Vl.k he,congrArg Vl.n he,congrArg Vl.s he⟩)
theorem yL (o:Int) (h1:1≤o) (h2:o≤13):o=1∨o=2∨o=3∨o=4∨o=5∨o=6∨o=7∨o=8∨o=9∨o=10∨o=11∨o=12∨o=13:=by omega
theorem Iq (o:Int) (h1:1≤o) (h2:o≤13):cZ o=0∨cZ o=1∨cZ o=3∨cZ o=4∨cZ o=5:=by
 rcases yL o h1 h2 with rfl | rfl | rfl | rfl | rfl | rfl | rfl | rfl | rfl | rfl | rfl | rfl | rfl<;>decide
def Tm.mkNot:Tm→Tm
 | .nul x=>.nnul x
 | t=>.not t
def iP:Ex→Tm
 |
  .mk k op tb nm v xs =>
  if k=1 then .val v else if k=2 then .col tb nm else
  match xs with
  | [a]=>if k=4 then (iP a).mkNot else if k=5 then .neg (iP a) else .nul (iP a)
  | [a,b]=>.op op (iP a) (iP b)
  | _=>.val zV
termination_by e=>SizeOf.sizeOf e
decreasing_by all_goals (simp_wf;omega)
theorem He (t:Tm) (h:t.ok):iP t.ex=t:=by
 induction t with
 | val v=>show iP (.mk 1 0 [] [] v [])=_;simp[iP]
 | col a b=>show iP (.mk 2 0 a b zV [])=_;simp[iP]
 | op o a b ha hb=>show iP (.mk 3 o [] [] zV [a.ex,b.ex])=_;rw[iP,ha h.2.2.1,hb h.2.2.2];rfl
 |
  not a ha =>
  show iP (.mk 4 0 [] [] zV [a.ex])=_
  rw[iP,ha h.2]
  have hn:=h.1
  cases a with
  | nul x=>cases hn
  | _=>rfl
 | neg a ha=>show iP (.mk 5 0 [] [] zV [a.ex])=_;rw[iP,ha h];rfl
 | nul a ha=>show iP (.mk 6 0 [] [] zV [a.ex])=_;rw[iP,ha h];rfl
 |
  nnul a ha =>
  show iP (.mk 4 0 [] [] zV [.mk 6 0 [] [] zV [a.ex]])=_
  rw[iP,iP,ha h];rfl
def aJ:Ex→Bool
 |
  .mk k op tb nm v xs =>
  if k=1 then gK v&&(decide (op=0)&&decide (tb=[])&&decide (nm=[])&&decide (xs.length=0))
  else if k=2 then (bC nm&&(decide (tb=[])||bC tb))&&(decide (op=0)&&eqv v zV&&decide (xs.length=0))
  else if k=3 then (decide (1≤op∧op≤13)&&(decide (xs.length=2)&&xs.attach.all fun x=>aJ x.1))&&(decide (tb=[])&&decide (nm=[])&&eqv v zV)
  else if k=4∨k=5∨k=6 then (decide (xs.length=1)&&xs.attach.all fun x=>aJ x.1)&&(decide (op=0)&&decide (tb=[])&&decide (nm=[])&&eqv v zV)
  else false
termination_by e=>SizeOf.sizeOf e
decreasing_by all_goals (simp_wf;have:=List.sizeOf_lt_of_mem x.2;omega)
theorem all_attach {α:Type} (xs:List α) (p:α→Bool):(xs.attach.all fun x=>p x.1)=xs.all p:=by
 rw[Bool.eq_iff_iff,List.all_eq_true,List.all_eq_true]
 exact⟨fun h x hx=>h ⟨x,hx⟩ (List.mem_attach _ _),fun h x _=>h x.1 x.2⟩
theorem iW (k op:Int) (tb nm:List UInt8) (v:Vl) (xs:List Ex):aJ (.mk k op tb nm v xs) =
  if k=1 then gK v&&(decide (op=0)&&decide (tb=[])&&decide (nm=[])&&decide (xs.length=0))
  else if k=2 then (bC nm&&(decide (tb=[])||bC tb))&&(decide (op=0)&&eqv v zV&&decide (xs.length=0))
  else if k=3 then (decide (1≤op∧op≤13)&&(decide (xs.length=2)&&xs.all aJ))&&(decide (tb=[])&&decide (nm=[])&&eqv v zV)
  else if k=4∨k=5∨k=6 then (decide (xs.length=1)&&xs.all aJ)&&(decide (op=0)&&decide (tb=[])&&decide (nm=[])&&eqv v zV)
  else false:=by
 rw[aJ,all_attach]
theorem Dr:eqv zV zV=true:=by decide
theorem ko : ∀(n:Nat) (e:Ex),SizeOf.sizeOf e<n→aJ e=true→∃t:Tm,t.ok∧t.ex=e
 |
  n+1,.mk k op tb nm v xs,hn,h=>by
  rw[iW] at h
  split at h
  ·rename_i h1
   simp only[Bool.and_eq_true,decide_eq_true_eq] at h
   obtain⟨hv,⟨⟨h2,h3⟩,h4⟩,h5⟩:=h
   obtain rfl:xs=[]:=List.eq_nil_of_length_eq_zero h5
   subst h1 h2 h3 h4
   exact⟨.val v,hv,rfl⟩
  ·split at h
   ·rename_i h1
    simp only[Bool.and_eq_true,Bool.or_eq_true,decide_eq_true_eq] at h
    obtain⟨⟨hnn,ht⟩,⟨h2,h3⟩,h4⟩:=h
    obtain rfl:xs=[]:=List.eq_nil_of_length_eq_zero h4
    obtain rfl:=oG.1 h3
    subst h1 h2
    exact⟨.col tb nm,⟨hnn,ht⟩,rfl⟩
   ·split at h
    ·rename_i h1
     simp only[Bool.and_eq_true,decide_eq_true_eq] at h
     obtain⟨⟨ho,hl,ha⟩,⟨h2,h3⟩,h4⟩:=h
     obtain rfl:=oG.1 h4
     match xs,hl with
     |
      [a,b],_ =>
      simp only[List.all_cons,List.all_nil,Bool.and_true,Bool.and_eq_true] at ha
      obtain⟨ta,oka,ea⟩:=ko n a (by simp at hn;omega) ha.1
      obtain⟨tb',okb,eb⟩:=ko n b (by simp at hn;omega) ha.2
      subst h1 h2 h3
      exact⟨.op op ta tb',⟨ho.1,ho.2,oka,okb⟩,by rw[← ea,← eb];rfl⟩
    ·split at h
     ·rename_i h1
      simp only[Bool.and_eq_true,decide_eq_true_eq] at h
      obtain⟨⟨hl,ha⟩,⟨⟨h2,h3⟩,h4⟩,h5⟩:=h
      obtain rfl:=oG.1 h5
      match xs,hl with
      |
       [a],_ =>
       simp only[List.all_cons,List.all_nil,Bool.and_true] at ha
       obtain⟨ta,oka,ea⟩:=ko n a (by simp at hn;omega) ha
       subst h2 h3 h4
       rcases h1 with rfl | rfl | rfl
       ·cases hN:ta.zI with
        | false=>exact⟨.not ta,⟨hN,oka⟩,by rw[← ea];rfl⟩
        |
         true =>
         cases ta with
         | nul x=>exact⟨.nnul x,oka,by rw[← ea];rfl⟩
         | _=>cases hN
       ·exact⟨.neg ta,oka,by rw[← ea];rfl⟩
       ·exact⟨.nul ta,oka,by rw[← ea];rfl⟩
     ·cases h
theorem l8 {e:Ex} (h:aJ e=true):(iP e).ok∧(iP e).ex=e:=by
 obtain⟨t,h1,h2⟩:=ko (SizeOf.sizeOf e+1) e (Nat.lt_succ_self _) h
 rw[← h2,He t h1]
 exact⟨h1,rfl⟩
def jG (e:Ex):List Tk:=(iP e).tk
def fJ (e:Ex):Nat:=(iP e).dp
def jE (e:Ex):Nat:=(iP e).sz
def aS (sep:Tk):List (List Tk)→List Tk
 | []=>[]
 | x::l=>x++l.flatMap fun y=>sep::y
theorem gU (sep:Tk) (l:List (List Tk)) (y:List Tk):aS sep (l++[y])=if l=[] then y else aS sep l++sep::y:=by
 cases l with
 | nil=>simp[aS]
 | cons x l=>simp[aS,List.flatMap_append]
def au (l:List (List UInt8)):List Tk:=l.map aK
def bH (xs:List Ex) (ws:List (List UInt8)):List Tk:=xs.flatMap fun e=>au ws++jG e
def aY (l:List Nat):Nat:=l.foldr max 0
def bY (l:List Ex):Nat:=aY (l.map fJ)
def iN (c:Co):List Tk:=aW c.nm::aK (if c.k=1 then [73,78,84] else [84,69,88,84])::((if c.nn=true then au [[78,79,84],[78,85,76,76]] else [])++(if c.uq=true then au [[85,78,73,81,85,69]] else []))
def jA (r:List Vl):List Tk:=aK [40]::(aS (aK [44]) (r.map iX)++[aK [41]])
def pY (s:Se):List Tk:=aW s.nm::aK [61]::jG s.e
def ER (k:Int):List UInt8:=if k=4 then [67,79,85,78,84] else if k=5 then [83,85,77] else if k=6 then [77,73,78] else [77,65,88]
def xG (i:It):List Tk:=if i.k=1 then [aK [42]] else if i.k=2 then jG (i.xs.headD mW) else if i.k=3 then au [[67,79,85,78,84],[40],[42],[41]] else au [ER i.k,[40]]++(jG (i.xs.headD mW)++[aK [41]])
def z8 (i:It):Nat:=bY i.xs
def EF (s:St):List Tk :=
 aK [83,69,76,69,67,84]::(aS (aK [44]) (s.items.map xG)++aK [70,82,79,77]::aW s.tb::((if s.jn=[] then [] else [aK [74,79,73,78],aW s.jn])++(bH s.on [[79,78]]++(bH s.wh [[87,72,69,82,69]]++(bH s.gr [[71,82,79,85,80],[66,89]]++(bH s.od [[79,82,68,69,82],[66,89]]++((if s.desc=true then [aK [68,69,83,67]] else [])++(if s.lim = -1 then [] else [aK [76,73,77,73,84],mV s.lim]))))))))
def Hy (s:St):List Tk :=
 au [[67,82,69,65,84,69],[84,65,66,76,69]]++aW s.tb::aK [40]::(aS (aK [44]) (s.cols.map iN)++(au [[44],[80,82,73,77,65,82,89],[75,69,89],[40]]++aW s.prim::au [[41],[41]]))
def jF (s:St):List Tk :=
 if s.k=1 then Hy s
 else if s.k=2 then au [[68,82,79,80],[84,65,66,76,69]]++[aW s.tb]
 else if s.k=3 then au [[73,78,83,69,82,84],[73,78,84,79]]++aW s.tb::aK [86,65,76,85,69,83]::aS (aK [44]) (s.rows.map jA)
 else if s.k=4 then aK [85,80,68,65,84,69]::aW s.tb::aK [83,69,84]::(aS (aK [44]) (s.sets.map pY)++bH s.wh [[87,72,69,82,69]])
 else if s.k=5 then au [[68,69,76,69,84,69],[70,82,79,77]]++aW s.tb::bH s.wh [[87,72,69,82,69]]
 else EF s
def mR (s:St):Nat :=
 if s.k=4 then max (aY (s.sets.map fun x=>fJ x.e)) (bY s.wh)
 else if s.k=5 then bY s.wh
 else if s.k=6 then max (aY (s.items.map z8)) (max (bY s.on) (max (bY s.wh) (max (bY s.gr) (bY s.od))))
 else 0
def bf {α:Type} (xs:List α) (a b:Nat) (p:α→Bool):Bool:=decide (a≤xs.length∧xs.length≤b)&&xs.all p
def eY (c:Co):Bool:=bC c.nm&&decide (c.k=1∨c.k=2)
def uQ (r:List Vl):Bool:=bf r 1 8 gK
def mP (s:Se):Bool:=bC s.nm&&aJ s.e
def jH:Ex→Int
 | .mk k _ _ _ _ _=>k
def eF (e:Ex):Bool:=decide (jH e=2)&&aJ e
def sw (i:It):Bool:=if i.k=1∨i.k=3 then decide (i.xs.length=0) else if i.k=2∨i.k=4∨i.k=5∨i.k=6∨i.k=7 then bf i.xs 1 1 aJ else false
def kN (s:List UInt8):Bool:=decide (s=[])||bC s
def fF (s:List UInt8):Nat:=if s=[] then 0 else 1
def vB (s:St):Bool :=
 bf s.items 1 8 sw&&(kN s.jn&&(bf s.on (fF s.jn) (fF s.jn) aJ&&(bf s.wh 0 1 aJ&&(bf s.gr 0 1 eF&&(bf s.od 0 1 eF&&((!s.desc||decide (s.od.length=1))&&decide (-1≤s.lim∧s.lim≤9223372036854775807)))))))
def wK (s:St):Bool:=decide (s.k=0∧s.tb=[]∧s.cols.length=0∧s.prim=[]∧s.rows.length=0∧s.sets.length=0∧s.items.length=0∧s.jn=[]∧s.on.length=0∧s.wh.length=0∧s.gr.length=0∧s.od.length=0∧s.desc=false∧s.lim = -1)
def sj (s:St):St :=
 if s.k=1 then { s with k:=0,tb:=[],cols:=[],prim:=[] }
 else if s.k=3 then { s with k:=0,tb:=[],rows:=[] }
 else if s.k=4 then { s with k:=0,tb:=[],sets:=[],wh:=[] }
 else if s.k=5 then { s with k:=0,tb:=[],wh:=[] }
 else if s.k=6 then { s with k:=0,tb:=[],items:=[],jn:=[],on:=[],wh:=[],gr:=[],od:=[],desc:=false,lim:=-1 }
 else { s with k:=0,tb:=[] }
def iT (s:St):Bool :=
 if s.k=1 then bf s.cols 1 8 eY&&bC s.prim
 else if s.k=2 then true
 else if s.k=3 then bf s.rows 1 16 uQ
 else if s.k=4 then bf s.sets 1 8 mP&&bf s.wh 0 1 aJ
 else if s.k=5 then bf s.wh 0 1 aJ
 else if s.k=6 then vB s
 else false
def aZ (s:St):Bool:=iT s&&(bC s.tb&&wK (sj s))
theorem Gl {t:Tk} {s u:List UInt8} (h:GI t s=true) (hu:GI t u=true):s=u:=by
 unfold GI at h hu
 simp only[Bool.and_eq_true,beq_iff_eq] at h hu
 exact h.2.symm.trans hu.2
theorem GJ (s:List UInt8):GI (aK s) s=true:=by
 unfold aK GI
 split<;>simp
end Go.Proofs.YtfeglkleoijlaaaGreatDoor
namespace Go.Proofs.YtfeglkleoijlaaaGreatDoor
open Go.RowKit Go.Shelf
set_option linter.unusedSimpArgs false
set_option linter.unusedVariables false
set_option maxRecDepth 20000
set_option maxHeartbeats 8000000
def GL (t:Tk):Prop:=t.s.length≤40∧0≤t.n∧t.n≤9223372036854775807
theorem Iy {t:Tk} (h:GL t):(wr t).length≤100:=by
 obtain⟨h1,h2,h3⟩:=h
 unfold wr
 split
 ·unfold Lib.itoa
  rw[if_neg (by omega)]
  have:=(jl t.n.toNat (by omega)).2.2.2.1
  omega
 ·split
  ·have:=Cc t.s
   simp
   omega
  ·omega
theorem nH : ∀ps:List (List UInt8),(∀p∈ps,p.length≤100)→(Lib.joinTail [32] ps).length≤101*ps.length
 | [],_=>by simp[Lib.joinTail]
 |
  p::ps,h=>by
  have ih:=nH ps (fun q hq=>h q (by simp[hq]))
  have hp:=h p (by simp)
  have e:Lib.joinTail [32] (p::ps)=32::(p++Lib.joinTail [32] ps):=by simp[Lib.joinTail]
  rw[e]
  simp
  omega
theorem join_le (ps:List (List UInt8)) (h : ∀p∈ps,p.length≤100):(Lib.join ps [32]).length≤101*ps.length:=by
 cases ps with
 | nil=>simp[Lib.join_nil]
 |
  cons p ps =>
  rw[Lib.join_cons]
  have:=nH ps (fun q hq=>h q (by simp[hq]))
  have hp:=h p (by simp)
  simp
  omega
def Gh (ps:List (List UInt8)):List Value:=ps.map fun l=>.string (aj l)
def oI (l:List Tk):List (List UInt8):=(l.filter fun t=>t.k != 6).map wr
theorem CX (l:List Tk) (t:Tk):oI (l++[t])=if t.k=6 then oI l else oI l++[wr t]:=by
 unfold oI
 rw[List.filter_append]
 by_cases h:t.k=6
 ·simp[h]
 ·simp[h]
theorem Fq (l:List Tk):(oI l).length≤l.length:=by
 unfold oI
 rw[List.length_map]
 exact List.length_filter_le _ _
theorem xZ {α:Type} (xs:List α) (k:Nat) (x:α) (h:xs[k]?=some x):xs.take (k+1)=xs.take k++[x]:=by
 obtain⟨hk,e⟩:=List.getElem?_eq_some_iff.1 h
 rw[List.take_succ_eq_append_getElem hk,e]
theorem Tryz.Fe:(Tryz.prog.info? 9).map (fun i=>(i.zero,i.size,i.bytes))=some (some (.string ⟨#[]⟩),1,16):=by kernel_rfl
def sZ (w:World):Prop:=∀o:Nat,o≤13→w.cell? ⟨0,o*2,none⟩=some (.string (aj (oh o)))∧w.cell? ⟨0,o*2+1,none⟩=some (.int .i64 (cZ o))
structure eH (w:World):Prop where
 tv:rE w
 ops:sZ w
 lt:10<w.heap.size
theorem eH.below {w w':World} {B:Nat} (h:eH w) (hb:Below B w w') (hB:10<B):eH w' :=
 ⟨h.tv.below hb (by omega),fun o ho=>⟨(hb.cell (p:=⟨0,o*2,none⟩) (by show 0<B;omega)).trans (h.ops o ho).1,(hb.cell (p:=⟨0,o*2+1,none⟩) (by show 0<B;omega)).trans (h.ops o ho).2⟩,Nat.lt_of_lt_of_le h.lt hb.size⟩
theorem eH.on {w w':World} (h:eH w) (hb:Below w.heap.size w w'):eH w':=h.below hb h.lt
structure bJ (w:World) (g:Nat) (tb:Option Nat) (L:List Tk) (d m:Int):Prop where
 lie : ∃v,w.heap[g]?=some (.cells #[v,.int .i64 d,.int .i64 m] 100)∧w.ownsRow (g+1) 180 4 v L.length (tcs L)∧v.ownBlock=tb
 tab:eH w
 big:10<g
theorem bJ.lt {w:World} {g:Nat} {tb:Option Nat} {L:List Tk} {d m:Int} (h:bJ w g tb L d m):g<w.heap.size:=by
 obtain⟨v,hv,_⟩:=h.lie
 exact World.lt_of_block hv
theorem bJ.EB {w:World} {g:Nat} {tb:Option Nat} {L:List Tk} {d m:Int} (h:bJ w g tb L d m):∀k,tb=some k→g<k∧k<w.heap.size:=by
 obtain⟨v,_,ho,rfl⟩:=h.lie
 exact fun k hk=>⟨(ho.lt k hk).1,(ho.lt k hk).2⟩
abbrev cB (g:Nat) (tb:Option Nat) (w w':World):Prop:=aA (fun k=>k=g∨tb=some k) w w'
def Wrote (g:Nat) (tb:Option Nat) (w w':World) (L:List Tk) (d m:Int):Prop :=
 ∃tb',bJ w' g tb' L d m∧(∀k,tb'=some k→tb=some k∨w.heap.size≤k)∧cB g tb w w'
theorem bJ.here {w:World} {g:Nat} {tb:Option Nat} {L:List Tk} {d m:Int} (h:bJ w g tb L d m):Wrote g tb w w L d m:=⟨tb,h,fun k hk=>.inl hk,aA.refl _ _⟩
theorem Wrote.then {g:Nat} {tb tb1:Option Nat} {w w1 w2:World} {L:List Tk} {d m:Int} (h1 : ∀k,tb1=some k→tb=some k∨w.heap.size≤k) (hf:cB g tb w w1) (h2:Wrote g tb1 w1 w2 L d m):Wrote g tb w w2 L d m:=by
 obtain⟨tb2,h3,h4,h5⟩:=h2
 refine ⟨tb2,h3,fun k hk=>?_,hf.andThen h5 fun i hi=>?_⟩
 ·rcases h4 k hk with e | e
  ·exact h1 k e
  ·exact .inr (Nat.le_trans hf.size e)
 ·rcases hi with rfl | e
  ·exact .inl (.inl rfl)
  ·rcases h1 i e with e | e
   ·exact .inl (.inr e)
   ·exact .inr e
theorem bJ.below {w w':World} {g:Nat} {tb:Option Nat} {L:List Tk} {d m:Int} (h:bJ w g tb L d m) (hb:Below w.heap.size w w'):bJ w' g tb L d m:=by
 have hlt:=h.lt
 obtain⟨v,hv,ho,e⟩:=h.lie
 exact⟨⟨v,by rw[hb.block g hlt];exact hv,vJ ho hb,e⟩,h.tab.on hb,h.big⟩
theorem Wrote.new {g:Nat} {tb:Option Nat} {w w1 w2:World} {L:List Tk} {d m:Int} (hb:Below w.heap.size w w1) (h2:Wrote g tb w1 w2 L d m):Wrote g tb w w2 L d m :=
 Wrote.then (fun k hk=>.inl hk) (aA.aC hb) h2
structure dn (g:Nat) (tb:Option Nat) (w:World) (q:Nat) (o:Obj):Prop where
 at':w.heap[q]?=some o
 ng:q≠g
 nt:tb≠some q
theorem dn.on {g:Nat} {tb tb1:Option Nat} {w w1:World} {q:Nat} {o:Obj} (h:dn g tb w q o) (h1 : ∀k,tb1=some k→tb=some k∨w.heap.size≤k) (hf:cB g tb w w1):dn g tb1 w1 q o:=by
 have hq:=World.lt_of_block h.at'
 refine ⟨(hf.block q hq (fun e=>by rcases e with e | e;exact h.ng e;exact h.nt e)).trans h.at',h.ng,fun e=>?_⟩
 rcases h1 q e with e | e
 ·exact h.nt e
 ·omega
theorem dn.below {g:Nat} {tb:Option Nat} {w w1:World} {q:Nat} {o:Obj} (h:dn g tb w q o) (hb:Below w.heap.size w w1):dn g tb w1 q o :=
 ⟨(hb.block q (World.lt_of_block h.at')).trans h.at',h.ng,h.nt⟩
theorem dn.mk' {w W:World} {g:Nat} {tb:Option Nat} {L:List Tk} {d m:Int} (h:bJ w g tb L d m) {q:Nat} {o:Obj} (hW:W.heap[q]?=some o) (hq:w.heap.size≤q):dn g tb W q o :=
 ⟨hW,by have:=h.lt;omega,fun e=>by have:=(h.EB q e).2;omega⟩
theorem cB.keeps {w w':World} {g:Nat} {tb:Option Nat} {L:List Tk} {d m:Int} (h:bJ w g tb L d m) (hf:cB g tb w w'):∀b,b<g→b<w.heap.size→¬(b=g∨tb=some b)∧b<g:=fun b hb _ =>
 ⟨fun e=>by rcases e with e | e;omega;have:=(h.EB b e).1;omega,hb⟩
theorem bJ.uJ {w w':World} {g:Nat} {tb:Option Nat} {L:List Tk} {d m:Int} (h:bJ w g tb L d m) (hf:cB g tb w w'):Below g w w' :=
 hf.below (fun i hi=>by rcases hi with rfl | e;exact Nat.le_refl _;have:=(h.EB i e).1;omega) (Nat.le_of_lt h.lt)
theorem fB.qV {w w':World} {g:Nat} {tb:Option Nat} {L:List Tk} {d m:Int} {x:Ex} {v:Value} (h:bJ w g tb L d m) (hf:cB g tb w w') (hx:fB (fun b=>b<g) w x v):fB (fun b=>b<g) w' x v:=hx.to hf (cB.keeps h hf)
theorem bF.qV {w w':World} {g:Nat} {tb:Option Nat} {L:List Tk} {d m:Int} {x:List Ex} {v:Value} (h:bJ w g tb L d m) (hf:cB g tb w w') (hx:bF (fun b=>b<g) w x v):bF (fun b=>b<g) w' x v:=hx.to hf (cB.keeps h hf)
theorem fB.new {S:Nat→Prop} {w w':World} {x:Ex} {v:Value} (hx:fB S w x v) (hb:Below w.heap.size w w'):fB S w' x v:=hx.to (R:=fun _=>False) (aA.aC hb) (fun b h _=>⟨id,h⟩)
theorem bF.new {S:Nat→Prop} {w w':World} {x:List Ex} {v:Value} (hx:bF S w x v) (hb:Below w.heap.size w w'):bF S w' x v:=hx.to (R:=fun _=>False) (aA.aC hb) (fun b h _=>⟨id,h⟩)
theorem gN {w:World} {g:Nat} {a b c:Value} {t:TypeId} (h:w.heap[g]?=some (.cells #[a,b,c] t)) :
  w.cell? ⟨g,0,none⟩=some a∧w.cell? ⟨g,1,none⟩=some b∧w.cell? ⟨g,2,none⟩=some c∧∀i,w.frozen? ⟨g,i,none⟩=false :=
 ⟨by rw[aD _ _ _ _ _ _ h];rfl,by rw[aD _ _ _ _ _ _ h];rfl,by rw[aD _ _ _ _ _ _ h];rfl,fun i=>by simp[World.frozen?,h]⟩
theorem FC {w W:World} {g:Nat} {tb:Option Nat} {L L':List Tk} {d m:Int} {v v':Value} (hw:bJ w g tb L d m) (hv:W.heap[g]?=some (.cells #[v,.int .i64 d,.int .i64 m] 100)) (ho:W.ownsRow (g+1) 180 4 v' L'.length (tcs L')) (hf:cB g tb w W) (ht:v'.ownBlock=tb∨∃k,v'.ownBlock=some k∧w.heap.size≤k) :
  Wrote g tb w (W.setCell ⟨g,0,none⟩ v') L' d m:=by
 have hf2:cB g tb w (W.setCell ⟨g,0,none⟩ v'):=aA.setCell hf (.inl (.inl rfl)) v'
 refine ⟨v'.ownBlock,⟨⟨v',?_,ownsRow_setCell_below ho (Nat.lt_succ_self g) v',rfl⟩,hw.tab.below (hw.uJ hf2) hw.big,hw.big⟩,fun k hk=>?_,hf2⟩
 ·rw[setCell_eq_setRow W g 0 _ _ _ v' hv,setRow_heap W g _ _ _ _ hv]
  rfl
 ·rcases ht with e | ⟨j,e,hj⟩
  ·exact .inl (e ▸ hk)
  ·obtain rfl:=Option.some.inj (e.symm.trans hk)
   exact .inr hj
theorem Cv (L:List Tk) (t:Tk):tcs (L++[t])=tcs L++[.int .i64 t.k,.string (aj t.s),.int .i64 t.n,.int .i64 t.p]:=by simp[tcs,tc]
theorem Fu (g:Nat) (tb:Option Nat) (L:List Tk) (d m:Int) (w:World) (h:bJ w g tb L d m) (t:Tk) (hL:L.length+1≤1000000000) (b:Nat) (ty:TypeId) (hb:w.heap[b]?=some (.cells #[.int .i64 t.k,.string (aj t.s),.int .i64 t.n,.int .i64 t.p] ty)) :
  Calls Tryz.prog 144 #[.pointer (some ⟨g,0,none⟩),.slice (some ⟨b,0,none⟩) 1 1] w fun e w'=>e = .returned (.tuple #[])∧Wrote g tb w w' (L++[t]) d m:=by
 obtain⟨i0,hi,hz0,hz1,hz2⟩:=info_parts Tryz.EI
 have hlt:=h.lt
 obtain⟨v,hv,ho,hob⟩:=h.lie
 have k:=gN hv
 have HH:=hid h
 have HV:=hid hv
 have hnew : ∀(j:Nat) (u:Value),[Value.int .i64 t.k,.string (aj t.s),.int .i64 t.n,.int .i64 t.p][j]?=some u→w.cell? ((⟨b,0,none⟩:Addr).add j)=some u:=by
  intro j u hj
  rw[Addr.add_lit,Nat.zero_add,cell_of_row _ _ _ _ _ _ hb]
  simpa using hj
 have hone : ∀u∈[Value.int .i64 t.k,.string (aj t.s),.int .i64 t.n,.int .i64 t.p],u.oneCell'=true:=by intro u hu;simp at hu;rcases hu with rfl | rfl | rfl | rfl<;>rfl
 have HTB:=hid hob
 have hsz:g+1≤w.heap.size:=hlt
 clear h hv hb
 go_enter Tryz.func144,Tryz.ntmps144
 go_wp2_with (first
  | (
    at_builtin;refine kQ _ rfl (.tmp 8) (.tmp 9) 96 rfl (g+1) 180 i0 (.agg #[.int .i64 0,.string ⟨#[]⟩,.int .i64 0,.int .i64 0]) 4 40 Tryz.underlying96 hi hz0 hz1 hz2 rfl (by decide) v L.length (tcs L) rfl ho ⟨b,0,none⟩ 1 [.int .i64 t.k,.string (aj t.s),.int .i64 t.n,.int .i64 t.p] rfl rfl hnew hone (by unfold maxLen;omega) (by omega) hsz ?_;intro v3 w3 hown3 hg3 hob3
    have HV3:Hid (w3.heap[g]?=some (.cells #[v,.int .i64 d,.int .i64 m] 100)):=hid ((hg3.block g hlt (fun e=>by have:=(ho.lt g e.symm).1;omega)).trans HV.out)
    have k3:=gN HV3.out
    obtain⟨va,vn,vc,rfl⟩:∃va vn vc,v3 = .slice va vn vc:=by
      rcases hown3.2 with⟨rfl,_⟩ | ⟨_,_,_,rfl,_⟩
      ·exact⟨_,_,_,rfl⟩
      ·exact⟨_,_,_,rfl⟩)
  | fail)
 have HF:Hid (cB g tb w w3):=hid (aA.dZ hg3 (fun k hk=>.inr (HTB.out ▸ hk)))
 have hone3:Wrote g tb w (w3.setCell ⟨g,0,none⟩ (.slice va vn vc)) (L++[t]) d m:=by
  refine FC HH.out HV3.out ?_ HF.out ?_
  ·rw[List.length_append,Cv];exact hown3
  ·rcases hob3 with e | e
   · exact .inl (e.trans HTB.out)
   · exact .inr ⟨_,e,Nat.le_refl _⟩
 exact bodyPost_end (v:=.tuple #[]) (by simp[results,Tryz.results144,go_sem]) rfl ⟨rfl,hone3⟩
theorem mq (g:Nat) (tb:Option Nat) (L:List Tk) (d m:Int) (w:World) (h:bJ w g tb L d m) (t:Tk) (hL:L.length+1≤1000000000) :
  Calls Tryz.prog 144 #[.pointer (some ⟨g,0,none⟩),.slice (some ⟨w.heap.size,0,none⟩) 1 1] (w.alloc (.cells #[.int .i64 t.k,.string (aj t.s),.int .i64 t.n,.int .i64 t.p] 180)) fun e w'=>e = .returned (.tuple #[])∧Wrote g tb w w' (L++[t]) d m:=by
 have hb:Below w.heap.size w (w.alloc (.cells #[.int .i64 t.k,.string (aj t.s),.int .i64 t.n,.int .i64 t.p] 180)):=(Below.refl _ _).alloc (Nat.le_refl _) _
 refine (Fu g tb L d m _ (h.below hb) t hL w.heap.size _ (heap_alloc_new w _)).mono ?_
 rintro e w' ⟨rfl,h1⟩
 exact⟨rfl,h1.new hb⟩
theorem bX (g:Nat) (tb:Option Nat) (L:List Tk) (d m:Int) (w:World) (h:bJ w g tb L d m) (s:List UInt8) (hL:L.length+1≤1000000000) :
  Calls Tryz.prog 100 #[.pointer (some ⟨g,0,none⟩),.string (aj s)] w fun e w'=>e = .returned (.tuple #[])∧Wrote g tb w w' (L++[aW s]) d m:=by
 have HP:Hid (Calls Tryz.prog 144 #[.pointer (some ⟨g,0,none⟩),.slice (some ⟨w.heap.size,0,none⟩) 1 1] (w.alloc (.cells #[.int .i64 1,.string (aj s),.int .i64 0,.int .i64 0] 180)) fun e w'=>e = .returned (.tuple #[])∧Wrote g tb w w' (L++[aW s]) d m):=hid (mq g tb L d m w h (aW s) hL)
 clear h
 go_enter Tryz.func100,Tryz.ntmps100
 go_wp2_with fail
 refine HP.out.mono ?_
 rintro e w1 ⟨rfl,h1⟩
 go_wp2
 exact bodyPost_end (v:=.tuple #[]) (by simp[results,Tryz.results100,go_sem]) rfl ⟨rfl,h1⟩
theorem je (g:Nat) (tb:Option Nat) (L:List Tk) (d m:Int) (w:World) (h:bJ w g tb L d m) (n:Int) (hL:L.length+1≤1000000000) :
  Calls Tryz.prog 150 #[.pointer (some ⟨g,0,none⟩),.int .i64 n] w fun e w'=>e = .returned (.tuple #[])∧Wrote g tb w w' (L++[mV n]) d m:=by
 have HP:Hid (Calls Tryz.prog 144 #[.pointer (some ⟨g,0,none⟩),.slice (some ⟨w.heap.size,0,none⟩) 1 1] (w.alloc (.cells #[.int .i64 3,.string ⟨#[]⟩,.int .i64 n,.int .i64 0] 180)) fun e w'=>e = .returned (.tuple #[])∧Wrote g tb w w' (L++[mV n]) d m):=hid (mq g tb L d m w h (mV n) hL)
 clear h
 go_enter Tryz.func150,Tryz.ntmps150
 go_wp2_with fail
 refine HP.out.mono ?_
 rintro e w1 ⟨rfl,h1⟩
 go_wp2
 exact bodyPost_end (v:=.tuple #[]) (by simp[results,Tryz.results150,go_sem]) rfl ⟨rfl,h1⟩
theorem G9 (g:Nat) (tb:Option Nat) (L:List Tk) (d m:Int) (w:World) (h:bJ w g tb L d m) (s:List UInt8) (hL:L.length+1≤1000000000) :
  Calls Tryz.prog 160 #[.pointer (some ⟨g,0,none⟩),.string (aj s)] w fun e w'=>e = .returned (.tuple #[])∧Wrote g tb w w' (L++[Jd s]) d m:=by
 have HP:Hid (Calls Tryz.prog 144 #[.pointer (some ⟨g,0,none⟩),.slice (some ⟨w.heap.size,0,none⟩) 1 1] (w.alloc (.cells #[.int .i64 4,.string (aj s),.int .i64 0,.int .i64 0] 180)) fun e w'=>e = .returned (.tuple #[])∧Wrote g tb w w' (L++[Jd s]) d m):=hid (mq g tb L d m w h (Jd s) hL)
 clear h
 go_enter Tryz.func160,Tryz.ntmps160
 go_wp2_with fail
 refine HP.out.mono ?_
 rintro e w1 ⟨rfl,h1⟩
 go_wp2
 exact bodyPost_end (v:=.tuple #[]) (by simp[results,Tryz.results160,go_sem]) rfl ⟨rfl,h1⟩
def rT (g:Nat) (tb:Option Nat) (w:World) (v:Value) (ts:List (List UInt8)):Prop :=
 ∃a c,v = .slice a ts.length c∧ts.length≤1000∧(ts≠[]→∃b,a=some ⟨b,0,none⟩∧b≠g∧tb≠some b∧b<w.heap.size∧∀j t,ts[j]?=some t→w.cell? ⟨b,j,none⟩=some (.string (aj t)))
theorem rT.on {g:Nat} {tb tb1:Option Nat} {w w1:World} {v:Value} {ts:List (List UInt8)} (h:rT g tb w v ts) (h1 : ∀k,tb1=some k→tb=some k∨w.heap.size≤k) (hf:cB g tb w w1):rT g tb1 w1 v ts:=by
 obtain⟨a,c,hv,hl,h3⟩:=h
 refine ⟨a,c,hv,hl,fun hne=>?_⟩
 obtain⟨b,ha,hg,ht,hlt,hc⟩:=h3 hne
 refine ⟨b,ha,hg,fun e=>?_,Nat.lt_of_lt_of_le hlt hf.size,fun j t hj=>hf.cell (hc j t hj) (fun e=>by rcases e with e | e;exact hg e;exact ht e)⟩
 rcases h1 b e with e | e
 ·exact ht e
 ·omega
theorem nk (g:Nat) (tb:Option Nat) (L:List Tk) (d m:Int) (w:World) (h:bJ w g tb L d m) (v:Value) (ts:List (List UInt8)) (hv:rT g tb w v ts) (hne : ∀t∈ts,t≠[]) (hL:L.length+ts.length≤1000000000) :
  Calls Tryz.prog 98 #[.pointer (some ⟨g,0,none⟩),v] w fun e w'=>e = .returned (.tuple #[])∧Wrote g tb w w' (L++au ts) d m:=by
 have HV:=hid hv
 have HW:=hid h.here
 have HN:=hid hne
 obtain⟨a,c,rfl,hlen,_⟩:=hv
 clear h hne
 go_enter Tryz.func98,Tryz.ntmps98
 go_wp2_with fail
 go_loopw [5,6,9] (fun _ _ i wr=>∃(k:Nat),k≤ts.length∧i = .int .i64 k∧Wrote g tb w wr (L++au (ts.take k)) d m) (fun _ _ i _=>ts.length-(intOf i).toNat)
 case atStart=>exact⟨0,Nat.zero_le _,rfl,by simpa [au] using HW.out⟩
 case round =>
  obtain⟨k,hk,rfl,hq⟩:=hrel
  by_cases hlt:k<ts.length
  ·obtain⟨t,ht⟩:∃t,ts[k]?=some t:=⟨_,List.getElem?_eq_getElem hlt⟩
   have hlt':((k:Int)<(ts.length:Int)):=by omega
   obtain⟨tb1,hw1,ht1,hf1⟩:=hq
   obtain⟨a',c',hvv,_,h3⟩:=HV.out.on ht1 hf1
   simp only[Value.slice.injEq] at hvv
   obtain⟨rfl,_,rfl⟩:=hvv
   obtain⟨b,rfl,_,_,_,hcell⟩:=h3 (fun e=>by rw[e] at hlt;simp at hlt)
   have hc:=hcell k t ht
   clear hcell h3
   obtain⟨x,t',rfl⟩:∃x t',t=x::t':=by
    cases t with
    | nil=>exact absurd rfl (HN.out [] (List.mem_of_getElem? ht))
    | cons x t'=>exact⟨x,t',rfl⟩
   have hp0:0<(aj (x::t')).size:=by rw[dz];simp
   have hxv:((aj (x::t'))[0]'hp0).toNat=x.toNat:=rfl
   have htk:au (ts.take (k+1))=au (ts.take k)++[aK (x::t')]:=by
    obtain⟨h1,h2⟩:=List.getElem?_eq_some_iff.1 ht
    rw[List.take_succ_eq_append_getElem h1,h2]
    simp[au]
   have hl1:(L++au (ts.take k)).length+1≤1000000000:=by
    simp[au,List.length_take]
    omega
   have HT1:=hid ht1
   have HF1:=hid hf1
   by_cases hU:65≤x∧x≤90
   ·have h65:((65:Int)≤(x.toNat:Int)):=by have:=UInt8.le_iff_toNat_le.1 hU.1;simp at this;omega
    have h90:((x.toNat:Int)≤90):=by have:=UInt8.le_iff_toNat_le.1 hU.2;simp at this;omega
    rw[← hxv] at h65 h90
    have hfx:aK (x::t')=⟨2,x::t',0,0⟩:=if_pos hU
    have HP:Hid (Calls Tryz.prog 144 #[.pointer (some ⟨g,0,none⟩),.slice (some ⟨wr.heap.size,0,none⟩) 1 1] (wr.alloc (.cells #[.int .i64 2,.string (aj (x::t')),.int .i64 0,.int .i64 0] 180)) fun e w'=>e = .returned (.tuple #[])∧Wrote g tb1 wr w' (L++au (ts.take (k+1))) d m):=hid (by
     have:=mq g tb1 _ d m wr hw1 (aK (x::t')) hl1
     rw[List.append_assoc,← htk] at this
     rw[hfx] at this
     exact this)
    clear hw1 ht htk hl1 hfx ht1 hf1 hU hxv
    go_wp2_with fail
    refine HP.out.mono ?_
    rintro e w2 ⟨rfl,h2⟩
    have HQ:=hid (Wrote.then HT1.out HF1.out h2)
    clear h2 HP
    go_wp2
    go_roundw
    case rel=>exact⟨k+1,by omega,by go_num,HQ.out⟩
    case measure=>simp[intOf];omega
   ·have hfx:aK (x::t')=⟨5,x::t',0,0⟩:=if_neg hU
    have HP:Hid (Calls Tryz.prog 144 #[.pointer (some ⟨g,0,none⟩),.slice (some ⟨wr.heap.size,0,none⟩) 1 1] (wr.alloc (.cells #[.int .i64 5,.string (aj (x::t')),.int .i64 0,.int .i64 0] 180)) fun e w'=>e = .returned (.tuple #[])∧Wrote g tb1 wr w' (L++au (ts.take (k+1))) d m):=hid (by
     have:=mq g tb1 _ d m wr hw1 (aK (x::t')) hl1
     rw[List.append_assoc,← htk] at this
     rw[hfx] at this
     exact this)
    have hU' : ¬((65:Int)≤(x.toNat:Int))∨((65:Int)≤(x.toNat:Int)∧¬((x.toNat:Int)≤90)):=by
     by_cases h1:(65:Int)≤(x.toNat:Int)
     ·refine .inr ⟨h1,fun h2=>hU ⟨UInt8.le_iff_toNat_le.2 ?_,UInt8.le_iff_toNat_le.2 ?_⟩⟩
      ·simp;omega
      ·simp;omega
     ·exact .inl h1
    rw[← hxv] at hU'
    clear hw1 ht htk hl1 hfx ht1 hf1 hU hxv
    rcases hU' with h65 | ⟨h65,h90⟩
    ·go_wp2_with fail
     refine HP.out.mono ?_
     rintro e w2 ⟨rfl,h2⟩
     have HQ:=hid (Wrote.then HT1.out HF1.out h2)
     clear h2 HP
     go_wp2
     go_roundw
     case rel=>exact⟨k+1,by omega,by go_num,HQ.out⟩
     case measure=>simp[intOf];omega
    ·go_wp2_with fail
     refine HP.out.mono ?_
     rintro e w2 ⟨rfl,h2⟩
     have HQ:=hid (Wrote.then HT1.out HF1.out h2)
     clear h2 HP
     go_wp2
     go_roundw
     case rel=>exact⟨k+1,by omega,by go_num,HQ.out⟩
     case measure=>simp[intOf];omega
  ·have hlt' : ¬((k:Int)<(ts.length:Int)):=by omega
   have HQ:Hid (Wrote g tb w wr (L++au ts) d m):=hid (by rw[List.take_of_length_le (by omega)] at hq;exact hq)
   clear hq
   go_wp2
   exact bodyPost_end (v:=.tuple #[]) (by simp[results,Tryz.results98,go_sem]) rfl ⟨rfl,HQ.out⟩
theorem aG (g:Nat) (tb:Option Nat) (L:List Tk) (d m:Int) (ts:List (List UInt8)) (w:World) (h:bJ w g tb L d m) (hl:ts.length≤1000) (hne : ∀t∈ts,t≠[]) (hL:L.length+ts.length≤1000000000) :
  Calls Tryz.prog 98 #[.pointer (some ⟨g,0,none⟩),.slice (some ⟨w.heap.size,0,none⟩) ts.length ts.length] (w.alloc (.cells (ts.map fun t=>Value.string (aj t)).toArray 9)) fun e w'=>e = .returned (.tuple #[])∧Wrote g tb w w' (L++au ts) d m:=by
 have hb:Below w.heap.size w (w.alloc (.cells (ts.map fun t=>Value.string (aj t)).toArray 9)):=(Below.refl _ _).alloc (Nat.le_refl _) _
 refine (nk g tb L d m _ (h.below hb) _ ts ⟨_,_,rfl,hl,fun _=>⟨_,rfl,by have:=h.lt;omega,fun e=>by have:=(h.EB _ e).2;omega,by simp,fun j t ht=>?_⟩⟩ hne hL).mono ?_
 ·rw[cell_of_row _ _ _ _ _ _ (heap_alloc_new w _)]
  simp[ht]
 ·rintro e w' ⟨rfl,h1⟩
  exact⟨rfl,h1.new hb⟩
end Go.Proofs.YtfeglkleoijlaaaGreatDoor
