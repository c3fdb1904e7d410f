/- Packed for the hand-in: PGram -/
import Derived.Test.YtaaggohjmhifbaaGreatDoorP07
namespace Go.Proofs.YtaaggohjmhifbaaGreatDoor
set_option linter.unusedSimpArgs false
set_option linter.unusedVariables false
set_option maxHeartbeats 8000000
inductive Ex where
 | mk (k op:Int) (tb nm:List UInt8) (v:Vl) (xs:List Ex)
def zV:Vl:=⟨0,0,[]⟩
def zEx:Ex:=.mk 0 0 [] [] zV []
def exOp (op:Int) (a b:Ex):Ex:=.mk 3 op [] [] zV [a,b]
def exOf (k:Int) (a:Ex):Ex:=.mk k 0 [] [] zV [a]
def exCol (t n:List UInt8):Ex:=.mk 2 0 t n zV []
def exVal (v:Vl):Ex:=.mk 1 0 [] [] v []
def rowL (below:Pa Ex) (ops:List (List UInt8 × Int)):Nat→Ex→Pa Ex
 | 0,e=>retP e
 | f+1,e=>bindP (chooseP ops) fun op=>if op=0 then retP e else bindP below fun x=>rowL below ops f (exOp op e x)
def rowP (F:Nat) (below:Pa Ex) (ops:List (List UInt8 × Int)):Pa Ex:=bindP below fun e=>rowL below ops F e
def orsB:List (List UInt8 × Int):=[([79,82],1)]
def andsB:List (List UInt8 × Int):=[([65,78,68],2)]
def cmpsB:List (List UInt8 × Int):=[([61],3),([60,62],4),([60],5),([60,61],6),([62],7),([62,61],8)]
def addsB:List (List UInt8 × Int):=[([43],9),([45],10)]
def mulsB:List (List UInt8 × Int):=[([42],11),([47],12),([37],13)]
def statesB:List (List UInt8 × Int):=[([67,82,69,65,84,69],1),([68,82,79,80],2),([73,78,83,69,82,84],3),([85,80,68,65,84,69],4),([68,69,76,69,84,69],5),([83,69,76,69,67,84],6)]
def kindsB:List (List UInt8 × Int):=[([73,78,84],1),([84,69,88,84],2)]
def itemsB:List (List UInt8 × Int):=[([67,79,85,78,84],4),([83,85,77],5),([77,73,78],6),([77,65,88],7)]
def litP:Pa Vl:=ifP [78,85,76,76] (retP zV) (bindP textP fun o=>match o with
 | some s=>retP ⟨2,0,s⟩
 | none=>ifP [45] (bindP numP fun n=>retP ⟨1,-n,[]⟩) (bindP numP fun n=>retP ⟨1,n,[]⟩))
def colP:Pa Ex:=bindP nameP fun n=>ifP [46] (bindP nameP fun m=>retP (exCol n m)) (retP (exCol [] n))
def factorP (fc ex:Pa Ex):Pa Ex:=bindP isNameP fun b=>if b=true then colP else
 minusP (bindP (deepP fc) fun e=>retP (exOf 5 e)) (ifP [40] (bindP (deepP ex) fun e=>bindP (mustP [41]) fun _=>retP e) (bindP litP fun v=>retP (exVal v)))
def nullP (e:Ex):Pa Ex:=bindP (skipP [78,79,84]) fun t=>bindP (mustP [78,85,76,76]) fun _=>retP (if t=true then exOf 4 (exOf 6 e) else exOf 6 e)
def testP (sum:Pa Ex):Pa Ex:=bindP sum fun e=>ifP [73,83] (nullP e) (bindP (chooseP cmpsB) fun op=>if op=0 then retP e else bindP sum fun x=>retP (exOp op e x))
def notP (nt test:Pa Ex):Pa Ex:=ifP [78,79,84] (bindP (deepP nt) fun e=>retP (exOf 4 e)) test
structure Lv where
 nt:Pa Ex
 fc:Pa Ex
 ex:Pa Ex
def termP (F:Nat) (L:Lv):Pa Ex:=rowP F (factorP L.fc L.ex) mulsB
def sumP (F:Nat) (L:Lv):Pa Ex:=rowP F (termP F L) addsB
def notQ (F:Nat) (L:Lv):Pa Ex:=notP L.nt (testP (sumP F L))
def andP (F:Nat) (L:Lv):Pa Ex:=rowP F (notQ F L) andsB
def exprQ (F:Nat) (L:Lv):Pa Ex:=rowP F (andP F L) orsB
def lev (F:Nat):Nat→Lv
 | 0=>⟨retP zEx,retP zEx,retP zEx⟩
 | n+1=>⟨notQ F (lev F n),factorP (lev F n).fc (lev F n).ex,exprQ F (lev F n)⟩
def exprP (F:Nat):Pa Ex:=(lev F 12).ex
structure Co where
 nm:List UInt8
 k:Int
 nn:Bool
 uq:Bool
structure It where
 k:Int
 xs:List Ex
structure Se where
 nm:List UInt8
 e:Ex
structure St where
 k:Int
 tb:List UInt8
 cols:List Co
 prim:List UInt8
 rows:List (List Vl)
 sets:List Se
 items:List It
 jn:List UInt8
 on:List Ex
 wh:List Ex
 gr:List Ex
 od:List Ex
 desc:Bool
 lim:Int
def zSt (k:Int):St:=⟨k,[],[],[],[],[],[],[],[],[],[],[],false,-1⟩
def partP (read:Pa Ex) (first:List UInt8) (others:List (List UInt8)):Pa (List Ex):=ifP first (bindP (mustsP others) fun _=>bindP read fun e=>retP [e]) (retP [])
def commaP:Pa Bool:=skipP [44]
def semiP:Pa Bool:=skipP [59]
def columnP:Pa Co:=bindP nameP fun n=>bindP (chooseP kindsB) fun k=>bindP (if k=0 then failP 4 else retP ()) fun _=>bindP (ifP [78,79,84] (bindP (mustP [78,85,76,76]) fun _=>retP true) (retP false)) fun nn=>bindP (skipP [85,78,73,81,85,69]) fun uq=>retP ⟨n,k,nn,uq⟩
def moreColumnsP:Pa Bool:=ifP [44] (bindP (isP [80,82,73,77,65,82,89]) fun b=>retP (!b)) (bindP (failP 4) fun _=>retP false)
def createP:Pa St:=bindP (mustP [84,65,66,76,69]) fun _=>bindP nameP fun tb=>bindP (mustP [40]) fun _=>bindP (listL columnP moreColumnsP 8 []) fun cs=>bindP (mustsP [[80,82,73,77,65,82,89],[75,69,89],[40]]) fun _=>bindP nameP fun pr=>bindP (mustsP [[41],[41]]) fun _=>retP { zSt 1 with tb:=tb,cols:=cs,prim:=pr }
def dropP:Pa St:=bindP (mustP [84,65,66,76,69]) fun _=>bindP nameP fun tb=>retP { zSt 2 with tb:=tb }
def valuesP:Pa (List Vl):=bindP (mustP [40]) fun _=>bindP (listL litP commaP 8 []) fun l=>bindP (mustP [41]) fun _=>retP l
def insertP:Pa St:=bindP (mustP [73,78,84,79]) fun _=>bindP nameP fun tb=>bindP (mustP [86,65,76,85,69,83]) fun _=>bindP (listL valuesP commaP 16 []) fun rs=>retP { zSt 3 with tb:=tb,rows:=rs }
def setP (ex:Pa Ex):Pa Se:=bindP nameP fun n=>bindP (mustP [61]) fun _=>bindP ex fun e=>retP ⟨n,e⟩
def updateP (ex:Pa Ex):Pa St:=bindP nameP fun tb=>bindP (mustP [83,69,84]) fun _=>bindP (listL (setP ex) commaP 8 []) fun ss=>bindP (partP ex [87,72,69,82,69] []) fun wh=>retP { zSt 4 with tb:=tb,sets:=ss,wh:=wh }
def deleteP (ex:Pa Ex):Pa St:=bindP (mustP [70,82,79,77]) fun _=>bindP nameP fun tb=>bindP (partP ex [87,72,69,82,69] []) fun wh=>retP { zSt 5 with tb:=tb,wh:=wh }
def itemP (ex:Pa Ex):Pa It:=ifP [42] (retP ⟨1,[]⟩) (bindP (chooseP itemsB) fun k=>if k=0 then bindP ex fun e=>retP ⟨2,[e]⟩ else
 bindP (mustP [40]) fun _=>bindP (if k=4 then skipP [42] else retP false) fun b=>bindP (if b=true then retP ⟨3,[]⟩ else bindP ex fun e=>retP ⟨k,[e]⟩) fun i=>bindP (mustP [41]) fun _=>retP i)
def joinP (ex:Pa Ex):Pa (List UInt8 × List Ex):=ifP [74,79,73,78] (bindP nameP fun j=>bindP (mustP [79,78]) fun _=>bindP ex fun e=>retP (j,[e])) (retP ([],[]))
def selectP (ex:Pa Ex):Pa St:=bindP (listL (itemP ex) commaP 8 []) fun its=>bindP (mustP [70,82,79,77]) fun _=>bindP nameP fun tb=>bindP (joinP ex) fun j=>bindP (partP ex [87,72,69,82,69] []) fun wh=>bindP (partP colP [71,82,79,85,80] [[66,89]]) fun gr=>bindP (partP colP [79,82,68,69,82] [[66,89]]) fun od =>
 bindP (if od.length=0 then retP false else skipP [68,69,83,67]) fun de=>bindP (ifP [76,73,77,73,84] numP (retP (-1))) fun li=>retP { zSt 6 with tb:=tb,items:=its,jn:=j.1,on:=j.2,wh:=wh,gr:=gr,od:=od,desc:=de,lim:=li }
def stateP (ex:Pa Ex):Pa St:=bindP (chooseP statesB) fun k=>if k=1 then createP else if k=2 then dropP else if k=3 then insertP else if k=4 then updateP ex else if k=5 then deleteP ex else if k=6 then selectP ex else bindP (failP 4) fun _=>retP (zSt k)
def scriptP (F:Nat):Pa (List St):=bindP (listL (stateP (exprP F)) semiP 8 []) fun l=>bindP endP fun _=>retP l
theorem nice_rowL {b:Bool} {F:Nat} {below:Pa Ex} {ops:List (List UInt8 × Int)} (h:Nice b F below) (ho:b=true→∀c∈ops,c.1≠[59]∧c.1≠[41]):∀(f:Nat) (e:Ex),Nice b F (rowL below ops f e)
 | 0,e=>nice_ret _
 |
  f+1,e=>(nice_choose ops ho).bind fun op=>by
  split
  ·exact nice_ret _
  ·exact h.bind fun x=>nice_rowL h ho f _
theorem nice_row {b:Bool} {F:Nat} {below:Pa Ex} {ops:List (List UInt8 × Int)} (h:Nice b F below) (ho:b=true→∀c∈ops,c.1≠[59]∧c.1≠[41]) (f:Nat):Nice b F (rowP f below ops):=h.bind fun e=>nice_rowL h ho f e
theorem nice_lit {b:Bool} {F:Nat}:Nice b F litP :=
 nice_if _ (fun _=>by decide) (nice_ret _).ok (nice_text.bind fun o=>by
  cases o with
  | some s=>exact nice_ret _
  | none=>exact nice_if _ (fun _=>by decide) (nice_num.bind fun n=>nice_ret _).ok (nice_num.bind fun n=>nice_ret _))
theorem nice_col {b:Bool} {F:Nat}:Nice b F colP:=nice_name.bind fun n=>nice_if _ (fun _=>by decide) (nice_name.bind fun m=>nice_ret _).ok (nice_ret _)
theorem nice_factor {b:Bool} {F:Nat} {fc ex:Pa Ex} (h1:Nice b F fc) (h2:Nice b F ex):Nice b F (factorP fc ex) :=
 nice_isName.bind fun c=>by
  split
  ·exact nice_col
  ·exact nice_minus ((nice_deep h1).bind fun e=>nice_ret _) (nice_if _ (fun _=>by decide) ((nice_deep h2).bind fun e=>(nice_must _).bind fun _=>nice_ret _) (nice_lit.bind fun v=>nice_ret _))
theorem nice_null {b:Bool} {F:Nat} (e:Ex):Nice b F (nullP e):=(nice_skip _ (fun _=>by decide)).bind fun t=>(nice_must _).bind fun _=>nice_ret _
theorem nice_test {b:Bool} {F:Nat} {sum:Pa Ex} (h:Nice b F sum):Nice b F (testP sum) :=
 h.bind fun e=>nice_if _ (fun _=>by decide) (nice_null e).ok ((nice_choose _ (fun _=>by decide)).bind fun op=>by
  split
  ·exact nice_ret _
  ·exact h.bind fun x=>nice_ret _)
theorem nice_not {b:Bool} {F:Nat} {nt test:Pa Ex} (h1:Nice b F nt) (h2:Nice b F test):Nice b F (notP nt test) :=
 nice_if _ (fun _=>by decide) ((nice_deep h1).bind fun e=>nice_ret _) h2
structure NiceL (b:Bool) (F:Nat) (L:Lv):Prop where
 nt:Nice b F L.nt
 fc:Nice b F L.fc
 ex:Nice b F L.ex
theorem nice_term {b:Bool} {F:Nat} {L:Lv} (h:NiceL b F L):Nice b F (termP F L):=nice_row (nice_factor h.fc h.ex) (fun _=>by decide) F
theorem nice_sum {b:Bool} {F:Nat} {L:Lv} (h:NiceL b F L):Nice b F (sumP F L):=nice_row (nice_term h) (fun _=>by decide) F
theorem nice_notQ {b:Bool} {F:Nat} {L:Lv} (h:NiceL b F L):Nice b F (notQ F L):=nice_not h.nt (nice_test (nice_sum h))
theorem nice_and {b:Bool} {F:Nat} {L:Lv} (h:NiceL b F L):Nice b F (andP F L):=nice_row (nice_notQ h) (fun _=>by decide) F
theorem nice_exprQ {b:Bool} {F:Nat} {L:Lv} (h:NiceL b F L):Nice b F (exprQ F L):=nice_row (nice_and h) (fun _=>by decide) F
theorem nice_lev {b:Bool} {F:Nat}:∀n,NiceL b F (lev F n)
 | 0=>⟨nice_ret _,nice_ret _,nice_ret _⟩
 | n+1=>⟨nice_notQ (nice_lev n),nice_factor (nice_lev n).fc (nice_lev n).ex,nice_exprQ (nice_lev n)⟩
theorem nice_expr {b:Bool} {F:Nat}:Nice b F (exprP F):=(nice_lev 12).ex
theorem nice_part {b:Bool} {F:Nat} {read:Pa Ex} (h:Nice b F read) (t:List UInt8) (l:List (List UInt8)) (ht:t≠[59]∧t≠[41]):Nice b F (partP read t l) :=
 nice_if _ (fun _=>ht) ((nice_musts l).bind fun _=>h.bind fun e=>nice_ret _).ok (nice_ret _)
theorem nice_comma {b:Bool} {F:Nat}:Nice b F commaP:=nice_skip _ (fun _=>by decide)
theorem nice_column {b:Bool} {F:Nat}:Nice b F columnP :=
 nice_name.bind fun n=>(nice_choose _ (fun _=>by decide)).bind fun k=>NiceAt.bind (p:=if k=0 then failP 4 else retP ()) (by
  split
  ·exact nice_fail 4 (by decide)
  ·exact nice_ret _) fun _=>(nice_if _ (fun _=>by decide) ((nice_must _).bind fun _=>nice_ret _).ok (nice_ret _)).bind fun nn=>(nice_skip _ (fun _=>by decide)).bind fun uq=>nice_ret _
theorem nice_moreColumns {b:Bool} {F:Nat}:Nice b F moreColumnsP :=
 nice_if _ (fun _=>by decide) ((nice_is _ (fun _=>by decide)).bind fun c=>nice_ret _).ok ((nice_fail 4 (by decide)).bind fun _=>nice_ret _)
theorem nice_create {b:Bool} {F:Nat}:Nice b F createP :=
 (nice_must _).bind fun _=>nice_name.bind fun tb=>(nice_must _).bind fun _=>(nice_list nice_column nice_moreColumns 8 []).bind fun cs=>(nice_musts _).bind fun _=>nice_name.bind fun pr=>(nice_musts _).bind fun _=>nice_ret _
theorem nice_drop {b:Bool} {F:Nat}:Nice b F dropP:=(nice_must _).bind fun _=>nice_name.bind fun tb=>nice_ret _
theorem nice_values {b:Bool} {F:Nat}:Nice b F valuesP:=(nice_must _).bind fun _=>(nice_list nice_lit nice_comma 8 []).bind fun l=>(nice_must _).bind fun _=>nice_ret _
theorem nice_insert {b:Bool} {F:Nat}:Nice b F insertP :=
 (nice_must _).bind fun _=>nice_name.bind fun tb=>(nice_must _).bind fun _=>(nice_list nice_values nice_comma 16 []).bind fun rs=>nice_ret _
theorem nice_set {b:Bool} {F:Nat} {ex:Pa Ex} (h:Nice b F ex):Nice b F (setP ex):=nice_name.bind fun n=>(nice_must _).bind fun _=>h.bind fun e=>nice_ret _
theorem nice_update {b:Bool} {F:Nat} {ex:Pa Ex} (h:Nice b F ex):Nice b F (updateP ex) :=
 nice_name.bind fun tb=>(nice_must _).bind fun _=>(nice_list (nice_set h) nice_comma 8 []).bind fun ss=>(nice_part h _ _ (by decide)).bind fun wh=>nice_ret _
theorem nice_delete {b:Bool} {F:Nat} {ex:Pa Ex} (h:Nice b F ex):Nice b F (deleteP ex) :=
 (nice_must _).bind fun _=>nice_name.bind fun tb=>(nice_part h _ _ (by decide)).bind fun wh=>nice_ret _
theorem nice_item {b:Bool} {F:Nat} {ex:Pa Ex} (h:Nice b F ex):Nice b F (itemP ex) :=
 nice_if _ (fun _=>by decide) (nice_ret _).ok ((nice_choose _ (fun _=>by decide)).bind fun k=>by
  split
  ·exact h.bind fun e=>nice_ret _
  ·refine (nice_must _).bind fun _=>NiceAt.bind ?_ fun c=>NiceAt.bind ?_ fun i=>(nice_must _).bind fun _=>nice_ret _
   ·split
    ·exact nice_skip _ (fun _=>by decide)
    ·exact nice_ret _
   ·split
    ·exact nice_ret _
    ·exact h.bind fun e=>nice_ret _)
theorem nice_join {b:Bool} {F:Nat} {ex:Pa Ex} (h:Nice b F ex):Nice b F (joinP ex) :=
 nice_if _ (fun _=>by decide) (nice_name.bind fun j=>(nice_must _).bind fun _=>h.bind fun e=>nice_ret _).ok (nice_ret _)
theorem nice_select {b:Bool} {F:Nat} {ex:Pa Ex} (h:Nice b F ex):Nice b F (selectP ex) :=
 (nice_list (nice_item h) nice_comma 8 []).bind fun its=>(nice_must _).bind fun _=>nice_name.bind fun tb=>(nice_join h).bind fun j=>(nice_part h _ _ (by decide)).bind fun wh=>(nice_part nice_col _ _ (by decide)).bind fun gr=>(nice_part nice_col _ _ (by decide)).bind fun od =>
  NiceAt.bind (p:=if od.length=0 then retP false else skipP [68,69,83,67]) (by
   split
   ·exact nice_ret _
   ·exact nice_skip _ (fun _=>by decide)) fun de=>(nice_if _ (fun _=>by decide) nice_num.ok (nice_ret _)).bind fun li=>nice_ret _
theorem nice_state {b:Bool} {F:Nat} {ex:Pa Ex} (h:Nice b F ex):Nice b F (stateP ex) :=
 (nice_choose _ (fun _=>by decide)).bind fun k=>by
  split
  ·exact nice_create
  ·split
   ·exact nice_drop
   ·split
    ·exact nice_insert
    ·split
     ·exact nice_update h
     ·split
      ·exact nice_delete h
      ·split
       ·exact nice_select h
       ·exact (nice_fail 4 (by decide)).bind fun _=>nice_ret _
theorem nice_semi {F:Nat}:Nice false F semiP:=nice_skip _ (fun e=>by cases e)
theorem nice_end {F:Nat}:Nice false F endP where
 mono:=fun r h=>by unfold endP;rw[now_bad h,if_neg (by decide),fail_bad h];exact⟨rfl,rfl⟩
 fine:=fun r _ h=>by
  unfold endP
  split
  ·exact⟨h,rfl,Nat.le_refl _⟩
  ·exact (nice_fail (b:=false) 4 (by decide)).fine r trivial h
 simA:=fun r r' h=>by
  unfold endP
  rw[(z_eq (simA_now h)).1]
  split
  ·exact⟨rfl,h⟩
  ·exact⟨rfl,simA_fail h 4⟩
 simB:=fun e=>by cases e
theorem nice_states {F:Nat}:Nice false F (listL (stateP (exprP F)) semiP 8 []):=nice_list (nice_state nice_expr) nice_semi 8 []
theorem nice_script {F:Nat}:Nice false F (scriptP F):=nice_states.bind fun l=>nice_end.bind fun _=>nice_ret _
def Enough (n:Nat) (r:Rd):Prop:=(r.bad=0→12≤r.d+n)∧1≤n
def AgrAt (F n:Nat) (G:Rd→Prop) {α:Type} (p q:Pa α):Prop:=∀r,G r→Good F r→Enough n r→p r=q r
abbrev Agr (F n:Nat) {α:Type} (p q:Pa α):Prop:=AgrAt F n (fun _=>True) p q
abbrev AgrOk (F n:Nat) {α:Type} (p q:Pa α):Prop:=AgrAt F n (fun r=>r.bad=0) p q
theorem AgrAt.ok {F n:Nat} {α:Type} {p q:Pa α} (h:Agr F n p q):AgrOk F n p q:=fun r _=>h r trivial
theorem Enough.after {F n:Nat} {G:Rd→Prop} {α:Type} {p:Pa α} {r:Rd} (hp:NiceAt false F G p) (g:G r) (hG:Good F r) (h:Enough n r):Enough n (p r).2:=by
 refine ⟨fun hb=>?_,h.2⟩
 rw[(hp.fine r g hG).2.1]
 refine h.1 ?_
 by_cases e:r.bad=0
 ·exact e
 ·rw[(hp.mono r e).1] at hb;exact hb
theorem AgrAt.bind {F n:Nat} {G:Rd→Prop} {α β:Type} {p p':Pa α} {q q':α→Pa β} (hp:AgrAt F n G p p') (hn:NiceAt false F G p) (hq : ∀a,Agr F n (q a) (q' a)):AgrAt F n G (bindP p q) (bindP p' q'):=fun r g hG hE=>by
 unfold bindP
 rw[← hp r g hG hE]
 exact hq _ _ trivial (hn.fine r g hG).1 (hE.after hn g hG)
theorem Enough.next {n:Nat} {r:Rd} (h:Enough n r):Enough n (nextR r):=⟨h.1,h.2⟩
theorem Good.down {F:Nat} {r:Rd} (h:Good F r) (hb:r.bad=0):Good F (downR r)∧(downR r).d=r.d+1∧(downR r).ts=r.ts:=by
 have h2:=h.d2 hb
 have h0:=h.d0
 unfold downR
 split
 ·rename_i h10
  obtain⟨t1,t2⟩:=fail_ts ({ r with d:=r.d+1 }:Rd) 10
  have hf:=fail_ok (r:=({ r with d:=r.d+1 }:Rd)) hb 10
  exact⟨⟨fun e=>absurd (hf.symm.trans e) (by decide),by rw[t2];show 0≤r.d+1;omega,by rw[t2];show r.d+1≤11;omega,fun e=>absurd (hf.symm.trans e) (by decide),by rw[t1];exact h.nums,by rw[t1];exact h.many⟩,t2,t1⟩
 ·exact⟨⟨h.last,by show 0≤r.d+1;omega,by show r.d+1≤11;omega,fun _=>by show r.d+1≤10;omega,h.nums,h.many⟩,rfl,rfl⟩
theorem Enough.down {F n:Nat} {r:Rd} (h:Enough (n+1) r) (hG:Good F r) (hb:r.bad=0):Enough n (downR r):=by
 have h1:=h.1 hb
 have h2:=hG.d2 hb
 refine ⟨fun _=>?_,by omega⟩
 rw[(hG.down hb).2.1]
 omega
end Go.Proofs.YtaaggohjmhifbaaGreatDoor
