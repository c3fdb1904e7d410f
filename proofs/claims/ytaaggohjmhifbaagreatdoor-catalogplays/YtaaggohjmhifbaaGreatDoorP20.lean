/- Packed for the hand-in: WBack -/
import Derived.Test.YtaaggohjmhifbaaGreatDoorP17
namespace Go.Proofs.YtaaggohjmhifbaaGreatDoor
set_option linter.unusedSimpArgs false
set_option linter.unusedVariables false
set_option maxHeartbeats 8000000
def begs:List (List UInt8):=[[78,79,84],[78,85,76,76],[40],[45]]
theorem tk_begs (t:Tm) (hok:t.ok):∃h X,t.tk=h::X∧∀s,isT h s=true→s∈begs:=by
 have fx : ∀u s:List UInt8,u∈begs→isT (fxT u) s=true→s∈begs:=fun u s hu h=>by
  rw[← isT_eq (isT_fx u) h];exact hu
 have hat : ∀(l:Nat) (a:Tm),(∃h X,a.tk=h::X∧∀s,isT h s=true→s∈begs)→∃h X,atK l a.lv a.tk=h::X∧∀s,isT h s=true→s∈begs:=fun l a ⟨h,X,e,hn⟩=>by
  unfold atK
  split
  ·exact⟨h,X,e,hn⟩
  ·exact⟨_,_,rfl,fun s=>fx [40] s (by decide)⟩
 have nob : ∀(k:Int) (x:List UInt8) (n p:Int) (s:List UInt8),k≠2→k≠5→isT ⟨k,x,n,p⟩ s=true→s∈begs:=fun k x n p s h2 h5 h=>by
  unfold isT at h
  simp[h2,h5] at h
 induction t with
 |
  val v =>
  simp only[Tm.tk,litK]
  split
  ·exact⟨_,_,rfl,fun s=>nob 4 _ _ _ s (by decide) (by decide)⟩
  ·split
   ·exact⟨_,_,rfl,fun s=>fx _ s (by decide)⟩
   ·split
    ·exact⟨_,_,rfl,fun s=>fx _ s (by decide)⟩
    ·exact⟨_,_,rfl,fun s=>nob 3 _ _ _ s (by decide) (by decide)⟩
 |
  col t n =>
  simp only[Tm.tk]
  split
  ·exact⟨_,_,rfl,fun s=>nob 1 _ _ _ s (by decide) (by decide)⟩
  ·exact⟨_,_,rfl,fun s=>nob 1 _ _ _ s (by decide) (by decide)⟩
 |
  op o a b ha hb =>
  obtain⟨h,X,e,hn⟩:=hat (opL o) a (ha hok.2.2.1)
  simp only[Tm.tk]
  rw[e];exact⟨_,_,rfl,hn⟩
 | not a ha=>exact⟨_,_,rfl,fun s=>fx _ s (by decide)⟩
 | neg a ha=>exact⟨_,_,rfl,fun s=>fx _ s (by decide)⟩
 |
  nul a ha =>
  obtain⟨h,X,e,hn⟩:=hat 4 a (ha hok)
  simp only[Tm.tk]
  rw[e];exact⟨_,_,rfl,hn⟩
 |
  nnul a ha =>
  obtain⟨h,X,e,hn⟩:=hat 4 a (ha hok)
  simp only[Tm.tk]
  rw[e];exact⟨_,_,rfl,hn⟩
theorem ex_read {e:Ex} (h:rightE e=true) {F:Nat} (hF:(exK e).length≤F) (hd:exD e≤10) (bp:Int) {rest:List Tk} (hs:Stops 0 rest):exprP F (RR 0 bp (exK e++rest))=(e,RR 0 bp rest):=by
 obtain⟨h1,h2⟩:=right_ok h
 have:=expr_read (tmE e) h1 F hF hd bp rest hs
 rw[h2] at this
 exact this
theorem ex_begs {e:Ex} (h:rightE e=true):∃x X,exK e=x::X∧∀s,isT x s=true→s∈begs:=tk_begs _ (right_ok h).1
theorem begs_no {x:Tk} (h : ∀s,isT x s=true→s∈begs) {s:List UInt8} (hs:s ∉ begs):isT x s=false:=by
 cases e:isT x s with
 | false=>rfl
 | true=>exact absurd (h s e) hs
theorem maxL_le {l:List Nat} {n:Nat} (h:maxL l≤n):∀x∈l,x≤n:=by
 induction l with
 | nil=>simp
 |
  cons a l ih =>
  simp only[maxL,List.foldr_cons] at h
  intro x hx
  rcases List.mem_cons.1 hx with rfl | hx
  ·omega
  ·exact ih (by unfold maxL;omega) x hx
theorem areB_one {α:Type} {xs:List α} {p:α→Bool} (h:areB xs 0 1 p=true):xs=[]∨∃x,xs=[x]∧p x=true:=by
 unfold areB at h
 simp only[Bool.and_eq_true,decide_eq_true_eq] at h
 match xs,h with
 | [],_=>exact .inl rfl
 | [x],h=>exact .inr ⟨x,rfl,by simpa using h.2⟩
 | _::_::_,h=>exact absurd h.1.2 (by simp)
theorem areB_cons {α:Type} {xs:List α} {b:Nat} {p:α→Bool} (h:areB xs 1 b p=true):∃x l,xs=x::l∧l.length+1≤b∧∀y∈x::l,p y=true:=by
 unfold areB at h
 simp only[Bool.and_eq_true,decide_eq_true_eq,List.all_eq_true] at h
 match xs,h with
 | [],h=>exact absurd h.1.1 (by simp)
 | x::l,h=>exact⟨x,l,rfl,h.1.2,h.2⟩
theorem part_read {read:Pa Ex} {xs:List Ex} {w:List UInt8} {ws:List (List UInt8)} {bp:Int} {rest:List Tk} (hl:xs=[]∨∃x,xs=[x]) (hr : ∀x∈xs,read (RR 0 bp (exK x++rest))=(x,RR 0 bp rest)) (hno:xs=[]→isT (rest.headD zTk) w=false):partP read w ws (RR 0 bp (partK xs (w::ws)++rest))=(xs,RR 0 bp rest):=by
 unfold partP
 rcases hl with rfl | ⟨x,rfl⟩
 ·exact if_no _ _ (hno rfl)
 ·have e:partK [x] (w::ws)++rest=fxT w::(wordsK ws++(exK x++rest)):=by simp[partK,wordsK]
  rw[e,if_yes _ _ (isT_fx w),bind_at (musts_read 0 bp _ ws),bind_at (hr x (by simp))]
  rfl
theorem comma_yes {d bp:Int} {ts:List Tk}:commaP (RR d bp (fxT [44]::ts))=(true,RR d bp ts):=skipK_yes [44]
theorem comma_no {d bp:Int} {ts:List Tk} (h:isT (ts.headD zTk) [44]=false):commaP (RR d bp ts)=(false,RR d bp ts):=skipK_no h
theorem commas_read {α:Type} {one:Pa α} {tk:α→List Tk} {bp:Int} {rest:List Tk} (hr:isT (rest.headD zTk) [44]=false) {x:α} {xs:List α} {m:Nat} (hm:xs.length+1≤m) (hone : ∀y∈x::xs,∀ts,ts=rest∨(∃u,ts=fxT [44]::u)→one (RR 0 bp (tk y++ts))=(y,RR 0 bp ts)) :
  listL one commaP m [] (RR 0 bp (sepK (fxT [44]) ((x::xs).map tk)++rest))=(x::xs,RR 0 bp rest) :=
 list_read (comma_no hr) xs x m [] hm hone (fun y _ ts=>comma_yes)
theorem stops_comma (ts:List Tk):Stops 0 (fxT [44]::ts):=show ∀s∈barred 0,isT (fxT [44]) s=false by decide
theorem column_read {c:Co} (h:colB c=true) (bp:Int) (ts:List Tk) (hs:isT (ts.headD zTk) [78,79,84]=false∧isT (ts.headD zTk) [85,78,73,81,85,69]=false):columnP (RR 0 bp (colK c++ts))=(c,RR 0 bp ts):=by
 obtain⟨nm,k,nn,uq⟩:=c
 unfold colB at h
 simp only[Bool.and_eq_true,decide_eq_true_eq] at h
 unfold columnP colK
 dsimp only
 rw[show nmT nm::fxT (if k=1 then [73,78,84] else [84,69,88,84])::((if nn=true then wordsK [[78,79,84],[78,85,76,76]] else [])++(if uq=true then wordsK [[85,78,73,81,85,69]] else []))++ts=nmT nm::fxT (if k=1 then [73,78,84] else [84,69,88,84])::((if nn=true then wordsK [[78,79,84],[78,85,76,76]] else [])++((if uq=true then wordsK [[85,78,73,81,85,69]] else [])++ts)) by simp]
 rw[bind_at (name_read 0 bp nm _)]
 have hk : ∀T,chooseP kindsB (RR 0 bp (fxT (if k=1 then [73,78,84] else [84,69,88,84])::T))=(k,RR 0 bp T):=fun T=>by
  rcases h.2 with rfl | rfl<;>rfl
 rw[bind_at (hk _),if_neg (by rcases h.2 with rfl | rfl<;>decide),bind_at (show retP () (RR 0 bp _)=_ from rfl)]
 have hq:skipP [85,78,73,81,85,69] (RR 0 bp ((if uq=true then wordsK [[85,78,73,81,85,69]] else [])++ts))=(uq,RR 0 bp ts):=by
  cases uq with
  | true=>exact skipK_yes _
  | false=>exact skipK_no hs.2
 have hn:ifP [78,79,84] (bindP (mustP [78,85,76,76]) fun _=>retP true) (retP false) (RR 0 bp ((if nn=true then wordsK [[78,79,84],[78,85,76,76]] else [])++((if uq=true then wordsK [[85,78,73,81,85,69]] else [])++ts)))=(nn,RR 0 bp ((if uq=true then wordsK [[85,78,73,81,85,69]] else [])++ts)):=by
  cases nn with
  |
   true =>
   show ifP _ _ _ (RR 0 bp (fxT [78,79,84]::fxT [78,85,76,76]::_))=_
   rw[if_yes _ _ (isT_fx _),bind_at (mustF _)]
   rfl
  |
   false =>
   refine if_no _ _ ?_
   cases uq with
   | true=>exact isT_fx_no (by decide)
   | false=>exact hs.1
 rw[bind_at hn,bind_at hq]
 rfl
theorem lits_read {l:List Vl} (h:rowB l=true) (bp:Int) (ts:List Tk):valuesP (RR 0 bp (vrowK l++ts))=(l,RR 0 bp ts):=by
 obtain⟨x,xs,rfl,hm,hp⟩:=areB_cons h
 unfold valuesP vrowK
 rw[show fxT [40]::(sepK (fxT [44]) ((x::xs).map litK)++[fxT [41]])++ts=fxT [40]::(sepK (fxT [44]) ((x::xs).map litK)++fxT [41]::ts) by simp]
 rw[bind_at (mustF _),bind_at (commas_read (one:=litP) (tk:=litK) (rest:=fxT [41]::ts) (isT_fx_no (by decide)) hm (fun y hy T _=>lit_read (hp y hy) 0 bp T)),bind_at (mustF _)]
 rfl
theorem set_read {F:Nat} {s:Se} (h:setB s=true) (hF:(setK s).length≤F) (hd:exD s.e≤10) (bp:Int) (ts:List Tk) (hs:Stops 0 ts):setP (exprP F) (RR 0 bp (setK s++ts))=(s,RR 0 bp ts):=by
 obtain⟨nm,e⟩:=s
 unfold setB at h
 simp only[Bool.and_eq_true] at h
 unfold setP setK
 rw[show nmT nm::fxT [61]::exK e++ts=nmT nm::fxT [61]::(exK e++ts) from rfl]
 rw[bind_at (name_read 0 bp nm _),bind_at (mustF _),bind_at (ex_read h.2 (by simp[setK] at hF;omega) hd bp hs)]
 rfl
theorem item_read {F:Nat} {i:It} (h:itB i=true) (hF:(itK i).length≤F) (hd:itD i≤10) (bp:Int) (ts:List Tk) (hs:Stops 0 ts):itemP (exprP F) (RR 0 bp (itK i++ts))=(i,RR 0 bp ts):=by
 obtain⟨k,xs⟩:=i
 unfold itB at h
 dsimp only at h
 unfold itemP
 by_cases h1:k=1
 ·subst h1
  rw[if_pos (.inl rfl)] at h
  obtain rfl:xs=[]:=List.eq_nil_of_length_eq_zero (by simpa using h)
  exact if_yes _ _ (isT_fx _)
 ·by_cases h3:k=3
  ·subst h3
   rw[if_pos (.inr rfl)] at h
   obtain rfl:xs=[]:=List.eq_nil_of_length_eq_zero (by simpa using h)
   show ifP _ _ _ (RR 0 bp (fxT [67,79,85,78,84]::fxT [40]::fxT [42]::fxT [41]::ts))=_
   rw[if_no (ts:=fxT [67,79,85,78,84]::fxT [40]::fxT [42]::fxT [41]::ts) _ _ (isT_fx_no (by decide)),bind_at (show chooseP itemsB _=(4,RR 0 bp (fxT [40]::fxT [42]::fxT [41]::ts)) from rfl),if_neg (by decide),bind_at (mustF _),if_pos rfl,bind_at (skipK_yes _),if_pos rfl,bind_at (show retP _ (RR 0 bp (fxT [41]::ts))=_ from rfl),bind_at (mustF _)]
   rfl
  ·rw[if_neg (by omega)] at h
   split at h
   ·rename_i hk
    obtain⟨x,l,rfl,hl,hp⟩:=areB_cons h
    obtain rfl:l=[]:=List.eq_nil_of_length_eq_zero (by omega)
    have hx:=hp x (by simp)
    have hdx:exD x≤10:=maxL_le hd _ (by simp)
    obtain⟨y,Y,hY,hb⟩:=ex_begs hx
    have hch : ∀T,chooseP itemsB (RR 0 bp (exK x++T))=(0,RR 0 bp (exK x++T)):=fun T=>by
     refine choose_no _ (fun c hc=>?_)
     rw[hY]
     exact begs_no hb (by revert c;decide)
    by_cases h2:k=2
    ·subst h2
     have hF':(exK x).length≤F:=by simpa [itK] using hF
     show ifP _ _ _ (RR 0 bp (exK x++ts))=_
     rw[if_no _ _ (by rw[hY];exact begs_no hb (by decide)),bind_at (hch ts),if_pos rfl,bind_at (ex_read hx hF' hdx bp hs)]
     rfl
    ·have hk4:k=4∨k=5∨k=6∨k=7:=by omega
     have e:itK ⟨k,[x]⟩++ts=fxT (itW k)::fxT [40]::(exK x++fxT [41]::ts):=by
      unfold itK
      dsimp only
      rw[if_neg h1,if_neg h2,if_neg h3]
      simp[wordsK]
     have hF':(exK x).length≤F:=by
      have:=congrArg List.length e
      simp only[List.length_append,List.length_cons] at this
      omega
     rw[e]
     have hW : ∀T,ifP [42] (retP (⟨1,[]⟩:It)) (bindP (chooseP itemsB) fun k=>if k=0 then bindP (exprP F) fun e=>retP ⟨2,[e]⟩ else
       bindP (mustP [40]) fun _=>bindP (if k=4 then skipP [42] else retP false) fun b=>bindP (if b=true then retP ⟨3,[]⟩ else bindP (exprP F) fun e=>retP ⟨k,[e]⟩) fun i=>bindP (mustP [41]) fun _=>retP i) (RR 0 bp (fxT (itW k)::T)) =
       (bindP (mustP [40]) fun _=>bindP (if k=4 then skipP [42] else retP false) fun b=>bindP (if b=true then retP ⟨3,[]⟩ else bindP (exprP F) fun e=>retP ⟨k,[e]⟩) fun i=>bindP (mustP [41]) fun _=>retP i) (RR 0 bp T):=fun T=>by
      rcases hk4 with rfl | rfl | rfl | rfl
      ·rw[if_no (ts:=fxT (itW 4)::T) _ _ (isT_fx_no (by decide)),bind_at (show chooseP itemsB _=(4,RR 0 bp T) from rfl),if_neg (by decide)]
      ·rw[if_no (ts:=fxT (itW 5)::T) _ _ (isT_fx_no (by decide)),bind_at (show chooseP itemsB _=(5,RR 0 bp T) from rfl),if_neg (by decide)]
      ·rw[if_no (ts:=fxT (itW 6)::T) _ _ (isT_fx_no (by decide)),bind_at (show chooseP itemsB _=(6,RR 0 bp T) from rfl),if_neg (by decide)]
      ·rw[if_no (ts:=fxT (itW 7)::T) _ _ (isT_fx_no (by decide)),bind_at (show chooseP itemsB _=(7,RR 0 bp T) from rfl),if_neg (by decide)]
     rw[hW,bind_at (mustF _)]
     have hsk:(if k=4 then skipP [42] else retP false) (RR 0 bp (exK x++fxT [41]::ts))=(false,RR 0 bp (exK x++fxT [41]::ts)):=by
      split
      ·exact skipK_no (by rw[hY];exact begs_no hb (by decide))
      ·rfl
     rw[bind_at hsk,if_neg (by decide)]
     have hx2:(bindP (exprP F) fun e=>retP (⟨k,[e]⟩:It)) (RR 0 bp (exK x++fxT [41]::ts))=(⟨k,[x]⟩,RR 0 bp (fxT [41]::ts)):=by
      rw[bind_at (ex_read hx hF' hdx bp (stops_close 0 ts))]
      rfl
     rw[bind_at hx2,bind_at (mustF _)]
     rfl
   ·cases h
theorem colE_read {e:Ex} (h:colEB e=true) (bp:Int) (ts:List Tk) (hs:isT (ts.headD zTk) [46]=false):colP (RR 0 bp (exK e++ts))=(e,RR 0 bp ts):=by
 unfold colEB at h
 simp only[Bool.and_eq_true,decide_eq_true_eq] at h
 obtain⟨h1,h2⟩:=right_ok h.2
 unfold exK
 cases ht:tmE e with
 |
  col t n =>
  rw[ht] at h2
  rw[← h2]
  show colP (RR 0 bp ((if t=[] then [nmT n] else [nmT t,fxT [46],nmT n])++ts))=(exCol t n,_)
  unfold colP
  by_cases e0:t=[]
  ·subst e0
   rw[if_pos rfl]
   show bindP nameP _ (RR 0 bp (nmT n::ts))=_
   rw[bind_at (name_read 0 bp n ts),if_no _ _ hs]
   rfl
  ·rw[if_neg e0]
   show bindP nameP _ (RR 0 bp (nmT t::fxT [46]::nmT n::ts))=_
   rw[bind_at (name_read 0 bp t _),if_yes _ _ (isT_fx _)]
   rfl
 | _=>rw[ht] at h2;rw[← h2] at h;exact absurd h.1 (by simp[exKind,Tm.ex,exVal,exOp,exOf])
theorem emp_parts {s:St} (h:empS s=true):s=zSt 0:=by
 unfold empS at h
 simp only[decide_eq_true_eq] at h
 obtain⟨k,tb,cols,prim,rows,sets,items,jn,on,wh,gr,od,desc,lim⟩:=s
 dsimp only at h
 obtain⟨h1,h2,h3,h4,h5,h6,h7,h8,h9,h10,h11,h12,h13,h14⟩:=h
 subst h1 h2 h4 h8 h13 h14
 obtain rfl:=List.eq_nil_of_length_eq_zero h3
 obtain rfl:=List.eq_nil_of_length_eq_zero h5
 obtain rfl:=List.eq_nil_of_length_eq_zero h6
 obtain rfl:=List.eq_nil_of_length_eq_zero h7
 obtain rfl:=List.eq_nil_of_length_eq_zero h9
 obtain rfl:=List.eq_nil_of_length_eq_zero h10
 obtain rfl:=List.eq_nil_of_length_eq_zero h11
 obtain rfl:=List.eq_nil_of_length_eq_zero h12
 rfl
theorem create_read {F:Nat} {tb prim:List UInt8} {cols:List Co} (h:areB cols 1 8 colB=true) (bp:Int) (rest:List Tk) (ex:Pa Ex) :
  createP (RR 0 bp (fxT [84,65,66,76,69]::nmT tb::fxT [40]::(sepK (fxT [44]) (cols.map colK)++(wordsK [[44],[80,82,73,77,65,82,89],[75,69,89],[40]]++nmT prim::(wordsK [[41],[41]]++rest)))))=({ zSt 1 with tb:=tb,cols:=cols,prim:=prim },RR 0 bp rest):=by
 obtain⟨x,xs,rfl,hm,hp⟩:=areB_cons h
 unfold createP
 rw[bind_at (mustF _),bind_at (name_read 0 bp tb _),bind_at (mustF _)]
 have hname : ∀(c:Co),c∈x::xs→∀T:List Tk,moreColumnsP (RR 0 bp (fxT [44]::(colK c++T)))=(true,RR 0 bp (colK c++T)):=fun c hc T=>by
  unfold moreColumnsP
  rw[if_yes _ _ (isT_fx _),bind_at (show isP [80,82,73,77,65,82,89] (RR 0 bp (colK c++T))=(false,RR 0 bp (colK c++T)) from rfl)]
  rfl
 have hend:moreColumnsP (RR 0 bp (wordsK [[44],[80,82,73,77,65,82,89],[75,69,89],[40]]++nmT prim::(wordsK [[41],[41]]++rest)))=(false,RR 0 bp (wordsK [[80,82,73,77,65,82,89],[75,69,89],[40]]++nmT prim::(wordsK [[41],[41]]++rest))):=rfl
 rw[bind_at (list_read (one:=columnP) (tk:=colK) hend xs x 8 [] hm (fun y hy T hT=>column_read (hp y hy) bp T (by
  rcases hT with rfl | ⟨u,rfl⟩
  ·exact⟨isT_fx_no (by decide),isT_fx_no (by decide)⟩
  ·exact⟨isT_fx_no (by decide),isT_fx_no (by decide)⟩)) (fun y hy T=>hname y (List.mem_cons_of_mem _ hy) T)),bind_at (musts_read 0 bp _ _),bind_at (name_read 0 bp prim _),bind_at (musts_read 0 bp _ _)]
 rfl
theorem sepK_len {α:Type} (sep:Tk) (tk:α→List Tk):∀(l:List α) (x:α),x∈l→(tk x).length≤(sepK sep (l.map tk)).length
 |
  y::l,x,hx=>by
  have h2 : ∀(l:List α),x∈l→(tk x).length≤((l.map tk).flatMap fun y=>sep::y).length:=fun l=>by
   induction l with
   | nil=>intro h;cases h
   |
    cons z l ih =>
    intro h
    simp only[List.map_cons,List.flatMap_cons,List.length_append,List.length_cons]
    rcases List.mem_cons.1 h with rfl | h
    ·omega
    ·have:=ih h;omega
  simp only[List.map_cons,sepK,List.length_append]
  rcases List.mem_cons.1 hx with rfl | hx
  ·omega
  ·have:=h2 l hx;omega
theorem partK_len {xs:List Ex} {ws:List (List UInt8)} {x:Ex} (hx:x∈xs):(exK x).length≤(partK xs ws).length:=by
 unfold partK
 induction xs with
 | nil=>cases hx
 |
  cons y l ih =>
  simp only[List.flatMap_cons,List.length_append]
  rcases List.mem_cons.1 hx with rfl | hx
  ·omega
  ·have:=ih hx;omega
theorem areB_list {α:Type} {xs:List α} {p:α→Bool} (h:areB xs 0 1 p=true):xs=[]∨∃x,xs=[x]:=by
 rcases areB_one h with h | ⟨x,h,_⟩
 ·exact .inl h
 ·exact .inr ⟨x,h⟩
theorem areB_mem {α:Type} {xs:List α} {a b:Nat} {p:α→Bool} (h:areB xs a b p=true):∀x∈xs,p x=true:=by
 unfold areB at h
 simp only[Bool.and_eq_true,List.all_eq_true] at h
 exact h.2
theorem update_read {F:Nat} {tb:List UInt8} {sets:List Se} {wh:List Ex} (h:areB sets 1 8 setB=true) (hw:areB wh 0 1 rightE=true) (hF:(sepK (fxT [44]) (sets.map setK)).length≤F) (hF2:(partK wh [[87,72,69,82,69]]).length≤F) (hd : ∀x∈sets,exD x.e≤10) (hd2:exDs wh≤10) (bp:Int) (rest:List Tk) (hs:StopS rest) :
  updateP (exprP F) (RR 0 bp (nmT tb::fxT [83,69,84]::(sepK (fxT [44]) (sets.map setK)++(partK wh [[87,72,69,82,69]]++rest))))=({ zSt 4 with tb:=tb,sets:=sets,wh:=wh },RR 0 bp rest):=by
 obtain⟨x,xs,rfl,hm,hp⟩:=areB_cons h
 unfold updateP
 have hst:Stops 0 (partK wh [[87,72,69,82,69]]++rest)∧isT ((partK wh [[87,72,69,82,69]]++rest).headD zTk) [44]=false:=by
  rcases areB_one hw with rfl | ⟨y,rfl,_⟩
  ·exact⟨hs.stops,hs.no (by decide)⟩
  ·exact⟨show ∀s∈barred 0,isT (fxT [87,72,69,82,69]) s=false by decide,isT_fx_no (by decide)⟩
 rw[bind_at (name_read 0 bp tb _),bind_at (mustF _),bind_at (commas_read (one:=setP (exprP F)) (tk:=setK) hst.2 hm (fun y hy T hT=>set_read (hp y hy) (Nat.le_trans (sepK_len (fxT [44]) setK _ y hy) hF) (hd y hy) bp T (by
  rcases hT with rfl | ⟨u,rfl⟩
  ·exact hst.1
  ·exact stops_comma u)))]
 rw[bind_at (part_read (areB_list hw) (fun x hx=>ex_read (areB_mem hw x hx) (Nat.le_trans (partK_len hx) hF2) (maxL_le hd2 _ (List.mem_map.2 ⟨x,hx,rfl⟩)) bp hs.stops) (fun _=>hs.no (by decide)))]
 rfl
theorem delete_read {F:Nat} {tb:List UInt8} {wh:List Ex} (hw:areB wh 0 1 rightE=true) (hF2:(partK wh [[87,72,69,82,69]]).length≤F) (hd2:exDs wh≤10) (bp:Int) (rest:List Tk) (hs:StopS rest) :
  deleteP (exprP F) (RR 0 bp (fxT [70,82,79,77]::nmT tb::(partK wh [[87,72,69,82,69]]++rest)))=({ zSt 5 with tb:=tb,wh:=wh },RR 0 bp rest):=by
 unfold deleteP
 rw[bind_at (mustF _),bind_at (name_read 0 bp tb _)]
 rw[bind_at (part_read (areB_list hw) (fun x hx=>ex_read (areB_mem hw x hx) (Nat.le_trans (partK_len hx) hF2) (maxL_le hd2 _ (List.mem_map.2 ⟨x,hx,rfl⟩)) bp hs.stops) (fun _=>hs.no (by decide)))]
 rfl
theorem insert_read {tb:List UInt8} {rows:List (List Vl)} (h:areB rows 1 16 rowB=true) (bp:Int) (rest:List Tk) (hs:StopS rest) :
  insertP (RR 0 bp (fxT [73,78,84,79]::nmT tb::fxT [86,65,76,85,69,83]::(sepK (fxT [44]) (rows.map vrowK)++rest)))=({ zSt 3 with tb:=tb,rows:=rows },RR 0 bp rest):=by
 obtain⟨x,xs,rfl,hm,hp⟩:=areB_cons h
 unfold insertP
 rw[bind_at (mustF _),bind_at (name_read 0 bp tb _),bind_at (mustF _),bind_at (commas_read (one:=valuesP) (tk:=vrowK) (hs.no (by decide)) hm (fun y hy T _=>lits_read (hp y hy) bp T))]
 rfl
end Go.Proofs.YtaaggohjmhifbaaGreatDoor
