/- Packed for the hand-in: WBack LBackL WGood WTop -/
import Derived.Test.YtnidnipiihhnaaaGreatDoorZ17
import Derived.Test.YtnidnipiihhnaaaGreatDoorZ07
import Derived.Laws.StructEq
import Derived.Deep.QuietTactic
import Derived.BigQuiet
import Derived.Test.YtnidnipiihhnaaaGreatDoorZ19
import Derived.Test.YtnidnipiihhnaaaGreatDoorZ20
import Derived.Test.YtnidnipiihhnaaaGreatDoorZ23
namespace Go.Proofs.YtnidnipiihhnaaaGreatDoor
set_option linter.unusedSimpArgs false
set_option linter.unusedVariables false
set_option maxHeartbeats 8000000
def xC:List (List UInt8):=[[78,79,84],[78,85,76,76],[40],[45]]
theorem Ia (t:Tm) (hok:t.ok):∃h X,t.tk=h::X∧∀s,jm h s=true→s∈xC:=by
 have fx : ∀u s:List UInt8,u∈xC→jm (aI u) s=true→s∈xC:=fun u s hu h=>by
  rw[← wV (jR u) h];exact hu
 have hat : ∀(l:Nat) (a:Tm),(∃h X,a.tk=h::X∧∀s,jm h s=true→s∈xC)→∃h X,fM l a.lv a.tk=h::X∧∀s,jm h s=true→s∈xC:=fun l a ⟨h,X,e,hn⟩=>by
  unfold fM
  split
  ·exact⟨h,X,e,hn⟩
  ·exact⟨_,_,rfl,fun s=>fx [40] s (by decide)⟩
 have nob : ∀(k:Int) (x:List UInt8) (n p:Int) (s:List UInt8),k≠2→k≠5→jm ⟨k,x,n,p⟩ s=true→s∈xC:=fun k x n p s h2 h5 h=>by
  unfold jm at h
  simp[h2,h5] at h
 induction t with
 |
  val v =>
  simp only[Tm.tk,gX]
  split
  ·exact⟨_,_,rfl,fun s=>nob 4 _ _ _ s (by decide) (by decide)⟩
  ·split
   ·exact⟨_,_,rfl,fun s=>fx _ s (by decide)⟩
   ·split
    ·exact⟨_,_,rfl,fun s=>fx _ s (by decide)⟩
    ·exact⟨_,_,rfl,fun s=>nob 3 _ _ _ s (by decide) (by decide)⟩
 |
  col t n =>
  simp only[Tm.tk]
  split
  ·exact⟨_,_,rfl,fun s=>nob 1 _ _ _ s (by decide) (by decide)⟩
  ·exact⟨_,_,rfl,fun s=>nob 1 _ _ _ s (by decide) (by decide)⟩
 |
  op o a b ha hb =>
  obtain⟨h,X,e,hn⟩:=hat (rP o) a (ha hok.2.2.1)
  simp only[Tm.tk]
  rw[e];exact⟨_,_,rfl,hn⟩
 | not a ha=>exact⟨_,_,rfl,fun s=>fx _ s (by decide)⟩
 | neg a ha=>exact⟨_,_,rfl,fun s=>fx _ s (by decide)⟩
 |
  nul a ha =>
  obtain⟨h,X,e,hn⟩:=hat 4 a (ha hok)
  simp only[Tm.tk]
  rw[e];exact⟨_,_,rfl,hn⟩
 |
  nnul a ha =>
  obtain⟨h,X,e,hn⟩:=hat 4 a (ha hok)
  simp only[Tm.tk]
  rw[e];exact⟨_,_,rfl,hn⟩
theorem lM {e:Ex} (h:aN e=true) {F:Nat} (hF:(je e).length≤F) (hd:iM e≤10) (bp:Int) {rest:List Tk} (hs:Stops 0 rest):dn F (RR 0 bp (je e++rest))=(e,RR 0 bp rest):=by
 obtain⟨h1,h2⟩:=jo h
 have:=DV (lD e) h1 F hF hd bp rest hs
 rw[h2] at this
 exact this
theorem GV {e:Ex} (h:aN e=true):∃x X,je e=x::X∧∀s,jm x s=true→s∈xC:=Ia _ (jo h).1
theorem xB {x:Tk} (h : ∀s,jm x s=true→s∈xC) {s:List UInt8} (hs:s ∉ xC):jm x s=false:=by
 cases e:jm x s with
 | false=>rfl
 | true=>exact absurd (h s e) hs
theorem lK {l:List Nat} {n:Nat} (h:bq l≤n):∀x∈l,x≤n:=by
 induction l with
 | nil=>simp
 |
  cons a l ih =>
  simp only[bq,List.foldr_cons] at h
  intro x hx
  rcases List.mem_cons.1 hx with rfl | hx
  ·omega
  ·exact ih (by unfold bq;omega) x hx
theorem zJ {α:Type} {xs:List α} {p:α→Bool} (h:bf xs 0 1 p=true):xs=[]∨∃x,xs=[x]∧p x=true:=by
 unfold bf at h
 simp only[Bool.and_eq_true,decide_eq_true_eq] at h
 match xs,h with
 | [],_=>exact .inl rfl
 | [x],h=>exact .inr ⟨x,rfl,by simpa using h.2⟩
 | _::_::_,h=>exact absurd h.1.2 (by simp)
theorem fT {α:Type} {xs:List α} {b:Nat} {p:α→Bool} (h:bf xs 1 b p=true):∃x l,xs=x::l∧l.length+1≤b∧∀y∈x::l,p y=true:=by
 unfold bf at h
 simp only[Bool.and_eq_true,decide_eq_true_eq,List.all_eq_true] at h
 match xs,h with
 | [],h=>exact absurd h.1.1 (by simp)
 | x::l,h=>exact⟨x,l,rfl,h.1.2,h.2⟩
theorem lZ {read:Pa Ex} {xs:List Ex} {w:List UInt8} {ws:List (List UInt8)} {bp:Int} {rest:List Tk} (hl:xs=[]∨∃x,xs=[x]) (hr : ∀x∈xs,read (RR 0 bp (je x++rest))=(x,RR 0 bp rest)) (hno:xs=[]→jm (rest.headD jJ) w=false):bN read w ws (RR 0 bp (aW xs (w::ws)++rest))=(xs,RR 0 bp rest):=by
 unfold bN
 rcases hl with rfl | ⟨x,rfl⟩
 ·exact jO _ _ (hno rfl)
 ·have e:aW [x] (w::ws)++rest=aI w::(ah ws++(je x++rest)):=by simp[aW,ah]
  rw[e,j3 _ _ (jR w),aL (mZ 0 bp _ ws),aL (hr x (by simp))]
  rfl
theorem Dp {d bp:Int} {ts:List Tk}:bL (RR d bp (aI [44]::ts))=(true,RR d bp ts):=lW [44]
theorem Fv {d bp:Int} {ts:List Tk} (h:jm (ts.headD jJ) [44]=false):bL (RR d bp ts)=(false,RR d bp ts):=nH h
theorem lJ {α:Type} {one:Pa α} {tk:α→List Tk} {bp:Int} {rest:List Tk} (hr:jm (rest.headD jJ) [44]=false) {x:α} {xs:List α} {m:Nat} (hm:xs.length+1≤m) (hone : ∀y∈x::xs,∀ts,ts=rest∨(∃u,ts=aI [44]::u)→one (RR 0 bp (tk y++ts))=(y,RR 0 bp ts)) :
  aV one bL m [] (RR 0 bp (aQ (aI [44]) ((x::xs).map tk)++rest))=(x::xs,RR 0 bp rest) :=
 oI (Fv hr) xs x m [] hm hone (fun y _ ts=>Dp)
theorem sj (ts:List Tk):Stops 0 (aI [44]::ts):=show ∀s∈j5 0,jm (aI [44]) s=false by decide
theorem yx {c:Co} (h:lU c=true) (bp:Int) (ts:List Tk) (hs:jm (ts.headD jJ) [78,79,84]=false∧jm (ts.headD jJ) [85,78,73,81,85,69]=false):eZ (RR 0 bp (kE c++ts))=(c,RR 0 bp ts):=by
 obtain⟨nm,k,nn,uq⟩:=c
 unfold lU at h
 simp only[Bool.and_eq_true,decide_eq_true_eq] at h
 unfold eZ kE
 dsimp only
 rw[show aT nm::aI (if k=1 then [73,78,84] else [84,69,88,84])::((if nn=true then ah [[78,79,84],[78,85,76,76]] else [])++(if uq=true then ah [[85,78,73,81,85,69]] else []))++ts=aT nm::aI (if k=1 then [73,78,84] else [84,69,88,84])::((if nn=true then ah [[78,79,84],[78,85,76,76]] else [])++((if uq=true then ah [[85,78,73,81,85,69]] else [])++ts)) by simp]
 rw[aL (fB 0 bp nm _)]
 have hk : ∀T,aK gL (RR 0 bp (aI (if k=1 then [73,78,84] else [84,69,88,84])::T))=(k,RR 0 bp T):=fun T=>by
  rcases h.2 with rfl | rfl<;>rfl
 rw[aL (hk _),if_neg (by rcases h.2 with rfl | rfl<;>decide),aL (show aZ () (RR 0 bp _)=_ from rfl)]
 have hq:fF [85,78,73,81,85,69] (RR 0 bp ((if uq=true then ah [[85,78,73,81,85,69]] else [])++ts))=(uq,RR 0 bp ts):=by
  cases uq with
  | true=>exact lW _
  | false=>exact nH hs.2
 have hn:gP [78,79,84] (aG (dx [78,85,76,76]) fun _=>aZ true) (aZ false) (RR 0 bp ((if nn=true then ah [[78,79,84],[78,85,76,76]] else [])++((if uq=true then ah [[85,78,73,81,85,69]] else [])++ts)))=(nn,RR 0 bp ((if uq=true then ah [[85,78,73,81,85,69]] else [])++ts)):=by
  cases nn with
  |
   true =>
   show gP _ _ _ (RR 0 bp (aI [78,79,84]::aI [78,85,76,76]::_))=_
   rw[j3 _ _ (jR _),aL (jL _)]
   rfl
  |
   false =>
   refine jO _ _ ?_
   cases uq with
   | true=>exact eX (by decide)
   | false=>exact hs.1
 rw[aL hn,aL hq]
 rfl
theorem Dx {l:List Vl} (h:qN l=true) (bp:Int) (ts:List Tk):fK (RR 0 bp (jW l++ts))=(l,RR 0 bp ts):=by
 obtain⟨x,xs,rfl,hm,hp⟩:=fT h
 unfold fK jW
 rw[show aI [40]::(aQ (aI [44]) ((x::xs).map gX)++[aI [41]])++ts=aI [40]::(aQ (aI [44]) ((x::xs).map gX)++aI [41]::ts) by simp]
 rw[aL (jL _),aL (lJ (one:=jI) (tk:=gX) (rest:=aI [41]::ts) (eX (by decide)) hm (fun y hy T _=>Ae (hp y hy) 0 bp T)),aL (jL _)]
 rfl
theorem Fg {F:Nat} {s:Se} (h:nY s=true) (hF:(lF s).length≤F) (hd:iM s.e≤10) (bp:Int) (ts:List Tk) (hs:Stops 0 ts):nM (dn F) (RR 0 bp (lF s++ts))=(s,RR 0 bp ts):=by
 obtain⟨nm,e⟩:=s
 unfold nY at h
 simp only[Bool.and_eq_true] at h
 unfold nM lF
 rw[show aT nm::aI [61]::je e++ts=aT nm::aI [61]::(je e++ts) from rfl]
 rw[aL (fB 0 bp nm _),aL (jL _),aL (lM h.2 (by simp[lF] at hF;omega) hd bp hs)]
 rfl
theorem D6 {F:Nat} {i:It} (h:tN i=true) (hF:(sO i).length≤F) (hd:yZ i≤10) (bp:Int) (ts:List Tk) (hs:Stops 0 ts):dY (dn F) (RR 0 bp (sO i++ts))=(i,RR 0 bp ts):=by
 obtain⟨k,xs⟩:=i
 unfold tN at h
 dsimp only at h
 unfold dY
 by_cases h1:k=1
 ·subst h1
  rw[if_pos (.inl rfl)] at h
  obtain rfl:xs=[]:=List.eq_nil_of_length_eq_zero (by simpa using h)
  exact j3 _ _ (jR _)
 ·by_cases h3:k=3
  ·subst h3
   rw[if_pos (.inr rfl)] at h
   obtain rfl:xs=[]:=List.eq_nil_of_length_eq_zero (by simpa using h)
   show gP _ _ _ (RR 0 bp (aI [67,79,85,78,84]::aI [40]::aI [42]::aI [41]::ts))=_
   rw[jO (ts:=aI [67,79,85,78,84]::aI [40]::aI [42]::aI [41]::ts) _ _ (eX (by decide)),aL (show aK eG _=(4,RR 0 bp (aI [40]::aI [42]::aI [41]::ts)) from rfl),if_neg (by decide),aL (jL _),if_pos rfl,aL (lW _),if_pos rfl,aL (show aZ _ (RR 0 bp (aI [41]::ts))=_ from rfl),aL (jL _)]
   rfl
  ·rw[if_neg (by omega)] at h
   split at h
   ·rename_i hk
    obtain⟨x,l,rfl,hl,hp⟩:=fT h
    obtain rfl:l=[]:=List.eq_nil_of_length_eq_zero (by omega)
    have hx:=hp x (by simp)
    have hdx:iM x≤10:=lK hd _ (by simp)
    obtain⟨y,Y,hY,hb⟩:=GV hx
    have hch : ∀T,aK eG (RR 0 bp (je x++T))=(0,RR 0 bp (je x++T)):=fun T=>by
     refine oV _ (fun c hc=>?_)
     rw[hY]
     exact xB hb (by revert c;decide)
    by_cases h2:k=2
    ·subst h2
     have hF':(je x).length≤F:=by simpa [sO] using hF
     show gP _ _ _ (RR 0 bp (je x++ts))=_
     rw[jO _ _ (by rw[hY];exact xB hb (by decide)),aL (hch ts),if_pos rfl,aL (lM hx hF' hdx bp hs)]
     rfl
    ·have hk4:k=4∨k=5∨k=6∨k=7:=by omega
     have e:sO ⟨k,[x]⟩++ts=aI (AY k)::aI [40]::(je x++aI [41]::ts):=by
      unfold sO
      dsimp only
      rw[if_neg h1,if_neg h2,if_neg h3]
      simp[ah]
     have hF':(je x).length≤F:=by
      have:=congrArg List.length e
      simp only[List.length_append,List.length_cons] at this
      omega
     rw[e]
     have hW : ∀T,gP [42] (aZ (⟨1,[]⟩:It)) (aG (aK eG) fun k=>if k=0 then aG (dn F) fun e=>aZ ⟨2,[e]⟩ else
       aG (dx [40]) fun _=>aG (if k=4 then fF [42] else aZ false) fun b=>aG (if b=true then aZ ⟨3,[]⟩ else aG (dn F) fun e=>aZ ⟨k,[e]⟩) fun i=>aG (dx [41]) fun _=>aZ i) (RR 0 bp (aI (AY k)::T)) =
       (aG (dx [40]) fun _=>aG (if k=4 then fF [42] else aZ false) fun b=>aG (if b=true then aZ ⟨3,[]⟩ else aG (dn F) fun e=>aZ ⟨k,[e]⟩) fun i=>aG (dx [41]) fun _=>aZ i) (RR 0 bp T):=fun T=>by
      rcases hk4 with rfl | rfl | rfl | rfl
      ·rw[jO (ts:=aI (AY 4)::T) _ _ (eX (by decide)),aL (show aK eG _=(4,RR 0 bp T) from rfl),if_neg (by decide)]
      ·rw[jO (ts:=aI (AY 5)::T) _ _ (eX (by decide)),aL (show aK eG _=(5,RR 0 bp T) from rfl),if_neg (by decide)]
      ·rw[jO (ts:=aI (AY 6)::T) _ _ (eX (by decide)),aL (show aK eG _=(6,RR 0 bp T) from rfl),if_neg (by decide)]
      ·rw[jO (ts:=aI (AY 7)::T) _ _ (eX (by decide)),aL (show aK eG _=(7,RR 0 bp T) from rfl),if_neg (by decide)]
     rw[hW,aL (jL _)]
     have hsk:(if k=4 then fF [42] else aZ false) (RR 0 bp (je x++aI [41]::ts))=(false,RR 0 bp (je x++aI [41]::ts)):=by
      split
      ·exact nH (by rw[hY];exact xB hb (by decide))
      ·rfl
     rw[aL hsk,if_neg (by decide)]
     have hx2:(aG (dn F) fun e=>aZ (⟨k,[e]⟩:It)) (RR 0 bp (je x++aI [41]::ts))=(⟨k,[x]⟩,RR 0 bp (aI [41]::ts)):=by
      rw[aL (lM hx hF' hdx bp (nT 0 ts))]
      rfl
     rw[aL hx2,aL (jL _)]
     rfl
   ·cases h
theorem vR {e:Ex} (h:eu e=true) (bp:Int) (ts:List Tk) (hs:jm (ts.headD jJ) [46]=false):fu (RR 0 bp (je e++ts))=(e,RR 0 bp ts):=by
 unfold eu at h
 simp only[Bool.and_eq_true,decide_eq_true_eq] at h
 obtain⟨h1,h2⟩:=jo h.2
 unfold je
 cases ht:lD e with
 |
  col t n =>
  rw[ht] at h2
  rw[← h2]
  show fu (RR 0 bp ((if t=[] then [aT n] else [aT t,aI [46],aT n])++ts))=(jM t n,_)
  unfold fu
  by_cases e0:t=[]
  ·subst e0
   rw[if_pos rfl]
   show aG nameP _ (RR 0 bp (aT n::ts))=_
   rw[aL (fB 0 bp n ts),jO _ _ hs]
   rfl
  ·rw[if_neg e0]
   show aG nameP _ (RR 0 bp (aT t::aI [46]::aT n::ts))=_
   rw[aL (fB 0 bp t _),j3 _ _ (jR _)]
   rfl
 | _=>rw[ht] at h2;rw[← h2] at h;exact absurd h.1 (by simp[qo,Tm.ex,jf,mq,eT])
theorem rD {s:St} (h:FX s=true):s=iP 0:=by
 unfold FX at h
 simp only[decide_eq_true_eq] at h
 obtain⟨k,tb,cols,prim,rows,sets,items,jn,on,wh,gr,od,desc,lim⟩:=s
 dsimp only at h
 obtain⟨h1,h2,h3,h4,h5,h6,h7,h8,h9,h10,h11,h12,h13,h14⟩:=h
 subst h1 h2 h4 h8 h13 h14
 obtain rfl:=List.eq_nil_of_length_eq_zero h3
 obtain rfl:=List.eq_nil_of_length_eq_zero h5
 obtain rfl:=List.eq_nil_of_length_eq_zero h6
 obtain rfl:=List.eq_nil_of_length_eq_zero h7
 obtain rfl:=List.eq_nil_of_length_eq_zero h9
 obtain rfl:=List.eq_nil_of_length_eq_zero h10
 obtain rfl:=List.eq_nil_of_length_eq_zero h11
 obtain rfl:=List.eq_nil_of_length_eq_zero h12
 rfl
theorem zh {F:Nat} {tb prim:List UInt8} {cols:List Co} (h:bf cols 1 8 lU=true) (bp:Int) (rest:List Tk) (ex:Pa Ex) :
  dH (RR 0 bp (aI [84,65,66,76,69]::aT tb::aI [40]::(aQ (aI [44]) (cols.map kE)++(ah [[44],[80,82,73,77,65,82,89],[75,69,89],[40]]++aT prim::(ah [[41],[41]]++rest)))))=({ iP 1 with tb:=tb,cols:=cols,prim:=prim },RR 0 bp rest):=by
 obtain⟨x,xs,rfl,hm,hp⟩:=fT h
 unfold dH
 rw[aL (jL _),aL (fB 0 bp tb _),aL (jL _)]
 have hname : ∀(c:Co),c∈x::xs→∀T:List Tk,bQ (RR 0 bp (aI [44]::(kE c++T)))=(true,RR 0 bp (kE c++T)):=fun c hc T=>by
  unfold bQ
  rw[j3 _ _ (jR _),aL (show Ki [80,82,73,77,65,82,89] (RR 0 bp (kE c++T))=(false,RR 0 bp (kE c++T)) from rfl)]
  rfl
 have hend:bQ (RR 0 bp (ah [[44],[80,82,73,77,65,82,89],[75,69,89],[40]]++aT prim::(ah [[41],[41]]++rest)))=(false,RR 0 bp (ah [[80,82,73,77,65,82,89],[75,69,89],[40]]++aT prim::(ah [[41],[41]]++rest))):=rfl
 rw[aL (oI (one:=eZ) (tk:=kE) hend xs x 8 [] hm (fun y hy T hT=>yx (hp y hy) bp T (by
  rcases hT with rfl | ⟨u,rfl⟩
  ·exact⟨eX (by decide),eX (by decide)⟩
  ·exact⟨eX (by decide),eX (by decide)⟩)) (fun y hy T=>hname y (List.mem_cons_of_mem _ hy) T)),aL (mZ 0 bp _ _),aL (fB 0 bp prim _),aL (mZ 0 bp _ _)]
 rfl
theorem uy {α:Type} (sep:Tk) (tk:α→List Tk):∀(l:List α) (x:α),x∈l→(tk x).length≤(aQ sep (l.map tk)).length
 |
  y::l,x,hx=>by
  have h2 : ∀(l:List α),x∈l→(tk x).length≤((l.map tk).flatMap fun y=>sep::y).length:=fun l=>by
   induction l with
   | nil=>intro h;cases h
   |
    cons z l ih =>
    intro h
    simp only[List.map_cons,List.flatMap_cons,List.length_append,List.length_cons]
    rcases List.mem_cons.1 h with rfl | h
    ·omega
    ·have:=ih h;omega
  simp only[List.map_cons,aQ,List.length_append]
  rcases List.mem_cons.1 hx with rfl | hx
  ·omega
  ·have:=h2 l hx;omega
theorem oO {xs:List Ex} {ws:List (List UInt8)} {x:Ex} (hx:x∈xs):(je x).length≤(aW xs ws).length:=by
 unfold aW
 induction xs with
 | nil=>cases hx
 |
  cons y l ih =>
  simp only[List.flatMap_cons,List.length_append]
  rcases List.mem_cons.1 hx with rfl | hx
  ·omega
  ·have:=ih hx;omega
theorem ji {α:Type} {xs:List α} {p:α→Bool} (h:bf xs 0 1 p=true):xs=[]∨∃x,xs=[x]:=by
 rcases zJ h with h | ⟨x,h,_⟩
 ·exact .inl h
 ·exact .inr ⟨x,h⟩
theorem aS {α:Type} {xs:List α} {a b:Nat} {p:α→Bool} (h:bf xs a b p=true):∀x∈xs,p x=true:=by
 unfold bf at h
 simp only[Bool.and_eq_true,List.all_eq_true] at h
 exact h.2
theorem yJ {F:Nat} {tb:List UInt8} {sets:List Se} {wh:List Ex} (h:bf sets 1 8 nY=true) (hw:bf wh 0 1 aN=true) (hF:(aQ (aI [44]) (sets.map lF)).length≤F) (hF2:(aW wh [[87,72,69,82,69]]).length≤F) (hd : ∀x∈sets,iM x.e≤10) (hd2:dG wh≤10) (bp:Int) (rest:List Tk) (hs:nu rest) :
  dI (dn F) (RR 0 bp (aT tb::aI [83,69,84]::(aQ (aI [44]) (sets.map lF)++(aW wh [[87,72,69,82,69]]++rest))))=({ iP 4 with tb:=tb,sets:=sets,wh:=wh },RR 0 bp rest):=by
 obtain⟨x,xs,rfl,hm,hp⟩:=fT h
 unfold dI
 have hst:Stops 0 (aW wh [[87,72,69,82,69]]++rest)∧jm ((aW wh [[87,72,69,82,69]]++rest).headD jJ) [44]=false:=by
  rcases zJ hw with rfl | ⟨y,rfl,_⟩
  ·exact⟨hs.stops,hs.no (by decide)⟩
  ·exact⟨show ∀s∈j5 0,jm (aI [87,72,69,82,69]) s=false by decide,eX (by decide)⟩
 rw[aL (fB 0 bp tb _),aL (jL _),aL (lJ (one:=nM (dn F)) (tk:=lF) hst.2 hm (fun y hy T hT=>Fg (hp y hy) (Nat.le_trans (uy (aI [44]) lF _ y hy) hF) (hd y hy) bp T (by
  rcases hT with rfl | ⟨u,rfl⟩
  ·exact hst.1
  ·exact sj u)))]
 rw[aL (lZ (ji hw) (fun x hx=>lM (aS hw x hx) (Nat.le_trans (oO hx) hF2) (lK hd2 _ (List.mem_map.2 ⟨x,hx,rfl⟩)) bp hs.stops) (fun _=>hs.no (by decide)))]
 rfl
theorem zQ {F:Nat} {tb:List UInt8} {wh:List Ex} (hw:bf wh 0 1 aN=true) (hF2:(aW wh [[87,72,69,82,69]]).length≤F) (hd2:dG wh≤10) (bp:Int) (rest:List Tk) (hs:nu rest) :
  fJ (dn F) (RR 0 bp (aI [70,82,79,77]::aT tb::(aW wh [[87,72,69,82,69]]++rest)))=({ iP 5 with tb:=tb,wh:=wh },RR 0 bp rest):=by
 unfold fJ
 rw[aL (jL _),aL (fB 0 bp tb _)]
 rw[aL (lZ (ji hw) (fun x hx=>lM (aS hw x hx) (Nat.le_trans (oO hx) hF2) (lK hd2 _ (List.mem_map.2 ⟨x,hx,rfl⟩)) bp hs.stops) (fun _=>hs.no (by decide)))]
 rfl
theorem zH {tb:List UInt8} {rows:List (List Vl)} (h:bf rows 1 16 qN=true) (bp:Int) (rest:List Tk) (hs:nu rest) :
  dN (RR 0 bp (aI [73,78,84,79]::aT tb::aI [86,65,76,85,69,83]::(aQ (aI [44]) (rows.map jW)++rest)))=({ iP 3 with tb:=tb,rows:=rows },RR 0 bp rest):=by
 obtain⟨x,xs,rfl,hm,hp⟩:=fT h
 unfold dN
 rw[aL (jL _),aL (fB 0 bp tb _),aL (jL _),aL (lJ (one:=fK) (tk:=jW) (hs.no (by decide)) hm (fun y hy T _=>Dx (hp y hy) bp T))]
 rfl
end Go.Proofs.YtnidnipiihhnaaaGreatDoor
namespace Go.Proofs.YtnidnipiihhnaaaGreatDoor
open Go.RowKit Go.Shelf
set_option linter.unusedSimpArgs false
set_option linter.unusedVariables false
set_option maxRecDepth 20000
set_option maxHeartbeats 8000000
theorem jw.ok {t:Tk} (h:jw t):JB t:=⟨h.len,h.n0,h.n1⟩
theorem yH {s:List UInt8} (h:(tokens s).1=0):s.length≤2000∧(tokens s).2.1=0∧∃L,(tokens s).2.2=L++[⟨6,[],0,(s.length:Int)⟩]∧L.length≤s.length∧∀t∈L,jw t:=by
 have hl : ¬2000<s.length:=fun hl=>by rw[tokens,if_pos hl] at h;exact absurd (show (2:Nat)=0 from h) (by decide)
 have e:tokens s=toks (s.length+1) s 0:=by rw[tokens,if_neg hl]
 rw[e] at h ⊢
 refine ⟨by omega,(mh _ _ _).2 h,?_⟩
 obtain⟨L,h1,h2,h3⟩:=rV (s.length+1) s 0 (by omega) h
 exact⟨L,by rw[h1,Nat.zero_add],h2,h3⟩
theorem AX {s:List UInt8} (h:(tokens s).1≠0):(tokens s).2.2=[]:=by
 unfold tokens at h ⊢
 split
 ·rfl
 ·rename_i hl
  rw[if_neg hl] at h
  exact (mh _ _ _).1 h
theorem Gh {L:List Tk} (h : ∀t∈L,jw t) (e:Tk) (he:e.k=6):pV (L++[e])=L.map wr:=by
 rw[uX,if_pos he]
 unfold pV
 rw[List.filter_eq_self.2]
 intro t ht
 have:=(h t ht).k6
 simpa using this
theorem FL (w:World) (a b:Value) (t:TypeId):∃W,w.alloc (.cells #[a,b] t)=W∧Below w.heap.size w W∧w.heap.size<W.heap.size∧∀W',Below W.heap.size W W'→W'.heap[w.heap.size]?=some (.cells #[a,b] t) :=
 ⟨_,rfl,(Below.refl _ _).alloc (Nat.le_refl _) _,by simp,fun W' h=>(h.block _ (by simp)).trans (heap_alloc_new w _)⟩
end Go.Proofs.YtnidnipiihhnaaaGreatDoor
namespace Go.Proofs.YtnidnipiihhnaaaGreatDoor
set_option linter.unusedSimpArgs false
set_option linter.unusedVariables false
set_option maxHeartbeats 8000000
theorem GH {s:List UInt8} (h1:skip false s=0) (h2:gM s=(0,aI s,s.length)):jw (aI s):=by
 have:=uW h1 h2 0
 have e:(⟨(aI s).k,(aI s).s,(aI s).n,0⟩:Tk)=aI s:=by unfold aI;split<;>rfl
 rw[e] at this
 exact this
def JD:List (List UInt8):=[[40],[41],[44],[59],[46],[42],[43],[45],[47],[37],[61],[60],[62],[60,62],[60,61],[62,61],[65,78,68],[66,89],[67,79,85,78,84],[67,82,69,65,84,69],[68,69,76,69,84,69],[68,69,83,67],[68,82,79,80],[70,82,79,77],[71,82,79,85,80],[73,78,83,69,82,84],[73,78,84],[73,78,84,79],[73,83],[74,79,73,78],[75,69,89],[76,73,77,73,84],[77,65,88],[77,73,78],[78,79,84],[78,85,76,76],[79,78],[79,82],[79,82,68,69,82],[80,82,73,77,65,82,89],[83,69,76,69,67,84],[83,69,84],[83,85,77],[84,65,66,76,69],[84,69,88,84],[85,78,73,81,85,69],[85,80,68,65,84,69],[86,65,76,85,69,83],[87,72,69,82,69]]
theorem F3 : ∀s∈JD,jw (aI s):=by
 unfold JD
 simp only[List.forall_mem_cons]
 refine ⟨?_,?_,?_,?_,?_,?_,?_,?_,?_,?_,?_,?_,?_,?_,?_,?_,?_,?_,?_,?_,?_,?_,?_,?_,?_,?_,?_,?_,?_,?_,?_,?_,?_,?_,?_,?_,?_,?_,?_,?_,?_,?_,?_,?_,?_,?_,?_,?_,?_,?_⟩<;>first | (refine GH ?_ ?_<;>rfl) | (intro x hx;cases hx)
theorem bS {s:List UInt8} (h:s∈JD):jw (aI s):=F3 s h
theorem jg {s:List UInt8} (h:bM s=true):jw (aT s):=by
 unfold bM at h
 simp only[Bool.and_eq_true,decide_eq_true_eq] at h
 obtain⟨h1,h2,h3,h4⟩:=h
 cases s with
 | nil=>simp at h1
 |
  cons c r =>
  have h3:cu iE c=true:=h3
  have hc:gM (c::r)=(0,aT (c::r),(c::r).length):=by
   unfold gM
   dsimp only
   rw[if_pos h3]
   unfold gY
   rw[h4,List.drop_length,List.take_length,if_neg (by decide),if_neg (by omega)]
   rfl
  have hs:skip false (c::r)=0:=by
   rw[skip,if_neg ?_]
   ·cases r with
    | nil=>rw[if_neg (by simp)]
    |
     cons d r' =>
     rw[if_neg ?_]
     rintro⟨rfl,_⟩
     exact absurd (show cu iE 45=true from h3) (by decide)
   ·intro hb
    have : ∀c∈mH,cu iE c=false:=by decide
    rw[this c (by simpa [cu] using hb)] at h3
    cases h3
  exact uW hs hc 0
def bG (ts:List Tk):Prop:=∀t∈ts,jw t
theorem bG.nil:bG []:=fun t h=>by cases h
theorem bG.cons {t:Tk} {ts:List Tk} (h:jw t) (hs:bG ts):bG (t::ts):=fun x hx=>by
 rcases List.mem_cons.1 hx with rfl | hx
 ·exact h
 ·exact hs x hx
theorem bG.app {a b:List Tk} (h:bG a) (hs:bG b):bG (a++b):=fun x hx=>by
 rcases List.mem_append.1 hx with hx | hx
 ·exact h x hx
 ·exact hs x hx
theorem bG.words {l:List (List UInt8)} (h : ∀s∈l,s∈JD):bG (ah l):=fun x hx=>by
 obtain⟨s,hs,rfl⟩:=List.mem_map.1 hx
 exact bS (h s hs)
theorem bG.sep {sep:Tk} {l:List (List Tk)} (hs:jw sep) (h : ∀x∈l,bG x):bG (aQ sep l):=by
 cases l with
 | nil=>exact bG.nil
 |
  cons x l =>
  refine (h x (by simp)).app (fun t ht=>?_)
  obtain⟨y,hy,ht⟩:=List.mem_flatMap.1 ht
  exact bG.cons hs (h y (by simp[hy])) t ht
theorem bG.at' {l lv:Nat} {ts:List Tk} (h:bG ts):bG (fM l lv ts):=by
 unfold fM
 split
 ·exact h
 ·exact bG.cons (bS (by decide)) (h.app (bG.cons (bS (by decide)) bG.nil))
theorem Ad {v:Vl} (hv:fq v=true):bG (gX v):=by
 unfold gX
 rcases nW hv with⟨h1,h2,h3⟩ | ⟨h1,h2,h3⟩ | ⟨h1,h2,h3,h4⟩
 ·rw[if_pos h1]
  exact bG.cons (wB v.s 0 h3) bG.nil
 ·rw[if_neg (by omega),if_pos h1]
  exact bG.cons (bS (by decide)) bG.nil
 ·rw[if_neg (by omega),if_neg (by omega)]
  split
  ·exact bG.cons (bS (by decide)) (bG.cons (qQ _ 0 (by omega) (by omega)) bG.nil)
  ·exact bG.cons (qQ _ 0 (by omega) (by omega)) bG.nil
theorem I8 (o:Int) (h1:1≤o) (h2:o≤13):kN o∈JD:=by
 rcases rU o h1 h2 with rfl | rfl | rfl | rfl | rfl | rfl | rfl | rfl | rfl | rfl | rfl | rfl | rfl<;>decide
theorem Ci (t:Tm) (h:t.ok):bG t.tk:=by
 induction t with
 | val v=>exact Ad h
 |
  col a b =>
  simp only[Tm.tk]
  split
  ·exact bG.cons (jg h.1) bG.nil
  ·rename_i ha
   exact bG.cons (jg (h.2.resolve_left ha)) (bG.cons (bS (by decide)) (bG.cons (jg h.1) bG.nil))
 | op o a b ha hb=>exact (ha h.2.2.1).at'.app (bG.cons (bS (I8 o h.1 h.2.1)) (hb h.2.2.2).at')
 | not a ha=>exact bG.cons (bS (by decide)) (ha h.2).at'
 | neg a ha=>exact bG.cons (bS (by decide)) (ha h).at'
 | nul a ha=>exact (ha h).at'.app (bG.cons (bS (by decide)) (bG.cons (bS (by decide)) bG.nil))
 | nnul a ha=>exact (ha h).at'.app (bG.cons (bS (by decide)) (bG.cons (bS (by decide)) (bG.cons (bS (by decide)) bG.nil)))
theorem tO {e:Ex} (h:aN e=true):bG (je e):=Ci _ (jo h).1
theorem kJ {xs:List Ex} {ws:List (List UInt8)} (h : ∀x∈xs,aN x=true) (hw : ∀s∈ws,s∈JD):bG (aW xs ws):=fun t ht=>by
 obtain⟨x,hx,ht⟩:=List.mem_flatMap.1 ht
 exact ((bG.words hw).app (tO (h x hx))) t ht
theorem qz {e:Ex} (h:eu e=true):aN e=true:=by
 unfold eu at h
 simp only[Bool.and_eq_true] at h
 exact h.2
theorem CS {i:It} (h:tN i=true):bG (sO i):=by
 unfold tN at h
 unfold sO
 by_cases h1:i.k=1
 ·rw[if_pos h1];exact bG.cons (bS (by decide)) bG.nil
 ·rw[if_neg h1]
  by_cases h3:i.k=3
  ·rw[if_neg (by omega),if_pos h3];exact bG.words (by decide)
  ·rw[if_neg (by omega)] at h
   split at h
   ·rename_i hk
    obtain⟨x,l,hx,_,hp⟩:=fT h
    have hg:=tO (hp x (by simp))
    rw[hx]
    split
    ·exact hg
    ·refine (bG.words ?_).app (hg.app (bG.cons (bS (by decide)) bG.nil))
     have:i.k=4∨i.k=5∨i.k=6∨i.k=7:=by omega
     rcases this with e | e | e | e<;>rw[e]<;>decide
   ·cases h
theorem FB {s:List UInt8} (h:mD s=true) (hs:s≠[]):jw (aT s):=by
 unfold mD at h
 simp only[Bool.or_eq_true,decide_eq_true_eq] at h
 exact jg (h.resolve_left hs)
theorem uV {s:St} (h:dQ s=true):bG (pI s):=by
 unfold dQ at h
 simp only[Bool.and_eq_true] at h
 obtain⟨hk,ht,_⟩:=h
 have hn:=jg ht
 unfold nC at hk
 unfold pI
 split at hk
 ·rename_i h1
  rw[if_pos h1]
  simp only[Bool.and_eq_true] at hk
  have hm:=aS hk.1
  refine (bG.words (by decide)).app (bG.cons hn (bG.cons (bS (by decide)) ((bG.sep (bS (by decide)) fun x hx=>?_).app ((bG.words (by decide)).app (bG.cons (jg hk.2) (bG.words (by decide)))))))
  obtain⟨c,hc,rfl⟩:=List.mem_map.1 hx
  have hcb:=hm c hc
  unfold lU at hcb
  simp only[Bool.and_eq_true] at hcb
  refine bG.cons (jg hcb.1) (bG.cons (bS (by split<;>decide)) (bG.app ?_ ?_))
  ·split
   ·exact bG.words (by decide)
   ·exact bG.nil
  ·split
   ·exact bG.words (by decide)
   ·exact bG.nil
 ·rename_i h1
  rw[if_neg h1]
  split at hk
  ·rename_i h2
   rw[if_pos h2]
   exact (bG.words (by decide)).app (bG.cons hn bG.nil)
  ·rename_i h2
   rw[if_neg h2]
   split at hk
   ·rename_i h3
    rw[if_pos h3]
    have hm:=aS hk
    refine (bG.words (by decide)).app (bG.cons hn (bG.cons (bS (by decide)) (bG.sep (bS (by decide)) fun x hx=>?_)))
    obtain⟨r,hr,rfl⟩:=List.mem_map.1 hx
    have hrm:=aS (hm r hr)
    refine bG.cons (bS (by decide)) ((bG.sep (bS (by decide)) fun y hy=>?_).app (bG.cons (bS (by decide)) bG.nil))
    obtain⟨v,hv,rfl⟩:=List.mem_map.1 hy
    exact Ad (hrm v hv)
   ·rename_i h3
    rw[if_neg h3]
    split at hk
    ·rename_i h4
     rw[if_pos h4]
     simp only[Bool.and_eq_true] at hk
     have hm:=aS hk.1
     refine bG.cons (bS (by decide)) (bG.cons hn (bG.cons (bS (by decide)) ((bG.sep (bS (by decide)) fun x hx=>?_).app (kJ (aS hk.2) (by decide)))))
     obtain⟨e,he,rfl⟩:=List.mem_map.1 hx
     have:=hm e he
     unfold nY at this
     simp only[Bool.and_eq_true] at this
     exact bG.cons (jg this.1) (bG.cons (bS (by decide)) (tO this.2))
    ·rename_i h4
     rw[if_neg h4]
     split at hk
     ·rename_i h5
      rw[if_pos h5]
      exact (bG.words (by decide)).app (bG.cons hn (kJ (aS hk) (by decide)))
     ·rename_i h5
      rw[if_neg h5]
      split at hk
      ·unfold xQ at hk
       simp only[Bool.and_eq_true,decide_eq_true_eq] at hk
       obtain⟨k1,k2,k3,k4,k5,k6,k7,k8⟩:=hk
       unfold Hg
       refine bG.cons (bS (by decide)) ((bG.sep (bS (by decide)) fun x hx=>?_).app (bG.cons (bS (by decide)) (bG.cons hn (bG.app ?_ ((kJ (aS k3) (by decide)).app ((kJ (aS k4) (by decide)).app ((kJ (fun x hx=>qz (aS k5 x hx)) (by decide)).app ((kJ (fun x hx=>qz (aS k6 x hx)) (by decide)).app (bG.app ?_ ?_)))))))))
       ·obtain⟨i,hi,rfl⟩:=List.mem_map.1 hx
        exact CS (aS k1 i hi)
       ·split
        ·exact bG.nil
        ·rename_i hj
         exact bG.cons (bS (by decide)) (bG.cons (FB k2 hj) bG.nil)
       ·split
        ·exact bG.cons (bS (by decide)) bG.nil
        ·exact bG.nil
       ·split
        ·exact bG.nil
        ·rename_i hl
         exact bG.cons (bS (by decide)) (bG.cons (qQ _ 0 (by omega) k8.2) bG.nil)
      ·cases hk
end Go.Proofs.YtnidnipiihhnaaaGreatDoor
namespace Go.Proofs.YtnidnipiihhnaaaGreatDoor
open Go.RowKit Go.Shelf
set_option linter.unusedSimpArgs false
set_option linter.unusedVariables false
set_option maxRecDepth 20000
set_option maxHeartbeats 8000000
def qg (L:List Tk) (m:Int):List UInt8 × Int:=if 10<m then ([],10) else if 2000<(Lib.join (pV L) [32]).length then ([],2) else (Lib.join (pV L) [32],0)
def jy (x:Ex):List UInt8 × Int:=if aN x=true then qg (je x) (iM x) else ([],4)
theorem yN (g:Nat) (tb:Option Nat) (L:List Tk) (d m:Int) (w:World) (h:bY w g tb L d m) (hok : ∀t∈L,JB t) (hn:L.length≤10000000) :
  Calls Tryz.prog 22 #[.pointer (some ⟨g,0,none⟩)] w fun e w'=>e = .returned (.tuple #[.string (aj (qg L m).1),.int .i64 (qg L m).2])∧Below w.heap.size w w':=by
 obtain⟨v,hv,ho,_⟩:=h.lie
 have hT:=(qG ho).2
 obtain⟨va,vb,vc,rfl⟩:∃va vb vc,v = .slice va vb vc:=by
  rcases ho.2 with⟨rfl,_⟩ | ⟨_,_,_,rfl,_⟩
  ·exact⟨_,_,_,rfl⟩
  ·exact⟨_,_,_,rfl⟩
 have k:=ku hv
 have HW:=hid (AO w.heap.size _ L w h.tab (Nat.le_refl _) hT hok hn)
 unfold qg
 generalize Lib.join (pV L) [32]=T at HW ⊢
 clear h hv ho hT hok hn
 by_cases hm:10<m
 ·rw[if_pos hm]
  clear HW
  go_enter Tryz.func22,Tryz.ntmps22
  go_wp2
  exact bodyPost_ret (v:=.tuple #[.string ⟨#[]⟩,.int .i64 10]) (by simp[results,Tryz.results22,go_sem]) rfl ⟨rfl,Below.refl _ _⟩
 ·rw[if_neg hm]
  have hsz:(aj T).size=T.length:=rfl
  by_cases hl:2000<T.length
  ·rw[if_pos hl]
   have hl':((2000:Int)<((aj T).size:Int)):=by rw[hsz];omega
   clear hl hsz
   generalize aj T=S at HW hl'
   go_enter Tryz.func22,Tryz.ntmps22
   go_wp2_with fail
   refine HW.out.mono ?_
   rintro e w1 ⟨rfl,hb1⟩
   have HB:=hid hb1
   clear hb1 HW
   go_wp2
   exact bodyPost_ret (v:=.tuple #[.string ⟨#[]⟩,.int .i64 2]) (by simp[results,Tryz.results22,go_sem]) rfl ⟨rfl,HB.out⟩
  ·rw[if_neg hl]
   have hl' : ¬((2000:Int)<((aj T).size:Int)):=by rw[hsz];omega
   clear hl hsz
   dsimp only
   generalize aj T=S at HW hl' ⊢
   go_enter Tryz.func22,Tryz.ntmps22
   go_wp2_with fail
   refine HW.out.mono ?_
   rintro e w1 ⟨rfl,hb1⟩
   have HB:=hid hb1
   clear hb1 HW
   go_wp2
   exact bodyPost_ret (v:=.tuple #[.string S,.int .i64 0]) (by simp[results,Tryz.results22,go_sem]) rfl ⟨rfl,HB.out⟩
theorem Et (w:World) (h:j6 w):∃W,w.alloc (.cells #[.slice none 0 0,.int .i64 0,.int .i64 0] 59)=W∧Below w.heap.size w W∧w.heap.size<W.heap.size∧bY W w.heap.size none [] 0 0:=by
 obtain⟨W,hW,hbW,hzW,hcW⟩:=aY w (.cells #[.slice none 0 0,.int .i64 0,.int .i64 0] 59)
 exact⟨W,hW,hbW,hzW,⟨⟨_,hcW,World.ownsRow_nil _ _ _ _,rfl⟩,h.on hbW,h.lt⟩⟩
theorem lS (S:Nat→Prop) (x:Ex) (v:Value) (w:World) (hT:j6 w) (hR:oK x) (hx:iQ S w x v) (hz:aN x=true→nA x≤1000000) :
  Calls Tryz.prog 11 #[v] w fun e w'=>e = .returned (.tuple #[.string (aj (jy x).1),.int .i64 (jy x).2])∧Below w.heap.size w w':=by
 have HX:=hid hx
 obtain⟨k,op,tb,nm,vk,vn,vs,ys,aa,nn,cc,he,rfl,ha⟩:=hx
 obtain⟨W,hW,hbW,hzW,hcW⟩:=aY w (.cells #[.int .i64 k,.int .i64 op,.string (aj tb),.string (aj nm),.int .i64 vk,.int .i64 vn,.string (aj vs),.slice aa nn cc] 26)
 have k0:=aP hcW
 have HRE:=hid (pR S _ x _ W (Nat.lt_succ_self _) hR (HX.out.new hbW))
 have HB:=hid hbW
 have HC:=hid hcW
 have HTW:=hid (hT.on hbW)
 unfold jy
 clear hbW hcW ha he hT hR
 cases hr:aN x with
 |
  false =>
  rw[hr] at HRE
  rw[if_neg Bool.false_ne_true]
  clear hr hz
  go_enter Tryz.func11,Tryz.ntmps11
  go_wp2_with fail
  refine HRE.out.mono ?_
  rintro e w1 ⟨rfl,hb1⟩
  have HB1:=hid (HB.out.trans (hb1.mono HB.out.size))
  clear hb1 HRE
  go_wp2
  exact bodyPost_ret (v:=.tuple #[.string ⟨#[]⟩,.int .i64 4]) (by simp[results,Tryz.results11,go_sem]) rfl ⟨rfl,HB1.out⟩
 |
  true =>
  rw[hr] at HRE
  rw[if_pos rfl]
  obtain⟨hok,hex⟩:=jo hr
  have hz2:=hz hr
  unfold nA at hz2
  have hl:=ED (lD x)
  have hd:=Ir (lD x)
  have hgd:=Ci _ hok
  have hXW:=Gf (lD x) hok
  show Calls Tryz.prog 11 _ w fun e w'=>e = .returned (.tuple #[.string (aj (qg (lD x).tk (lD x).dp).1),.int .i64 (qg (lD x).tk (lD x).dp).2])∧_
  obtain⟨R,hR⟩:∃R,qg (lD x).tk ((lD x).dp:Int)=R:=⟨_,rfl⟩
  rw[hR]
  have HRR:=hid hR
  clear hR
  have HOK:Hid (∀t∈(lD x).tk,JB t):=hid (fun t ht=>(hgd t ht).ok)
  clear hgd hr hz hok
  go_enter Tryz.func11,Tryz.ntmps11
  go_wp2_with fail
  refine HRE.out.mono ?_
  rintro e w1 ⟨rfl,hb1⟩
  have hB1:=HB.out.trans (hb1.mono HB.out.size)
  obtain⟨V,hV,hbV,hzV,hwV⟩:=Et w1 (HTW.out.on hb1)
  have hlt1:w.heap.size<w1.heap.size:=Nat.lt_of_lt_of_le hzW hb1.size
  have k1:=aP ((hbV.block w.heap.size hlt1).trans ((hb1.block w.heap.size hzW).trans HC.out))
  have hxV:iQ (fun b=>b<w1.heap.size) V (lD x).ex (.agg #[.int .i64 k,.int .i64 op,.string (aj tb),.string (aj nm),.int .i64 vk,.int .i64 vn,.string (aj vs),.slice aa nn cc]):=by
   rw[hex]
   exact (HX.out.to (R:=fun _=>False) (T:=fun b=>b<w1.heap.size) (ay.aA hB1) (fun b _ hb=>⟨id,Nat.lt_of_lt_of_le hb hB1.size⟩)).new hbV
  have HE:=hid (hXW w1.heap.size none [] 0 0 V _ hwV hxV (by simp;omega) (by omega) (by omega) (by omega) (by omega))
  have HBV:=hid (hB1.trans (hbV.mono hB1.size))
  clear hb1 hB1 HRE hbV hwV hxV hXW
  go_wp2_with fail
  try rw[hV]
  refine HE.out.mono ?_
  rintro e w2 ⟨rfl,tb2,hw2,ht2,hf2⟩
  rw[List.nil_append] at hw2
  have e1:max (0:Int) (0+((lD x).dp:Int))=((lD x).dp:Int):=by omega
  rw[e1] at hw2
  have HS:=hid (yN _ _ _ _ _ w2 hw2 HOK.out (by omega))
  have HB2:Hid (Below w.heap.size w w2):=hid (HBV.out.trans (hf2.below (fun i hi=>by
   rcases hi with rfl | e
   ·omega
   ·cases e) (by omega)))
  clear hw2 ht2 hf2 HE e1
  rw[HRR.out] at HS
  go_wp2_with fail
  refine HS.out.mono ?_
  rintro e w3 ⟨rfl,hb3⟩
  have HB3:=hid (HB2.out.trans (hb3.mono HB2.out.size))
  clear hb3 HS
  go_wp2
  exact bodyPost_ret (v:=.tuple #[.string (aj R.1),.int .i64 R.2]) (by simp[results,Tryz.results11,go_sem]) rfl ⟨rfl,HB3.out⟩
end Go.Proofs.YtnidnipiihhnaaaGreatDoor
