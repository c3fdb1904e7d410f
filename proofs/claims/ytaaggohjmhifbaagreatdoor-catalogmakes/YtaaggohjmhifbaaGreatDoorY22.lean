/- Packed for the hand-in: WBack LBackL WGood -/
import Derived.Test.YtaaggohjmhifbaaGreatDoorY19
import Derived.Test.YtaaggohjmhifbaaGreatDoorY08
import Derived.Laws.StructEq
import Derived.Deep.QuietTactic
import Derived.BigQuiet
namespace Go.Proofs.YtaaggohjmhifbaaGreatDoor
set_option linter.unusedSimpArgs false
set_option linter.unusedVariables false
set_option maxHeartbeats 8000000
def xK:List (List UInt8):=[[78,79,84],[78,85,76,76],[40],[45]]
theorem I6 (t:Tm) (hok:t.ok):∃h X,t.tk=h::X∧∀s,iU h s=true→s∈xK:=by
 have fx : ∀u s:List UInt8,u∈xK→iU (aJ u) s=true→s∈xK:=fun u s hu h=>by
  rw[← xq (jB u) h];exact hu
 have hat : ∀(l:Nat) (a:Tm),(∃h X,a.tk=h::X∧∀s,iU h s=true→s∈xK)→∃h X,ji l a.lv a.tk=h::X∧∀s,iU h s=true→s∈xK:=fun l a ⟨h,X,e,hn⟩=>by
  unfold ji
  split
  ·exact⟨h,X,e,hn⟩
  ·exact⟨_,_,rfl,fun s=>fx [40] s (by decide)⟩
 have nob : ∀(k:Int) (x:List UInt8) (n p:Int) (s:List UInt8),k≠2→k≠5→iU ⟨k,x,n,p⟩ s=true→s∈xK:=fun k x n p s h2 h5 h=>by
  unfold iU at h
  simp[h2,h5] at h
 induction t with
 |
  val v =>
  simp only[Tm.tk,jS]
  split
  ·exact⟨_,_,rfl,fun s=>nob 4 _ _ _ s (by decide) (by decide)⟩
  ·split
   ·exact⟨_,_,rfl,fun s=>fx _ s (by decide)⟩
   ·split
    ·exact⟨_,_,rfl,fun s=>fx _ s (by decide)⟩
    ·exact⟨_,_,rfl,fun s=>nob 3 _ _ _ s (by decide) (by decide)⟩
 |
  col t n =>
  simp only[Tm.tk]
  split
  ·exact⟨_,_,rfl,fun s=>nob 1 _ _ _ s (by decide) (by decide)⟩
  ·exact⟨_,_,rfl,fun s=>nob 1 _ _ _ s (by decide) (by decide)⟩
 |
  op o a b ha hb =>
  obtain⟨h,X,e,hn⟩:=hat (AV o) a (ha hok.2.2.1)
  simp only[Tm.tk]
  rw[e];exact⟨_,_,rfl,hn⟩
 | not a ha=>exact⟨_,_,rfl,fun s=>fx _ s (by decide)⟩
 | neg a ha=>exact⟨_,_,rfl,fun s=>fx _ s (by decide)⟩
 |
  nul a ha =>
  obtain⟨h,X,e,hn⟩:=hat 4 a (ha hok)
  simp only[Tm.tk]
  rw[e];exact⟨_,_,rfl,hn⟩
 |
  nnul a ha =>
  obtain⟨h,X,e,hn⟩:=hat 4 a (ha hok)
  simp only[Tm.tk]
  rw[e];exact⟨_,_,rfl,hn⟩
theorem mF {e:Ex} (h:aK e=true) {F:Nat} (hF:(qg e).length≤F) (hd:G6 e≤10) (bp:Int) {rest:List Tk} (hs:Stops 0 rest):dG F (RR 0 bp (qg e++rest))=(e,RR 0 bp rest):=by
 obtain⟨h1,h2⟩:=lX h
 have:=Dx (pF e) h1 F hF hd bp rest hs
 rw[h2] at this
 exact this
theorem Ib {e:Ex} (h:aK e=true):∃x X,qg e=x::X∧∀s,iU x s=true→s∈xK:=I6 _ (lX h).1
theorem xU {x:Tk} (h : ∀s,iU x s=true→s∈xK) {s:List UInt8} (hs:s ∉ xK):iU x s=false:=by
 cases e:iU x s with
 | false=>rfl
 | true=>exact absurd (h s e) hs
theorem lg {l:List Nat} {n:Nat} (h:dJ l≤n):∀x∈l,x≤n:=by
 induction l with
 | nil=>simp
 |
  cons a l ih =>
  simp only[dJ,List.foldr_cons] at h
  intro x hx
  rcases List.mem_cons.1 hx with rfl | hx
  ·omega
  ·exact ih (by unfold dJ;omega) x hx
theorem yZ {α:Type} {xs:List α} {p:α→Bool} (h:aX xs 0 1 p=true):xs=[]∨∃x,xs=[x]∧p x=true:=by
 unfold aX at h
 simp only[Bool.and_eq_true,decide_eq_true_eq] at h
 match xs,h with
 | [],_=>exact .inl rfl
 | [x],h=>exact .inr ⟨x,rfl,by simpa using h.2⟩
 | _::_::_,h=>exact absurd h.1.2 (by simp)
theorem gG {α:Type} {xs:List α} {b:Nat} {p:α→Bool} (h:aX xs 1 b p=true):∃x l,xs=x::l∧l.length+1≤b∧∀y∈x::l,p y=true:=by
 unfold aX at h
 simp only[Bool.and_eq_true,decide_eq_true_eq,List.all_eq_true] at h
 match xs,h with
 | [],h=>exact absurd h.1.1 (by simp)
 | x::l,h=>exact⟨x,l,rfl,h.1.2,h.2⟩
theorem lN {read:Pa Ex} {xs:List Ex} {w:List UInt8} {ws:List (List UInt8)} {bp:Int} {rest:List Tk} (hl:xs=[]∨∃x,xs=[x]) (hr : ∀x∈xs,read (RR 0 bp (qg x++rest))=(x,RR 0 bp rest)) (hno:xs=[]→iU (rest.headD jl) w=false):bI read w ws (RR 0 bp (bX xs (w::ws)++rest))=(xs,RR 0 bp rest):=by
 unfold bI
 rcases hl with rfl | ⟨x,rfl⟩
 ·exact jo _ _ (hno rfl)
 ·have e:bX [x] (w::ws)++rest=aJ w::(au ws++(qg x++rest)):=by simp[bX,au]
  rw[e,jQ _ _ (jB w),aH (mO 0 bp _ ws),aH (hr x (by simp))]
  rfl
theorem Ea {d bp:Int} {ts:List Tk}:bH (RR d bp (aJ [44]::ts))=(true,RR d bp ts):=lU [44]
theorem FV {d bp:Int} {ts:List Tk} (h:iU (ts.headD jl) [44]=false):bH (RR d bp ts)=(false,RR d bp ts):=nH h
theorem kP {α:Type} {one:Pa α} {tk:α→List Tk} {bp:Int} {rest:List Tk} (hr:iU (rest.headD jl) [44]=false) {x:α} {xs:List α} {m:Nat} (hm:xs.length+1≤m) (hone : ∀y∈x::xs,∀ts,ts=rest∨(∃u,ts=aJ [44]::u)→one (RR 0 bp (tk y++ts))=(y,RR 0 bp ts)) :
  aR one bH m [] (RR 0 bp (bL (aJ [44]) ((x::xs).map tk)++rest))=(x::xs,RR 0 bp rest) :=
 oD (FV hr) xs x m [] hm hone (fun y _ ts=>Ea)
theorem sI (ts:List Tk):Stops 0 (aJ [44]::ts):=show ∀s∈jP 0,iU (aJ [44]) s=false by decide
theorem zX {c:Co} (h:gB c=true) (bp:Int) (ts:List Tk) (hs:iU (ts.headD jl) [78,79,84]=false∧iU (ts.headD jl) [85,78,73,81,85,69]=false):eX (RR 0 bp (jD c++ts))=(c,RR 0 bp ts):=by
 obtain⟨nm,k,nn,uq⟩:=c
 unfold gB at h
 simp only[Bool.and_eq_true,decide_eq_true_eq] at h
 unfold eX jD
 dsimp only
 rw[show cB nm::aJ (if k=1 then [73,78,84] else [84,69,88,84])::((if nn=true then au [[78,79,84],[78,85,76,76]] else [])++(if uq=true then au [[85,78,73,81,85,69]] else []))++ts=cB nm::aJ (if k=1 then [73,78,84] else [84,69,88,84])::((if nn=true then au [[78,79,84],[78,85,76,76]] else [])++((if uq=true then au [[85,78,73,81,85,69]] else [])++ts)) by simp]
 rw[aH (fu 0 bp nm _)]
 have hk : ∀T,aF gJ (RR 0 bp (aJ (if k=1 then [73,78,84] else [84,69,88,84])::T))=(k,RR 0 bp T):=fun T=>by
  rcases h.2 with rfl | rfl<;>rfl
 rw[aH (hk _),if_neg (by rcases h.2 with rfl | rfl<;>decide),aH (show aT () (RR 0 bp _)=_ from rfl)]
 have hq:fD [85,78,73,81,85,69] (RR 0 bp ((if uq=true then au [[85,78,73,81,85,69]] else [])++ts))=(uq,RR 0 bp ts):=by
  cases uq with
  | true=>exact lU _
  | false=>exact nH hs.2
 have hn:gI [78,79,84] (aB (cK [78,85,76,76]) fun _=>aT true) (aT false) (RR 0 bp ((if nn=true then au [[78,79,84],[78,85,76,76]] else [])++((if uq=true then au [[85,78,73,81,85,69]] else [])++ts)))=(nn,RR 0 bp ((if uq=true then au [[85,78,73,81,85,69]] else [])++ts)):=by
  cases nn with
  |
   true =>
   show gI _ _ _ (RR 0 bp (aJ [78,79,84]::aJ [78,85,76,76]::_))=_
   rw[jQ _ _ (jB _),aH (jm _)]
   rfl
  |
   false =>
   refine jo _ _ ?_
   cases uq with
   | true=>exact eP (by decide)
   | false=>exact hs.1
 rw[aH hn,aH hq]
 rfl
theorem Eb {l:List Vl} (h:nG l=true) (bp:Int) (ts:List Tk):fI (RR 0 bp (qD l++ts))=(l,RR 0 bp ts):=by
 obtain⟨x,xs,rfl,hm,hp⟩:=gG h
 unfold fI qD
 rw[show aJ [40]::(bL (aJ [44]) ((x::xs).map jS)++[aJ [41]])++ts=aJ [40]::(bL (aJ [44]) ((x::xs).map jS)++aJ [41]::ts) by simp]
 rw[aH (jm _),aH (kP (one:=jk) (tk:=jS) (rest:=aJ [41]::ts) (eP (by decide)) hm (fun y hy T _=>zL (hp y hy) 0 bp T)),aH (jm _)]
 rfl
theorem FK {F:Nat} {s:Se} (h:mR s=true) (hF:(qA s).length≤F) (hd:G6 s.e≤10) (bp:Int) (ts:List Tk) (hs:Stops 0 ts):nR (dG F) (RR 0 bp (qA s++ts))=(s,RR 0 bp ts):=by
 obtain⟨nm,e⟩:=s
 unfold mR at h
 simp only[Bool.and_eq_true] at h
 unfold nR qA
 rw[show cB nm::aJ [61]::qg e++ts=cB nm::aJ [61]::(qg e++ts) from rfl]
 rw[aH (fu 0 bp nm _),aH (jm _),aH (mF h.2 (by simp[qA] at hF;omega) hd bp hs)]
 rfl
theorem Di {F:Nat} {i:It} (h:rJ i=true) (hF:(z8 i).length≤F) (hd:KA i≤10) (bp:Int) (ts:List Tk) (hs:Stops 0 ts):dV (dG F) (RR 0 bp (z8 i++ts))=(i,RR 0 bp ts):=by
 obtain⟨k,xs⟩:=i
 unfold rJ at h
 dsimp only at h
 unfold dV
 by_cases h1:k=1
 ·subst h1
  rw[if_pos (.inl rfl)] at h
  obtain rfl:xs=[]:=List.eq_nil_of_length_eq_zero (by simpa using h)
  exact jQ _ _ (jB _)
 ·by_cases h3:k=3
  ·subst h3
   rw[if_pos (.inr rfl)] at h
   obtain rfl:xs=[]:=List.eq_nil_of_length_eq_zero (by simpa using h)
   show gI _ _ _ (RR 0 bp (aJ [67,79,85,78,84]::aJ [40]::aJ [42]::aJ [41]::ts))=_
   rw[jo (ts:=aJ [67,79,85,78,84]::aJ [40]::aJ [42]::aJ [41]::ts) _ _ (eP (by decide)),aH (show aF eu _=(4,RR 0 bp (aJ [40]::aJ [42]::aJ [41]::ts)) from rfl),if_neg (by decide),aH (jm _),if_pos rfl,aH (lU _),if_pos rfl,aH (show aT _ (RR 0 bp (aJ [41]::ts))=_ from rfl),aH (jm _)]
   rfl
  ·rw[if_neg (by omega)] at h
   split at h
   ·rename_i hk
    obtain⟨x,l,rfl,hl,hp⟩:=gG h
    obtain rfl:l=[]:=List.eq_nil_of_length_eq_zero (by omega)
    have hx:=hp x (by simp)
    have hdx:G6 x≤10:=lg hd _ (by simp)
    obtain⟨y,Y,hY,hb⟩:=Ib hx
    have hch : ∀T,aF eu (RR 0 bp (qg x++T))=(0,RR 0 bp (qg x++T)):=fun T=>by
     refine oG _ (fun c hc=>?_)
     rw[hY]
     exact xU hb (by revert c;decide)
    by_cases h2:k=2
    ·subst h2
     have hF':(qg x).length≤F:=by simpa [z8] using hF
     show gI _ _ _ (RR 0 bp (qg x++ts))=_
     rw[jo _ _ (by rw[hY];exact xU hb (by decide)),aH (hch ts),if_pos rfl,aH (mF hx hF' hdx bp hs)]
     rfl
    ·have hk4:k=4∨k=5∨k=6∨k=7:=by omega
     have e:z8 ⟨k,[x]⟩++ts=aJ (JY k)::aJ [40]::(qg x++aJ [41]::ts):=by
      unfold z8
      dsimp only
      rw[if_neg h1,if_neg h2,if_neg h3]
      simp[au]
     have hF':(qg x).length≤F:=by
      have:=congrArg List.length e
      simp only[List.length_append,List.length_cons] at this
      omega
     rw[e]
     have hW : ∀T,gI [42] (aT (⟨1,[]⟩:It)) (aB (aF eu) fun k=>if k=0 then aB (dG F) fun e=>aT ⟨2,[e]⟩ else
       aB (cK [40]) fun _=>aB (if k=4 then fD [42] else aT false) fun b=>aB (if b=true then aT ⟨3,[]⟩ else aB (dG F) fun e=>aT ⟨k,[e]⟩) fun i=>aB (cK [41]) fun _=>aT i) (RR 0 bp (aJ (JY k)::T)) =
       (aB (cK [40]) fun _=>aB (if k=4 then fD [42] else aT false) fun b=>aB (if b=true then aT ⟨3,[]⟩ else aB (dG F) fun e=>aT ⟨k,[e]⟩) fun i=>aB (cK [41]) fun _=>aT i) (RR 0 bp T):=fun T=>by
      rcases hk4 with rfl | rfl | rfl | rfl
      ·rw[jo (ts:=aJ (JY 4)::T) _ _ (eP (by decide)),aH (show aF eu _=(4,RR 0 bp T) from rfl),if_neg (by decide)]
      ·rw[jo (ts:=aJ (JY 5)::T) _ _ (eP (by decide)),aH (show aF eu _=(5,RR 0 bp T) from rfl),if_neg (by decide)]
      ·rw[jo (ts:=aJ (JY 6)::T) _ _ (eP (by decide)),aH (show aF eu _=(6,RR 0 bp T) from rfl),if_neg (by decide)]
      ·rw[jo (ts:=aJ (JY 7)::T) _ _ (eP (by decide)),aH (show aF eu _=(7,RR 0 bp T) from rfl),if_neg (by decide)]
     rw[hW,aH (jm _)]
     have hsk:(if k=4 then fD [42] else aT false) (RR 0 bp (qg x++aJ [41]::ts))=(false,RR 0 bp (qg x++aJ [41]::ts)):=by
      split
      ·exact nH (by rw[hY];exact xU hb (by decide))
      ·rfl
     rw[aH hsk,if_neg (by decide)]
     have hx2:(aB (dG F) fun e=>aT (⟨k,[e]⟩:It)) (RR 0 bp (qg x++aJ [41]::ts))=(⟨k,[x]⟩,RR 0 bp (aJ [41]::ts)):=by
      rw[aH (mF hx hF' hdx bp (ni 0 ts))]
      rfl
     rw[aH hx2,aH (jm _)]
     rfl
   ·cases h
theorem wu {e:Ex} (h:fJ e=true) (bp:Int) (ts:List Tk) (hs:iU (ts.headD jl) [46]=false):fq (RR 0 bp (qg e++ts))=(e,RR 0 bp ts):=by
 unfold fJ at h
 simp only[Bool.and_eq_true,decide_eq_true_eq] at h
 obtain⟨h1,h2⟩:=lX h.2
 unfold qg
 cases ht:pF e with
 |
  col t n =>
  rw[ht] at h2
  rw[← h2]
  show fq (RR 0 bp ((if t=[] then [cB n] else [cB t,aJ [46],cB n])++ts))=(lq t n,_)
  unfold fq
  by_cases e0:t=[]
  ·subst e0
   rw[if_pos rfl]
   show aB nameP _ (RR 0 bp (cB n::ts))=_
   rw[aH (fu 0 bp n ts),jo _ _ hs]
   rfl
  ·rw[if_neg e0]
   show aB nameP _ (RR 0 bp (cB t::aJ [46]::cB n::ts))=_
   rw[aH (fu 0 bp t _),jQ _ _ (jB _)]
   rfl
 | _=>rw[ht] at h2;rw[← h2] at h;exact absurd h.1 (by simp[wV,Tm.ex,zA,oZ,jE])
theorem vM {s:St} (h:mQ s=true):s=gZ 0:=by
 unfold mQ at h
 simp only[decide_eq_true_eq] at h
 obtain⟨k,tb,cols,prim,rows,sets,items,jn,on,wh,gr,od,desc,lim⟩:=s
 dsimp only at h
 obtain⟨h1,h2,h3,h4,h5,h6,h7,h8,h9,h10,h11,h12,h13,h14⟩:=h
 subst h1 h2 h4 h8 h13 h14
 obtain rfl:=List.eq_nil_of_length_eq_zero h3
 obtain rfl:=List.eq_nil_of_length_eq_zero h5
 obtain rfl:=List.eq_nil_of_length_eq_zero h6
 obtain rfl:=List.eq_nil_of_length_eq_zero h7
 obtain rfl:=List.eq_nil_of_length_eq_zero h9
 obtain rfl:=List.eq_nil_of_length_eq_zero h10
 obtain rfl:=List.eq_nil_of_length_eq_zero h11
 obtain rfl:=List.eq_nil_of_length_eq_zero h12
 rfl
theorem yH {F:Nat} {tb prim:List UInt8} {cols:List Co} (h:aX cols 1 8 gB=true) (bp:Int) (rest:List Tk) (ex:Pa Ex) :
  dw (RR 0 bp (aJ [84,65,66,76,69]::cB tb::aJ [40]::(bL (aJ [44]) (cols.map jD)++(au [[44],[80,82,73,77,65,82,89],[75,69,89],[40]]++cB prim::(au [[41],[41]]++rest)))))=({ gZ 1 with tb:=tb,cols:=cols,prim:=prim },RR 0 bp rest):=by
 obtain⟨x,xs,rfl,hm,hp⟩:=gG h
 unfold dw
 rw[aH (jm _),aH (fu 0 bp tb _),aH (jm _)]
 have hname : ∀(c:Co),c∈x::xs→∀T:List Tk,bM (RR 0 bp (aJ [44]::(jD c++T)))=(true,RR 0 bp (jD c++T)):=fun c hc T=>by
  unfold bM
  rw[jQ _ _ (jB _),aH (show Ld [80,82,73,77,65,82,89] (RR 0 bp (jD c++T))=(false,RR 0 bp (jD c++T)) from rfl)]
  rfl
 have hend:bM (RR 0 bp (au [[44],[80,82,73,77,65,82,89],[75,69,89],[40]]++cB prim::(au [[41],[41]]++rest)))=(false,RR 0 bp (au [[80,82,73,77,65,82,89],[75,69,89],[40]]++cB prim::(au [[41],[41]]++rest))):=rfl
 rw[aH (oD (one:=eX) (tk:=jD) hend xs x 8 [] hm (fun y hy T hT=>zX (hp y hy) bp T (by
  rcases hT with rfl | ⟨u,rfl⟩
  ·exact⟨eP (by decide),eP (by decide)⟩
  ·exact⟨eP (by decide),eP (by decide)⟩)) (fun y hy T=>hname y (List.mem_cons_of_mem _ hy) T)),aH (mO 0 bp _ _),aH (fu 0 bp prim _),aH (mO 0 bp _ _)]
 rfl
theorem tZ {α:Type} (sep:Tk) (tk:α→List Tk):∀(l:List α) (x:α),x∈l→(tk x).length≤(bL sep (l.map tk)).length
 |
  y::l,x,hx=>by
  have h2 : ∀(l:List α),x∈l→(tk x).length≤((l.map tk).flatMap fun y=>sep::y).length:=fun l=>by
   induction l with
   | nil=>intro h;cases h
   |
    cons z l ih =>
    intro h
    simp only[List.map_cons,List.flatMap_cons,List.length_append,List.length_cons]
    rcases List.mem_cons.1 h with rfl | h
    ·omega
    ·have:=ih h;omega
  simp only[List.map_cons,bL,List.length_append]
  rcases List.mem_cons.1 hx with rfl | hx
  ·omega
  ·have:=h2 l hx;omega
theorem oJ {xs:List Ex} {ws:List (List UInt8)} {x:Ex} (hx:x∈xs):(qg x).length≤(bX xs ws).length:=by
 unfold bX
 induction xs with
 | nil=>cases hx
 |
  cons y l ih =>
  simp only[List.flatMap_cons,List.length_append]
  rcases List.mem_cons.1 hx with rfl | hx
  ·omega
  ·have:=ih hx;omega
theorem iP {α:Type} {xs:List α} {p:α→Bool} (h:aX xs 0 1 p=true):xs=[]∨∃x,xs=[x]:=by
 rcases yZ h with h | ⟨x,h,_⟩
 ·exact .inl h
 ·exact .inr ⟨x,h⟩
theorem bC {α:Type} {xs:List α} {a b:Nat} {p:α→Bool} (h:aX xs a b p=true):∀x∈xs,p x=true:=by
 unfold aX at h
 simp only[Bool.and_eq_true,List.all_eq_true] at h
 exact h.2
theorem yR {F:Nat} {tb:List UInt8} {sets:List Se} {wh:List Ex} (h:aX sets 1 8 mR=true) (hw:aX wh 0 1 aK=true) (hF:(bL (aJ [44]) (sets.map qA)).length≤F) (hF2:(bX wh [[87,72,69,82,69]]).length≤F) (hd : ∀x∈sets,G6 x.e≤10) (hd2:mY wh≤10) (bp:Int) (rest:List Tk) (hs:mX rest) :
  dz (dG F) (RR 0 bp (cB tb::aJ [83,69,84]::(bL (aJ [44]) (sets.map qA)++(bX wh [[87,72,69,82,69]]++rest))))=({ gZ 4 with tb:=tb,sets:=sets,wh:=wh },RR 0 bp rest):=by
 obtain⟨x,xs,rfl,hm,hp⟩:=gG h
 unfold dz
 have hst:Stops 0 (bX wh [[87,72,69,82,69]]++rest)∧iU ((bX wh [[87,72,69,82,69]]++rest).headD jl) [44]=false:=by
  rcases yZ hw with rfl | ⟨y,rfl,_⟩
  ·exact⟨hs.stops,hs.no (by decide)⟩
  ·exact⟨show ∀s∈jP 0,iU (aJ [87,72,69,82,69]) s=false by decide,eP (by decide)⟩
 rw[aH (fu 0 bp tb _),aH (jm _),aH (kP (one:=nR (dG F)) (tk:=qA) hst.2 hm (fun y hy T hT=>FK (hp y hy) (Nat.le_trans (tZ (aJ [44]) qA _ y hy) hF) (hd y hy) bp T (by
  rcases hT with rfl | ⟨u,rfl⟩
  ·exact hst.1
  ·exact sI u)))]
 rw[aH (lN (iP hw) (fun x hx=>mF (bC hw x hx) (Nat.le_trans (oJ hx) hF2) (lg hd2 _ (List.mem_map.2 ⟨x,hx,rfl⟩)) bp hs.stops) (fun _=>hs.no (by decide)))]
 rfl
theorem zZ {F:Nat} {tb:List UInt8} {wh:List Ex} (hw:aX wh 0 1 aK=true) (hF2:(bX wh [[87,72,69,82,69]]).length≤F) (hd2:mY wh≤10) (bp:Int) (rest:List Tk) (hs:mX rest) :
  fH (dG F) (RR 0 bp (aJ [70,82,79,77]::cB tb::(bX wh [[87,72,69,82,69]]++rest)))=({ gZ 5 with tb:=tb,wh:=wh },RR 0 bp rest):=by
 unfold fH
 rw[aH (jm _),aH (fu 0 bp tb _)]
 rw[aH (lN (iP hw) (fun x hx=>mF (bC hw x hx) (Nat.le_trans (oJ hx) hF2) (lg hd2 _ (List.mem_map.2 ⟨x,hx,rfl⟩)) bp hs.stops) (fun _=>hs.no (by decide)))]
 rfl
theorem yA {tb:List UInt8} {rows:List (List Vl)} (h:aX rows 1 16 nG=true) (bp:Int) (rest:List Tk) (hs:mX rest) :
  dD (RR 0 bp (aJ [73,78,84,79]::cB tb::aJ [86,65,76,85,69,83]::(bL (aJ [44]) (rows.map qD)++rest)))=({ gZ 3 with tb:=tb,rows:=rows },RR 0 bp rest):=by
 obtain⟨x,xs,rfl,hm,hp⟩:=gG h
 unfold dD
 rw[aH (jm _),aH (fu 0 bp tb _),aH (jm _),aH (kP (one:=fI) (tk:=qD) (hs.no (by decide)) hm (fun y hy T _=>Eb (hp y hy) bp T))]
 rfl
end Go.Proofs.YtaaggohjmhifbaaGreatDoor
namespace Go.Proofs.YtaaggohjmhifbaaGreatDoor
open Go.RowKit Go.Shelf
set_option linter.unusedSimpArgs false
set_option linter.unusedVariables false
set_option maxRecDepth 20000
set_option maxHeartbeats 8000000
theorem jf.ok {t:Tk} (h:jf t):KS t:=⟨h.len,h.n0,h.n1⟩
theorem yE {s:List UInt8} (h:(tokens s).1=0):s.length≤2000∧(tokens s).2.1=0∧∃L,(tokens s).2.2=L++[⟨6,[],0,(s.length:Int)⟩]∧L.length≤s.length∧∀t∈L,jf t:=by
 have hl : ¬2000<s.length:=fun hl=>by rw[tokens,if_pos hl] at h;exact absurd (show (2:Nat)=0 from h) (by decide)
 have e:tokens s=toks (s.length+1) s 0:=by rw[tokens,if_neg hl]
 rw[e] at h ⊢
 refine ⟨by omega,(lS _ _ _).2 h,?_⟩
 obtain⟨L,h1,h2,h3⟩:=qZ (s.length+1) s 0 (by omega) h
 exact⟨L,by rw[h1,Nat.zero_add],h2,h3⟩
theorem Ah {s:List UInt8} (h:(tokens s).1≠0):(tokens s).2.2=[]:=by
 unfold tokens at h ⊢
 split
 ·rfl
 ·rename_i hl
  rw[if_neg hl] at h
  exact (lS _ _ _).1 h
theorem EX {L:List Tk} (h : ∀t∈L,jf t) (e:Tk) (he:e.k=6):oh (L++[e])=L.map wr:=by
 rw[vw,if_pos he]
 unfold oh
 rw[List.filter_eq_self.2]
 intro t ht
 have:=(h t ht).k6
 simpa using this
end Go.Proofs.YtaaggohjmhifbaaGreatDoor
namespace Go.Proofs.YtaaggohjmhifbaaGreatDoor
set_option linter.unusedSimpArgs false
set_option linter.unusedVariables false
set_option maxHeartbeats 8000000
theorem HZ {s:List UInt8} (h1:skip false s=0) (h2:gH s=(0,aJ s,s.length)):jf (aJ s):=by
 have:=vv h1 h2 0
 have e:(⟨(aJ s).k,(aJ s).s,(aJ s).n,0⟩:Tk)=aJ s:=by unfold aJ;split<;>rfl
 rw[e] at this
 exact this
def KC:List (List UInt8):=[[40],[41],[44],[59],[46],[42],[43],[45],[47],[37],[61],[60],[62],[60,62],[60,61],[62,61],[65,78,68],[66,89],[67,79,85,78,84],[67,82,69,65,84,69],[68,69,76,69,84,69],[68,69,83,67],[68,82,79,80],[70,82,79,77],[71,82,79,85,80],[73,78,83,69,82,84],[73,78,84],[73,78,84,79],[73,83],[74,79,73,78],[75,69,89],[76,73,77,73,84],[77,65,88],[77,73,78],[78,79,84],[78,85,76,76],[79,78],[79,82],[79,82,68,69,82],[80,82,73,77,65,82,89],[83,69,76,69,67,84],[83,69,84],[83,85,77],[84,65,66,76,69],[84,69,88,84],[85,78,73,81,85,69],[85,80,68,65,84,69],[86,65,76,85,69,83],[87,72,69,82,69]]
theorem Gt : ∀s∈KC,jf (aJ s):=by
 unfold KC
 simp only[List.forall_mem_cons]
 refine ⟨?_,?_,?_,?_,?_,?_,?_,?_,?_,?_,?_,?_,?_,?_,?_,?_,?_,?_,?_,?_,?_,?_,?_,?_,?_,?_,?_,?_,?_,?_,?_,?_,?_,?_,?_,?_,?_,?_,?_,?_,?_,?_,?_,?_,?_,?_,?_,?_,?_,?_⟩<;>first | (refine HZ ?_ ?_<;>rfl) | (intro x hx;cases hx)
theorem bO {s:List UInt8} (h:s∈KC):jf (aJ s):=Gt s h
theorem iO {s:List UInt8} (h:aQ s=true):jf (cB s):=by
 unfold aQ at h
 simp only[Bool.and_eq_true,decide_eq_true_eq] at h
 obtain⟨h1,h2,h3,h4⟩:=h
 cases s with
 | nil=>simp at h1
 |
  cons c r =>
  have h3:bK eY c=true:=h3
  have hc:gH (c::r)=(0,cB (c::r),(c::r).length):=by
   unfold gH
   dsimp only
   rw[if_pos h3]
   unfold iq
   rw[h4,List.drop_length,List.take_length,if_neg (by decide),if_neg (by omega)]
   rfl
  have hs:skip false (c::r)=0:=by
   rw[skip,if_neg ?_]
   ·cases r with
    | nil=>rw[if_neg (by simp)]
    |
     cons d r' =>
     rw[if_neg ?_]
     rintro⟨rfl,_⟩
     exact absurd (show bK eY 45=true from h3) (by decide)
   ·intro hb
    have : ∀c∈l8,bK eY c=false:=by decide
    rw[this c (by simpa [bK] using hb)] at h3
    cases h3
  exact vv hs hc 0
def bA (ts:List Tk):Prop:=∀t∈ts,jf t
theorem bA.nil:bA []:=fun t h=>by cases h
theorem bA.cons {t:Tk} {ts:List Tk} (h:jf t) (hs:bA ts):bA (t::ts):=fun x hx=>by
 rcases List.mem_cons.1 hx with rfl | hx
 ·exact h
 ·exact hs x hx
theorem bA.app {a b:List Tk} (h:bA a) (hs:bA b):bA (a++b):=fun x hx=>by
 rcases List.mem_append.1 hx with hx | hx
 ·exact h x hx
 ·exact hs x hx
theorem bA.words {l:List (List UInt8)} (h : ∀s∈l,s∈KC):bA (au l):=fun x hx=>by
 obtain⟨s,hs,rfl⟩:=List.mem_map.1 hx
 exact bO (h s hs)
theorem bA.sep {sep:Tk} {l:List (List Tk)} (hs:jf sep) (h : ∀x∈l,bA x):bA (bL sep l):=by
 cases l with
 | nil=>exact bA.nil
 |
  cons x l =>
  refine (h x (by simp)).app (fun t ht=>?_)
  obtain⟨y,hy,ht⟩:=List.mem_flatMap.1 ht
  exact bA.cons hs (h y (by simp[hy])) t ht
theorem bA.at' {l lv:Nat} {ts:List Tk} (h:bA ts):bA (ji l lv ts):=by
 unfold ji
 split
 ·exact h
 ·exact bA.cons (bO (by decide)) (h.app (bA.cons (bO (by decide)) bA.nil))
theorem yx {v:Vl} (hv:dL v=true):bA (jS v):=by
 unfold jS
 rcases qI hv with⟨h1,h2,h3⟩ | ⟨h1,h2,h3⟩ | ⟨h1,h2,h3,h4⟩
 ·rw[if_pos h1]
  exact bA.cons (vZ v.s 0 h3) bA.nil
 ·rw[if_neg (by omega),if_pos h1]
  exact bA.cons (bO (by decide)) bA.nil
 ·rw[if_neg (by omega),if_neg (by omega)]
  split
  ·exact bA.cons (bO (by decide)) (bA.cons (qF _ 0 (by omega) (by omega)) bA.nil)
  ·exact bA.cons (qF _ 0 (by omega) (by omega)) bA.nil
theorem Ka (o:Int) (h1:1≤o) (h2:o≤13):oV o∈KC:=by
 rcases uH o h1 h2 with rfl | rfl | rfl | rfl | rfl | rfl | rfl | rfl | rfl | rfl | rfl | rfl | rfl<;>decide
theorem Hf (t:Tm) (h:t.ok):bA t.tk:=by
 induction t with
 | val v=>exact yx h
 |
  col a b =>
  simp only[Tm.tk]
  split
  ·exact bA.cons (iO h.1) bA.nil
  ·rename_i ha
   exact bA.cons (iO (h.2.resolve_left ha)) (bA.cons (bO (by decide)) (bA.cons (iO h.1) bA.nil))
 | op o a b ha hb=>exact (ha h.2.2.1).at'.app (bA.cons (bO (Ka o h.1 h.2.1)) (hb h.2.2.2).at')
 | not a ha=>exact bA.cons (bO (by decide)) (ha h.2).at'
 | neg a ha=>exact bA.cons (bO (by decide)) (ha h).at'
 | nul a ha=>exact (ha h).at'.app (bA.cons (bO (by decide)) (bA.cons (bO (by decide)) bA.nil))
 | nnul a ha=>exact (ha h).at'.app (bA.cons (bO (by decide)) (bA.cons (bO (by decide)) (bA.cons (bO (by decide)) bA.nil)))
theorem xw {e:Ex} (h:aK e=true):bA (qg e):=Hf _ (lX h).1
theorem jY {xs:List Ex} {ws:List (List UInt8)} (h : ∀x∈xs,aK x=true) (hw : ∀s∈ws,s∈KC):bA (bX xs ws):=fun t ht=>by
 obtain⟨x,hx,ht⟩:=List.mem_flatMap.1 ht
 exact ((bA.words hw).app (xw (h x hx))) t ht
theorem pG {e:Ex} (h:fJ e=true):aK e=true:=by
 unfold fJ at h
 simp only[Bool.and_eq_true] at h
 exact h.2
theorem Dq {i:It} (h:rJ i=true):bA (z8 i):=by
 unfold rJ at h
 unfold z8
 by_cases h1:i.k=1
 ·rw[if_pos h1];exact bA.cons (bO (by decide)) bA.nil
 ·rw[if_neg h1]
  by_cases h3:i.k=3
  ·rw[if_neg (by omega),if_pos h3];exact bA.words (by decide)
  ·rw[if_neg (by omega)] at h
   split at h
   ·rename_i hk
    obtain⟨x,l,hx,_,hp⟩:=gG h
    have hg:=xw (hp x (by simp))
    rw[hx]
    split
    ·exact hg
    ·refine (bA.words ?_).app (hg.app (bA.cons (bO (by decide)) bA.nil))
     have:i.k=4∨i.k=5∨i.k=6∨i.k=7:=by omega
     rcases this with e | e | e | e<;>rw[e]<;>decide
   ·cases h
theorem F4 {s:List UInt8} (h:qW s=true) (hs:s≠[]):jf (cB s):=by
 unfold qW at h
 simp only[Bool.or_eq_true,decide_eq_true_eq] at h
 exact iO (h.resolve_left hs)
theorem uO {s:St} (h:aM s=true):bA (kW s):=by
 unfold aM at h
 simp only[Bool.and_eq_true] at h
 obtain⟨hk,ht,_⟩:=h
 have hn:=iO ht
 unfold lu at hk
 unfold kW
 split at hk
 ·rename_i h1
  rw[if_pos h1]
  simp only[Bool.and_eq_true] at hk
  have hm:=bC hk.1
  refine (bA.words (by decide)).app (bA.cons hn (bA.cons (bO (by decide)) ((bA.sep (bO (by decide)) fun x hx=>?_).app ((bA.words (by decide)).app (bA.cons (iO hk.2) (bA.words (by decide)))))))
  obtain⟨c,hc,rfl⟩:=List.mem_map.1 hx
  have hcb:=hm c hc
  unfold gB at hcb
  simp only[Bool.and_eq_true] at hcb
  refine bA.cons (iO hcb.1) (bA.cons (bO (by split<;>decide)) (bA.app ?_ ?_))
  ·split
   ·exact bA.words (by decide)
   ·exact bA.nil
  ·split
   ·exact bA.words (by decide)
   ·exact bA.nil
 ·rename_i h1
  rw[if_neg h1]
  split at hk
  ·rename_i h2
   rw[if_pos h2]
   exact (bA.words (by decide)).app (bA.cons hn bA.nil)
  ·rename_i h2
   rw[if_neg h2]
   split at hk
   ·rename_i h3
    rw[if_pos h3]
    have hm:=bC hk
    refine (bA.words (by decide)).app (bA.cons hn (bA.cons (bO (by decide)) (bA.sep (bO (by decide)) fun x hx=>?_)))
    obtain⟨r,hr,rfl⟩:=List.mem_map.1 hx
    have hrm:=bC (hm r hr)
    refine bA.cons (bO (by decide)) ((bA.sep (bO (by decide)) fun y hy=>?_).app (bA.cons (bO (by decide)) bA.nil))
    obtain⟨v,hv,rfl⟩:=List.mem_map.1 hy
    exact yx (hrm v hv)
   ·rename_i h3
    rw[if_neg h3]
    split at hk
    ·rename_i h4
     rw[if_pos h4]
     simp only[Bool.and_eq_true] at hk
     have hm:=bC hk.1
     refine bA.cons (bO (by decide)) (bA.cons hn (bA.cons (bO (by decide)) ((bA.sep (bO (by decide)) fun x hx=>?_).app (jY (bC hk.2) (by decide)))))
     obtain⟨e,he,rfl⟩:=List.mem_map.1 hx
     have:=hm e he
     unfold mR at this
     simp only[Bool.and_eq_true] at this
     exact bA.cons (iO this.1) (bA.cons (bO (by decide)) (xw this.2))
    ·rename_i h4
     rw[if_neg h4]
     split at hk
     ·rename_i h5
      rw[if_pos h5]
      exact (bA.words (by decide)).app (bA.cons hn (jY (bC hk) (by decide)))
     ·rename_i h5
      rw[if_neg h5]
      split at hk
      ·unfold Af at hk
       simp only[Bool.and_eq_true,decide_eq_true_eq] at hk
       obtain⟨k1,k2,k3,k4,k5,k6,k7,k8⟩:=hk
       unfold Km
       refine bA.cons (bO (by decide)) ((bA.sep (bO (by decide)) fun x hx=>?_).app (bA.cons (bO (by decide)) (bA.cons hn (bA.app ?_ ((jY (bC k3) (by decide)).app ((jY (bC k4) (by decide)).app ((jY (fun x hx=>pG (bC k5 x hx)) (by decide)).app ((jY (fun x hx=>pG (bC k6 x hx)) (by decide)).app (bA.app ?_ ?_)))))))))
       ·obtain⟨i,hi,rfl⟩:=List.mem_map.1 hx
        exact Dq (bC k1 i hi)
       ·split
        ·exact bA.nil
        ·rename_i hj
         exact bA.cons (bO (by decide)) (bA.cons (F4 k2 hj) bA.nil)
       ·split
        ·exact bA.cons (bO (by decide)) bA.nil
        ·exact bA.nil
       ·split
        ·exact bA.nil
        ·rename_i hl
         exact bA.cons (bO (by decide)) (bA.cons (qF _ 0 (by omega) k8.2) bA.nil)
      ·cases hk
end Go.Proofs.YtaaggohjmhifbaaGreatDoor
