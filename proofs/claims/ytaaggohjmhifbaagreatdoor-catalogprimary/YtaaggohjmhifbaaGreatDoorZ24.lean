/- Packed for the hand-in: WBack LBackL WGood WTop -/
import Derived.Test.YtaaggohjmhifbaaGreatDoorZ17
import Derived.Test.YtaaggohjmhifbaaGreatDoorZ07
import Derived.Laws.StructEq
import Derived.Deep.QuietTactic
import Derived.BigQuiet
import Derived.Test.YtaaggohjmhifbaaGreatDoorZ19
import Derived.Test.YtaaggohjmhifbaaGreatDoorZ20
import Derived.Test.YtaaggohjmhifbaaGreatDoorZ23
namespace Go.Proofs.YtaaggohjmhifbaaGreatDoor
set_option linter.unusedSimpArgs false
set_option linter.unusedVariables false
set_option maxHeartbeats 8000000
def yD:List (List UInt8):=[[78,79,84],[78,85,76,76],[40],[45]]
theorem Jl (t:Tm) (hok:t.ok):∃h X,t.tk=h::X∧∀s,jk h s=true→s∈yD:=by
 have fx : ∀u s:List UInt8,u∈yD→jk (aH u) s=true→s∈yD:=fun u s hu h=>by
  rw[← xW (jN u) h];exact hu
 have hat : ∀(l:Nat) (a:Tm),(∃h X,a.tk=h::X∧∀s,jk h s=true→s∈yD)→∃h X,fU l a.lv a.tk=h::X∧∀s,jk h s=true→s∈yD:=fun l a ⟨h,X,e,hn⟩=>by
  unfold fU
  split
  ·exact⟨h,X,e,hn⟩
  ·exact⟨_,_,rfl,fun s=>fx [40] s (by decide)⟩
 have nob : ∀(k:Int) (x:List UInt8) (n p:Int) (s:List UInt8),k≠2→k≠5→jk ⟨k,x,n,p⟩ s=true→s∈yD:=fun k x n p s h2 h5 h=>by
  unfold jk at h
  simp[h2,h5] at h
 induction t with
 |
  val v =>
  simp only[Tm.tk,iy]
  split
  ·exact⟨_,_,rfl,fun s=>nob 4 _ _ _ s (by decide) (by decide)⟩
  ·split
   ·exact⟨_,_,rfl,fun s=>fx _ s (by decide)⟩
   ·split
    ·exact⟨_,_,rfl,fun s=>fx _ s (by decide)⟩
    ·exact⟨_,_,rfl,fun s=>nob 3 _ _ _ s (by decide) (by decide)⟩
 |
  col t n =>
  simp only[Tm.tk]
  split
  ·exact⟨_,_,rfl,fun s=>nob 1 _ _ _ s (by decide) (by decide)⟩
  ·exact⟨_,_,rfl,fun s=>nob 1 _ _ _ s (by decide) (by decide)⟩
 |
  op o a b ha hb =>
  obtain⟨h,X,e,hn⟩:=hat (sO o) a (ha hok.2.2.1)
  simp only[Tm.tk]
  rw[e];exact⟨_,_,rfl,hn⟩
 | not a ha=>exact⟨_,_,rfl,fun s=>fx _ s (by decide)⟩
 | neg a ha=>exact⟨_,_,rfl,fun s=>fx _ s (by decide)⟩
 |
  nul a ha =>
  obtain⟨h,X,e,hn⟩:=hat 4 a (ha hok)
  simp only[Tm.tk]
  rw[e];exact⟨_,_,rfl,hn⟩
 |
  nnul a ha =>
  obtain⟨h,X,e,hn⟩:=hat 4 a (ha hok)
  simp only[Tm.tk]
  rw[e];exact⟨_,_,rfl,hn⟩
theorem nI {e:Ex} (h:aP e=true) {F:Nat} (hF:(jV e).length≤F) (hd:iX e≤10) (bp:Int) {rest:List Tk} (hs:Stops 0 rest):dU F (RR 0 bp (jV e++rest))=(e,RR 0 bp rest):=by
 obtain⟨h1,h2⟩:=lS h
 have:=EO (p8 e) h1 F hF hd bp rest hs
 rw[h2] at this
 exact this
theorem Iy {e:Ex} (h:aP e=true):∃x X,jV e=x::X∧∀s,jk x s=true→s∈yD:=Jl _ (lS h).1
theorem yN {x:Tk} (h : ∀s,jk x s=true→s∈yD) {s:List UInt8} (hs:s ∉ yD):jk x s=false:=by
 cases e:jk x s with
 | false=>rfl
 | true=>exact absurd (h s e) hs
theorem mg {l:List Nat} {n:Nat} (h:bq l≤n):∀x∈l,x≤n:=by
 induction l with
 | nil=>simp
 |
  cons a l ih =>
  simp only[bq,List.foldr_cons] at h
  intro x hx
  rcases List.mem_cons.1 hx with rfl | hx
  ·omega
  ·exact ih (by unfold bq;omega) x hx
theorem Af {α:Type} {xs:List α} {p:α→Bool} (h:aZ xs 0 1 p=true):xs=[]∨∃x,xs=[x]∧p x=true:=by
 unfold aZ at h
 simp only[Bool.and_eq_true,decide_eq_true_eq] at h
 match xs,h with
 | [],_=>exact .inl rfl
 | [x],h=>exact .inr ⟨x,rfl,by simpa using h.2⟩
 | _::_::_,h=>exact absurd h.1.2 (by simp)
theorem gq {α:Type} {xs:List α} {b:Nat} {p:α→Bool} (h:aZ xs 1 b p=true):∃x l,xs=x::l∧l.length+1≤b∧∀y∈x::l,p y=true:=by
 unfold aZ at h
 simp only[Bool.and_eq_true,decide_eq_true_eq,List.all_eq_true] at h
 match xs,h with
 | [],h=>exact absurd h.1.1 (by simp)
 | x::l,h=>exact⟨x,l,rfl,h.1.2,h.2⟩
theorem mR {read:Pa Ex} {xs:List Ex} {w:List UInt8} {ws:List (List UInt8)} {bp:Int} {rest:List Tk} (hl:xs=[]∨∃x,xs=[x]) (hr : ∀x∈xs,read (RR 0 bp (jV x++rest))=(x,RR 0 bp rest)) (hno:xs=[]→jk (rest.headD jG) w=false):bQ read w ws (RR 0 bp (aT xs (w::ws)++rest))=(xs,RR 0 bp rest):=by
 unfold bQ
 rcases hl with rfl | ⟨x,rfl⟩
 ·exact jM _ _ (hno rfl)
 ·have e:aT [x] (w::ws)++rest=aH w::(ah ws++(jV x++rest)):=by simp[aT,ah]
  rw[e,ku _ _ (jN w),aL (nC 0 bp _ ws),aL (hr x (by simp))]
  rfl
theorem EH {d bp:Int} {ts:List Tk}:bO (RR d bp (aH [44]::ts))=(true,RR d bp ts):=mU [44]
theorem Hq {d bp:Int} {ts:List Tk} (h:jk (ts.headD jG) [44]=false):bO (RR d bp ts)=(false,RR d bp ts):=oJ h
theorem l7 {α:Type} {one:Pa α} {tk:α→List Tk} {bp:Int} {rest:List Tk} (hr:jk (rest.headD jG) [44]=false) {x:α} {xs:List α} {m:Nat} (hm:xs.length+1≤m) (hone : ∀y∈x::xs,∀ts,ts=rest∨(∃u,ts=aH [44]::u)→one (RR 0 bp (tk y++ts))=(y,RR 0 bp ts)) :
  aU one bO m [] (RR 0 bp (aN (aH [44]) ((x::xs).map tk)++rest))=(x::xs,RR 0 bp rest) :=
 oQ (Hq hr) xs x m [] hm hone (fun y _ ts=>EH)
theorem tL (ts:List Tk):Stops 0 (aH [44]::ts):=show ∀s∈ko 0,jk (aH [44]) s=false by decide
theorem Ah {c:Co} (h:jT c=true) (bp:Int) (ts:List Tk) (hs:jk (ts.headD jG) [78,79,84]=false∧jk (ts.headD jG) [85,78,73,81,85,69]=false):fC (RR 0 bp (jQ c++ts))=(c,RR 0 bp ts):=by
 obtain⟨nm,k,nn,uq⟩:=c
 unfold jT at h
 simp only[Bool.and_eq_true,decide_eq_true_eq] at h
 unfold fC jQ
 dsimp only
 rw[show aR nm::aH (if k=1 then [73,78,84] else [84,69,88,84])::((if nn=true then ah [[78,79,84],[78,85,76,76]] else [])++(if uq=true then ah [[85,78,73,81,85,69]] else []))++ts=aR nm::aH (if k=1 then [73,78,84] else [84,69,88,84])::((if nn=true then ah [[78,79,84],[78,85,76,76]] else [])++((if uq=true then ah [[85,78,73,81,85,69]] else [])++ts)) by simp]
 rw[aL (fH 0 bp nm _)]
 have hk : ∀T,aK gX (RR 0 bp (aH (if k=1 then [73,78,84] else [84,69,88,84])::T))=(k,RR 0 bp T):=fun T=>by
  rcases h.2 with rfl | rfl<;>rfl
 rw[aL (hk _),if_neg (by rcases h.2 with rfl | rfl<;>decide),aL (show bg () (RR 0 bp _)=_ from rfl)]
 have hq:fI [85,78,73,81,85,69] (RR 0 bp ((if uq=true then ah [[85,78,73,81,85,69]] else [])++ts))=(uq,RR 0 bp ts):=by
  cases uq with
  | true=>exact mU _
  | false=>exact oJ hs.2
 have hn:gV [78,79,84] (aF (dB [78,85,76,76]) fun _=>bg true) (bg false) (RR 0 bp ((if nn=true then ah [[78,79,84],[78,85,76,76]] else [])++((if uq=true then ah [[85,78,73,81,85,69]] else [])++ts)))=(nn,RR 0 bp ((if uq=true then ah [[85,78,73,81,85,69]] else [])++ts)):=by
  cases nn with
  |
   true =>
   show gV _ _ _ (RR 0 bp (aH [78,79,84]::aH [78,85,76,76]::_))=_
   rw[ku _ _ (jN _),aL (jJ _)]
   rfl
  |
   false =>
   refine jM _ _ ?_
   cases uq with
   | true=>exact fB (by decide)
   | false=>exact hs.1
 rw[aL hn,aL hq]
 rfl
theorem Ej {l:List Vl} (h:ru l=true) (bp:Int) (ts:List Tk):fZ (RR 0 bp (jZ l++ts))=(l,RR 0 bp ts):=by
 obtain⟨x,xs,rfl,hm,hp⟩:=gq h
 unfold fZ jZ
 rw[show aH [40]::(aN (aH [44]) ((x::xs).map iy)++[aH [41]])++ts=aH [40]::(aN (aH [44]) ((x::xs).map iy)++aH [41]::ts) by simp]
 rw[aL (jJ _),aL (l7 (one:=jI) (tk:=iy) (rest:=aH [41]::ts) (fB (by decide)) hm (fun y hy T _=>AQ (hp y hy) 0 bp T)),aL (jJ _)]
 rfl
theorem Ho {F:Nat} {s:Se} (h:pW s=true) (hF:(lU s).length≤F) (hd:iX s.e≤10) (bp:Int) (ts:List Tk) (hs:Stops 0 ts):oM (dU F) (RR 0 bp (lU s++ts))=(s,RR 0 bp ts):=by
 obtain⟨nm,e⟩:=s
 unfold pW at h
 simp only[Bool.and_eq_true] at h
 unfold oM lU
 rw[show aR nm::aH [61]::jV e++ts=aR nm::aH [61]::(jV e++ts) from rfl]
 rw[aL (fH 0 bp nm _),aL (jJ _),aL (nI h.2 (by simp[lU] at hF;omega) hd bp hs)]
 rfl
theorem Eu {F:Nat} {i:It} (h:uQ i=true) (hF:(tK i).length≤F) (hd:zT i≤10) (bp:Int) (ts:List Tk) (hs:Stops 0 ts):eH (dU F) (RR 0 bp (tK i++ts))=(i,RR 0 bp ts):=by
 obtain⟨k,xs⟩:=i
 unfold uQ at h
 dsimp only at h
 unfold eH
 by_cases h1:k=1
 ·subst h1
  rw[if_pos (.inl rfl)] at h
  obtain rfl:xs=[]:=List.eq_nil_of_length_eq_zero (by simpa using h)
  exact ku _ _ (jN _)
 ·by_cases h3:k=3
  ·subst h3
   rw[if_pos (.inr rfl)] at h
   obtain rfl:xs=[]:=List.eq_nil_of_length_eq_zero (by simpa using h)
   show gV _ _ _ (RR 0 bp (aH [67,79,85,78,84]::aH [40]::aH [42]::aH [41]::ts))=_
   rw[jM (ts:=aH [67,79,85,78,84]::aH [40]::aH [42]::aH [41]::ts) _ _ (fB (by decide)),aL (show aK eU _=(4,RR 0 bp (aH [40]::aH [42]::aH [41]::ts)) from rfl),if_neg (by decide),aL (jJ _),if_pos rfl,aL (mU _),if_pos rfl,aL (show bg _ (RR 0 bp (aH [41]::ts))=_ from rfl),aL (jJ _)]
   rfl
  ·rw[if_neg (by omega)] at h
   split at h
   ·rename_i hk
    obtain⟨x,l,rfl,hl,hp⟩:=gq h
    obtain rfl:l=[]:=List.eq_nil_of_length_eq_zero (by omega)
    have hx:=hp x (by simp)
    have hdx:iX x≤10:=mg hd _ (by simp)
    obtain⟨y,Y,hY,hb⟩:=Iy hx
    have hch : ∀T,aK eU (RR 0 bp (jV x++T))=(0,RR 0 bp (jV x++T)):=fun T=>by
     refine pq _ (fun c hc=>?_)
     rw[hY]
     exact yN hb (by revert c;decide)
    by_cases h2:k=2
    ·subst h2
     have hF':(jV x).length≤F:=by simpa [tK] using hF
     show gV _ _ _ (RR 0 bp (jV x++ts))=_
     rw[jM _ _ (by rw[hY];exact yN hb (by decide)),aL (hch ts),if_pos rfl,aL (nI hx hF' hdx bp hs)]
     rfl
    ·have hk4:k=4∨k=5∨k=6∨k=7:=by omega
     have e:tK ⟨k,[x]⟩++ts=aH (Cx k)::aH [40]::(jV x++aH [41]::ts):=by
      unfold tK
      dsimp only
      rw[if_neg h1,if_neg h2,if_neg h3]
      simp[ah]
     have hF':(jV x).length≤F:=by
      have:=congrArg List.length e
      simp only[List.length_append,List.length_cons] at this
      omega
     rw[e]
     have hW : ∀T,gV [42] (bg (⟨1,[]⟩:It)) (aF (aK eU) fun k=>if k=0 then aF (dU F) fun e=>bg ⟨2,[e]⟩ else
       aF (dB [40]) fun _=>aF (if k=4 then fI [42] else bg false) fun b=>aF (if b=true then bg ⟨3,[]⟩ else aF (dU F) fun e=>bg ⟨k,[e]⟩) fun i=>aF (dB [41]) fun _=>bg i) (RR 0 bp (aH (Cx k)::T)) =
       (aF (dB [40]) fun _=>aF (if k=4 then fI [42] else bg false) fun b=>aF (if b=true then bg ⟨3,[]⟩ else aF (dU F) fun e=>bg ⟨k,[e]⟩) fun i=>aF (dB [41]) fun _=>bg i) (RR 0 bp T):=fun T=>by
      rcases hk4 with rfl | rfl | rfl | rfl
      ·rw[jM (ts:=aH (Cx 4)::T) _ _ (fB (by decide)),aL (show aK eU _=(4,RR 0 bp T) from rfl),if_neg (by decide)]
      ·rw[jM (ts:=aH (Cx 5)::T) _ _ (fB (by decide)),aL (show aK eU _=(5,RR 0 bp T) from rfl),if_neg (by decide)]
      ·rw[jM (ts:=aH (Cx 6)::T) _ _ (fB (by decide)),aL (show aK eU _=(6,RR 0 bp T) from rfl),if_neg (by decide)]
      ·rw[jM (ts:=aH (Cx 7)::T) _ _ (fB (by decide)),aL (show aK eU _=(7,RR 0 bp T) from rfl),if_neg (by decide)]
     rw[hW,aL (jJ _)]
     have hsk:(if k=4 then fI [42] else bg false) (RR 0 bp (jV x++aH [41]::ts))=(false,RR 0 bp (jV x++aH [41]::ts)):=by
      split
      ·exact oJ (by rw[hY];exact yN hb (by decide))
      ·rfl
     rw[aL hsk,if_neg (by decide)]
     have hx2:(aF (dU F) fun e=>bg (⟨k,[e]⟩:It)) (RR 0 bp (jV x++aH [41]::ts))=(⟨k,[x]⟩,RR 0 bp (aH [41]::ts)):=by
      rw[aL (nI hx hF' hdx bp (nZ 0 ts))]
      rfl
     rw[aL hx2,aL (jJ _)]
     rfl
   ·cases h
theorem wZ {e:Ex} (h:fq e=true) (bp:Int) (ts:List Tk) (hs:jk (ts.headD jG) [46]=false):fG (RR 0 bp (jV e++ts))=(e,RR 0 bp ts):=by
 unfold fq at h
 simp only[Bool.and_eq_true,decide_eq_true_eq] at h
 obtain⟨h1,h2⟩:=lS h.2
 unfold jV
 cases ht:p8 e with
 |
  col t n =>
  rw[ht] at h2
  rw[← h2]
  show fG (RR 0 bp ((if t=[] then [aR n] else [aR t,aH [46],aR n])++ts))=(jK t n,_)
  unfold fG
  by_cases e0:t=[]
  ·subst e0
   rw[if_pos rfl]
   show aF nameP _ (RR 0 bp (aR n::ts))=_
   rw[aL (fH 0 bp n ts),jM _ _ hs]
   rfl
  ·rw[if_neg e0]
   show aF nameP _ (RR 0 bp (aR t::aH [46]::aR n::ts))=_
   rw[aL (fH 0 bp t _),ku _ _ (jN _)]
   rfl
 | _=>rw[ht] at h2;rw[← h2] at h;exact absurd h.1 (by simp[qK,Tm.ex,rM,mJ,fT])
theorem xI {s:St} (h:CJ s=true):s=gQ 0:=by
 unfold CJ at h
 simp only[decide_eq_true_eq] at h
 obtain⟨k,tb,cols,prim,rows,sets,items,jn,on,wh,gr,od,desc,lim⟩:=s
 dsimp only at h
 obtain⟨h1,h2,h3,h4,h5,h6,h7,h8,h9,h10,h11,h12,h13,h14⟩:=h
 subst h1 h2 h4 h8 h13 h14
 obtain rfl:=List.eq_nil_of_length_eq_zero h3
 obtain rfl:=List.eq_nil_of_length_eq_zero h5
 obtain rfl:=List.eq_nil_of_length_eq_zero h6
 obtain rfl:=List.eq_nil_of_length_eq_zero h7
 obtain rfl:=List.eq_nil_of_length_eq_zero h9
 obtain rfl:=List.eq_nil_of_length_eq_zero h10
 obtain rfl:=List.eq_nil_of_length_eq_zero h11
 obtain rfl:=List.eq_nil_of_length_eq_zero h12
 rfl
theorem zB {F:Nat} {tb prim:List UInt8} {cols:List Co} (h:aZ cols 1 8 jT=true) (bp:Int) (rest:List Tk) (ex:Pa Ex) :
  dK (RR 0 bp (aH [84,65,66,76,69]::aR tb::aH [40]::(aN (aH [44]) (cols.map jQ)++(ah [[44],[80,82,73,77,65,82,89],[75,69,89],[40]]++aR prim::(ah [[41],[41]]++rest)))))=({ gQ 1 with tb:=tb,cols:=cols,prim:=prim },RR 0 bp rest):=by
 obtain⟨x,xs,rfl,hm,hp⟩:=gq h
 unfold dK
 rw[aL (jJ _),aL (fH 0 bp tb _),aL (jJ _)]
 have hname : ∀(c:Co),c∈x::xs→∀T:List Tk,bU (RR 0 bp (aH [44]::(jQ c++T)))=(true,RR 0 bp (jQ c++T)):=fun c hc T=>by
  unfold bU
  rw[ku _ _ (jN _),aL (show L8 [80,82,73,77,65,82,89] (RR 0 bp (jQ c++T))=(false,RR 0 bp (jQ c++T)) from rfl)]
  rfl
 have hend:bU (RR 0 bp (ah [[44],[80,82,73,77,65,82,89],[75,69,89],[40]]++aR prim::(ah [[41],[41]]++rest)))=(false,RR 0 bp (ah [[80,82,73,77,65,82,89],[75,69,89],[40]]++aR prim::(ah [[41],[41]]++rest))):=rfl
 rw[aL (oQ (one:=fC) (tk:=jQ) hend xs x 8 [] hm (fun y hy T hT=>Ah (hp y hy) bp T (by
  rcases hT with rfl | ⟨u,rfl⟩
  ·exact⟨fB (by decide),fB (by decide)⟩
  ·exact⟨fB (by decide),fB (by decide)⟩)) (fun y hy T=>hname y (List.mem_cons_of_mem _ hy) T)),aL (nC 0 bp _ _),aL (fH 0 bp prim _),aL (nC 0 bp _ _)]
 rfl
theorem vE {α:Type} (sep:Tk) (tk:α→List Tk):∀(l:List α) (x:α),x∈l→(tk x).length≤(aN sep (l.map tk)).length
 |
  y::l,x,hx=>by
  have h2 : ∀(l:List α),x∈l→(tk x).length≤((l.map tk).flatMap fun y=>sep::y).length:=fun l=>by
   induction l with
   | nil=>intro h;cases h
   |
    cons z l ih =>
    intro h
    simp only[List.map_cons,List.flatMap_cons,List.length_append,List.length_cons]
    rcases List.mem_cons.1 h with rfl | h
    ·omega
    ·have:=ih h;omega
  simp only[List.map_cons,aN,List.length_append]
  rcases List.mem_cons.1 hx with rfl | hx
  ·omega
  ·have:=h2 l hx;omega
theorem pJ {xs:List Ex} {ws:List (List UInt8)} {x:Ex} (hx:x∈xs):(jV x).length≤(aT xs ws).length:=by
 unfold aT
 induction xs with
 | nil=>cases hx
 |
  cons y l ih =>
  simp only[List.flatMap_cons,List.length_append]
  rcases List.mem_cons.1 hx with rfl | hx
  ·omega
  ·have:=ih hx;omega
theorem jf {α:Type} {xs:List α} {p:α→Bool} (h:aZ xs 0 1 p=true):xs=[]∨∃x,xs=[x]:=by
 rcases Af h with h | ⟨x,h,_⟩
 ·exact .inl h
 ·exact .inr ⟨x,h⟩
theorem aX {α:Type} {xs:List α} {a b:Nat} {p:α→Bool} (h:aZ xs a b p=true):∀x∈xs,p x=true:=by
 unfold aZ at h
 simp only[Bool.and_eq_true,List.all_eq_true] at h
 exact h.2
theorem zK {F:Nat} {tb:List UInt8} {sets:List Se} {wh:List Ex} (h:aZ sets 1 8 pW=true) (hw:aZ wh 0 1 aP=true) (hF:(aN (aH [44]) (sets.map lU)).length≤F) (hF2:(aT wh [[87,72,69,82,69]]).length≤F) (hd : ∀x∈sets,iX x.e≤10) (hd2:dH wh≤10) (bp:Int) (rest:List Tk) (hs:nO rest) :
  dJ (dU F) (RR 0 bp (aR tb::aH [83,69,84]::(aN (aH [44]) (sets.map lU)++(aT wh [[87,72,69,82,69]]++rest))))=({ gQ 4 with tb:=tb,sets:=sets,wh:=wh },RR 0 bp rest):=by
 obtain⟨x,xs,rfl,hm,hp⟩:=gq h
 unfold dJ
 have hst:Stops 0 (aT wh [[87,72,69,82,69]]++rest)∧jk ((aT wh [[87,72,69,82,69]]++rest).headD jG) [44]=false:=by
  rcases Af hw with rfl | ⟨y,rfl,_⟩
  ·exact⟨hs.stops,hs.no (by decide)⟩
  ·exact⟨show ∀s∈ko 0,jk (aH [87,72,69,82,69]) s=false by decide,fB (by decide)⟩
 rw[aL (fH 0 bp tb _),aL (jJ _),aL (l7 (one:=oM (dU F)) (tk:=lU) hst.2 hm (fun y hy T hT=>Ho (hp y hy) (Nat.le_trans (vE (aH [44]) lU _ y hy) hF) (hd y hy) bp T (by
  rcases hT with rfl | ⟨u,rfl⟩
  ·exact hst.1
  ·exact tL u)))]
 rw[aL (mR (jf hw) (fun x hx=>nI (aX hw x hx) (Nat.le_trans (pJ hx) hF2) (mg hd2 _ (List.mem_map.2 ⟨x,hx,rfl⟩)) bp hs.stops) (fun _=>hs.no (by decide)))]
 rfl
theorem za {F:Nat} {tb:List UInt8} {wh:List Ex} (hw:aZ wh 0 1 aP=true) (hF2:(aT wh [[87,72,69,82,69]]).length≤F) (hd2:dH wh≤10) (bp:Int) (rest:List Tk) (hs:nO rest) :
  fV (dU F) (RR 0 bp (aH [70,82,79,77]::aR tb::(aT wh [[87,72,69,82,69]]++rest)))=({ gQ 5 with tb:=tb,wh:=wh },RR 0 bp rest):=by
 unfold fV
 rw[aL (jJ _),aL (fH 0 bp tb _)]
 rw[aL (mR (jf hw) (fun x hx=>nI (aX hw x hx) (Nat.le_trans (pJ hx) hF2) (mg hd2 _ (List.mem_map.2 ⟨x,hx,rfl⟩)) bp hs.stops) (fun _=>hs.no (by decide)))]
 rfl
theorem zZ {tb:List UInt8} {rows:List (List Vl)} (h:aZ rows 1 16 ru=true) (bp:Int) (rest:List Tk) (hs:nO rest) :
  dP (RR 0 bp (aH [73,78,84,79]::aR tb::aH [86,65,76,85,69,83]::(aN (aH [44]) (rows.map jZ)++rest)))=({ gQ 3 with tb:=tb,rows:=rows },RR 0 bp rest):=by
 obtain⟨x,xs,rfl,hm,hp⟩:=gq h
 unfold dP
 rw[aL (jJ _),aL (fH 0 bp tb _),aL (jJ _),aL (l7 (one:=fZ) (tk:=jZ) (hs.no (by decide)) hm (fun y hy T _=>Ej (hp y hy) bp T))]
 rfl
end Go.Proofs.YtaaggohjmhifbaaGreatDoor
namespace Go.Proofs.YtaaggohjmhifbaaGreatDoor
open Go.RowKit Go.Shelf
set_option linter.unusedSimpArgs false
set_option linter.unusedVariables false
set_option maxRecDepth 20000
set_option maxHeartbeats 8000000
theorem jv.ok {t:Tk} (h:jv t):Lx t:=⟨h.len,h.n0,h.n1⟩
theorem zM {s:List UInt8} (h:(tokens s).1=0):s.length≤2000∧(tokens s).2.1=0∧∃L,(tokens s).2.2=L++[⟨6,[],0,(s.length:Int)⟩]∧L.length≤s.length∧∀t∈L,jv t:=by
 have hl : ¬2000<s.length:=fun hl=>by rw[tokens,if_pos hl] at h;exact absurd (show (2:Nat)=0 from h) (by decide)
 have e:tokens s=toks (s.length+1) s 0:=by rw[tokens,if_neg hl]
 rw[e] at h ⊢
 refine ⟨by omega,(mP _ _ _).2 h,?_⟩
 obtain⟨L,h1,h2,h3⟩:=rX (s.length+1) s 0 (by omega) h
 exact⟨L,by rw[h1,Nat.zero_add],h2,h3⟩
theorem Cu {s:List UInt8} (h:(tokens s).1≠0):(tokens s).2.2=[]:=by
 unfold tokens at h ⊢
 split
 ·rfl
 ·rename_i hl
  rw[if_neg hl] at h
  exact (mP _ _ _).1 h
theorem GD {L:List Tk} (h : ∀t∈L,jv t) (e:Tk) (he:e.k=6):oD (L++[e])=L.map wr:=by
 rw[uY,if_pos he]
 unfold oD
 rw[List.filter_eq_self.2]
 intro t ht
 have:=(h t ht).k6
 simpa using this
end Go.Proofs.YtaaggohjmhifbaaGreatDoor
namespace Go.Proofs.YtaaggohjmhifbaaGreatDoor
set_option linter.unusedSimpArgs false
set_option linter.unusedVariables false
set_option maxHeartbeats 8000000
theorem Jv {s:List UInt8} (h1:skip false s=0) (h2:gY s=(0,aH s,s.length)):jv (aH s):=by
 have:=vQ h1 h2 0
 have e:(⟨(aH s).k,(aH s).s,(aH s).n,0⟩:Tk)=aH s:=by unfold aH;split<;>rfl
 rw[e] at this
 exact this
def K4:List (List UInt8):=[[40],[41],[44],[59],[46],[42],[43],[45],[47],[37],[61],[60],[62],[60,62],[60,61],[62,61],[65,78,68],[66,89],[67,79,85,78,84],[67,82,69,65,84,69],[68,69,76,69,84,69],[68,69,83,67],[68,82,79,80],[70,82,79,77],[71,82,79,85,80],[73,78,83,69,82,84],[73,78,84],[73,78,84,79],[73,83],[74,79,73,78],[75,69,89],[76,73,77,73,84],[77,65,88],[77,73,78],[78,79,84],[78,85,76,76],[79,78],[79,82],[79,82,68,69,82],[80,82,73,77,65,82,89],[83,69,76,69,67,84],[83,69,84],[83,85,77],[84,65,66,76,69],[84,69,88,84],[85,78,73,81,85,69],[85,80,68,65,84,69],[86,65,76,85,69,83],[87,72,69,82,69]]
theorem Gv : ∀s∈K4,jv (aH s):=by
 unfold K4
 simp only[List.forall_mem_cons]
 refine ⟨?_,?_,?_,?_,?_,?_,?_,?_,?_,?_,?_,?_,?_,?_,?_,?_,?_,?_,?_,?_,?_,?_,?_,?_,?_,?_,?_,?_,?_,?_,?_,?_,?_,?_,?_,?_,?_,?_,?_,?_,?_,?_,?_,?_,?_,?_,?_,?_,?_,?_⟩<;>first | (refine Jv ?_ ?_<;>rfl) | (intro x hx;cases hx)
theorem bW {s:List UInt8} (h:s∈K4):jv (aH s):=Gv s h
theorem jg {s:List UInt8} (h:bL s=true):jv (aR s):=by
 unfold bL at h
 simp only[Bool.and_eq_true,decide_eq_true_eq] at h
 obtain⟨h1,h2,h3,h4⟩:=h
 cases s with
 | nil=>simp at h1
 |
  cons c r =>
  have h3:cZ iD c=true:=h3
  have hc:gY (c::r)=(0,aR (c::r),(c::r).length):=by
   unfold gY
   dsimp only
   rw[if_pos h3]
   unfold iH
   rw[h4,List.drop_length,List.take_length,if_neg (by decide),if_neg (by omega)]
   rfl
  have hs:skip false (c::r)=0:=by
   rw[skip,if_neg ?_]
   ·cases r with
    | nil=>rw[if_neg (by simp)]
    |
     cons d r' =>
     rw[if_neg ?_]
     rintro⟨rfl,_⟩
     exact absurd (show cZ iD 45=true from h3) (by decide)
   ·intro hb
    have : ∀c∈nk,cZ iD c=false:=by decide
    rw[this c (by simpa [cZ] using hb)] at h3
    cases h3
  exact vQ hs hc 0
def bJ (ts:List Tk):Prop:=∀t∈ts,jv t
theorem bJ.nil:bJ []:=fun t h=>by cases h
theorem bJ.cons {t:Tk} {ts:List Tk} (h:jv t) (hs:bJ ts):bJ (t::ts):=fun x hx=>by
 rcases List.mem_cons.1 hx with rfl | hx
 ·exact h
 ·exact hs x hx
theorem bJ.app {a b:List Tk} (h:bJ a) (hs:bJ b):bJ (a++b):=fun x hx=>by
 rcases List.mem_append.1 hx with hx | hx
 ·exact h x hx
 ·exact hs x hx
theorem bJ.words {l:List (List UInt8)} (h : ∀s∈l,s∈K4):bJ (ah l):=fun x hx=>by
 obtain⟨s,hs,rfl⟩:=List.mem_map.1 hx
 exact bW (h s hs)
theorem bJ.sep {sep:Tk} {l:List (List Tk)} (hs:jv sep) (h : ∀x∈l,bJ x):bJ (aN sep l):=by
 cases l with
 | nil=>exact bJ.nil
 |
  cons x l =>
  refine (h x (by simp)).app (fun t ht=>?_)
  obtain⟨y,hy,ht⟩:=List.mem_flatMap.1 ht
  exact bJ.cons hs (h y (by simp[hy])) t ht
theorem bJ.at' {l lv:Nat} {ts:List Tk} (h:bJ ts):bJ (fU l lv ts):=by
 unfold fU
 split
 ·exact h
 ·exact bJ.cons (bW (by decide)) (h.app (bJ.cons (bW (by decide)) bJ.nil))
theorem Aa {v:Vl} (hv:gG v=true):bJ (iy v):=by
 unfold iy
 rcases nW hv with⟨h1,h2,h3⟩ | ⟨h1,h2,h3⟩ | ⟨h1,h2,h3,h4⟩
 ·rw[if_pos h1]
  exact bJ.cons (xB v.s 0 h3) bJ.nil
 ·rw[if_neg (by omega),if_pos h1]
  exact bJ.cons (bW (by decide)) bJ.nil
 ·rw[if_neg (by omega),if_neg (by omega)]
  split
  ·exact bJ.cons (bW (by decide)) (bJ.cons (qX _ 0 (by omega) (by omega)) bJ.nil)
  ·exact bJ.cons (qX _ 0 (by omega) (by omega)) bJ.nil
theorem KS (o:Int) (h1:1≤o) (h2:o≤13):lM o∈K4:=by
 rcases sG o h1 h2 with rfl | rfl | rfl | rfl | rfl | rfl | rfl | rfl | rfl | rfl | rfl | rfl | rfl<;>decide
theorem JA (t:Tm) (h:t.ok):bJ t.tk:=by
 induction t with
 | val v=>exact Aa h
 |
  col a b =>
  simp only[Tm.tk]
  split
  ·exact bJ.cons (jg h.1) bJ.nil
  ·rename_i ha
   exact bJ.cons (jg (h.2.resolve_left ha)) (bJ.cons (bW (by decide)) (bJ.cons (jg h.1) bJ.nil))
 | op o a b ha hb=>exact (ha h.2.2.1).at'.app (bJ.cons (bW (KS o h.1 h.2.1)) (hb h.2.2.2).at')
 | not a ha=>exact bJ.cons (bW (by decide)) (ha h.2).at'
 | neg a ha=>exact bJ.cons (bW (by decide)) (ha h).at'
 | nul a ha=>exact (ha h).at'.app (bJ.cons (bW (by decide)) (bJ.cons (bW (by decide)) bJ.nil))
 | nnul a ha=>exact (ha h).at'.app (bJ.cons (bW (by decide)) (bJ.cons (bW (by decide)) (bJ.cons (bW (by decide)) bJ.nil)))
theorem x9 {e:Ex} (h:aP e=true):bJ (jV e):=JA _ (lS h).1
theorem kQ {xs:List Ex} {ws:List (List UInt8)} (h : ∀x∈xs,aP x=true) (hw : ∀s∈ws,s∈K4):bJ (aT xs ws):=fun t ht=>by
 obtain⟨x,hx,ht⟩:=List.mem_flatMap.1 ht
 exact ((bJ.words hw).app (x9 (h x hx))) t ht
theorem qJ {e:Ex} (h:fq e=true):aP e=true:=by
 unfold fq at h
 simp only[Bool.and_eq_true] at h
 exact h.2
theorem EA {i:It} (h:uQ i=true):bJ (tK i):=by
 unfold uQ at h
 unfold tK
 by_cases h1:i.k=1
 ·rw[if_pos h1];exact bJ.cons (bW (by decide)) bJ.nil
 ·rw[if_neg h1]
  by_cases h3:i.k=3
  ·rw[if_neg (by omega),if_pos h3];exact bJ.words (by decide)
  ·rw[if_neg (by omega)] at h
   split at h
   ·rename_i hk
    obtain⟨x,l,hx,_,hp⟩:=gq h
    have hg:=x9 (hp x (by simp))
    rw[hx]
    split
    ·exact hg
    ·refine (bJ.words ?_).app (hg.app (bJ.cons (bW (by decide)) bJ.nil))
     have:i.k=4∨i.k=5∨i.k=6∨i.k=7:=by omega
     rcases this with e | e | e | e<;>rw[e]<;>decide
   ·cases h
theorem Hu {s:List UInt8} (h:mV s=true) (hs:s≠[]):jv (aR s):=by
 unfold mV at h
 simp only[Bool.or_eq_true,decide_eq_true_eq] at h
 exact jg (h.resolve_left hs)
theorem vL {s:St} (h:bP s=true):bJ (lY s):=by
 unfold bP at h
 simp only[Bool.and_eq_true] at h
 obtain⟨hk,ht,_⟩:=h
 have hn:=jg ht
 unfold mK at hk
 unfold lY
 split at hk
 ·rename_i h1
  rw[if_pos h1]
  simp only[Bool.and_eq_true] at hk
  have hm:=aX hk.1
  refine (bJ.words (by decide)).app (bJ.cons hn (bJ.cons (bW (by decide)) ((bJ.sep (bW (by decide)) fun x hx=>?_).app ((bJ.words (by decide)).app (bJ.cons (jg hk.2) (bJ.words (by decide)))))))
  obtain⟨c,hc,rfl⟩:=List.mem_map.1 hx
  have hcb:=hm c hc
  unfold jT at hcb
  simp only[Bool.and_eq_true] at hcb
  refine bJ.cons (jg hcb.1) (bJ.cons (bW (by split<;>decide)) (bJ.app ?_ ?_))
  ·split
   ·exact bJ.words (by decide)
   ·exact bJ.nil
  ·split
   ·exact bJ.words (by decide)
   ·exact bJ.nil
 ·rename_i h1
  rw[if_neg h1]
  split at hk
  ·rename_i h2
   rw[if_pos h2]
   exact (bJ.words (by decide)).app (bJ.cons hn bJ.nil)
  ·rename_i h2
   rw[if_neg h2]
   split at hk
   ·rename_i h3
    rw[if_pos h3]
    have hm:=aX hk
    refine (bJ.words (by decide)).app (bJ.cons hn (bJ.cons (bW (by decide)) (bJ.sep (bW (by decide)) fun x hx=>?_)))
    obtain⟨r,hr,rfl⟩:=List.mem_map.1 hx
    have hrm:=aX (hm r hr)
    refine bJ.cons (bW (by decide)) ((bJ.sep (bW (by decide)) fun y hy=>?_).app (bJ.cons (bW (by decide)) bJ.nil))
    obtain⟨v,hv,rfl⟩:=List.mem_map.1 hy
    exact Aa (hrm v hv)
   ·rename_i h3
    rw[if_neg h3]
    split at hk
    ·rename_i h4
     rw[if_pos h4]
     simp only[Bool.and_eq_true] at hk
     have hm:=aX hk.1
     refine bJ.cons (bW (by decide)) (bJ.cons hn (bJ.cons (bW (by decide)) ((bJ.sep (bW (by decide)) fun x hx=>?_).app (kQ (aX hk.2) (by decide)))))
     obtain⟨e,he,rfl⟩:=List.mem_map.1 hx
     have:=hm e he
     unfold pW at this
     simp only[Bool.and_eq_true] at this
     exact bJ.cons (jg this.1) (bJ.cons (bW (by decide)) (x9 this.2))
    ·rename_i h4
     rw[if_neg h4]
     split at hk
     ·rename_i h5
      rw[if_pos h5]
      exact (bJ.words (by decide)).app (bJ.cons hn (kQ (aX hk) (by decide)))
     ·rename_i h5
      rw[if_neg h5]
      split at hk
      ·unfold Ag at hk
       simp only[Bool.and_eq_true,decide_eq_true_eq] at hk
       obtain⟨k1,k2,k3,k4,k5,k6,k7,k8⟩:=hk
       unfold IY
       refine bJ.cons (bW (by decide)) ((bJ.sep (bW (by decide)) fun x hx=>?_).app (bJ.cons (bW (by decide)) (bJ.cons hn (bJ.app ?_ ((kQ (aX k3) (by decide)).app ((kQ (aX k4) (by decide)).app ((kQ (fun x hx=>qJ (aX k5 x hx)) (by decide)).app ((kQ (fun x hx=>qJ (aX k6 x hx)) (by decide)).app (bJ.app ?_ ?_)))))))))
       ·obtain⟨i,hi,rfl⟩:=List.mem_map.1 hx
        exact EA (aX k1 i hi)
       ·split
        ·exact bJ.nil
        ·rename_i hj
         exact bJ.cons (bW (by decide)) (bJ.cons (Hu k2 hj) bJ.nil)
       ·split
        ·exact bJ.cons (bW (by decide)) bJ.nil
        ·exact bJ.nil
       ·split
        ·exact bJ.nil
        ·rename_i hl
         exact bJ.cons (bW (by decide)) (bJ.cons (qX _ 0 (by omega) k8.2) bJ.nil)
      ·cases hk
end Go.Proofs.YtaaggohjmhifbaaGreatDoor
namespace Go.Proofs.YtaaggohjmhifbaaGreatDoor
open Go.RowKit Go.Shelf
set_option linter.unusedSimpArgs false
set_option linter.unusedVariables false
set_option maxRecDepth 20000
set_option maxHeartbeats 8000000
def vJ (L:List Tk) (m:Int):List UInt8 × Int:=if 10<m then ([],10) else if 2000<(Lib.join (oD L) [32]).length then ([],2) else (Lib.join (oD L) [32],0)
theorem Ij (g:Nat) (tb:Option Nat) (L:List Tk) (d m:Int) (w:World) (h:cB w g tb L d m) (hok : ∀t∈L,Lx t) (hn:L.length≤10000000) :
  Calls Tryz.prog 62 #[.pointer (some ⟨g,0,none⟩)] w fun e w'=>e = .returned (.tuple #[.string (aj (vJ L m).1),.int .i64 (vJ L m).2])∧Below w.heap.size w w':=by
 obtain⟨v,hv,ho,_⟩:=h.lie
 have hT:=(qO ho).2
 obtain⟨va,vb,vc,rfl⟩:∃va vb vc,v = .slice va vb vc:=by
  rcases ho.2 with⟨rfl,_⟩ | ⟨_,_,_,rfl,_⟩
  ·exact⟨_,_,_,rfl⟩
  ·exact⟨_,_,_,rfl⟩
 have k:=kG hv
 have HW:=hid (Cb w.heap.size _ L w h.tab (Nat.le_refl _) hT hok hn)
 unfold vJ
 generalize Lib.join (oD L) [32]=T at HW ⊢
 clear h hv ho hT hok hn
 by_cases hm:10<m
 ·rw[if_pos hm]
  clear HW
  go_enter Tryz.func62,Tryz.ntmps62
  go_wp2
  exact bodyPost_ret (v:=.tuple #[.string ⟨#[]⟩,.int .i64 10]) (by simp[results,Tryz.results62,go_sem]) rfl ⟨rfl,Below.refl _ _⟩
 ·rw[if_neg hm]
  have hsz:(aj T).size=T.length:=rfl
  by_cases hl:2000<T.length
  ·rw[if_pos hl]
   have hl':((2000:Int)<((aj T).size:Int)):=by rw[hsz];omega
   clear hl hsz
   generalize aj T=S at HW hl'
   go_enter Tryz.func62,Tryz.ntmps62
   go_wp2_with fail
   refine HW.out.mono ?_
   rintro e w1 ⟨rfl,hb1⟩
   have HB:=hid hb1
   clear hb1 HW
   go_wp2
   exact bodyPost_ret (v:=.tuple #[.string ⟨#[]⟩,.int .i64 2]) (by simp[results,Tryz.results62,go_sem]) rfl ⟨rfl,HB.out⟩
  ·rw[if_neg hl]
   have hl' : ¬((2000:Int)<((aj T).size:Int)):=by rw[hsz];omega
   clear hl hsz
   dsimp only
   generalize aj T=S at HW hl' ⊢
   go_enter Tryz.func62,Tryz.ntmps62
   go_wp2_with fail
   refine HW.out.mono ?_
   rintro e w1 ⟨rfl,hb1⟩
   have HB:=hid hb1
   clear hb1 HW
   go_wp2
   exact bodyPost_ret (v:=.tuple #[.string S,.int .i64 0]) (by simp[results,Tryz.results62,go_sem]) rfl ⟨rfl,HB.out⟩
theorem J9 (w:World) (h:lV w):∃W,w.alloc (.cells #[.slice none 0 0,.int .i64 0,.int .i64 0] 98)=W∧Below w.heap.size w W∧w.heap.size<W.heap.size∧cB W w.heap.size none [] 0 0:=by
 obtain⟨W,hW,hbW,hzW,hcW⟩:=aQ w (.cells #[.slice none 0 0,.int .i64 0,.int .i64 0] 98)
 exact⟨W,hW,hbW,hzW,⟨⟨_,hcW,World.ownsRow_nil _ _ _ _,rfl⟩,h.on hbW,h.lt⟩⟩
end Go.Proofs.YtaaggohjmhifbaaGreatDoor
