import Derived.Test.YtfeglkleoijlaaaGreatDoorY03
namespace Go.Proofs.YtfeglkleoijlaaaGreatDoor
open Go.RowKit Go.Shelf
set_option linter.unusedSimpArgs false
set_option linter.unusedVariables false
set_option maxRecDepth 20000
set_option maxHeartbeats 8000000
theorem iH {P:Program} (w:World) (base:Nat) (t ty e:TypeId) (i:TypeInfo) (z:Value) (size bytes:Nat) (ht:P.underlying t=some (.slice e)) (hi:P.info? e=some i) (hz:i.zero=some z)
  (hsize:i.size=size) (hby:i.bytes=bytes) (hzs:z.cells.size=size) (hsz:0<size)
  (v:Value) (n:Nat) (xs:List Value) (hown:w.ownsRow base e size v n xs)
  (a:Addr) (c:Nat) (news:List Value) (hl:news.length=size) (hnews : ∀j u,news[j]?=some u→w.cell? (a.add j)=some u) (h1 : ∀u∈news,u.oneCell'=true)
  (h63:n+1≤maxLen) (hbytes:(n+1)*bytes≤140737488355328) (hbase:base≤w.heap.size) :
  ∃
   v' w',(Builtin.append_ #[t,t] ty #[v,.slice (some a) 1 c]).run P w = .ok v' w'∧w'.ownsRow base e size v' (n+1) (xs++news)∧w.grownBy w' v.ownBlock ∧
   (v'.ownBlock=v.ownBlock∨v'.ownBlock=some w.heap.size):=by
 obtain⟨v',w',hr,h2,h3,_⟩:=run_append_own (P:=P) w base t ty e i z size bytes ht hi hz hsize hby hzs hsz v n xs hown a 1 c news (by omega) hnews h1 h63 hbytes hbase
 refine ⟨v',w',hr,h2,h3,?_⟩
 subst hsize
 subst hby
 have hsmall:n+1≤9223372036854775807:=by simp only[maxLen] at h63;omega
 rcases hown.2 with⟨rfl,rfl⟩ | ⟨g,cap,cur,rfl,hbg,hg,hnc,hcm,hcs,htake⟩
 ·have hr2:=run_append_nil (P:=P) w t ty e i z ht hi hz a 1 c news (by omega) hnews (by omega) (by omega) (by have hb:=hbytes;simp only[Nat.zero_add] at hb;omega)
  rw[hr2] at hr
  injection hr with e1 e2
  rw[← e1]
  exact .inr rfl
 ·by_cases hroom:n+1≤cap
  ·have hfit:n*i.size+news.length≤cur.size:=by rw[hl,hcs,← Nat.succ_mul];exact Nat.mul_le_mul_right _ hroom
   have hr2:=run_append_room (P:=P) w t ty e i ht hi g n cap cur hg a 1 c news (by omega) hnews h1 hroom hfit
   rw[hr2] at hr
   injection hr with e1 e2
   rw[← e1]
   exact .inl rfl
  ·have holds : ∀j u,xs[j]?=some u→w.cell? ((⟨g,0,none⟩:Addr).add j)=some u:=hown.cells (g:=g) rfl
   have hr2:=run_append_grow (P:=P) w t ty e i z ht hi hz ⟨g,0,none⟩ n cap xs hown.1 holds a 1 c news (by omega) hnews (by omega) (by omega) (growslice_fits (by omega) hbytes)
   rw[hr2] at hr
   injection hr with e1 e2
   rw[← e1]
   exact .inr rfl
theorem qG {P:Program} {ops:Array Oper} {rest:List Oper} {o:Oper} {a:Act} {Q:Exit→Act→World→Prop} (w:World) (hgd:o.guard=none) (s x:Operand) (t:TypeId)
  (ho:o.op = .call { callee:=.builtin .append,args:=#[s,x],argTypes:=#[t,t] })
  (base:Nat) (e:TypeId) (i:TypeInfo) (z:Value) (size bytes:Nat) (ht:P.underlying t=some (.slice e)) (hi:P.info? e=some i) (hz:i.zero=some z)
  (hsize:i.size=size) (hby:i.bytes=bytes) (hzs:z.cells.size=size) (hsz:0<size)
  (v:Value) (n:Nat) (xs:List Value) (hs:a.eval s=v) (hown:w.ownsRow base e size v n xs)
  (ad:Addr) (c:Nat) (news:List Value) (hx:a.eval x = .slice (some ad) 1 c) (hl:news.length=size) (hnews : ∀j u,news[j]?=some u→w.cell? (ad.add j)=some u) (h1 : ∀u∈news,u.oneCell'=true)
  (h63:n+1≤maxLen) (hbytes:(n+1)*bytes≤140737488355328) (hbase:base≤w.heap.size)
  (h : ∀v' w',w'.ownsRow base e size v' (n+1) (xs++news)→w.grownBy w' v.ownBlock→(v'.ownBlock=v.ownBlock∨v'.ownBlock=some w.heap.size)→wpList P ops Q rest (a.put o.dst v') w'):wpList P ops Q (o::rest) a w:=by
 obtain⟨v',w',hr,h2,h3,h4⟩:=iH (P:=P) w base t o.type e i z size bytes ht hi hz hsize hby hzs hsz v n xs hown ad c news hl hnews h1 h63 hbytes hbase
 refine wpList_plain hgd fun _ hK=>?_
 unfold Oper.wp execOp
 simp only[ho,resolve,invoke,builtin,Sem.run_bind,Sem.run_pure,Result.andThen_ok,List.map_toArray,List.map_cons,List.map_nil,hs,hx,hr]
 exact hK _ _ (h v' w' h2 h3 h4)
def lH {α:Type} (z:Nat) (El:(Nat→Prop)→World→α→List Value→Prop) (S:Nat→Prop) (w:World) (xs:List α) (css:List (List Value)):Prop :=
 css.length=xs.length∧∀(j:Nat) (x:α) (cs:List Value),xs[j]?=some x→css[j]?=some cs→cs.length=z∧El S w x cs
theorem lH.nil {α:Type} {z:Nat} {El:(Nat→Prop)→World→α→List Value→Prop} {S:Nat→Prop} {w:World}:lH z El S w [] []:=⟨rfl,fun j x cs h=>by simp at h⟩
theorem lH.snoc {α:Type} {z:Nat} {El:(Nat→Prop)→World→α→List Value→Prop} {S:Nat→Prop} {w:World} {xs:List α} {css:List (List Value)} (h:lH z El S w xs css) {x:α} {cs:List Value} (hl:cs.length=z) (he:El S w x cs):lH z El S w (xs++[x]) (css++[cs]):=by
 obtain⟨h1,h2⟩:=h
 refine ⟨by simp[h1],fun j y ds hy hd=>?_⟩
 rcases Nat.lt_or_ge j xs.length with hj | hj
 ·rw[List.getElem?_append_left hj] at hy
  rw[List.getElem?_append_left (by omega)] at hd
  exact h2 j y ds hy hd
 ·rw[List.getElem?_append_right hj] at hy
  rw[List.getElem?_append_right (by omega),h1] at hd
  cases hk:j-xs.length with
  |
   zero =>
   rw[hk] at hy hd
   simp only[List.getElem?_cons_zero,abf] at hy hd
   subst hy hd
   exact⟨hl,he⟩
  | succ k=>rw[hk] at hy;simp at hy
theorem lH.to {α:Type} {z:Nat} {El:(Nat→Prop)→World→α→List Value→Prop} {S T:Nat→Prop} {w w':World} {xs:List α} {css:List (List Value)} (h:lH z El S w xs css) (hE : ∀x cs,El S w x cs→El T w' x cs):lH z El T w' xs css :=
 ⟨h.1,fun j x cs hx hc=>⟨(h.2 j x cs hx hc).1,hE x cs (h.2 j x cs hx hc).2⟩⟩
theorem oJ (z:Nat):∀(css:List (List Value)),(∀cs∈css,cs.length=z)→∀(j i:Nat) (cs:List Value) (u:Value),css[j]?=some cs→cs[i]?=some u→css.flatten[j*z+i]?=some u
 |
  c::css,h,0,i,cs,u,hj,hu=>by
  simp only[List.getElem?_cons_zero,abf] at hj
  subst hj
  rw[List.flatten_cons,Nat.zero_mul,Nat.zero_add,List.getElem?_append_left (aam.1 hu).1]
  exact hu
 |
  c::css,h,j+1,i,cs,u,hj,hu=>by
  have hl:=h c (by simp)
  rw[List.flatten_cons,List.getElem?_append_right (by rw[hl,Nat.succ_mul];omega),hl,show (j+1)*z+i-z=j*z+i by rw[Nat.succ_mul];omega]
  exact oJ z css (fun x hx=>h x (by simp[hx])) j i cs u (by simpa using hj) hu
def aM {α:Type} (z:Nat) (El:(Nat→Prop)→World→α→List Value→Prop) (S:Nat→Prop) (w:World) (xs:List α) (v:Value):Prop :=
 ∃
  (a:Option Addr) (c:Nat) (css:List (List Value)),v = .slice a xs.length c∧xs.length≤c∧c≤maxLen∧lH z El S w xs css ∧
  (xs≠[]→∃b off,a=some ⟨b,off,none⟩∧S b∧∀(j:Nat) (cs:List Value),css[j]?=some cs→∀(i:Nat) (u:Value),cs[i]?=some u→w.cell? ⟨b,off+j*z+i,none⟩=some u)
theorem aM.nil {α:Type} {z:Nat} {El:(Nat→Prop)→World→α→List Value→Prop} {S:Nat→Prop} {w:World}:aM z El S w ([]:List α) (.slice none 0 0) :=
 ⟨none,0,[],rfl,aaF _,aaV _,lH.nil,fun h=>absurd rfl h⟩
theorem aM.iM {α:Type} {z:Nat} {El:(Nat→Prop)→World→α→List Value→Prop} {S:Nat→Prop} {w:World} {base:Nat} {e:TypeId} {v:Value} {xs:List α} {css:List (List Value)} (hz:0<z)
  (h:w.ownsRow base e z v xs.length css.flatten) (hE:lH z El S w xs css) (hS : ∀b,v.ownBlock=some b→S b):aM z El S w xs v:=by
 have hl : ∀cs∈css,cs.length=z:=fun cs hc=>by
  obtain⟨j,hj,e⟩:=List.getElem_of_mem hc
  have hx:xs[j]?=some (xs[j]'(by rw[← hE.1];exact hj)):=aaf _
  exact (hE.2 j _ cs hx (by rw[aaf hj,e])).1
 have hc:=h
 rcases h.2 with⟨rfl,hn⟩ | ⟨g,cap,cur,rfl,hb,hg,hnc,hcm,hcs,ht⟩
 ·exact⟨none,0,css,by rw[hn],by omega,by unfold maxLen;omega,hE,fun hne=>absurd (aaR hn) hne⟩
 ·refine ⟨_,cap,css,rfl,hnc,hcm,hE,fun _=>⟨g,0,rfl,hS g rfl,fun j cs hj i u hu=>?_⟩⟩
  have k:=hc.cells (g:=g) rfl (j*z+i) u (oJ z css hl j i cs u hj hu)
  rw[Addr.add_lit,Nat.zero_add] at k
  rw[Nat.zero_add]
  exact k
theorem aM.to {α:Type} {z:Nat} {El:(Nat→Prop)→World→α→List Value→Prop} {S R T:Nat→Prop} {w w':World} {xs:List α} {v:Value} (hz:0<z) (h:aM z El S w xs v) (hk:ak R w w') (hS : ∀b,S b→b<w.heap.size→¬R b∧T b) (hE : ∀x cs,El S w x cs→El T w' x cs):aM z El T w' xs v:=by
 obtain⟨a,c,css,h1,h2,h3,h4,h5⟩:=h
 refine ⟨a,c,css,h1,h2,h3,h4.to hE,fun hne=>?_⟩
 obtain⟨b,off,ha,hb,hc⟩:=h5 hne
 have hlt:b<w.heap.size:=by
  cases xs with
  | nil=>exact absurd rfl hne
  |
   cons x l =>
   cases css with
   | nil=>have:=h4.1;simp at this
   |
    cons cs css =>
    have:=h4.2 0 x cs rfl rfl
    cases cs with
    | nil=>have:=this.1;simp at this;omega
    | cons u cs=>exact World.block_lt_of_cell? w _ (hc 0 (u::cs) rfl 0 u rfl)
 obtain⟨h6,h7⟩:=hS b hb hlt
 exact⟨b,off,ha,h7,fun j cs hj i u hu=>hk.cell (hc j cs hj i u hu) h6⟩
theorem aM.form {α:Type} {z:Nat} {El:(Nat→Prop)→World→α→List Value→Prop} {S:Nat→Prop} {w:World} {xs:List α} {v:Value} (h:aM z El S w xs v):∃a c,v = .slice a xs.length c:=by
 obtain⟨a,c,css,h1,_⟩:=h
 exact⟨a,c,h1⟩
def ku (_:Nat→Prop) (_:World) (x:Co) (cs:List Value):Prop:=cs=[.string (aj x.nm),.int .i64 x.k,.bool x.nn,.bool x.uq]
def Ib (_:Nat→Prop) (_:World) (x:Vl) (cs:List Value):Prop:=cs=[.int .i64 x.k,.int .i64 x.n,.string (aj x.s)]
def Cw (S:Nat→Prop) (w:World) (x:List Vl) (cs:List Value):Prop:=∃(aa:Option Addr) (nn cc:Nat),cs=[.slice aa nn cc]∧aM 3 Ib S w x (.slice aa nn cc)
def vY (S:Nat→Prop) (w:World) (x:It) (cs:List Value):Prop:=∃(aa:Option Addr) (nn cc:Nat),cs=[.int .i64 x.k,.slice aa nn cc]∧bA S w x.xs (.slice aa nn cc)
def BM (S:Nat→Prop) (w:World) (x:Se) (cs:List Value):Prop :=
 ∃(k op:Int) (tb nm:List UInt8) (vk vn:Int) (vs:List UInt8) (ys:List Ex) (aa:Option Addr) (nn cc:Nat),x.e = .mk k op tb nm ⟨vk,vn,vs⟩ ys∧cs=[.string (aj x.nm),.int .i64 k,.int .i64 op,.string (aj tb),.string (aj nm),.int .i64 vk,.int .i64 vn,.string (aj vs),.slice aa nn cc]∧bA S w ys (.slice aa nn cc)
def fD (S:Nat→Prop) (w:World) (x:St) (cs:List Value):Prop :=
 ∃
  (a1 a2 a3 a4 a5 a6 a7 a8:Option Addr) (n1 n2 n3 n4 n5 n6 n7 n8 c1 c2 c3 c4 c5 c6 c7 c8:Nat),
  cs=[.int .i64 x.k,.string (aj x.tb),.slice a1 n1 c1,.string (aj x.aD),.slice a2 n2 c2,.slice a3 n3 c3,.slice a4 n4 c4,.string (aj x.jn),.slice a5 n5 c5,.slice a6 n6 c6,.slice a7 n7 c7,.slice a8 n8 c8,.bool x.desc,.int .i64 x.lim] ∧
  aM 4 ku S w x.aC (.slice a1 n1 c1)∧aM 1 Cw S w x.rows (.slice a2 n2 c2)∧aM 9 BM S w x.sets (.slice a3 n3 c3)∧aM 2 vY S w x.items (.slice a4 n4 c4) ∧
  bA S w x.on (.slice a5 n5 c5)∧bA S w x.wh (.slice a6 n6 c6)∧bA S w x.gr (.slice a7 n7 c7)∧bA S w x.od (.slice a8 n8 c8)
theorem Cw.to {S R T:Nat→Prop} {w w':World} {x:List Vl} {cs:List Value} (h:Cw S w x cs) (hk:ak R w w') (hS : ∀b,S b→b<w.heap.size→¬R b∧T b):Cw T w' x cs:=by
 obtain⟨aa,nn,cc,h1,h2⟩:=h
 exact⟨aa,nn,cc,h1,h2.to (by decide) hk hS (fun _ _ e=>e)⟩
theorem vY.to {S R T:Nat→Prop} {w w':World} {x:It} {cs:List Value} (h:vY S w x cs) (hk:ak R w w') (hS : ∀b,S b→b<w.heap.size→¬R b∧T b):vY T w' x cs:=by
 obtain⟨aa,nn,cc,h1,h2⟩:=h
 exact⟨aa,nn,cc,h1,h2.to hk hS⟩
theorem BM.to {S R T:Nat→Prop} {w w':World} {x:Se} {cs:List Value} (h:BM S w x cs) (hk:ak R w w') (hS : ∀b,S b→b<w.heap.size→¬R b∧T b):BM T w' x cs:=by
 obtain⟨k,op,tb,nm,vk,vn,vs,ys,aa,nn,cc,h1,h2,h3⟩:=h
 exact⟨k,op,tb,nm,vk,vn,vs,ys,aa,nn,cc,h1,h2,h3.to hk hS⟩
theorem ku.to {S R T:Nat→Prop} {w w':World} {x:Co} {cs:List Value} (h:ku S w x cs) (hk:ak R w w') (hS : ∀b,S b→b<w.heap.size→¬R b∧T b):ku T w' x cs:=h
theorem Ib.to {S R T:Nat→Prop} {w w':World} {x:Vl} {cs:List Value} (h:Ib S w x cs) (hk:ak R w w') (hS : ∀b,S b→b<w.heap.size→¬R b∧T b):Ib T w' x cs:=h
theorem fD.to {S R T:Nat→Prop} {w w':World} {x:St} {cs:List Value} (h:fD S w x cs) (hk:ak R w w') (hS : ∀b,S b→b<w.heap.size→¬R b∧T b):fD T w' x cs:=by
 obtain⟨a1,a2,a3,a4,a5,a6,a7,a8,n1,n2,n3,n4,n5,n6,n7,n8,c1,c2,c3,c4,c5,c6,c7,c8,h0,h1,h2,h3,h4,h5,h6,h7,h8⟩:=h
 exact⟨a1,a2,a3,a4,a5,a6,a7,a8,n1,n2,n3,n4,n5,n6,n7,n8,c1,c2,c3,c4,c5,c6,c7,c8,h0,h1.to (by decide) hk hS (fun _ _ e=>e),h2.to (by decide) hk hS (fun _ _ e=>e.to hk hS),h3.to (by decide) hk hS (fun _ _ e=>e.to hk hS),h4.to (by decide) hk hS (fun _ _ e=>e.to hk hS),h5.to hk hS,h6.to hk hS,h7.to hk hS,h8.to hk hS⟩
end Go.Proofs.YtfeglkleoijlaaaGreatDoor
namespace Go.Proofs.YtfeglkleoijlaaaGreatDoor
set_option linter.unusedSimpArgs false
set_option linter.unusedVariables false
set_option maxHeartbeats 8000000
def aU (s:List UInt8):Bool:=decide (0<s.length)&&(decide (s.length≤16)&&(dh gZ (s.headD 0)&&decide (row (dh fK) s=s.length)))
def dV (v:Vl):Bool:=decide (eY v=0)&&decide (-9223372036854775807≤v.n∧v.n≤9223372036854775807)
def bg (s:List UInt8):Tk:=if 65≤s.headD 0∧s.headD 0≤90 then ⟨2,s,0,0⟩ else ⟨5,s,0,0⟩
def dQ (s:List UInt8):Tk:=⟨1,s,0,0⟩
def IW (n:Int):Tk:=⟨3,[],n,0⟩
def Zx (s:List UInt8):Tk:=⟨4,s,0,0⟩
inductive Tm where
 | val (v:Vl)
 | col (t n:List UInt8)
 | op (o:Int) (a b:Tm)
 | not (a:Tm)
 | neg (a:Tm)
 | zZ (a:Tm)
 | ny (a:Tm)
def Tm.ex:Tm→Ex
 | .val v=>ED v
 | .col t n=>Dc t n
 | .op o a b=>Ml o a.ex b.ex
 | .not a=>nA 4 a.ex
 | .neg a=>nA 5 a.ex
 | .zZ a=>nA 6 a.ex
 | .ny a=>nA 4 (nA 6 a.ex)
def Al:List (List UInt8 × Nat):=[([],0),([79,82],0),([65,78,68],1),([61],3),([60,62],3),([60],3),([60,61],3),([62],3),([62,61],3),([43],4),([45],4),([42],5),([47],5),([37],5)]
def vW (o:Int):List UInt8:=(Al.getD o.toNat ([],0)).1
def eu (o:Int):Nat:=(Al.getD o.toNat ([],0)).2
def Fh (o:Int):Nat:=if eu o=3 then 4 else eu o
def Tm.Hu:Tm→Bool
 | .zZ _=>true
 | _=>false
def Tm.isNum:Tm→Bool
 | .val v=>decide (v.k=1)&&decide (0≤v.n)
 | _=>false
def Tm.lv:Tm→Nat
 | .op o _ _=>eu o
 | .zZ _=>3
 | .ny _=>3
 | .not _=>2
 | _=>6
def nK (v:Vl):List Tk:=if v.k=2 then [Zx v.s] else if v.k=0 then [bg [78,85,76,76]] else if v.n<0 then [bg [45],IW (-v.n)] else [IW v.n]
def oV (l lv:Nat) (ts:List Tk):List Tk:=if l≤lv then ts else bg [40]::(ts++[bg [41]])
def pO (l lv d:Nat):Nat:=if l≤lv then d else d+1
def negL (a:Tm):Nat:=if a.isNum=true then 7 else 6
def isK:Tk:=bg [73,83]
def Ji:Tk:=bg [78,79,84]
def Zf:Tk:=bg [78,85,76,76]
def Tm.tk:Tm→List Tk
 | .val v=>nK v
 | .col t n=>if t=[] then [dQ n] else [dQ t,bg [46],dQ n]
 | .op o a b=>oV (Fh o) a.lv a.tk++bg (vW o)::oV (eu o+1) b.lv b.tk
 | .not a=>Ji::oV 2 a.lv a.tk
 | .neg a=>bg [45]::oV (negL a) a.lv a.tk
 | .zZ a=>oV 4 a.lv a.tk++[isK,Zf]
 | .ny a=>oV 4 a.lv a.tk++[isK,Ji,Zf]
def Tm.dp:Tm→Nat
 | .val _=>0
 | .col _ _=>0
 | .op o a b=>max (pO (Fh o) a.lv a.dp) (pO (eu o+1) b.lv b.dp)
 | .not a=>pO 2 a.lv a.dp+1
 | .neg a=>pO (negL a) a.lv a.dp+1
 | .zZ a=>pO 4 a.lv a.dp
 | .ny a=>pO 4 a.lv a.dp
def Tm.ok:Tm→Prop
 | .val v=>dV v=true
 | .col t n=>aU n=true∧(t=[]∨aU t=true)
 | .op o a b=>1≤o∧o≤13∧a.ok∧b.ok
 | .not a=>a.Hu=false∧a.ok
 | .neg a=>a.ok
 | .zZ a=>a.ok
 | .ny a=>a.ok
def Tm.sz:Tm→Nat
 | .val _=>1
 | .col _ _=>1
 | .op _ a b=>a.sz+b.sz+1
 | .not a=>a.sz+1
 | .neg a=>a.sz+1
 | .zZ a=>a.sz+1
 | .ny a=>a.sz+2
theorem jA (l lv:Nat) (ts:List Tk):ts.length≤(oV l lv ts).length∧(oV l lv ts).length≤ts.length+2:=by
 unfold oV
 split
 ·omega
 ·simp only[aa1,aaN,List.length_nil];omega
theorem wK (v:Vl):1≤(nK v).length∧(nK v).length≤2:=by
 unfold nK
 split
 ·simp
 ·split
  ·simp
  ·split<;>simp
theorem LH (t:Tm):1≤t.sz:=by cases t<;>simp[Tm.sz]
theorem L8 (t:Tm):1≤t.tk.length∧t.tk.length+2≤8*t.sz:=by
 induction t with
 | val v=>have:=wK v;simp only[Tm.tk,Tm.sz];omega
 | col t n=>simp only[Tm.tk,Tm.sz];split<;>simp
 |
  op o a b ha hb =>
  have h1:=jA (Fh o) a.lv a.tk
  have h2:=jA (eu o+1) b.lv b.tk
  simp only[Tm.tk,Tm.sz,aaN,aa1]
  omega
 | not a ha=>have h1:=jA 2 a.lv a.tk;simp only[Tm.tk,Tm.sz,aa1];omega
 | neg a ha=>have h1:=jA (negL a) a.lv a.tk;simp only[Tm.tk,Tm.sz,aa1];omega
 | zZ a ha=>have h1:=jA 4 a.lv a.tk;simp only[Tm.tk,Tm.sz,aaN,aa1,List.length_nil];omega
 | ny a ha=>have h1:=jA 4 a.lv a.tk;simp only[Tm.tk,Tm.sz,aaN,aa1,List.length_nil];omega
theorem mD (l lv d:Nat):d≤pO l lv d∧pO l lv d≤d+1:=by unfold pO;split<;>omega
theorem Rl (t:Tm):t.dp+2≤2*t.sz:=by
 induction t with
 | val v=>simp[Tm.dp,Tm.sz]
 | col t n=>simp[Tm.dp,Tm.sz]
 |
  op o a b ha hb =>
  have h1:=mD (Fh o) a.lv a.dp
  have h2:=mD (eu o+1) b.lv b.dp
  have h3:=LH a
  have h4:=LH b
  simp only[Tm.dp,Tm.sz]
  omega
 | not a ha=>have h1:=mD 2 a.lv a.dp;simp only[Tm.dp,Tm.sz];omega
 | neg a ha=>have h1:=mD (negL a) a.lv a.dp;simp only[Tm.dp,Tm.sz];omega
 | zZ a ha=>have h1:=mD 4 a.lv a.dp;simp only[Tm.dp,Tm.sz];omega
 | ny a ha=>have h1:=mD 4 a.lv a.dp;simp only[Tm.dp,Tm.sz];omega
theorem Db {v:Vl} (hv:dV v=true):(v.k=2∧v.n=0∧v.s.length≤40)∨(v.k=0∧v.n=0∧v.s=[])∨(v.k=1∧v.s=[]∧-9223372036854775807≤v.n∧v.n≤9223372036854775807):=by
 unfold dV at hv
 simp only[aaC,aaI] at hv
 obtain⟨hr,hm⟩:=hv
 unfold eY at hr
 by_cases he:eqv v (gN v)=false
 ·rw[if_pos he] at hr;cases hr
 ·rw[if_neg he] at hr
  have he:=jB.1 (by simpa using he)
  have hlen:v.s.length≤40:=by
   by_cases h:40<v.s.length
   ·rw[if_pos h] at hr;cases hr
   ·omega
  unfold gN at he
  by_cases h1:v.k=1
  ·rw[if_pos h1] at he;exact .inr (.inr ⟨h1,congrArg Vl.s he,hm⟩)
  ·rw[if_neg h1] at he
   by_cases h2:v.k=2
   ·rw[if_pos h2] at he;exact .inl ⟨h2,congrArg Vl.n he,hlen⟩
   ·rw[if_neg h2] at he;exact .inr (.inl ⟨congrArg Vl.k he,congrArg Vl.n he,congrArg Vl.s he⟩)
theorem FI (o:Int) (h1:1≤o) (h2:o≤13):o=1∨o=2∨o=3∨o=4∨o=5∨o=6∨o=7∨o=8∨o=9∨o=10∨o=11∨o=12∨o=13:=by omega
theorem WE (o:Int) (h1:1≤o) (h2:o≤13):eu o=0∨eu o=1∨eu o=3∨eu o=4∨eu o=5:=by
 rcases FI o h1 h2 with rfl | rfl | rfl | rfl | rfl | rfl | rfl | rfl | rfl | rfl | rfl | rfl | rfl<;>decide
def Tm.mkNot:Tm→Tm
 | .zZ x=>.ny x
 | t=>.not t
def nD:Ex→Tm
 |
  .mk k op tb nm v xs =>
  if k=1 then .val v else if k=2 then .col tb nm else
  match xs with
  | [a]=>if k=4 then (nD a).mkNot else if k=5 then .neg (nD a) else .zZ (nD a)
  | [a,b]=>.op op (nD a) (nD b)
  | _=>.val zV
termination_by e=>SizeOf.sizeOf e
decreasing_by all_goals (simp_wf;omega)
theorem Uc (t:Tm) (h:t.ok):nD t.ex=t:=by
 induction t with
 | val v=>show nD (.mk 1 0 [] [] v [])=_;simp[nD]
 | col a b=>show nD (.mk 2 0 a b zV [])=_;simp[nD]
 | op o a b ha hb=>show nD (.mk 3 o [] [] zV [a.ex,b.ex])=_;rw[nD,ha h.2.2.1,hb h.2.2.2];rfl
 |
  not a ha =>
  show nD (.mk 4 0 [] [] zV [a.ex])=_
  rw[nD,ha h.2]
  have hn:=h.1
  cases a with
  | zZ x=>cases hn
  | _=>rfl
 | neg a ha=>show nD (.mk 5 0 [] [] zV [a.ex])=_;rw[nD,ha h];rfl
 | zZ a ha=>show nD (.mk 6 0 [] [] zV [a.ex])=_;rw[nD,ha h];rfl
 |
  ny a ha =>
  show nD (.mk 4 0 [] [] zV [.mk 6 0 [] [] zV [a.ex]])=_
  rw[nD,nD,ha h];rfl
def aF:Ex→Bool
 |
  .mk k op tb nm v xs =>
  if k=1 then dV v&&(decide (op=0)&&decide (tb=[])&&decide (nm=[])&&decide (xs.length=0))
  else if k=2 then (aU nm&&(decide (tb=[])||aU tb))&&(decide (op=0)&&eqv v zV&&decide (xs.length=0))
  else if k=3 then (decide (1≤op∧op≤13)&&(decide (xs.length=2)&&xs.attach.all fun x=>aF x.1))&&(decide (tb=[])&&decide (nm=[])&&eqv v zV)
  else if k=4∨k=5∨k=6 then (decide (xs.length=1)&&xs.attach.all fun x=>aF x.1)&&(decide (op=0)&&decide (tb=[])&&decide (nm=[])&&eqv v zV)
  else false
termination_by e=>SizeOf.sizeOf e
decreasing_by all_goals (simp_wf;have:=List.sizeOf_lt_of_mem x.2;omega)
theorem all_attach {α:Type} (xs:List α) (p:α→Bool):(xs.attach.all fun x=>p x.1)=xs.all p:=by
 rw[Bool.eq_iff_iff,List.all_eq_true,List.all_eq_true]
 exact⟨fun h x hx=>h ⟨x,hx⟩ (List.mem_attach _ _),fun h x _=>h x.1 x.2⟩
theorem lW (k op:Int) (tb nm:List UInt8) (v:Vl) (xs:List Ex):aF (.mk k op tb nm v xs) =
  if k=1 then dV v&&(decide (op=0)&&decide (tb=[])&&decide (nm=[])&&decide (xs.length=0))
  else if k=2 then (aU nm&&(decide (tb=[])||aU tb))&&(decide (op=0)&&eqv v zV&&decide (xs.length=0))
  else if k=3 then (decide (1≤op∧op≤13)&&(decide (xs.length=2)&&xs.all aF))&&(decide (tb=[])&&decide (nm=[])&&eqv v zV)
  else if k=4∨k=5∨k=6 then (decide (xs.length=1)&&xs.all aF)&&(decide (op=0)&&decide (tb=[])&&decide (nm=[])&&eqv v zV)
  else false:=by
 rw[aF,all_attach]
theorem G5:eqv zV zV=true:=by decide
theorem qp : ∀(n:Nat) (e:Ex),SizeOf.sizeOf e<n→aF e=true→∃t:Tm,t.ok∧t.ex=e
 |
  n+1,.mk k op tb nm v xs,hn,h=>by
  rw[lW] at h
  split at h
  ·rename_i h1
   simp only[aaC,aaI] at h
   obtain⟨hv,⟨⟨h2,h3⟩,h4⟩,h5⟩:=h
   obtain rfl:xs=[]:=aaR h5
   subst h1 h2 h3 h4
   exact⟨.val v,hv,rfl⟩
  ·split at h
   ·rename_i h1
    simp only[aaC,Bool.or_eq_true,aaI] at h
    obtain⟨⟨hnn,ht⟩,⟨h2,h3⟩,h4⟩:=h
    obtain rfl:xs=[]:=aaR h4
    obtain rfl:=jB.1 h3
    subst h1 h2
    exact⟨.col tb nm,⟨hnn,ht⟩,rfl⟩
   ·split at h
    ·rename_i h1
     simp only[aaC,aaI] at h
     obtain⟨⟨ho,hl,ha⟩,⟨h2,h3⟩,h4⟩:=h
     obtain rfl:=jB.1 h4
     match xs,hl with
     |
      [a,b],_ =>
      simp only[List.all_cons,List.all_nil,Bool.and_true,aaC] at ha
      obtain⟨ta,Vx,ea⟩:=qp n a (by simp at hn;omega) ha.1
      obtain⟨tb',okb,eb⟩:=qp n b (by simp at hn;omega) ha.2
      subst h1 h2 h3
      exact⟨.op op ta tb',⟨ho.1,ho.2,Vx,okb⟩,by rw[← ea,← eb];rfl⟩
    ·split at h
     ·rename_i h1
      simp only[aaC,aaI] at h
      obtain⟨⟨hl,ha⟩,⟨⟨h2,h3⟩,h4⟩,h5⟩:=h
      obtain rfl:=jB.1 h5
      match xs,hl with
      |
       [a],_ =>
       simp only[List.all_cons,List.all_nil,Bool.and_true] at ha
       obtain⟨ta,Vx,ea⟩:=qp n a (by simp at hn;omega) ha
       subst h2 h3 h4
       rcases h1 with rfl | rfl | rfl
       ·cases hN:ta.Hu with
        | false=>exact⟨.not ta,⟨hN,Vx⟩,by rw[← ea];rfl⟩
        |
         true =>
         cases ta with
         | zZ x=>exact⟨.ny x,Vx,by rw[← ea];rfl⟩
         | _=>cases hN
       ·exact⟨.neg ta,Vx,by rw[← ea];rfl⟩
       ·exact⟨.zZ ta,Vx,by rw[← ea];rfl⟩
     ·cases h
theorem tq {e:Ex} (h:aF e=true):(nD e).ok∧(nD e).ex=e:=by
 obtain⟨t,h1,h2⟩:=qp (SizeOf.sizeOf e+1) e (Nat.lt_succ_self _) h
 rw[← h2,Uc t h1]
 exact⟨h1,rfl⟩
def qb (e:Ex):List Tk:=(nD e).tk
def jw (e:Ex):Nat:=(nD e).dp
def pX (e:Ex):Nat:=(nD e).sz
def aV (sep:Tk):List (List Tk)→List Tk
 | []=>[]
 | x::l=>x++l.flatMap fun y=>sep::y
theorem lV (sep:Tk) (l:List (List Tk)) (y:List Tk):aV sep (l++[y])=if l=[] then y else aV sep l++sep::y:=by
 cases l with
 | nil=>simp[aV]
 | cons x l=>simp[aV,List.flatMap_append]
def ay (l:List (List UInt8)):List Tk:=l.map bg
def bM (xs:List Ex) (ws:List (List UInt8)):List Tk:=xs.flatMap fun e=>ay ws++qb e
def aZ (l:List Nat):Nat:=l.foldr max 0
def dH (l:List Ex):Nat:=aZ (l.map jw)
def mG (c:Co):List Tk:=dQ c.nm::bg (if c.k=1 then [73,78,84] else [84,69,88,84])::((if c.nn=true then ay [[78,79,84],[78,85,76,76]] else [])++(if c.uq=true then ay [[85,78,73,81,85,69]] else []))
def oU (r:List Vl):List Tk:=bg [40]::(aV (bg [44]) (r.map nK)++[bg [41]])
def xR (s:Se):List Tk:=dQ s.nm::bg [61]::qb s.e
def PE (k:Int):List UInt8:=if k=4 then [67,79,85,78,84] else if k=5 then [83,85,77] else if k=6 then [77,73,78] else [77,65,88]
def Fx (i:It):List Tk:=if i.k=1 then [bg [42]] else if i.k=2 then qb (i.xs.headD tO) else if i.k=3 then ay [[67,79,85,78,84],[40],[42],[41]] else ay [PE i.k,[40]]++(qb (i.xs.headD tO)++[bg [41]])
def KJ (i:It):Nat:=dH i.xs
def QT (s:St):List Tk :=
 bg [83,69,76,69,67,84]::(aV (bg [44]) (s.items.map Fx)++bg [70,82,79,77]::dQ s.tb::((if s.jn=[] then [] else [bg [74,79,73,78],dQ s.jn])++(bM s.on [[79,78]]++(bM s.wh [[87,72,69,82,69]]++(bM s.gr [[71,82,79,85,80],[66,89]]++(bM s.od [[79,82,68,69,82],[66,89]]++((if s.desc=true then [bg [68,69,83,67]] else [])++(if s.lim = -1 then [] else [bg [76,73,77,73,84],IW s.lim]))))))))
def U4 (s:St):List Tk :=
 ay [[67,82,69,65,84,69],[84,65,66,76,69]]++dQ s.tb::bg [40]::(aV (bg [44]) (s.aC.map mG)++(ay [[44],[80,82,73,77,65,82,89],[75,69,89],[40]]++dQ s.aD::ay [[41],[41]]))
def o7 (s:St):List Tk :=
 if s.k=1 then U4 s
 else if s.k=2 then ay [[68,82,79,80],[84,65,66,76,69]]++[dQ s.tb]
 else if s.k=3 then ay [[73,78,83,69,82,84],[73,78,84,79]]++dQ s.tb::bg [86,65,76,85,69,83]::aV (bg [44]) (s.rows.map oU)
 else if s.k=4 then bg [85,80,68,65,84,69]::dQ s.tb::bg [83,69,84]::(aV (bg [44]) (s.sets.map xR)++bM s.wh [[87,72,69,82,69]])
 else if s.k=5 then ay [[68,69,76,69,84,69],[70,82,79,77]]++dQ s.tb::bM s.wh [[87,72,69,82,69]]
 else QT s
def tQ (s:St):Nat :=
 if s.k=4 then max (aZ (s.sets.map fun x=>jw x.e)) (dH s.wh)
 else if s.k=5 then dH s.wh
 else if s.k=6 then max (aZ (s.items.map KJ)) (max (dH s.on) (max (dH s.wh) (max (dH s.gr) (dH s.od))))
 else 0
def aR {α:Type} (xs:List α) (a b:Nat) (p:α→Bool):Bool:=decide (a≤xs.length∧xs.length≤b)&&xs.all p
def iV (c:Co):Bool:=aU c.nm&&decide (c.k=1∨c.k=2)
def om (r:List Vl):Bool:=aR r 1 8 dV
def j6 (s:Se):Bool:=aU s.nm&&aF s.e
def fV:Ex→Int
 | .mk k _ _ _ _ _=>k
def dO (e:Ex):Bool:=decide (fV e=2)&&aF e
def oQ (i:It):Bool:=if i.k=1∨i.k=3 then decide (i.xs.length=0) else if i.k=2∨i.k=4∨i.k=5∨i.k=6∨i.k=7 then aR i.xs 1 1 aF else false
def oI (s:List UInt8):Bool:=decide (s=[])||aU s
def gB (s:List UInt8):Nat:=if s=[] then 0 else 1
def yA (s:St):Bool :=
 aR s.items 1 8 oQ&&(oI s.jn&&(aR s.on (gB s.jn) (gB s.jn) aF&&(aR s.wh 0 1 aF&&(aR s.gr 0 1 dO&&(aR s.od 0 1 dO&&((!s.desc||decide (s.od.length=1))&&decide (-1≤s.lim∧s.lim≤9223372036854775807)))))))
def oF (s:St):Bool:=decide (s.k=0∧s.tb=[]∧s.aC.length=0∧s.aD=[]∧s.rows.length=0∧s.sets.length=0∧s.items.length=0∧s.jn=[]∧s.on.length=0∧s.wh.length=0∧s.gr.length=0∧s.od.length=0∧s.desc=false∧s.lim = -1)
def yF (s:St):St :=
 if s.k=1 then { s with k:=0,tb:=[],aC:=[],aD:=[] }
 else if s.k=3 then { s with k:=0,tb:=[],rows:=[] }
 else if s.k=4 then { s with k:=0,tb:=[],sets:=[],wh:=[] }
 else if s.k=5 then { s with k:=0,tb:=[],wh:=[] }
 else if s.k=6 then { s with k:=0,tb:=[],items:=[],jn:=[],on:=[],wh:=[],gr:=[],od:=[],desc:=false,lim:=-1 }
 else { s with k:=0,tb:=[] }
def lY (s:St):Bool :=
 if s.k=1 then aR s.aC 1 8 iV&&aU s.aD
 else if s.k=2 then true
 else if s.k=3 then aR s.rows 1 16 om
 else if s.k=4 then aR s.sets 1 8 j6&&aR s.wh 0 1 aF
 else if s.k=5 then aR s.wh 0 1 aF
 else if s.k=6 then yA s
 else false
def aQ (s:St):Bool:=lY s&&(aU s.tb&&oF (yF s))
open Go.RowKit Go.Shelf
set_option maxRecDepth 20000
def UE (t:Tk):Prop:=t.s.length≤40∧0≤t.n∧t.n≤9223372036854775807
theorem XO {t:Tk} (h:UE t):(wr t).length≤100:=by
 obtain⟨h1,h2,h3⟩:=h
 unfold wr
 split
 ·unfold Lib.itoa
  rw[if_neg (by omega)]
  have:=(oG t.n.toNat (by omega)).2.2.2.1
  omega
 ·split
  ·have:=Oa t.s
   simp
   omega
  ·omega
theorem uQ : ∀ps:List (List UInt8),(∀p∈ps,p.length≤100)→(Lib.joinTail [32] ps).length≤101*ps.length
 | [],_=>by simp[Lib.joinTail]
 |
  p::ps,h=>by
  have ih:=uQ ps (fun q hq=>h q (by simp[hq]))
  have hp:=h p (by simp)
  have e:Lib.joinTail [32] (p::ps)=32::(p++Lib.joinTail [32] ps):=by simp[Lib.joinTail]
  rw[e]
  simp
  omega
theorem join_le (ps:List (List UInt8)) (h : ∀p∈ps,p.length≤100):(Lib.join ps [32]).length≤101*ps.length:=by
 cases ps with
 | nil=>simp[Lib.join_nil]
 |
  cons p ps =>
  rw[Lib.join_cons]
  have:=uQ ps (fun q hq=>h q (by simp[hq]))
  have hp:=h p (by simp)
  simp
  omega
def Ug (ps:List (List UInt8)):List Value:=ps.map fun l=>.string (aj l)
def wD (l:List Tk):List (List UInt8):=(l.filter fun t=>t.k != 6).map wr
theorem Mg (l:List Tk) (t:Tk):wD (l++[t])=if t.k=6 then wD l else wD l++[wr t]:=by
 unfold wD
 rw[List.filter_append]
 by_cases h:t.k=6
 ·simp[h]
 ·simp[h]
theorem QJ (l:List Tk):(wD l).length≤l.length:=by
 unfold wD
 rw[List.length_map]
 exact List.length_filter_le _ _
theorem GH {α:Type} (xs:List α) (k:Nat) (x:α) (h:xs[k]?=some x):xs.take (k+1)=xs.take k++[x]:=by
 obtain⟨hk,e⟩:=aam.1 h
 rw[aaJ hk,e]
theorem Tryz.PY:(Tryz.prog.info? 9).map (fun i=>(i.zero,i.size,i.bytes))=some (some (.string ⟨#[]⟩),1,16):=by kernel_rfl
end Go.Proofs.YtfeglkleoijlaaaGreatDoor
