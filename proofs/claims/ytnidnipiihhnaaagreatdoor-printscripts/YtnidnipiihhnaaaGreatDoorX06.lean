/- Packed for the hand-in: PSl WPure WStm LWrite -/
import Derived.Test.YtnidnipiihhnaaaGreatDoorX05
import Derived.Test.YtnidnipiihhnaaaGreatDoorX04
namespace Go.Proofs.YtnidnipiihhnaaaGreatDoor
open Go.RowKit Go.Shelf
set_option linter.unusedSimpArgs false
set_option linter.unusedVariables false
set_option maxRecDepth 20000
set_option maxHeartbeats 8000000
theorem run_append_where {P:Program} (w:World) (base:Nat) (t ty e:TypeId) (i:TypeInfo) (z:Value) (size bytes:Nat) (ht:P.underlying t=some (.slice e)) (hi:P.info? e=some i) (hz:i.zero=some z)
  (hsize:i.size=size) (hby:i.bytes=bytes) (hzs:z.cells.size=size) (hsz:0<size)
  (v:Value) (n:Nat) (xs:List Value) (hown:w.ownsRow base e size v n xs)
  (a:Addr) (c:Nat) (news:List Value) (hl:news.length=size) (hnews : ∀j u,news[j]?=some u→w.cell? (a.add j)=some u) (h1 : ∀u∈news,u.oneCell'=true)
  (h63:n+1≤maxLen) (hbytes:(n+1)*bytes≤140737488355328) (hbase:base≤w.heap.size) :
  ∃
   v' w',(Builtin.append_ #[t,t] ty #[v,.slice (some a) 1 c]).run P w = .ok v' w'∧w'.ownsRow base e size v' (n+1) (xs++news)∧w.grownBy w' v.ownBlock ∧
   (v'.ownBlock=v.ownBlock∨v'.ownBlock=some w.heap.size):=by
 obtain⟨v',w',hr,h2,h3,_⟩:=run_append_own (P:=P) w base t ty e i z size bytes ht hi hz hsize hby hzs hsz v n xs hown a 1 c news (by omega) hnews h1 h63 hbytes hbase
 refine ⟨v',w',hr,h2,h3,?_⟩
 subst hsize
 subst hby
 have hsmall:n+1≤9223372036854775807:=by simp only[maxLen] at h63;omega
 rcases hown.2 with⟨rfl,rfl⟩ | ⟨g,cap,cur,rfl,hbg,hg,hnc,hcm,hcs,htake⟩
 ·have hr2:=run_append_nil (P:=P) w t ty e i z ht hi hz a 1 c news (by omega) hnews (by omega) (by omega) (by have hb:=hbytes;simp only[Nat.zero_add] at hb;omega)
  rw[hr2] at hr
  injection hr with e1 e2
  rw[← e1]
  exact .inr rfl
 ·by_cases hroom:n+1≤cap
  ·have hfit:n*i.size+news.length≤cur.size:=by rw[hl,hcs,← Nat.succ_mul];exact Nat.mul_le_mul_right _ hroom
   have hr2:=run_append_room (P:=P) w t ty e i ht hi g n cap cur hg a 1 c news (by omega) hnews h1 hroom hfit
   rw[hr2] at hr
   injection hr with e1 e2
   rw[← e1]
   exact .inl rfl
  ·have holds : ∀j u,xs[j]?=some u→w.cell? ((⟨g,0,none⟩:Addr).add j)=some u:=hown.cells (g:=g) rfl
   have hr2:=run_append_grow (P:=P) w t ty e i z ht hi hz ⟨g,0,none⟩ n cap xs hown.1 holds a 1 c news (by omega) hnews (by omega) (by omega) (growslice_fits (by omega) hbytes)
   rw[hr2] at hr
   injection hr with e1 e2
   rw[← e1]
   exact .inr rfl
theorem wpList_append_where {P:Program} {ops:Array Oper} {rest:List Oper} {o:Oper} {a:Act} {Q:Exit→Act→World→Prop} (w:World) (hgd:o.guard=none) (s x:Operand) (t:TypeId)
  (ho:o.op = .call { callee:=.builtin .append,args:=#[s,x],argTypes:=#[t,t] })
  (base:Nat) (e:TypeId) (i:TypeInfo) (z:Value) (size bytes:Nat) (ht:P.underlying t=some (.slice e)) (hi:P.info? e=some i) (hz:i.zero=some z)
  (hsize:i.size=size) (hby:i.bytes=bytes) (hzs:z.cells.size=size) (hsz:0<size)
  (v:Value) (n:Nat) (xs:List Value) (hs:a.eval s=v) (hown:w.ownsRow base e size v n xs)
  (ad:Addr) (c:Nat) (news:List Value) (hx:a.eval x = .slice (some ad) 1 c) (hl:news.length=size) (hnews : ∀j u,news[j]?=some u→w.cell? (ad.add j)=some u) (h1 : ∀u∈news,u.oneCell'=true)
  (h63:n+1≤maxLen) (hbytes:(n+1)*bytes≤140737488355328) (hbase:base≤w.heap.size)
  (h : ∀v' w',w'.ownsRow base e size v' (n+1) (xs++news)→w.grownBy w' v.ownBlock→(v'.ownBlock=v.ownBlock∨v'.ownBlock=some w.heap.size)→wpList P ops Q rest (a.put o.dst v') w'):wpList P ops Q (o::rest) a w:=by
 obtain⟨v',w',hr,h2,h3,h4⟩:=run_append_where (P:=P) w base t o.type e i z size bytes ht hi hz hsize hby hzs hsz v n xs hown ad c news hl hnews h1 h63 hbytes hbase
 refine wpList_plain hgd fun _ hK=>?_
 unfold Oper.wp execOp
 simp only[ho,resolve,invoke,builtin,Sem.run_bind,Sem.run_pure,Result.andThen_ok,List.map_toArray,List.map_cons,List.map_nil,hs,hx,hr]
 exact hK _ _ (h v' w' h2 h3 h4)
def Els {α:Type} (z:Nat) (El:(Nat→Prop)→World→α→List Value→Prop) (S:Nat→Prop) (w:World) (xs:List α) (css:List (List Value)):Prop :=
 css.length=xs.length∧∀(j:Nat) (x:α) (cs:List Value),xs[j]?=some x→css[j]?=some cs→cs.length=z∧El S w x cs
theorem Els.nil {α:Type} {z:Nat} {El:(Nat→Prop)→World→α→List Value→Prop} {S:Nat→Prop} {w:World}:Els z El S w [] []:=⟨rfl,fun j x cs h=>by simp at h⟩
theorem Els.snoc {α:Type} {z:Nat} {El:(Nat→Prop)→World→α→List Value→Prop} {S:Nat→Prop} {w:World} {xs:List α} {css:List (List Value)} (h:Els z El S w xs css) {x:α} {cs:List Value} (hl:cs.length=z) (he:El S w x cs):Els z El S w (xs++[x]) (css++[cs]):=by
 obtain⟨h1,h2⟩:=h
 refine ⟨by simp[h1],fun j y ds hy hd=>?_⟩
 rcases Nat.lt_or_ge j xs.length with hj | hj
 ·rw[List.getElem?_append_left hj] at hy
  rw[List.getElem?_append_left (by omega)] at hd
  exact h2 j y ds hy hd
 ·rw[List.getElem?_append_right hj] at hy
  rw[List.getElem?_append_right (by omega),h1] at hd
  cases hk:j-xs.length with
  |
   zero =>
   rw[hk] at hy hd
   simp only[List.getElem?_cons_zero,Option.some.injEq] at hy hd
   subst hy hd
   exact⟨hl,he⟩
  | succ k=>rw[hk] at hy;simp at hy
theorem Els.to {α:Type} {z:Nat} {El:(Nat→Prop)→World→α→List Value→Prop} {S T:Nat→Prop} {w w':World} {xs:List α} {css:List (List Value)} (h:Els z El S w xs css) (hE : ∀x cs,El S w x cs→El T w' x cs):Els z El T w' xs css :=
 ⟨h.1,fun j x cs hx hc=>⟨(h.2 j x cs hx hc).1,hE x cs (h.2 j x cs hx hc).2⟩⟩
def SlAt {α:Type} (z:Nat) (El:(Nat→Prop)→World→α→List Value→Prop) (S:Nat→Prop) (w:World) (xs:List α) (v:Value):Prop :=
 ∃
  (a:Option Addr) (c:Nat) (css:List (List Value)),v = .slice a xs.length c∧xs.length≤c∧c≤maxLen∧Els z El S w xs css ∧
  (xs≠[]→∃b off,a=some ⟨b,off,none⟩∧S b∧∀(j:Nat) (cs:List Value),css[j]?=some cs→∀(i:Nat) (u:Value),cs[i]?=some u→w.cell? ⟨b,off+j*z+i,none⟩=some u)
theorem SlAt.nil {α:Type} {z:Nat} {El:(Nat→Prop)→World→α→List Value→Prop} {S:Nat→Prop} {w:World}:SlAt z El S w ([]:List α) (.slice none 0 0) :=
 ⟨none,0,[],rfl,Nat.le_refl _,Nat.zero_le _,Els.nil,fun h=>absurd rfl h⟩
theorem SlAt.to {α:Type} {z:Nat} {El:(Nat→Prop)→World→α→List Value→Prop} {S R T:Nat→Prop} {w w':World} {xs:List α} {v:Value} (hz:0<z) (h:SlAt z El S w xs v) (hk:Spares R w w') (hS : ∀b,S b→b<w.heap.size→¬R b∧T b) (hE : ∀x cs,El S w x cs→El T w' x cs):SlAt z El T w' xs v:=by
 obtain⟨a,c,css,h1,h2,h3,h4,h5⟩:=h
 refine ⟨a,c,css,h1,h2,h3,h4.to hE,fun hne=>?_⟩
 obtain⟨b,off,ha,hb,hc⟩:=h5 hne
 have hlt:b<w.heap.size:=by
  cases xs with
  | nil=>exact absurd rfl hne
  |
   cons x l =>
   cases css with
   | nil=>have:=h4.1;simp at this
   |
    cons cs css =>
    have:=h4.2 0 x cs rfl rfl
    cases cs with
    | nil=>have:=this.1;simp at this;omega
    | cons u cs=>exact World.block_lt_of_cell? w _ (hc 0 (u::cs) rfl 0 u rfl)
 obtain⟨h6,h7⟩:=hS b hb hlt
 exact⟨b,off,ha,h7,fun j cs hj i u hu=>hk.cell (hc j cs hj i u hu) h6⟩
theorem SlAt.form {α:Type} {z:Nat} {El:(Nat→Prop)→World→α→List Value→Prop} {S:Nat→Prop} {w:World} {xs:List α} {v:Value} (h:SlAt z El S w xs v):∃a c,v = .slice a xs.length c:=by
 obtain⟨a,c,css,h1,_⟩:=h
 exact⟨a,c,h1⟩
def ColE (_:Nat→Prop) (_:World) (x:Co) (cs:List Value):Prop:=cs=[.string (str8 x.nm),.int .i64 x.k,.bool x.nn,.bool x.uq]
def VlE (_:Nat→Prop) (_:World) (x:Vl) (cs:List Value):Prop:=cs=[.int .i64 x.k,.int .i64 x.n,.string (str8 x.s)]
def VsE (S:Nat→Prop) (w:World) (x:List Vl) (cs:List Value):Prop:=∃(aa:Option Addr) (nn cc:Nat),cs=[.slice aa nn cc]∧SlAt 3 VlE S w x (.slice aa nn cc)
def ItE (S:Nat→Prop) (w:World) (x:It) (cs:List Value):Prop:=∃(aa:Option Addr) (nn cc:Nat),cs=[.int .i64 x.k,.slice aa nn cc]∧ArgsAt S w x.xs (.slice aa nn cc)
def SeE (S:Nat→Prop) (w:World) (x:Se) (cs:List Value):Prop :=
 ∃(k op:Int) (tb nm:List UInt8) (vk vn:Int) (vs:List UInt8) (ys:List Ex) (aa:Option Addr) (nn cc:Nat),x.e = .mk k op tb nm ⟨vk,vn,vs⟩ ys∧cs=[.string (str8 x.nm),.int .i64 k,.int .i64 op,.string (str8 tb),.string (str8 nm),.int .i64 vk,.int .i64 vn,.string (str8 vs),.slice aa nn cc]∧ArgsAt S w ys (.slice aa nn cc)
def StE (S:Nat→Prop) (w:World) (x:St) (cs:List Value):Prop :=
 ∃
  (a1 a2 a3 a4 a5 a6 a7 a8:Option Addr) (n1 n2 n3 n4 n5 n6 n7 n8 c1 c2 c3 c4 c5 c6 c7 c8:Nat),
  cs=[.int .i64 x.k,.string (str8 x.tb),.slice a1 n1 c1,.string (str8 x.prim),.slice a2 n2 c2,.slice a3 n3 c3,.slice a4 n4 c4,.string (str8 x.jn),.slice a5 n5 c5,.slice a6 n6 c6,.slice a7 n7 c7,.slice a8 n8 c8,.bool x.desc,.int .i64 x.lim] ∧
  SlAt 4 ColE S w x.cols (.slice a1 n1 c1)∧SlAt 1 VsE S w x.rows (.slice a2 n2 c2)∧SlAt 9 SeE S w x.sets (.slice a3 n3 c3)∧SlAt 2 ItE S w x.items (.slice a4 n4 c4) ∧
  ArgsAt S w x.on (.slice a5 n5 c5)∧ArgsAt S w x.wh (.slice a6 n6 c6)∧ArgsAt S w x.gr (.slice a7 n7 c7)∧ArgsAt S w x.od (.slice a8 n8 c8)
theorem VsE.to {S R T:Nat→Prop} {w w':World} {x:List Vl} {cs:List Value} (h:VsE S w x cs) (hk:Spares R w w') (hS : ∀b,S b→b<w.heap.size→¬R b∧T b):VsE T w' x cs:=by
 obtain⟨aa,nn,cc,h1,h2⟩:=h
 exact⟨aa,nn,cc,h1,h2.to (by decide) hk hS (fun _ _ e=>e)⟩
theorem ItE.to {S R T:Nat→Prop} {w w':World} {x:It} {cs:List Value} (h:ItE S w x cs) (hk:Spares R w w') (hS : ∀b,S b→b<w.heap.size→¬R b∧T b):ItE T w' x cs:=by
 obtain⟨aa,nn,cc,h1,h2⟩:=h
 exact⟨aa,nn,cc,h1,h2.to hk hS⟩
theorem SeE.to {S R T:Nat→Prop} {w w':World} {x:Se} {cs:List Value} (h:SeE S w x cs) (hk:Spares R w w') (hS : ∀b,S b→b<w.heap.size→¬R b∧T b):SeE T w' x cs:=by
 obtain⟨k,op,tb,nm,vk,vn,vs,ys,aa,nn,cc,h1,h2,h3⟩:=h
 exact⟨k,op,tb,nm,vk,vn,vs,ys,aa,nn,cc,h1,h2,h3.to hk hS⟩
theorem ColE.to {S R T:Nat→Prop} {w w':World} {x:Co} {cs:List Value} (h:ColE S w x cs) (hk:Spares R w w') (hS : ∀b,S b→b<w.heap.size→¬R b∧T b):ColE T w' x cs:=h
theorem VlE.to {S R T:Nat→Prop} {w w':World} {x:Vl} {cs:List Value} (h:VlE S w x cs) (hk:Spares R w w') (hS : ∀b,S b→b<w.heap.size→¬R b∧T b):VlE T w' x cs:=h
theorem StE.to {S R T:Nat→Prop} {w w':World} {x:St} {cs:List Value} (h:StE S w x cs) (hk:Spares R w w') (hS : ∀b,S b→b<w.heap.size→¬R b∧T b):StE T w' x cs:=by
 obtain⟨a1,a2,a3,a4,a5,a6,a7,a8,n1,n2,n3,n4,n5,n6,n7,n8,c1,c2,c3,c4,c5,c6,c7,c8,h0,h1,h2,h3,h4,h5,h6,h7,h8⟩:=h
 exact⟨a1,a2,a3,a4,a5,a6,a7,a8,n1,n2,n3,n4,n5,n6,n7,n8,c1,c2,c3,c4,c5,c6,c7,c8,h0,h1.to (by decide) hk hS (fun _ _ e=>e),h2.to (by decide) hk hS (fun _ _ e=>e.to hk hS),h3.to (by decide) hk hS (fun _ _ e=>e.to hk hS),h4.to (by decide) hk hS (fun _ _ e=>e.to hk hS),h5.to hk hS,h6.to hk hS,h7.to hk hS,h8.to hk hS⟩
def D0 (r:Rd):Prop:=r.bad=0→r.d=0
theorem D0.after {F:Nat} {α:Type} {p:Pa α} {r:Rd} (hp:Nice false F p) (hG:Good F r) (h:D0 r):D0 (p r).2:=fun hb=>by
 rw[(hp.fine r trivial hG).2.1]
 refine h ?_
 by_cases e:r.bad=0
 ·exact e
 ·rw[(hp.mono r e).1] at hb;exact hb
end Go.Proofs.YtnidnipiihhnaaaGreatDoor
namespace Go.Proofs.YtnidnipiihhnaaaGreatDoor
set_option linter.unusedSimpArgs false
set_option linter.unusedVariables false
set_option maxHeartbeats 8000000
def nameOk (s:List UInt8):Bool:=decide (0<s.length)&&(decide (s.length≤16)&&(inS lowsB (s.headD 0)&&decide (row (inS nameB) s=s.length)))
def valOk (v:Vl):Bool:=decide (rightV v=0)&&decide (-9223372036854775807≤v.n∧v.n≤9223372036854775807)
def fxT (s:List UInt8):Tk:=if 65≤s.headD 0∧s.headD 0≤90 then ⟨2,s,0,0⟩ else ⟨5,s,0,0⟩
def nmT (s:List UInt8):Tk:=⟨1,s,0,0⟩
def nuT (n:Int):Tk:=⟨3,[],n,0⟩
def txT (s:List UInt8):Tk:=⟨4,s,0,0⟩
inductive Tm where
 | val (v:Vl)
 | col (t n:List UInt8)
 | op (o:Int) (a b:Tm)
 | not (a:Tm)
 | neg (a:Tm)
 | nul (a:Tm)
 | nnul (a:Tm)
def Tm.ex:Tm→Ex
 | .val v=>exVal v
 | .col t n=>exCol t n
 | .op o a b=>exOp o a.ex b.ex
 | .not a=>exOf 4 a.ex
 | .neg a=>exOf 5 a.ex
 | .nul a=>exOf 6 a.ex
 | .nnul a=>exOf 4 (exOf 6 a.ex)
def opTab:List (List UInt8 × Nat):=[([],0),([79,82],0),([65,78,68],1),([61],3),([60,62],3),([60],3),([60,61],3),([62],3),([62,61],3),([43],4),([45],4),([42],5),([47],5),([37],5)]
def opTx (o:Int):List UInt8:=(opTab.getD o.toNat ([],0)).1
def opLv (o:Int):Nat:=(opTab.getD o.toNat ([],0)).2
def opL (o:Int):Nat:=if opLv o=3 then 4 else opLv o
def Tm.isNul:Tm→Bool
 | .nul _=>true
 | _=>false
def Tm.isNum:Tm→Bool
 | .val v=>decide (v.k=1)&&decide (0≤v.n)
 | _=>false
def Tm.lv:Tm→Nat
 | .op o _ _=>opLv o
 | .nul _=>3
 | .nnul _=>3
 | .not _=>2
 | _=>6
def litK (v:Vl):List Tk:=if v.k=2 then [txT v.s] else if v.k=0 then [fxT [78,85,76,76]] else if v.n<0 then [fxT [45],nuT (-v.n)] else [nuT v.n]
def atK (l lv:Nat) (ts:List Tk):List Tk:=if l≤lv then ts else fxT [40]::(ts++[fxT [41]])
def atD (l lv d:Nat):Nat:=if l≤lv then d else d+1
def negL (a:Tm):Nat:=if a.isNum=true then 7 else 6
def isK:Tk:=fxT [73,83]
def notK:Tk:=fxT [78,79,84]
def nulK:Tk:=fxT [78,85,76,76]
def Tm.tk:Tm→List Tk
 | .val v=>litK v
 | .col t n=>if t=[] then [nmT n] else [nmT t,fxT [46],nmT n]
 | .op o a b=>atK (opL o) a.lv a.tk++fxT (opTx o)::atK (opLv o+1) b.lv b.tk
 | .not a=>notK::atK 2 a.lv a.tk
 | .neg a=>fxT [45]::atK (negL a) a.lv a.tk
 | .nul a=>atK 4 a.lv a.tk++[isK,nulK]
 | .nnul a=>atK 4 a.lv a.tk++[isK,notK,nulK]
def Tm.dp:Tm→Nat
 | .val _=>0
 | .col _ _=>0
 | .op o a b=>max (atD (opL o) a.lv a.dp) (atD (opLv o+1) b.lv b.dp)
 | .not a=>atD 2 a.lv a.dp+1
 | .neg a=>atD (negL a) a.lv a.dp+1
 | .nul a=>atD 4 a.lv a.dp
 | .nnul a=>atD 4 a.lv a.dp
def Tm.ok:Tm→Prop
 | .val v=>valOk v=true
 | .col t n=>nameOk n=true∧(t=[]∨nameOk t=true)
 | .op o a b=>1≤o∧o≤13∧a.ok∧b.ok
 | .not a=>a.isNul=false∧a.ok
 | .neg a=>a.ok
 | .nul a=>a.ok
 | .nnul a=>a.ok
def Tm.sz:Tm→Nat
 | .val _=>1
 | .col _ _=>1
 | .op _ a b=>a.sz+b.sz+1
 | .not a=>a.sz+1
 | .neg a=>a.sz+1
 | .nul a=>a.sz+1
 | .nnul a=>a.sz+2
theorem atK_len (l lv:Nat) (ts:List Tk):ts.length≤(atK l lv ts).length∧(atK l lv ts).length≤ts.length+2:=by
 unfold atK
 split
 ·omega
 ·simp only[List.length_cons,List.length_append,List.length_nil];omega
theorem litK_len (v:Vl):1≤(litK v).length∧(litK v).length≤2:=by
 unfold litK
 split
 ·simp
 ·split
  ·simp
  ·split<;>simp
theorem sz_pos (t:Tm):1≤t.sz:=by cases t<;>simp[Tm.sz]
theorem tk_len (t:Tm):1≤t.tk.length∧t.tk.length+2≤8*t.sz:=by
 induction t with
 | val v=>have:=litK_len v;simp only[Tm.tk,Tm.sz];omega
 | col t n=>simp only[Tm.tk,Tm.sz];split<;>simp
 |
  op o a b ha hb =>
  have h1:=atK_len (opL o) a.lv a.tk
  have h2:=atK_len (opLv o+1) b.lv b.tk
  simp only[Tm.tk,Tm.sz,List.length_append,List.length_cons]
  omega
 | not a ha=>have h1:=atK_len 2 a.lv a.tk;simp only[Tm.tk,Tm.sz,List.length_cons];omega
 | neg a ha=>have h1:=atK_len (negL a) a.lv a.tk;simp only[Tm.tk,Tm.sz,List.length_cons];omega
 | nul a ha=>have h1:=atK_len 4 a.lv a.tk;simp only[Tm.tk,Tm.sz,List.length_append,List.length_cons,List.length_nil];omega
 | nnul a ha=>have h1:=atK_len 4 a.lv a.tk;simp only[Tm.tk,Tm.sz,List.length_append,List.length_cons,List.length_nil];omega
theorem atD_le (l lv d:Nat):d≤atD l lv d∧atD l lv d≤d+1:=by unfold atD;split<;>omega
theorem dp_le (t:Tm):t.dp+2≤2*t.sz:=by
 induction t with
 | val v=>simp[Tm.dp,Tm.sz]
 | col t n=>simp[Tm.dp,Tm.sz]
 |
  op o a b ha hb =>
  have h1:=atD_le (opL o) a.lv a.dp
  have h2:=atD_le (opLv o+1) b.lv b.dp
  have h3:=sz_pos a
  have h4:=sz_pos b
  simp only[Tm.dp,Tm.sz]
  omega
 | not a ha=>have h1:=atD_le 2 a.lv a.dp;simp only[Tm.dp,Tm.sz];omega
 | neg a ha=>have h1:=atD_le (negL a) a.lv a.dp;simp only[Tm.dp,Tm.sz];omega
 | nul a ha=>have h1:=atD_le 4 a.lv a.dp;simp only[Tm.dp,Tm.sz];omega
 | nnul a ha=>have h1:=atD_le 4 a.lv a.dp;simp only[Tm.dp,Tm.sz];omega
def Pl (F n:Nat):Nat→Pa Ex
 | 0=>exprQ F (lev F n)
 | 1=>andP F (lev F n)
 | 2=>notQ F (lev F n)
 | 3=>testP (sumP F (lev F n))
 | 4=>sumP F (lev F n)
 | 5=>termP F (lev F n)
 | _=>factorP (lev F n).fc (lev F n).ex
theorem val_kind {v:Vl} (hv:valOk v=true):(v.k=2∧v.n=0∧v.s.length≤40)∨(v.k=0∧v.n=0∧v.s=[])∨(v.k=1∧v.s=[]∧-9223372036854775807≤v.n∧v.n≤9223372036854775807):=by
 unfold valOk at hv
 simp only[Bool.and_eq_true,decide_eq_true_eq] at hv
 obtain⟨hr,hm⟩:=hv
 unfold rightV at hr
 by_cases he:eqv v (namedV v)=false
 ·rw[if_pos he] at hr;cases hr
 ·rw[if_neg he] at hr
  have he:=eqv_iff.1 (by simpa using he)
  have hlen:v.s.length≤40:=by
   by_cases h:40<v.s.length
   ·rw[if_pos h] at hr;cases hr
   ·omega
  unfold namedV at he
  by_cases h1:v.k=1
  ·rw[if_pos h1] at he;exact .inr (.inr ⟨h1,congrArg Vl.s he,hm⟩)
  ·rw[if_neg h1] at he
   by_cases h2:v.k=2
   ·rw[if_pos h2] at he;exact .inl ⟨h2,congrArg Vl.n he,hlen⟩
   ·rw[if_neg h2] at he;exact .inr (.inl ⟨congrArg Vl.k he,congrArg Vl.n he,congrArg Vl.s he⟩)
theorem op_tab (o:Int) (h1:1≤o) (h2:o≤13):o=1∨o=2∨o=3∨o=4∨o=5∨o=6∨o=7∨o=8∨o=9∨o=10∨o=11∨o=12∨o=13:=by omega
theorem op_lv (o:Int) (h1:1≤o) (h2:o≤13):opLv o=0∨opLv o=1∨opLv o=3∨opLv o=4∨opLv o=5:=by
 rcases op_tab o h1 h2 with rfl | rfl | rfl | rfl | rfl | rfl | rfl | rfl | rfl | rfl | rfl | rfl | rfl<;>decide
theorem lv_le (t:Tm) (hok:t.ok):t.lv≤6:=by
 cases t with
 | op o a b=>have:=op_lv o hok.1 hok.2.1;show opLv o≤6;omega
 | _=>simp[Tm.lv]
def Tm.mkNot:Tm→Tm
 | .nul x=>.nnul x
 | t=>.not t
def tmE:Ex→Tm
 |
  .mk k op tb nm v xs =>
  if k=1 then .val v else if k=2 then .col tb nm else
  match xs with
  | [a]=>if k=4 then (tmE a).mkNot else if k=5 then .neg (tmE a) else .nul (tmE a)
  | [a,b]=>.op op (tmE a) (tmE b)
  | _=>.val zV
termination_by e=>SizeOf.sizeOf e
decreasing_by all_goals (simp_wf;omega)
theorem tmE_ex (t:Tm) (h:t.ok):tmE t.ex=t:=by
 induction t with
 | val v=>show tmE (.mk 1 0 [] [] v [])=_;simp[tmE]
 | col a b=>show tmE (.mk 2 0 a b zV [])=_;simp[tmE]
 | op o a b ha hb=>show tmE (.mk 3 o [] [] zV [a.ex,b.ex])=_;rw[tmE,ha h.2.2.1,hb h.2.2.2];rfl
 |
  not a ha =>
  show tmE (.mk 4 0 [] [] zV [a.ex])=_
  rw[tmE,ha h.2]
  have hn:=h.1
  cases a with
  | nul x=>cases hn
  | _=>rfl
 | neg a ha=>show tmE (.mk 5 0 [] [] zV [a.ex])=_;rw[tmE,ha h];rfl
 | nul a ha=>show tmE (.mk 6 0 [] [] zV [a.ex])=_;rw[tmE,ha h];rfl
 |
  nnul a ha =>
  show tmE (.mk 4 0 [] [] zV [.mk 6 0 [] [] zV [a.ex]])=_
  rw[tmE,tmE,ha h];rfl
def rightE:Ex→Bool
 |
  .mk k op tb nm v xs =>
  if k=1 then valOk v&&(decide (op=0)&&decide (tb=[])&&decide (nm=[])&&decide (xs.length=0))
  else if k=2 then (nameOk nm&&(decide (tb=[])||nameOk tb))&&(decide (op=0)&&eqv v zV&&decide (xs.length=0))
  else if k=3 then (decide (1≤op∧op≤13)&&(decide (xs.length=2)&&xs.attach.all fun x=>rightE x.1))&&(decide (tb=[])&&decide (nm=[])&&eqv v zV)
  else if k=4∨k=5∨k=6 then (decide (xs.length=1)&&xs.attach.all fun x=>rightE x.1)&&(decide (op=0)&&decide (tb=[])&&decide (nm=[])&&eqv v zV)
  else false
termination_by e=>SizeOf.sizeOf e
decreasing_by all_goals (simp_wf;have:=List.sizeOf_lt_of_mem x.2;omega)
theorem all_attach {α:Type} (xs:List α) (p:α→Bool):(xs.attach.all fun x=>p x.1)=xs.all p:=by
 rw[Bool.eq_iff_iff,List.all_eq_true,List.all_eq_true]
 exact⟨fun h x hx=>h ⟨x,hx⟩ (List.mem_attach _ _),fun h x _=>h x.1 x.2⟩
theorem rightE_eq (k op:Int) (tb nm:List UInt8) (v:Vl) (xs:List Ex):rightE (.mk k op tb nm v xs) =
  if k=1 then valOk v&&(decide (op=0)&&decide (tb=[])&&decide (nm=[])&&decide (xs.length=0))
  else if k=2 then (nameOk nm&&(decide (tb=[])||nameOk tb))&&(decide (op=0)&&eqv v zV&&decide (xs.length=0))
  else if k=3 then (decide (1≤op∧op≤13)&&(decide (xs.length=2)&&xs.all rightE))&&(decide (tb=[])&&decide (nm=[])&&eqv v zV)
  else if k=4∨k=5∨k=6 then (decide (xs.length=1)&&xs.all rightE)&&(decide (op=0)&&decide (tb=[])&&decide (nm=[])&&eqv v zV)
  else false:=by
 rw[rightE,all_attach]
theorem eqv_zV:eqv zV zV=true:=by decide
theorem right_tm (t:Tm) (h:t.ok):rightE t.ex=true:=by
 induction t with
 |
  val v =>
  show rightE (.mk 1 0 [] [] v [])=true
  rw[rightE_eq,if_pos rfl,show valOk v=true from h];rfl
 |
  col a b =>
  show rightE (.mk 2 0 a b zV [])=true
  rw[rightE_eq,if_neg (by decide),if_pos rfl,h.1]
  rcases h.2 with h2 | h2
  ·subst h2;rfl
  ·rw[h2,Bool.or_true];rfl
 |
  op o a b ha hb =>
  show rightE (.mk 3 o [] [] zV [a.ex,b.ex])=true
  rw[rightE_eq,if_neg (by decide),if_neg (by decide),if_pos rfl,decide_eq_true (⟨h.1,h.2.1⟩:1≤o∧o≤13)]
  simp[ha h.2.2.1,hb h.2.2.2,eqv_zV]
 |
  not a ha =>
  show rightE (.mk 4 0 [] [] zV [a.ex])=true
  rw[rightE_eq,if_neg (by decide),if_neg (by decide),if_neg (by decide),if_pos (by decide)]
  simp[ha h.2,eqv_zV]
 |
  neg a ha =>
  show rightE (.mk 5 0 [] [] zV [a.ex])=true
  rw[rightE_eq,if_neg (by decide),if_neg (by decide),if_neg (by decide),if_pos (by decide)]
  simp[ha h,eqv_zV]
 |
  nul a ha =>
  show rightE (.mk 6 0 [] [] zV [a.ex])=true
  rw[rightE_eq,if_neg (by decide),if_neg (by decide),if_neg (by decide),if_pos (by decide)]
  simp[ha h,eqv_zV]
 |
  nnul a ha =>
  show rightE (.mk 4 0 [] [] zV [.mk 6 0 [] [] zV [a.ex]])=true
  rw[rightE_eq,if_neg (by decide),if_neg (by decide),if_neg (by decide),if_pos (by decide)]
  simp[rightE_eq,ha h,eqv_zV]
theorem right_has : ∀(n:Nat) (e:Ex),SizeOf.sizeOf e<n→rightE e=true→∃t:Tm,t.ok∧t.ex=e
 |
  n+1,.mk k op tb nm v xs,hn,h=>by
  rw[rightE_eq] at h
  split at h
  ·rename_i h1
   simp only[Bool.and_eq_true,decide_eq_true_eq] at h
   obtain⟨hv,⟨⟨h2,h3⟩,h4⟩,h5⟩:=h
   obtain rfl:xs=[]:=List.eq_nil_of_length_eq_zero h5
   subst h1 h2 h3 h4
   exact⟨.val v,hv,rfl⟩
  ·split at h
   ·rename_i h1
    simp only[Bool.and_eq_true,Bool.or_eq_true,decide_eq_true_eq] at h
    obtain⟨⟨hnn,ht⟩,⟨h2,h3⟩,h4⟩:=h
    obtain rfl:xs=[]:=List.eq_nil_of_length_eq_zero h4
    obtain rfl:=eqv_iff.1 h3
    subst h1 h2
    exact⟨.col tb nm,⟨hnn,ht⟩,rfl⟩
   ·split at h
    ·rename_i h1
     simp only[Bool.and_eq_true,decide_eq_true_eq] at h
     obtain⟨⟨ho,hl,ha⟩,⟨h2,h3⟩,h4⟩:=h
     obtain rfl:=eqv_iff.1 h4
     match xs,hl with
     |
      [a,b],_ =>
      simp only[List.all_cons,List.all_nil,Bool.and_true,Bool.and_eq_true] at ha
      obtain⟨ta,oka,ea⟩:=right_has n a (by simp at hn;omega) ha.1
      obtain⟨tb',okb,eb⟩:=right_has n b (by simp at hn;omega) ha.2
      subst h1 h2 h3
      exact⟨.op op ta tb',⟨ho.1,ho.2,oka,okb⟩,by rw[← ea,← eb];rfl⟩
    ·split at h
     ·rename_i h1
      simp only[Bool.and_eq_true,decide_eq_true_eq] at h
      obtain⟨⟨hl,ha⟩,⟨⟨h2,h3⟩,h4⟩,h5⟩:=h
      obtain rfl:=eqv_iff.1 h5
      match xs,hl with
      |
       [a],_ =>
       simp only[List.all_cons,List.all_nil,Bool.and_true] at ha
       obtain⟨ta,oka,ea⟩:=right_has n a (by simp at hn;omega) ha
       subst h2 h3 h4
       rcases h1 with rfl | rfl | rfl
       ·cases hN:ta.isNul with
        | false=>exact⟨.not ta,⟨hN,oka⟩,by rw[← ea];rfl⟩
        |
         true =>
         cases ta with
         | nul x=>exact⟨.nnul x,oka,by rw[← ea];rfl⟩
         | _=>cases hN
       ·exact⟨.neg ta,oka,by rw[← ea];rfl⟩
       ·exact⟨.nul ta,oka,by rw[← ea];rfl⟩
     ·cases h
theorem right_ok {e:Ex} (h:rightE e=true):(tmE e).ok∧(tmE e).ex=e:=by
 obtain⟨t,h1,h2⟩:=right_has (SizeOf.sizeOf e+1) e (Nat.lt_succ_self _) h
 rw[← h2,tmE_ex t h1]
 exact⟨h1,rfl⟩
def exK (e:Ex):List Tk:=(tmE e).tk
def exD (e:Ex):Nat:=(tmE e).dp
def exZ (e:Ex):Nat:=(tmE e).sz
def sepK (sep:Tk):List (List Tk)→List Tk
 | []=>[]
 | x::l=>x++l.flatMap fun y=>sep::y
theorem sepK_snoc (sep:Tk) (l:List (List Tk)) (y:List Tk):sepK sep (l++[y])=if l=[] then y else sepK sep l++sep::y:=by
 cases l with
 | nil=>simp[sepK]
 | cons x l=>simp[sepK,List.flatMap_append]
def wordsK (l:List (List UInt8)):List Tk:=l.map fxT
def partK (xs:List Ex) (ws:List (List UInt8)):List Tk:=xs.flatMap fun e=>wordsK ws++exK e
def maxL (l:List Nat):Nat:=l.foldr max 0
def exDs (l:List Ex):Nat:=maxL (l.map exD)
def colK (c:Co):List Tk:=nmT c.nm::fxT (if c.k=1 then [73,78,84] else [84,69,88,84])::((if c.nn=true then wordsK [[78,79,84],[78,85,76,76]] else [])++(if c.uq=true then wordsK [[85,78,73,81,85,69]] else []))
def vrowK (r:List Vl):List Tk:=fxT [40]::(sepK (fxT [44]) (r.map litK)++[fxT [41]])
def setK (s:Se):List Tk:=nmT s.nm::fxT [61]::exK s.e
def itW (k:Int):List UInt8:=if k=4 then [67,79,85,78,84] else if k=5 then [83,85,77] else if k=6 then [77,73,78] else [77,65,88]
def itK (i:It):List Tk:=if i.k=1 then [fxT [42]] else if i.k=2 then exK (i.xs.headD zEx) else if i.k=3 then wordsK [[67,79,85,78,84],[40],[42],[41]] else wordsK [itW i.k,[40]]++(exK (i.xs.headD zEx)++[fxT [41]])
def itD (i:It):Nat:=exDs i.xs
def selK (s:St):List Tk :=
 fxT [83,69,76,69,67,84]::(sepK (fxT [44]) (s.items.map itK)++fxT [70,82,79,77]::nmT s.tb::((if s.jn=[] then [] else [fxT [74,79,73,78],nmT s.jn])++(partK s.on [[79,78]]++(partK s.wh [[87,72,69,82,69]]++(partK s.gr [[71,82,79,85,80],[66,89]]++(partK s.od [[79,82,68,69,82],[66,89]]++((if s.desc=true then [fxT [68,69,83,67]] else [])++(if s.lim = -1 then [] else [fxT [76,73,77,73,84],nuT s.lim]))))))))
def crK (s:St):List Tk :=
 wordsK [[67,82,69,65,84,69],[84,65,66,76,69]]++nmT s.tb::fxT [40]::(sepK (fxT [44]) (s.cols.map colK)++(wordsK [[44],[80,82,73,77,65,82,89],[75,69,89],[40]]++nmT s.prim::wordsK [[41],[41]]))
def tkS (s:St):List Tk :=
 if s.k=1 then crK s
 else if s.k=2 then wordsK [[68,82,79,80],[84,65,66,76,69]]++[nmT s.tb]
 else if s.k=3 then wordsK [[73,78,83,69,82,84],[73,78,84,79]]++nmT s.tb::fxT [86,65,76,85,69,83]::sepK (fxT [44]) (s.rows.map vrowK)
 else if s.k=4 then fxT [85,80,68,65,84,69]::nmT s.tb::fxT [83,69,84]::(sepK (fxT [44]) (s.sets.map setK)++partK s.wh [[87,72,69,82,69]])
 else if s.k=5 then wordsK [[68,69,76,69,84,69],[70,82,79,77]]++nmT s.tb::partK s.wh [[87,72,69,82,69]]
 else selK s
def dpS (s:St):Nat :=
 if s.k=4 then max (maxL (s.sets.map fun x=>exD x.e)) (exDs s.wh)
 else if s.k=5 then exDs s.wh
 else if s.k=6 then max (maxL (s.items.map itD)) (max (exDs s.on) (max (exDs s.wh) (max (exDs s.gr) (exDs s.od))))
 else 0
def areB {α:Type} (xs:List α) (a b:Nat) (p:α→Bool):Bool:=decide (a≤xs.length∧xs.length≤b)&&xs.all p
def colB (c:Co):Bool:=nameOk c.nm&&decide (c.k=1∨c.k=2)
def rowB (r:List Vl):Bool:=areB r 1 8 valOk
def setB (s:Se):Bool:=nameOk s.nm&&rightE s.e
def exKind:Ex→Int
 | .mk k _ _ _ _ _=>k
def colEB (e:Ex):Bool:=decide (exKind e=2)&&rightE e
def itB (i:It):Bool:=if i.k=1∨i.k=3 then decide (i.xs.length=0) else if i.k=2∨i.k=4∨i.k=5∨i.k=6∨i.k=7 then areB i.xs 1 1 rightE else false
def noeB (s:List UInt8):Bool:=decide (s=[])||nameOk s
def joinN (s:List UInt8):Nat:=if s=[] then 0 else 1
def selB (s:St):Bool :=
 areB s.items 1 8 itB&&(noeB s.jn&&(areB s.on (joinN s.jn) (joinN s.jn) rightE&&(areB s.wh 0 1 rightE&&(areB s.gr 0 1 colEB&&(areB s.od 0 1 colEB&&((!s.desc||decide (s.od.length=1))&&decide (-1≤s.lim∧s.lim≤9223372036854775807)))))))
def empS (s:St):Bool:=decide (s.k=0∧s.tb=[]∧s.cols.length=0∧s.prim=[]∧s.rows.length=0∧s.sets.length=0∧s.items.length=0∧s.jn=[]∧s.on.length=0∧s.wh.length=0∧s.gr.length=0∧s.od.length=0∧s.desc=false∧s.lim = -1)
def restS (s:St):St :=
 if s.k=1 then { s with k:=0,tb:=[],cols:=[],prim:=[] }
 else if s.k=3 then { s with k:=0,tb:=[],rows:=[] }
 else if s.k=4 then { s with k:=0,tb:=[],sets:=[],wh:=[] }
 else if s.k=5 then { s with k:=0,tb:=[],wh:=[] }
 else if s.k=6 then { s with k:=0,tb:=[],items:=[],jn:=[],on:=[],wh:=[],gr:=[],od:=[],desc:=false,lim:=-1 }
 else { s with k:=0,tb:=[] }
def kindB (s:St):Bool :=
 if s.k=1 then areB s.cols 1 8 colB&&nameOk s.prim
 else if s.k=2 then true
 else if s.k=3 then areB s.rows 1 16 rowB
 else if s.k=4 then areB s.sets 1 8 setB&&areB s.wh 0 1 rightE
 else if s.k=5 then areB s.wh 0 1 rightE
 else if s.k=6 then selB s
 else false
def rightS (s:St):Bool:=kindB s&&(nameOk s.tb&&empS (restS s))
end Go.Proofs.YtnidnipiihhnaaaGreatDoor
namespace Go.Proofs.YtnidnipiihhnaaaGreatDoor
open Go.RowKit Go.Shelf
set_option linter.unusedSimpArgs false
set_option linter.unusedVariables false
set_option maxRecDepth 20000
set_option maxHeartbeats 8000000
def OkT (t:Tk):Prop:=t.s.length≤40∧0≤t.n∧t.n≤9223372036854775807
theorem wr_le {t:Tk} (h:OkT t):(wr t).length≤100:=by
 obtain⟨h1,h2,h3⟩:=h
 unfold wr
 split
 ·unfold Lib.itoa
  rw[if_neg (by omega)]
  have:=(digits_facts t.n.toNat (by omega)).2.2.2.1
  omega
 ·split
  ·have:=dbl_le t.s
   simp
   omega
  ·omega
theorem joinTail_le : ∀ps:List (List UInt8),(∀p∈ps,p.length≤100)→(Lib.joinTail [32] ps).length≤101*ps.length
 | [],_=>by simp[Lib.joinTail]
 |
  p::ps,h=>by
  have ih:=joinTail_le ps (fun q hq=>h q (by simp[hq]))
  have hp:=h p (by simp)
  have e:Lib.joinTail [32] (p::ps)=32::(p++Lib.joinTail [32] ps):=by simp[Lib.joinTail]
  rw[e]
  simp
  omega
theorem join_le (ps:List (List UInt8)) (h : ∀p∈ps,p.length≤100):(Lib.join ps [32]).length≤101*ps.length:=by
 cases ps with
 | nil=>simp[Lib.join_nil]
 |
  cons p ps =>
  rw[Lib.join_cons]
  have:=joinTail_le ps (fun q hq=>h q (by simp[hq]))
  have hp:=h p (by simp)
  simp
  omega
def scs (ps:List (List UInt8)):List Value:=ps.map fun l=>.string (str8 l)
def wrs (l:List Tk):List (List UInt8):=(l.filter fun t=>t.k != 6).map wr
theorem wrs_snoc (l:List Tk) (t:Tk):wrs (l++[t])=if t.k=6 then wrs l else wrs l++[wr t]:=by
 unfold wrs
 rw[List.filter_append]
 by_cases h:t.k=6
 ·simp[h]
 ·simp[h]
theorem wrs_len (l:List Tk):(wrs l).length≤l.length:=by
 unfold wrs
 rw[List.length_map]
 exact List.length_filter_le _ _
theorem take_snocL {α:Type} (xs:List α) (k:Nat) (x:α) (h:xs[k]?=some x):xs.take (k+1)=xs.take k++[x]:=by
 obtain⟨hk,e⟩:=List.getElem?_eq_some_iff.1 h
 rw[List.take_succ_eq_append_getElem hk,e]
theorem Tryz.infoStr:(Tryz.prog.info? 9).map (fun i=>(i.zero,i.size,i.bytes))=some (some (.string ⟨#[]⟩),1,16):=by kernel_rfl
end Go.Proofs.YtnidnipiihhnaaaGreatDoor
