/- Packed for the hand-in: PGram PRead PMust PArgs PCol PRowL PLit PSl -/
import Derived.Test.YtfeglkleoijlaaaGreatDoorZ03
namespace Go.Proofs.YtfeglkleoijlaaaGreatDoor
set_option linter.unusedSimpArgs false
set_option linter.unusedVariables false
set_option maxHeartbeats 8000000
inductive Ex where
 | mk (k op:Int) (tb nm:List UInt8) (v:Vl) (xs:List Ex)
def zV:Vl:=⟨0,0,[]⟩
def mW:Ex:=.mk 0 0 [] [] zV []
def yQ (op:Int) (a b:Ex):Ex:=.mk 3 op [] [] zV [a,b]
def gD (k:Int) (a:Ex):Ex:=.mk k 0 [] [] zV [a]
def pQ (t n:List UInt8):Ex:=.mk 2 0 t n zV []
def rU (v:Vl):Ex:=.mk 1 0 [] [] v []
def Ij (below:Pa Ex) (ops:List (List UInt8 × Int)):Nat→Ex→Pa Ex
 | 0,e=>iq e
 | f+1,e=>fK (tN ops) fun op=>if op=0 then iq e else fK below fun x=>Ij below ops f (yQ op e x)
def rowP (F:Nat) (below:Pa Ex) (ops:List (List UInt8 × Int)):Pa Ex:=fK below fun e=>Ij below ops F e
def Jl:List (List UInt8 × Int):=[([79,82],1)]
def IB:List (List UInt8 × Int):=[([65,78,68],2)]
def Ie:List (List UInt8 × Int):=[([61],3),([60,62],4),([60],5),([60,61],6),([62],7),([62,61],8)]
def H7:List (List UInt8 × Int):=[([43],9),([45],10)]
def Iz:List (List UInt8 × Int):=[([42],11),([47],12),([37],13)]
def Jf:Pa Vl:=ET [78,85,76,76] (iq zV) (fK II fun o=>match o with
 | some s=>iq ⟨2,0,s⟩
 | none=>ET [45] (fK IE fun n=>iq ⟨1,-n,[]⟩) (fK IE fun n=>iq ⟨1,n,[]⟩))
def Ju:Pa Ex:=fK nameP fun n=>ET [46] (fK nameP fun m=>iq (pQ n m)) (iq (pQ [] n))
def tZ (fc ex:Pa Ex):Pa Ex:=fK Fh fun b=>if b=true then Ju else
 G7 (fK (Ee fc) fun e=>iq (gD 5 e)) (ET [40] (fK (Ee ex) fun e=>fK (Ga [41]) fun _=>iq e) (fK Jf fun v=>iq (rU v)))
def I9 (e:Ex):Pa Ex:=fK (I8 [78,79,84]) fun t=>fK (Ga [78,85,76,76]) fun _=>iq (if t=true then gD 4 (gD 6 e) else gD 6 e)
def F8 (sum:Pa Ex):Pa Ex:=fK sum fun e=>ET [73,83] (I9 e) (fK (tN Ie) fun op=>if op=0 then iq e else fK sum fun x=>iq (yQ op e x))
def notP (nt test:Pa Ex):Pa Ex:=ET [78,79,84] (fK (Ee nt) fun e=>iq (gD 4 e)) test
structure Lv where
 nt:Pa Ex
 fc:Pa Ex
 ex:Pa Ex
def Gf (F:Nat) (L:Lv):Pa Ex:=rowP F (tZ L.fc L.ex) Iz
def Gv (F:Nat) (L:Lv):Pa Ex:=rowP F (Gf F L) H7
def Gu (F:Nat) (L:Lv):Pa Ex:=notP L.nt (F8 (Gv F L))
def I6 (F:Nat) (L:Lv):Pa Ex:=rowP F (Gu F L) IB
def F7 (F:Nat) (L:Lv):Pa Ex:=rowP F (I6 F L) Jl
def BK (F:Nat):Nat→Lv
 | 0=>⟨iq mW,iq mW,iq mW⟩
 | n+1=>⟨Gu F (BK F n),tZ (BK F n).fc (BK F n).ex,F7 F (BK F n)⟩
structure Co where
 nm:List UInt8
 k:Int
 nn:Bool
 uq:Bool
structure It where
 k:Int
 xs:List Ex
structure Se where
 nm:List UInt8
 e:Ex
structure St where
 k:Int
 tb:List UInt8
 cols:List Co
 prim:List UInt8
 rows:List (List Vl)
 sets:List Se
 items:List It
 jn:List UInt8
 on:List Ex
 wh:List Ex
 gr:List Ex
 od:List Ex
 desc:Bool
 lim:Int
def JC (k:Int):St:=⟨k,[],[],[],[],[],[],[],[],[],[],[],false,-1⟩
def lJ (n:Nat) (r:Rd):Prop:=(r.bad=0→12≤r.d+n)∧1≤n
def Ck (F n:Nat) (G:Rd→Prop) {α:Type} (p q:Pa α):Prop:=∀r,G r→Good F r→lJ n r→p r=q r
abbrev JH (F n:Nat) {α:Type} (p q:Pa α):Prop:=Ck F n (fun _=>True) p q
abbrev IC (F n:Nat) {α:Type} (p q:Pa α):Prop:=Ck F n (fun r=>r.bad=0) p q
theorem Ck.ok {F n:Nat} {α:Type} {p q:Pa α} (h:JH F n p q):IC F n p q:=fun r _=>h r trivial
theorem lJ.after {F n:Nat} {G:Rd→Prop} {α:Type} {p:Pa α} {r:Rd} (hp:uf false F G p) (g:G r) (hG:Good F r) (h:lJ n r):lJ n (p r).2:=by
 refine ⟨fun hb=>?_,h.2⟩
 rw[(hp.fine r g hG).2.1]
 refine h.1 ?_
 by_cases e:r.bad=0
 ·exact e
 ·rw[(hp.mono r e).1] at hb;exact hb
end Go.Proofs.YtfeglkleoijlaaaGreatDoor
namespace Go.Proofs.YtfeglkleoijlaaaGreatDoor
open Go.RowKit Go.Shelf
set_option linter.unusedSimpArgs false
set_option linter.unusedVariables false
set_option maxRecDepth 20000
set_option maxHeartbeats 8000000
abbrev Fr (g:Nat) (w w':World):Prop:=aA (fun k=>k=g) w w'
theorem lX.keeps {R:Nat→Prop} {B:Nat} {w w':World} {v:Value} {xs:List Tk} (h:lX B w v xs) (hk:aA R w w') (hR : ∀i,i<B→¬R i):lX B w' v xs:=by
 obtain⟨a,c,hv,h1,h2,h3⟩:=h
 refine ⟨a,c,hv,h1,h2,fun hne=>?_⟩
 obtain⟨b,off,ha,hlt,hc⟩:=h3 hne
 refine ⟨b,off,ha,hlt,fun j x hx=>?_⟩
 obtain⟨c0,c1,c2,c3⟩:=hc j x hx
 exact⟨hk.cell c0 (hR b hlt),hk.cell c1 (hR b hlt),hk.cell c2 (hR b hlt),hk.cell c3 (hR b hlt)⟩
theorem aA.setCell {S:Nat→Prop} {a b:World} (h:aA S a b) {p:Addr} (hp:S p.block∨a.heap.size≤p.block) (u:Value):aA S a (b.setCell p u) :=
 ⟨h.os,h.tape,h.output,by simpa [World.setCell] using h.size,fun k hk hS=>(Below.heap_setCell _ _ _ _ (by rintro rfl;rcases hp with hp | hp;exact hS hp;omega)).trans (h.block k hk hS)⟩
theorem aA.setRow {S:Nat→Prop} {a b:World} (h:aA S a b) {p:Nat} (hp:S p∨a.heap.size≤p) (cs:Array Value):aA S a (b.setRow p cs) :=
 ⟨h.os,h.tape,h.output,by simpa using h.size,fun k hk hS=>(setRow_other _ _ _ _ (by rintro rfl;rcases hp with hp | hp;exact hS hp;omega)).trans (h.block k hk hS)⟩
theorem aA.alloc {S:Nat→Prop} {a b:World} (h:aA S a b) (o:Obj):aA S a (b.alloc o) :=
 ⟨h.os,h.tape,h.output,by have:=h.size;simp;omega,fun k hk hS=>(Below.heap_alloc _ _ _ (Nat.lt_of_lt_of_le hk h.size)).trans (h.block k hk hS)⟩
theorem aA.own {g:Nat} {a b:World} (h:Fr g a b) (i:Nat) (u:Value):Fr g a (b.setCell ⟨g,i,none⟩ u):=aA.setCell (S:=fun k=>k=g) h (p:=⟨g,i,none⟩) (.inl rfl) u
theorem aA.then {S:Nat→Prop} {a b c:World} (h:aA S a b) (k:aA S b c):aA S a c:=h.andThen k fun _ hi=>.inl hi
theorem aA.eU {S:Nat→Prop} {a b c:World} (h:aA S a b) (k:Below b.heap.size b c):aA S a c:=h.andThen (aA.aC (S:=S) k) fun _ hi=>.inl hi
theorem aL (w:World) (o:Obj):∃W,w.alloc o=W∧Below w.heap.size w W∧w.heap.size<W.heap.size∧W.heap[w.heap.size]?=some o :=
 ⟨_,rfl,(Below.refl _ _).alloc (Nat.le_refl _) _,by simp,heap_alloc_new w _⟩
def Dx (g:Nat) (w:World) (v:Value) (ts:List (List UInt8)):Prop :=
 ∃a c,v = .slice a ts.length c∧ts.length≤1000∧(ts≠[]→∃b,a=some ⟨b,0,none⟩∧g<b∧∀j t,ts[j]?=some t→w.cell? ⟨b,j,none⟩=some (.string (aj t)))
theorem Dx.keeps {g:Nat} {R:Nat→Prop} {w w':World} {v:Value} {ts:List (List UInt8)} (h:Dx g w v ts) (hk:aA R w w') (hR : ∀i,g<i→¬R i):Dx g w' v ts:=by
 obtain⟨a,c,h1,h2,h3⟩:=h
 refine ⟨a,c,h1,h2,fun hne=>?_⟩
 obtain⟨b,ha,hb,hc⟩:=h3 hne
 exact⟨b,ha,hb,fun j t ht=>hk.cell (hc j t ht) (hR b hb)⟩
def GK (g:Nat) (w:World) (v:Value) (l:List (List UInt8 × Int)):Prop :=
 ∃a c,v = .slice a l.length c∧l.length≤1000∧(l≠[]→∃b,a=some ⟨b,0,none⟩∧g<b∧∀j t,l[j]?=some t→w.cell? ⟨b,j*2,none⟩=some (.string (aj t.1))∧w.cell? ⟨b,j*2+1,none⟩=some (.int .i64 t.2))
theorem GK.keeps {g:Nat} {R:Nat→Prop} {w w':World} {v:Value} {l:List (List UInt8 × Int)} (h:GK g w v l) (hk:aA R w w') (hR : ∀i,g<i→¬R i):GK g w' v l:=by
 obtain⟨a,c,h1,h2,h3⟩:=h
 refine ⟨a,c,h1,h2,fun hne=>?_⟩
 obtain⟨b,ha,hb,hc⟩:=h3 hne
 exact⟨b,ha,hb,fun j t ht=>⟨hk.cell (hc j t ht).1 (hR b hb),hk.cell (hc j t ht).2 (hR b hb)⟩⟩
inductive bF (S:Nat→Prop) (w:World):List Ex→Value→Prop
 | nil (a:Option Addr) (c:Nat) (hc:c≤maxLen):bF S w [] (.slice a 0 c)
 | cons (xs:List Ex) (b off c:Nat) (avs:Nat→Value) (hne:xs≠[]) (hS:S b) (hl:xs.length≤c) (hc:c≤maxLen)
  (hcell : ∀(j:Nat) (k op:Int) (tb nm:List UInt8) (vk vn:Int) (vs:List UInt8) (ys:List Ex),xs[j]?=some (.mk k op tb nm ⟨vk,vn,vs⟩ ys) →
   w.cell? ⟨b,off+j*8,none⟩=some (.int .i64 k)∧w.cell? ⟨b,off+j*8+1,none⟩=some (.int .i64 op)∧w.cell? ⟨b,off+j*8+2,none⟩=some (.string (aj tb))∧w.cell? ⟨b,off+j*8+3,none⟩=some (.string (aj nm)) ∧
   w.cell? ⟨b,off+j*8+4,none⟩=some (.int .i64 vk)∧w.cell? ⟨b,off+j*8+5,none⟩=some (.int .i64 vn)∧w.cell? ⟨b,off+j*8+6,none⟩=some (.string (aj vs))∧w.cell? ⟨b,off+j*8+7,none⟩=some (avs j))
  (hrec : ∀(j:Nat) (k op:Int) (tb nm:List UInt8) (vk vn:Int) (vs:List UInt8) (ys:List Ex),xs[j]?=some (.mk k op tb nm ⟨vk,vn,vs⟩ ys)→bF S w ys (avs j)) :
  bF S w xs (.slice (some ⟨b,off,none⟩) xs.length c)
theorem bF.to {S R T:Nat→Prop} {w w':World} {xs:List Ex} {v:Value} (h:bF S w xs v) (hk:aA R w w') (hS : ∀b,S b→b<w.heap.size→¬R b∧T b):bF T w' xs v:=by
 induction h with
 | nil a c hc=>exact .nil a c hc
 |
  cons xs b off c avs hne hSb hl hc hcell hrec ih =>
  have hb:b<w.heap.size:=by
   cases xs with
   | nil=>exact absurd rfl hne
   |
    cons x l =>
    obtain⟨k,op,tb,nm,⟨vk,vn,vs⟩,ys⟩:=x
    exact World.block_lt_of_cell? w _ (hcell 0 k op tb nm vk vn vs ys rfl).1
  obtain⟨h1,h2⟩:=hS b hSb hb
  refine .cons xs b off c avs hne h2 hl hc (fun j k op tb nm vk vn vs ys hj=>?_) ih
  obtain⟨c0,c1,c2,c3,c4,c5,c6,c7⟩:=hcell j k op tb nm vk vn vs ys hj
  exact⟨hk.cell c0 h1,hk.cell c1 h1,hk.cell c2 h1,hk.cell c3 h1,hk.cell c4 h1,hk.cell c5 h1,hk.cell c6 h1,hk.cell c7 h1⟩
theorem bF.form {S:Nat→Prop} {w:World} {xs:List Ex} {v:Value} (h:bF S w xs v):∃a c,v = .slice a xs.length c∧c≤maxLen:=by
 cases h with
 | nil a c hc=>exact⟨a,c,rfl,hc⟩
 | cons xs b off c avs hne hS hl hc hcell hrec=>exact⟨_,c,rfl,hc⟩
def fB (S:Nat→Prop) (w:World) (x:Ex) (v:Value):Prop :=
 ∃(k op:Int) (tb nm:List UInt8) (vk vn:Int) (vs:List UInt8) (ys:List Ex) (aa:Option Addr) (nn cc:Nat),x = .mk k op tb nm ⟨vk,vn,vs⟩ ys∧v = .agg #[.int .i64 k,.int .i64 op,.string (aj tb),.string (aj nm),.int .i64 vk,.int .i64 vn,.string (aj vs),.slice aa nn cc]∧bF S w ys (.slice aa nn cc)
theorem fB.to {S R T:Nat→Prop} {w w':World} {x:Ex} {v:Value} (h:fB S w x v) (hk:aA R w w') (hS : ∀b,S b→b<w.heap.size→¬R b∧T b):fB T w' x v:=by
 obtain⟨k,op,tb,nm,vk,vn,vs,ys,aa,nn,cc,h1,h2,h3⟩:=h
 exact⟨k,op,tb,nm,vk,vn,vs,ys,aa,nn,cc,h1,h2,h3.to hk hS⟩
theorem aN {w:World} {g:Nat} {a b c d e f i j:Value} {t:TypeId} {fr:Nat × Nat} (h:w.heap[g]?=some (.cells #[a,b,c,d,e,f,i,j] t fr)) :
  w.cell? ⟨g,0,none⟩=some a∧w.cell? ⟨g,1,none⟩=some b∧w.cell? ⟨g,2,none⟩=some c∧w.cell? ⟨g,3,none⟩=some d∧w.cell? ⟨g,4,none⟩=some e∧w.cell? ⟨g,5,none⟩=some f∧w.cell? ⟨g,6,none⟩=some i∧w.cell? ⟨g,7,none⟩=some j :=
 ⟨by rw[aD _ _ _ _ _ _ h];rfl,by rw[aD _ _ _ _ _ _ h];rfl,by rw[aD _ _ _ _ _ _ h];rfl,by rw[aD _ _ _ _ _ _ h];rfl,by rw[aD _ _ _ _ _ _ h];rfl,by rw[aD _ _ _ _ _ _ h];rfl,by rw[aD _ _ _ _ _ _ h];rfl,by rw[aD _ _ _ _ _ _ h];rfl⟩
theorem Cb {S:Nat→Prop} {w:World} {b:Nat} {k op:Int} {tb nm:List UInt8} {vk vn:Int} {vs:List UInt8} {ys:List Ex} {av:Value} {k2 op2:Int} {tb2 nm2:List UInt8} {vk2 vn2:Int} {vs2:List UInt8} {ys2:List Ex} {av2:Value} {t:TypeId} (hS:S b)
  (hb:w.heap[b]?=some (.cells #[.int .i64 k,.int .i64 op,.string (aj tb),.string (aj nm),.int .i64 vk,.int .i64 vn,.string (aj vs),av,.int .i64 k2,.int .i64 op2,.string (aj tb2),.string (aj nm2),.int .i64 vk2,.int .i64 vn2,.string (aj vs2),av2] t)) (ha:bF S w ys av) (ha2:bF S w ys2 av2) :
  bF S w [.mk k op tb nm ⟨vk,vn,vs⟩ ys,.mk k2 op2 tb2 nm2 ⟨vk2,vn2,vs2⟩ ys2] (.slice (some ⟨b,0,none⟩) 2 2):=by
 refine bF.cons (S:=S) (w:=w) [.mk k op tb nm ⟨vk,vn,vs⟩ ys,.mk k2 op2 tb2 nm2 ⟨vk2,vn2,vs2⟩ ys2] b 0 2 (fun j=>if j=0 then av else av2) (by simp) hS (by simp) (by unfold maxLen;omega) ?_ ?_
 ·intro j k' op' tb' nm' vk' vn' vs' ys' hj
  have cl:=fun i=>cell_of_row w b i _ _ _ hb
  match j,hj with
  |
   0,hj =>
   simp only[List.getElem?_cons_zero,Option.some.injEq,Ex.mk.injEq,Vl.mk.injEq] at hj
   obtain⟨rfl,rfl,rfl,rfl,⟨rfl,rfl,rfl⟩,rfl⟩:=hj
   simp[cl]
  |
   1,hj =>
   simp only[List.getElem?_cons_succ,List.getElem?_cons_zero,Option.some.injEq,Ex.mk.injEq,Vl.mk.injEq] at hj
   obtain⟨rfl,rfl,rfl,rfl,⟨rfl,rfl,rfl⟩,rfl⟩:=hj
   simp[cl]
 ·intro j k' op' tb' nm' vk' vn' vs' ys' hj
  match j,hj with
  |
   0,hj =>
   simp only[List.getElem?_cons_zero,Option.some.injEq,Ex.mk.injEq,Vl.mk.injEq] at hj
   obtain⟨rfl,rfl,rfl,rfl,⟨rfl,rfl,rfl⟩,rfl⟩:=hj
   exact ha
  |
   1,hj =>
   simp only[List.getElem?_cons_succ,List.getElem?_cons_zero,Option.some.injEq,Ex.mk.injEq,Vl.mk.injEq] at hj
   obtain⟨rfl,rfl,rfl,rfl,⟨rfl,rfl,rfl⟩,rfl⟩:=hj
   exact ha2
theorem three (w:World) (A B C:Obj):∃W,((w.alloc A).alloc B).alloc C=W∧Below w.heap.size w W∧W.heap[w.heap.size+1]?=some B∧W.heap[w.heap.size+1+1]?=some C:=by
 refine ⟨_,rfl,(((Below.refl _ w).alloc (Nat.le_refl _) A).alloc (by simp) B).alloc (by simp;omega) C,?_,?_⟩
 ·rw[Below.heap_alloc _ _ _ (by simp)]
  exact heap_alloc2_new w A B
 ·have h:=heap_alloc_new ((w.alloc A).alloc B) C
  have e:((w.alloc A).alloc B).heap.size=w.heap.size+1+1:=by simp
  rw[e] at h
  exact h
theorem FL {w:World} {g:Nat} {a b c d e f i j:Value} {t:TypeId} (h:w.heap[g]?=some (.cells #[a,b,c,d,e,f,i,j] t)):(∀i,w.frozen? ⟨g,i,none⟩=false) ∧
  w.cell? ⟨g,0,none⟩=some a∧w.cell? ⟨g,1,none⟩=some b∧w.cell? ⟨g,2,none⟩=some c∧w.cell? ⟨g,3,none⟩=some d∧w.cell? ⟨g,4,none⟩=some e∧w.cell? ⟨g,5,none⟩=some f∧w.cell? ⟨g,6,none⟩=some i∧w.cell? ⟨g,7,none⟩=some j :=
 ⟨fun i=>by simp[World.frozen?,h],aN h⟩
theorem World.lt_of_block {w:World} {b:Nat} {o:Obj} (h:w.heap[b]?=some o):b<w.heap.size:=(Array.getElem?_eq_some_iff.1 h).1
theorem two (w:World) (A B:Obj):∃W,(w.alloc A).alloc B=W∧Below w.heap.size w W∧w.heap.size+1<W.heap.size∧W.heap[w.heap.size]?=some A∧W.heap[w.heap.size+1]?=some B:=by
 refine ⟨_,rfl,((Below.refl _ w).alloc (Nat.le_refl _) A).alloc (by simp) B,by simp,?_,heap_alloc2_new w A B⟩
 rw[Below.heap_alloc _ _ _ (by simp)]
 exact heap_alloc_new w A
theorem lJ.keep {F n:Nat} {p:Pa Ex} {r:Rd} (hp:FV false F p) (hG:Good F r) (h:lJ n r):lJ n (p r).2:=h.after hp trivial hG
theorem aH {w:World} {g:Nat} {a b c:Value} {t:TypeId} (h:w.heap[g]?=some (.cells #[a,b,c] t)) :
  w.cell? ⟨g,0,none⟩=some a∧w.cell? ⟨g,1,none⟩=some b∧w.cell? ⟨g,2,none⟩=some c∧∀i,w.frozen? ⟨g,i,none⟩=false :=
 ⟨by rw[aD _ _ _ _ _ _ h];rfl,by rw[aD _ _ _ _ _ _ h];rfl,by rw[aD _ _ _ _ _ _ h];rfl,fun i=>by simp[World.frozen?,h]⟩
theorem eO {P:Program} (w:World) (base:Nat) (t ty e:TypeId) (i:TypeInfo) (z:Value) (size bytes:Nat) (ht:P.underlying t=some (.slice e)) (hi:P.info? e=some i) (hz:i.zero=some z)
  (hsize:i.size=size) (hby:i.bytes=bytes) (hzs:z.cells.size=size) (hsz:0<size)
  (v:Value) (n:Nat) (xs:List Value) (hown:w.ownsRow base e size v n xs)
  (a:Addr) (c:Nat) (news:List Value) (hl:news.length=size) (hnews : ∀j u,news[j]?=some u→w.cell? (a.add j)=some u) (h1 : ∀u∈news,u.oneCell'=true)
  (h63:n+1≤maxLen) (hbytes:(n+1)*bytes≤140737488355328) (hbase:base≤w.heap.size) :
  ∃
   v' w',(Builtin.append_ #[t,t] ty #[v,.slice (some a) 1 c]).run P w = .ok v' w'∧w'.ownsRow base e size v' (n+1) (xs++news)∧w.grownBy w' v.ownBlock ∧
   (v'.ownBlock=v.ownBlock∨v'.ownBlock=some w.heap.size):=by
 obtain⟨v',w',hr,h2,h3,_⟩:=run_append_own (P:=P) w base t ty e i z size bytes ht hi hz hsize hby hzs hsz v n xs hown a 1 c news (by omega) hnews h1 h63 hbytes hbase
 refine ⟨v',w',hr,h2,h3,?_⟩
 subst hsize
 subst hby
 have hsmall:n+1≤9223372036854775807:=by simp only[maxLen] at h63;omega
 rcases hown.2 with⟨rfl,rfl⟩ | ⟨g,cap,cur,rfl,hbg,hg,hnc,hcm,hcs,htake⟩
 ·have hr2:=run_append_nil (P:=P) w t ty e i z ht hi hz a 1 c news (by omega) hnews (by omega) (by omega) (by have hb:=hbytes;simp only[Nat.zero_add] at hb;omega)
  rw[hr2] at hr
  injection hr with e1 e2
  rw[← e1]
  exact .inr rfl
 ·by_cases hroom:n+1≤cap
  ·have hfit:n*i.size+news.length≤cur.size:=by rw[hl,hcs,← Nat.succ_mul];exact Nat.mul_le_mul_right _ hroom
   have hr2:=run_append_room (P:=P) w t ty e i ht hi g n cap cur hg a 1 c news (by omega) hnews h1 hroom hfit
   rw[hr2] at hr
   injection hr with e1 e2
   rw[← e1]
   exact .inl rfl
  ·have holds : ∀j u,xs[j]?=some u→w.cell? ((⟨g,0,none⟩:Addr).add j)=some u:=hown.cells (g:=g) rfl
   have hr2:=run_append_grow (P:=P) w t ty e i z ht hi hz ⟨g,0,none⟩ n cap xs hown.1 holds a 1 c news (by omega) hnews (by omega) (by omega) (growslice_fits (by omega) hbytes)
   rw[hr2] at hr
   injection hr with e1 e2
   rw[← e1]
   exact .inr rfl
theorem kQ {P:Program} {ops:Array Oper} {rest:List Oper} {o:Oper} {a:Act} {Q:Exit→Act→World→Prop} (w:World) (hgd:o.guard=none) (s x:Operand) (t:TypeId)
  (ho:o.op = .call { callee:=.builtin .append,args:=#[s,x],argTypes:=#[t,t] })
  (base:Nat) (e:TypeId) (i:TypeInfo) (z:Value) (size bytes:Nat) (ht:P.underlying t=some (.slice e)) (hi:P.info? e=some i) (hz:i.zero=some z)
  (hsize:i.size=size) (hby:i.bytes=bytes) (hzs:z.cells.size=size) (hsz:0<size)
  (v:Value) (n:Nat) (xs:List Value) (hs:a.eval s=v) (hown:w.ownsRow base e size v n xs)
  (ad:Addr) (c:Nat) (news:List Value) (hx:a.eval x = .slice (some ad) 1 c) (hl:news.length=size) (hnews : ∀j u,news[j]?=some u→w.cell? (ad.add j)=some u) (h1 : ∀u∈news,u.oneCell'=true)
  (h63:n+1≤maxLen) (hbytes:(n+1)*bytes≤140737488355328) (hbase:base≤w.heap.size)
  (h : ∀v' w',w'.ownsRow base e size v' (n+1) (xs++news)→w.grownBy w' v.ownBlock→(v'.ownBlock=v.ownBlock∨v'.ownBlock=some w.heap.size)→wpList P ops Q rest (a.put o.dst v') w'):wpList P ops Q (o::rest) a w:=by
 obtain⟨v',w',hr,h2,h3,h4⟩:=eO (P:=P) w base t o.type e i z size bytes ht hi hz hsize hby hzs hsz v n xs hown ad c news hl hnews h1 h63 hbytes hbase
 refine wpList_plain hgd fun _ hK=>?_
 unfold Oper.wp execOp
 simp only[ho,resolve,invoke,builtin,Sem.run_bind,Sem.run_pure,Result.andThen_ok,List.map_toArray,List.map_cons,List.map_nil,hs,hx,hr]
 exact hK _ _ (h v' w' h2 h3 h4)
def gJ {α:Type} (z:Nat) (El:(Nat→Prop)→World→α→List Value→Prop) (S:Nat→Prop) (w:World) (xs:List α) (css:List (List Value)):Prop :=
 css.length=xs.length∧∀(j:Nat) (x:α) (cs:List Value),xs[j]?=some x→css[j]?=some cs→cs.length=z∧El S w x cs
theorem gJ.nil {α:Type} {z:Nat} {El:(Nat→Prop)→World→α→List Value→Prop} {S:Nat→Prop} {w:World}:gJ z El S w [] []:=⟨rfl,fun j x cs h=>by simp at h⟩
theorem gJ.snoc {α:Type} {z:Nat} {El:(Nat→Prop)→World→α→List Value→Prop} {S:Nat→Prop} {w:World} {xs:List α} {css:List (List Value)} (h:gJ z El S w xs css) {x:α} {cs:List Value} (hl:cs.length=z) (he:El S w x cs):gJ z El S w (xs++[x]) (css++[cs]):=by
 obtain⟨h1,h2⟩:=h
 refine ⟨by simp[h1],fun j y ds hy hd=>?_⟩
 rcases Nat.lt_or_ge j xs.length with hj | hj
 ·rw[List.getElem?_append_left hj] at hy
  rw[List.getElem?_append_left (by omega)] at hd
  exact h2 j y ds hy hd
 ·rw[List.getElem?_append_right hj] at hy
  rw[List.getElem?_append_right (by omega),h1] at hd
  cases hk:j-xs.length with
  |
   zero =>
   rw[hk] at hy hd
   simp only[List.getElem?_cons_zero,Option.some.injEq] at hy hd
   subst hy hd
   exact⟨hl,he⟩
  | succ k=>rw[hk] at hy;simp at hy
theorem gJ.to {α:Type} {z:Nat} {El:(Nat→Prop)→World→α→List Value→Prop} {S T:Nat→Prop} {w w':World} {xs:List α} {css:List (List Value)} (h:gJ z El S w xs css) (hE : ∀x cs,El S w x cs→El T w' x cs):gJ z El T w' xs css :=
 ⟨h.1,fun j x cs hx hc=>⟨(h.2 j x cs hx hc).1,hE x cs (h.2 j x cs hx hc).2⟩⟩
theorem ji (z:Nat):∀(css:List (List Value)),(∀cs∈css,cs.length=z)→∀(j i:Nat) (cs:List Value) (u:Value),css[j]?=some cs→cs[i]?=some u→css.flatten[j*z+i]?=some u
 |
  c::css,h,0,i,cs,u,hj,hu=>by
  simp only[List.getElem?_cons_zero,Option.some.injEq] at hj
  subst hj
  rw[List.flatten_cons,Nat.zero_mul,Nat.zero_add,List.getElem?_append_left (List.getElem?_eq_some_iff.1 hu).1]
  exact hu
 |
  c::css,h,j+1,i,cs,u,hj,hu=>by
  have hl:=h c (by simp)
  rw[List.flatten_cons,List.getElem?_append_right (by rw[hl,Nat.succ_mul];omega),hl,show (j+1)*z+i-z=j*z+i by rw[Nat.succ_mul];omega]
  exact ji z css (fun x hx=>h x (by simp[hx])) j i cs u (by simpa using hj) hu
def aQ {α:Type} (z:Nat) (El:(Nat→Prop)→World→α→List Value→Prop) (S:Nat→Prop) (w:World) (xs:List α) (v:Value):Prop :=
 ∃
  (a:Option Addr) (c:Nat) (css:List (List Value)),v = .slice a xs.length c∧xs.length≤c∧c≤maxLen∧gJ z El S w xs css ∧
  (xs≠[]→∃b off,a=some ⟨b,off,none⟩∧S b∧∀(j:Nat) (cs:List Value),css[j]?=some cs→∀(i:Nat) (u:Value),cs[i]?=some u→w.cell? ⟨b,off+j*z+i,none⟩=some u)
theorem aQ.nil {α:Type} {z:Nat} {El:(Nat→Prop)→World→α→List Value→Prop} {S:Nat→Prop} {w:World}:aQ z El S w ([]:List α) (.slice none 0 0) :=
 ⟨none,0,[],rfl,Nat.le_refl _,Nat.zero_le _,gJ.nil,fun h=>absurd rfl h⟩
theorem aQ.dW {α:Type} {z:Nat} {El:(Nat→Prop)→World→α→List Value→Prop} {S:Nat→Prop} {w:World} {base:Nat} {e:TypeId} {v:Value} {xs:List α} {css:List (List Value)} (hz:0<z)
  (h:w.ownsRow base e z v xs.length css.flatten) (hE:gJ z El S w xs css) (hS : ∀b,v.ownBlock=some b→S b):aQ z El S w xs v:=by
 have hl : ∀cs∈css,cs.length=z:=fun cs hc=>by
  obtain⟨j,hj,e⟩:=List.getElem_of_mem hc
  have hx:xs[j]?=some (xs[j]'(by rw[← hE.1];exact hj)):=List.getElem?_eq_getElem _
  exact (hE.2 j _ cs hx (by rw[List.getElem?_eq_getElem hj,e])).1
 have hc:=h
 rcases h.2 with⟨rfl,hn⟩ | ⟨g,cap,cur,rfl,hb,hg,hnc,hcm,hcs,ht⟩
 ·exact⟨none,0,css,by rw[hn],by omega,by unfold maxLen;omega,hE,fun hne=>absurd (List.eq_nil_of_length_eq_zero hn) hne⟩
 ·refine ⟨_,cap,css,rfl,hnc,hcm,hE,fun _=>⟨g,0,rfl,hS g rfl,fun j cs hj i u hu=>?_⟩⟩
  have k:=hc.cells (g:=g) rfl (j*z+i) u (ji z css hl j i cs u hj hu)
  rw[Addr.add_lit,Nat.zero_add] at k
  rw[Nat.zero_add]
  exact k
theorem aQ.to {α:Type} {z:Nat} {El:(Nat→Prop)→World→α→List Value→Prop} {S R T:Nat→Prop} {w w':World} {xs:List α} {v:Value} (hz:0<z) (h:aQ z El S w xs v) (hk:aA R w w') (hS : ∀b,S b→b<w.heap.size→¬R b∧T b) (hE : ∀x cs,El S w x cs→El T w' x cs):aQ z El T w' xs v:=by
 obtain⟨a,c,css,h1,h2,h3,h4,h5⟩:=h
 refine ⟨a,c,css,h1,h2,h3,h4.to hE,fun hne=>?_⟩
 obtain⟨b,off,ha,hb,hc⟩:=h5 hne
 have hlt:b<w.heap.size:=by
  cases xs with
  | nil=>exact absurd rfl hne
  |
   cons x l =>
   cases css with
   | nil=>have:=h4.1;simp at this
   |
    cons cs css =>
    have:=h4.2 0 x cs rfl rfl
    cases cs with
    | nil=>have:=this.1;simp at this;omega
    | cons u cs=>exact World.block_lt_of_cell? w _ (hc 0 (u::cs) rfl 0 u rfl)
 obtain⟨h6,h7⟩:=hS b hb hlt
 exact⟨b,off,ha,h7,fun j cs hj i u hu=>hk.cell (hc j cs hj i u hu) h6⟩
theorem aQ.form {α:Type} {z:Nat} {El:(Nat→Prop)→World→α→List Value→Prop} {S:Nat→Prop} {w:World} {xs:List α} {v:Value} (h:aQ z El S w xs v):∃a c,v = .slice a xs.length c:=by
 obtain⟨a,c,css,h1,_⟩:=h
 exact⟨a,c,h1⟩
def gH (_:Nat→Prop) (_:World) (x:Co) (cs:List Value):Prop:=cs=[.string (aj x.nm),.int .i64 x.k,.bool x.nn,.bool x.uq]
def Aq (_:Nat→Prop) (_:World) (x:Vl) (cs:List Value):Prop:=cs=[.int .i64 x.k,.int .i64 x.n,.string (aj x.s)]
def yV (S:Nat→Prop) (w:World) (x:List Vl) (cs:List Value):Prop:=∃(aa:Option Addr) (nn cc:Nat),cs=[.slice aa nn cc]∧aQ 3 Aq S w x (.slice aa nn cc)
def qo (S:Nat→Prop) (w:World) (x:It) (cs:List Value):Prop:=∃(aa:Option Addr) (nn cc:Nat),cs=[.int .i64 x.k,.slice aa nn cc]∧bF S w x.xs (.slice aa nn cc)
def yx (S:Nat→Prop) (w:World) (x:Se) (cs:List Value):Prop :=
 ∃(k op:Int) (tb nm:List UInt8) (vk vn:Int) (vs:List UInt8) (ys:List Ex) (aa:Option Addr) (nn cc:Nat),x.e = .mk k op tb nm ⟨vk,vn,vs⟩ ys∧cs=[.string (aj x.nm),.int .i64 k,.int .i64 op,.string (aj tb),.string (aj nm),.int .i64 vk,.int .i64 vn,.string (aj vs),.slice aa nn cc]∧bF S w ys (.slice aa nn cc)
def eZ (S:Nat→Prop) (w:World) (x:St) (cs:List Value):Prop :=
 ∃
  (a1 a2 a3 a4 a5 a6 a7 a8:Option Addr) (n1 n2 n3 n4 n5 n6 n7 n8 c1 c2 c3 c4 c5 c6 c7 c8:Nat),
  cs=[.int .i64 x.k,.string (aj x.tb),.slice a1 n1 c1,.string (aj x.prim),.slice a2 n2 c2,.slice a3 n3 c3,.slice a4 n4 c4,.string (aj x.jn),.slice a5 n5 c5,.slice a6 n6 c6,.slice a7 n7 c7,.slice a8 n8 c8,.bool x.desc,.int .i64 x.lim] ∧
  aQ 4 gH S w x.cols (.slice a1 n1 c1)∧aQ 1 yV S w x.rows (.slice a2 n2 c2)∧aQ 9 yx S w x.sets (.slice a3 n3 c3)∧aQ 2 qo S w x.items (.slice a4 n4 c4) ∧
  bF S w x.on (.slice a5 n5 c5)∧bF S w x.wh (.slice a6 n6 c6)∧bF S w x.gr (.slice a7 n7 c7)∧bF S w x.od (.slice a8 n8 c8)
theorem yV.to {S R T:Nat→Prop} {w w':World} {x:List Vl} {cs:List Value} (h:yV S w x cs) (hk:aA R w w') (hS : ∀b,S b→b<w.heap.size→¬R b∧T b):yV T w' x cs:=by
 obtain⟨aa,nn,cc,h1,h2⟩:=h
 exact⟨aa,nn,cc,h1,h2.to (by decide) hk hS (fun _ _ e=>e)⟩
theorem qo.to {S R T:Nat→Prop} {w w':World} {x:It} {cs:List Value} (h:qo S w x cs) (hk:aA R w w') (hS : ∀b,S b→b<w.heap.size→¬R b∧T b):qo T w' x cs:=by
 obtain⟨aa,nn,cc,h1,h2⟩:=h
 exact⟨aa,nn,cc,h1,h2.to hk hS⟩
theorem yx.to {S R T:Nat→Prop} {w w':World} {x:Se} {cs:List Value} (h:yx S w x cs) (hk:aA R w w') (hS : ∀b,S b→b<w.heap.size→¬R b∧T b):yx T w' x cs:=by
 obtain⟨k,op,tb,nm,vk,vn,vs,ys,aa,nn,cc,h1,h2,h3⟩:=h
 exact⟨k,op,tb,nm,vk,vn,vs,ys,aa,nn,cc,h1,h2,h3.to hk hS⟩
theorem gH.to {S R T:Nat→Prop} {w w':World} {x:Co} {cs:List Value} (h:gH S w x cs) (hk:aA R w w') (hS : ∀b,S b→b<w.heap.size→¬R b∧T b):gH T w' x cs:=h
theorem Aq.to {S R T:Nat→Prop} {w w':World} {x:Vl} {cs:List Value} (h:Aq S w x cs) (hk:aA R w w') (hS : ∀b,S b→b<w.heap.size→¬R b∧T b):Aq T w' x cs:=h
theorem eZ.to {S R T:Nat→Prop} {w w':World} {x:St} {cs:List Value} (h:eZ S w x cs) (hk:aA R w w') (hS : ∀b,S b→b<w.heap.size→¬R b∧T b):eZ T w' x cs:=by
 obtain⟨a1,a2,a3,a4,a5,a6,a7,a8,n1,n2,n3,n4,n5,n6,n7,n8,c1,c2,c3,c4,c5,c6,c7,c8,h0,h1,h2,h3,h4,h5,h6,h7,h8⟩:=h
 exact⟨a1,a2,a3,a4,a5,a6,a7,a8,n1,n2,n3,n4,n5,n6,n7,n8,c1,c2,c3,c4,c5,c6,c7,c8,h0,h1.to (by decide) hk hS (fun _ _ e=>e),h2.to (by decide) hk hS (fun _ _ e=>e.to hk hS),h3.to (by decide) hk hS (fun _ _ e=>e.to hk hS),h4.to (by decide) hk hS (fun _ _ e=>e.to hk hS),h5.to hk hS,h6.to hk hS,h7.to hk hS,h8.to hk hS⟩
def D0 (r:Rd):Prop:=r.bad=0→r.d=0
theorem D0.after {F:Nat} {α:Type} {p:Pa α} {r:Rd} (hp:FV false F p) (hG:Good F r) (h:D0 r):D0 (p r).2:=fun hb=>by
 rw[(hp.fine r trivial hG).2.1]
 refine h ?_
 by_cases e:r.bad=0
 ·exact e
 ·rw[(hp.mono r e).1] at hb;exact hb
end Go.Proofs.YtfeglkleoijlaaaGreatDoor
