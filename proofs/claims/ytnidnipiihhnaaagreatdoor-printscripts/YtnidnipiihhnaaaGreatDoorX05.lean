/- Packed for the hand-in: PRead PMust PArgs PCol PRow -/
import Derived.Test.YtnidnipiihhnaaaGreatDoorX04
namespace Go.Proofs.YtnidnipiihhnaaaGreatDoor
open Go.RowKit Go.Shelf
set_option linter.unusedSimpArgs false
set_option linter.unusedVariables false
set_option maxRecDepth 20000
set_option maxHeartbeats 8000000
abbrev Fr (g:Nat) (w w':World):Prop:=Spares (fun k=>k=g) w w'
structure RdAt (F:Nat) (w:World) (g:Nat) (r:Rd):Prop where
 good:Good F r
 lie : ∃v,w.heap[g]?=some (.cells #[v,.int .i64 r.d,.int .i64 r.bad,.int .i64 r.bp] 126)∧Toks g w v r.ts
theorem RdAt.lt {F:Nat} {w:World} {g:Nat} {r:Rd} (h:RdAt F w g r):g<w.heap.size:=by
 obtain⟨v,hv,_⟩:=h.lie
 exact (Array.getElem?_eq_some_iff.1 hv).1
theorem Toks.keeps {R:Nat→Prop} {B:Nat} {w w':World} {v:Value} {xs:List Tk} (h:Toks B w v xs) (hk:Spares R w w') (hR : ∀i,i<B→¬R i):Toks B w' v xs:=by
 obtain⟨a,c,hv,h1,h2,h3⟩:=h
 refine ⟨a,c,hv,h1,h2,fun hne=>?_⟩
 obtain⟨b,off,ha,hlt,hc⟩:=h3 hne
 refine ⟨b,off,ha,hlt,fun j x hx=>?_⟩
 obtain⟨c0,c1,c2,c3⟩:=hc j x hx
 exact⟨hk.cell c0 (hR b hlt),hk.cell c1 (hR b hlt),hk.cell c2 (hR b hlt),hk.cell c3 (hR b hlt)⟩
theorem RdAt.keeps {F:Nat} {R:Nat→Prop} {w w':World} {g:Nat} {r:Rd} (h:RdAt F w g r) (hk:Spares R w w') (hR : ∀i,i≤g→¬R i):RdAt F w' g r:=by
 obtain⟨v,hv,ht⟩:=h.lie
 exact⟨h.good,v,by rw[hk.block g h.lt (hR g (Nat.le_refl _))];exact hv,ht.keeps hk (fun i hi=>hR i (by omega))⟩
theorem RdAt.below {F:Nat} {w w':World} {g:Nat} {r:Rd} (h:RdAt F w g r) (hb:Below w.heap.size w w'):RdAt F w' g r :=
 h.keeps (Spares.of_new (S:=fun _=>False) hb) (fun _ _ e=>e)
theorem Spares.setCell {S:Nat→Prop} {a b:World} (h:Spares S a b) {p:Addr} (hp:S p.block∨a.heap.size≤p.block) (u:Value):Spares S a (b.setCell p u) :=
 ⟨h.os,h.tape,h.output,by simpa [World.setCell] using h.size,fun k hk hS=>(Below.heap_setCell _ _ _ _ (by rintro rfl;rcases hp with hp | hp;exact hS hp;omega)).trans (h.block k hk hS)⟩
theorem Spares.setRow {S:Nat→Prop} {a b:World} (h:Spares S a b) {p:Nat} (hp:S p∨a.heap.size≤p) (cs:Array Value):Spares S a (b.setRow p cs) :=
 ⟨h.os,h.tape,h.output,by simpa using h.size,fun k hk hS=>(setRow_other _ _ _ _ (by rintro rfl;rcases hp with hp | hp;exact hS hp;omega)).trans (h.block k hk hS)⟩
theorem Spares.alloc {S:Nat→Prop} {a b:World} (h:Spares S a b) (o:Obj):Spares S a (b.alloc o) :=
 ⟨h.os,h.tape,h.output,by have:=h.size;simp;omega,fun k hk hS=>(Below.heap_alloc _ _ _ (Nat.lt_of_lt_of_le hk h.size)).trans (h.block k hk hS)⟩
theorem Spares.own {g:Nat} {a b:World} (h:Fr g a b) (i:Nat) (u:Value):Fr g a (b.setCell ⟨g,i,none⟩ u):=Spares.setCell (S:=fun k=>k=g) h (p:=⟨g,i,none⟩) (.inl rfl) u
theorem Spares.then {S:Nat→Prop} {a b c:World} (h:Spares S a b) (k:Spares S b c):Spares S a c:=h.andThen k fun _ hi=>.inl hi
theorem Spares.thenNew {S:Nat→Prop} {a b c:World} (h:Spares S a b) (k:Below b.heap.size b c):Spares S a c:=h.andThen (Spares.of_new (S:=S) k) fun _ hi=>.inl hi
structure RdL (w:World) (g:Nat) (r:Rd):Prop where
 any:r.bad=0→r.ts≠[]
 lie : ∃v,w.heap[g]?=some (.cells #[v,.int .i64 r.d,.int .i64 r.bad,.int .i64 r.bp] 126)∧Toks g w v r.ts
theorem RdL.lt {w:World} {g:Nat} {r:Rd} (h:RdL w g r):g<w.heap.size:=by
 obtain⟨v,hv,_⟩:=h.lie
 exact (Array.getElem?_eq_some_iff.1 hv).1
theorem RdL.keeps {R:Nat→Prop} {w w':World} {g:Nat} {r:Rd} (h:RdL w g r) (hk:Spares R w w') (hR : ∀i,i≤g→¬R i):RdL w' g r:=by
 obtain⟨v,hv,ht⟩:=h.lie
 exact⟨h.any,v,by rw[hk.block g h.lt (hR g (Nat.le_refl _))];exact hv,ht.keeps hk (fun i hi=>hR i (by omega))⟩
theorem RdL.below {w w':World} {g:Nat} {r:Rd} (h:RdL w g r) (hb:Below w.heap.size w w'):RdL w' g r :=
 h.keeps (Spares.of_new (S:=fun _=>False) hb) (fun _ _ e=>e)
theorem RdL.head {w:World} {g:Nat} {r:Rd} (h:RdL w g r) (hb:r.bad=0) :
  ∃
   (b off n c:Nat) (x:Tk) (l:List Tk),r.ts=x::l∧nowR r=x∧b<g∧n=l.length+1∧n≤c∧c≤maxLen∧w.heap[g]?=some (.cells #[.slice (some ⟨b,off,none⟩) n c,.int .i64 r.d,.int .i64 0,.int .i64 r.bp] 126) ∧
   ∀j y,(x::l)[j]?=some y→w.cell? ⟨b,off+j*4,none⟩=some (.int .i64 y.k)∧w.cell? ⟨b,off+j*4+1,none⟩=some (.string (str8 y.s))∧w.cell? ⟨b,off+j*4+2,none⟩=some (.int .i64 y.n)∧w.cell? ⟨b,off+j*4+3,none⟩=some (.int .i64 y.p):=by
 obtain⟨v,hv,a,c,rfl,h1,h2,h3⟩:=h.lie
 cases hts:r.ts with
 | nil=>exact absurd hts (h.any hb)
 |
  cons x l =>
  rw[hts] at h1 h3 hv
  obtain⟨b,off,rfl,hlt,hc⟩:=h3 (by simp)
  refine ⟨b,off,l.length+1,c,x,l,rfl,?_,hlt,rfl,by simpa using h1,h2,by rw[hb] at hv;simpa using hv,hc⟩
  unfold nowR
  rw[if_pos hb,hts]
  rfl
theorem box8 (w:World) (o:Obj):∃W,w.alloc o=W∧Below w.heap.size w W∧w.heap.size<W.heap.size∧W.heap[w.heap.size]?=some o :=
 ⟨_,rfl,(Below.refl _ _).alloc (Nat.le_refl _) _,by simp,heap_alloc_new w _⟩
theorem RdAt.put {F:Nat} {w:World} {g:Nat} {r:Rd} {cs:Array Value} {v:Value} (hg:w.heap[g]?=some (.cells cs 126)) (hG:Good F r) (ht:Toks g w v r.ts):RdAt F (w.setRow g #[v,.int .i64 r.d,.int .i64 r.bad,.int .i64 r.bp]) g r:=by
 refine ⟨hG,v,setRow_heap w g cs _ _ _ hg,?_⟩
 exact ht.keeps (R:=fun k=>k=g) (Spares.setRow (S:=fun k=>k=g) (Spares.refl _ w) (p:=g) (.inl rfl) _) (fun i hi e=>by omega)
def StrsG (g:Nat) (w:World) (v:Value) (ts:List (List UInt8)):Prop :=
 ∃a c,v = .slice a ts.length c∧ts.length≤1000∧(ts≠[]→∃b,a=some ⟨b,0,none⟩∧g<b∧∀j t,ts[j]?=some t→w.cell? ⟨b,j,none⟩=some (.string (str8 t)))
theorem StrsG.keeps {g:Nat} {R:Nat→Prop} {w w':World} {v:Value} {ts:List (List UInt8)} (h:StrsG g w v ts) (hk:Spares R w w') (hR : ∀i,g<i→¬R i):StrsG g w' v ts:=by
 obtain⟨a,c,h1,h2,h3⟩:=h
 refine ⟨a,c,h1,h2,fun hne=>?_⟩
 obtain⟨b,ha,hb,hc⟩:=h3 hne
 exact⟨b,ha,hb,fun j t ht=>hk.cell (hc j t ht) (hR b hb)⟩
def ChsG (g:Nat) (w:World) (v:Value) (l:List (List UInt8 × Int)):Prop :=
 ∃a c,v = .slice a l.length c∧l.length≤1000∧(l≠[]→∃b,a=some ⟨b,0,none⟩∧g<b∧∀j t,l[j]?=some t→w.cell? ⟨b,j*2,none⟩=some (.string (str8 t.1))∧w.cell? ⟨b,j*2+1,none⟩=some (.int .i64 t.2))
theorem ChsG.keeps {g:Nat} {R:Nat→Prop} {w w':World} {v:Value} {l:List (List UInt8 × Int)} (h:ChsG g w v l) (hk:Spares R w w') (hR : ∀i,g<i→¬R i):ChsG g w' v l:=by
 obtain⟨a,c,h1,h2,h3⟩:=h
 refine ⟨a,c,h1,h2,fun hne=>?_⟩
 obtain⟨b,ha,hb,hc⟩:=h3 hne
 exact⟨b,ha,hb,fun j t ht=>⟨hk.cell (hc j t ht).1 (hR b hb),hk.cell (hc j t ht).2 (hR b hb)⟩⟩
inductive ArgsAt (S:Nat→Prop) (w:World):List Ex→Value→Prop
 | nil (a:Option Addr) (c:Nat) (hc:c≤maxLen):ArgsAt S w [] (.slice a 0 c)
 | cons (xs:List Ex) (b off c:Nat) (avs:Nat→Value) (hne:xs≠[]) (hS:S b) (hl:xs.length≤c) (hc:c≤maxLen)
  (hcell : ∀(j:Nat) (k op:Int) (tb nm:List UInt8) (vk vn:Int) (vs:List UInt8) (ys:List Ex),xs[j]?=some (.mk k op tb nm ⟨vk,vn,vs⟩ ys) →
   w.cell? ⟨b,off+j*8,none⟩=some (.int .i64 k)∧w.cell? ⟨b,off+j*8+1,none⟩=some (.int .i64 op)∧w.cell? ⟨b,off+j*8+2,none⟩=some (.string (str8 tb))∧w.cell? ⟨b,off+j*8+3,none⟩=some (.string (str8 nm)) ∧
   w.cell? ⟨b,off+j*8+4,none⟩=some (.int .i64 vk)∧w.cell? ⟨b,off+j*8+5,none⟩=some (.int .i64 vn)∧w.cell? ⟨b,off+j*8+6,none⟩=some (.string (str8 vs))∧w.cell? ⟨b,off+j*8+7,none⟩=some (avs j))
  (hrec : ∀(j:Nat) (k op:Int) (tb nm:List UInt8) (vk vn:Int) (vs:List UInt8) (ys:List Ex),xs[j]?=some (.mk k op tb nm ⟨vk,vn,vs⟩ ys)→ArgsAt S w ys (avs j)) :
  ArgsAt S w xs (.slice (some ⟨b,off,none⟩) xs.length c)
theorem ArgsAt.to {S R T:Nat→Prop} {w w':World} {xs:List Ex} {v:Value} (h:ArgsAt S w xs v) (hk:Spares R w w') (hS : ∀b,S b→b<w.heap.size→¬R b∧T b):ArgsAt T w' xs v:=by
 induction h with
 | nil a c hc=>exact .nil a c hc
 |
  cons xs b off c avs hne hSb hl hc hcell hrec ih =>
  have hb:b<w.heap.size:=by
   cases xs with
   | nil=>exact absurd rfl hne
   |
    cons x l =>
    obtain⟨k,op,tb,nm,⟨vk,vn,vs⟩,ys⟩:=x
    exact World.block_lt_of_cell? w _ (hcell 0 k op tb nm vk vn vs ys rfl).1
  obtain⟨h1,h2⟩:=hS b hSb hb
  refine .cons xs b off c avs hne h2 hl hc (fun j k op tb nm vk vn vs ys hj=>?_) ih
  obtain⟨c0,c1,c2,c3,c4,c5,c6,c7⟩:=hcell j k op tb nm vk vn vs ys hj
  exact⟨hk.cell c0 h1,hk.cell c1 h1,hk.cell c2 h1,hk.cell c3 h1,hk.cell c4 h1,hk.cell c5 h1,hk.cell c6 h1,hk.cell c7 h1⟩
theorem ArgsAt.form {S:Nat→Prop} {w:World} {xs:List Ex} {v:Value} (h:ArgsAt S w xs v):∃a c,v = .slice a xs.length c∧c≤maxLen:=by
 cases h with
 | nil a c hc=>exact⟨a,c,rfl,hc⟩
 | cons xs b off c avs hne hS hl hc hcell hrec=>exact⟨_,c,rfl,hc⟩
def ExV (S:Nat→Prop) (w:World) (x:Ex) (v:Value):Prop :=
 ∃(k op:Int) (tb nm:List UInt8) (vk vn:Int) (vs:List UInt8) (ys:List Ex) (aa:Option Addr) (nn cc:Nat),x = .mk k op tb nm ⟨vk,vn,vs⟩ ys∧v = .agg #[.int .i64 k,.int .i64 op,.string (str8 tb),.string (str8 nm),.int .i64 vk,.int .i64 vn,.string (str8 vs),.slice aa nn cc]∧ArgsAt S w ys (.slice aa nn cc)
theorem ExV.to {S R T:Nat→Prop} {w w':World} {x:Ex} {v:Value} (h:ExV S w x v) (hk:Spares R w w') (hS : ∀b,S b→b<w.heap.size→¬R b∧T b):ExV T w' x v:=by
 obtain⟨k,op,tb,nm,vk,vn,vs,ys,aa,nn,cc,h1,h2,h3⟩:=h
 exact⟨k,op,tb,nm,vk,vn,vs,ys,aa,nn,cc,h1,h2,h3.to hk hS⟩
theorem cells8 {w:World} {g:Nat} {a b c d e f i j:Value} {t:TypeId} {fr:Nat × Nat} (h:w.heap[g]?=some (.cells #[a,b,c,d,e,f,i,j] t fr)) :
  w.cell? ⟨g,0,none⟩=some a∧w.cell? ⟨g,1,none⟩=some b∧w.cell? ⟨g,2,none⟩=some c∧w.cell? ⟨g,3,none⟩=some d∧w.cell? ⟨g,4,none⟩=some e∧w.cell? ⟨g,5,none⟩=some f∧w.cell? ⟨g,6,none⟩=some i∧w.cell? ⟨g,7,none⟩=some j :=
 ⟨by rw[cell_row _ _ _ _ _ _ h];rfl,by rw[cell_row _ _ _ _ _ _ h];rfl,by rw[cell_row _ _ _ _ _ _ h];rfl,by rw[cell_row _ _ _ _ _ _ h];rfl,by rw[cell_row _ _ _ _ _ _ h];rfl,by rw[cell_row _ _ _ _ _ _ h];rfl,by rw[cell_row _ _ _ _ _ _ h];rfl,by rw[cell_row _ _ _ _ _ _ h];rfl⟩
theorem args_one {S:Nat→Prop} {w:World} {b:Nat} {k op:Int} {tb nm:List UInt8} {vk vn:Int} {vs:List UInt8} {ys:List Ex} {av:Value} {t:TypeId} (hS:S b)
  (hb:w.heap[b]?=some (.cells #[.int .i64 k,.int .i64 op,.string (str8 tb),.string (str8 nm),.int .i64 vk,.int .i64 vn,.string (str8 vs),av] t)) (ha:ArgsAt S w ys av) :
  ArgsAt S w [.mk k op tb nm ⟨vk,vn,vs⟩ ys] (.slice (some ⟨b,0,none⟩) 1 1):=by
 refine ArgsAt.cons (S:=S) (w:=w) [.mk k op tb nm ⟨vk,vn,vs⟩ ys] b 0 1 (fun _=>av) (by simp) hS (by simp) (by unfold maxLen;omega) ?_ ?_
 ·intro j k' op' tb' nm' vk' vn' vs' ys' hj
  match j,hj with
  |
   0,hj =>
   simp only[List.getElem?_cons_zero,Option.some.injEq,Ex.mk.injEq,Vl.mk.injEq] at hj
   obtain⟨rfl,rfl,rfl,rfl,⟨rfl,rfl,rfl⟩,rfl⟩:=hj
   simpa using cells8 hb
 ·intro j k' op' tb' nm' vk' vn' vs' ys' hj
  match j,hj with
  |
   0,hj =>
   simp only[List.getElem?_cons_zero,Option.some.injEq,Ex.mk.injEq,Vl.mk.injEq] at hj
   obtain⟨rfl,rfl,rfl,rfl,⟨rfl,rfl,rfl⟩,rfl⟩:=hj
   exact ha
theorem three (w:World) (A B C:Obj):∃W,((w.alloc A).alloc B).alloc C=W∧Below w.heap.size w W∧W.heap[w.heap.size+1]?=some B∧W.heap[w.heap.size+1+1]?=some C:=by
 refine ⟨_,rfl,(((Below.refl _ w).alloc (Nat.le_refl _) A).alloc (by simp) B).alloc (by simp;omega) C,?_,?_⟩
 ·rw[Below.heap_alloc _ _ _ (by simp)]
  exact heap_alloc2_new w A B
 ·have h:=heap_alloc_new ((w.alloc A).alloc B) C
  have e:((w.alloc A).alloc B).heap.size=w.heap.size+1+1:=by simp
  rw[e] at h
  exact h
theorem cells8f {w:World} {g:Nat} {a b c d e f i j:Value} {t:TypeId} (h:w.heap[g]?=some (.cells #[a,b,c,d,e,f,i,j] t)):(∀i,w.frozen? ⟨g,i,none⟩=false) ∧
  w.cell? ⟨g,0,none⟩=some a∧w.cell? ⟨g,1,none⟩=some b∧w.cell? ⟨g,2,none⟩=some c∧w.cell? ⟨g,3,none⟩=some d∧w.cell? ⟨g,4,none⟩=some e∧w.cell? ⟨g,5,none⟩=some f∧w.cell? ⟨g,6,none⟩=some i∧w.cell? ⟨g,7,none⟩=some j :=
 ⟨fun i=>by simp[World.frozen?,h],cells8 h⟩
theorem World.lt_of_block {w:World} {b:Nat} {o:Obj} (h:w.heap[b]?=some o):b<w.heap.size:=(Array.getElem?_eq_some_iff.1 h).1
theorem two (w:World) (A B:Obj):∃W,(w.alloc A).alloc B=W∧Below w.heap.size w W∧w.heap.size+1<W.heap.size∧W.heap[w.heap.size]?=some A∧W.heap[w.heap.size+1]?=some B:=by
 refine ⟨_,rfl,((Below.refl _ w).alloc (Nat.le_refl _) A).alloc (by simp) B,by simp,?_,heap_alloc2_new w A B⟩
 rw[Below.heap_alloc _ _ _ (by simp)]
 exact heap_alloc_new w A
def lenAt (g:Nat) (w:World):Nat:=match w.cell? ⟨g,0,none⟩ with
 | some (.slice _ n _)=>n
 | _=>0
theorem RdAt.len {F:Nat} {w:World} {g:Nat} {r:Rd} (h:RdAt F w g r):lenAt g w=r.ts.length:=by
 obtain⟨v,hv,a,c,rfl,_⟩:=h.lie
 unfold lenAt
 rw[(cells4 hv).1]
theorem RdL.setD {w:World} {g:Nat} {r:Rd} (h:RdL w g r) (d:Int):∃W,w.setCell ⟨g,1,none⟩ (.int .i64 d)=W∧RdL W g { r with d:=d }∧Fr g w W:=by
 refine ⟨_,rfl,?_,(Spares.refl (fun k=>k=g) w).own _ _⟩
 obtain⟨v,hv,ht⟩:=h.lie
 rw[setCell_eq_setRow w g 1 _ _ _ _ hv]
 refine ⟨h.any,v,?_,?_⟩
 ·rw[setRow_heap w g _ _ _ _ hv]
  rfl
 ·exact ht.keeps (R:=fun k=>k=g) (Spares.setRow (S:=fun k=>k=g) (Spares.refl _ w) (p:=g) (.inl rfl) _) (fun i hi e=>by omega)
end Go.Proofs.YtnidnipiihhnaaaGreatDoor
