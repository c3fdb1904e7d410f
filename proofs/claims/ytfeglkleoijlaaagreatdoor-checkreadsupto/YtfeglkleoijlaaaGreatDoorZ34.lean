/- Packed for the hand-in: KTwo KBind -/
import Derived.Test.YtfeglkleoijlaaaGreatDoorZ31
import Derived.Test.YtfeglkleoijlaaaGreatDoorZ32
import Derived.Test.YtfeglkleoijlaaaGreatDoorZ33
import Derived.Test.YtfeglkleoijlaaaGreatDoorZ26
namespace Go.Proofs.YtfeglkleoijlaaaGreatDoor
open Go.RowKit Go.Shelf
set_option linter.unusedSimpArgs false
set_option linter.unusedVariables false
set_option maxRecDepth 20000
set_option maxHeartbeats 8000000
structure Two (B0:Nat) (w W:World) (va vk:Value) (rs:List Ex) (ks:List Int) (S:Nat→Prop) (tmp:List (Nat × Obj)) (more:List (Ex × List Value)):Prop where
 bel:Below w.heap.size w W
 le:w.heap.size≤B0
 leW:B0≤W.heap.size
 ownK:W.ownsRow B0 3 1 vk ks.length (ks.map fun x=>.int .i64 x)
 ownA : ∃css,W.ownsRow B0 48 8 va rs.length css.flatten∧gJ 8 gu S W rs css
 sepA : ∀b,va.ownBlock=some b→vk.ownBlock≠some b
 bT : ∀b,S b→B0≤b∧b<W.heap.size∧va.ownBlock≠some b∧vk.ownBlock≠some b
 keep : ∀p∈tmp,W.heap[p.1]?=some p.2∧va.ownBlock≠some p.1∧vk.ownBlock≠some p.1
 also : ∀p∈more,gu S W p.1 p.2
theorem Two.zu {B0:Nat} {w W:World} {va vk:Value} {rs:List Ex} {ks:List Int} {S:Nat→Prop} {tmp:List (Nat × Obj)} {more:List (Ex × List Value)} (h:Two B0 w W va vk rs ks S tmp more):(∀b,va.ownBlock=some b→B0≤b∧b<W.heap.size)∧(∀b,vk.ownBlock=some b→B0≤b∧b<W.heap.size):=by
 obtain⟨css,ho,_⟩:=h.ownA
 exact⟨fun b hb=>ho.lt b hb,fun b hb=>h.ownK.lt b hb⟩
theorem Two.BU {B0:Nat} {w W V:World} {va vk:Value} {rs:List Ex} {ks:List Int} {S R:Nat→Prop} {tmp:List (Nat × Obj)} {more:List (Ex × List Value)} (h:Two B0 w W va vk rs ks S tmp more) (hk:aA R W V) (hB : ∀b,b<w.heap.size→¬R b) (hS : ∀b,S b→¬R b) (ha : ∀b,va.ownBlock=some b→¬R b) (hkk : ∀b,vk.ownBlock=some b→¬R b) (ht : ∀p∈tmp,¬R p.1):Two B0 w V va vk rs ks S tmp more:=by
 obtain⟨css,ho,he⟩:=h.ownA
 refine ⟨h.bel.trans (hk.below (fun i hi=>Nat.le_of_not_lt fun hlt=>hB i hlt hi) (Nat.le_trans h.le h.leW)),h.le,Nat.le_trans h.leW hk.size,hk.row h.ownK (fun b hb=>hkk b hb),⟨css,hk.row ho (fun b hb=>ha b hb),he.to (fun x cs e=>e.to hk (fun b hb _=>⟨hS b hb,hb⟩))⟩,h.sepA,fun b hb=>?_,fun p hp=>?_,fun p hp=>?_⟩
 ·obtain⟨h1,h2,h3,h4⟩:=h.bT b hb
  exact⟨h1,Nat.lt_of_lt_of_le h2 hk.size,h3,h4⟩
 ·obtain⟨h1,h2,h3⟩:=h.keep p hp
  exact⟨(hk.block p.1 (World.lt_of_block h1) (ht p hp)).trans h1,h2,h3⟩
 ·exact (h.also p hp).to hk (fun b hb _=>⟨hS b hb,hb⟩)
theorem Two.pE {B0:Nat} {w W V:World} {va vk:Value} {rs:List Ex} {ks:List Int} {S:Nat→Prop} {tmp:List (Nat × Obj)} {more:List (Ex × List Value)} (h:Two B0 w W va vk rs ks S tmp more) (hb:Below W.heap.size W V):Two B0 w V va vk rs ks S tmp more :=
 h.BU (R:=fun _=>False) (aA.aC hb) (fun _ _=>id) (fun _ _=>id) (fun _ _=>id) (fun _ _=>id) (fun _ _=>id)
theorem Two.yC {B0:Nat} {w W:World} {va vk:Value} {rs:List Ex} {ks:List Int} {S:Nat→Prop} {tmp:List (Nat × Obj)} {more:List (Ex × List Value)} (h:Two B0 w W va vk rs ks S tmp more) (g:Nat) (o:Obj) (hg:W.heap[g]?=some o) (ha:va.ownBlock≠some g) (hk:vk.ownBlock≠some g):Two B0 w W va vk rs ks S ((g,o)::tmp) more :=
 ⟨h.bel,h.le,h.leW,h.ownK,h.ownA,h.sepA,h.bT,fun p hp=>by
  rcases List.mem_cons.1 hp with rfl | hp
  ·exact⟨hg,ha,hk⟩
  ·exact h.keep p hp,h.also⟩
theorem Two.I7 {B0:Nat} {w W:World} {va vk:Value} {rs:List Ex} {ks:List Int} {S:Nat→Prop} {tmp tmp':List (Nat × Obj)} {more:List (Ex × List Value)} (h:Two B0 w W va vk rs ks S tmp more) (hs : ∀p∈tmp',p∈tmp):Two B0 w W va vk rs ks S tmp' more :=
 ⟨h.bel,h.le,h.leW,h.ownK,h.ownA,h.sepA,h.bT,fun p hp=>h.keep p (hs p hp),h.also⟩
theorem Two.GR {B0:Nat} {w W:World} {va vk:Value} {rs:List Ex} {ks:List Int} {S S2:Nat→Prop} {tmp:List (Nat × Obj)} {more:List (Ex × List Value)} (h:Two B0 w W va vk rs ks S tmp more) (hs : ∀b,S b→S2 b) (h2 : ∀b,S2 b→S b∨(B0≤b∧b<W.heap.size∧va.ownBlock≠some b∧vk.ownBlock≠some b)):Two B0 w W va vk rs ks S2 tmp more:=by
 obtain⟨css,ho,he⟩:=h.ownA
 exact⟨h.bel,h.le,h.leW,h.ownK,⟨css,ho,he.to (fun x cs e=>e.to (aA.refl (fun _=>False) W) (fun b hb _=>⟨id,hs b hb⟩))⟩,h.sepA,fun b hb=>by
  rcases h2 b hb with h3 | h3
  ·exact h.bT b h3
  ·exact h3,h.keep,fun p hp=>(h.also p hp).to (aA.refl (fun _=>False) W) (fun b hb _=>⟨id,hs b hb⟩)⟩
theorem Two.GV {B0:Nat} {w W:World} {va vk:Value} {rs:List Ex} {ks:List Int} {S:Nat→Prop} {tmp:List (Nat × Obj)} {more:List (Ex × List Value)} (h:Two B0 w W va vk rs ks S tmp more) (x:Ex) (cs:List Value) (hx:gu S W x cs):Two B0 w W va vk rs ks S tmp ((x,cs)::more) :=
 ⟨h.bel,h.le,h.leW,h.ownK,h.ownA,h.sepA,h.bT,h.keep,fun p hp=>by
  rcases List.mem_cons.1 hp with rfl | hp
  ·exact hx
  ·exact h.also p hp⟩
theorem Two.Ip {B0:Nat} {w W:World} {va vk:Value} {rs:List Ex} {ks:List Int} {S:Nat→Prop} {tmp:List (Nat × Obj)} {more:List (Ex × List Value)} (h:Two B0 w W va vk rs ks S tmp more):Two B0 w W va vk rs ks S tmp [] :=
 ⟨h.bel,h.le,h.leW,h.ownK,h.ownA,h.sepA,h.bT,h.keep,fun p hp=>by cases hp⟩
theorem Two.nE {B0:Nat} {w W:World} {va vk:Value} {rs:List Ex} {ks:List Int} {S:Nat→Prop} {tmp:List (Nat × Obj)} {more:List (Ex × List Value)} (h:Two B0 w W va vk rs ks S tmp more) (o:Obj):Two B0 w (W.alloc o) va vk rs ks S ((W.heap.size,o)::tmp) more :=
 (h.pE ((Below.refl _ W).alloc (Nat.le_refl _) o)).yC _ _ (heap_alloc_new W o) (fun e=>by have:=(h.zu.1 _ e).2;omega) (fun e=>by have:=(h.zu.2 _ e).2;omega)
theorem Two.G5 {B0:Nat} {w W:World} {va vk:Value} {rs:List Ex} {ks:List Int} {S:Nat→Prop} {tmp:List (Nat × Obj)} {more:List (Ex × List Value)} (h:Two B0 w W va vk rs ks S tmp more):Two B0 w W.drew va vk rs ks S tmp more:=h.pE (Below.refl _ W).drew
theorem Tryz.l9:(Tryz.prog.info? 48).map (fun i=>(i.zero,i.size,i.bytes))=some (some (.agg #[.int .i64 0,.int .i64 0,.string ⟨#[]⟩,.string ⟨#[]⟩,.int .i64 0,.int .i64 0,.string ⟨#[]⟩,.slice none 0 0]),8,104):=by kernel_rfl
theorem Tryz.wJ:(Tryz.prog.info? 3).map (fun i=>(i.zero,i.size,i.bytes))=some (some (.int .i64 0),1,8):=by kernel_rfl
theorem fH {w w':World} {b:Option Nat} (h:w.grownBy w' b):aA (fun k=>b=some k) w w':=aA.dZ h (fun k e=>e)
theorem Two.GH {B0:Nat} {w W:World} {va vk:Value} {rs:List Ex} {ks:List Int} {S:Nat→Prop} {tmp:List (Nat × Obj)} {more:List (Ex × List Value)} (h:Two B0 w W va vk rs ks S tmp more) (x:Ex) (cs:List Value) (g:Nat) (hl:cs.length=8) (h1 : ∀u∈cs,u.oneCell'=true) (hg:(g,Obj.cells cs.toArray 48)∈tmp) (hx:gu S W x cs) (hn:rs.length≤1000000) (ty:TypeId) :
  ∃va' W',(Builtin.append_ #[27,27] ty #[va,.slice (some ⟨g,0,none⟩) 1 1]).run Tryz.prog W = .ok va' W'∧Two B0 w W' va' vk (rs++[x]) ks S tmp more:=by
 obtain⟨css,ho,he⟩:=h.ownA
 obtain⟨i0,hi,hy0,hy1,hy2⟩:=info_parts Tryz.l9
 have hgc:=(h.keep _ hg).1
 obtain⟨va',W',hr,ho',hgr,hob⟩:=eO (P:=Tryz.prog) W B0 27 ty 48 i0 _ 8 104 Tryz.underlying27 hi hy0 hy1 hy2 rfl (by decide) va rs.length css.flatten ho ⟨g,0,none⟩ 1 cs hl (fun j u hu=>by
  rw[Addr.add_lit,Nat.zero_add,cell_of_row _ _ _ _ _ _ hgc]
  simpa using hu) h1 (by unfold maxLen;omega) (by omega) h.leW
 have hsp:=fH hgr
 have hfr : ∀b,b<W.heap.size→vk.ownBlock=some b∨S b∨(∃p∈tmp,p.1=b)→va'.ownBlock≠some b:=fun b hb hc e=>by
  rcases hob with h2 | h2
  ·rw[h2] at e
   rcases hc with hc | hc | ⟨p,hp,rfl⟩
   ·exact h.sepA b e hc
   ·exact (h.bT b hc).2.2.1 e
   ·exact (h.keep p hp).2.1 e
  ·rw[h2] at e
   injection e with e
   omega
 refine ⟨va',W',hr,h.bel.trans (hsp.below (fun i hi=>Nat.le_trans h.le (h.zu.1 i hi).1) (Nat.le_trans h.le h.leW)),h.le,Nat.le_trans h.leW hsp.size,hsp.row h.ownK (fun b hb e=>h.sepA b e hb),⟨css++[cs],?_,?_⟩,fun b hb hk=>?_,fun b hb=>?_,fun p hp=>?_,fun p hp=>?_⟩
 ·rw[List.length_append,List.flatten_append]
  simpa using ho'
 ·exact (he.snoc hl hx).to (fun y ds e=>e.to hsp (fun b hb _=>⟨(h.bT b hb).2.2.1,hb⟩))
 ·exact hfr b (h.zu.2 b hk).2 (.inl hk) hb
 ·obtain⟨k1,k2,k3,k4⟩:=h.bT b hb
  exact⟨k1,Nat.lt_of_lt_of_le k2 hsp.size,hfr b k2 (.inr (.inl hb)),k4⟩
 ·obtain⟨k1,k2,k3⟩:=h.keep p hp
  exact⟨(hsp.block p.1 (World.lt_of_block k1) k2).trans k1,hfr p.1 (World.lt_of_block k1) (.inr (.inr ⟨p,hp,rfl⟩)),k3⟩
 ·exact (h.also p hp).to hsp (fun b hb _=>⟨(h.bT b hb).2.2.1,hb⟩)
theorem Two.GU {B0:Nat} {w W:World} {va vk:Value} {rs:List Ex} {ks:List Int} {S:Nat→Prop} {tmp:List (Nat × Obj)} {more:List (Ex × List Value)} (h:Two B0 w W va vk rs ks S tmp more) (x:Int) (g:Nat) (hg:(g,Obj.cells #[.int .i64 x] 3)∈tmp) (hn:ks.length≤1000000) (ty:TypeId) :
  ∃vk' W',(Builtin.append_ #[87,87] ty #[vk,.slice (some ⟨g,0,none⟩) 1 1]).run Tryz.prog W = .ok vk' W'∧Two B0 w W' va vk' rs (ks++[x]) S tmp more:=by
 obtain⟨css,ho,he⟩:=h.ownA
 obtain⟨i0,hi,hy0,hy1,hy2⟩:=info_parts Tryz.wJ
 have hgc:=(h.keep _ hg).1
 obtain⟨vk',W',hr,ho',hgr,hob⟩:=eO (P:=Tryz.prog) W B0 87 ty 3 i0 _ 1 8 Tryz.underlying87 hi hy0 hy1 hy2 rfl (by decide) vk ks.length _ h.ownK ⟨g,0,none⟩ 1 [.int .i64 x] rfl (fun j u hu=>by
  rw[Addr.add_lit,Nat.zero_add,cell_of_row _ _ _ _ _ _ hgc]
  simpa using hu) (by intro u hu;simp only[List.mem_singleton] at hu;rw[hu];rfl) (by unfold maxLen;omega) (by omega) h.leW
 have hsp:=fH hgr
 have hfr : ∀b,b<W.heap.size→va.ownBlock=some b∨S b∨(∃p∈tmp,p.1=b)→vk'.ownBlock≠some b:=fun b hb hc e=>by
  rcases hob with h2 | h2
  ·rw[h2] at e
   rcases hc with hc | hc | ⟨p,hp,rfl⟩
   ·exact h.sepA b hc e
   ·exact (h.bT b hc).2.2.2 e
   ·exact (h.keep p hp).2.2 e
  ·rw[h2] at e
   injection e with e
   omega
 refine ⟨vk',W',hr,h.bel.trans (hsp.below (fun i hi=>Nat.le_trans h.le (h.zu.2 i hi).1) (Nat.le_trans h.le h.leW)),h.le,Nat.le_trans h.leW hsp.size,?_,⟨css,hsp.row ho (fun b hb e=>h.sepA b hb e),he.to (fun y ds e=>e.to hsp (fun b hb _=>⟨(h.bT b hb).2.2.2,hb⟩))⟩,fun b hb hk=>?_,fun b hb=>?_,fun p hp=>?_,fun p hp=>?_⟩
 ·rw[List.length_append,List.map_append]
  exact ho'
 ·exact hfr b (h.zu.1 b hb).2 (.inl hb) hk
 ·obtain⟨k1,k2,k3,k4⟩:=h.bT b hb
  exact⟨k1,Nat.lt_of_lt_of_le k2 hsp.size,k3,hfr b k2 (.inr (.inl hb))⟩
 ·obtain⟨k1,k2,k3⟩:=h.keep p hp
  exact⟨(hsp.block p.1 (World.lt_of_block k1) k3).trans k1,k2,hfr p.1 (World.lt_of_block k1) (.inr (.inr ⟨p,hp,rfl⟩))⟩
 ·exact (h.also p hp).to hsp (fun b hb _=>⟨(h.bT b hb).2.2.2,hb⟩)
theorem Two.F5 {B0:Nat} {w W:World} {va vk:Value} {rs:List Ex} {ks:List Int} {S:Nat→Prop} {tmp:List (Nat × Obj)} {more:List (Ex × List Value)} (h:Two B0 w W va vk rs ks S tmp more) (g:Nat) (hB:w.heap.size≤g) (hS : ¬S g) (ha:va.ownBlock≠some g) (hk:vk.ownBlock≠some g) (ht : ∀p∈tmp,p.1≠g) (cs:Array Value):Two B0 w (W.setRow g cs) va vk rs ks S tmp more :=
 h.BU (R:=fun k=>k=g) (aA.setRow (S:=fun k=>k=g) (aA.refl _ W) (p:=g) (.inl rfl) cs) (fun b hb e=>by omega) (fun b hb e=>hS (e ▸ hb)) (fun b hb e=>ha (e ▸ hb)) (fun b hb e=>hk (e ▸ hb)) (fun p hp e=>ht p hp e)
theorem Two.Gq {B0:Nat} {w W:World} {va vk:Value} {rs:List Ex} {ks:List Int} {S:Nat→Prop} {tmp:List (Nat × Obj)} {more:List (Ex × List Value)} (h:Two B0 w W va vk rs ks S tmp more):bF (fun b=>B0≤b) W rs va∧aQ 1 qb (fun b=>B0≤b) W ks vk:=by
 obtain⟨css,ho,he⟩:=h.ownA
 refine ⟨tY (aQ.dW (by decide) ho (he.to (fun x cs e=>e.to (aA.refl (fun _=>False) W) (fun b hb _=>⟨id,(h.bT b hb).1⟩))) (fun b hb=>(h.zu.1 b hb).1)),?_⟩
 have hf:(ks.map fun x=>([.int .i64 x]:List Value)).flatten=ks.map fun x=>.int .i64 x:=by
  clear h ho he css
  induction ks with
  | nil=>rfl
  | cons k ks ih=>rw[List.map_cons,List.flatten_cons,List.map_cons];simp;exact ih
 refine aQ.dW (css:=ks.map fun x=>[.int .i64 x]) (by decide) (by rw[hf];exact h.ownK) ⟨by simp,fun j x cs hx hc=>?_⟩ (fun b hb=>(h.zu.2 b hb).1)
 rw[List.getElem?_map,hx,Option.map_some,Option.some.injEq] at hc
 subst hc
 exact⟨rfl,rfl⟩
theorem o7 {a:Act} {oi:Oper} {x:Operand} {c0 c1 c2 c3 c4 c5 c6 c7:Value} (ki:oi.op = .buildSlice 27 1 #[(0,x)]) (hx:a.eval x = .agg #[c0,c1,c2,c3,c4,c5,c6,c7]) (V:World) :
  (execOp a.eval oi).run Tryz.prog V = .ok (.value (.slice (some ⟨V.heap.size,0,none⟩) 1 1)) (V.alloc (.cells #[c0,c1,c2,c3,c4,c5,c6,c7] 48)):=by
 have u:=Tryz.underlying27
 obtain⟨r,hr⟩:∃r,a.eval=r:=⟨_,rfl⟩
 rw[hr] at hx ⊢
 unfold execOp
 simp only[ki,hx,List.map_toArray,List.map_cons,List.map_nil]
 go_simp
theorem oO {a:Act} {oi:Oper} {x:Operand} {n:Int} (ki:oi.op = .buildSlice 87 1 #[(0,x)]) (hx:a.eval x = .int .i64 n) (V:World) :
  (execOp a.eval oi).run Tryz.prog V = .ok (.value (.slice (some ⟨V.heap.size,0,none⟩) 1 1)) (V.alloc (.cells #[.int .i64 n] 3)):=by
 have u:=Tryz.underlying87
 obtain⟨r,hr⟩:∃r,a.eval=r:=⟨_,rfl⟩
 rw[hr] at hx ⊢
 unfold execOp
 simp only[ki,hx,List.map_toArray,List.map_cons,List.map_nil]
 go_simp
abbrev mO (k n:Int) (s:ByteArray):Array Value:=#[.int .i64 1,.int .i64 0,.string ⟨#[]⟩,.string ⟨#[]⟩,.int .i64 k,.int .i64 n,.string s,.slice none 0 0]
theorem vM (k n:Int) (s:ByteArray):(mO k n s).all (·.oneCell')=true:=by simp[Value.oneCell']
theorem FT (S:Nat→Prop) (w:World) (x:Vl):fB S w (.mk 1 0 [] [] x []) (.agg (mO x.k x.n (aj x.s))):=⟨1,0,[],[],x.k,x.n,x.s,[],none,0,0,rfl,rfl,.nil _ _ (by unfold maxLen;omega)⟩
theorem ru (x:Vl) (w:World) (hs:x.s.length≤140737488351232) :
  Calls Tryz.prog 40 #[.agg #[.int .i64 x.k,.int .i64 x.n,.string (aj x.s)]] w fun e w'=>e = .returned (.tuple #[.agg (mO x.k x.n (aj x.s)),.int .i64 x.k,.int .i64 0])∧Below w.heap.size w w':=by
 obtain⟨k,n,s⟩:=x
 dsimp only at hs ⊢
 have hz:(aj s).size=s.length:=rfl
 obtain⟨W,hW,hbW,hzW,hcA,hcB⟩:=two w (.cells #[.int .i64 k,.int .i64 n,.string (aj s)] 46) (.cells bS 48)
 have k0:=aH hcA
 have HSC:=hid (fO (aj s) W (by omega))
 have HB:=hid hbW
 have HCA:=hid hcA
 have HCB:=hid hcB
 clear hcA hcB hbW hs hz
 generalize aj s=t at *
 go_enter Tryz.func40,Tryz.ntmps40
 go_wp2_with fail
 try rw[hW]
 refine HSC.out.mono ?_
 rintro e w1 ⟨rfl,hb1⟩
 have hs1:=hb1.size
 have hA1:=(hb1.block w.heap.size (by omega)).trans HCA.out
 have hB1:=(hb1.block (w.heap.size+1) (by omega)).trans HCB.out
 have k1:=aH hA1
 have hsame:=aM k1.2.2.1
 have HBB:=hid (HB.out.trans (hb1.mono HB.out.size))
 clear hb1 HSC k0
 go_wp2_with fail
 try rw[hsame]
 clear hsame
 have HB1:Hid (w1.drew.heap[w.heap.size+1]?=some (.cells bS 48)):=hid hB1
 have kd:=aH (w:=w1.drew) hA1
 have hS0:(fun V:World=>V.cell? ⟨w.heap.size,0,none⟩=some (.int .i64 k)∧V.cell? ⟨w.heap.size,1,none⟩=some (.int .i64 n)∧V.cell? ⟨w.heap.size,2,none⟩=some (.string t)) w1.drew:=⟨kd.1,kd.2.1,kd.2.2.1⟩
 have hSp:aA (fun k=>k=w.heap.size+1) w1.drew (w1.drew.setRow (w.heap.size+1) (mO k n t)):=aA.setRow (S:=fun k=>k=w.heap.size+1) (aA.refl _ w1.drew) (p:=w.heap.size+1) (.inl rfl) _
 have hS1:(fun V:World=>V.cell? ⟨w.heap.size,0,none⟩=some (.int .i64 k)∧V.cell? ⟨w.heap.size,1,none⟩=some (.int .i64 n)∧V.cell? ⟨w.heap.size,2,none⟩=some (.string t)) (w1.drew.setRow (w.heap.size+1) (mO k n t)):=⟨hSp.cell kd.1 (fun e=>by have:w.heap.size=w.heap.size+1:=e;omega),hSp.cell kd.2.1 (fun e=>by have:w.heap.size=w.heap.size+1:=e;omega),hSp.cell kd.2.2.1 (fun e=>by have:w.heap.size=w.heap.size+1:=e;omega)⟩
 have HZ:=hid (setRow_heap w1.drew (w.heap.size+1) _ (mO k n t) _ _ HB1.out)
 have HBF:Hid (Below w.heap.size w (w1.drew.setRow (w.heap.size+1) (mO k n t))):=hid (HBB.out.drew.trans (hSp.below (fun i hi=>by omega) HBB.out.drew.size))
 clear hSp k1 kd hA1 hB1
 refine dB (fun V:World=>V.cell? ⟨w.heap.size,0,none⟩=some (.int .i64 k)∧V.cell? ⟨w.heap.size,1,none⟩=some (.int .i64 n)∧V.cell? ⟨w.heap.size,2,none⟩=some (.string t)) [] (by kernel_rfl) ?_
 refine aP (i:=0) (v:=?_) rfl (by kernel_rfl) (by kernel_rfl) (by kernel_rfl) (by kernel_rfl) (by kernel_rfl) (fun _ _ _ h=>h) (Or.inl ⟨by rfl,?_⟩) (by assumption) ?_;rotate_left;(focus (intro w hSw;(try dsimp only at hSw);(try obtain⟨hSw1,hSw2,hSw3⟩:=hSw);go_simp<;>with_reducible rfl));(try simp only[Act.put,List.getElem_toArray,List.getElem_cons_zero,List.getElem_cons_succ,List.setIfInBounds_toArray,List.set_cons_zero,List.set_cons_succ])
 refine aP (i:=1) (v:=?_) rfl (by kernel_rfl) (by kernel_rfl) (by kernel_rfl) (by kernel_rfl) (by kernel_rfl) (fun _ _ _ h=>h) (Or.inl ⟨by rfl,?_⟩) (by assumption) ?_;rotate_left;(focus (intro w hSw;(try dsimp only at hSw);(try obtain⟨hSw1,hSw2,hSw3⟩:=hSw);go_simp<;>with_reducible rfl));(try simp only[Act.put,List.getElem_toArray,List.getElem_cons_zero,List.getElem_cons_succ,List.setIfInBounds_toArray,List.set_cons_zero,List.set_cons_succ])
 refine aP (i:=2) (v:=?_) rfl (by kernel_rfl) (by kernel_rfl) (by kernel_rfl) (by kernel_rfl) (by kernel_rfl) (fun _ _ _ h=>h) (Or.inl ⟨by rfl,?_⟩) (by assumption) ?_;rotate_left;(focus (intro w hSw;(try dsimp only at hSw);(try obtain⟨hSw1,hSw2,hSw3⟩:=hSw);go_simp<;>with_reducible rfl));(try simp only[Act.put,List.getElem_toArray,List.getElem_cons_zero,List.getElem_cons_succ,List.setIfInBounds_toArray,List.set_cons_zero,List.set_cons_succ])
 refine aP (i:=3) (v:=?_) rfl (by kernel_rfl) (by kernel_rfl) (by kernel_rfl) (by kernel_rfl) (by kernel_rfl) (fun _ _ _ h=>h) (Or.inl ⟨by rfl,?_⟩) (by assumption) ?_;rotate_left;(focus (intro w hSw;(try dsimp only at hSw);(try obtain⟨hSw1,hSw2,hSw3⟩:=hSw);go_simp<;>with_reducible rfl));(try simp only[Act.put,List.getElem_toArray,List.getElem_cons_zero,List.getElem_cons_succ,List.setIfInBounds_toArray,List.set_cons_zero,List.set_cons_succ])
 refine j6 (i:=4) (by kernel_rfl) rfl rfl 48 (.tmp 2) (.tmp 10) rfl (w.heap.size+1) (mO k n t) (by rfl) (by rfl) 48 _ HB1.out Tryz.bA rfl (vM _ _ _) (.inl hS1) ?_
 simp only[Act.put,List.getElem_toArray,List.getElem_cons_zero,List.getElem_cons_succ,List.setIfInBounds_toArray,List.set_cons_zero,List.set_cons_succ]
 refine bD (i:=5) (by kernel_rfl) rfl rfl (aT (iR rfl (by rfl) _) ⟨.inl hS1,?_⟩)
 simp only[Act.put,List.getElem_toArray,List.getElem_cons_zero,List.getElem_cons_succ,List.setIfInBounds_toArray,List.set_cons_zero,List.set_cons_succ]
 refine bD (i:=6) (by kernel_rfl) rfl rfl (aT (iR rfl (by rfl) _) ⟨.inl hS1,?_⟩)
 simp only[Act.put,List.getElem_toArray,List.getElem_cons_zero,List.getElem_cons_succ,List.setIfInBounds_toArray,List.set_cons_zero,List.set_cons_succ]
 refine bV (by kernel_rfl) ?_ _
 show Only _ .normal _ _
 unfold Only
 generalize w1.drew.setRow (w.heap.size+1) (mO k n t)=Z at HZ HBF ⊢
 clear hS0 hS1
 go_wp2
 exact bodyPost_ret (v:=.tuple #[.agg (mO k n t),.int .i64 k,.int .i64 0]) (by simp[results,Tryz.results40,go_sem,aN HZ.out]) rfl ⟨rfl,HBF.out⟩
end Go.Proofs.YtfeglkleoijlaaaGreatDoor
