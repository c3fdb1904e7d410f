import Derived.Test.YtfeglkleoijlaaaGreatDoorY25
import Derived.Test.YtfeglkleoijlaaaGreatDoorY26
import Derived.Test.YtfeglkleoijlaaaGreatDoorY27
import Derived.Test.YtfeglkleoijlaaaGreatDoorY21
namespace Go.Proofs.YtfeglkleoijlaaaGreatDoor
open Go.RowKit Go.Shelf
set_option linter.unusedSimpArgs false
set_option linter.unusedVariables false
set_option maxRecDepth 20000
set_option maxHeartbeats 8000000
structure Two (B0:Nat) (w W:World) (va vk:Value) (rs:List Ex) (ks:List Int) (S:Nat→Prop) (tmp:List (Nat × Obj)) (more:List (Ex × List Value)):Prop where
 qJ:Below w.heap.size w W
 le:w.heap.size≤B0
 AX:B0≤W.heap.size
 xS:W.ownsRow B0 3 1 vk ks.length (ks.map fun x=>.int .i64 x)
 uw : ∃css,W.ownsRow B0 48 8 va rs.length css.flatten∧lH 8 jl S W rs css
 zG : ∀b,va.ownBlock=some b→vk.ownBlock≠some b
 dh : ∀b,S b→B0≤b∧b<W.heap.size∧va.ownBlock≠some b∧vk.ownBlock≠some b
 keep : ∀p∈tmp,W.heap[p.1]?=some p.2∧va.ownBlock≠some p.1∧vk.ownBlock≠some p.1
 also : ∀p∈more,jl S W p.1 p.2
theorem Two.FJ {B0:Nat} {w W:World} {va vk:Value} {rs:List Ex} {ks:List Int} {S:Nat→Prop} {tmp:List (Nat × Obj)} {more:List (Ex × List Value)} (h:Two B0 w W va vk rs ks S tmp more):(∀b,va.ownBlock=some b→B0≤b∧b<W.heap.size)∧(∀b,vk.ownBlock=some b→B0≤b∧b<W.heap.size):=by
 obtain⟨css,ho,_⟩:=h.uw
 exact⟨fun b hb=>ho.lt b hb,fun b hb=>h.xS.lt b hb⟩
theorem Two.NI {B0:Nat} {w W V:World} {va vk:Value} {rs:List Ex} {ks:List Int} {S R:Nat→Prop} {tmp:List (Nat × Obj)} {more:List (Ex × List Value)} (h:Two B0 w W va vk rs ks S tmp more) (hk:ak R W V) (hB : ∀b,b<w.heap.size→¬R b) (hS : ∀b,S b→¬R b) (ha : ∀b,va.ownBlock=some b→¬R b) (hkk : ∀b,vk.ownBlock=some b→¬R b) (ht : ∀p∈tmp,¬R p.1):Two B0 w V va vk rs ks S tmp more:=by
 obtain⟨css,ho,he⟩:=h.uw
 refine ⟨h.qJ.trans (hk.below (fun i hi=>Nat.le_of_not_lt fun hlt=>hB i hlt hi) (Nat.le_trans h.le h.AX)),h.le,Nat.le_trans h.AX hk.size,hk.row h.xS (fun b hb=>hkk b hb),⟨css,hk.row ho (fun b hb=>ha b hb),he.to (fun x cs e=>e.to hk (fun b hb _=>⟨hS b hb,hb⟩))⟩,h.zG,fun b hb=>?_,fun p hp=>?_,fun p hp=>?_⟩
 ·obtain⟨h1,h2,h3,h4⟩:=h.dh b hb
  exact⟨h1,aa7 h2 hk.size,h3,h4⟩
 ·obtain⟨h1,h2,h3⟩:=h.keep p hp
  exact⟨(hk.block p.1 (World.lt_of_block h1) (ht p hp)).trans h1,h2,h3⟩
 ·exact (h.also p hp).to hk (fun b hb _=>⟨hS b hb,hb⟩)
theorem Two.um {B0:Nat} {w W V:World} {va vk:Value} {rs:List Ex} {ks:List Int} {S:Nat→Prop} {tmp:List (Nat × Obj)} {more:List (Ex × List Value)} (h:Two B0 w W va vk rs ks S tmp more) (hb:Below W.heap.size W V):Two B0 w V va vk rs ks S tmp more :=
 h.NI (R:=fun _=>False) (ak.aA hb) (fun _ _=>id) (fun _ _=>id) (fun _ _=>id) (fun _ _=>id) (fun _ _=>id)
theorem Two.Ck {B0:Nat} {w W:World} {va vk:Value} {rs:List Ex} {ks:List Int} {S:Nat→Prop} {tmp:List (Nat × Obj)} {more:List (Ex × List Value)} (h:Two B0 w W va vk rs ks S tmp more) (g:Nat) (o:Obj) (hg:W.heap[g]?=some o) (ha:va.ownBlock≠some g) (hk:vk.ownBlock≠some g):Two B0 w W va vk rs ks S ((g,o)::tmp) more :=
 ⟨h.qJ,h.le,h.AX,h.xS,h.uw,h.zG,h.dh,fun p hp=>by
  rcases abg.1 hp with rfl | hp
  ·exact⟨hg,ha,hk⟩
  ·exact h.keep p hp,h.also⟩
theorem Two.OC {B0:Nat} {w W:World} {va vk:Value} {rs:List Ex} {ks:List Int} {S:Nat→Prop} {tmp yI:List (Nat × Obj)} {more:List (Ex × List Value)} (h:Two B0 w W va vk rs ks S tmp more) (hs : ∀p∈yI,p∈tmp):Two B0 w W va vk rs ks S yI more :=
 ⟨h.qJ,h.le,h.AX,h.xS,h.uw,h.zG,h.dh,fun p hp=>h.keep p (hs p hp),h.also⟩
theorem Two.Nj {B0:Nat} {w W:World} {va vk:Value} {rs:List Ex} {ks:List Int} {S S2:Nat→Prop} {tmp:List (Nat × Obj)} {more:List (Ex × List Value)} (h:Two B0 w W va vk rs ks S tmp more) (hs : ∀b,S b→S2 b) (h2 : ∀b,S2 b→S b∨(B0≤b∧b<W.heap.size∧va.ownBlock≠some b∧vk.ownBlock≠some b)):Two B0 w W va vk rs ks S2 tmp more:=by
 obtain⟨css,ho,he⟩:=h.uw
 exact⟨h.qJ,h.le,h.AX,h.xS,⟨css,ho,he.to (fun x cs e=>e.to (ak.refl (fun _=>False) W) (fun b hb _=>⟨id,hs b hb⟩))⟩,h.zG,fun b hb=>by
  rcases h2 b hb with h3 | h3
  ·exact h.dh b h3
  ·exact h3,h.keep,fun p hp=>(h.also p hp).to (ak.refl (fun _=>False) W) (fun b hb _=>⟨id,hs b hb⟩)⟩
theorem Two.MJ {B0:Nat} {w W:World} {va vk:Value} {rs:List Ex} {ks:List Int} {S:Nat→Prop} {tmp:List (Nat × Obj)} {more:List (Ex × List Value)} (h:Two B0 w W va vk rs ks S tmp more) (x:Ex) (cs:List Value) (hx:jl S W x cs):Two B0 w W va vk rs ks S tmp ((x,cs)::more) :=
 ⟨h.qJ,h.le,h.AX,h.xS,h.uw,h.zG,h.dh,h.keep,fun p hp=>by
  rcases abg.1 hp with rfl | hp
  ·exact hx
  ·exact h.also p hp⟩
theorem Two.RX {B0:Nat} {w W:World} {va vk:Value} {rs:List Ex} {ks:List Int} {S:Nat→Prop} {tmp:List (Nat × Obj)} {more:List (Ex × List Value)} (h:Two B0 w W va vk rs ks S tmp more):Two B0 w W va vk rs ks S tmp [] :=
 ⟨h.qJ,h.le,h.AX,h.xS,h.uw,h.zG,h.dh,h.keep,fun p hp=>by cases hp⟩
theorem Two.pR {B0:Nat} {w W:World} {va vk:Value} {rs:List Ex} {ks:List Int} {S:Nat→Prop} {tmp:List (Nat × Obj)} {more:List (Ex × List Value)} (h:Two B0 w W va vk rs ks S tmp more) (o:Obj):Two B0 w (W.alloc o) va vk rs ks S ((W.heap.size,o)::tmp) more :=
 (h.um ((Below.refl _ W).alloc (aaF _) o)).Ck _ _ (heap_alloc_new W o) (fun e=>by have:=(h.FJ.1 _ e).2;omega) (fun e=>by have:=(h.FJ.2 _ e).2;omega)
theorem Two.Tt {B0:Nat} {w W:World} {va vk:Value} {rs:List Ex} {ks:List Int} {S:Nat→Prop} {tmp:List (Nat × Obj)} {more:List (Ex × List Value)} (h:Two B0 w W va vk rs ks S tmp more):Two B0 w W.drew va vk rs ks S tmp more:=h.um (Below.refl _ W).drew
theorem Tryz.sU:(Tryz.prog.info? 48).map (fun i=>(i.zero,i.size,i.bytes))=some (some (.agg #[.int .i64 0,.int .i64 0,.string ⟨#[]⟩,.string ⟨#[]⟩,.int .i64 0,.int .i64 0,.string ⟨#[]⟩,.slice none 0 0]),8,104):=by kernel_rfl
theorem Tryz.ER:(Tryz.prog.info? 3).map (fun i=>(i.zero,i.size,i.bytes))=some (some (.int .i64 0),1,8):=by kernel_rfl
theorem jD {w w':World} {b:Option Nat} (h:w.grownBy w' b):ak (fun k=>b=some k) w w':=ak.gU h (fun k e=>e)
theorem Two.P7 {B0:Nat} {w W:World} {va vk:Value} {rs:List Ex} {ks:List Int} {S:Nat→Prop} {tmp:List (Nat × Obj)} {more:List (Ex × List Value)} (h:Two B0 w W va vk rs ks S tmp more) (x:Ex) (cs:List Value) (g:Nat) (hl:cs.length=8) (h1 : ∀u∈cs,u.oneCell'=true) (hg:(g,Obj.cells cs.toArray 48)∈tmp) (hx:jl S W x cs) (hn:rs.length≤1000000) (ty:TypeId) :
  ∃rZ W',(Builtin.append_ #[27,27] ty #[va,.slice (some ⟨g,0,none⟩) 1 1]).run Tryz.prog W = .ok rZ W'∧Two B0 w W' rZ vk (rs++[x]) ks S tmp more:=by
 obtain⟨css,ho,he⟩:=h.uw
 obtain⟨i0,hi,hy0,hy1,hy2⟩:=info_parts Tryz.sU
 have hgc:=(h.keep _ hg).1
 obtain⟨rZ,W',hr,ho',hgr,K3⟩:=iH (P:=Tryz.prog) W B0 27 ty 48 i0 _ 8 104 Tryz.underlying27 hi hy0 hy1 hy2 rfl (by decide) va rs.length css.flatten ho ⟨g,0,none⟩ 1 cs hl (fun j u hu=>by
  rw[Addr.add_lit,Nat.zero_add,cell_of_row _ _ _ _ _ _ hgc]
  simpa using hu) h1 (by unfold maxLen;omega) (by omega) h.AX
 have hsp:=jD hgr
 have hfr : ∀b,b<W.heap.size→vk.ownBlock=some b∨S b∨(∃p∈tmp,p.1=b)→rZ.ownBlock≠some b:=fun b hb hc e=>by
  rcases K3 with h2 | h2
  ·rw[h2] at e
   rcases hc with hc | hc | ⟨p,hp,rfl⟩
   ·exact h.zG b e hc
   ·exact (h.dh b hc).2.2.1 e
   ·exact (h.keep p hp).2.1 e
  ·rw[h2] at e
   injection e with e
   omega
 refine ⟨rZ,W',hr,h.qJ.trans (hsp.below (fun i hi=>Nat.le_trans h.le (h.FJ.1 i hi).1) (Nat.le_trans h.le h.AX)),h.le,Nat.le_trans h.AX hsp.size,hsp.row h.xS (fun b hb e=>h.zG b e hb),⟨css++[cs],?_,?_⟩,fun b hb hk=>?_,fun b hb=>?_,fun p hp=>?_,fun p hp=>?_⟩
 ·rw[aaN,List.flatten_append]
  simpa using ho'
 ·exact (he.snoc hl hx).to (fun y ds e=>e.to hsp (fun b hb _=>⟨(h.dh b hb).2.2.1,hb⟩))
 ·exact hfr b (h.FJ.2 b hk).2 (.inl hk) hb
 ·obtain⟨k1,k2,k3,k4⟩:=h.dh b hb
  exact⟨k1,aa7 k2 hsp.size,hfr b k2 (.inr (.inl hb)),k4⟩
 ·obtain⟨k1,k2,k3⟩:=h.keep p hp
  exact⟨(hsp.block p.1 (World.lt_of_block k1) k2).trans k1,hfr p.1 (World.lt_of_block k1) (.inr (.inr ⟨p,hp,rfl⟩)),k3⟩
 ·exact (h.also p hp).to hsp (fun b hb _=>⟨(h.dh b hb).2.2.1,hb⟩)
theorem Two.QY {B0:Nat} {w W:World} {va vk:Value} {rs:List Ex} {ks:List Int} {S:Nat→Prop} {tmp:List (Nat × Obj)} {more:List (Ex × List Value)} (h:Two B0 w W va vk rs ks S tmp more) (x:Int) (g:Nat) (hg:(g,Obj.cells #[.int .i64 x] 3)∈tmp) (hn:ks.length≤1000000) (ty:TypeId) :
  ∃jM W',(Builtin.append_ #[87,87] ty #[vk,.slice (some ⟨g,0,none⟩) 1 1]).run Tryz.prog W = .ok jM W'∧Two B0 w W' va jM rs (ks++[x]) S tmp more:=by
 obtain⟨css,ho,he⟩:=h.uw
 obtain⟨i0,hi,hy0,hy1,hy2⟩:=info_parts Tryz.ER
 have hgc:=(h.keep _ hg).1
 obtain⟨jM,W',hr,ho',hgr,K3⟩:=iH (P:=Tryz.prog) W B0 87 ty 3 i0 _ 1 8 Tryz.underlying87 hi hy0 hy1 hy2 rfl (by decide) vk ks.length _ h.xS ⟨g,0,none⟩ 1 [.int .i64 x] rfl (fun j u hu=>by
  rw[Addr.add_lit,Nat.zero_add,cell_of_row _ _ _ _ _ _ hgc]
  simpa using hu) (by intro u hu;simp only[List.mem_singleton] at hu;rw[hu];rfl) (by unfold maxLen;omega) (by omega) h.AX
 have hsp:=jD hgr
 have hfr : ∀b,b<W.heap.size→va.ownBlock=some b∨S b∨(∃p∈tmp,p.1=b)→jM.ownBlock≠some b:=fun b hb hc e=>by
  rcases K3 with h2 | h2
  ·rw[h2] at e
   rcases hc with hc | hc | ⟨p,hp,rfl⟩
   ·exact h.zG b hc e
   ·exact (h.dh b hc).2.2.2 e
   ·exact (h.keep p hp).2.2 e
  ·rw[h2] at e
   injection e with e
   omega
 refine ⟨jM,W',hr,h.qJ.trans (hsp.below (fun i hi=>Nat.le_trans h.le (h.FJ.2 i hi).1) (Nat.le_trans h.le h.AX)),h.le,Nat.le_trans h.AX hsp.size,?_,⟨css,hsp.row ho (fun b hb e=>h.zG b hb e),he.to (fun y ds e=>e.to hsp (fun b hb _=>⟨(h.dh b hb).2.2.2,hb⟩))⟩,fun b hb hk=>?_,fun b hb=>?_,fun p hp=>?_,fun p hp=>?_⟩
 ·rw[aaN,List.map_append]
  exact ho'
 ·exact hfr b (h.FJ.1 b hb).2 (.inl hb) hk
 ·obtain⟨k1,k2,k3,k4⟩:=h.dh b hb
  exact⟨k1,aa7 k2 hsp.size,k3,hfr b k2 (.inr (.inl hb))⟩
 ·obtain⟨k1,k2,k3⟩:=h.keep p hp
  exact⟨(hsp.block p.1 (World.lt_of_block k1) k3).trans k1,k2,hfr p.1 (World.lt_of_block k1) (.inr (.inr ⟨p,hp,rfl⟩))⟩
 ·exact (h.also p hp).to hsp (fun b hb _=>⟨(h.dh b hb).2.2.2,hb⟩)
theorem Two.Ld {B0:Nat} {w W:World} {va vk:Value} {rs:List Ex} {ks:List Int} {S:Nat→Prop} {tmp:List (Nat × Obj)} {more:List (Ex × List Value)} (h:Two B0 w W va vk rs ks S tmp more) (g:Nat) (hB:w.heap.size≤g) (hS : ¬S g) (ha:va.ownBlock≠some g) (hk:vk.ownBlock≠some g) (ht : ∀p∈tmp,p.1≠g) (cs:Array Value):Two B0 w (W.setRow g cs) va vk rs ks S tmp more :=
 h.NI (R:=fun k=>k=g) (ak.setRow (S:=fun k=>k=g) (ak.refl _ W) (p:=g) (.inl rfl) cs) (fun b hb e=>by omega) (fun b hb e=>hS (e ▸ hb)) (fun b hb e=>ha (e ▸ hb)) (fun b hb e=>hk (e ▸ hb)) (fun p hp e=>ht p hp e)
theorem Two.Ox {B0:Nat} {w W:World} {va vk:Value} {rs:List Ex} {ks:List Int} {S:Nat→Prop} {tmp:List (Nat × Obj)} {more:List (Ex × List Value)} (h:Two B0 w W va vk rs ks S tmp more):bA (fun b=>B0≤b) W rs va∧aM 1 uj (fun b=>B0≤b) W ks vk:=by
 obtain⟨css,ho,he⟩:=h.uw
 refine ⟨Bj (aM.iM (by decide) ho (he.to (fun x cs e=>e.to (ak.refl (fun _=>False) W) (fun b hb _=>⟨id,(h.dh b hb).1⟩))) (fun b hb=>(h.FJ.1 b hb).1)),?_⟩
 have hf:(ks.map fun x=>([.int .i64 x]:List Value)).flatten=ks.map fun x=>.int .i64 x:=by
  clear h ho he css
  induction ks with
  | nil=>rfl
  | cons k ks ih=>rw[List.map_cons,List.flatten_cons,List.map_cons];simp;exact ih
 refine aM.iM (css:=ks.map fun x=>[.int .i64 x]) (by decide) (by rw[hf];exact h.xS) ⟨by simp,fun j x cs hx hc=>?_⟩ (fun b hb=>(h.FJ.2 b hb).1)
 rw[List.getElem?_map,hx,Option.map_some,abf] at hc
 subst hc
 exact⟨rfl,rfl⟩
theorem yt {a:Act} {oi:Oper} {x:Operand} {c0 c1 c2 c3 c4 c5 c6 c7:Value} (ki:oi.op = .buildSlice 27 1 #[(0,x)]) (hx:a.eval x = .agg #[c0,c1,c2,c3,c4,c5,c6,c7]) (V:World) :
  (execOp a.eval oi).run Tryz.prog V = .ok (.value (.slice (some ⟨V.heap.size,0,none⟩) 1 1)) (V.alloc (.cells #[c0,c1,c2,c3,c4,c5,c6,c7] 48)):=by
 have u:=Tryz.underlying27
 obtain⟨r,hr⟩:∃r,a.eval=r:=⟨_,rfl⟩
 rw[hr] at hx ⊢
 unfold execOp
 simp only[ki,hx,List.map_toArray,List.map_cons,List.map_nil]
 go_simp
theorem yR {a:Act} {oi:Oper} {x:Operand} {n:Int} (ki:oi.op = .buildSlice 87 1 #[(0,x)]) (hx:a.eval x = .int .i64 n) (V:World) :
  (execOp a.eval oi).run Tryz.prog V = .ok (.value (.slice (some ⟨V.heap.size,0,none⟩) 1 1)) (V.alloc (.cells #[.int .i64 n] 3)):=by
 have u:=Tryz.underlying87
 obtain⟨r,hr⟩:∃r,a.eval=r:=⟨_,rfl⟩
 rw[hr] at hx ⊢
 unfold execOp
 simp only[ki,hx,List.map_toArray,List.map_cons,List.map_nil]
 go_simp
abbrev uE (k n:Int) (s:ByteArray):Array Value:=#[.int .i64 1,.int .i64 0,.string ⟨#[]⟩,.string ⟨#[]⟩,.int .i64 k,.int .i64 n,.string s,.slice none 0 0]
theorem Lr (k n:Int) (s:ByteArray):(uE k n s).all (·.oneCell')=true:=by simp[Value.oneCell']
theorem PX (S:Nat→Prop) (w:World) (x:Vl):gH S w (.mk 1 0 [] [] x []) (.agg (uE x.k x.n (aj x.s))):=⟨1,0,[],[],x.k,x.n,x.s,[],none,0,0,rfl,rfl,.nil _ _ (by unfold maxLen;omega)⟩
theorem zi (x:Vl) (w:World) (hs:x.s.length≤140737488351232) :
  Calls Tryz.prog 40 #[.agg #[.int .i64 x.k,.int .i64 x.n,.string (aj x.s)]] w fun e w'=>e = .returned (.tuple #[.agg (uE x.k x.n (aj x.s)),.int .i64 x.k,.int .i64 0])∧Below w.heap.size w w':=by
 obtain⟨k,n,s⟩:=x
 dsimp only at hs ⊢
 have hz:(aj s).size=s.length:=rfl
 obtain⟨W,hW,hbW,aJ,hcA,hcB⟩:=two w (.cells #[.int .i64 k,.int .i64 n,.string (aj s)] 46) (.cells eT 48)
 have k0:=aH hcA
 have IG:=hid (jC (aj s) W (by omega))
 have HB:=hid hbW
 have dw:=hid hcA
 have nP:=hid hcB
 clear hcA hcB hbW hs hz
 generalize aj s=t at *
 go_enter Tryz.func40,Tryz.ntmps40
 go_wp2_with fail
 try rw[hW]
 refine IG.out.mono ?_
 rintro e w1 ⟨rfl,hb1⟩
 have hs1:=hb1.size
 have hA1:=(hb1.block w.heap.size (by omega)).trans dw.out
 have hB1:=(hb1.block (w.heap.size+1) (by omega)).trans nP.out
 have k1:=aH hA1
 have hsame:=aN k1.2.2.1
 have qw:=htr HB hb1
 clear hb1 IG k0
 go_wp2_with fail
 try rw[hsame]
 clear hsame
 have HB1:Hid (w1.drew.heap[w.heap.size+1]?=some (.cells eT 48)):=hid hB1
 have kd:=aH (w:=w1.drew) hA1
 have hS0:(fun V:World=>V.cell? ⟨w.heap.size,0,none⟩=some (.int .i64 k)∧V.cell? ⟨w.heap.size,1,none⟩=some (.int .i64 n)∧V.cell? ⟨w.heap.size,2,none⟩=some (.string t)) w1.drew:=⟨kd.1,kd.2.1,kd.2.2.1⟩
 have hSp:ak (fun k=>k=w.heap.size+1) w1.drew (w1.drew.setRow (w.heap.size+1) (uE k n t)):=ak.setRow (S:=fun k=>k=w.heap.size+1) (ak.refl _ w1.drew) (p:=w.heap.size+1) (.inl rfl) _
 have hS1:(fun V:World=>V.cell? ⟨w.heap.size,0,none⟩=some (.int .i64 k)∧V.cell? ⟨w.heap.size,1,none⟩=some (.int .i64 n)∧V.cell? ⟨w.heap.size,2,none⟩=some (.string t)) (w1.drew.setRow (w.heap.size+1) (uE k n t)):=⟨hSp.cell kd.1 (fun e=>by have:w.heap.size=w.heap.size+1:=e;omega),hSp.cell kd.2.1 (fun e=>by have:w.heap.size=w.heap.size+1:=e;omega),hSp.cell kd.2.2.1 (fun e=>by have:w.heap.size=w.heap.size+1:=e;omega)⟩
 have HZ:=hid (setRow_heap w1.drew (w.heap.size+1) _ (uE k n t) _ _ HB1.out)
 have iC:Hid (Below w.heap.size w (w1.drew.setRow (w.heap.size+1) (uE k n t))):=hid (qw.out.drew.trans (hSp.below (fun i hi=>by omega) qw.out.drew.size))
 clear hSp k1 kd hA1 hB1
 refine dG (fun V:World=>V.cell? ⟨w.heap.size,0,none⟩=some (.int .i64 k)∧V.cell? ⟨w.heap.size,1,none⟩=some (.int .i64 n)∧V.cell? ⟨w.heap.size,2,none⟩=some (.string t)) [] (by kernel_rfl) ?_
 refine fF (i:=0) rfl (by assumption) ?_
 refine fF (i:=1) rfl (by assumption) ?_
 refine fF (i:=2) rfl (by assumption) ?_
 refine fF (i:=3) rfl (by assumption) ?_
 refine jf (i:=4) (by kernel_rfl) rfl rfl 48 (.tmp 2) (.tmp 10) rfl (w.heap.size+1) (uE k n t) (by rfl) (by rfl) 48 _ HB1.out Tryz.sizeEx rfl (Lr _ _ _) (.inl hS1) ?_
 simp only[Act.put,aas,aap,aaq,aag,aaw,aay]
 refine fF (i:=5) rfl hS1 ?_
 refine fF (i:=6) rfl hS1 ?_
 refine bN (by kernel_rfl) ?_ _
 show Only _ .normal _ _
 unfold Only
 generalize w1.drew.setRow (w.heap.size+1) (uE k n t)=Z at HZ iC ⊢
 clear hS0 hS1
 go_wp2
 exact bodyPost_ret (v:=.tuple #[.agg (uE k n t),.int .i64 k,.int .i64 0]) (by simp[results,Tryz.results40,go_sem,aG HZ.out]) rfl ⟨rfl,iC.out⟩
abbrev ZN (A B:Nat):Value:=.func (.func 38) #[] #[.pointer (some ⟨B,0,none⟩),.pointer (some ⟨A,0,none⟩)]
structure JK (w:World) (A B:Nat) (S:Nat→Prop) (L:List Tb):Prop where
 M8 : ∃v,w.cell? ⟨A,0,none⟩=some v∧aM 3 fG S w L v
 Mw:w.cell? ⟨B,0,none⟩=some (ZN A B)
 YI:A<w.heap.size∧B<w.heap.size
 okB : ∀t∈L,mR t
 YV:L.length≤100
theorem JK.TQ {w w':World} {A B:Nat} {S:Nat→Prop} {L:List Tb} (h:JK w A B S L) (hb:Below w.heap.size w w'):JK w' A B S L:=by
 obtain⟨v,h1,h2⟩:=h.M8
 exact⟨⟨v,(hb.cell (p:=⟨A,0,none⟩) h.YI.1).trans h1,h2.to (by decide) (R:=fun _=>False) (ak.aA hb) (fun b hb _=>⟨id,hb⟩) (fun _ _ e=>e.on hb)⟩,(hb.cell (p:=⟨B,0,none⟩) h.YI.2).trans h.Mw,⟨aa7 h.YI.1 hb.size,aa7 h.YI.2 hb.size⟩,h.okB,h.YV⟩
def A9 (L:List Tb) (x:Ex):Prop:=∀(S T:Nat→Prop) (A B:Nat) (w:World) (v:Value),gH T w x v→JK w A B S L →
 Calls Tryz.prog 38 #[v,.pointer (some ⟨B,0,none⟩),.pointer (some ⟨A,0,none⟩)] w fun e w'=>∃u,e = .returned (.tuple #[u,.int .i64 (aI L x).2.1,.int .i64 (aI L x).2.2])∧gH (fun b=>w.heap.size≤b) w' (aI L x).1 u∧Below w.heap.size w w'
theorem Tryz.sizeExsK:(Tryz.prog.info? 27).map (·.size)=some 1:=by kernel_rfl
theorem Tryz.sizeIntsK:(Tryz.prog.info? 87).map (·.size)=some 1:=by kernel_rfl
theorem xg {w:World} {base:Nat} {t:TypeId} {z n:Nat} {v:Value} {xs:List Value} (h:w.ownsRow base t z v n xs):v.oneCell'=true:=by
 rcases h.2 with⟨rfl,_⟩ | ⟨g,cap,cur,rfl,_⟩<;>rfl
theorem xU {B0:Nat} {w W:World} {va vk:Value} {rs:List Ex} {ks:List Int} {S:Nat→Prop} {tmp:List (Nat × Obj)} {more:List (Ex × List Value)} (h:Two B0 w W va vk rs ks S tmp more):va.oneCell'=true:=by
 obtain⟨css,ho,_⟩:=h.uw
 exact xg ho
theorem xW {B0:Nat} {w W:World} {va vk:Value} {rs:List Ex} {ks:List Int} {S:Nat→Prop} {tmp:List (Nat × Obj)} {more:List (Ex × List Value)} (h:Two B0 w W va vk rs ks S tmp more):vk.oneCell'=true:=xg h.xS
theorem Gx {B0 b2 b3:Nat} {w V:World} {va vk rZ jM:Value} {rs:List Ex} {ks:List Int} {S:Nat→Prop} {tmp Pm:List (Nat × Obj)} (h:Two B0 w V rZ jM rs ks S Pm []) (m2:(b2,Obj.cells #[va] 27)∈Pm) (m3:(b3,Obj.cells #[vk] 87)∈Pm) (hs : ∀p∈tmp,p∈Pm) (ht : ∀p∈tmp,p.1≠b2∧p.1≠b3) (hne:b2≠b3) (hS : ¬S b2∧¬S b3) (hw:w.heap.size≤b2∧w.heap.size≤b3) :
  Two B0 w ((V.setRow b2 #[rZ]).setRow b3 #[jM]) rZ jM rs ks S tmp []∧((V.setRow b2 #[rZ]).setRow b3 #[jM]).heap[b2]?=some (.cells #[rZ] 27)∧((V.setRow b2 #[rZ]).setRow b3 #[jM]).heap[b3]?=some (.cells #[jM] 87):=by
 obtain⟨k1,k2,k3⟩:=h.keep _ m2
 obtain⟨l1,l2,l3⟩:=h.keep _ m3
 refine ⟨((h.OC hs).Ld b2 hw.1 hS.1 k2 k3 (fun p hp=>(ht p hp).1) _).Ld b3 hw.2 hS.2 l2 l3 (fun p hp=>(ht p hp).2) _,?_,?_⟩
 ·rw[setRow_other _ _ _ _ hne,setRow_heap V b2 _ _ _ _ k1]
 ·refine setRow_heap _ b3 #[vk] _ _ _ ?_
  rw[setRow_other _ _ _ _ (fun e=>hne e.symm)]
  exact l1
theorem JX (L:List Tb) (x:Ex) (HI:Hid (A9 L x)) (S T S1:Nat→Prop) (A B b2 b3 B0:Nat) (w W:World) (va vk:Value) (rs:List Ex) (ks:List Int) (ds:List Value) (tmp:List (Nat × Obj))
  (hT:Two B0 w W va vk rs ks S1 tmp []) (hC0:JK w A B S L) (hx:jl T W x ds) (hb2:W.heap[b2]?=some (.cells #[va] 27)) (hb3:W.heap[b3]?=some (.cells #[vk] 87)) (hne:b2≠b3) (hw:w.heap.size≤b2∧w.heap.size≤b3) (hlo:b2<B0∧b3<B0) (hS1 : ¬S1 b2∧¬S1 b3) (htm : ∀p∈tmp,p.1≠b2∧p.1≠b3) (hn:rs.length≤1000000∧ks.length≤1000000) :
  Calls Tryz.prog 39 #[.agg ds.toArray,.pointer (some ⟨B,0,none⟩),.pointer (some ⟨b2,0,none⟩),.pointer (some ⟨b3,0,none⟩)] W fun e w'=>e = .returned (.int .i64 (aI L x).2.2)∧∃rZ jM S2,Two B0 w w' rZ jM (rs++[(aI L x).1]) (ks++[(aI L x).2.1]) S2 tmp []∧w'.heap[b2]?=some (.cells #[rZ] 27)∧w'.heap[b3]?=some (.cells #[jM] 87)∧(¬S2 b2∧¬S2 b3):=by
 obtain⟨k1,op1,dN,fU,fJ,fI,vs1,ys1,eD,dF,eB,hxe,rfl,hxa⟩:=id hx
 obtain⟨U,hU,bB,jc,eU⟩:=aK W (.cells #[.int .i64 k1,.int .i64 op1,.string (aj dN),.string (aj fU),.int .i64 fJ,.int .i64 fI,.string (aj vs1),.slice eD dF eB] 48)
 have k0:=aG eU
 have HC:=hid (hC0.TQ (hT.qJ.trans (bB.mono (Nat.le_trans hT.le hT.AX))))
 have hB1:=HC.out.Mw
 have HX:Hid (gH T U x (.agg #[.int .i64 k1,.int .i64 op1,.string (aj dN),.string (aj fU),.int .i64 fJ,.int .i64 fI,.string (aj vs1),.slice eD dF eB])):=hid ((hx.to (T:=T) (R:=fun _=>False) (ak.aA bB) (fun b hb _=>⟨id,hb⟩)).v)
 have kJ:=hid (HI.out S T A B U _ HX.out HC.out)
 have QD:=hid (hT.um bB)
 have kH:=hid ((bB.block b2 (World.lt_of_block hb2)).trans hb2)
 have pI:=hid ((bB.block b3 (World.lt_of_block hb3)).trans hb3)
 have bS:=hid bB
 have HTM:=hid htm
 obtain⟨X,hX⟩:∃X,(aI L x).1=X:=⟨_,rfl⟩
 obtain⟨k,hk⟩:∃k,(aI L x).2.1=k:=⟨_,rfl⟩
 obtain⟨c,hcd⟩:∃c,(aI L x).2.2=c:=⟨_,rfl⟩
 rw[hX,hk,hcd] at kJ ⊢
 clear hX hk hcd hxe hxa hx hC0 bB eU hT htm hb2 hb3
 go_enter Tryz.func39,Tryz.ntmps39
 go_wp2_with fail
 try rw[hU]
 refine kJ.out.mono ?_
 rintro e w2 ⟨u,rfl,hxu,hbw2⟩
 obtain⟨k2,op2,bX,eH,dS,dU,vs2,ys2,dR,dY,dP,gT,rfl,yh⟩:=id hxu
 obtain⟨Y,hY,bV,kL,dJ⟩:=aK w2 (.cells #[.int .i64 k2,.int .i64 op2,.string (aj bX),.string (aj eH),.int .i64 dS,.int .i64 dU,.string (aj vs2),.slice dR dY dP] 48)
 have hs2:=hbw2.size
 have XF:b2<U.heap.size:=World.lt_of_block kH.out
 have Yp:b3<U.heap.size:=World.lt_of_block pI.out
 have T2:=QD.out.um hbw2
 have hUW:B0≤U.heap.size:=QD.out.AX
 have T3:Two B0 w w2 va vk rs ks (fun b=>S1 b∨(U.heap.size≤b∧b<w2.heap.size)) tmp []:=T2.Nj (fun b hb=>.inl hb) (fun b hb=>by
  rcases hb with hb | ⟨h1,h2⟩
  ·exact .inl hb
  ·exact .inr ⟨Nat.le_trans hUW h1,h2,fun e=>by have:=(QD.out.FJ.1 b e).2;omega,fun e=>by have:=(QD.out.FJ.2 b e).2;omega⟩)
 have Yf:=(hbw2.block b2 XF).trans kH.out
 have Yh:=(hbw2.block b3 Yp).trans pI.out
 have SC:va.ownBlock≠some b2∧vk.ownBlock≠some b2:=⟨fun e=>by have:=(QD.out.FJ.1 b2 e).1;omega,fun e=>by have:=(QD.out.FJ.2 b2 e).1;omega⟩
 have Uk:va.ownBlock≠some b3∧vk.ownBlock≠some b3:=⟨fun e=>by have:=(QD.out.FJ.1 b3 e).1;omega,fun e=>by have:=(QD.out.FJ.2 b3 e).1;omega⟩
 have T4:=((((T3.Ck b3 _ Yh Uk.1 Uk.2).Ck b2 _ Yf SC.1 SC.2)).pR (.cells #[.int .i64 k2,.int .i64 op2,.string (aj bX),.string (aj eH),.int .i64 dS,.int .i64 dU,.string (aj vs2),.slice dR dY dP] 48)).Tt
 rw[hY] at T4
 have hX2:jl (fun b=>S1 b∨(U.heap.size≤b∧b<w2.heap.size)) Y.drew X [.int .i64 k2,.int .i64 op2,.string (aj bX),.string (aj eH),.int .i64 dS,.int .i64 dU,.string (aj vs2),.slice dR dY dP]:=by
  have h0:jl (fun b=>U.heap.size≤b) w2 X [.int .i64 k2,.int .i64 op2,.string (aj bX),.string (aj eH),.int .i64 dS,.int .i64 dU,.string (aj vs2),.slice dR dY dP]:=⟨_,_,_,_,_,_,_,_,_,_,_,gT,rfl,yh⟩
  exact h0.to (R:=fun _=>False) (ak.aA bV.drew) (fun b hb hlt=>⟨id,.inr ⟨hb,hlt⟩⟩)
 have T5:=T4.MJ X _ hX2
 obtain⟨V0,ze⟩:∃V0,Y.drew=V0:=⟨_,rfl⟩
 rw[ze] at T5
 have hone : ∀u∈([.int .i64 k2,.int .i64 op2,.string (aj bX),.string (aj eH),.int .i64 dS,.int .i64 dU,.string (aj vs2),.slice dR dY dP]:List Value),u.oneCell'=true:=by
  intro u hu
  simp only[abg,List.not_mem_nil,or_false] at hu
  rcases hu with rfl | rfl | rfl | rfl | rfl | rfl | rfl | rfl<;>rfl
 have HS:Hid (∀V rZ jM rs' ks' yI,Two B0 w V rZ jM rs' ks' (fun b=>S1 b∨(U.heap.size≤b∧b<w2.heap.size)) yI [(X,[.int .i64 k2,.int .i64 op2,.string (aj bX),.string (aj eH),.int .i64 dS,.int .i64 dU,.string (aj vs2),.slice dR dY dP])]→(∀p∈((w2.heap.size,Obj.cells #[.int .i64 k2,.int .i64 op2,.string (aj bX),.string (aj eH),.int .i64 dS,.int .i64 dU,.string (aj vs2),.slice dR dY dP] 48)::(b2,Obj.cells #[va] 27)::(b3,Obj.cells #[vk] 87)::tmp),p∈yI)→(V.cell? ⟨b2,0,none⟩=some va∧V.cell? ⟨b3,0,none⟩=some vk∧(V.cell? ⟨w2.heap.size,0,none⟩=some (.int .i64 k2)∧V.cell? ⟨w2.heap.size,1,none⟩=some (.int .i64 op2)∧V.cell? ⟨w2.heap.size,2,none⟩=some (.string (aj bX))∧V.cell? ⟨w2.heap.size,3,none⟩=some (.string (aj eH))∧V.cell? ⟨w2.heap.size,4,none⟩=some (.int .i64 dS)∧V.cell? ⟨w2.heap.size,5,none⟩=some (.int .i64 dU)∧V.cell? ⟨w2.heap.size,6,none⟩=some (.string (aj vs2))∧V.cell? ⟨w2.heap.size,7,none⟩=some (.slice dR dY dP)))):=hid (fun V rZ jM rs' ks' yI hV hs=>by
  have g1:=(hV.keep _ (hs (w2.heap.size,Obj.cells #[.int .i64 k2,.int .i64 op2,.string (aj bX),.string (aj eH),.int .i64 dS,.int .i64 dU,.string (aj vs2),.slice dR dY dP] 48) (by simp))).1
  have g2:=(hV.keep _ (hs (b2,Obj.cells #[va] 27) (by simp))).1
  have g3:=(hV.keep _ (hs (b3,Obj.cells #[vk] 87) (by simp))).1
  exact⟨by rw[aB _ _ _ _ _ _ g2];rfl,by rw[aB _ _ _ _ _ _ g3];rfl,aG g1⟩)
 have zD:Hid (∀(V:World) (rZ jM:Value) (yI:List (Nat × Obj)),Two B0 w V rZ jM (rs++[X]) (ks++[k]) (fun b=>S1 b∨(U.heap.size≤b∧b<w2.heap.size)) yI [(X,[.int .i64 k2,.int .i64 op2,.string (aj bX),.string (aj eH),.int .i64 dS,.int .i64 dU,.string (aj vs2),.slice dR dY dP])]→(∀p∈((b2,Obj.cells #[va] 27)::(b3,Obj.cells #[vk] 87)::tmp),p∈yI)→∃Yb PW S2,Two B0 w ((V.setRow b2 #[rZ]).setRow b3 #[jM]) Yb PW (rs++[X]) (ks++[k]) S2 tmp []∧((V.setRow b2 #[rZ]).setRow b3 #[jM]).heap[b2]?=some (.cells #[Yb] 27)∧((V.setRow b2 #[rZ]).setRow b3 #[jM]).heap[b3]?=some (.cells #[PW] 87)∧(¬S2 b2∧¬S2 b3)):=hid (fun V rZ jM yI hV hs=>by
  have hSS : ¬(S1 b2∨(U.heap.size≤b2∧b2<w2.heap.size))∧¬(S1 b3∨(U.heap.size≤b3∧b3<w2.heap.size)):=⟨fun e=>e.elim hS1.1 (fun e=>by omega),fun e=>e.elim hS1.2 (fun e=>by omega)⟩
  obtain⟨g1,g2,g3⟩:=Gx (hV.RX) (hs (b2,Obj.cells #[va] 27) (by simp)) (hs (b3,Obj.cells #[vk] 87) (by simp)) (fun p hp=>hs p (by simp[hp])) HTM.out hne hSS hw
  exact⟨rZ,jM,_,g1,g2,g3,hSS⟩)
 clear T2 T3 T4 hbw2 Yf Yh SC Uk hX2 gT yh hxu kJ bS QD dJ bV k0
 go_wp2_with (first | (refine eX hY ?_;clear hY) | fail)
 have hS0:=HS.out V0 va vk rs ks _ T5 (fun p hp=>by simpa using hp)
 refine dG (fun V:World=>(V.cell? ⟨b2,0,none⟩=some va∧V.cell? ⟨b3,0,none⟩=some vk∧(V.cell? ⟨w2.heap.size,0,none⟩=some (.int .i64 k2)∧V.cell? ⟨w2.heap.size,1,none⟩=some (.int .i64 op2)∧V.cell? ⟨w2.heap.size,2,none⟩=some (.string (aj bX))∧V.cell? ⟨w2.heap.size,3,none⟩=some (.string (aj eH))∧V.cell? ⟨w2.heap.size,4,none⟩=some (.int .i64 dS)∧V.cell? ⟨w2.heap.size,5,none⟩=some (.int .i64 dU)∧V.cell? ⟨w2.heap.size,6,none⟩=some (.string (aj vs2))∧V.cell? ⟨w2.heap.size,7,none⟩=some (.slice dR dY dP)))) [8,9] (by kernel_rfl) ?_
 rw[ze]
 refine fF (i:=0) rfl (by assumption) ?_
 refine fF (i:=1) rfl (by assumption) ?_
 refine fF (i:=4) rfl (by assumption) ?_
 refine fF (i:=5) rfl (by assumption) ?_
 refine jS (i:=2) (j:=6) (by kernel_rfl) rfl rfl rfl rfl ?_ ?_
 ·refine aW (yt rfl (by rfl) _) ?_
  have VO:=T5.pR (.cells #[.int .i64 k2,.int .i64 op2,.string (aj bX),.string (aj eH),.int .i64 dS,.int .i64 dU,.string (aj vs2),.slice dR dY dP] 48)
  obtain⟨V1,hV1⟩:∃V1,V0.alloc (.cells #[.int .i64 k2,.int .i64 op2,.string (aj bX),.string (aj eH),.int .i64 dS,.int .i64 dU,.string (aj vs2),.slice dR dY dP] 48)=V1:=⟨_,rfl⟩
  rw[hV1] at VO ⊢
  refine ⟨.inl (HS.out V1 _ _ _ _ _ VO (fun p hp=>by simp at hp ⊢;rcases hp with h | h | h | h<;>simp[h])),?_⟩
  simp only[Act.put,aas,aap,aaq,aag,aaw,aay]
  refine jS (i:=3) (j:=6) (by kernel_rfl) rfl rfl rfl rfl ?_ ?_
  ·obtain⟨va2,V2,hr2,T2x⟩:=VO.P7 X [.int .i64 k2,.int .i64 op2,.string (aj bX),.string (aj eH),.int .i64 dS,.int .i64 dU,.string (aj vs2),.slice dR dY dP] V0.heap.size rfl hone (by simp) (VO.also (X,[.int .i64 k2,.int .i64 op2,.string (aj bX),.string (aj eH),.int .i64 dS,.int .i64 dU,.string (aj vs2),.slice dR dY dP]) (by simp)) hn.1 27
   refine aW (dX rfl (by rfl) (by rfl) hr2) ?_
   refine ⟨.inl (HS.out V2 _ _ _ _ _ T2x (fun p hp=>by simp at hp ⊢;rcases hp with h | h | h | h<;>simp[h])),?_⟩
   simp only[Act.put,aas,aap,aaq,aag,aaw,aay]
   refine bH (i:=6) (by kernel_rfl) rfl rfl ?_
   refine aW (yR rfl (by rfl) _) ?_
   have T3x:=T2x.pR (.cells #[.int .i64 k] 3)
   obtain⟨V3,hV3⟩:∃V3,V2.alloc (.cells #[.int .i64 k] 3)=V3:=⟨_,rfl⟩
   rw[hV3] at T3x ⊢
   refine ⟨.inl (HS.out V3 _ _ _ _ _ T3x (fun p hp=>by simp at hp ⊢;rcases hp with h | h | h | h<;>simp[h])),?_⟩
   simp only[Act.put,aas,aap,aaq,aag,aaw,aay]
   refine bH (i:=7) (by kernel_rfl) rfl rfl ?_
   obtain⟨ZV,V4,hr4,Vu⟩:=T3x.QY k V2.heap.size (by simp) hn.2 87
   refine aW (dX rfl (by rfl) (by rfl) hr4) ?_
   refine ⟨.inl (HS.out V4 _ _ _ _ _ Vu (fun p hp=>by simp at hp ⊢;rcases hp with h | h | h | h<;>simp[h])),?_⟩
   simp only[Act.put,aas,aap,aaq,aag,aaw,aay]
   have j4:=Vu.keep (b2,Obj.cells #[va] 27) (by simp)
   have nX:=Vu.keep (b3,Obj.cells #[vk] 87) (by simp)
   obtain⟨YA,Wz,SF,hfin⟩:=zD.out V4 va2 ZV _ Vu (fun p hp=>by simp at hp ⊢;rcases hp with h | h | h<;>simp[h])
   have ho2:(va2:Value).oneCell'=true:=xU Vu
   have ho3:(ZV:Value).oneCell'=true:=xW Vu
   refine iK (i:=8) (by kernel_rfl) rfl rfl 27 (.tmp 2) (.tmp 19) rfl b2 va2 (by rfl) (by rfl) ho2 27 va j4.1 Tryz.sizeExsK (.inr (by simp)) ?_
   simp only[Act.put,aas,aap,aaq,aag,aaw,aay]
   refine iK (i:=9) (by kernel_rfl) rfl rfl 87 (.tmp 3) (.tmp 23) rfl b3 ZV (by rfl) (by rfl) ho3 87 vk ((setRow_other _ _ _ _ (fun e=>hne e.symm)).trans nX.1) Tryz.sizeIntsK (.inr (by simp)) ?_
   simp only[Act.put,aas,aap,aaq,aag,aaw,aay]
   refine bN (by kernel_rfl) ?_ _
   show Only _ .normal _ _
   unfold Only
   go_wp2
   go_ret
   exact⟨rfl,YA,Wz,SF,hfin⟩
  ·refine aW (yR rfl (by rfl) _) ?_
   have ZH:=VO.pR (.cells #[.int .i64 k] 3)
   obtain⟨V5,hV5⟩:∃V5,V1.alloc (.cells #[.int .i64 k] 3)=V5:=⟨_,rfl⟩
   rw[hV5] at ZH ⊢
   refine ⟨.inl (HS.out V5 _ _ _ _ _ ZH (fun p hp=>by simp at hp ⊢;rcases hp with h | h | h | h<;>simp[h])),?_⟩
   simp only[Act.put,aas,aap,aaq,aag,aaw,aay]
   refine bH (i:=3) (by kernel_rfl) rfl rfl ?_
   obtain⟨va6,V6,hr6,T6x⟩:=ZH.P7 X [.int .i64 k2,.int .i64 op2,.string (aj bX),.string (aj eH),.int .i64 dS,.int .i64 dU,.string (aj vs2),.slice dR dY dP] V0.heap.size rfl hone (by simp) (ZH.also (X,[.int .i64 k2,.int .i64 op2,.string (aj bX),.string (aj eH),.int .i64 dS,.int .i64 dU,.string (aj vs2),.slice dR dY dP]) (by simp)) hn.1 27
   refine aW (dX rfl (by rfl) (by rfl) hr6) ?_
   refine ⟨.inl (HS.out V6 _ _ _ _ _ T6x (fun p hp=>by simp at hp ⊢;rcases hp with h | h | h | h<;>simp[h])),?_⟩
   simp only[Act.put,aas,aap,aaq,aag,aaw,aay]
   refine bH (i:=7) (by kernel_rfl) rfl rfl ?_
   obtain⟨vk7,V7,Zo,VB⟩:=T6x.QY k V1.heap.size (by simp) hn.2 87
   refine aW (dX rfl (by rfl) (by rfl) Zo) ?_
   refine ⟨.inl (HS.out V7 _ _ _ _ _ VB (fun p hp=>by simp at hp ⊢;rcases hp with h | h | h | h<;>simp[h])),?_⟩
   simp only[Act.put,aas,aap,aaq,aag,aaw,aay]
   have j4:=VB.keep (b2,Obj.cells #[va] 27) (by simp)
   have nX:=VB.keep (b3,Obj.cells #[vk] 87) (by simp)
   obtain⟨YA,Wz,SF,hfin⟩:=zD.out V7 va6 vk7 _ VB (fun p hp=>by simp at hp ⊢;rcases hp with h | h | h<;>simp[h])
   have ho2:(va6:Value).oneCell'=true:=xU VB
   have ho3:(vk7:Value).oneCell'=true:=xW VB
   refine iK (i:=8) (by kernel_rfl) rfl rfl 27 (.tmp 2) (.tmp 19) rfl b2 va6 (by rfl) (by rfl) ho2 27 va j4.1 Tryz.sizeExsK (.inr (by simp)) ?_
   simp only[Act.put,aas,aap,aaq,aag,aaw,aay]
   refine iK (i:=9) (by kernel_rfl) rfl rfl 87 (.tmp 3) (.tmp 23) rfl b3 vk7 (by rfl) (by rfl) ho3 87 vk ((setRow_other _ _ _ _ (fun e=>hne e.symm)).trans nX.1) Tryz.sizeIntsK (.inr (by simp)) ?_
   simp only[Act.put,aas,aap,aaq,aag,aaw,aay]
   refine bN (by kernel_rfl) ?_ _
   show Only _ .normal _ _
   unfold Only
   go_wp2
   go_ret
   exact⟨rfl,YA,Wz,SF,hfin⟩
 ·refine aW (yR rfl (by rfl) _) ?_
  have T8x:=T5.pR (.cells #[.int .i64 k] 3)
  obtain⟨V8,hV8⟩:∃V8,V0.alloc (.cells #[.int .i64 k] 3)=V8:=⟨_,rfl⟩
  rw[hV8] at T8x ⊢
  refine ⟨.inl (HS.out V8 _ _ _ _ _ T8x (fun p hp=>by simp at hp ⊢;rcases hp with h | h | h | h<;>simp[h])),?_⟩
  simp only[Act.put,aas,aap,aaq,aag,aaw,aay]
  refine bH (i:=2) (by kernel_rfl) rfl rfl ?_
  refine aW (yt rfl (by rfl) _) ?_
  have ZT:=T8x.pR (.cells #[.int .i64 k2,.int .i64 op2,.string (aj bX),.string (aj eH),.int .i64 dS,.int .i64 dU,.string (aj vs2),.slice dR dY dP] 48)
  obtain⟨V9,hV9⟩:∃V9,V8.alloc (.cells #[.int .i64 k2,.int .i64 op2,.string (aj bX),.string (aj eH),.int .i64 dS,.int .i64 dU,.string (aj vs2),.slice dR dY dP] 48)=V9:=⟨_,rfl⟩
  rw[hV9] at ZT ⊢
  refine ⟨.inl (HS.out V9 _ _ _ _ _ ZT (fun p hp=>by simp at hp ⊢;rcases hp with h | h | h | h<;>simp[h])),?_⟩
  simp only[Act.put,aas,aap,aaq,aag,aaw,aay]
  refine bH (i:=3) (by kernel_rfl) rfl rfl ?_
  obtain⟨Tp,V10,aaQ,Zg⟩:=ZT.P7 X [.int .i64 k2,.int .i64 op2,.string (aj bX),.string (aj eH),.int .i64 dS,.int .i64 dU,.string (aj vs2),.slice dR dY dP] V8.heap.size rfl hone (by simp) (ZT.also (X,[.int .i64 k2,.int .i64 op2,.string (aj bX),.string (aj eH),.int .i64 dS,.int .i64 dU,.string (aj vs2),.slice dR dY dP]) (by simp)) hn.1 27
  refine aW (dX rfl (by rfl) (by rfl) aaQ) ?_
  refine ⟨.inl (HS.out V10 _ _ _ _ _ Zg (fun p hp=>by simp at hp ⊢;rcases hp with h | h | h | h<;>simp[h])),?_⟩
  simp only[Act.put,aas,aap,aaq,aag,aaw,aay]
  refine bH (i:=7) (by kernel_rfl) rfl rfl ?_
  obtain⟨Uf,V11,aax,Kk⟩:=Zg.QY k V0.heap.size (by simp) hn.2 87
  refine aW (dX rfl (by rfl) (by rfl) aax) ?_
  refine ⟨.inl (HS.out V11 _ _ _ _ _ Kk (fun p hp=>by simp at hp ⊢;rcases hp with h | h | h | h<;>simp[h])),?_⟩
  simp only[Act.put,aas,aap,aaq,aag,aaw,aay]
  have j4:=Kk.keep (b2,Obj.cells #[va] 27) (by simp)
  have nX:=Kk.keep (b3,Obj.cells #[vk] 87) (by simp)
  obtain⟨YA,Wz,SF,hfin⟩:=zD.out V11 Tp Uf _ Kk (fun p hp=>by simp at hp ⊢;rcases hp with h | h | h<;>simp[h])
  have ho2:(Tp:Value).oneCell'=true:=xU Kk
  have ho3:(Uf:Value).oneCell'=true:=xW Kk
  refine iK (i:=8) (by kernel_rfl) rfl rfl 27 (.tmp 2) (.tmp 19) rfl b2 Tp (by rfl) (by rfl) ho2 27 va j4.1 Tryz.sizeExsK (.inr (by simp)) ?_
  simp only[Act.put,aas,aap,aaq,aag,aaw,aay]
  refine iK (i:=9) (by kernel_rfl) rfl rfl 87 (.tmp 3) (.tmp 23) rfl b3 Uf (by rfl) (by rfl) ho3 87 vk ((setRow_other _ _ _ _ (fun e=>hne e.symm)).trans nX.1) Tryz.sizeIntsK (.inr (by simp)) ?_
  simp only[Act.put,aas,aap,aaq,aag,aaw,aay]
  refine bN (by kernel_rfl) ?_ _
  show Only _ .normal _ _
  unfold Only
  go_wp2
  go_ret
  exact⟨rfl,YA,Wz,SF,hfin⟩
end Go.Proofs.YtfeglkleoijlaaaGreatDoor
