import Derived.Test.YtfeglkleoijlaaaGreatDoorY06
import Derived.Great.BuildSlice
import Derived.Test.YtfeglkleoijlaaaGreatDoorY21
import Derived.Handed
import Derived.OpenShut
import Derived.ChangeArms
import Derived.Deep.Slices
namespace Go.Proofs.YtfeglkleoijlaaaGreatDoor
open Go.RowKit
set_option linter.unusedSimpArgs false
set_option linter.unusedVariables false
set_option maxRecDepth 20000
set_option maxHeartbeats 8000000
section
variable {P : Program} {md : Region.Mode} {ops : Array Oper} {Q : Exit → Act → World → Prop} {S : World → Prop} {ks : List Nat}
def eG (P:Program) (md:Region.Mode) (ops:Array Oper) (Q:Exit→Act→World→Prop) (S:World→Prop) (ks:List Nat):Nat→Array Bool→Act→World→Prop
 | 0,listed,a,w=>Region.ready md ops listed=[]∧Q .normal a w
 |
  fuel+1,listed,a,w =>
  (Region.ready md ops listed=[]→Q .normal a w) ∧
  ∀i∈Region.ready md ops listed,wpOp P ops Q i (fun a' w'=>(S w'∨i∈ks)∧eG P md ops Q S ks fuel (listed.setIfInBounds i true) a' w') a w
theorem wX : ∀(fuel:Nat) (listed:Array Bool) (a:Act) (w:World),eG P md ops Q S ks fuel listed a w→wpAny P md ops Q fuel listed a w
 | 0,_,_,_,h=>h
 | fuel+1,_,_,_,h=>⟨h.1,fun i hi=>wpOp_mono (fun a' w' h'=>wX fuel _ a' w' h'.2) (h.2 i hi)⟩
theorem BL {i:Nat} {oi:Oper} {v:Value} {f:Nat} (hi:ops[i]?=some oi) (hsel : ∀(j:Nat) (o:Oper) cs b,ops[j]?=some o→o.op≠.select cs b) (hlead : ∀k∈ks,lq md ops f k i=true)
  (hQ : ∀c a w,Q (.panic c) (a.put oi.dst v) w→Q (.panic c) a w) :
  ∀
   (fuel:Nat) (listed:Array Bool) (a:Act) (w:World),Legal md ops listed →
   (∀j oj,ops[j]?=some oj→j≠i→listed.getD j true=false→(∀e∈oj.after,Region.binds md e=true→e.on≠i)→oi.apart ops oj=true) →
   i∈Region.ready md ops listed→YieldsIf P ops S oi v a→S w →
   eG P md ops Q S ks fuel (listed.setIfInBounds i true) (a.put oi.dst v) w→eG P md ops Q S ks (fuel+1) listed a w:=by
 intro fuel
 induction fuel with
 |
  zero =>
  intro listed a w _ _ hr hy hS H
  refine ⟨fun h=>(by rw[h] at hr;cases hr),fun j hj=>?_⟩
  by_cases hji:j=i
  ·subst hji;exact hy.wpOp hi hS ⟨.inl hS,H⟩
  ·have:=ready_mono hj hji
   rw[H.1] at this
   cases this
 |
  succ fuel ih =>
  intro listed a w OD hfree hr hy hS H
  refine ⟨fun h=>(by rw[h] at hr;cases hr),fun j hj=>?_⟩
  by_cases hji:j=i
  ·subst hji;exact hy.wpOp hi hS ⟨.inl hS,H⟩
  ·have h1:=H.2 j (ready_mono hj hji)
   have hjk:j ∉ ks:=fun e=>by
    have h2:=vM OD (hlead j e) hj
    have h0:=(mem_ready.1 hr).1
    rcases Nat.lt_or_ge i listed.size with h' | h'
    ·simp[h'] at h0 h2;rw[h0] at h2;cases h2
    ·simp[Array.getElem?_eq_none h'] at h2
   obtain⟨hjun,oj,hoj,hall⟩:=mem_ready.1 hj
   have hnot : ∀e∈oj.after,Region.binds md e=true→e.on≠i:=fun e he hb heq=>by
    have h1:=hall e he hb
    have h0:=(mem_ready.1 hr).1
    rw[heq] at h1
    rcases Nat.lt_or_ge i listed.size with h' | h'
    ·simp[h'] at h0 h1;rw[h0] at h1;cases h1
    ·simp[Array.getElem?_eq_none h'] at h1
   have h2:=wpOp_putIf hoj (hfree j oj hoj hji hjun hnot) (fun cs b=>hsel i oi cs b hi) (fun cs b=>hsel j oj cs b hoj) hQ hy h1
   have hfree' : ∀k ok,ops[k]?=some ok→k≠i→(listed.setIfInBounds j true).getD k true=false →
     (∀e∈ok.after,Region.binds md e=true→e.on≠i)→oi.apart ops ok=true:=fun k ok hk hki hun hno=>by
    refine hfree k ok hk hki ?_ hno
    by_cases hjk:j=k
    ·subst hjk;exact hjun
    ·rw[getD_set_ne true hjk] at hun;exact hun
   refine wpOp_mono (fun a' w' h3=>?_) h2
   have JE:S w':=h3.2.1.resolve_right hjk
   refine ⟨.inl JE,ih (listed.setIfInBounds j true) a' w' (OD.step hj) hfree' (ready_mono hr (Ne.symm hji)) h3.1 JE ?_⟩
   rw[Array.setIfInBounds_comm _ _ hji]
   exact h3.2.2
theorem C8 {i:Nat} {oi:Oper} {v:Value} {fuel:Nat} {listed:Array Bool} {a:Act} {w:World} (hi:ops[i]?=some oi)
  (hs:Region.noSelect ops=true) (hf:Region.free md ops listed i=true) (hr:(Region.ready md ops listed).contains i=true) (hl:tX md ops listed=true) (hlead:(ks.all fun k=>lq md ops 40 k i)=true)
  (hQ : ∀c a w,Q (.panic c) (a.put oi.dst v) w→Q (.panic c) a w) (hy:YieldsIf P ops S oi v a) (hS:S w)
  (h:eG P md ops Q S ks fuel (listed.setIfInBounds i true) (a.put oi.dst v) w):eG P md ops Q S ks (fuel+1) listed a w :=
 BL hi (Region.noSelect_spec hs) (fun k hk=>List.all_eq_true.1 hlead k hk) hQ fuel listed a w (vo hl) (Region.free_spec hi hf) (by simpa using hr) hy hS h
theorem fF {i:Nat} {oi:Oper} {v:Value} {a2:Act} {fuel:Nat} {listed:Array Bool} {a:Act} {w:World} (hi:ops[i]?=some oi) (hS:S w) (h:eG P md ops Q S ks fuel (listed.setIfInBounds i true) a2 w)
  (hs:Region.noSelect ops=true:=by kernel_rfl) (hf:Region.free md ops listed i=true:=by kernel_rfl) (hr:(Region.ready md ops listed).contains i=true:=by kernel_rfl) (hl:tX md ops listed=true:=by kernel_rfl) (hlead:(ks.all fun k=>lq md ops 40 k i)=true:=by kernel_rfl)
  (hQ : ∀c a w,Q (.panic c) (a.put oi.dst v) w→Q (.panic c) a w:=by exact fun _ _ _ h=>h)
  (hy:YieldsIf P ops S oi v a:=by exact Or.inl ⟨by rfl,by (intro w hSw;(try dsimp only at hSw);(try obtain⟨uo,uN,uH⟩:=hSw);go_simp<;>with_reducible rfl)⟩)
  (hp:a.put oi.dst v=a2:=by (simp only[Act.put,aas,aap,aaq,aag,aaw,aay];rfl)):eG P md ops Q S ks (fuel+1) listed a w:=by
 subst hp
 exact C8 hi hs hf hr hl hlead hQ hy hS h
theorem wU {rs:List Nat} {fuel:Nat} {listed:Array Bool} {a:Act} {w:World} (hr:Region.ready md ops listed=rs) (hne:rs≠[])
  (h : ∀i∈rs,wpOp P ops Q i (fun a' w'=>(S w'∨i∈ks)∧eG P md ops Q S ks fuel (listed.setIfInBounds i true) a' w') a w):eG P md ops Q S ks (fuel+1) listed a w :=
 ⟨fun h0=>absurd (hr ▸ h0) hne,hr ▸ h⟩
theorem bN {listed:Array Bool} {a:Act} {w:World} (hr:Region.ready md ops listed=[]) (h:Q .normal a w) :
  ∀fuel,eG P md ops Q S ks fuel listed a w
 | 0=>⟨hr,h⟩
 | _+1=>⟨fun _=>h,by rw[hr];simp⟩
end
section
variable {P : Program} {md : Region.Mode} {ops : Array Oper} {Q : Exit → Act → World → Prop} {S : World → Prop} {fuel : Nat} {listed : Array Bool} {a : Act} {w : World} {i j : Nat} {ks : List Nat} {oi oj : Oper}
theorem bH (hr:Region.ready md ops listed=[i]) (hi:ops[i]?=some oi) (gi:oi.guard=none)
  (h:oi.wp P a w (fun a' w'=>(S w'∨i∈ks)∧eG P md ops Q S ks fuel (listed.setIfInBounds i true) a' w') Q):eG P md ops Q S ks (fuel+1) listed a w:=by
 refine wU hr (by simp) fun k hk=>?_
 simp only[abg,List.not_mem_nil,or_false] at hk
 subst hk
 unfold wpOp
 simp only[hi,show Region.wanted oi (yielded ops a.tmps)=true by simp[Region.wanted,gi],if_true]
 exact .inl h
theorem jS (hr:Region.ready md ops listed=[i,j]) (hi:ops[i]?=some oi) (hj:ops[j]?=some oj) (gi:oi.guard=none) (gj:oj.guard=none)
  (h1:oi.wp P a w (fun a' w'=>(S w'∨i∈ks)∧eG P md ops Q S ks fuel (listed.setIfInBounds i true) a' w') Q)
  (h2:oj.wp P a w (fun a' w'=>(S w'∨j∈ks)∧eG P md ops Q S ks fuel (listed.setIfInBounds j true) a' w') Q):eG P md ops Q S ks (fuel+1) listed a w:=by
 refine wU hr (by simp) fun k hk=>?_
 simp only[abg,List.not_mem_nil,or_false] at hk
 rcases hk with rfl | rfl
 ·unfold wpOp
  simp only[hi,show Region.wanted oi (yielded ops a.tmps)=true by simp[Region.wanted,gi],if_true]
  exact .inl h1
 ·unfold wpOp
  simp only[hj,show Region.wanted oj (yielded ops a.tmps)=true by simp[Region.wanted,gj],if_true]
  exact .inl h2
theorem iK (hr:Region.ready md ops listed=[i]) (hi:ops[i]?=some oi) (gi:oi.guard=none) (ty:TypeId) (x y:Operand) (ki:oi.op = .store ty x y)
  (g:Nat) (v:Value) (hx:a.eval x = .pointer (some ⟨g,0,none⟩)) (hy:a.eval y=v) (h1:v.oneCell'=true) (t:TypeId) (old:Value) (hg:w.heap[g]?=some (.cells #[old] t (0,0))) (hs:(P.info? ty).map (·.size)=some 1)
  (hS:S (w.setRow g #[v])∨i∈ks) (h:eG P md ops Q S ks fuel (listed.setIfInBounds i true) (a.put oi.dst undef) (w.setRow g #[v])):eG P md ops Q S ks (fuel+1) listed a w :=
 bH hr hi gi (by
  unfold Oper.wp execOp
  simp only[ki,hx,hy,Instr.storeAt,Instr.sureAddr,Sem.run_bind,Sem.run_pure,Result.andThen_ok,run_storeVar_one w g t ty old _ hg hs h1]
  exact⟨hS,h⟩)
theorem jf (hr:Region.ready md ops listed=[i]) (hi:ops[i]?=some oi) (gi:oi.guard=none) (ty:TypeId) (x y:Operand) (ki:oi.op = .store ty x y)
  (g:Nat) (cells:Array Value) (hx:a.eval x = .pointer (some ⟨g,0,none⟩)) (hy:a.eval y = .agg cells) (t:TypeId) (old:Array Value) (hg:w.heap[g]?=some (.cells old t (0,0))) (hs:(P.info? ty).map (·.size)=some cells.size)
  (hold:old.size=cells.size) (h1:cells.all (·.oneCell')=true) (hS:S (w.setRow g cells)∨i∈ks)
  (h:eG P md ops Q S ks fuel (listed.setIfInBounds i true) (a.put oi.dst undef) (w.setRow g cells)):eG P md ops Q S ks (fuel+1) listed a w :=
 bH hr hi gi (wp_store_row ty x y ki g cells hx hy t old hg hs hold h1 ⟨hS,h⟩)
theorem dG {id:Nat} (S:World→Prop) (ks:List Nat) (hm:P.follows .mixedOrders=true) (h:eG P .any ops (Only Q) S ks ops.size (Array.replicate ops.size false) a w.drew):(Code.region id ops true).wp P Q a w :=
 wp_mono (wp_region_any hm (wX _ _ _ _ h)) (fun e a w h=>by cases e<;>first | exact h | exact h.elim)
end
open Go.ChangeShapes Go.WideShapes
theorem xA {n:Int} (h:(Lit.int .i64 n).wf=true):-9223372036854775808≤n∧n≤9223372036854775807:=by
 simpa [Lit.wf,IntKind.min,IntKind.max,IntKind.signed,IntKind.bits] using h
theorem Tryz.Bd:Tryz.prog.cellsOf 3=1:=by kernel_rfl
theorem Tryz.cStr:Tryz.prog.cellsOf 9=1:=by kernel_rfl
theorem Tryz.Oy:Tryz.prog.cellsOf 4=1:=by kernel_rfl
theorem Tryz.cVal:Tryz.prog.cellsOf 46=3:=by kernel_rfl
theorem Tryz.WV:Tryz.prog.cellsOf 106=1:=by kernel_rfl
theorem Tryz.SA:Tryz.prog.cellsOf 24=1:=by kernel_rfl
theorem Tryz.cExpr:Tryz.prog.cellsOf 48=8:=by kernel_rfl
theorem Tryz.lZ:Tryz.prog.cellsOf 27=1:=by kernel_rfl
theorem Tryz.Lx:Tryz.prog.cellsOf 60=4:=by kernel_rfl
theorem Tryz.LZ:Tryz.prog.cellsOf 23=1:=by kernel_rfl
theorem Tryz.R4:Tryz.prog.cellsOf 53=9:=by kernel_rfl
theorem Tryz.MV:Tryz.prog.cellsOf 25=1:=by kernel_rfl
theorem Tryz.Hw:Tryz.prog.cellsOf 55=2:=by kernel_rfl
theorem Tryz.LA:Tryz.prog.cellsOf 26=1:=by kernel_rfl
theorem Tryz.aak:Tryz.prog.cellsOf 29=14:=by kernel_rfl
section
variable {H : Type} {enc : TypeId × Value → H} {w : World} {base : Nat} {held : Bool}
def Q5 (enc:TypeId × Value→H) (w:World) (base:Nat) (held:Bool) {α:Type} (N:Nat) (t:TypeId) (z:Nat) (El:(Nat→Prop)→World→α→List Value→Prop) (Q:α→Prop):Prop :=
 ∀(fuel:Nat) (cs:List Value) (x:DataW H × List MemPlace),DataW.trod enc Tryz.prog w base (fun _=>true) held fuel t cs=some x→SizeOf.sizeOf x.1<N→∃a:α,cs.length=z∧El (fun b=>b<w.heap.size) w a cs∧Q a
theorem oo {α:Type} [Inhabited α] {N:Nat} {t e:TypeId} {z:Nat} {El:(Nat→Prop)→World→α→List Value→Prop} {Q:α→Prop} (ht:Tryz.prog.underlying t=some (.slice e)) (hz:Tryz.prog.cellsOf e=z) (hz0:0<z) (hone:Q5 enc w base held N e z El Q) (fuel:Nat) (v:Value) (x:DataW H × List MemPlace)
  (h:DataW.trod enc Tryz.prog w base (fun _=>true) held fuel t [v]=some x) (hN:SizeOf.sizeOf x.1≤N):∃(aa:Option Addr) (nn cc:Nat) (xs:List α),v = .slice aa nn cc∧aM z El (fun b=>b<w.heap.size) w xs (.slice aa nn cc)∧∀y∈xs,Q y:=by
 rcases Deep.open_slice ht h with⟨hcs,_⟩ | ⟨y,len,cap,m,n,D,Pl,hcs,_,hl,hm,hmm,hx,hr⟩
 ·simp only[List.cons.injEq,and_true] at hcs
  subst hcs
  exact⟨none,0,0,[],rfl,aM.nil,by simp⟩
 ·simp only[List.cons.injEq,and_true] at hcs
  subst hcs
  simp only[if_true] at hmm
  subst hmm
  have one : ∀i,i<len→∃q:α × List Value,w.cells? base (y.add (i*z)) z=some q.2∧q.2.length=z∧El (fun b=>b<w.heap.size) w q.1 q.2∧Q q.1:=fun i hi=>by
   obtain⟨cs,h1,h2⟩:=hr i (by omega)
   rw[hz] at h1
   have hsz:SizeOf.sizeOf (D i)<N:=by
    have hmem:D i∈(List.range len).map D:=List.mem_map.2 ⟨i,by simpa using hi,rfl⟩
    have h3:=List.sizeOf_lt_of_mem hmem
    rw[hx] at hN
    have h4:SizeOf.sizeOf (DataW.slice ((List.range len).map D) ((List.range (m-len)).map fun j=>D (len+j)):DataW H)=1+SizeOf.sizeOf ((List.range len).map D)+SizeOf.sizeOf ((List.range (m-len)).map fun j=>D (len+j)):=DataW.slice.sizeOf_spec _ _
    dsimp only at hN
    omega
   obtain⟨a,k1,k2,k3⟩:=hone n cs _ h2 hsz
   exact⟨(a,cs),h1,k1,k2,k3⟩
  haveI:Inhabited (α × List Value):=⟨(default,[])⟩
  obtain⟨f,hfr⟩:=Deep.choose_lt (α:=α × List Value) (p:=fun i q=>w.cells? base (y.add (i*z)) z=some q.2∧q.2.length=z∧El (fun b=>b<w.heap.size) w q.1 q.2∧Q q.1) one
  have hlen:((List.range len).map fun i=>(f i).1).length=len:=by simp
  refine ⟨some y,len,m,(List.range len).map fun i=>(f i).1,rfl,⟨some y,m,(List.range len).map fun i=>(f i).2,by rw[hlen],by rw[hlen];exact hl,hm,⟨by simp,fun j a cs ha hc=>?_⟩,fun hne=>?_⟩,fun z hz=>?_⟩
  ·have hj:j<len:=by have:=(aam.1 ha).1;simpa using this
   have e1:(f j).1=a:=by simpa [hj] using ha
   have e2:(f j).2=cs:=by simpa [hj] using hc
   rw[← e1,← e2]
   exact⟨(hfr j hj).2.1,(hfr j hj).2.2.1⟩
  ·have hpos:0<len:=by
    rcases aa9 len with e | e
    ·exact absurd (by rw[e];rfl) hne
    ·exact e
   obtain⟨b,off,spot⟩:=y
   have hcl:=fun i (hi:i<len)=>(World.cells?_some (hfr i hi).1).2.2
   have h0:w.cell? ((Addr.add ⟨b,off,spot⟩ (0*z)).add 0)=(f 0).2[0]?:=hcl 0 hpos 0 hz0
   have ae9:=(hfr 0 hpos).2.1
   rw[aaf (by omega)] at h0
   have hspot:spot=none:=by simpa [Addr.add] using World.cell?_spot h0
   subst hspot
   simp only[Addr.add_lit] at h0
   refine ⟨b,off,rfl,World.block_lt_of_cell? w _ h0,fun j cs hc i u hu=>?_⟩
   have hj:j<len:=by have:=(aam.1 hc).1;simpa using this
   have e2:(f j).2=cs:=by simpa [hj] using hc
   have hi:i<z:=by
    have:=(aam.1 hu).1
    rw[← e2,(hfr j hj).2.1] at this
    exact this
   have hk:=hcl j hj i hi
   rw[e2,hu] at hk
   simp only[Addr.add_lit] at hk
   exact hk
  ·obtain⟨i,hi,rfl⟩:=List.mem_map.1 hz
   exact (hfr i (by simpa using hi)).2.2.2
theorem Ig (N:Nat):Q5 enc w base held N 46 3 Ib Xz:=fun fuel cs x h _=>by
 obtain⟨ys,n,_,rfl,hl,hlen,hf⟩:=DataW.trod_struct Tryz.underlying46 h
 rw[Tryz.cVal] at hl
 match cs,hl with
 |
  [c0,c1,c2],_ =>
  match ys,hlen with
  |
   [y0,y1,y2],_ =>
   have f0:DataW.trod enc Tryz.prog w base (fun _=>true) held n 3 [c0]=some y0:=by
    have g:=hf 0 _ rfl
    change DataW.trod enc Tryz.prog w base (fun _=>true) held n 3 (([c0,c1,c2].drop 0).take (Tryz.prog.cellsOf 3))=some y0 at g
    rw[Tryz.Bd] at g
    exact g
   have f1:DataW.trod enc Tryz.prog w base (fun _=>true) held n 3 [c1]=some y1:=by
    have g:=hf 1 _ rfl
    change DataW.trod enc Tryz.prog w base (fun _=>true) held n 3 (([c0,c1,c2].drop 1).take (Tryz.prog.cellsOf 3))=some y1 at g
    rw[Tryz.Bd] at g
    exact g
   have f2:DataW.trod enc Tryz.prog w base (fun _=>true) held n 9 [c2]=some y2:=by
    have g:=hf 2 _ rfl
    change DataW.trod enc Tryz.prog w base (fun _=>true) held n 9 (([c0,c1,c2].drop 2).take (Tryz.prog.cellsOf 9))=some y2 at g
    rw[Tryz.cStr] at g
    exact g
   obtain⟨k,e0,d0,w0⟩:=DataW.trod_int Tryz.underlying3 f0
   obtain⟨m,e1,d1,w1⟩:=DataW.trod_int Tryz.underlying3 f1
   obtain⟨s,e2,d2,w2⟩:=DataW.trod_string Tryz.underlying9 f2
   simp only[List.cons.injEq,and_true] at e0 e1 e2
   subst e0 e1 e2
   refine ⟨⟨k,m,s.data.toList⟩,rfl,?_,(xA w1).1,(xA w1).2,?_⟩
   ·show _=_
    dsimp only
    rw[jX]
   ·have e:s.data.toList.length=s.size:=by rw[Array.length_toList];rfl
    show s.data.toList.length≤_
    rw[e]
    unfold maxLen at w2
    omega
theorem Bj {S:Nat→Prop} {xs:List Ex} {v:Value} (h:aM 8 jl S w xs v):bA S w xs v:=by
 obtain⟨a,c,css,rfl,h1,h2,h3,h4⟩:=h
 by_cases hne:xs=[]
 ·subst hne
  exact .nil a c h2
 ·obtain⟨b,off,rfl,hS,hc⟩:=h4 hne
  have hget : ∀(j:Nat) (x:Ex),xs[j]?=some x→∃cs,css[j]?=some cs∧jl S w x cs:=fun j x hx=>by
   obtain⟨cs,hcs⟩:∃cs,css[j]?=some cs:=⟨_,aaf (by rw[h3.1];exact (aam.1 hx).1)⟩
   exact⟨cs,hcs,(h3.2 j x cs hx hcs).2⟩
  refine .cons xs b off c (fun j=>((css[j]?.getD [])[7]?).getD .nilIface) hne hS h1 h2 (fun j k op tb nm vk vn vs ys hx=>?_) (fun j k op tb nm vk vn vs ys hx=>?_)
  ·obtain⟨cs,hcs,k',op',tb',nm',jM,QB,vs',ys',aa,nn,cc,he,hcv,ha⟩:=hget j _ hx
   simp only[Ex.mk.injEq,Vl.mk.injEq] at he
   obtain⟨rfl,rfl,rfl,rfl,⟨rfl,rfl,rfl⟩,rfl⟩:=he
   have g:=fun i u hu=>hc j cs hcs i u hu
   rw[hcs,hcv] at *
   exact⟨g 0 _ rfl,g 1 _ rfl,g 2 _ rfl,g 3 _ rfl,g 4 _ rfl,g 5 _ rfl,g 6 _ rfl,g 7 _ rfl⟩
  ·obtain⟨cs,hcs,k',op',tb',nm',jM,QB,vs',ys',aa,nn,cc,he,hcv,ha⟩:=hget j _ hx
   simp only[Ex.mk.injEq,Vl.mk.injEq] at he
   obtain⟨rfl,rfl,rfl,rfl,⟨rfl,rfl,rfl⟩,rfl⟩:=he
   rw[hcs,hcv]
   exact ha
instance:Inhabited Ex:=⟨tO⟩
instance:Inhabited Vl:=⟨zV⟩
instance:Inhabited Co:=⟨⟨[],0,false,false⟩⟩
instance:Inhabited Se:=⟨⟨[],tO⟩⟩
instance:Inhabited It:=⟨⟨0,[]⟩⟩
instance:Inhabited St:=⟨zSt 0⟩
theorem mM (s:ByteArray) (h:s.size≤maxLen):s.data.toList.length≤9223372036854775807:=by
 have e:s.data.toList.length=s.size:=by rw[Array.length_toList];rfl
 rw[e]
 unfold maxLen at h
 omega
theorem size_part {y:DataW H × List MemPlace} {ys:List (DataW H × List MemPlace)} (h:y∈ys):SizeOf.sizeOf y.1<SizeOf.sizeOf (DataW.agg (ys.map (·.1)):DataW H):=by
 have h1:=List.sizeOf_lt_of_mem (List.mem_map.2 ⟨y,h,rfl⟩:y.1∈ys.map (·.1))
 have h2:SizeOf.sizeOf (DataW.agg (ys.map (·.1)):DataW H)=1+SizeOf.sizeOf (ys.map (·.1)):=DataW.agg.sizeOf_spec _
 omega
theorem yB : ∀N,Q5 enc w base held N 48 8 jl mO
 | 0=>fun fuel cs x h hN=>absurd hN (Nat.not_lt_zero _)
 |
  N+1=>fun fuel cs x h hN=>by
  obtain⟨ys,n,_,rfl,hl,hlen,hf⟩:=DataW.trod_struct Tryz.underlying48 h
  rw[Tryz.cExpr] at hl
  match cs,hl with
  |
   [c0,c1,c2,c3,c4,c5,c6,c7],_ =>
   match ys,hlen with
   |
    [y0,y1,y2,y3,y4,y5],_ =>
    have f0:DataW.trod enc Tryz.prog w base (fun _=>true) held n 3 [c0]=some y0:=by
     have g:=hf 0 _ rfl
     change DataW.trod enc Tryz.prog w base (fun _=>true) held n 3 (([c0,c1,c2,c3,c4,c5,c6,c7].drop 0).take (Tryz.prog.cellsOf 3))=some y0 at g
     rw[Tryz.Bd] at g
     exact g
    have f1:DataW.trod enc Tryz.prog w base (fun _=>true) held n 3 [c1]=some y1:=by
     have g:=hf 1 _ rfl
     change DataW.trod enc Tryz.prog w base (fun _=>true) held n 3 (([c0,c1,c2,c3,c4,c5,c6,c7].drop 1).take (Tryz.prog.cellsOf 3))=some y1 at g
     rw[Tryz.Bd] at g
     exact g
    have f2:DataW.trod enc Tryz.prog w base (fun _=>true) held n 9 [c2]=some y2:=by
     have g:=hf 2 _ rfl
     change DataW.trod enc Tryz.prog w base (fun _=>true) held n 9 (([c0,c1,c2,c3,c4,c5,c6,c7].drop 2).take (Tryz.prog.cellsOf 9))=some y2 at g
     rw[Tryz.cStr] at g
     exact g
    have f3:DataW.trod enc Tryz.prog w base (fun _=>true) held n 9 [c3]=some y3:=by
     have g:=hf 3 _ rfl
     change DataW.trod enc Tryz.prog w base (fun _=>true) held n 9 (([c0,c1,c2,c3,c4,c5,c6,c7].drop 3).take (Tryz.prog.cellsOf 9))=some y3 at g
     rw[Tryz.cStr] at g
     exact g
    have f4:DataW.trod enc Tryz.prog w base (fun _=>true) held n 46 [c4,c5,c6]=some y4:=by
     have g:=hf 4 _ rfl
     change DataW.trod enc Tryz.prog w base (fun _=>true) held n 46 (([c0,c1,c2,c3,c4,c5,c6,c7].drop 4).take (Tryz.prog.cellsOf 46))=some y4 at g
     rw[Tryz.cVal] at g
     exact g
    have f5:DataW.trod enc Tryz.prog w base (fun _=>true) held n 27 [c7]=some y5:=by
     have g:=hf 5 _ rfl
     change DataW.trod enc Tryz.prog w base (fun _=>true) held n 27 (([c0,c1,c2,c3,c4,c5,c6,c7].drop 7).take (Tryz.prog.cellsOf 27))=some y5 at g
     rw[Tryz.lZ] at g
     exact g
    obtain⟨k,e0,d0,w0⟩:=DataW.trod_int Tryz.underlying3 f0
    obtain⟨op,e1,d1,w1⟩:=DataW.trod_int Tryz.underlying3 f1
    obtain⟨s2,e2,d2,w2⟩:=DataW.trod_string Tryz.underlying9 f2
    obtain⟨s3,e3,d3,w3⟩:=DataW.trod_string Tryz.underlying9 f3
    obtain⟨v,_,e4,q1,q2,q3⟩:=Ig (SizeOf.sizeOf y4.1+1) n _ _ f4 (Nat.lt_succ_self _)
    have hy5:SizeOf.sizeOf y5.1≤N:=by
     have:=size_part (y:=y5) (ys:=[y0,y1,y2,y3,y4,y5]) (by simp)
     dsimp only at hN
     omega
    obtain⟨aa,nn,cc,xs,e7,hsl,hR⟩:=oo (α:=Ex) (N:=N) Tryz.underlying27 Tryz.cExpr (by decide) (yB N) n c7 y5 f5 hy5
    simp only[Ib,List.cons.injEq,and_true] at e0 e1 e2 e3 e4
    obtain⟨e4,e5,e6⟩:=e4
    subst e0 e1 e2 e3 e4 e5 e6 e7
    refine ⟨.mk k op s2.data.toList s3.data.toList v xs,rfl,⟨k,op,s2.data.toList,s3.data.toList,v.k,v.n,v.s,xs,aa,nn,cc,rfl,?_,Bj hsl⟩,.mk k op _ _ v xs q1 q2 q3 (mM s2 w2) (mM s3 w3) hR⟩
    rw[jX,jX]
theorem Ij (N:Nat):Q5 enc w base held N 60 4 ku (fun c=>c.nm.length≤9223372036854775807):=fun fuel cs x h hN=>by
 obtain⟨ys,n,_,rfl,hl,hlen,hf⟩:=DataW.trod_struct Tryz.underlying60 h
 rw[Tryz.Lx] at hl
 match cs,hl with
 |
  [c0,c1,c2,c3],_ =>
  match ys,hlen with
  |
   [y0,y1,y2,y3],_ =>
   have f0:DataW.trod enc Tryz.prog w base (fun _=>true) held n 9 [c0]=some y0:=by
    have g:=hf 0 _ rfl
    change DataW.trod enc Tryz.prog w base (fun _=>true) held n 9 (([c0,c1,c2,c3].drop 0).take (Tryz.prog.cellsOf 9))=some y0 at g
    rw[Tryz.cStr] at g
    exact g
   have f1:DataW.trod enc Tryz.prog w base (fun _=>true) held n 3 [c1]=some y1:=by
    have g:=hf 1 _ rfl
    change DataW.trod enc Tryz.prog w base (fun _=>true) held n 3 (([c0,c1,c2,c3].drop 1).take (Tryz.prog.cellsOf 3))=some y1 at g
    rw[Tryz.Bd] at g
    exact g
   have f2:DataW.trod enc Tryz.prog w base (fun _=>true) held n 4 [c2]=some y2:=by
    have g:=hf 2 _ rfl
    change DataW.trod enc Tryz.prog w base (fun _=>true) held n 4 (([c0,c1,c2,c3].drop 2).take (Tryz.prog.cellsOf 4))=some y2 at g
    rw[Tryz.Oy] at g
    exact g
   have f3:DataW.trod enc Tryz.prog w base (fun _=>true) held n 4 [c3]=some y3:=by
    have g:=hf 3 _ rfl
    change DataW.trod enc Tryz.prog w base (fun _=>true) held n 4 (([c0,c1,c2,c3].drop 3).take (Tryz.prog.cellsOf 4))=some y3 at g
    rw[Tryz.Oy] at g
    exact g
   obtain⟨s0,e0,d0,w0⟩:=DataW.trod_string Tryz.underlying9 f0
   obtain⟨k,e1,d1,w1⟩:=DataW.trod_int Tryz.underlying3 f1
   obtain⟨b2,e2,d2⟩:=DataW.trod_bool Tryz.underlying4 f2
   obtain⟨b3,e3,d3⟩:=DataW.trod_bool Tryz.underlying4 f3
   simp only[List.cons.injEq,and_true] at e0 e1 e2 e3
   subst e0 e1 e2 e3
   refine ⟨⟨s0.data.toList,k,b2,b3⟩,rfl,?_,mM s0 w0⟩
   show _=_
   dsimp only
   rw[jX]
theorem Pq (N:Nat):Q5 enc w base held N 106 1 Cw (fun r=>∀v∈r,Xz v):=fun fuel cs x h hN=>by
 have hone : ∃v,cs=[v]:=by
  rcases Deep.open_slice Tryz.underlying106 h with⟨hcs,_⟩ | ⟨y,l,c,m,n,D,Pl,hcs,_⟩
  ·exact⟨_,hcs⟩
  ·exact⟨_,hcs⟩
 obtain⟨v,rfl⟩:=hone
 obtain⟨aa,nn,cc,xs,rfl,hsl,hR⟩:=oo (α:=Vl) (N:=SizeOf.sizeOf x.1) Tryz.underlying106 Tryz.cVal (by decide) (Ig _) fuel v x h (aaF _)
 exact⟨xs,rfl,⟨aa,nn,cc,rfl,hsl⟩,hR⟩
theorem PN (N:Nat):Q5 enc w base held N 53 9 BM (fun x=>x.nm.length≤9223372036854775807∧mO x.e):=fun fuel cs x h hN=>by
 obtain⟨ys,n,_,rfl,hl,hlen,hf⟩:=DataW.trod_struct Tryz.underlying53 h
 rw[Tryz.R4] at hl
 match cs,hl with
 |
  [c0,c1,c2,c3,c4,c5,c6,c7,c8],_ =>
  match ys,hlen with
  |
   [y0,y1],_ =>
   have f0:DataW.trod enc Tryz.prog w base (fun _=>true) held n 9 [c0]=some y0:=by
    have g:=hf 0 _ rfl
    change DataW.trod enc Tryz.prog w base (fun _=>true) held n 9 (([c0,c1,c2,c3,c4,c5,c6,c7,c8].drop 0).take (Tryz.prog.cellsOf 9))=some y0 at g
    rw[Tryz.cStr] at g
    exact g
   have f1:DataW.trod enc Tryz.prog w base (fun _=>true) held n 48 [c1,c2,c3,c4,c5,c6,c7,c8]=some y1:=by
    have g:=hf 1 _ rfl
    change DataW.trod enc Tryz.prog w base (fun _=>true) held n 48 (([c0,c1,c2,c3,c4,c5,c6,c7,c8].drop 1).take (Tryz.prog.cellsOf 48))=some y1 at g
    rw[Tryz.cExpr] at g
    exact g
   obtain⟨s0,e0,d0,w0⟩:=DataW.trod_string Tryz.underlying9 f0
   obtain⟨x,_,hx,hR⟩:=yB _ n _ _ f1 (Nat.lt_succ_self _)
   obtain⟨k,op,tb,nm,vk,vn,vs,ys,aa,nn,cc,he,hcs,ha⟩:=hx
   simp only[List.cons.injEq,and_true] at e0 hcs
   obtain⟨rfl,rfl,rfl,rfl,rfl,rfl,rfl,rfl⟩:=hcs
   subst e0
   refine ⟨⟨s0.data.toList,x⟩,rfl,⟨k,op,tb,nm,vk,vn,vs,ys,aa,nn,cc,he,?_,ha⟩,mM s0 w0,hR⟩
   dsimp only
   rw[jX]
theorem qo {fuel:Nat} {v:Value} {x:DataW H × List MemPlace} (h:DataW.trod enc Tryz.prog w base (fun _=>true) held fuel 27 [v]=some x):∃(aa:Option Addr) (nn cc:Nat) (xs:List Ex),v = .slice aa nn cc∧bA (fun b=>b<w.heap.size) w xs (.slice aa nn cc)∧∀y∈xs,mO y:=by
 obtain⟨aa,nn,cc,xs,rfl,hsl,hR⟩:=oo (α:=Ex) (N:=SizeOf.sizeOf x.1) Tryz.underlying27 Tryz.cExpr (by decide) (yB _) fuel v x h (aaF _)
 exact⟨aa,nn,cc,xs,rfl,Bj hsl,hR⟩
theorem LG (N:Nat):Q5 enc w base held N 55 2 vY (fun i=>∀x∈i.xs,mO x):=fun fuel cs x h hN=>by
 obtain⟨ys,n,_,rfl,hl,hlen,hf⟩:=DataW.trod_struct Tryz.underlying55 h
 rw[Tryz.Hw] at hl
 match cs,hl with
 |
  [c0,c1],_ =>
  match ys,hlen with
  |
   [y0,y1],_ =>
   have f0:DataW.trod enc Tryz.prog w base (fun _=>true) held n 3 [c0]=some y0:=by
    have g:=hf 0 _ rfl
    change DataW.trod enc Tryz.prog w base (fun _=>true) held n 3 (([c0,c1].drop 0).take (Tryz.prog.cellsOf 3))=some y0 at g
    rw[Tryz.Bd] at g
    exact g
   have f1:DataW.trod enc Tryz.prog w base (fun _=>true) held n 27 [c1]=some y1:=by
    have g:=hf 1 _ rfl
    change DataW.trod enc Tryz.prog w base (fun _=>true) held n 27 (([c0,c1].drop 1).take (Tryz.prog.cellsOf 27))=some y1 at g
    rw[Tryz.lZ] at g
    exact g
   obtain⟨k,e0,d0,w0⟩:=DataW.trod_int Tryz.underlying3 f0
   obtain⟨aa,nn,cc,xs,e1,hsl,hR⟩:=qo f1
   simp only[List.cons.injEq,and_true] at e0
   subst e0 e1
   exact⟨⟨k,xs⟩,rfl,⟨aa,nn,cc,rfl,hsl⟩,hR⟩
theorem Qd (N:Nat):Q5 enc w base held N 29 14 fD vZ:=fun fuel cs x h hN=>by
 obtain⟨ys,n,_,rfl,hl,hlen,hf⟩:=DataW.trod_struct Tryz.underlying29 h
 rw[Tryz.aak] at hl
 match cs,hl with
 |
  [c0,c1,c2,c3,c4,c5,c6,c7,c8,c9,c10,c11,c12,c13],_ =>
  match ys,hlen with
  |
   [y0,y1,y2,y3,y4,y5,y6,y7,y8,y9,VN,WY,y12,y13],_ =>
   have f0:DataW.trod enc Tryz.prog w base (fun _=>true) held n 3 [c0]=some y0:=by
    have g:=hf 0 _ rfl
    change DataW.trod enc Tryz.prog w base (fun _=>true) held n 3 (([c0,c1,c2,c3,c4,c5,c6,c7,c8,c9,c10,c11,c12,c13].drop 0).take (Tryz.prog.cellsOf 3))=some y0 at g
    rw[Tryz.Bd] at g
    exact g
   have f1:DataW.trod enc Tryz.prog w base (fun _=>true) held n 9 [c1]=some y1:=by
    have g:=hf 1 _ rfl
    change DataW.trod enc Tryz.prog w base (fun _=>true) held n 9 (([c0,c1,c2,c3,c4,c5,c6,c7,c8,c9,c10,c11,c12,c13].drop 1).take (Tryz.prog.cellsOf 9))=some y1 at g
    rw[Tryz.cStr] at g
    exact g
   have f2:DataW.trod enc Tryz.prog w base (fun _=>true) held n 23 [c2]=some y2:=by
    have g:=hf 2 _ rfl
    change DataW.trod enc Tryz.prog w base (fun _=>true) held n 23 (([c0,c1,c2,c3,c4,c5,c6,c7,c8,c9,c10,c11,c12,c13].drop 2).take (Tryz.prog.cellsOf 23))=some y2 at g
    rw[Tryz.LZ] at g
    exact g
   have f3:DataW.trod enc Tryz.prog w base (fun _=>true) held n 9 [c3]=some y3:=by
    have g:=hf 3 _ rfl
    change DataW.trod enc Tryz.prog w base (fun _=>true) held n 9 (([c0,c1,c2,c3,c4,c5,c6,c7,c8,c9,c10,c11,c12,c13].drop 3).take (Tryz.prog.cellsOf 9))=some y3 at g
    rw[Tryz.cStr] at g
    exact g
   have f4:DataW.trod enc Tryz.prog w base (fun _=>true) held n 24 [c4]=some y4:=by
    have g:=hf 4 _ rfl
    change DataW.trod enc Tryz.prog w base (fun _=>true) held n 24 (([c0,c1,c2,c3,c4,c5,c6,c7,c8,c9,c10,c11,c12,c13].drop 4).take (Tryz.prog.cellsOf 24))=some y4 at g
    rw[Tryz.SA] at g
    exact g
   have f5:DataW.trod enc Tryz.prog w base (fun _=>true) held n 25 [c5]=some y5:=by
    have g:=hf 5 _ rfl
    change DataW.trod enc Tryz.prog w base (fun _=>true) held n 25 (([c0,c1,c2,c3,c4,c5,c6,c7,c8,c9,c10,c11,c12,c13].drop 5).take (Tryz.prog.cellsOf 25))=some y5 at g
    rw[Tryz.MV] at g
    exact g
   have f6:DataW.trod enc Tryz.prog w base (fun _=>true) held n 26 [c6]=some y6:=by
    have g:=hf 6 _ rfl
    change DataW.trod enc Tryz.prog w base (fun _=>true) held n 26 (([c0,c1,c2,c3,c4,c5,c6,c7,c8,c9,c10,c11,c12,c13].drop 6).take (Tryz.prog.cellsOf 26))=some y6 at g
    rw[Tryz.LA] at g
    exact g
   have f7:DataW.trod enc Tryz.prog w base (fun _=>true) held n 9 [c7]=some y7:=by
    have g:=hf 7 _ rfl
    change DataW.trod enc Tryz.prog w base (fun _=>true) held n 9 (([c0,c1,c2,c3,c4,c5,c6,c7,c8,c9,c10,c11,c12,c13].drop 7).take (Tryz.prog.cellsOf 9))=some y7 at g
    rw[Tryz.cStr] at g
    exact g
   have f8:DataW.trod enc Tryz.prog w base (fun _=>true) held n 27 [c8]=some y8:=by
    have g:=hf 8 _ rfl
    change DataW.trod enc Tryz.prog w base (fun _=>true) held n 27 (([c0,c1,c2,c3,c4,c5,c6,c7,c8,c9,c10,c11,c12,c13].drop 8).take (Tryz.prog.cellsOf 27))=some y8 at g
    rw[Tryz.lZ] at g
    exact g
   have f9:DataW.trod enc Tryz.prog w base (fun _=>true) held n 27 [c9]=some y9:=by
    have g:=hf 9 _ rfl
    change DataW.trod enc Tryz.prog w base (fun _=>true) held n 27 (([c0,c1,c2,c3,c4,c5,c6,c7,c8,c9,c10,c11,c12,c13].drop 9).take (Tryz.prog.cellsOf 27))=some y9 at g
    rw[Tryz.lZ] at g
    exact g
   have f10:DataW.trod enc Tryz.prog w base (fun _=>true) held n 27 [c10]=some VN:=by
    have g:=hf 10 _ rfl
    change DataW.trod enc Tryz.prog w base (fun _=>true) held n 27 (([c0,c1,c2,c3,c4,c5,c6,c7,c8,c9,c10,c11,c12,c13].drop 10).take (Tryz.prog.cellsOf 27))=some VN at g
    rw[Tryz.lZ] at g
    exact g
   have f11:DataW.trod enc Tryz.prog w base (fun _=>true) held n 27 [c11]=some WY:=by
    have g:=hf 11 _ rfl
    change DataW.trod enc Tryz.prog w base (fun _=>true) held n 27 (([c0,c1,c2,c3,c4,c5,c6,c7,c8,c9,c10,c11,c12,c13].drop 11).take (Tryz.prog.cellsOf 27))=some WY at g
    rw[Tryz.lZ] at g
    exact g
   have f12:DataW.trod enc Tryz.prog w base (fun _=>true) held n 4 [c12]=some y12:=by
    have g:=hf 12 _ rfl
    change DataW.trod enc Tryz.prog w base (fun _=>true) held n 4 (([c0,c1,c2,c3,c4,c5,c6,c7,c8,c9,c10,c11,c12,c13].drop 12).take (Tryz.prog.cellsOf 4))=some y12 at g
    rw[Tryz.Oy] at g
    exact g
   have f13:DataW.trod enc Tryz.prog w base (fun _=>true) held n 3 [c13]=some y13:=by
    have g:=hf 13 _ rfl
    change DataW.trod enc Tryz.prog w base (fun _=>true) held n 3 (([c0,c1,c2,c3,c4,c5,c6,c7,c8,c9,c10,c11,c12,c13].drop 13).take (Tryz.prog.cellsOf 3))=some y13 at g
    rw[Tryz.Bd] at g
    exact g
   obtain⟨k,e0,d0,w0⟩:=DataW.trod_int Tryz.underlying3 f0
   obtain⟨s1,e1,d1,w1⟩:=DataW.trod_string Tryz.underlying9 f1
   obtain⟨a2,n2,k2,xs2,e2,h2,r2⟩:=oo (α:=Co) (N:=SizeOf.sizeOf y2.1) Tryz.underlying23 Tryz.Lx (by decide) (Ij _) n _ _ f2 (aaF _)
   obtain⟨s3,e3,d3,w3⟩:=DataW.trod_string Tryz.underlying9 f3
   obtain⟨a4,n4,k4,xs4,e4,h4,r4⟩:=oo (α:=List Vl) (N:=SizeOf.sizeOf y4.1) Tryz.underlying24 Tryz.WV (by decide) (Pq _) n _ _ f4 (aaF _)
   obtain⟨a5,n5,k5,xs5,e5,h5,r5⟩:=oo (α:=Se) (N:=SizeOf.sizeOf y5.1) Tryz.underlying25 Tryz.R4 (by decide) (PN _) n _ _ f5 (aaF _)
   obtain⟨a6,n6,k6,xs6,e6,h6,r6⟩:=oo (α:=It) (N:=SizeOf.sizeOf y6.1) Tryz.underlying26 Tryz.Hw (by decide) (LG _) n _ _ f6 (aaF _)
   obtain⟨s7,e7,d7,w7⟩:=DataW.trod_string Tryz.underlying9 f7
   obtain⟨a8,n8,k8,xs8,e8,h8,r8⟩:=qo f8
   obtain⟨a9,n9,k9,xs9,e9,h9,r9⟩:=qo f9
   obtain⟨a10,n10,k10,acE,e10,h10,r10⟩:=qo f10
   obtain⟨a11,n11,k11,abK,e11,h11,r11⟩:=qo f11
   obtain⟨b12,e12,XE⟩:=DataW.trod_bool Tryz.underlying4 f12
   obtain⟨l13,e13,XK,Vq⟩:=DataW.trod_int Tryz.underlying3 f13
   simp only[List.cons.injEq,and_true] at e0 e1 e3 e7 e12 e13
   subst e0 e1 e2 e3 e4 e5 e6 e7 e8 e9 e10 e11 e12 e13
   refine ⟨⟨k,s1.data.toList,xs2,s3.data.toList,xs4,xs5,xs6,s7.data.toList,xs8,xs9,acE,abK,b12,l13⟩,rfl,⟨a2,a4,a5,a6,a8,a9,a10,a11,n2,n4,n5,n6,n8,n9,n10,n11,k2,k4,k5,k6,k8,k9,k10,k11,?_,h2,h4,h5,h6,h8,h9,h10,h11⟩,⟨mM s1 w1,mM s3 w3,mM s7 w7,(xA Vq).2,r2,r4,r5,r6,r8,r9,r10,r11⟩⟩
   dsimp only
   rw[jX,jX,jX]
end
end Go.Proofs.YtfeglkleoijlaaaGreatDoor
