/- Packed for the hand-in: OpenX OpenC -/
import Derived.Test.YtaaggohjmhifbaaGreatDoorY26
import Derived.Handed
import Derived.OpenShut
import Derived.ChangeArms
import Derived.Deep.Slices
import Derived.Test.YtaaggohjmhifbaaGreatDoorY39
namespace Go.Proofs.YtaaggohjmhifbaaGreatDoor
open Go.ChangeShapes Go.WideShapes Go.RowKit
set_option linter.unusedSimpArgs false
set_option linter.unusedVariables false
set_option maxRecDepth 20000
set_option maxHeartbeats 8000000
theorem BD {n:Int} (h:(Lit.int .i64 n).wf=true):-9223372036854775808≤n∧n≤9223372036854775807:=by
 simpa [Lit.wf,IntKind.min,IntKind.max,IntKind.signed,IntKind.bits] using h
theorem Tryz.yY:Tryz.prog.cellsOf 3=1:=by kernel_rfl
theorem Tryz.cStr:Tryz.prog.cellsOf 9=1:=by kernel_rfl
theorem Tryz.F5:Tryz.prog.cellsOf 4=1:=by kernel_rfl
theorem Tryz.cVal:Tryz.prog.cellsOf 128=3:=by kernel_rfl
theorem Tryz.KP:Tryz.prog.cellsOf 125=1:=by kernel_rfl
theorem Tryz.JZ:Tryz.prog.cellsOf 23=1:=by kernel_rfl
theorem Tryz.cExpr:Tryz.prog.cellsOf 130=8:=by kernel_rfl
theorem Tryz.rR:Tryz.prog.cellsOf 26=1:=by kernel_rfl
theorem Tryz.Jv:Tryz.prog.cellsOf 37=4:=by kernel_rfl
theorem Tryz.Fj:Tryz.prog.cellsOf 22=1:=by kernel_rfl
theorem Tryz.Jl:Tryz.prog.cellsOf 132=9:=by kernel_rfl
theorem Tryz.Ki:Tryz.prog.cellsOf 24=1:=by kernel_rfl
theorem Tryz.Jt:Tryz.prog.cellsOf 135=2:=by kernel_rfl
theorem Tryz.JH:Tryz.prog.cellsOf 25=1:=by kernel_rfl
theorem Tryz.Lc:Tryz.prog.cellsOf 28=14:=by kernel_rfl
section
variable {H : Type} {enc : TypeId × Value → H} {w : World} {base : Nat} {held : Bool}
def Jk (enc:TypeId × Value→H) (w:World) (base:Nat) (held:Bool) {α:Type} (N:Nat) (t:TypeId) (z:Nat) (El:(Nat→Prop)→World→α→List Value→Prop) (Q:α→Prop):Prop :=
 ∀(fuel:Nat) (cs:List Value) (x:DataW H × List MemPlace),DataW.trod enc Tryz.prog w base (fun _=>true) held fuel t cs=some x→SizeOf.sizeOf x.1<N→∃a:α,cs.length=z∧El (fun b=>b<w.heap.size) w a cs∧Q a
theorem pK {α:Type} [Inhabited α] {N:Nat} {t e:TypeId} {z:Nat} {El:(Nat→Prop)→World→α→List Value→Prop} {Q:α→Prop} (ht:Tryz.prog.underlying t=some (.slice e)) (hz:Tryz.prog.cellsOf e=z) (hz0:0<z) (hone:Jk enc w base held N e z El Q) (fuel:Nat) (v:Value) (x:DataW H × List MemPlace)
  (h:DataW.trod enc Tryz.prog w base (fun _=>true) held fuel t [v]=some x) (hN:SizeOf.sizeOf x.1≤N):∃(aa:Option Addr) (nn cc:Nat) (xs:List α),v = .slice aa nn cc∧bP z El (fun b=>b<w.heap.size) w xs (.slice aa nn cc)∧∀y∈xs,Q y:=by
 rcases Deep.open_slice ht h with⟨hcs,_⟩ | ⟨y,len,cap,m,n,D,Pl,hcs,_,hl,hm,hmm,hx,hr⟩
 ·simp only[List.cons.injEq,and_true] at hcs
  subst hcs
  exact⟨none,0,0,[],rfl,bP.nil,by simp⟩
 ·simp only[List.cons.injEq,and_true] at hcs
  subst hcs
  simp only[if_true] at hmm
  subst hmm
  have one : ∀i,i<len→∃q:α × List Value,w.cells? base (y.add (i*z)) z=some q.2∧q.2.length=z∧El (fun b=>b<w.heap.size) w q.1 q.2∧Q q.1:=fun i hi=>by
   obtain⟨cs,h1,h2⟩:=hr i (by omega)
   rw[hz] at h1
   have hsz:SizeOf.sizeOf (D i)<N:=by
    have hmem:D i∈(List.range len).map D:=List.mem_map.2 ⟨i,by simpa using hi,rfl⟩
    have h3:=List.sizeOf_lt_of_mem hmem
    rw[hx] at hN
    have h4:SizeOf.sizeOf (DataW.slice ((List.range len).map D) ((List.range (m-len)).map fun j=>D (len+j)):DataW H)=1+SizeOf.sizeOf ((List.range len).map D)+SizeOf.sizeOf ((List.range (m-len)).map fun j=>D (len+j)):=DataW.slice.sizeOf_spec _ _
    dsimp only at hN
    omega
   obtain⟨a,k1,k2,k3⟩:=hone n cs _ h2 hsz
   exact⟨(a,cs),h1,k1,k2,k3⟩
  haveI:Inhabited (α × List Value):=⟨(default,[])⟩
  obtain⟨f,hfr⟩:=Deep.choose_lt (α:=α × List Value) (p:=fun i q=>w.cells? base (y.add (i*z)) z=some q.2∧q.2.length=z∧El (fun b=>b<w.heap.size) w q.1 q.2∧Q q.1) one
  have hlen:((List.range len).map fun i=>(f i).1).length=len:=by simp
  refine ⟨some y,len,m,(List.range len).map fun i=>(f i).1,rfl,⟨some y,m,(List.range len).map fun i=>(f i).2,by rw[hlen],by rw[hlen];exact hl,hm,⟨by simp,fun j a cs ha hc=>?_⟩,fun hne=>?_⟩,fun z hz=>?_⟩
  ·have hj:j<len:=by have:=(List.getElem?_eq_some_iff.1 ha).1;simpa using this
   have e1:(f j).1=a:=by simpa [hj] using ha
   have e2:(f j).2=cs:=by simpa [hj] using hc
   rw[← e1,← e2]
   exact⟨(hfr j hj).2.1,(hfr j hj).2.2.1⟩
  ·have hpos:0<len:=by
    rcases Nat.eq_zero_or_pos len with e | e
    ·exact absurd (by rw[e];rfl) hne
    ·exact e
   obtain⟨b,off,spot⟩:=y
   have hcl:=fun i (hi:i<len)=>(World.cells?_some (hfr i hi).1).2.2
   have h0:w.cell? ((Addr.add ⟨b,off,spot⟩ (0*z)).add 0)=(f 0).2[0]?:=hcl 0 hpos 0 hz0
   have hlen0:=(hfr 0 hpos).2.1
   rw[List.getElem?_eq_getElem (by omega)] at h0
   have hspot:spot=none:=by simpa [Addr.add] using World.cell?_spot h0
   subst hspot
   simp only[Addr.add_lit] at h0
   refine ⟨b,off,rfl,World.block_lt_of_cell? w _ h0,fun j cs hc i u hu=>?_⟩
   have hj:j<len:=by have:=(List.getElem?_eq_some_iff.1 hc).1;simpa using this
   have e2:(f j).2=cs:=by simpa [hj] using hc
   have hi:i<z:=by
    have:=(List.getElem?_eq_some_iff.1 hu).1
    rw[← e2,(hfr j hj).2.1] at this
    exact this
   have hk:=hcl j hj i hi
   rw[e2,hu] at hk
   simp only[Addr.add_lit] at hk
   exact hk
  ·obtain⟨i,hi,rfl⟩:=List.mem_map.1 hz
   exact (hfr i (by simpa using hi)).2.2.2
theorem Cr (N:Nat):Jk enc w base held N 128 3 Bv KD:=fun fuel cs x h _=>by
 obtain⟨ys,n,_,rfl,hl,hlen,hf⟩:=DataW.trod_struct Tryz.underlying128 h
 rw[Tryz.cVal] at hl
 match cs,hl with
 |
  [c0,c1,c2],_ =>
  match ys,hlen with
  |
   [y0,y1,y2],_ =>
   have f0:DataW.trod enc Tryz.prog w base (fun _=>true) held n 3 [c0]=some y0:=by
    have g:=hf 0 _ rfl
    change DataW.trod enc Tryz.prog w base (fun _=>true) held n 3 (([c0,c1,c2].drop 0).take (Tryz.prog.cellsOf 3))=some y0 at g
    rw[Tryz.yY] at g
    exact g
   have f1:DataW.trod enc Tryz.prog w base (fun _=>true) held n 3 [c1]=some y1:=by
    have g:=hf 1 _ rfl
    change DataW.trod enc Tryz.prog w base (fun _=>true) held n 3 (([c0,c1,c2].drop 1).take (Tryz.prog.cellsOf 3))=some y1 at g
    rw[Tryz.yY] at g
    exact g
   have f2:DataW.trod enc Tryz.prog w base (fun _=>true) held n 9 [c2]=some y2:=by
    have g:=hf 2 _ rfl
    change DataW.trod enc Tryz.prog w base (fun _=>true) held n 9 (([c0,c1,c2].drop 2).take (Tryz.prog.cellsOf 9))=some y2 at g
    rw[Tryz.cStr] at g
    exact g
   obtain⟨k,e0,d0,w0⟩:=DataW.trod_int Tryz.underlying3 f0
   obtain⟨m,e1,d1,w1⟩:=DataW.trod_int Tryz.underlying3 f1
   obtain⟨s,e2,d2,w2⟩:=DataW.trod_string Tryz.underlying9 f2
   simp only[List.cons.injEq,and_true] at e0 e1 e2
   subst e0 e1 e2
   refine ⟨⟨k,m,s.data.toList⟩,rfl,?_,(BD w1).1,(BD w1).2,?_⟩
   ·show _=_
    dsimp only
    rw[jU]
   ·have e:s.data.toList.length=s.size:=by rw[Array.length_toList];rfl
    show s.data.toList.length≤_
    rw[e]
    unfold maxLen at w2
    omega
theorem Cj {S:Nat→Prop} {xs:List Ex} {v:Value} (h:bP 8 Gq S w xs v):bg S w xs v:=by
 obtain⟨a,c,css,rfl,h1,h2,h3,h4⟩:=h
 by_cases hne:xs=[]
 ·subst hne
  exact .nil a c h2
 ·obtain⟨b,off,rfl,hS,hc⟩:=h4 hne
  have hget : ∀(j:Nat) (x:Ex),xs[j]?=some x→∃cs,css[j]?=some cs∧Gq S w x cs:=fun j x hx=>by
   obtain⟨cs,hcs⟩:∃cs,css[j]?=some cs:=⟨_,List.getElem?_eq_getElem (by rw[h3.1];exact (List.getElem?_eq_some_iff.1 hx).1)⟩
   exact⟨cs,hcs,(h3.2 j x cs hx hcs).2⟩
  refine .cons xs b off c (fun j=>((css[j]?.getD [])[7]?).getD .nilIface) hne hS h1 h2 (fun j k op tb nm vk vn vs ys hx=>?_) (fun j k op tb nm vk vn vs ys hx=>?_)
  ·obtain⟨cs,hcs,k',op',tb',nm',vk',vn',vs',ys',aa,nn,cc,he,hcv,ha⟩:=hget j _ hx
   simp only[Ex.mk.injEq,Vl.mk.injEq] at he
   obtain⟨rfl,rfl,rfl,rfl,⟨rfl,rfl,rfl⟩,rfl⟩:=he
   have g:=fun i u hu=>hc j cs hcs i u hu
   rw[hcs,hcv] at *
   exact⟨g 0 _ rfl,g 1 _ rfl,g 2 _ rfl,g 3 _ rfl,g 4 _ rfl,g 5 _ rfl,g 6 _ rfl,g 7 _ rfl⟩
  ·obtain⟨cs,hcs,k',op',tb',nm',vk',vn',vs',ys',aa,nn,cc,he,hcv,ha⟩:=hget j _ hx
   simp only[Ex.mk.injEq,Vl.mk.injEq] at he
   obtain⟨rfl,rfl,rfl,rfl,⟨rfl,rfl,rfl⟩,rfl⟩:=he
   rw[hcs,hcv]
   exact ha
instance:Inhabited Ex:=⟨Ef⟩
instance:Inhabited Vl:=⟨zV⟩
instance:Inhabited Co:=⟨⟨[],0,false,false⟩⟩
instance:Inhabited Se:=⟨⟨[],Ef⟩⟩
instance:Inhabited It:=⟨⟨0,[]⟩⟩
instance:Inhabited St:=⟨gZ 0⟩
theorem mJ (s:ByteArray) (h:s.size≤maxLen):s.data.toList.length≤9223372036854775807:=by
 have e:s.data.toList.length=s.size:=by rw[Array.length_toList];rfl
 rw[e]
 unfold maxLen at h
 omega
theorem Ej {y:DataW H × List MemPlace} {ys:List (DataW H × List MemPlace)} (h:y∈ys):SizeOf.sizeOf y.1<SizeOf.sizeOf (DataW.agg (ys.map (·.1)):DataW H):=by
 have h1:=List.sizeOf_lt_of_mem (List.mem_map.2 ⟨y,h,rfl⟩:y.1∈ys.map (·.1))
 have h2:SizeOf.sizeOf (DataW.agg (ys.map (·.1)):DataW H)=1+SizeOf.sizeOf (ys.map (·.1)):=DataW.agg.sizeOf_spec _
 omega
theorem vg : ∀N,Jk enc w base held N 130 8 Gq tH
 | 0=>fun fuel cs x h hN=>absurd hN (Nat.not_lt_zero _)
 |
  N+1=>fun fuel cs x h hN=>by
  obtain⟨ys,n,_,rfl,hl,hlen,hf⟩:=DataW.trod_struct Tryz.underlying130 h
  rw[Tryz.cExpr] at hl
  match cs,hl with
  |
   [c0,c1,c2,c3,c4,c5,c6,c7],_ =>
   match ys,hlen with
   |
    [y0,y1,y2,y3,y4,y5],_ =>
    have f0:DataW.trod enc Tryz.prog w base (fun _=>true) held n 3 [c0]=some y0:=by
     have g:=hf 0 _ rfl
     change DataW.trod enc Tryz.prog w base (fun _=>true) held n 3 (([c0,c1,c2,c3,c4,c5,c6,c7].drop 0).take (Tryz.prog.cellsOf 3))=some y0 at g
     rw[Tryz.yY] at g
     exact g
    have f1:DataW.trod enc Tryz.prog w base (fun _=>true) held n 3 [c1]=some y1:=by
     have g:=hf 1 _ rfl
     change DataW.trod enc Tryz.prog w base (fun _=>true) held n 3 (([c0,c1,c2,c3,c4,c5,c6,c7].drop 1).take (Tryz.prog.cellsOf 3))=some y1 at g
     rw[Tryz.yY] at g
     exact g
    have f2:DataW.trod enc Tryz.prog w base (fun _=>true) held n 9 [c2]=some y2:=by
     have g:=hf 2 _ rfl
     change DataW.trod enc Tryz.prog w base (fun _=>true) held n 9 (([c0,c1,c2,c3,c4,c5,c6,c7].drop 2).take (Tryz.prog.cellsOf 9))=some y2 at g
     rw[Tryz.cStr] at g
     exact g
    have f3:DataW.trod enc Tryz.prog w base (fun _=>true) held n 9 [c3]=some y3:=by
     have g:=hf 3 _ rfl
     change DataW.trod enc Tryz.prog w base (fun _=>true) held n 9 (([c0,c1,c2,c3,c4,c5,c6,c7].drop 3).take (Tryz.prog.cellsOf 9))=some y3 at g
     rw[Tryz.cStr] at g
     exact g
    have f4:DataW.trod enc Tryz.prog w base (fun _=>true) held n 128 [c4,c5,c6]=some y4:=by
     have g:=hf 4 _ rfl
     change DataW.trod enc Tryz.prog w base (fun _=>true) held n 128 (([c0,c1,c2,c3,c4,c5,c6,c7].drop 4).take (Tryz.prog.cellsOf 128))=some y4 at g
     rw[Tryz.cVal] at g
     exact g
    have f5:DataW.trod enc Tryz.prog w base (fun _=>true) held n 26 [c7]=some y5:=by
     have g:=hf 5 _ rfl
     change DataW.trod enc Tryz.prog w base (fun _=>true) held n 26 (([c0,c1,c2,c3,c4,c5,c6,c7].drop 7).take (Tryz.prog.cellsOf 26))=some y5 at g
     rw[Tryz.rR] at g
     exact g
    obtain⟨k,e0,d0,w0⟩:=DataW.trod_int Tryz.underlying3 f0
    obtain⟨op,e1,d1,w1⟩:=DataW.trod_int Tryz.underlying3 f1
    obtain⟨s2,e2,d2,w2⟩:=DataW.trod_string Tryz.underlying9 f2
    obtain⟨s3,e3,d3,w3⟩:=DataW.trod_string Tryz.underlying9 f3
    obtain⟨v,_,e4,q1,q2,q3⟩:=Cr (SizeOf.sizeOf y4.1+1) n _ _ f4 (Nat.lt_succ_self _)
    have hy5:SizeOf.sizeOf y5.1≤N:=by
     have:=Ej (y:=y5) (ys:=[y0,y1,y2,y3,y4,y5]) (by simp)
     dsimp only at hN
     omega
    obtain⟨aa,nn,cc,xs,e7,hsl,hR⟩:=pK (α:=Ex) (N:=N) Tryz.underlying26 Tryz.cExpr (by decide) (vg N) n c7 y5 f5 hy5
    simp only[Bv,List.cons.injEq,and_true] at e0 e1 e2 e3 e4
    obtain⟨e4,e5,e6⟩:=e4
    subst e0 e1 e2 e3 e4 e5 e6 e7
    refine ⟨.mk k op s2.data.toList s3.data.toList v xs,rfl,⟨k,op,s2.data.toList,s3.data.toList,v.k,v.n,v.s,xs,aa,nn,cc,rfl,?_,Cj hsl⟩,.mk k op _ _ v xs q1 q2 q3 (mJ s2 w2) (mJ s3 w3) hR⟩
    rw[jU,jU]
theorem Iw (N:Nat):Jk enc w base held N 37 4 iE (fun c=>c.nm.length≤9223372036854775807):=fun fuel cs x h hN=>by
 obtain⟨ys,n,_,rfl,hl,hlen,hf⟩:=DataW.trod_struct Tryz.underlying37 h
 rw[Tryz.Jv] at hl
 match cs,hl with
 |
  [c0,c1,c2,c3],_ =>
  match ys,hlen with
  |
   [y0,y1,y2,y3],_ =>
   have f0:DataW.trod enc Tryz.prog w base (fun _=>true) held n 9 [c0]=some y0:=by
    have g:=hf 0 _ rfl
    change DataW.trod enc Tryz.prog w base (fun _=>true) held n 9 (([c0,c1,c2,c3].drop 0).take (Tryz.prog.cellsOf 9))=some y0 at g
    rw[Tryz.cStr] at g
    exact g
   have f1:DataW.trod enc Tryz.prog w base (fun _=>true) held n 3 [c1]=some y1:=by
    have g:=hf 1 _ rfl
    change DataW.trod enc Tryz.prog w base (fun _=>true) held n 3 (([c0,c1,c2,c3].drop 1).take (Tryz.prog.cellsOf 3))=some y1 at g
    rw[Tryz.yY] at g
    exact g
   have f2:DataW.trod enc Tryz.prog w base (fun _=>true) held n 4 [c2]=some y2:=by
    have g:=hf 2 _ rfl
    change DataW.trod enc Tryz.prog w base (fun _=>true) held n 4 (([c0,c1,c2,c3].drop 2).take (Tryz.prog.cellsOf 4))=some y2 at g
    rw[Tryz.F5] at g
    exact g
   have f3:DataW.trod enc Tryz.prog w base (fun _=>true) held n 4 [c3]=some y3:=by
    have g:=hf 3 _ rfl
    change DataW.trod enc Tryz.prog w base (fun _=>true) held n 4 (([c0,c1,c2,c3].drop 3).take (Tryz.prog.cellsOf 4))=some y3 at g
    rw[Tryz.F5] at g
    exact g
   obtain⟨s0,e0,d0,w0⟩:=DataW.trod_string Tryz.underlying9 f0
   obtain⟨k,e1,d1,w1⟩:=DataW.trod_int Tryz.underlying3 f1
   obtain⟨b2,e2,d2⟩:=DataW.trod_bool Tryz.underlying4 f2
   obtain⟨b3,e3,d3⟩:=DataW.trod_bool Tryz.underlying4 f3
   simp only[List.cons.injEq,and_true] at e0 e1 e2 e3
   subst e0 e1 e2 e3
   refine ⟨⟨s0.data.toList,k,b2,b3⟩,rfl,?_,mJ s0 w0⟩
   show _=_
   dsimp only
   rw[jU]
theorem Iy (N:Nat):Jk enc w base held N 125 1 D6 (fun r=>∀v∈r,KD v):=fun fuel cs x h hN=>by
 have hone : ∃v,cs=[v]:=by
  rcases Deep.open_slice Tryz.underlying125 h with⟨hcs,_⟩ | ⟨y,l,c,m,n,D,Pl,hcs,_⟩
  ·exact⟨_,hcs⟩
  ·exact⟨_,hcs⟩
 obtain⟨v,rfl⟩:=hone
 obtain⟨aa,nn,cc,xs,rfl,hsl,hR⟩:=pK (α:=Vl) (N:=SizeOf.sizeOf x.1) Tryz.underlying125 Tryz.cVal (by decide) (Cr _) fuel v x h (Nat.le_refl _)
 exact⟨xs,rfl,⟨aa,nn,cc,rfl,hsl⟩,hR⟩
theorem I4 (N:Nat):Jk enc w base held N 132 9 Ab (fun x=>x.nm.length≤9223372036854775807∧tH x.e):=fun fuel cs x h hN=>by
 obtain⟨ys,n,_,rfl,hl,hlen,hf⟩:=DataW.trod_struct Tryz.underlying132 h
 rw[Tryz.Jl] at hl
 match cs,hl with
 |
  [c0,c1,c2,c3,c4,c5,c6,c7,c8],_ =>
  match ys,hlen with
  |
   [y0,y1],_ =>
   have f0:DataW.trod enc Tryz.prog w base (fun _=>true) held n 9 [c0]=some y0:=by
    have g:=hf 0 _ rfl
    change DataW.trod enc Tryz.prog w base (fun _=>true) held n 9 (([c0,c1,c2,c3,c4,c5,c6,c7,c8].drop 0).take (Tryz.prog.cellsOf 9))=some y0 at g
    rw[Tryz.cStr] at g
    exact g
   have f1:DataW.trod enc Tryz.prog w base (fun _=>true) held n 130 [c1,c2,c3,c4,c5,c6,c7,c8]=some y1:=by
    have g:=hf 1 _ rfl
    change DataW.trod enc Tryz.prog w base (fun _=>true) held n 130 (([c0,c1,c2,c3,c4,c5,c6,c7,c8].drop 1).take (Tryz.prog.cellsOf 130))=some y1 at g
    rw[Tryz.cExpr] at g
    exact g
   obtain⟨s0,e0,d0,w0⟩:=DataW.trod_string Tryz.underlying9 f0
   obtain⟨x,_,hx,hR⟩:=vg _ n _ _ f1 (Nat.lt_succ_self _)
   obtain⟨k,op,tb,nm,vk,vn,vs,ys,aa,nn,cc,he,hcs,ha⟩:=hx
   simp only[List.cons.injEq,and_true] at e0 hcs
   obtain⟨rfl,rfl,rfl,rfl,rfl,rfl,rfl,rfl⟩:=hcs
   subst e0
   refine ⟨⟨s0.data.toList,x⟩,rfl,⟨k,op,tb,nm,vk,vn,vs,ys,aa,nn,cc,he,?_,ha⟩,mJ s0 w0,hR⟩
   dsimp only
   rw[jU]
theorem om {fuel:Nat} {v:Value} {x:DataW H × List MemPlace} (h:DataW.trod enc Tryz.prog w base (fun _=>true) held fuel 26 [v]=some x):∃(aa:Option Addr) (nn cc:Nat) (xs:List Ex),v = .slice aa nn cc∧bg (fun b=>b<w.heap.size) w xs (.slice aa nn cc)∧∀y∈xs,tH y:=by
 obtain⟨aa,nn,cc,xs,rfl,hsl,hR⟩:=pK (α:=Ex) (N:=SizeOf.sizeOf x.1) Tryz.underlying26 Tryz.cExpr (by decide) (vg _) fuel v x h (Nat.le_refl _)
 exact⟨aa,nn,cc,xs,rfl,Cj hsl,hR⟩
theorem Gl (N:Nat):Jk enc w base held N 135 2 Bo (fun i=>∀x∈i.xs,tH x):=fun fuel cs x h hN=>by
 obtain⟨ys,n,_,rfl,hl,hlen,hf⟩:=DataW.trod_struct Tryz.underlying135 h
 rw[Tryz.Jt] at hl
 match cs,hl with
 |
  [c0,c1],_ =>
  match ys,hlen with
  |
   [y0,y1],_ =>
   have f0:DataW.trod enc Tryz.prog w base (fun _=>true) held n 3 [c0]=some y0:=by
    have g:=hf 0 _ rfl
    change DataW.trod enc Tryz.prog w base (fun _=>true) held n 3 (([c0,c1].drop 0).take (Tryz.prog.cellsOf 3))=some y0 at g
    rw[Tryz.yY] at g
    exact g
   have f1:DataW.trod enc Tryz.prog w base (fun _=>true) held n 26 [c1]=some y1:=by
    have g:=hf 1 _ rfl
    change DataW.trod enc Tryz.prog w base (fun _=>true) held n 26 (([c0,c1].drop 1).take (Tryz.prog.cellsOf 26))=some y1 at g
    rw[Tryz.rR] at g
    exact g
   obtain⟨k,e0,d0,w0⟩:=DataW.trod_int Tryz.underlying3 f0
   obtain⟨aa,nn,cc,xs,e1,hsl,hR⟩:=om f1
   simp only[List.cons.injEq,and_true] at e0
   subst e0 e1
   exact⟨⟨k,xs⟩,rfl,⟨aa,nn,cc,rfl,hsl⟩,hR⟩
theorem I9 (N:Nat):Jk enc w base held N 28 14 jK yc:=fun fuel cs x h hN=>by
 obtain⟨ys,n,_,rfl,hl,hlen,hf⟩:=DataW.trod_struct Tryz.underlying28 h
 rw[Tryz.Lc] at hl
 match cs,hl with
 |
  [c0,c1,c2,c3,c4,c5,c6,c7,c8,c9,c10,c11,c12,c13],_ =>
  match ys,hlen with
  |
   [y0,y1,y2,y3,y4,y5,y6,y7,y8,y9,y10,y11,y12,y13],_ =>
   have f0:DataW.trod enc Tryz.prog w base (fun _=>true) held n 3 [c0]=some y0:=by
    have g:=hf 0 _ rfl
    change DataW.trod enc Tryz.prog w base (fun _=>true) held n 3 (([c0,c1,c2,c3,c4,c5,c6,c7,c8,c9,c10,c11,c12,c13].drop 0).take (Tryz.prog.cellsOf 3))=some y0 at g
    rw[Tryz.yY] at g
    exact g
   have f1:DataW.trod enc Tryz.prog w base (fun _=>true) held n 9 [c1]=some y1:=by
    have g:=hf 1 _ rfl
    change DataW.trod enc Tryz.prog w base (fun _=>true) held n 9 (([c0,c1,c2,c3,c4,c5,c6,c7,c8,c9,c10,c11,c12,c13].drop 1).take (Tryz.prog.cellsOf 9))=some y1 at g
    rw[Tryz.cStr] at g
    exact g
   have f2:DataW.trod enc Tryz.prog w base (fun _=>true) held n 22 [c2]=some y2:=by
    have g:=hf 2 _ rfl
    change DataW.trod enc Tryz.prog w base (fun _=>true) held n 22 (([c0,c1,c2,c3,c4,c5,c6,c7,c8,c9,c10,c11,c12,c13].drop 2).take (Tryz.prog.cellsOf 22))=some y2 at g
    rw[Tryz.Fj] at g
    exact g
   have f3:DataW.trod enc Tryz.prog w base (fun _=>true) held n 9 [c3]=some y3:=by
    have g:=hf 3 _ rfl
    change DataW.trod enc Tryz.prog w base (fun _=>true) held n 9 (([c0,c1,c2,c3,c4,c5,c6,c7,c8,c9,c10,c11,c12,c13].drop 3).take (Tryz.prog.cellsOf 9))=some y3 at g
    rw[Tryz.cStr] at g
    exact g
   have f4:DataW.trod enc Tryz.prog w base (fun _=>true) held n 23 [c4]=some y4:=by
    have g:=hf 4 _ rfl
    change DataW.trod enc Tryz.prog w base (fun _=>true) held n 23 (([c0,c1,c2,c3,c4,c5,c6,c7,c8,c9,c10,c11,c12,c13].drop 4).take (Tryz.prog.cellsOf 23))=some y4 at g
    rw[Tryz.JZ] at g
    exact g
   have f5:DataW.trod enc Tryz.prog w base (fun _=>true) held n 24 [c5]=some y5:=by
    have g:=hf 5 _ rfl
    change DataW.trod enc Tryz.prog w base (fun _=>true) held n 24 (([c0,c1,c2,c3,c4,c5,c6,c7,c8,c9,c10,c11,c12,c13].drop 5).take (Tryz.prog.cellsOf 24))=some y5 at g
    rw[Tryz.Ki] at g
    exact g
   have f6:DataW.trod enc Tryz.prog w base (fun _=>true) held n 25 [c6]=some y6:=by
    have g:=hf 6 _ rfl
    change DataW.trod enc Tryz.prog w base (fun _=>true) held n 25 (([c0,c1,c2,c3,c4,c5,c6,c7,c8,c9,c10,c11,c12,c13].drop 6).take (Tryz.prog.cellsOf 25))=some y6 at g
    rw[Tryz.JH] at g
    exact g
   have f7:DataW.trod enc Tryz.prog w base (fun _=>true) held n 9 [c7]=some y7:=by
    have g:=hf 7 _ rfl
    change DataW.trod enc Tryz.prog w base (fun _=>true) held n 9 (([c0,c1,c2,c3,c4,c5,c6,c7,c8,c9,c10,c11,c12,c13].drop 7).take (Tryz.prog.cellsOf 9))=some y7 at g
    rw[Tryz.cStr] at g
    exact g
   have f8:DataW.trod enc Tryz.prog w base (fun _=>true) held n 26 [c8]=some y8:=by
    have g:=hf 8 _ rfl
    change DataW.trod enc Tryz.prog w base (fun _=>true) held n 26 (([c0,c1,c2,c3,c4,c5,c6,c7,c8,c9,c10,c11,c12,c13].drop 8).take (Tryz.prog.cellsOf 26))=some y8 at g
    rw[Tryz.rR] at g
    exact g
   have f9:DataW.trod enc Tryz.prog w base (fun _=>true) held n 26 [c9]=some y9:=by
    have g:=hf 9 _ rfl
    change DataW.trod enc Tryz.prog w base (fun _=>true) held n 26 (([c0,c1,c2,c3,c4,c5,c6,c7,c8,c9,c10,c11,c12,c13].drop 9).take (Tryz.prog.cellsOf 26))=some y9 at g
    rw[Tryz.rR] at g
    exact g
   have f10:DataW.trod enc Tryz.prog w base (fun _=>true) held n 26 [c10]=some y10:=by
    have g:=hf 10 _ rfl
    change DataW.trod enc Tryz.prog w base (fun _=>true) held n 26 (([c0,c1,c2,c3,c4,c5,c6,c7,c8,c9,c10,c11,c12,c13].drop 10).take (Tryz.prog.cellsOf 26))=some y10 at g
    rw[Tryz.rR] at g
    exact g
   have f11:DataW.trod enc Tryz.prog w base (fun _=>true) held n 26 [c11]=some y11:=by
    have g:=hf 11 _ rfl
    change DataW.trod enc Tryz.prog w base (fun _=>true) held n 26 (([c0,c1,c2,c3,c4,c5,c6,c7,c8,c9,c10,c11,c12,c13].drop 11).take (Tryz.prog.cellsOf 26))=some y11 at g
    rw[Tryz.rR] at g
    exact g
   have f12:DataW.trod enc Tryz.prog w base (fun _=>true) held n 4 [c12]=some y12:=by
    have g:=hf 12 _ rfl
    change DataW.trod enc Tryz.prog w base (fun _=>true) held n 4 (([c0,c1,c2,c3,c4,c5,c6,c7,c8,c9,c10,c11,c12,c13].drop 12).take (Tryz.prog.cellsOf 4))=some y12 at g
    rw[Tryz.F5] at g
    exact g
   have f13:DataW.trod enc Tryz.prog w base (fun _=>true) held n 3 [c13]=some y13:=by
    have g:=hf 13 _ rfl
    change DataW.trod enc Tryz.prog w base (fun _=>true) held n 3 (([c0,c1,c2,c3,c4,c5,c6,c7,c8,c9,c10,c11,c12,c13].drop 13).take (Tryz.prog.cellsOf 3))=some y13 at g
    rw[Tryz.yY] at g
    exact g
   obtain⟨k,e0,d0,w0⟩:=DataW.trod_int Tryz.underlying3 f0
   obtain⟨s1,e1,d1,w1⟩:=DataW.trod_string Tryz.underlying9 f1
   obtain⟨a2,n2,k2,xs2,e2,h2,r2⟩:=pK (α:=Co) (N:=SizeOf.sizeOf y2.1) Tryz.underlying22 Tryz.Jv (by decide) (Iw _) n _ _ f2 (Nat.le_refl _)
   obtain⟨s3,e3,d3,w3⟩:=DataW.trod_string Tryz.underlying9 f3
   obtain⟨a4,n4,k4,xs4,e4,h4,r4⟩:=pK (α:=List Vl) (N:=SizeOf.sizeOf y4.1) Tryz.underlying23 Tryz.KP (by decide) (Iy _) n _ _ f4 (Nat.le_refl _)
   obtain⟨a5,n5,k5,xs5,e5,h5,r5⟩:=pK (α:=Se) (N:=SizeOf.sizeOf y5.1) Tryz.underlying24 Tryz.Jl (by decide) (I4 _) n _ _ f5 (Nat.le_refl _)
   obtain⟨a6,n6,k6,xs6,e6,h6,r6⟩:=pK (α:=It) (N:=SizeOf.sizeOf y6.1) Tryz.underlying25 Tryz.Jt (by decide) (Gl _) n _ _ f6 (Nat.le_refl _)
   obtain⟨s7,e7,d7,w7⟩:=DataW.trod_string Tryz.underlying9 f7
   obtain⟨a8,n8,k8,xs8,e8,h8,r8⟩:=om f8
   obtain⟨a9,n9,k9,xs9,e9,h9,r9⟩:=om f9
   obtain⟨a10,n10,k10,xs10,e10,h10,r10⟩:=om f10
   obtain⟨a11,n11,k11,xs11,e11,h11,r11⟩:=om f11
   obtain⟨b12,e12,d12⟩:=DataW.trod_bool Tryz.underlying4 f12
   obtain⟨l13,e13,d13,w13⟩:=DataW.trod_int Tryz.underlying3 f13
   simp only[List.cons.injEq,and_true] at e0 e1 e3 e7 e12 e13
   subst e0 e1 e2 e3 e4 e5 e6 e7 e8 e9 e10 e11 e12 e13
   refine ⟨⟨k,s1.data.toList,xs2,s3.data.toList,xs4,xs5,xs6,s7.data.toList,xs8,xs9,xs10,xs11,b12,l13⟩,rfl,⟨a2,a4,a5,a6,a8,a9,a10,a11,n2,n4,n5,n6,n8,n9,n10,n11,k2,k4,k5,k6,k8,k9,k10,k11,?_,h2,h4,h5,h6,h8,h9,h10,h11⟩,⟨mJ s1 w1,mJ s3 w3,mJ s7 w7,(BD w13).2,r2,r4,r5,r6,r8,r9,r10,r11⟩⟩
   dsimp only
   rw[jU,jU,jU]
end
section
variable {H : Type} {enc : TypeId × Value → H} {w : World} {base : Nat} {held : Bool}
theorem Fv {b0:Nat} {v:Value} {d:DataW H} {ps:List MemPlace} (ho:Value.okWide Tryz.prog w .any b0 28 v) (hd:DataW.Trod enc Tryz.prog w base (fun _=>true) held 28 v d ps) :
  ∃x:St,(∃cs:List Value,v = .agg cs.toArray∧jK (fun b=>b<w.heap.size) w x cs)∧yc x:=by
 obtain⟨cs,rfl,hn⟩:=okWide_struct Tryz.underlying28 ho
 obtain⟨fuel,hf⟩:=hd
 obtain⟨x,_,hx,hR⟩:=I9 _ fuel _ _ hf (Nat.lt_succ_self _)
 exact⟨x,⟨cs.toList,by simp,hx⟩,hR⟩
theorem Dn {b0:Nat} {v:Value} {d:DataW H} {ps:List MemPlace} (ho:Value.okWide Tryz.prog w .any b0 28 v) (hd:DataW.Trod enc Tryz.prog w base (fun _=>true) held 28 v d ps) (hsz : ∀n∈d.weights Tryz.prog 28,n≤reachBytes) {x:St} {cs:List Value} (hv:v = .agg cs.toArray) {S:Nat→Prop} (hx:jK S w x cs) :
  x.cols.length*32≤140737488351232:=by
 subst hv
 obtain⟨fuel,hf0⟩:=hd
 have hf1:DataW.trod enc Tryz.prog w base (fun _=>true) held fuel 28 cs=some (d,ps):=hf0
 obtain⟨a1,a2,a3,a4,a5,a6,a7,a8,n1,n2,n3,n4,n5,n6,n7,n8,c1,c2,c3,c4,c5,c6,c7,c8,rfl,hsl,_⟩:=hx
 have hn:n1=x.cols.length:=by obtain⟨_,_,hf⟩:=hsl.form;simp only[Value.slice.injEq] at hf;exact hf.2.1
 obtain⟨ys,n,_,hxx,hl,hlen,hf⟩:=DataW.trod_struct Tryz.underlying28 hf1
 simp only[Prod.mk.injEq] at hxx
 obtain⟨rfl,_⟩:=hxx
 match ys,hlen with
 |
  [y0,y1,y2,y3,y4,y5,y6,y7,y8,y9,y10,y11,y12,y13],_ =>
  have f2:DataW.trod enc Tryz.prog w base (fun _=>true) held n 22 [.slice a1 n1 c1]=some y2:=by
   have g:=hf 2 _ rfl
   change DataW.trod enc Tryz.prog w base (fun _=>true) held n 22 (List.take (Tryz.prog.cellsOf 22) (.slice a1 n1 c1::_))=some y2 at g
   rw[Tryz.Fj] at g
   exact g
  rcases Deep.open_slice Tryz.underlying22 f2 with⟨hcs,_⟩ | ⟨y,len,cap,m,k,D,Pl,hcs,_,hlm,hm,hmm,hx2,hr⟩
  ·simp only[List.cons.injEq,Value.slice.injEq,and_true] at hcs
   omega
  ·simp only[List.cons.injEq,Value.slice.injEq,and_true] at hcs
   have hw:=hsz ((len+(m-len))*32) (by
    simp only[DataW.weights,Tryz.underlying28,List.map_cons,List.map_nil]
    refine DataW.weights_mem_each (j:=2) (t:=22) (d:=y2.1) rfl rfl _ ?_
    rw[hx2]
    simp only[DataW.weights,Tryz.underlying22,show Tryz.prog.bytesOf 37=32 by kernel_rfl]
    simp)
   have:reachBytes=140737488351232:=rfl
   omega
end
end Go.Proofs.YtaaggohjmhifbaaGreatDoor
