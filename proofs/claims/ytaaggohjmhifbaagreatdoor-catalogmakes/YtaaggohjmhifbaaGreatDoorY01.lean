/- Packed for the hand-in: Base VTell VRight -/
import Derived.WalkKit
import Derived.WalkLawsBesides
import Derived.WalkSpells
import Derived.Handy
import Derived.Laws.AppendOwnNone
import Derived.Laws.BytesArg
import Derived.Test.YtaaggohjmhifbaaGreatDoorChecked
import Derived.Laws.StructEq
import Derived.Deep.RegionHeld3
namespace Go.Proofs.YtaaggohjmhifbaaGreatDoor
open Go.RowKit
set_option linter.unusedVariables false
set_option maxRecDepth 20000
set_option maxHeartbeats 8000000
theorem hid {p:Prop} (h:p):Hid p:=h
def Shows (B:Nat) (w:World) (v:Value) (bs:List UInt8):Prop :=
 ∃
  a c,v = .slice a bs.length c∧bs.length≤c∧c≤maxLen∧(a=none→c=0) ∧
  (bs≠[]→∃b off,a=some ⟨b,off,none⟩∧b<B∧∀j,j<bs.length→w.cell? ⟨b,off+j,none⟩=some (.int .u8 ((bs[j]?.getD 0).toNat:Int)))
theorem Shows.below {B:Nat} {w w':World} {v:Value} {bs:List UInt8} (h:Shows B w v bs) (hb:Below B w w'):Shows B w' v bs:=by
 obtain⟨a,c,hv,h1,h2,hn,h3⟩:=h
 refine ⟨a,c,hv,h1,h2,hn,fun hne=>?_⟩
 obtain⟨b,off,ha,hlt,hc⟩:=h3 hne
 exact⟨b,off,ha,hlt,fun j hj=>by rw[hb.cell (p:=⟨b,off+j,none⟩) hlt];exact hc j hj⟩
theorem Shows.mono {B B':Nat} {w:World} {v:Value} {bs:List UInt8} (h:Shows B w v bs) (hB:B≤B'):Shows B' w v bs:=by
 obtain⟨a,c,hv,h1,h2,hn,h3⟩:=h
 refine ⟨a,c,hv,h1,h2,hn,fun hne=>?_⟩
 obtain⟨b,off,ha,hlt,hc⟩:=h3 hne
 exact⟨b,off,ha,by omega,hc⟩
theorem Shows.alloc {B:Nat} {w:World} {v:Value} {bs:List UInt8} (h:Shows B w v bs) (hB:B≤w.heap.size) (o:Obj):Shows B (w.alloc o) v bs :=
 h.below ((Below.refl B w).alloc hB o)
theorem Shows.take {B:Nat} {w:World} {b off l c:Nat} {bs:List UInt8} (h:Shows B w (.slice (some ⟨b,off,none⟩) l c) bs) (n:Nat) (hn:n≤bs.length) :
  Shows B w (.slice (some ⟨b,off,none⟩) n c) (bs.take n):=by
 obtain⟨a,c',hv,h1,h2,_,h3⟩:=h
 simp only[Value.slice.injEq] at hv
 obtain⟨rfl,hl,rfl⟩:=hv
 have hlen:(bs.take n).length=n:=by simp;omega
 refine ⟨_,c,by rw[hlen],by rw[hlen];omega,h2,(fun e=>by cases e),fun hne=>?_⟩
 obtain⟨b',off',ha,hb,hc⟩:=h3 (by intro e;rw[e] at hne;simp at hne)
 refine ⟨b',off',ha,hb,fun j hj=>?_⟩
 rw[hc j (by rw[hlen] at hj;omega),List.getElem?_take,if_pos (by rw[hlen] at hj;exact hj)]
theorem Shows.drop {B:Nat} {w:World} {b off l c:Nat} {bs:List UInt8} (h:Shows B w (.slice (some ⟨b,off,none⟩) l c) bs) (n:Nat) (hn:n<bs.length) :
  Shows B w (.slice (some ⟨b,off+n,none⟩) (bs.length-n) (c-n)) (bs.drop n):=by
 obtain⟨a,c',hv,h1,h2,_,h3⟩:=h
 simp only[Value.slice.injEq] at hv
 obtain⟨rfl,hl,rfl⟩:=hv
 have hlen:(bs.drop n).length=bs.length-n:=by simp
 refine ⟨_,c-n,by rw[hlen],by rw[hlen];omega,by omega,(fun e=>by cases e),fun hne=>?_⟩
 obtain⟨b',off',ha,hb,hc⟩:=h3 (by intro e;rw[e] at hn;simp at hn)
 simp only[Option.some.injEq,Addr.mk.injEq] at ha
 obtain⟨rfl,rfl,_⟩:=ha
 refine ⟨b,off+n,rfl,hb,fun j hj=>?_⟩
 rw[Nat.add_assoc,hc (n+j) (by rw[hlen] at hj;omega),List.getElem?_drop]
theorem Shows.empty (B:Nat) (w:World) (ad:Addr) (c:Nat) (hc:c≤maxLen):Shows B w (.slice (some ad) 0 c) [] :=
 ⟨some ad,c,rfl,Nat.zero_le _,hc,(fun e=>by cases e),fun h=>absurd rfl h⟩
def ah (bs:List UInt8):ByteArray:=⟨bs.toArray⟩
end Go.Proofs.YtaaggohjmhifbaaGreatDoor
namespace Go.Proofs.YtaaggohjmhifbaaGreatDoor
open Go.RowKit
set_option linter.unusedVariables false
set_option maxRecDepth 20000
end Go.Proofs.YtaaggohjmhifbaaGreatDoor
namespace Go.Proofs.YtaaggohjmhifbaaGreatDoor
open Go.RowKit
set_option linter.unusedVariables false
set_option maxRecDepth 20000
end Go.Proofs.YtaaggohjmhifbaaGreatDoor
namespace Go.Proofs.YtaaggohjmhifbaaGreatDoor
open Go.RowKit
set_option linter.unusedVariables false
set_option maxRecDepth 20000
end Go.Proofs.YtaaggohjmhifbaaGreatDoor
namespace Go.Proofs.YtaaggohjmhifbaaGreatDoor
open Go.RowKit
set_option linter.unusedVariables false
set_option maxRecDepth 20000
def Lists (B:Nat) (w:World) (v:Value) (rows:List (List UInt8)):Prop :=
 ∃
  (a:Option Addr) (c:Nat) (vs:List Value),v = .slice a rows.length c∧rows.length≤c∧c≤maxLen∧vs.length=rows.length ∧
  (rows≠[]→∃b off,a=some ⟨b,off,none⟩∧b<B∧∀(j:Nat) (u:Value),vs[j]?=some u→w.cell? ⟨b,off+j,none⟩=some u) ∧
  ∀(j:Nat) (u:Value) (r:List UInt8),vs[j]?=some u→rows[j]?=some r→Shows B w u r
theorem Lists.below {B:Nat} {w w':World} {v:Value} {rows:List (List UInt8)} (h:Lists B w v rows) (hb:Below B w w'):Lists B w' v rows:=by
 obtain⟨a,c,vs,hv,h1,h2,h3,h4,h5⟩:=h
 refine ⟨a,c,vs,hv,h1,h2,h3,fun hne=>?_,fun j u r hu hr=>(h5 j u r hu hr).below hb⟩
 obtain⟨b,off,ha,hlt,hc⟩:=h4 hne
 exact⟨b,off,ha,hlt,fun j u hu=>by rw[hb.cell (p:=⟨b,off+j,none⟩) hlt];exact hc j u hu⟩
theorem Lists.at {B:Nat} {w:World} {a:Option Addr} {l c:Nat} {rows:List (List UInt8)} (h:Lists B w (.slice a l c) rows) (k:Nat) (hk:k<rows.length) :
  ∃b off ak ck,a=some ⟨b,off,none⟩∧w.cell? ⟨b,off+k,none⟩=some (.slice ak (rows[k]?.getD []).length ck)∧Shows B w (.slice ak (rows[k]?.getD []).length ck) (rows[k]?.getD []):=by
 obtain⟨a',c',vs,hv,h1,h2,h3,h4,h5⟩:=h
 simp only[Value.slice.injEq] at hv
 obtain⟨rfl,_,_⟩:=hv
 obtain⟨b,off,ha,hlt,hc⟩:=h4 (by intro e;rw[e] at hk;simp at hk)
 have hv:=hc k (vs[k]'(by omega)) (List.getElem?_eq_getElem _)
 have hs:=h5 k (vs[k]'(by omega)) rows[k] (List.getElem?_eq_getElem _) (List.getElem?_eq_getElem _)
 have hs2:=hs
 obtain⟨ak,ck,e,_⟩:=hs
 rw[e] at hv hs2
 refine ⟨b,off,ak,ck,ha,?_,?_⟩
 ·simpa [List.getElem?_eq_getElem hk] using hv
 ·simpa [List.getElem?_eq_getElem hk] using hs2
end Go.Proofs.YtaaggohjmhifbaaGreatDoor
namespace Go.Proofs.YtaaggohjmhifbaaGreatDoor
open Go.RowKit
set_option linter.unusedVariables false
set_option maxRecDepth 20000
end Go.Proofs.YtaaggohjmhifbaaGreatDoor
namespace Go.Proofs.YtaaggohjmhifbaaGreatDoor
open Go.RowKit
set_option linter.unusedSimpArgs false
set_option linter.unusedVariables false
set_option maxRecDepth 20000
set_option maxHeartbeats 8000000
theorem dx (a:List UInt8):(ah a).toList=a:=by
 rw[ByteArray.toList_eq];rfl
theorem cu (bs:List UInt8):(ah bs).size=bs.length:=rfl
theorem jU (s:ByteArray):ah s.data.toList=s:=by
 cases s;simp[ah]
theorem FP {a b:List UInt8} (h:ah a=ah b):a=b:=by
 have:=congrArg (fun x=>x.data.toList) h
 simpa [ah] using this
structure Vl where
 k:Int
 n:Int
 s:List UInt8
def vc (x:Vl):List Value:=[.int .i64 x.k,.int .i64 x.n,.string (ah x.s)]
theorem Tryz.D7:Tryz.prog.underlying 128=some (.struct (Tryz.prog.fieldsOf 128)):=by kernel_rfl
theorem Tryz.FU:Tryz.prog.stoodInHeld 128=false:=by kernel_rfl
theorem Ic (e:Nat) (A B:Array Value) (a1 a2 a3 b1 b2 b3:Value) (p q r:Bool) (w:World)
  (h1:(Go.part 3 A 0).run Tryz.prog w = .ok a1 w) (h2:(Go.part 3 A 1).run Tryz.prog w = .ok a2 w) (h3:(Go.part 9 A 2).run Tryz.prog w = .ok a3 w)
  (g1:(Go.part 3 B 0).run Tryz.prog w = .ok b1 w) (g2:(Go.part 3 B 1).run Tryz.prog w = .ok b2 w) (g3:(Go.part 9 B 2).run Tryz.prog w = .ok b3 w)
  (e1:(Op.equalIn e 3 a1 b1).run Tryz.prog w = .ok p w) (e2:(Op.equalIn e 3 a2 b2).run Tryz.prog w = .ok q w) (e3:(Op.equalIn e 9 a3 b3).run Tryz.prog w = .ok r w) :
  (Op.eqFields e A B (Tryz.prog.fieldsOf 128).toList).run Tryz.prog w = .ok (p&&(q&&r)) w:=by
 simp only[Program.fieldsOf,Tryz.underlying128]
 cases p<;>cases q<;>cases r<;>simp[Op.eqFields,h1,h2,h3,g1,g2,g3,e1,e2,e3]
theorem Ez (d:Nat) (k k' n n':Int) (s s':ByteArray) (w:World):(Op.equalIn (d+1+1) 128 (.agg #[.int .i64 k,.int .i64 n,.string s]) (.agg #[.int .i64 k',.int .i64 n',.string s'])).run Tryz.prog w = .ok (k==k'&&(n==n'&&s.toList==s'.toList)) w:=by
 rw[run_equalIn_struct (P:=Tryz.prog) w (d+1) 128 _ _ Tryz.D7 Tryz.FU]
 exact Ic _ _ _ (.int .i64 k) (.int .i64 n) (.string s) (.int .i64 k') (.int .i64 n') (.string s') _ _ _ w (by simp[Go.part,go_sem]) (by simp[Go.part,go_sem]) (by simp[Go.part,go_sem]) (by simp[Go.part,go_sem]) (by simp[Go.part,go_sem]) (by simp[Go.part,go_sem])
  (run_equalIn_int (P:=Tryz.prog) w d 3 .i64 .i64 k k' Tryz.underlying3) (run_equalIn_int (P:=Tryz.prog) w d 3 .i64 .i64 n n' Tryz.underlying3) (run_equalIn_string (P:=Tryz.prog) w d 9 s s' Tryz.underlying9)
def eqv (x y:Vl):Bool:=decide (x.k=y.k∧x.n=y.n∧x.s=y.s)
theorem lC {x y:Vl}:eqv x y=true↔x=y:=by
 obtain⟨k,n,s⟩:=x
 obtain⟨k',n',s'⟩:=y
 simp[eqv]
theorem Eu (x y:Vl):(x.k==y.k&&(x.n==y.n&&(ah x.s).toList==(ah y.s).toList))=eqv x y:=by
 obtain⟨k,n,s⟩:=x
 obtain⟨k',n',s'⟩:=y
 simp only[dx,eqv]
 by_cases hk:k=k'<;>by_cases hn:n=n'<;>by_cases hs:s=s'<;>simp[hk,hn,hs]
theorem Hg (x y:Vl) (w:World):(binOp .neq 128 (.agg #[.int .i64 x.k,.int .i64 x.n,.string (ah x.s)]) (.agg #[.int .i64 y.k,.int .i64 y.n,.string (ah y.s)])).run Tryz.prog w = .ok (.bool (!eqv x y)) w:=by
 rw[run_neq_struct,show (10000:Nat)=9998+1+1 from rfl,Ez,Eu]
 rfl
def kL (x:Vl):Vl:=if x.k=1 then ⟨1,x.n,[]⟩ else if x.k=2 then ⟨2,0,x.s⟩ else ⟨0,0,[]⟩
def fV (x:Vl):Nat:=if eqv x (kL x)=false then 4 else if 40<x.s.length then 2 else 0
theorem aN (w:World) (g:Nat) (cs:Array Value) (t:TypeId) (fr:Nat × Nat) (i:Nat) (h:w.heap[g]?=some (.cells cs t fr)):w.cell? ⟨g,i,none⟩=cs[i]?:=by
 simp[World.cell?,h]
theorem Le (w:World) (a b c:Value) (t:TypeId):∃W,w.alloc (.cells #[a,b,c] t)=W∧Below w.heap.size w W∧w.heap.size<W.heap.size ∧
  ∀W',Below W.heap.size W W'→W'.cell? ⟨w.heap.size,0,none⟩=some a∧W'.cell? ⟨w.heap.size,1,none⟩=some b∧W'.cell? ⟨w.heap.size,2,none⟩=some c:=by
 refine ⟨_,rfl,(Below.refl _ _).alloc (Nat.le_refl _) _,by simp,fun W' h=>?_⟩
 have hn:W'.heap[w.heap.size]?=some (.cells #[a,b,c] t):=(h.block _ (by simp)).trans (heap_alloc_new w _)
 exact⟨by rw[aN _ _ _ _ _ _ hn];rfl,by rw[aN _ _ _ _ _ _ hn];rfl,by rw[aN _ _ _ _ _ _ hn];rfl⟩
theorem Tryz.Ap:Tryz.prog.eqGuardType Tryz.prog.depth 128=false:=by kernel_rfl
end Go.Proofs.YtaaggohjmhifbaaGreatDoor
