/- Packed for the hand-in: Base VTell VRight LaysV VDbl VLit LPure -/
import Derived.WalkKit
import Derived.WalkLawsBesides
import Derived.WalkSpells
import Derived.Handy
import Derived.Laws.AppendOwnNone
import Derived.Laws.BytesArg
import Derived.Test.YtfeglkleoijlaaaGreatDoorChecked
import Derived.Laws.StructEq
import Derived.Deep.RegionHeld3
import Derived.Shelf.Strings.Replace
import Derived.Shelf.Strconv.Itoa3
import Derived.Shelf.Small.Strs
import Derived.Shelf.Strings.Prefix
import Derived.Shelf.Strings.Cut
import Derived.Shelf.Strings.Fields
import Derived.Shelf.Strings.Builder1
import Derived.Shelf.Strings.OnBuilder
import Derived.Shelf.Strconv.AtoiAll
import Derived.Lib.ReplaceLaws
import Derived.Lib.IndexBytes
import Derived.Lib.AtoiAll
import Derived.Lib.ItoaNum
import Derived.Lib.Fields
namespace Go.Proofs.YtfeglkleoijlaaaGreatDoor
open Go.RowKit
set_option linter.unusedVariables false
set_option maxRecDepth 20000
set_option maxHeartbeats 8000000
theorem hid {p:Prop} (h:p):Hid p:=h
def Shows (B:Nat) (w:World) (v:Value) (bs:List UInt8):Prop :=
 ∃
  a c,v = .slice a bs.length c∧bs.length≤c∧c≤maxLen∧(a=none→c=0) ∧
  (bs≠[]→∃b off,a=some ⟨b,off,none⟩∧b<B∧∀j,j<bs.length→w.cell? ⟨b,off+j,none⟩=some (.int .u8 ((bs[j]?.getD 0).toNat:Int)))
theorem Shows.below {B:Nat} {w w':World} {v:Value} {bs:List UInt8} (h:Shows B w v bs) (hb:Below B w w'):Shows B w' v bs:=by
 obtain⟨a,c,hv,h1,h2,hn,h3⟩:=h
 refine ⟨a,c,hv,h1,h2,hn,fun hne=>?_⟩
 obtain⟨b,off,ha,hlt,hc⟩:=h3 hne
 exact⟨b,off,ha,hlt,fun j hj=>by rw[hb.cell (p:=⟨b,off+j,none⟩) hlt];exact hc j hj⟩
theorem Shows.mono {B B':Nat} {w:World} {v:Value} {bs:List UInt8} (h:Shows B w v bs) (hB:B≤B'):Shows B' w v bs:=by
 obtain⟨a,c,hv,h1,h2,hn,h3⟩:=h
 refine ⟨a,c,hv,h1,h2,hn,fun hne=>?_⟩
 obtain⟨b,off,ha,hlt,hc⟩:=h3 hne
 exact⟨b,off,ha,by omega,hc⟩
theorem Shows.alloc {B:Nat} {w:World} {v:Value} {bs:List UInt8} (h:Shows B w v bs) (hB:B≤w.heap.size) (o:Obj):Shows B (w.alloc o) v bs :=
 h.below ((Below.refl B w).alloc hB o)
theorem Shows.take {B:Nat} {w:World} {b off l c:Nat} {bs:List UInt8} (h:Shows B w (.slice (some ⟨b,off,none⟩) l c) bs) (n:Nat) (hn:n≤bs.length) :
  Shows B w (.slice (some ⟨b,off,none⟩) n c) (bs.take n):=by
 obtain⟨a,c',hv,h1,h2,_,h3⟩:=h
 simp only[Value.slice.injEq] at hv
 obtain⟨rfl,hl,rfl⟩:=hv
 have hlen:(bs.take n).length=n:=by simp;omega
 refine ⟨_,c,by rw[hlen],by rw[hlen];omega,h2,(fun e=>by cases e),fun hne=>?_⟩
 obtain⟨b',off',ha,hb,hc⟩:=h3 (by intro e;rw[e] at hne;simp at hne)
 refine ⟨b',off',ha,hb,fun j hj=>?_⟩
 rw[hc j (by rw[hlen] at hj;omega),List.getElem?_take,if_pos (by rw[hlen] at hj;exact hj)]
theorem Shows.drop {B:Nat} {w:World} {b off l c:Nat} {bs:List UInt8} (h:Shows B w (.slice (some ⟨b,off,none⟩) l c) bs) (n:Nat) (hn:n<bs.length) :
  Shows B w (.slice (some ⟨b,off+n,none⟩) (bs.length-n) (c-n)) (bs.drop n):=by
 obtain⟨a,c',hv,h1,h2,_,h3⟩:=h
 simp only[Value.slice.injEq] at hv
 obtain⟨rfl,hl,rfl⟩:=hv
 have hlen:(bs.drop n).length=bs.length-n:=by simp
 refine ⟨_,c-n,by rw[hlen],by rw[hlen];omega,by omega,(fun e=>by cases e),fun hne=>?_⟩
 obtain⟨b',off',ha,hb,hc⟩:=h3 (by intro e;rw[e] at hn;simp at hn)
 simp only[Option.some.injEq,Addr.mk.injEq] at ha
 obtain⟨rfl,rfl,_⟩:=ha
 refine ⟨b,off+n,rfl,hb,fun j hj=>?_⟩
 rw[Nat.add_assoc,hc (n+j) (by rw[hlen] at hj;omega),List.getElem?_drop]
theorem Shows.empty (B:Nat) (w:World) (ad:Addr) (c:Nat) (hc:c≤maxLen):Shows B w (.slice (some ad) 0 c) [] :=
 ⟨some ad,c,rfl,Nat.zero_le _,hc,(fun e=>by cases e),fun h=>absurd rfl h⟩
def aj (bs:List UInt8):ByteArray:=⟨bs.toArray⟩
end Go.Proofs.YtfeglkleoijlaaaGreatDoor
namespace Go.Proofs.YtfeglkleoijlaaaGreatDoor
open Go.RowKit
set_option linter.unusedVariables false
set_option maxRecDepth 20000
end Go.Proofs.YtfeglkleoijlaaaGreatDoor
namespace Go.Proofs.YtfeglkleoijlaaaGreatDoor
open Go.RowKit
set_option linter.unusedVariables false
set_option maxRecDepth 20000
end Go.Proofs.YtfeglkleoijlaaaGreatDoor
namespace Go.Proofs.YtfeglkleoijlaaaGreatDoor
open Go.RowKit
set_option linter.unusedVariables false
set_option maxRecDepth 20000
end Go.Proofs.YtfeglkleoijlaaaGreatDoor
namespace Go.Proofs.YtfeglkleoijlaaaGreatDoor
open Go.RowKit
set_option linter.unusedVariables false
set_option maxRecDepth 20000
def Lists (B:Nat) (w:World) (v:Value) (rows:List (List UInt8)):Prop :=
 ∃
  (a:Option Addr) (c:Nat) (vs:List Value),v = .slice a rows.length c∧rows.length≤c∧c≤maxLen∧vs.length=rows.length ∧
  (rows≠[]→∃b off,a=some ⟨b,off,none⟩∧b<B∧∀(j:Nat) (u:Value),vs[j]?=some u→w.cell? ⟨b,off+j,none⟩=some u) ∧
  ∀(j:Nat) (u:Value) (r:List UInt8),vs[j]?=some u→rows[j]?=some r→Shows B w u r
theorem Lists.below {B:Nat} {w w':World} {v:Value} {rows:List (List UInt8)} (h:Lists B w v rows) (hb:Below B w w'):Lists B w' v rows:=by
 obtain⟨a,c,vs,hv,h1,h2,h3,h4,h5⟩:=h
 refine ⟨a,c,vs,hv,h1,h2,h3,fun hne=>?_,fun j u r hu hr=>(h5 j u r hu hr).below hb⟩
 obtain⟨b,off,ha,hlt,hc⟩:=h4 hne
 exact⟨b,off,ha,hlt,fun j u hu=>by rw[hb.cell (p:=⟨b,off+j,none⟩) hlt];exact hc j u hu⟩
theorem Lists.at {B:Nat} {w:World} {a:Option Addr} {l c:Nat} {rows:List (List UInt8)} (h:Lists B w (.slice a l c) rows) (k:Nat) (hk:k<rows.length) :
  ∃b off ak ck,a=some ⟨b,off,none⟩∧w.cell? ⟨b,off+k,none⟩=some (.slice ak (rows[k]?.getD []).length ck)∧Shows B w (.slice ak (rows[k]?.getD []).length ck) (rows[k]?.getD []):=by
 obtain⟨a',c',vs,hv,h1,h2,h3,h4,h5⟩:=h
 simp only[Value.slice.injEq] at hv
 obtain⟨rfl,_,_⟩:=hv
 obtain⟨b,off,ha,hlt,hc⟩:=h4 (by intro e;rw[e] at hk;simp at hk)
 have hv:=hc k (vs[k]'(by omega)) (List.getElem?_eq_getElem _)
 have hs:=h5 k (vs[k]'(by omega)) rows[k] (List.getElem?_eq_getElem _) (List.getElem?_eq_getElem _)
 have hs2:=hs
 obtain⟨ak,ck,e,_⟩:=hs
 rw[e] at hv hs2
 refine ⟨b,off,ak,ck,ha,?_,?_⟩
 ·simpa [List.getElem?_eq_getElem hk] using hv
 ·simpa [List.getElem?_eq_getElem hk] using hs2
end Go.Proofs.YtfeglkleoijlaaaGreatDoor
namespace Go.Proofs.YtfeglkleoijlaaaGreatDoor
open Go.RowKit
set_option linter.unusedVariables false
set_option maxRecDepth 20000
end Go.Proofs.YtfeglkleoijlaaaGreatDoor
namespace Go.Proofs.YtfeglkleoijlaaaGreatDoor
open Go.RowKit
set_option linter.unusedSimpArgs false
set_option linter.unusedVariables false
set_option maxRecDepth 20000
set_option maxHeartbeats 8000000
theorem Bf (a b:List UInt8):(a==b)=decide (a=b):=by
 by_cases h:a=b
 ·subst h;simp
 ·rw[decide_eq_false h];simpa using h
theorem bg (a:List UInt8):(aj a).toList=a:=by
 rw[ByteArray.toList_eq];rfl
theorem iV (a b:List UInt8):((aj a).toList==(aj b).toList)=decide (a=b):=by
 rw[bg,bg,Bf]
theorem dz (bs:List UInt8):(aj bs).size=bs.length:=rfl
theorem gq (s:ByteArray):aj s.data.toList=s:=by
 cases s;simp[aj]
structure Vl where
 k:Int
 n:Int
 s:List UInt8
def vc (x:Vl):List Value:=[.int .i64 x.k,.int .i64 x.n,.string (aj x.s)]
theorem Tryz.Av:Tryz.prog.underlying 46=some (.struct (Tryz.prog.fieldsOf 46)):=by kernel_rfl
theorem Tryz.DY:Tryz.prog.stoodInHeld 46=false:=by kernel_rfl
theorem FR (e:Nat) (A B:Array Value) (a1 a2 a3 b1 b2 b3:Value) (p q r:Bool) (w:World)
  (h1:(Go.part 3 A 0).run Tryz.prog w = .ok a1 w) (h2:(Go.part 3 A 1).run Tryz.prog w = .ok a2 w) (h3:(Go.part 9 A 2).run Tryz.prog w = .ok a3 w)
  (g1:(Go.part 3 B 0).run Tryz.prog w = .ok b1 w) (g2:(Go.part 3 B 1).run Tryz.prog w = .ok b2 w) (g3:(Go.part 9 B 2).run Tryz.prog w = .ok b3 w)
  (e1:(Op.equalIn e 3 a1 b1).run Tryz.prog w = .ok p w) (e2:(Op.equalIn e 3 a2 b2).run Tryz.prog w = .ok q w) (e3:(Op.equalIn e 9 a3 b3).run Tryz.prog w = .ok r w) :
  (Op.eqFields e A B (Tryz.prog.fieldsOf 46).toList).run Tryz.prog w = .ok (p&&(q&&r)) w:=by
 simp only[Program.fieldsOf,Tryz.underlying46]
 cases p<;>cases q<;>cases r<;>simp[Op.eqFields,h1,h2,h3,g1,g2,g3,e1,e2,e3]
theorem sK (d:Nat) (k k' n n':Int) (s s':ByteArray) (w:World):(Op.equalIn (d+1+1) 46 (.agg #[.int .i64 k,.int .i64 n,.string s]) (.agg #[.int .i64 k',.int .i64 n',.string s'])).run Tryz.prog w = .ok (k==k'&&(n==n'&&s.toList==s'.toList)) w:=by
 rw[run_equalIn_struct (P:=Tryz.prog) w (d+1) 46 _ _ Tryz.Av Tryz.DY]
 exact FR _ _ _ (.int .i64 k) (.int .i64 n) (.string s) (.int .i64 k') (.int .i64 n') (.string s') _ _ _ w (by simp[Go.part,go_sem]) (by simp[Go.part,go_sem]) (by simp[Go.part,go_sem]) (by simp[Go.part,go_sem]) (by simp[Go.part,go_sem]) (by simp[Go.part,go_sem])
  (run_equalIn_int (P:=Tryz.prog) w d 3 .i64 .i64 k k' Tryz.underlying3) (run_equalIn_int (P:=Tryz.prog) w d 3 .i64 .i64 n n' Tryz.underlying3) (run_equalIn_string (P:=Tryz.prog) w d 9 s s' Tryz.underlying9)
def eqv (x y:Vl):Bool:=decide (x.k=y.k∧x.n=y.n∧x.s=y.s)
theorem oG {x y:Vl}:eqv x y=true↔x=y:=by
 obtain⟨k,n,s⟩:=x
 obtain⟨k',n',s'⟩:=y
 simp[eqv]
theorem rJ (x y:Vl):(x.k==y.k&&(x.n==y.n&&(aj x.s).toList==(aj y.s).toList))=eqv x y:=by
 obtain⟨k,n,s⟩:=x
 obtain⟨k',n',s'⟩:=y
 simp only[bg,eqv]
 by_cases hk:k=k'<;>by_cases hn:n=n'<;>by_cases hs:s=s'<;>simp[hk,hn,hs]
theorem zU (x y:Vl) (w:World):(binOp .eql 46 (.agg #[.int .i64 x.k,.int .i64 x.n,.string (aj x.s)]) (.agg #[.int .i64 y.k,.int .i64 y.n,.string (aj y.s)])).run Tryz.prog w = .ok (.bool (eqv x y)) w:=by
 rw[run_eql_struct,show (10000:Nat)=9998+1+1 from rfl,sK,rJ]
 rfl
theorem Fj (x y:Vl) (w:World):(binOp .neq 46 (.agg #[.int .i64 x.k,.int .i64 x.n,.string (aj x.s)]) (.agg #[.int .i64 y.k,.int .i64 y.n,.string (aj y.s)])).run Tryz.prog w = .ok (.bool (!eqv x y)) w:=by
 rw[run_neq_struct,show (10000:Nat)=9998+1+1 from rfl,sK,rJ]
 rfl
def fU (x:Vl):Vl:=if x.k=1 then ⟨1,x.n,[]⟩ else if x.k=2 then ⟨2,0,x.s⟩ else ⟨0,0,[]⟩
def iw (x:Vl):Nat:=if eqv x (fU x)=false then 4 else if 40<x.s.length then 2 else 0
theorem Ao (k n:Int) (s:List UInt8) (w:World) :
  Calls Tryz.prog 172 #[.agg #[.int .i64 k,.int .i64 n,.string (aj s)]] w fun e w'=>e = .returned (.agg #[.int .i64 (fU ⟨k,n,s⟩).k,.int .i64 (fU ⟨k,n,s⟩).n,.string (aj (fU ⟨k,n,s⟩).s)])∧Below w.heap.size w w':=by
 have hb : ∀(o o':Obj),Below w.heap.size w ((w.alloc o).alloc o'):=fun o o'=>((Below.refl _ _).alloc (Nat.le_refl _) _).alloc (by simp) _
 have e0:aj []=⟨#[]⟩:=rfl
 by_cases h1:k=1
 ·have hd:fU ⟨k,n,s⟩=⟨1,n,[]⟩:=by simp[fU,h1]
  rw[hd,e0]
  subst h1
  go_enter Tryz.func172,Tryz.ntmps172
  go_wp2
  exact bodyPost_ret (v:=.agg #[.int .i64 1,.int .i64 n,.string ⟨#[]⟩]) (by simp[results,Tryz.results172,go_sem]) rfl ⟨rfl,hb _ _⟩
 ·have h1':(k==1)=false:=by simpa using h1
  by_cases h2:k=2
  ·have hd:fU ⟨k,n,s⟩=⟨2,0,s⟩:=by simp[fU,h2]
   rw[hd]
   subst h2
   go_enter Tryz.func172,Tryz.ntmps172
   go_wp2
   exact bodyPost_ret (v:=.agg #[.int .i64 2,.int .i64 0,.string (aj s)]) (by simp[results,Tryz.results172,go_sem]) rfl ⟨rfl,hb _ _⟩
  ·have h2':(k==2)=false:=by simpa using h2
   have hd:fU ⟨k,n,s⟩=⟨0,0,[]⟩:=by simp[fU,h1,h2]
   rw[hd,e0]
   go_enter Tryz.func172,Tryz.ntmps172
   go_wp2
   exact bodyPost_ret (v:=.agg #[.int .i64 0,.int .i64 0,.string ⟨#[]⟩]) (by simp[results,Tryz.results172,go_sem]) rfl ⟨rfl,hb _ _⟩
theorem aD (w:World) (g:Nat) (cs:Array Value) (t:TypeId) (fr:Nat × Nat) (i:Nat) (h:w.heap[g]?=some (.cells cs t fr)):w.cell? ⟨g,i,none⟩=cs[i]?:=by
 simp[World.cell?,h]
theorem IJ (w:World) (a b c:Value) (t:TypeId):∃W,w.alloc (.cells #[a,b,c] t)=W∧Below w.heap.size w W∧w.heap.size<W.heap.size ∧
  ∀W',Below W.heap.size W W'→W'.cell? ⟨w.heap.size,0,none⟩=some a∧W'.cell? ⟨w.heap.size,1,none⟩=some b∧W'.cell? ⟨w.heap.size,2,none⟩=some c:=by
 refine ⟨_,rfl,(Below.refl _ _).alloc (Nat.le_refl _) _,by simp,fun W' h=>?_⟩
 have hn:W'.heap[w.heap.size]?=some (.cells #[a,b,c] t):=(h.block _ (by simp)).trans (heap_alloc_new w _)
 exact⟨by rw[aD _ _ _ _ _ _ hn];rfl,by rw[aD _ _ _ _ _ _ hn];rfl,by rw[aD _ _ _ _ _ _ hn];rfl⟩
theorem Tryz.lS:Tryz.prog.eqGuardType Tryz.prog.depth 46=false:=by kernel_rfl
theorem Ae (k n:Int) (s:List UInt8) (w:World) (hs:s.length≤9223372036854775807) :
  Calls Tryz.prog 159 #[.agg #[.int .i64 k,.int .i64 n,.string (aj s)]] w fun e w'=>e = .returned (.int .i64 (iw ⟨k,n,s⟩))∧Below w.heap.size w w':=by
 obtain⟨k',n',s',hnm⟩:∃k' n' s',fU ⟨k,n,s⟩=⟨k',n',s'⟩:=⟨_,_,_,rfl⟩
 have hr:iw ⟨k,n,s⟩=if eqv ⟨k,n,s⟩ ⟨k',n',s'⟩=false then 4 else if 40<s.length then 2 else 0:=by rw[iw,hnm]
 have hN:=fun w=>Ao k n s w
 rw[hnm] at hN
 have hne : ∀w,_:=fun w=>Fj ⟨k,n,s⟩ ⟨k',n',s'⟩ w
 dsimp only at hN hne
 obtain⟨R,hR⟩:∃R,iw ⟨k,n,s⟩=R:=⟨_,rfl⟩
 rw[hR] at hr ⊢
 have HR:=hid hr
 clear hR
 obtain⟨W,hW,hbW,hzW,hcW⟩:=IJ w (.int .i64 k) (.int .i64 n) (.string (aj s)) 46
 have hS0:=hcW W.drew (below_drewN (Below.refl _ _) 1)
 have c0:=hcW W (Below.refl _ _)
 have HC:=hid hcW
 have hg:=Tryz.lS
 have HB:=hid hbW
 have HN:=hid (hN W.drew)
 clear hnm hr hcW hbW hN
 go_enter Tryz.func159,Tryz.ntmps159
 go_wp2_with fail
 go_region_held3 (fun w'=>w'.cell? ⟨w.heap.size,0,none⟩=some (.int .i64 k)∧w'.cell? ⟨w.heap.size,1,none⟩=some (.int .i64 n)∧w'.cell? ⟨w.heap.size,2,none⟩=some (.string (aj s)))
  (first | assumption)
  ((
   go_at_call 172;refine HN.out.mono ?_;clear HN;rintro e w6 ⟨rfl,hb6⟩
   have d6:Below W.heap.size W w6:=(below_drewN (Below.refl _ _) 1).trans hb6
   have hS6:=HC.out _ d6
   clear hb6))
 by_cases hq:eqv ⟨k,n,s⟩ ⟨k',n',s'⟩=true
 ·rw[hq]
  have HQ:=hid hq
  clear hq hne
  by_cases hl:40<s.length
  ·have hlz:(40:Int)<((aj s).size:Int):=by rw[dz];omega
   go_wp2
   go_ret
   exact⟨by rw[HR.out,if_neg (by rw[HQ.out];simp),if_pos hl];rfl,HB.out.trans (d6.mono HB.out.size)⟩
  ·have hlz : ¬((40:Int)<((aj s).size:Int)):=by rw[dz];omega
   go_wp2
   go_ret
   exact⟨by rw[HR.out,if_neg (by rw[HQ.out];simp),if_neg hl];rfl,HB.out.trans (d6.mono HB.out.size)⟩
 ·have hq':eqv ⟨k,n,s⟩ ⟨k',n',s'⟩=false:=by simpa using hq
  rw[hq']
  have HQ:=hid hq'
  clear hq hq' hne
  go_wp2
  go_ret
  exact⟨by rw[HR.out,if_pos HQ.out];rfl,HB.out.trans (d6.mono HB.out.size)⟩
end Go.Proofs.YtfeglkleoijlaaaGreatDoor
namespace Go.Proofs.YtfeglkleoijlaaaGreatDoor
open Go.Shelf
set_option linter.unusedVariables false
set_option maxRecDepth 100000
set_option maxHeartbeats 8000000
def lQ:Ren:=⟨fun x=>if x=0 then 0 else if x=1 then 1 else if x=2 then 2 else if x=107 then 57 else if x=108 then 112 else if x=129 then 192 else if x=137 then 165 else if x=138 then 188 else if x=143 then 189 else if x=154 then 181 else if x=155 then 176 else if x=156 then 152 else if x=165 then 169 else if x=166 then 170 else if x=169 then 171 else if x=171 then 167 else if x=195 then 196 else if x=197 then 190 else if x=217 then 174 else if x=218 then 197 else if x=219 then 198 else if x=224 then 203 else if x=225 then 202 else if x=240 then 177 else if x=241 then 178 else if x=243 then 175 else if x=246 then 180 else if x=260 then 199 else if x=266 then 179 else if x=267 then 204 else if x=276 then 182 else if x=277 then 183 else if x=283 then 184 else if x=284 then 185 else if x=285 then 186 else if x=286 then 187 else if x=314 then 205 else if x=316 then 126 else if x=317 then 191 else if x=318 then 193 else if x=319 then 194 else if x=320 then 195 else if x=337 then 200 else if x=338 then 201 else if x=347 then 206 else if x=348 then 207 else if x=349 then 208 else if x=350 then 209 else if x=351 then 210 else if x=352 then 211 else if x=353 then 212 else if x=354 then 213 else if x=355 then 214 else if x=356 then 215 else if x=357 then 216 else if x=358 then 217 else if x=359 then 218 else if x=360 then 219 else if x=361 then 220 else if x=362 then 221 else if x=366 then 222 else if x=367 then 231 else x,fun x=>if x=0 then 0 else if x=1 then 1 else if x=2 then 2 else if x=3 then 3 else if x=4 then 4 else if x=5 then 5 else if x=6 then 6 else if x=7 then 7 else if x=8 then 8 else if x=9 then 9 else if x=10 then 10 else if x=11 then 11 else if x=12 then 12 else if x=13 then 13 else if x=14 then 14 else if x=15 then 15 else if x=16 then 16 else if x=17 then 17 else if x=18 then 18 else if x=19 then 19 else if x=20 then 20 else if x=21 then 21 else if x=27 then 221 else if x=28 then 87 else if x=29 then 110 else if x=30 then 155 else if x=31 then 177 else if x=37 then 192 else if x=41 then 160 else if x=46 then 229 else if x=47 then 230 else if x=51 then 227 else if x=52 then 231 else if x=53 then 216 else if x=54 then 217 else if x=55 then 195 else if x=65 then 211 else if x=66 then 209 else if x=67 then 188 else if x=69 then 129 else if x=70 then 199 else if x=71 then 200 else if x=72 then 201 else if x=73 then 186 else if x=74 then 202 else if x=75 then 203 else if x=76 then 204 else if x=77 then 205 else if x=80 then 206 else if x=81 then 245 else if x=83 then 197 else if x=84 then 210 else if x=103 then 93 else if x=104 then 80 else if x=105 then 222 else if x=106 then 223 else if x=111 then 134 else if x=112 then 162 else if x=114 then 224 else if x=119 then 232 else if x=127 then 193 else if x=137 then 233 else if x=138 then 234 else if x=139 then 235 else if x=146 then 238 else if x=151 then 239 else if x=164 then 212 else if x=165 then 213 else if x=166 then 214 else if x=171 then 215 else if x=172 then 218 else if x=173 then 219 else if x=174 then 220 else if x=211 then 225 else if x=212 then 226 else if x=213 then 228 else if x=232 then 236 else if x=233 then 237 else if x=238 then 240 else if x=239 then 241 else if x=240 then 242 else if x=241 then 243 else if x=242 then 244 else if x=243 then 246 else if x=244 then 247 else if x=245 then 248 else if x=246 then 249 else if x=247 then 250 else if x=248 then 251 else if x=249 then 252 else x,fun x=>if x=1 then 1 else if x=3 then 3 else if x=4 then 4 else if x=17 then 2 else if x=18 then 5 else if x=19 then 6 else x⟩
theorem uY:Lays.n155 Tryz.prog lQ where
 mixed:=by kernel_rfl
 f138:=by kernel_rfl
 f143:=by kernel_rfl
 f154:=by kernel_rfl
 f155:=by kernel_rfl
 f165:=by kernel_rfl
 f166:=by kernel_rfl
 f169:=by kernel_rfl
 f195:=by kernel_rfl
 f197:=by kernel_rfl
 f217:=by kernel_rfl
 f218:=by kernel_rfl
 f219:=by kernel_rfl
 f224:=by kernel_rfl
 f225:=by kernel_rfl
 f240:=by kernel_rfl
 f241:=by kernel_rfl
 f260:=by kernel_rfl
 f266:=by kernel_rfl
 f267:=by kernel_rfl
 f276:=by kernel_rfl
 f277:=by kernel_rfl
 f314:=by kernel_rfl
 t0:=by kernel_rfl
 a0:=fun w=>by kernel_rfl
 z0:=fun w=>by kernel_rfl
 v0:=fun w=>by kernel_rfl
 t3:=by kernel_rfl
 a3:=fun w=>by kernel_rfl
 z3:=fun w=>by kernel_rfl
 v3:=fun w=>by kernel_rfl
 t4:=by kernel_rfl
 a4:=fun w=>by kernel_rfl
 z4:=fun w=>by kernel_rfl
 v4:=fun w=>by kernel_rfl
 t5:=by kernel_rfl
 a5:=fun w=>by kernel_rfl
 z5:=fun w=>by kernel_rfl
 v5:=fun w=>by kernel_rfl
 t9:=by kernel_rfl
 a9:=fun w=>by kernel_rfl
 z9:=fun w=>by kernel_rfl
 v9:=fun w=>by kernel_rfl
 t20:=by kernel_rfl
 a20:=fun w=>by kernel_rfl
 z20:=fun w=>by kernel_rfl
 v20:=fun w=>by kernel_rfl
 t21:=by kernel_rfl
 a21:=fun w=>by kernel_rfl
 z21:=fun w=>by kernel_rfl
 v21:=fun w=>by kernel_rfl
 t37:=by kernel_rfl
 a37:=fun w=>by kernel_rfl
 z37:=fun w=>by kernel_rfl
 v37:=fun w=>by kernel_rfl
 t46:=by kernel_rfl
 a46:=fun w=>by kernel_rfl
 z46:=fun w=>by kernel_rfl
 v46:=fun w=>by kernel_rfl
 t51:=by kernel_rfl
 a51:=fun w=>by kernel_rfl
 z51:=fun w=>by kernel_rfl
 v51:=fun w=>by kernel_rfl
 t70:=by kernel_rfl
 a70:=fun w=>by kernel_rfl
 z70:=fun w=>by kernel_rfl
 v70:=fun w=>by kernel_rfl
 t72:=by kernel_rfl
 a72:=fun w=>by kernel_rfl
 z72:=fun w=>by kernel_rfl
 v72:=fun w=>by kernel_rfl
 t75:=by kernel_rfl
 a75:=fun w=>by kernel_rfl
 z75:=fun w=>by kernel_rfl
 v75:=fun w=>by kernel_rfl
 t76:=by kernel_rfl
 a76:=fun w=>by kernel_rfl
 z76:=fun w=>by kernel_rfl
 v76:=fun w=>by kernel_rfl
 t105:=by kernel_rfl
 a105:=fun w=>by kernel_rfl
 z105:=fun w=>by kernel_rfl
 v105:=fun w=>by kernel_rfl
 t119:=by kernel_rfl
 a119:=fun w=>by kernel_rfl
 z119:=fun w=>by kernel_rfl
 t127:=by kernel_rfl
 a127:=fun w=>by kernel_rfl
 z127:=fun w=>by kernel_rfl
 v127:=fun w=>by kernel_rfl
 t138:=by kernel_rfl
 a138:=fun w=>by kernel_rfl
 z138:=fun w=>by kernel_rfl
 v138:=fun w=>by kernel_rfl
 t139:=by kernel_rfl
 a139:=fun w=>by kernel_rfl
 z139:=fun w=>by kernel_rfl
 v139:=fun w=>by kernel_rfl
 t146:=by kernel_rfl
 a146:=fun w=>by kernel_rfl
 z146:=fun w=>by kernel_rfl
 v146:=fun w=>by kernel_rfl
 t164:=by kernel_rfl
 a164:=fun w=>by kernel_rfl
 z164:=fun w=>by kernel_rfl
 v164:=fun w=>by kernel_rfl
 g1:=by kernel_rfl
 g3:=by kernel_rfl
 g4:=by kernel_rfl
theorem yF:Builder.Extra Tryz.prog lQ where
 sizeBuilder:=by kernel_rfl
 liesBuilder:=by kernel_rfl
 t5:=uY.t5
 a5:=uY.a5
 z5:=uY.z5
 v5:=uY.v5
 infoByte:=by kernel_rfl
 cellsByte:=by kernel_rfl
 sizeByte:=by kernel_rfl
 neB5:=by decide
theorem F4:LaysM.n171 Tryz.prog lQ where
 mixed:=by kernel_rfl
 f129:=by kernel_rfl
 f171:=by kernel_rfl
 f243:=by kernel_rfl
 f246:=by kernel_rfl
 f283:=by kernel_rfl
 f284:=by kernel_rfl
 f285:=by kernel_rfl
 f286:=by kernel_rfl
 f317:=by kernel_rfl
 f318:=by kernel_rfl
 f319:=by kernel_rfl
 f320:=by kernel_rfl
 f337:=by kernel_rfl
 f338:=by kernel_rfl
 t0:=by kernel_rfl
 a0:=fun w=>by kernel_rfl
 z0:=fun w=>by kernel_rfl
 v0:=fun w=>by kernel_rfl
 t2:=by kernel_rfl
 a2:=fun w=>by kernel_rfl
 z2:=fun w=>by kernel_rfl
 v2:=fun w=>by kernel_rfl
 t3:=by kernel_rfl
 a3:=fun w=>by kernel_rfl
 z3:=fun w=>by kernel_rfl
 v3:=fun w=>by kernel_rfl
 t4:=by kernel_rfl
 a4:=fun w=>by kernel_rfl
 z4:=fun w=>by kernel_rfl
 v4:=fun w=>by kernel_rfl
 t5:=by kernel_rfl
 a5:=fun w=>by kernel_rfl
 z5:=fun w=>by kernel_rfl
 v5:=fun w=>by kernel_rfl
 t9:=by kernel_rfl
 a9:=fun w=>by kernel_rfl
 z9:=fun w=>by kernel_rfl
 v9:=fun w=>by kernel_rfl
 t20:=by kernel_rfl
 a20:=fun w=>by kernel_rfl
 z20:=fun w=>by kernel_rfl
 v20:=fun w=>by kernel_rfl
 t37:=by kernel_rfl
 a37:=fun w=>by kernel_rfl
 z37:=fun w=>by kernel_rfl
 v37:=fun w=>by kernel_rfl
 t46:=by kernel_rfl
 a46:=fun w=>by kernel_rfl
 z46:=fun w=>by kernel_rfl
 v46:=fun w=>by kernel_rfl
 t51:=by kernel_rfl
 a51:=fun w=>by kernel_rfl
 z51:=fun w=>by kernel_rfl
 v51:=fun w=>by kernel_rfl
 t53:=by kernel_rfl
 a53:=fun w=>by kernel_rfl
 z53:=fun w=>by kernel_rfl
 v53:=fun w=>by kernel_rfl
 t171:=by kernel_rfl
 a171:=fun w=>by kernel_rfl
 z171:=fun w=>by kernel_rfl
 v171:=fun w=>by kernel_rfl
 t173:=by kernel_rfl
 a173:=fun w=>by kernel_rfl
 z173:=fun w=>by kernel_rfl
 v173:=fun w=>by kernel_rfl
 t212:=by kernel_rfl
 a212:=fun w=>by kernel_rfl
 z212:=fun w=>by kernel_rfl
 v212:=fun w=>by kernel_rfl
 t213:=by kernel_rfl
 a213:=fun w=>by kernel_rfl
 z213:=fun w=>by kernel_rfl
 t232:=by kernel_rfl
 a232:=fun w=>by kernel_rfl
 z232:=fun w=>by kernel_rfl
 v232:=fun w=>by kernel_rfl
 t233:=by kernel_rfl
 a233:=fun w=>by kernel_rfl
 z233:=fun w=>by kernel_rfl
 v233:=fun w=>by kernel_rfl
 g17:=by kernel_rfl
 g18:=by kernel_rfl
 g19:=by kernel_rfl
 i0:=by kernel_rfl
 i2:=by kernel_rfl
 i3:=by kernel_rfl
 i4:=by kernel_rfl
 i5:=by kernel_rfl
 i9:=by kernel_rfl
 i20:=by kernel_rfl
 i37:=by kernel_rfl
 i46:=by kernel_rfl
 i51:=by kernel_rfl
 i53:=by kernel_rfl
 i171:=by kernel_rfl
 i173:=by kernel_rfl
 i212:=by kernel_rfl
 i232:=by kernel_rfl
 i233:=by kernel_rfl
 m17:=by kernel_rfl
 m18:=by kernel_rfl
 m19:=by kernel_rfl
theorem Gt:Lays.n137 Tryz.prog lQ where
 mixed:=by kernel_rfl
 f137:=by kernel_rfl
 f217:=by kernel_rfl
 f266:=by kernel_rfl
 t3:=by kernel_rfl
 a3:=fun w=>by kernel_rfl
 z3:=fun w=>by kernel_rfl
 v3:=fun w=>by kernel_rfl
 t5:=by kernel_rfl
 a5:=fun w=>by kernel_rfl
 z5:=fun w=>by kernel_rfl
 v5:=fun w=>by kernel_rfl
 t9:=by kernel_rfl
 a9:=fun w=>by kernel_rfl
 z9:=fun w=>by kernel_rfl
 v9:=fun w=>by kernel_rfl
theorem Ew:Lays.n156 Tryz.prog lQ where
 mixed:=by kernel_rfl
 f156:=by kernel_rfl
 f165:=by kernel_rfl
 f166:=by kernel_rfl
 f169:=by kernel_rfl
 f240:=by kernel_rfl
 f241:=by kernel_rfl
 f276:=by kernel_rfl
 f277:=by kernel_rfl
 t0:=by kernel_rfl
 a0:=fun w=>by kernel_rfl
 z0:=fun w=>by kernel_rfl
 v0:=fun w=>by kernel_rfl
 t3:=by kernel_rfl
 a3:=fun w=>by kernel_rfl
 z3:=fun w=>by kernel_rfl
 v3:=fun w=>by kernel_rfl
 t4:=by kernel_rfl
 a4:=fun w=>by kernel_rfl
 z4:=fun w=>by kernel_rfl
 v4:=fun w=>by kernel_rfl
 t9:=by kernel_rfl
 a9:=fun w=>by kernel_rfl
 z9:=fun w=>by kernel_rfl
 v9:=fun w=>by kernel_rfl
 t20:=by kernel_rfl
 a20:=fun w=>by kernel_rfl
 z20:=fun w=>by kernel_rfl
 v20:=fun w=>by kernel_rfl
 t31:=by kernel_rfl
 a31:=fun w=>by kernel_rfl
 z31:=fun w=>by kernel_rfl
 v31:=fun w=>by kernel_rfl
 t37:=by kernel_rfl
 a37:=fun w=>by kernel_rfl
 z37:=fun w=>by kernel_rfl
 v37:=fun w=>by kernel_rfl
 t70:=by kernel_rfl
 a70:=fun w=>by kernel_rfl
 z70:=fun w=>by kernel_rfl
 v70:=fun w=>by kernel_rfl
 t72:=by kernel_rfl
 a72:=fun w=>by kernel_rfl
 z72:=fun w=>by kernel_rfl
 v72:=fun w=>by kernel_rfl
 t75:=by kernel_rfl
 a75:=fun w=>by kernel_rfl
 z75:=fun w=>by kernel_rfl
 v75:=fun w=>by kernel_rfl
 t76:=by kernel_rfl
 a76:=fun w=>by kernel_rfl
 z76:=fun w=>by kernel_rfl
 v76:=fun w=>by kernel_rfl
 t127:=by kernel_rfl
 a127:=fun w=>by kernel_rfl
 z127:=fun w=>by kernel_rfl
 v127:=fun w=>by kernel_rfl
 t164:=by kernel_rfl
 a164:=fun w=>by kernel_rfl
 z164:=fun w=>by kernel_rfl
 v164:=fun w=>by kernel_rfl
theorem EU:lQ.f 155=176∧lQ.f 171=167∧lQ.g 1=1∧lQ.g 17=2:=by decide
theorem Gm:lQ.f 137=165∧True∧True∧True∧True∧True∧lQ.f 166=170∧lQ.f 169=171∧True∧lQ.f 156=152:=by decide
end Go.Proofs.YtfeglkleoijlaaaGreatDoor
namespace Go.Proofs.YtfeglkleoijlaaaGreatDoor
set_option linter.unusedVariables false
set_option maxHeartbeats 8000000
def jh (s:List UInt8):List UInt8:=s.flatMap fun c=>if c=39 then [39,39] else [c]
theorem xO (a b:List UInt8):jh (a++b)=jh a++jh b:=by simp[jh]
theorem qI : ∀(s:List UInt8),(∀k:Nat,s[k]?≠some 39)→jh s=s
 | [],_=>rfl
 |
  c::s,h=>by
  have hc:c≠39:=fun e=>h 0 (by simp[e])
  have ih:=qI s fun k=>by simpa using h (k+1)
  have e:jh (c::s)=[c]++jh s:=by simp[jh,hc]
  rw[e,ih]
  rfl
theorem Cc (s:List UInt8):(jh s).length≤2*s.length:=by
 induction s with
 | nil=>simp[jh]
 |
  cons c s ih =>
  have e:jh (c::s)=(if c=39 then [39,39] else [c])++jh s:=by simp[jh]
  rw[e,List.length_append,List.length_cons]
  split<;>simp<;>omega
theorem uz : ∀(k:Nat) (s:List UInt8),Lib.count s [39]≤k→Lib.replaceK [39] [39,39] k s=jh s:=by
 have miss : ∀s:List UInt8,Lib.index s [39] = -1→jh s=s:=fun s h=>by
  rw[Lib.index_one] at h
  exact qI s (Lib.indexByte_none h)
 have hit : ∀(s:List UInt8) (i:Nat),Lib.index s [39]=i→Lib.count s [39]=Lib.count (s.drop (i+1)) [39]+1∧jh s=s.take i++[39,39]++jh (s.drop (i+1)):=fun s i h=>by
  refine ⟨by have:=Lib.count_hit (s:=s) (sub:=[39]) (i:=i) (by simp) h;simpa [Nat.add_comm] using this,?_⟩
  rw[Lib.index_one] at h
  obtain⟨h1,h2⟩:=Lib.indexByte_some h
  have hi:i<s.length:=(List.getElem?_eq_some_iff.1 h1).1
  have e:s=s.take i++(39::s.drop (i+1)):=by
   have e1:=(List.take_append_drop i s).symm
   rw[List.drop_eq_getElem_cons hi,(List.getElem?_eq_some_iff.1 h1).2] at e1
   exact e1
  have e2:jh (s.take i)=s.take i:=qI _ fun k hk=>by
   rw[List.getElem?_take] at hk
   split at hk
   ·rename_i hlt
    exact h2 k hlt hk
   ·cases hk
  have e3:jh (39::s.drop (i+1))=[39,39]++jh (s.drop (i+1)):=by simp[jh]
  conv=>lhs;rw[e]
  rw[xO,e2,e3,List.append_assoc]
 intro k
 induction k with
 |
  zero =>
  intro s h
  rw[Lib.replaceK]
  have hge:=Lib.index_ge s [39]
  by_cases hm:Lib.index s [39] = -1
  ·exact (miss s hm).symm
  ·obtain⟨i,hi⟩:∃i:Nat,Lib.index s [39]=i:=⟨(Lib.index s [39]).toNat,by omega⟩
   have:=(hit s i hi).1
   omega
 |
  succ k ih =>
  intro s h
  have hge:=Lib.index_ge s [39]
  by_cases hm:Lib.index s [39] = -1
  ·rw[miss s hm,Lib.replaceK,if_pos (by rw[hm];rfl)]
  ·obtain⟨i,hi⟩:∃i:Nat,Lib.index s [39]=i:=⟨(Lib.index s [39]).toNat,by omega⟩
   obtain⟨h1,h2⟩:=hit s i hi
   rw[Lib.replaceK_hit _ _ k s i hi,h2,ih _ (by simp;omega)]
   rfl
theorem qA (s:List UInt8):Lib.replaceAll s [39] [39,39]=jh s:=by
 unfold Lib.replaceAll Lib.replace
 rw[if_neg (by decide)]
 have e:Lib.replaceNum s [39] (-1)=Lib.count s [39]:=by
  unfold Lib.replaceNum
  rw[if_pos (by left;decide)]
 rw[e]
 exact uz _ s (Nat.le_refl _)
end Go.Proofs.YtfeglkleoijlaaaGreatDoor
namespace Go.Proofs.YtfeglkleoijlaaaGreatDoor
open Go.RowKit Go.Shelf
set_option linter.unusedSimpArgs false
set_option linter.unusedVariables false
set_option maxRecDepth 20000
set_option maxHeartbeats 8000000
structure rE (w:World):Prop where
 lt:5<w.heap.size
 max : ∃m,w.cell? ⟨1,0,none⟩=some (.int .i64 m)
 pow:Lib.TabIs Tryz.prog w "internal/strconv.uint64pow10" .u64 Lib.pow10Tab
theorem rE.below {w w':World} {B:Nat} (h:rE w) (hb:Below B w w') (hB:5<B):rE w':=by
 refine ⟨Nat.lt_of_lt_of_le h.lt hb.size,?_,?_⟩
 ·obtain⟨m,hm⟩:=h.max
  exact⟨m,by rw[hb.cell (p:=⟨1,0,none⟩) (by show 1<B;omega)];exact hm⟩
 ·have hp:=h.pow
  unfold Lib.TabIs World.var? at hp ⊢
  rw[F4.m17] at hp ⊢
  have e:w'.heap[lQ.g 17]?=w.heap[lQ.g 17]?:=hb.block _ (by rw[EU.2.2.2];omega)
  simp only[Option.bind_some] at hp ⊢
  rw[e]
  exact hp
theorem vE (a b:List UInt8):aj a++aj b=aj (a++b):=by
 apply ByteArray.ext
 simp[aj]
def vP (x:Vl):List UInt8:=if x.k=1 then Lib.itoa x.n else if x.k=2 then [39]++(jh x.s++[39]) else [78,85,76,76]
theorem pV (s:List UInt8) (w:World) (hT:rE w) (hs:s.length<4294967281) :
  Calls Tryz.prog 176 #[.string (aj s),.string ⟨#[39]⟩,.string ⟨#[39,39]⟩] w fun e w'=>e = .returned (.string (aj (jh s)))∧Below w.heap.size w w':=by
 obtain⟨m,hm⟩:=hT.max
 have hc:=Lib.countB_mul_le ⟨#[39]⟩ (by decide) (aj s).size (aj s) (Nat.le_refl _)
 have h1:(⟨#[39]⟩:ByteArray).size=1:=rfl
 have h2:(⟨#[39,39]⟩:ByteArray).size=2:=rfl
 rw[h1,dz] at hc
 have:=Any.strings_ReplaceAll uY yF (aj s) ⟨#[39]⟩ ⟨#[39,39]⟩ m w (by rw[dz];exact hs) (by rw[EU.2.2.1];exact hm) (by decide) (by rw[h2,dz];omega)
 rw[EU.1] at this
 rw[← qA]
 exact this
theorem wB (n:Int) (w:World) (hT:rE w) (h0 : -9223372036854775808≤n) (h1:n≤9223372036854775807) :
  Calls Tryz.prog 167 #[.int .i64 n] w fun e w'=>e = .returned (.string (aj (Lib.itoa n)))∧Below w.heap.size w w':=by
 have:=Any.strconv_Itoa F4 n h0 h1 w hT.pow
 rw[EU.2.1] at this
 refine this.mono fun e w' ⟨he,k,os,hw⟩=>⟨he,?_⟩
 subst hw
 exact⟨rfl,rfl,rfl,by simp[Sort.grow,World.drewN],fun j hj=>by simp[Sort.grow,World.drewN,Array.getElem?_append_left hj]⟩
set_option maxRecDepth 100000 in
theorem vI (k n:Int) (s:List UInt8) (w:World) (hT:rE w) (h0 : -9223372036854775808≤n) (h1:n≤9223372036854775807) (hs:s.length<4294967281) :
  Calls Tryz.prog 168 #[.agg #[.int .i64 k,.int .i64 n,.string (aj s)]] w fun e w'=>e = .returned (.string (aj (vP ⟨k,n,s⟩)))∧Below w.heap.size w w':=by
 obtain⟨W,hW,hbW,hzW,hcW⟩:=IJ w (.int .i64 k) (.int .i64 n) (.string (aj s)) 46
 have c0:=hcW W (Below.refl _ _)
 have HI:=hid (wB n W (hT.below hbW hT.lt) h0 h1)
 have HR:=hid (pV s W (hT.below hbW hT.lt) hs)
 have HB:=hid hbW
 clear hcW hbW
 by_cases hk1:k=1
 ·have hd:vP ⟨k,n,s⟩=Lib.itoa n:=by rw[vP,if_pos hk1]
  rw[hd]
  clear hd
  subst hk1
  go_enter Tryz.func168,Tryz.ntmps168
  go_wp2_with fail
  refine HI.out.mono ?_
  rintro e w1 ⟨rfl,hb1⟩
  go_wp2
  go_ret
  exact⟨rfl,HB.out.trans (hb1.mono HB.out.size)⟩
 ·have hk1':(k==1)=false:=by simpa using hk1
  by_cases hk2:k=2
  ·have hd:vP ⟨k,n,s⟩=[39]++(jh s++[39]):=by rw[vP,if_neg hk1,if_pos hk2]
   have hle:=Cc s
   obtain⟨L,hL⟩:∃L,jh s=L:=⟨_,rfl⟩
   rw[hL] at hd HR hle
   rw[hd]
   clear hd hL
   subst hk2
   go_enter Tryz.func168,Tryz.ntmps168
   go_wp2_with fail
   refine HR.out.mono ?_
   rintro e w1 ⟨rfl,hb1⟩
   have ha1 : ∀w,(Op.stringOp .add ⟨#[39]⟩ (aj L)).run Tryz.prog w = .ok (.string (aj (39::L))) w:=fun w=>by
    rw[run_string_add_sum w _ _ (by rw[dz];show 1+L.length≤_;omega)]
    exact congrArg (fun x=>Result.ok (Value.string x) w) (vE [39] L)
   have ha2 : ∀w,(Op.stringOp .add (aj (39::L)) ⟨#[39]⟩).run Tryz.prog w = .ok (.string (aj ([39]++(L++[39])))) w:=fun w=>by
    rw[run_string_add_sum w _ _ (by rw[dz,List.length_cons];show L.length+1+1≤_;omega)]
    exact congrArg (fun x=>Result.ok (Value.string x) w) (vE (39::L) [39])
   clear hle
   go_wp2
   go_ret
   exact⟨rfl,HB.out.trans (hb1.mono HB.out.size)⟩
  ·have hk2':(k==2)=false:=by simpa using hk2
   have hd:vP ⟨k,n,s⟩=[78,85,76,76]:=by rw[vP,if_neg hk1,if_neg hk2]
   rw[hd]
   clear hd
   go_enter Tryz.func168,Tryz.ntmps168
   go_wp2
   go_ret
   exact⟨rfl,HB.out⟩
end Go.Proofs.YtfeglkleoijlaaaGreatDoor
namespace Go.Proofs.YtfeglkleoijlaaaGreatDoor
set_option linter.unusedSimpArgs false
set_option linter.unusedVariables false
set_option maxHeartbeats 8000000
def dX:List UInt8:=[97,98,99,100,101,102,103,104,105,106,107,108,109,110,111,112,113,114,115,116,117,118,119,120,121,122,95]
def dH:List UInt8:=[48,49,50,51,52,53,54,55,56,57]
def nD:List UInt8:=[65,66,67,68,69,70,71,72,73,74,75,76,77,78,79,80,81,82,83,84,85,86,87,88,89,90]
def CG:List UInt8:=[9,10,13,32]
def dD:List UInt8:=dX++dH
def Dn:List UInt8:=dX++(nD++dH)
def bT (l:List UInt8) (c:UInt8):Bool:=l.contains c
theorem sG : ∀(l:List UInt8) (c:UInt8),decide (0≤Lib.indexByte l c)=bT l c
 | [],c=>by simp[Lib.indexByte,bT]
 |
  b::l,c=>by
  have ih:=sG l c
  have hge:=Lib.indexByte_ge l c
  unfold Lib.indexByte
  by_cases h:b=c
  ·subst h;simp[bT]
  ·have h':(b==c)=false:=by simpa using h
   have h2 : ¬c=b:=fun e=>h e.symm
   rw[h']
   simp only[Bool.false_eq_true,if_false]
   have e:bT (b::l) c=bT l c:=by simp[bT,h2]
   rw[e,← ih]
   by_cases hm:Lib.indexByte l c = -1
   ·simp[hm]
   ·have:(Lib.indexByte l c==-1)=false:=by simpa using hm
    rw[this]
    simp only[Bool.false_eq_true,if_false]
    rw[decide_eq_true (by omega),decide_eq_true (by omega)]
def row (p:UInt8→Bool) (s:List UInt8):Nat:=(s.takeWhile p).length
theorem nA (p:UInt8→Bool) (s:List UInt8):row p s≤s.length:=by
 unfold row
 induction s with
 | nil=>simp
 | cons c s ih=>rw[List.takeWhile_cons];split<;>simp<;>omega
theorem Cq (p:UInt8→Bool) (s:List UInt8):s.take (row p s)=s.takeWhile p:=by
 unfold row
 induction s with
 | nil=>simp
 |
  cons c s ih =>
  rw[List.takeWhile_cons]
  split
  ·simp[ih]
  ·simp
theorem dO {p:UInt8→Bool} {c:UInt8} {s:List UInt8} (h:p c=true):row p (c::s)=row p s+1:=by
 simp[row,List.takeWhile_cons,h]
theorem eP {p:UInt8→Bool} {c:UInt8} {s:List UInt8} (h:p c=false):row p (c::s)=0:=by
 simp[row,List.takeWhile_cons,h]
theorem zw (p:UInt8→Bool):row p []=0:=rfl
theorem oP {p:UInt8→Bool} {a x:List UInt8} (ha : ∀c∈a,p c=true) (hx:row p x=0):row p (a++x)=a.length:=by
 induction a with
 | nil=>simpa using hx
 |
  cons c a ih =>
  rw[List.cons_append,dO (ha c (by simp)),ih (fun d hd=>ha d (by simp[hd]))]
  simp
theorem rD (p:UInt8→Bool) (s:List UInt8):∀c∈s.takeWhile p,p c=true:=by
 induction s with
 | nil=>simp
 |
  cons c s ih =>
  rw[List.takeWhile_cons]
  split
  ·intro d hd
   rcases List.mem_cons.1 hd with rfl | hd
   ·assumption
   ·exact ih d hd
  ·simp
theorem uM (p:UInt8→Bool) (s:List UInt8):∀c∈s.take (row p s),p c=true:=by
 rw[Cq];exact rD p s
structure Tk where
 k:Int
 s:List UInt8
 n:Int
 p:Int
def rQ:Tk:=⟨0,[],0,0⟩
def Tk.z (t:Tk):Tk:=⟨t.k,t.s,t.n,0⟩
def Dl:List (List UInt8):=[[65,78,68],[66,89],[67,79,85,78,84],[67,82,69,65,84,69],[68,69,76,69,84,69],[68,69,83,67],[68,82,79,80],[70,82,79,77],[71,82,79,85,80],[73,78,83,69,82,84],[73,78,84],[73,78,84,79],[73,83],[74,79,73,78],[75,69,89],[76,73,77,73,84],[77,65,88],[77,73,78],[78,79,84],[78,85,76,76],[79,78],[79,82],[79,82,68,69,82],[80,82,73,77,65,82,89],[83,69,76,69,67,84],[83,69,84],[83,85,77],[84,65,66,76,69],[84,69,88,84],[85,78,73,81,85,69],[85,80,68,65,84,69],[86,65,76,85,69,83],[87,72,69,82,69]]
def Da:List (List UInt8):=[[60,62],[60,61],[62,61],[40],[41],[44],[59],[46],[42],[43],[45],[47],[37],[61],[60],[62]]
def xC (r:List UInt8):Bool:=decide (0<row (bT Dn) r)
def iY (s:List UInt8):Nat × Tk × Nat :=
 if xC (s.drop (row (bT dD) s))=true then (4,rQ,0) else if 16<row (bT dD) s then (2,rQ,0) else (0,⟨1,s.take (row (bT dD) s),0,0⟩,row (bT dD) s)
def jV (s:List UInt8):Nat × Tk × Nat :=
 if xC (s.drop (row (bT nD) s))=true then (4,rQ,0) else if Dl.contains (s.take (row (bT nD) s))=false then (4,rQ,0) else (0,⟨2,s.take (row (bT nD) s),0,0⟩,row (bT nD) s)
def Jm (n:Nat):Lib.NumEnd Int→Nat × Tk × Nat
 | .ok v=>(0,⟨3,[],v,0⟩,n)
 | _=>(7,rQ,0)
def jY (s:List UInt8):Nat × Tk × Nat :=
 if xC (s.drop (row (bT dH) s))=true then (4,rQ,0) else Jm (row (bT dH) s) (Lib.atoiAll (s.take (row (bT dH) s)))
def txt:List UInt8→List UInt8 × List UInt8 × Bool
 | []=>([],[],false)
 | [c]=>if c=39 then ([],[],true) else ([c],[],false)
 | c::d::r=>if c=39 then (if d=39 then (39::(txt r).1,(txt r).2) else ([],d::r,true)) else (c::(txt (d::r)).1,(txt (d::r)).2)
def wO (n:Nat) (x:List UInt8 × List UInt8 × Bool):Nat × Tk × Nat :=
 if 40<x.1.length then (2,rQ,0) else if x.2.2=false then (3,rQ,0) else (0,⟨4,x.1,0,0⟩,n-x.2.1.length)
def iU (s:List UInt8):Nat × Tk × Nat:=wO s.length (txt (s.drop 1))
def DJ:List (List UInt8)→List UInt8→Nat × Tk × Nat
 | [],_=>(4,rQ,0)
 | g::r,s=>if g.isPrefixOf s=true then (0,⟨5,g,0,0⟩,g.length) else DJ r s
def mD (s:List UInt8):Nat × Tk × Nat:=DJ Da s
def jC (s:List UInt8):Nat × Tk × Nat :=
 match s with
 | []=>(4,rQ,0)
 | c::_=>if bT dX c=true then iY s else if bT nD c=true then jV s else if bT dH c=true then jY s else if bT [39] c=true then iU s else mD s
def skip:Bool→List UInt8→Nat
 | _,[]=>0
 | true,c::r=>1+skip (c != 10) r
 | false,c::r=>if bT CG c=true then 1+skip false r else if c=45∧r.head?=some 45 then 1+skip true r else 0
def Stop (x:List UInt8):Prop:=x=[]∨∃c r,x=c::r∧(c=9∨c=10∨c=13∨c=32∨c=45)
theorem jN {x:List UInt8} (h:Stop x):row (bT dD) x=0∧row (bT nD) x=0∧row (bT dH) x=0∧row (bT Dn) x=0:=by
 rcases h with rfl | ⟨c,r,rfl,h⟩
 ·exact⟨rfl,rfl,rfl,rfl⟩
 ·rcases h with rfl | rfl | rfl | rfl | rfl<;>exact⟨eP (by decide),eP (by decide),eP (by decide),eP (by decide)⟩
theorem jZ {x:List UInt8} (h:Stop x):xC x=false:=by
 rw[xC,(jN h).2.2.2];rfl
theorem nC {p:UInt8→Bool} {c:UInt8} {r:List UInt8} (h:p c=true):1≤row p (c::r):=by
 rw[dO h];omega
end Go.Proofs.YtfeglkleoijlaaaGreatDoor
