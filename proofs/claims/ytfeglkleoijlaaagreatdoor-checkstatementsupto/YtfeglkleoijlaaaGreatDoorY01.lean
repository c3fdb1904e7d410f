import Derived.WalkKit
import Derived.WalkLawsBesides
import Derived.WalkSpells
import Derived.Handy
import Derived.Laws.AppendOwnNone
import Derived.Laws.BytesArg
import Derived.Test.YtfeglkleoijlaaaGreatDoorChecked
import Derived.Laws.StructEq
import Derived.Deep.RegionHeld3
import Derived.Shelf.Strings.Replace
import Derived.Shelf.Strconv.Itoa3
import Derived.Shelf.Small.Strs
import Derived.Shelf.Strings.Prefix
import Derived.Shelf.Strings.Cut
import Derived.Shelf.Strings.Fields
import Derived.Shelf.Strings.Builder1
import Derived.Shelf.Strings.OnBuilder
import Derived.Shelf.Strconv.AtoiAll
namespace Go.Proofs.YtfeglkleoijlaaaGreatDoor
open Go.RowKit
set_option linter.unusedVariables false
set_option maxRecDepth 20000
set_option maxHeartbeats 8000000
theorem aaf:type_of% @List.getElem?_eq_getElem:=@List.getElem?_eq_getElem
theorem aag:type_of% @List.setIfInBounds_toArray:=@List.setIfInBounds_toArray
theorem aah:type_of% @Value.slice.injEq:=@Value.slice.injEq
theorem aai:type_of% @beq_eq_false_iff_ne:=@beq_eq_false_iff_ne
theorem aaj:type_of% @decide_eq_false:=@decide_eq_false
theorem aam:type_of% @List.getElem?_eq_some_iff:=@List.getElem?_eq_some_iff
theorem aap:type_of% @List.getElem_cons_zero:=@List.getElem_cons_zero
theorem aaq:type_of% @List.getElem_cons_succ:=@List.getElem_cons_succ
theorem aar:type_of% @decide_eq_true:=@decide_eq_true
theorem aas:type_of% @List.getElem_toArray:=@List.getElem_toArray
theorem aaw:type_of% @List.set_cons_zero:=@List.set_cons_zero
theorem aay:type_of% @List.set_cons_succ:=@List.set_cons_succ
theorem aaz:type_of% @Bool.false_and:=@Bool.false_and
theorem aaA:type_of% @Bool.true_and:=@Bool.true_and
theorem aaC:type_of% @Bool.and_eq_true:=@Bool.and_eq_true
theorem aaF:type_of% @Nat.le_refl:=@Nat.le_refl
theorem aaI:type_of% @decide_eq_true_eq:=@decide_eq_true_eq
theorem aaJ:type_of% @List.take_succ_eq_append_getElem:=@List.take_succ_eq_append_getElem
theorem aaN:type_of% @List.length_append:=@List.length_append
theorem aaP:type_of% @List.mem_of_getElem?:=@List.mem_of_getElem?
theorem aaR:type_of% @List.eq_nil_of_length_eq_zero:=@List.eq_nil_of_length_eq_zero
theorem aaU:type_of% @List.take_of_length_le:=@List.take_of_length_le
theorem aaV:type_of% @Nat.zero_le:=@Nat.zero_le
theorem aa1:type_of% @List.length_cons:=@List.length_cons
theorem aa2:type_of% @Nat.add_zero:=@Nat.add_zero
theorem aa7:type_of% @Nat.lt_of_lt_of_le:=@Nat.lt_of_lt_of_le
theorem aa9:type_of% @Nat.eq_zero_or_pos:=@Nat.eq_zero_or_pos
theorem abf:type_of% @Option.some.injEq:=@Option.some.injEq
theorem abg:type_of% @List.mem_cons:=@List.mem_cons
theorem hid {p:Prop} (h:p):Hid p:=h
theorem htr {w w1 w2:World} (h:Hid (Below w.heap.size w w1)) (k:Below w1.heap.size w1 w2):Hid (Below w.heap.size w w2):=hid (by exact h.out.trans (k.mono h.out.size))
def aj (bs:List UInt8):ByteArray:=⟨bs.toArray⟩
set_option linter.unusedSimpArgs false
theorem Jb (a b:List UInt8):(a==b)=decide (a=b):=by
 by_cases h:a=b
 ·subst h;simp
 ·rw[aaj h];simpa using h
theorem aS (a:List UInt8):(aj a).toList=a:=by
 rw[ByteArray.toList_eq];rfl
theorem xJ (a b:List UInt8):((aj a).toList==(aj b).toList)=decide (a=b):=by
 rw[aS,aS,Jb]
theorem dW (bs:List UInt8):(aj bs).size=bs.length:=rfl
theorem jX (s:ByteArray):aj s.data.toList=s:=by
 cases s;simp[aj]
structure Vl where
 k:Int
 n:Int
 s:List UInt8
theorem Tryz.J9:Tryz.prog.underlying 46=some (.struct (Tryz.prog.fieldsOf 46)):=by kernel_rfl
theorem Tryz.LD:Tryz.prog.stoodInHeld 46=false:=by kernel_rfl
theorem PG (e:Nat) (A B:Array Value) (a1 a2 a3 b1 b2 b3:Value) (p q r:Bool) (w:World)
  (h1:(Go.part 3 A 0).run Tryz.prog w = .ok a1 w) (h2:(Go.part 3 A 1).run Tryz.prog w = .ok a2 w) (h3:(Go.part 9 A 2).run Tryz.prog w = .ok a3 w)
  (g1:(Go.part 3 B 0).run Tryz.prog w = .ok b1 w) (g2:(Go.part 3 B 1).run Tryz.prog w = .ok b2 w) (g3:(Go.part 9 B 2).run Tryz.prog w = .ok b3 w)
  (e1:(Op.equalIn e 3 a1 b1).run Tryz.prog w = .ok p w) (e2:(Op.equalIn e 3 a2 b2).run Tryz.prog w = .ok q w) (e3:(Op.equalIn e 9 a3 b3).run Tryz.prog w = .ok r w) :
  (Op.eqFields e A B (Tryz.prog.fieldsOf 46).toList).run Tryz.prog w = .ok (p&&(q&&r)) w:=by
 simp only[Program.fieldsOf,Tryz.underlying46]
 cases p<;>cases q<;>cases r<;>simp[Op.eqFields,h1,h2,h3,g1,g2,g3,e1,e2,e3]
theorem Aq (d:Nat) (k k' n n':Int) (s s':ByteArray) (w:World):(Op.equalIn (d+1+1) 46 (.agg #[.int .i64 k,.int .i64 n,.string s]) (.agg #[.int .i64 k',.int .i64 n',.string s'])).run Tryz.prog w = .ok (k==k'&&(n==n'&&s.toList==s'.toList)) w:=by
 rw[run_equalIn_struct (P:=Tryz.prog) w (d+1) 46 _ _ Tryz.J9 Tryz.LD]
 exact PG _ _ _ (.int .i64 k) (.int .i64 n) (.string s) (.int .i64 k') (.int .i64 n') (.string s') _ _ _ w (by simp[Go.part,go_sem]) (by simp[Go.part,go_sem]) (by simp[Go.part,go_sem]) (by simp[Go.part,go_sem]) (by simp[Go.part,go_sem]) (by simp[Go.part,go_sem])
  (run_equalIn_int (P:=Tryz.prog) w d 3 .i64 .i64 k k' Tryz.underlying3) (run_equalIn_int (P:=Tryz.prog) w d 3 .i64 .i64 n n' Tryz.underlying3) (run_equalIn_string (P:=Tryz.prog) w d 9 s s' Tryz.underlying9)
def eqv (x y:Vl):Bool:=decide (x.k=y.k∧x.n=y.n∧x.s=y.s)
theorem jB {x y:Vl}:eqv x y=true↔x=y:=by
 obtain⟨k,n,s⟩:=x
 obtain⟨k',n',s'⟩:=y
 simp[eqv]
theorem z8 (x y:Vl):(x.k==y.k&&(x.n==y.n&&(aj x.s).toList==(aj y.s).toList))=eqv x y:=by
 obtain⟨k,n,s⟩:=x
 obtain⟨k',n',s'⟩:=y
 simp only[aS,eqv]
 by_cases hk:k=k'<;>by_cases hn:n=n'<;>by_cases hs:s=s'<;>simp[hk,hn,hs]
theorem wC (x y:Vl) (w:World):(binOp .eql 46 (.agg #[.int .i64 x.k,.int .i64 x.n,.string (aj x.s)]) (.agg #[.int .i64 y.k,.int .i64 y.n,.string (aj y.s)])).run Tryz.prog w = .ok (.bool (eqv x y)) w:=by
 rw[run_eql_struct,show (10000:Nat)=9998+1+1 from rfl,Aq,z8]
 rfl
theorem IX (x y:Vl) (w:World):(binOp .neq 46 (.agg #[.int .i64 x.k,.int .i64 x.n,.string (aj x.s)]) (.agg #[.int .i64 y.k,.int .i64 y.n,.string (aj y.s)])).run Tryz.prog w = .ok (.bool (!eqv x y)) w:=by
 rw[run_neq_struct,show (10000:Nat)=9998+1+1 from rfl,Aq,z8]
 rfl
def gN (x:Vl):Vl:=if x.k=1 then ⟨1,x.n,[]⟩ else if x.k=2 then ⟨2,0,x.s⟩ else ⟨0,0,[]⟩
def eY (x:Vl):Nat:=if eqv x (gN x)=false then 4 else if 40<x.s.length then 2 else 0
theorem Jf (k n:Int) (s:List UInt8) (w:World) :
  Calls Tryz.prog 172 #[.agg #[.int .i64 k,.int .i64 n,.string (aj s)]] w fun e w'=>e = .returned (.agg #[.int .i64 (gN ⟨k,n,s⟩).k,.int .i64 (gN ⟨k,n,s⟩).n,.string (aj (gN ⟨k,n,s⟩).s)])∧Below w.heap.size w w':=by
 have hb : ∀(o o':Obj),Below w.heap.size w ((w.alloc o).alloc o'):=fun o o'=>((Below.refl _ _).alloc (aaF _) _).alloc (by simp) _
 have e0:aj []=⟨#[]⟩:=rfl
 by_cases h1:k=1
 ·have hd:gN ⟨k,n,s⟩=⟨1,n,[]⟩:=by simp[gN,h1]
  rw[hd,e0]
  subst h1
  go_enter Tryz.func172,Tryz.ntmps172
  go_wp2
  exact bodyPost_ret (v:=.agg #[.int .i64 1,.int .i64 n,.string ⟨#[]⟩]) (by simp[results,Tryz.results172,go_sem]) rfl ⟨rfl,hb _ _⟩
 ·have h1':(k==1)=false:=by simpa using h1
  by_cases h2:k=2
  ·have hd:gN ⟨k,n,s⟩=⟨2,0,s⟩:=by simp[gN,h2]
   rw[hd]
   subst h2
   go_enter Tryz.func172,Tryz.ntmps172
   go_wp2
   exact bodyPost_ret (v:=.agg #[.int .i64 2,.int .i64 0,.string (aj s)]) (by simp[results,Tryz.results172,go_sem]) rfl ⟨rfl,hb _ _⟩
  ·have h2':(k==2)=false:=by simpa using h2
   have hd:gN ⟨k,n,s⟩=⟨0,0,[]⟩:=by simp[gN,h1,h2]
   rw[hd,e0]
   go_enter Tryz.func172,Tryz.ntmps172
   go_wp2
   exact bodyPost_ret (v:=.agg #[.int .i64 0,.int .i64 0,.string ⟨#[]⟩]) (by simp[results,Tryz.results172,go_sem]) rfl ⟨rfl,hb _ _⟩
theorem aB (w:World) (g:Nat) (cs:Array Value) (t:TypeId) (fr:Nat × Nat) (i:Nat) (h:w.heap[g]?=some (.cells cs t fr)):w.cell? ⟨g,i,none⟩=cs[i]?:=by
 simp[World.cell?,h]
theorem WC (w:World) (a b c:Value) (t:TypeId):∃W,w.alloc (.cells #[a,b,c] t)=W∧Below w.heap.size w W∧w.heap.size<W.heap.size ∧
  ∀W',Below W.heap.size W W'→W'.cell? ⟨w.heap.size,0,none⟩=some a∧W'.cell? ⟨w.heap.size,1,none⟩=some b∧W'.cell? ⟨w.heap.size,2,none⟩=some c:=by
 refine ⟨_,rfl,(Below.refl _ _).alloc (aaF _) _,by simp,fun W' h=>?_⟩
 have hn:W'.heap[w.heap.size]?=some (.cells #[a,b,c] t):=(h.block _ (by simp)).trans (heap_alloc_new w _)
 exact⟨by rw[aB _ _ _ _ _ _ hn];rfl,by rw[aB _ _ _ _ _ _ hn];rfl,by rw[aB _ _ _ _ _ _ hn];rfl⟩
theorem Tryz.jV:Tryz.prog.eqGuardType Tryz.prog.depth 46=false:=by kernel_rfl
theorem KH (k n:Int) (s:List UInt8) (w:World) (hs:s.length≤9223372036854775807) :
  Calls Tryz.prog 159 #[.agg #[.int .i64 k,.int .i64 n,.string (aj s)]] w fun e w'=>e = .returned (.int .i64 (eY ⟨k,n,s⟩))∧Below w.heap.size w w':=by
 obtain⟨k',n',s',hnm⟩:∃k' n' s',gN ⟨k,n,s⟩=⟨k',n',s'⟩:=⟨_,_,_,rfl⟩
 have hr:eY ⟨k,n,s⟩=if eqv ⟨k,n,s⟩ ⟨k',n',s'⟩=false then 4 else if 40<s.length then 2 else 0:=by rw[eY,hnm]
 have hN:=fun w=>Jf k n s w
 rw[hnm] at hN
 have hne : ∀w,_:=fun w=>IX ⟨k,n,s⟩ ⟨k',n',s'⟩ w
 dsimp only at hN hne
 obtain⟨R,hR⟩:∃R,eY ⟨k,n,s⟩=R:=⟨_,rfl⟩
 rw[hR] at hr ⊢
 have HR:=hid hr
 clear hR
 obtain⟨W,hW,hbW,aJ,hcW⟩:=WC w (.int .i64 k) (.int .i64 n) (.string (aj s)) 46
 have hS0:=hcW W.drew (below_drewN (Below.refl _ _) 1)
 have c0:=hcW W (Below.refl _ _)
 have HC:=hid hcW
 have hg:=Tryz.jV
 have HB:=hid hbW
 have HN:=hid (hN W.drew)
 clear hnm hr hcW hbW hN
 go_enter Tryz.func159,Tryz.ntmps159
 go_wp2_with fail
 go_region_held3 (fun w'=>w'.cell? ⟨w.heap.size,0,none⟩=some (.int .i64 k)∧w'.cell? ⟨w.heap.size,1,none⟩=some (.int .i64 n)∧w'.cell? ⟨w.heap.size,2,none⟩=some (.string (aj s)))
  (first | assumption)
  ((
   go_at_call 172;refine HN.out.mono ?_;clear HN;rintro e w6 ⟨rfl,hb6⟩
   have d6:Below W.heap.size W w6:=(below_drewN (Below.refl _ _) 1).trans hb6
   have hS6:=HC.out _ d6
   clear hb6))
 by_cases hq:eqv ⟨k,n,s⟩ ⟨k',n',s'⟩=true
 ·rw[hq]
  have HQ:=hid hq
  clear hq hne
  by_cases hl:40<s.length
  ·have hlz:(40:Int)<((aj s).size:Int):=by rw[dW];omega
   go_wp2
   go_ret
   exact⟨by rw[HR.out,if_neg (by rw[HQ.out];simp),if_pos hl];rfl,HB.out.trans (d6.mono HB.out.size)⟩
  ·have hlz : ¬((40:Int)<((aj s).size:Int)):=by rw[dW];omega
   go_wp2
   go_ret
   exact⟨by rw[HR.out,if_neg (by rw[HQ.out];simp),if_neg hl];rfl,HB.out.trans (d6.mono HB.out.size)⟩
 ·have hq':eqv ⟨k,n,s⟩ ⟨k',n',s'⟩=false:=by simpa using hq
  rw[hq']
  have HQ:=hid hq'
  clear hq hq' hne
  go_wp2
  go_ret
  exact⟨by rw[HR.out,if_pos HQ.out];rfl,HB.out.trans (d6.mono HB.out.size)⟩
end Go.Proofs.YtfeglkleoijlaaaGreatDoor
namespace Go.Proofs.YtfeglkleoijlaaaGreatDoor
open Go.Shelf
set_option linter.unusedVariables false
set_option maxRecDepth 100000
set_option maxHeartbeats 8000000
def rC:Ren:=⟨fun x=>if x=0 then 0 else if x=1 then 1 else if x=2 then 2 else if x=107 then 57 else if x=108 then 112 else if x=129 then 192 else if x=137 then 165 else if x=138 then 188 else if x=143 then 189 else if x=154 then 181 else if x=155 then 176 else if x=156 then 152 else if x=165 then 169 else if x=166 then 170 else if x=169 then 171 else if x=171 then 167 else if x=195 then 196 else if x=197 then 190 else if x=217 then 174 else if x=218 then 197 else if x=219 then 198 else if x=224 then 203 else if x=225 then 202 else if x=240 then 177 else if x=241 then 178 else if x=243 then 175 else if x=246 then 180 else if x=260 then 199 else if x=266 then 179 else if x=267 then 204 else if x=276 then 182 else if x=277 then 183 else if x=283 then 184 else if x=284 then 185 else if x=285 then 186 else if x=286 then 187 else if x=314 then 205 else if x=316 then 126 else if x=317 then 191 else if x=318 then 193 else if x=319 then 194 else if x=320 then 195 else if x=337 then 200 else if x=338 then 201 else if x=347 then 206 else if x=348 then 207 else if x=349 then 208 else if x=350 then 209 else if x=351 then 210 else if x=352 then 211 else if x=353 then 212 else if x=354 then 213 else if x=355 then 214 else if x=356 then 215 else if x=357 then 216 else if x=358 then 217 else if x=359 then 218 else if x=360 then 219 else if x=361 then 220 else if x=362 then 221 else if x=366 then 222 else if x=367 then 231 else x,fun x=>if x=0 then 0 else if x=1 then 1 else if x=2 then 2 else if x=3 then 3 else if x=4 then 4 else if x=5 then 5 else if x=6 then 6 else if x=7 then 7 else if x=8 then 8 else if x=9 then 9 else if x=10 then 10 else if x=11 then 11 else if x=12 then 12 else if x=13 then 13 else if x=14 then 14 else if x=15 then 15 else if x=16 then 16 else if x=17 then 17 else if x=18 then 18 else if x=19 then 19 else if x=20 then 20 else if x=21 then 21 else if x=27 then 221 else if x=28 then 87 else if x=29 then 110 else if x=30 then 155 else if x=31 then 177 else if x=37 then 192 else if x=41 then 160 else if x=46 then 229 else if x=47 then 230 else if x=51 then 227 else if x=52 then 231 else if x=53 then 216 else if x=54 then 217 else if x=55 then 195 else if x=65 then 211 else if x=66 then 209 else if x=67 then 188 else if x=69 then 129 else if x=70 then 199 else if x=71 then 200 else if x=72 then 201 else if x=73 then 186 else if x=74 then 202 else if x=75 then 203 else if x=76 then 204 else if x=77 then 205 else if x=80 then 206 else if x=81 then 245 else if x=83 then 197 else if x=84 then 210 else if x=103 then 93 else if x=104 then 80 else if x=105 then 222 else if x=106 then 223 else if x=111 then 134 else if x=112 then 162 else if x=114 then 224 else if x=119 then 232 else if x=127 then 193 else if x=137 then 233 else if x=138 then 234 else if x=139 then 235 else if x=146 then 238 else if x=151 then 239 else if x=164 then 212 else if x=165 then 213 else if x=166 then 214 else if x=171 then 215 else if x=172 then 218 else if x=173 then 219 else if x=174 then 220 else if x=211 then 225 else if x=212 then 226 else if x=213 then 228 else if x=232 then 236 else if x=233 then 237 else if x=238 then 240 else if x=239 then 241 else if x=240 then 242 else if x=241 then 243 else if x=242 then 244 else if x=243 then 246 else if x=244 then 247 else if x=245 then 248 else if x=246 then 249 else if x=247 then 250 else if x=248 then 251 else if x=249 then 252 else x,fun x=>if x=1 then 1 else if x=3 then 3 else if x=4 then 4 else if x=17 then 2 else if x=18 then 5 else if x=19 then 6 else x⟩
theorem CJ:Lays.n155 Tryz.prog rC where
 mixed:=by kernel_rfl
 f138:=by kernel_rfl
 f143:=by kernel_rfl
 f154:=by kernel_rfl
 f155:=by kernel_rfl
 f165:=by kernel_rfl
 f166:=by kernel_rfl
 f169:=by kernel_rfl
 f195:=by kernel_rfl
 f197:=by kernel_rfl
 f217:=by kernel_rfl
 f218:=by kernel_rfl
 f219:=by kernel_rfl
 f224:=by kernel_rfl
 f225:=by kernel_rfl
 f240:=by kernel_rfl
 f241:=by kernel_rfl
 f260:=by kernel_rfl
 f266:=by kernel_rfl
 f267:=by kernel_rfl
 f276:=by kernel_rfl
 f277:=by kernel_rfl
 f314:=by kernel_rfl
 t0:=by kernel_rfl
 a0:=fun w=>by kernel_rfl
 z0:=fun w=>by kernel_rfl
 v0:=fun w=>by kernel_rfl
 t3:=by kernel_rfl
 a3:=fun w=>by kernel_rfl
 z3:=fun w=>by kernel_rfl
 v3:=fun w=>by kernel_rfl
 t4:=by kernel_rfl
 a4:=fun w=>by kernel_rfl
 z4:=fun w=>by kernel_rfl
 v4:=fun w=>by kernel_rfl
 t5:=by kernel_rfl
 a5:=fun w=>by kernel_rfl
 z5:=fun w=>by kernel_rfl
 v5:=fun w=>by kernel_rfl
 t9:=by kernel_rfl
 a9:=fun w=>by kernel_rfl
 z9:=fun w=>by kernel_rfl
 v9:=fun w=>by kernel_rfl
 t20:=by kernel_rfl
 a20:=fun w=>by kernel_rfl
 z20:=fun w=>by kernel_rfl
 v20:=fun w=>by kernel_rfl
 t21:=by kernel_rfl
 a21:=fun w=>by kernel_rfl
 z21:=fun w=>by kernel_rfl
 v21:=fun w=>by kernel_rfl
 t37:=by kernel_rfl
 a37:=fun w=>by kernel_rfl
 z37:=fun w=>by kernel_rfl
 v37:=fun w=>by kernel_rfl
 t46:=by kernel_rfl
 a46:=fun w=>by kernel_rfl
 z46:=fun w=>by kernel_rfl
 v46:=fun w=>by kernel_rfl
 t51:=by kernel_rfl
 a51:=fun w=>by kernel_rfl
 z51:=fun w=>by kernel_rfl
 v51:=fun w=>by kernel_rfl
 t70:=by kernel_rfl
 a70:=fun w=>by kernel_rfl
 z70:=fun w=>by kernel_rfl
 v70:=fun w=>by kernel_rfl
 t72:=by kernel_rfl
 a72:=fun w=>by kernel_rfl
 z72:=fun w=>by kernel_rfl
 v72:=fun w=>by kernel_rfl
 t75:=by kernel_rfl
 a75:=fun w=>by kernel_rfl
 z75:=fun w=>by kernel_rfl
 v75:=fun w=>by kernel_rfl
 t76:=by kernel_rfl
 a76:=fun w=>by kernel_rfl
 z76:=fun w=>by kernel_rfl
 v76:=fun w=>by kernel_rfl
 t105:=by kernel_rfl
 a105:=fun w=>by kernel_rfl
 z105:=fun w=>by kernel_rfl
 v105:=fun w=>by kernel_rfl
 t119:=by kernel_rfl
 a119:=fun w=>by kernel_rfl
 z119:=fun w=>by kernel_rfl
 t127:=by kernel_rfl
 a127:=fun w=>by kernel_rfl
 z127:=fun w=>by kernel_rfl
 v127:=fun w=>by kernel_rfl
 t138:=by kernel_rfl
 a138:=fun w=>by kernel_rfl
 z138:=fun w=>by kernel_rfl
 v138:=fun w=>by kernel_rfl
 t139:=by kernel_rfl
 a139:=fun w=>by kernel_rfl
 z139:=fun w=>by kernel_rfl
 v139:=fun w=>by kernel_rfl
 t146:=by kernel_rfl
 a146:=fun w=>by kernel_rfl
 z146:=fun w=>by kernel_rfl
 v146:=fun w=>by kernel_rfl
 t164:=by kernel_rfl
 a164:=fun w=>by kernel_rfl
 z164:=fun w=>by kernel_rfl
 v164:=fun w=>by kernel_rfl
 g1:=by kernel_rfl
 g3:=by kernel_rfl
 g4:=by kernel_rfl
theorem Gm:Builder.Extra Tryz.prog rC where
 sizeBuilder:=by kernel_rfl
 liesBuilder:=by kernel_rfl
 t5:=CJ.t5
 a5:=CJ.a5
 z5:=CJ.z5
 v5:=CJ.v5
 infoByte:=by kernel_rfl
 cellsByte:=by kernel_rfl
 sizeByte:=by kernel_rfl
 neB5:=by decide
theorem RJ:LaysM.n171 Tryz.prog rC where
 mixed:=by kernel_rfl
 f129:=by kernel_rfl
 f171:=by kernel_rfl
 f243:=by kernel_rfl
 f246:=by kernel_rfl
 f283:=by kernel_rfl
 f284:=by kernel_rfl
 f285:=by kernel_rfl
 f286:=by kernel_rfl
 f317:=by kernel_rfl
 f318:=by kernel_rfl
 f319:=by kernel_rfl
 f320:=by kernel_rfl
 f337:=by kernel_rfl
 f338:=by kernel_rfl
 t0:=by kernel_rfl
 a0:=fun w=>by kernel_rfl
 z0:=fun w=>by kernel_rfl
 v0:=fun w=>by kernel_rfl
 t2:=by kernel_rfl
 a2:=fun w=>by kernel_rfl
 z2:=fun w=>by kernel_rfl
 v2:=fun w=>by kernel_rfl
 t3:=by kernel_rfl
 a3:=fun w=>by kernel_rfl
 z3:=fun w=>by kernel_rfl
 v3:=fun w=>by kernel_rfl
 t4:=by kernel_rfl
 a4:=fun w=>by kernel_rfl
 z4:=fun w=>by kernel_rfl
 v4:=fun w=>by kernel_rfl
 t5:=by kernel_rfl
 a5:=fun w=>by kernel_rfl
 z5:=fun w=>by kernel_rfl
 v5:=fun w=>by kernel_rfl
 t9:=by kernel_rfl
 a9:=fun w=>by kernel_rfl
 z9:=fun w=>by kernel_rfl
 v9:=fun w=>by kernel_rfl
 t20:=by kernel_rfl
 a20:=fun w=>by kernel_rfl
 z20:=fun w=>by kernel_rfl
 v20:=fun w=>by kernel_rfl
 t37:=by kernel_rfl
 a37:=fun w=>by kernel_rfl
 z37:=fun w=>by kernel_rfl
 v37:=fun w=>by kernel_rfl
 t46:=by kernel_rfl
 a46:=fun w=>by kernel_rfl
 z46:=fun w=>by kernel_rfl
 v46:=fun w=>by kernel_rfl
 t51:=by kernel_rfl
 a51:=fun w=>by kernel_rfl
 z51:=fun w=>by kernel_rfl
 v51:=fun w=>by kernel_rfl
 t53:=by kernel_rfl
 a53:=fun w=>by kernel_rfl
 z53:=fun w=>by kernel_rfl
 v53:=fun w=>by kernel_rfl
 t171:=by kernel_rfl
 a171:=fun w=>by kernel_rfl
 z171:=fun w=>by kernel_rfl
 v171:=fun w=>by kernel_rfl
 t173:=by kernel_rfl
 a173:=fun w=>by kernel_rfl
 z173:=fun w=>by kernel_rfl
 v173:=fun w=>by kernel_rfl
 t212:=by kernel_rfl
 a212:=fun w=>by kernel_rfl
 z212:=fun w=>by kernel_rfl
 v212:=fun w=>by kernel_rfl
 t213:=by kernel_rfl
 a213:=fun w=>by kernel_rfl
 z213:=fun w=>by kernel_rfl
 t232:=by kernel_rfl
 a232:=fun w=>by kernel_rfl
 z232:=fun w=>by kernel_rfl
 v232:=fun w=>by kernel_rfl
 t233:=by kernel_rfl
 a233:=fun w=>by kernel_rfl
 z233:=fun w=>by kernel_rfl
 v233:=fun w=>by kernel_rfl
 g17:=by kernel_rfl
 g18:=by kernel_rfl
 g19:=by kernel_rfl
 i0:=by kernel_rfl
 i2:=by kernel_rfl
 i3:=by kernel_rfl
 i4:=by kernel_rfl
 i5:=by kernel_rfl
 i9:=by kernel_rfl
 i20:=by kernel_rfl
 i37:=by kernel_rfl
 i46:=by kernel_rfl
 i51:=by kernel_rfl
 i53:=by kernel_rfl
 i171:=by kernel_rfl
 i173:=by kernel_rfl
 i212:=by kernel_rfl
 i232:=by kernel_rfl
 i233:=by kernel_rfl
 m17:=by kernel_rfl
 m18:=by kernel_rfl
 m19:=by kernel_rfl
theorem Tw:Lays.n137 Tryz.prog rC where
 mixed:=by kernel_rfl
 f137:=by kernel_rfl
 f217:=by kernel_rfl
 f266:=by kernel_rfl
 t3:=by kernel_rfl
 a3:=fun w=>by kernel_rfl
 z3:=fun w=>by kernel_rfl
 v3:=fun w=>by kernel_rfl
 t5:=by kernel_rfl
 a5:=fun w=>by kernel_rfl
 z5:=fun w=>by kernel_rfl
 v5:=fun w=>by kernel_rfl
 t9:=by kernel_rfl
 a9:=fun w=>by kernel_rfl
 z9:=fun w=>by kernel_rfl
 v9:=fun w=>by kernel_rfl
theorem NQ:Lays.n156 Tryz.prog rC where
 mixed:=by kernel_rfl
 f156:=by kernel_rfl
 f165:=by kernel_rfl
 f166:=by kernel_rfl
 f169:=by kernel_rfl
 f240:=by kernel_rfl
 f241:=by kernel_rfl
 f276:=by kernel_rfl
 f277:=by kernel_rfl
 t0:=by kernel_rfl
 a0:=fun w=>by kernel_rfl
 z0:=fun w=>by kernel_rfl
 v0:=fun w=>by kernel_rfl
 t3:=by kernel_rfl
 a3:=fun w=>by kernel_rfl
 z3:=fun w=>by kernel_rfl
 v3:=fun w=>by kernel_rfl
 t4:=by kernel_rfl
 a4:=fun w=>by kernel_rfl
 z4:=fun w=>by kernel_rfl
 v4:=fun w=>by kernel_rfl
 t9:=by kernel_rfl
 a9:=fun w=>by kernel_rfl
 z9:=fun w=>by kernel_rfl
 v9:=fun w=>by kernel_rfl
 t20:=by kernel_rfl
 a20:=fun w=>by kernel_rfl
 z20:=fun w=>by kernel_rfl
 v20:=fun w=>by kernel_rfl
 t31:=by kernel_rfl
 a31:=fun w=>by kernel_rfl
 z31:=fun w=>by kernel_rfl
 v31:=fun w=>by kernel_rfl
 t37:=by kernel_rfl
 a37:=fun w=>by kernel_rfl
 z37:=fun w=>by kernel_rfl
 v37:=fun w=>by kernel_rfl
 t70:=by kernel_rfl
 a70:=fun w=>by kernel_rfl
 z70:=fun w=>by kernel_rfl
 v70:=fun w=>by kernel_rfl
 t72:=by kernel_rfl
 a72:=fun w=>by kernel_rfl
 z72:=fun w=>by kernel_rfl
 v72:=fun w=>by kernel_rfl
 t75:=by kernel_rfl
 a75:=fun w=>by kernel_rfl
 z75:=fun w=>by kernel_rfl
 v75:=fun w=>by kernel_rfl
 t76:=by kernel_rfl
 a76:=fun w=>by kernel_rfl
 z76:=fun w=>by kernel_rfl
 v76:=fun w=>by kernel_rfl
 t127:=by kernel_rfl
 a127:=fun w=>by kernel_rfl
 z127:=fun w=>by kernel_rfl
 v127:=fun w=>by kernel_rfl
 t164:=by kernel_rfl
 a164:=fun w=>by kernel_rfl
 z164:=fun w=>by kernel_rfl
 v164:=fun w=>by kernel_rfl
theorem Rb:rC.f 155=176∧rC.f 171=167∧rC.g 1=1∧rC.g 17=2:=by decide
theorem UZ:rC.f 137=165∧True∧True∧True∧True∧True∧rC.f 166=170∧rC.f 169=171∧True∧rC.f 156=152:=by decide
end Go.Proofs.YtfeglkleoijlaaaGreatDoor
