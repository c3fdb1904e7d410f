/- Packed for the hand-in: Base VTell VRight LaysV -/
import Derived.WalkKit
import Derived.WalkLawsBesides
import Derived.WalkSpells
import Derived.Handy
import Derived.Laws.AppendOwnNone
import Derived.Laws.BytesArg
import Derived.Test.YtaaggohjmhifbaaGreatDoorChecked
import Derived.Laws.StructEq
import Derived.Deep.RegionHeld3
import Derived.Shelf.Strings.Replace
import Derived.Shelf.Strconv.Itoa3
import Derived.Shelf.Small.Strs
import Derived.Shelf.Strings.Prefix
import Derived.Shelf.Strings.Cut
import Derived.Shelf.Strings.Fields
import Derived.Shelf.Strings.Builder1
import Derived.Shelf.Strings.OnBuilder
import Derived.Shelf.Slices.Turned
import Derived.Shelf.Strconv.AtoiAll
namespace Go.Proofs.YtaaggohjmhifbaaGreatDoor
open Go.RowKit
set_option linter.unusedVariables false
set_option maxRecDepth 20000
set_option maxHeartbeats 8000000
theorem hid {p:Prop} (h:p):Hid p:=h
def Shows (B:Nat) (w:World) (v:Value) (bs:List UInt8):Prop :=
 ∃
  a c,v = .slice a bs.length c∧bs.length≤c∧c≤maxLen∧(a=none→c=0) ∧
  (bs≠[]→∃b off,a=some ⟨b,off,none⟩∧b<B∧∀j,j<bs.length→w.cell? ⟨b,off+j,none⟩=some (.int .u8 ((bs[j]?.getD 0).toNat:Int)))
theorem Shows.below {B:Nat} {w w':World} {v:Value} {bs:List UInt8} (h:Shows B w v bs) (hb:Below B w w'):Shows B w' v bs:=by
 obtain⟨a,c,hv,h1,h2,hn,h3⟩:=h
 refine ⟨a,c,hv,h1,h2,hn,fun hne=>?_⟩
 obtain⟨b,off,ha,hlt,hc⟩:=h3 hne
 exact⟨b,off,ha,hlt,fun j hj=>by rw[hb.cell (p:=⟨b,off+j,none⟩) hlt];exact hc j hj⟩
theorem Shows.mono {B B':Nat} {w:World} {v:Value} {bs:List UInt8} (h:Shows B w v bs) (hB:B≤B'):Shows B' w v bs:=by
 obtain⟨a,c,hv,h1,h2,hn,h3⟩:=h
 refine ⟨a,c,hv,h1,h2,hn,fun hne=>?_⟩
 obtain⟨b,off,ha,hlt,hc⟩:=h3 hne
 exact⟨b,off,ha,by omega,hc⟩
theorem Shows.alloc {B:Nat} {w:World} {v:Value} {bs:List UInt8} (h:Shows B w v bs) (hB:B≤w.heap.size) (o:Obj):Shows B (w.alloc o) v bs :=
 h.below ((Below.refl B w).alloc hB o)
theorem Shows.take {B:Nat} {w:World} {b off l c:Nat} {bs:List UInt8} (h:Shows B w (.slice (some ⟨b,off,none⟩) l c) bs) (n:Nat) (hn:n≤bs.length) :
  Shows B w (.slice (some ⟨b,off,none⟩) n c) (bs.take n):=by
 obtain⟨a,c',hv,h1,h2,_,h3⟩:=h
 simp only[Value.slice.injEq] at hv
 obtain⟨rfl,hl,rfl⟩:=hv
 have hlen:(bs.take n).length=n:=by simp;omega
 refine ⟨_,c,by rw[hlen],by rw[hlen];omega,h2,(fun e=>by cases e),fun hne=>?_⟩
 obtain⟨b',off',ha,hb,hc⟩:=h3 (by intro e;rw[e] at hne;simp at hne)
 refine ⟨b',off',ha,hb,fun j hj=>?_⟩
 rw[hc j (by rw[hlen] at hj;omega),List.getElem?_take,if_pos (by rw[hlen] at hj;exact hj)]
theorem Shows.drop {B:Nat} {w:World} {b off l c:Nat} {bs:List UInt8} (h:Shows B w (.slice (some ⟨b,off,none⟩) l c) bs) (n:Nat) (hn:n<bs.length) :
  Shows B w (.slice (some ⟨b,off+n,none⟩) (bs.length-n) (c-n)) (bs.drop n):=by
 obtain⟨a,c',hv,h1,h2,_,h3⟩:=h
 simp only[Value.slice.injEq] at hv
 obtain⟨rfl,hl,rfl⟩:=hv
 have hlen:(bs.drop n).length=bs.length-n:=by simp
 refine ⟨_,c-n,by rw[hlen],by rw[hlen];omega,by omega,(fun e=>by cases e),fun hne=>?_⟩
 obtain⟨b',off',ha,hb,hc⟩:=h3 (by intro e;rw[e] at hn;simp at hn)
 simp only[Option.some.injEq,Addr.mk.injEq] at ha
 obtain⟨rfl,rfl,_⟩:=ha
 refine ⟨b,off+n,rfl,hb,fun j hj=>?_⟩
 rw[Nat.add_assoc,hc (n+j) (by rw[hlen] at hj;omega),List.getElem?_drop]
theorem Shows.empty (B:Nat) (w:World) (ad:Addr) (c:Nat) (hc:c≤maxLen):Shows B w (.slice (some ad) 0 c) [] :=
 ⟨some ad,c,rfl,Nat.zero_le _,hc,(fun e=>by cases e),fun h=>absurd rfl h⟩
def str8 (bs:List UInt8):ByteArray:=⟨bs.toArray⟩
end Go.Proofs.YtaaggohjmhifbaaGreatDoor
namespace Go.Proofs.YtaaggohjmhifbaaGreatDoor
open Go.RowKit
set_option linter.unusedVariables false
set_option maxRecDepth 20000
end Go.Proofs.YtaaggohjmhifbaaGreatDoor
namespace Go.Proofs.YtaaggohjmhifbaaGreatDoor
open Go.RowKit
set_option linter.unusedVariables false
set_option maxRecDepth 20000
end Go.Proofs.YtaaggohjmhifbaaGreatDoor
namespace Go.Proofs.YtaaggohjmhifbaaGreatDoor
open Go.RowKit
set_option linter.unusedVariables false
set_option maxRecDepth 20000
end Go.Proofs.YtaaggohjmhifbaaGreatDoor
namespace Go.Proofs.YtaaggohjmhifbaaGreatDoor
open Go.RowKit
set_option linter.unusedVariables false
set_option maxRecDepth 20000
def Lists (B:Nat) (w:World) (v:Value) (rows:List (List UInt8)):Prop :=
 ∃
  (a:Option Addr) (c:Nat) (vs:List Value),v = .slice a rows.length c∧rows.length≤c∧c≤maxLen∧vs.length=rows.length ∧
  (rows≠[]→∃b off,a=some ⟨b,off,none⟩∧b<B∧∀(j:Nat) (u:Value),vs[j]?=some u→w.cell? ⟨b,off+j,none⟩=some u) ∧
  ∀(j:Nat) (u:Value) (r:List UInt8),vs[j]?=some u→rows[j]?=some r→Shows B w u r
theorem Lists.below {B:Nat} {w w':World} {v:Value} {rows:List (List UInt8)} (h:Lists B w v rows) (hb:Below B w w'):Lists B w' v rows:=by
 obtain⟨a,c,vs,hv,h1,h2,h3,h4,h5⟩:=h
 refine ⟨a,c,vs,hv,h1,h2,h3,fun hne=>?_,fun j u r hu hr=>(h5 j u r hu hr).below hb⟩
 obtain⟨b,off,ha,hlt,hc⟩:=h4 hne
 exact⟨b,off,ha,hlt,fun j u hu=>by rw[hb.cell (p:=⟨b,off+j,none⟩) hlt];exact hc j u hu⟩
theorem Lists.at {B:Nat} {w:World} {a:Option Addr} {l c:Nat} {rows:List (List UInt8)} (h:Lists B w (.slice a l c) rows) (k:Nat) (hk:k<rows.length) :
  ∃b off ak ck,a=some ⟨b,off,none⟩∧w.cell? ⟨b,off+k,none⟩=some (.slice ak (rows[k]?.getD []).length ck)∧Shows B w (.slice ak (rows[k]?.getD []).length ck) (rows[k]?.getD []):=by
 obtain⟨a',c',vs,hv,h1,h2,h3,h4,h5⟩:=h
 simp only[Value.slice.injEq] at hv
 obtain⟨rfl,_,_⟩:=hv
 obtain⟨b,off,ha,hlt,hc⟩:=h4 (by intro e;rw[e] at hk;simp at hk)
 have hv:=hc k (vs[k]'(by omega)) (List.getElem?_eq_getElem _)
 have hs:=h5 k (vs[k]'(by omega)) rows[k] (List.getElem?_eq_getElem _) (List.getElem?_eq_getElem _)
 have hs2:=hs
 obtain⟨ak,ck,e,_⟩:=hs
 rw[e] at hv hs2
 refine ⟨b,off,ak,ck,ha,?_,?_⟩
 ·simpa [List.getElem?_eq_getElem hk] using hv
 ·simpa [List.getElem?_eq_getElem hk] using hs2
end Go.Proofs.YtaaggohjmhifbaaGreatDoor
namespace Go.Proofs.YtaaggohjmhifbaaGreatDoor
open Go.RowKit
set_option linter.unusedVariables false
set_option maxRecDepth 20000
end Go.Proofs.YtaaggohjmhifbaaGreatDoor
namespace Go.Proofs.YtaaggohjmhifbaaGreatDoor
open Go.RowKit
set_option linter.unusedSimpArgs false
set_option linter.unusedVariables false
set_option maxRecDepth 20000
set_option maxHeartbeats 8000000
theorem list_beqV (a b:List UInt8):(a==b)=decide (a=b):=by
 by_cases h:a=b
 ·subst h;simp
 ·rw[decide_eq_false h];simpa using h
theorem str8_toList (a:List UInt8):(str8 a).toList=a:=by
 rw[ByteArray.toList_eq];rfl
theorem str_beqV (a b:List UInt8):((str8 a).toList==(str8 b).toList)=decide (a=b):=by
 rw[str8_toList,str8_toList,list_beqV]
theorem str8_size (bs:List UInt8):(str8 bs).size=bs.length:=rfl
theorem str8_of (s:ByteArray):str8 s.data.toList=s:=by
 cases s;simp[str8]
theorem str8_inj {a b:List UInt8} (h:str8 a=str8 b):a=b:=by
 have:=congrArg (fun x=>x.data.toList) h
 simpa [str8] using this
structure Vl where
 k:Int
 n:Int
 s:List UInt8
def vc (x:Vl):List Value:=[.int .i64 x.k,.int .i64 x.n,.string (str8 x.s)]
def eqv (x y:Vl):Bool:=decide (x.k=y.k∧x.n=y.n∧x.s=y.s)
theorem eqv_iff {x y:Vl}:eqv x y=true↔x=y:=by
 obtain⟨k,n,s⟩:=x
 obtain⟨k',n',s'⟩:=y
 simp[eqv]
def namedV (x:Vl):Vl:=if x.k=1 then ⟨1,x.n,[]⟩ else if x.k=2 then ⟨2,0,x.s⟩ else ⟨0,0,[]⟩
def rightV (x:Vl):Nat:=if eqv x (namedV x)=false then 4 else if 40<x.s.length then 2 else 0
def cmpS (a b:List UInt8):Int:=if Op.bytesLess a b then -1 else if a=b then 0 else 1
theorem nanStr_any (a:ByteArray) (w:World):Calls Tryz.prog 78 #[.string a] w fun e w'=>e = .returned (.bool false)∧w'=w:=by
 go_enter Tryz.func78,Tryz.ntmps78
 go_wp2
 go_ret
 exact⟨by simp,rfl⟩
theorem cmpStr_any (a b:List UInt8) (w:World):Calls Tryz.prog 45 #[.string (str8 a),.string (str8 b)] w fun e w'=>e = .returned (.int .i64 (cmpS a b))∧w'=w:=by
 have e1:=str8_toList a
 have e2:=str8_toList b
 by_cases h:Op.bytesLess a b=true
 ·have hd:cmpS a b = -1:=by simp[cmpS,h]
  rw[hd]
  have h1:Op.bytesLess (str8 a).toList (str8 b).toList=true:=by rw[e1,e2];exact h
  clear e1 e2 h
  go_enter Tryz.func45,Tryz.ntmps45
  go_wp2_with (go_at_call 78;refine (nanStr_any _ _).mono ?_;rintro e w' ⟨rfl,rfl⟩)
  go_ret
  exact⟨rfl,rfl⟩
 ·have hf:Op.bytesLess a b=false:=by simpa using h
  have h1:Op.bytesLess (str8 a).toList (str8 b).toList=false:=by rw[e1,e2];exact hf
  have h2:=str_beqV a b
  clear e1 e2 h
  by_cases hab:a=b
  ·have hd:cmpS a b=0:=by rw[cmpS,hf,if_neg (by simp),if_pos hab]
   rw[hd]
   rw[decide_eq_true hab] at h2
   clear hab hf hd
   go_enter Tryz.func45,Tryz.ntmps45
   go_wp2_with (go_at_call 78;refine (nanStr_any _ _).mono ?_;rintro e w' ⟨rfl,rfl⟩)
   go_ret
   exact⟨rfl,rfl⟩
  ·have hd:cmpS a b=1:=by rw[cmpS,hf,if_neg (by simp),if_neg hab]
   rw[hd]
   rw[decide_eq_false hab] at h2
   clear hab hf hd
   go_enter Tryz.func45,Tryz.ntmps45
   go_wp2_with (go_at_call 78;refine (nanStr_any _ _).mono ?_;rintro e w' ⟨rfl,rfl⟩)
   go_ret
   exact⟨rfl,rfl⟩
theorem cell_row (w:World) (g:Nat) (cs:Array Value) (t:TypeId) (fr:Nat × Nat) (i:Nat) (h:w.heap[g]?=some (.cells cs t fr)):w.cell? ⟨g,i,none⟩=cs[i]?:=by
 simp[World.cell?,h]
theorem box3 (w:World) (a b c:Value) (t:TypeId):∃W,w.alloc (.cells #[a,b,c] t)=W∧Below w.heap.size w W∧w.heap.size<W.heap.size ∧
  ∀W',Below W.heap.size W W'→W'.cell? ⟨w.heap.size,0,none⟩=some a∧W'.cell? ⟨w.heap.size,1,none⟩=some b∧W'.cell? ⟨w.heap.size,2,none⟩=some c:=by
 refine ⟨_,rfl,(Below.refl _ _).alloc (Nat.le_refl _) _,by simp,fun W' h=>?_⟩
 have hn:W'.heap[w.heap.size]?=some (.cells #[a,b,c] t):=(h.block _ (by simp)).trans (heap_alloc_new w _)
 exact⟨by rw[cell_row _ _ _ _ _ _ hn];rfl,by rw[cell_row _ _ _ _ _ _ hn];rfl,by rw[cell_row _ _ _ _ _ _ hn];rfl⟩
end Go.Proofs.YtaaggohjmhifbaaGreatDoor
namespace Go.Proofs.YtaaggohjmhifbaaGreatDoor
open Go.Shelf
set_option linter.unusedVariables false
set_option maxRecDepth 100000
set_option maxHeartbeats 8000000
def renV:Ren:=⟨fun x=>if x=0 then 0 else if x=1 then 1 else if x=2 then 2 else if x=99 then 223 else if x=109 then 274 else if x=110 then 256 else if x=125 then 77 else if x=128 then 148 else if x=129 then 149 else if x=137 then 209 else if x=138 then 286 else if x=143 then 287 else if x=145 then 259 else if x=154 then 271 else if x=155 then 251 else if x=156 then 173 else if x=157 then 261 else if x=165 then 220 else if x=166 then 221 else if x=169 then 222 else if x=170 then 260 else if x=171 then 218 else if x=172 then 258 else if x=195 then 301 else if x=197 then 288 else if x=199 then 279 else if x=205 then 305 else if x=206 then 254 else if x=217 then 245 else if x=218 then 302 else if x=219 then 294 else if x=220 then 277 else if x=224 then 307 else if x=225 then 306 else if x=229 then 278 else if x=240 then 252 else if x=241 then 253 else if x=243 then 250 else if x=244 then 275 else if x=245 then 276 else if x=246 then 270 else if x=247 then 289 else if x=260 then 303 else if x=261 then 295 else if x=266 then 268 else if x=267 then 308 else if x=276 then 272 else if x=277 then 273 else if x=279 then 290 else if x=280 then 291 else if x=281 then 292 else if x=282 then 293 else if x=283 then 282 else if x=284 then 283 else if x=285 then 284 else if x=286 then 285 else if x=287 then 304 else if x=311 then 309 else if x=312 then 310 else if x=314 then 316 else if x=316 then 79 else if x=317 then 297 else if x=318 then 298 else if x=319 then 299 else if x=320 then 300 else if x=321 then 314 else if x=322 then 315 else if x=329 then 204 else if x=330 then 205 else if x=336 then 78 else if x=337 then 312 else if x=338 then 313 else if x=347 then 318 else if x=348 then 319 else if x=349 then 320 else if x=350 then 321 else if x=351 then 322 else if x=352 then 323 else if x=353 then 324 else if x=354 then 325 else if x=355 then 326 else if x=356 then 327 else if x=357 then 328 else if x=358 then 329 else if x=359 then 330 else if x=360 then 331 else if x=361 then 332 else if x=362 then 333 else if x=363 then 336 else if x=364 then 334 else if x=365 then 335 else if x=366 then 337 else if x=367 then 353 else x,fun x=>if x=0 then 0 else if x=1 then 1 else if x=2 then 2 else if x=3 then 3 else if x=4 then 4 else if x=5 then 5 else if x=6 then 6 else if x=7 then 7 else if x=8 then 8 else if x=9 then 9 else if x=10 then 10 else if x=11 then 11 else if x=12 then 12 else if x=13 then 13 else if x=14 then 14 else if x=15 then 15 else if x=16 then 16 else if x=17 then 17 else if x=18 then 18 else if x=19 then 19 else if x=20 then 20 else if x=21 then 21 else if x=22 then 244 else if x=27 then 81 else if x=31 then 112 else if x=32 then 274 else if x=33 then 262 else if x=37 then 186 else if x=40 then 278 else if x=41 then 122 else if x=46 then 121 else if x=47 then 120 else if x=49 then 309 else if x=51 then 183 else if x=52 then 182 else if x=53 then 185 else if x=54 then 184 else if x=55 then 230 else if x=59 then 263 else if x=60 then 264 else if x=65 then 270 else if x=66 then 261 else if x=67 then 205 else if x=68 then 265 else if x=69 then 85 else if x=70 then 237 else if x=71 then 238 else if x=72 then 239 else if x=73 then 165 else if x=74 then 240 else if x=75 then 241 else if x=76 then 242 else if x=77 then 243 else if x=80 then 158 else if x=81 then 217 else if x=83 then 220 else if x=84 then 269 else if x=85 then 287 else if x=86 then 288 else if x=100 then 111 else if x=103 then 79 else if x=104 then 78 else if x=105 then 284 else if x=106 then 285 else if x=108 then 304 else if x=111 then 192 else if x=112 then 124 else if x=114 then 268 else if x=119 then 276 else if x=120 then 277 else if x=127 then 187 else if x=128 then 275 else if x=131 then 180 else if x=137 then 316 else if x=138 then 317 else if x=139 then 318 else if x=140 then 295 else if x=141 then 296 else if x=143 then 320 else if x=144 then 321 else if x=145 then 322 else if x=146 then 323 else if x=151 then 324 else if x=152 then 292 else if x=153 then 293 else if x=154 then 294 else if x=164 then 271 else if x=165 then 272 else if x=166 then 273 else if x=167 then 286 else if x=168 then 289 else if x=169 then 290 else if x=170 then 291 else if x=171 then 280 else if x=172 then 281 else if x=173 then 282 else if x=174 then 283 else if x=175 then 300 else if x=176 then 301 else if x=182 then 175 else if x=183 then 176 else if x=193 then 305 else if x=194 then 306 else if x=195 then 307 else if x=196 then 308 else if x=197 then 310 else if x=198 then 311 else if x=199 then 312 else if x=200 then 313 else if x=201 then 314 else if x=202 then 315 else if x=209 then 302 else if x=210 then 303 else if x=211 then 297 else if x=212 then 298 else if x=213 then 299 else if x=214 then 319 else if x=218 then 224 else if x=219 then 225 else if x=220 then 226 else if x=222 then 228 else if x=226 then 325 else if x=227 then 326 else if x=228 then 256 else if x=229 then 257 else if x=232 then 327 else if x=233 then 328 else if x=238 then 329 else if x=239 then 330 else if x=240 then 331 else if x=241 then 332 else if x=242 then 333 else if x=243 then 334 else if x=244 then 335 else if x=245 then 336 else if x=246 then 337 else if x=247 then 338 else if x=248 then 339 else if x=249 then 340 else x,fun x=>if x=0 then 1 else if x=1 then 2 else if x=3 then 7 else if x=4 then 8 else if x=6 then 3 else if x=15 then 5 else if x=16 then 6 else if x=17 then 4 else if x=18 then 9 else if x=19 then 10 else x⟩
theorem laysR:Lays.n155 Tryz.prog renV where
 mixed:=by kernel_rfl
 f138:=by kernel_rfl
 f143:=by kernel_rfl
 f154:=by kernel_rfl
 f155:=by kernel_rfl
 f165:=by kernel_rfl
 f166:=by kernel_rfl
 f169:=by kernel_rfl
 f195:=by kernel_rfl
 f197:=by kernel_rfl
 f217:=by kernel_rfl
 f218:=by kernel_rfl
 f219:=by kernel_rfl
 f224:=by kernel_rfl
 f225:=by kernel_rfl
 f240:=by kernel_rfl
 f241:=by kernel_rfl
 f260:=by kernel_rfl
 f266:=by kernel_rfl
 f267:=by kernel_rfl
 f276:=by kernel_rfl
 f277:=by kernel_rfl
 f314:=by kernel_rfl
 t0:=by kernel_rfl
 a0:=fun w=>by kernel_rfl
 z0:=fun w=>by kernel_rfl
 v0:=fun w=>by kernel_rfl
 t3:=by kernel_rfl
 a3:=fun w=>by kernel_rfl
 z3:=fun w=>by kernel_rfl
 v3:=fun w=>by kernel_rfl
 t4:=by kernel_rfl
 a4:=fun w=>by kernel_rfl
 z4:=fun w=>by kernel_rfl
 v4:=fun w=>by kernel_rfl
 t5:=by kernel_rfl
 a5:=fun w=>by kernel_rfl
 z5:=fun w=>by kernel_rfl
 v5:=fun w=>by kernel_rfl
 t9:=by kernel_rfl
 a9:=fun w=>by kernel_rfl
 z9:=fun w=>by kernel_rfl
 v9:=fun w=>by kernel_rfl
 t20:=by kernel_rfl
 a20:=fun w=>by kernel_rfl
 z20:=fun w=>by kernel_rfl
 v20:=fun w=>by kernel_rfl
 t21:=by kernel_rfl
 a21:=fun w=>by kernel_rfl
 z21:=fun w=>by kernel_rfl
 v21:=fun w=>by kernel_rfl
 t37:=by kernel_rfl
 a37:=fun w=>by kernel_rfl
 z37:=fun w=>by kernel_rfl
 v37:=fun w=>by kernel_rfl
 t46:=by kernel_rfl
 a46:=fun w=>by kernel_rfl
 z46:=fun w=>by kernel_rfl
 v46:=fun w=>by kernel_rfl
 t51:=by kernel_rfl
 a51:=fun w=>by kernel_rfl
 z51:=fun w=>by kernel_rfl
 v51:=fun w=>by kernel_rfl
 t70:=by kernel_rfl
 a70:=fun w=>by kernel_rfl
 z70:=fun w=>by kernel_rfl
 v70:=fun w=>by kernel_rfl
 t72:=by kernel_rfl
 a72:=fun w=>by kernel_rfl
 z72:=fun w=>by kernel_rfl
 v72:=fun w=>by kernel_rfl
 t75:=by kernel_rfl
 a75:=fun w=>by kernel_rfl
 z75:=fun w=>by kernel_rfl
 v75:=fun w=>by kernel_rfl
 t76:=by kernel_rfl
 a76:=fun w=>by kernel_rfl
 z76:=fun w=>by kernel_rfl
 v76:=fun w=>by kernel_rfl
 t105:=by kernel_rfl
 a105:=fun w=>by kernel_rfl
 z105:=fun w=>by kernel_rfl
 v105:=fun w=>by kernel_rfl
 t119:=by kernel_rfl
 a119:=fun w=>by kernel_rfl
 z119:=fun w=>by kernel_rfl
 t127:=by kernel_rfl
 a127:=fun w=>by kernel_rfl
 z127:=fun w=>by kernel_rfl
 v127:=fun w=>by kernel_rfl
 t138:=by kernel_rfl
 a138:=fun w=>by kernel_rfl
 z138:=fun w=>by kernel_rfl
 v138:=fun w=>by kernel_rfl
 t139:=by kernel_rfl
 a139:=fun w=>by kernel_rfl
 z139:=fun w=>by kernel_rfl
 v139:=fun w=>by kernel_rfl
 t146:=by kernel_rfl
 a146:=fun w=>by kernel_rfl
 z146:=fun w=>by kernel_rfl
 v146:=fun w=>by kernel_rfl
 t164:=by kernel_rfl
 a164:=fun w=>by kernel_rfl
 z164:=fun w=>by kernel_rfl
 v164:=fun w=>by kernel_rfl
 g1:=by kernel_rfl
 g3:=by kernel_rfl
 g4:=by kernel_rfl
theorem extraR:Builder.Extra Tryz.prog renV where
 sizeBuilder:=by kernel_rfl
 liesBuilder:=by kernel_rfl
 t5:=laysR.t5
 a5:=laysR.a5
 z5:=laysR.z5
 v5:=laysR.v5
 infoByte:=by kernel_rfl
 cellsByte:=by kernel_rfl
 sizeByte:=by kernel_rfl
 neB5:=by decide
theorem laysI:LaysM.n171 Tryz.prog renV where
 mixed:=by kernel_rfl
 f129:=by kernel_rfl
 f171:=by kernel_rfl
 f243:=by kernel_rfl
 f246:=by kernel_rfl
 f283:=by kernel_rfl
 f284:=by kernel_rfl
 f285:=by kernel_rfl
 f286:=by kernel_rfl
 f317:=by kernel_rfl
 f318:=by kernel_rfl
 f319:=by kernel_rfl
 f320:=by kernel_rfl
 f337:=by kernel_rfl
 f338:=by kernel_rfl
 t0:=by kernel_rfl
 a0:=fun w=>by kernel_rfl
 z0:=fun w=>by kernel_rfl
 v0:=fun w=>by kernel_rfl
 t2:=by kernel_rfl
 a2:=fun w=>by kernel_rfl
 z2:=fun w=>by kernel_rfl
 v2:=fun w=>by kernel_rfl
 t3:=by kernel_rfl
 a3:=fun w=>by kernel_rfl
 z3:=fun w=>by kernel_rfl
 v3:=fun w=>by kernel_rfl
 t4:=by kernel_rfl
 a4:=fun w=>by kernel_rfl
 z4:=fun w=>by kernel_rfl
 v4:=fun w=>by kernel_rfl
 t5:=by kernel_rfl
 a5:=fun w=>by kernel_rfl
 z5:=fun w=>by kernel_rfl
 v5:=fun w=>by kernel_rfl
 t9:=by kernel_rfl
 a9:=fun w=>by kernel_rfl
 z9:=fun w=>by kernel_rfl
 v9:=fun w=>by kernel_rfl
 t20:=by kernel_rfl
 a20:=fun w=>by kernel_rfl
 z20:=fun w=>by kernel_rfl
 v20:=fun w=>by kernel_rfl
 t37:=by kernel_rfl
 a37:=fun w=>by kernel_rfl
 z37:=fun w=>by kernel_rfl
 v37:=fun w=>by kernel_rfl
 t46:=by kernel_rfl
 a46:=fun w=>by kernel_rfl
 z46:=fun w=>by kernel_rfl
 v46:=fun w=>by kernel_rfl
 t51:=by kernel_rfl
 a51:=fun w=>by kernel_rfl
 z51:=fun w=>by kernel_rfl
 v51:=fun w=>by kernel_rfl
 t53:=by kernel_rfl
 a53:=fun w=>by kernel_rfl
 z53:=fun w=>by kernel_rfl
 v53:=fun w=>by kernel_rfl
 t171:=by kernel_rfl
 a171:=fun w=>by kernel_rfl
 z171:=fun w=>by kernel_rfl
 v171:=fun w=>by kernel_rfl
 t173:=by kernel_rfl
 a173:=fun w=>by kernel_rfl
 z173:=fun w=>by kernel_rfl
 v173:=fun w=>by kernel_rfl
 t212:=by kernel_rfl
 a212:=fun w=>by kernel_rfl
 z212:=fun w=>by kernel_rfl
 v212:=fun w=>by kernel_rfl
 t213:=by kernel_rfl
 a213:=fun w=>by kernel_rfl
 z213:=fun w=>by kernel_rfl
 t232:=by kernel_rfl
 a232:=fun w=>by kernel_rfl
 z232:=fun w=>by kernel_rfl
 v232:=fun w=>by kernel_rfl
 t233:=by kernel_rfl
 a233:=fun w=>by kernel_rfl
 z233:=fun w=>by kernel_rfl
 v233:=fun w=>by kernel_rfl
 g17:=by kernel_rfl
 g18:=by kernel_rfl
 g19:=by kernel_rfl
 i0:=by kernel_rfl
 i2:=by kernel_rfl
 i3:=by kernel_rfl
 i4:=by kernel_rfl
 i5:=by kernel_rfl
 i9:=by kernel_rfl
 i20:=by kernel_rfl
 i37:=by kernel_rfl
 i46:=by kernel_rfl
 i51:=by kernel_rfl
 i53:=by kernel_rfl
 i171:=by kernel_rfl
 i173:=by kernel_rfl
 i212:=by kernel_rfl
 i232:=by kernel_rfl
 i233:=by kernel_rfl
 m17:=by kernel_rfl
 m18:=by kernel_rfl
 m19:=by kernel_rfl
theorem laysIx:Lays.n137 Tryz.prog renV where
 mixed:=by kernel_rfl
 f137:=by kernel_rfl
 f217:=by kernel_rfl
 f266:=by kernel_rfl
 t3:=by kernel_rfl
 a3:=fun w=>by kernel_rfl
 z3:=fun w=>by kernel_rfl
 v3:=fun w=>by kernel_rfl
 t5:=by kernel_rfl
 a5:=fun w=>by kernel_rfl
 z5:=fun w=>by kernel_rfl
 v5:=fun w=>by kernel_rfl
 t9:=by kernel_rfl
 a9:=fun w=>by kernel_rfl
 z9:=fun w=>by kernel_rfl
 v9:=fun w=>by kernel_rfl
theorem laysHp:Lays.n99 Tryz.prog renV where
 mixed:=by kernel_rfl
 f99:=by kernel_rfl
 f206:=by kernel_rfl
 t3:=by kernel_rfl
 a3:=fun w=>by kernel_rfl
 z3:=fun w=>by kernel_rfl
 v3:=fun w=>by kernel_rfl
 t4:=by kernel_rfl
 a4:=fun w=>by kernel_rfl
 z4:=fun w=>by kernel_rfl
 v4:=fun w=>by kernel_rfl
 t9:=by kernel_rfl
 a9:=fun w=>by kernel_rfl
 z9:=fun w=>by kernel_rfl
 v9:=fun w=>by kernel_rfl
theorem laysCu:Lays.n145 Tryz.prog renV where
 mixed:=by kernel_rfl
 f145:=by kernel_rfl
 f217:=by kernel_rfl
 f219:=by kernel_rfl
 f220:=by kernel_rfl
 f224:=by kernel_rfl
 f225:=by kernel_rfl
 f266:=by kernel_rfl
 f267:=by kernel_rfl
 f314:=by kernel_rfl
 t3:=by kernel_rfl
 a3:=fun w=>by kernel_rfl
 z3:=fun w=>by kernel_rfl
 v3:=fun w=>by kernel_rfl
 t4:=by kernel_rfl
 a4:=fun w=>by kernel_rfl
 z4:=fun w=>by kernel_rfl
 v4:=fun w=>by kernel_rfl
 t5:=by kernel_rfl
 a5:=fun w=>by kernel_rfl
 z5:=fun w=>by kernel_rfl
 v5:=fun w=>by kernel_rfl
 t9:=by kernel_rfl
 a9:=fun w=>by kernel_rfl
 z9:=fun w=>by kernel_rfl
 v9:=fun w=>by kernel_rfl
 t46:=by kernel_rfl
 a46:=fun w=>by kernel_rfl
 z46:=fun w=>by kernel_rfl
 v46:=fun w=>by kernel_rfl
 t51:=by kernel_rfl
 a51:=fun w=>by kernel_rfl
 z51:=fun w=>by kernel_rfl
 v51:=fun w=>by kernel_rfl
 t59:=by kernel_rfl
 a59:=fun w=>by kernel_rfl
 z59:=fun w=>by kernel_rfl
 v59:=fun w=>by kernel_rfl
 t146:=by kernel_rfl
 a146:=fun w=>by kernel_rfl
 z146:=fun w=>by kernel_rfl
 v146:=fun w=>by kernel_rfl
 g1:=by kernel_rfl
theorem laysFi:Lays.n157 Tryz.prog renV where
 mixed:=by kernel_rfl
 f157:=by kernel_rfl
 f199:=by kernel_rfl
 f229:=by kernel_rfl
 f261:=by kernel_rfl
 f311:=by kernel_rfl
 f312:=by kernel_rfl
 t0:=by kernel_rfl
 a0:=fun w=>by kernel_rfl
 z0:=fun w=>by kernel_rfl
 v0:=fun w=>by kernel_rfl
 t3:=by kernel_rfl
 a3:=fun w=>by kernel_rfl
 z3:=fun w=>by kernel_rfl
 v3:=fun w=>by kernel_rfl
 t4:=by kernel_rfl
 a4:=fun w=>by kernel_rfl
 z4:=fun w=>by kernel_rfl
 v4:=fun w=>by kernel_rfl
 t5:=by kernel_rfl
 a5:=fun w=>by kernel_rfl
 z5:=fun w=>by kernel_rfl
 v5:=fun w=>by kernel_rfl
 t9:=by kernel_rfl
 a9:=fun w=>by kernel_rfl
 z9:=fun w=>by kernel_rfl
 v9:=fun w=>by kernel_rfl
 t21:=by kernel_rfl
 a21:=fun w=>by kernel_rfl
 z21:=fun w=>by kernel_rfl
 v21:=fun w=>by kernel_rfl
 t31:=by kernel_rfl
 a31:=fun w=>by kernel_rfl
 z31:=fun w=>by kernel_rfl
 v31:=fun w=>by kernel_rfl
 t40:=by kernel_rfl
 a40:=fun w=>by kernel_rfl
 z40:=fun w=>by kernel_rfl
 v40:=fun w=>by kernel_rfl
 t46:=by kernel_rfl
 a46:=fun w=>by kernel_rfl
 z46:=fun w=>by kernel_rfl
 v46:=fun w=>by kernel_rfl
 t49:=by kernel_rfl
 a49:=fun w=>by kernel_rfl
 z49:=fun w=>by kernel_rfl
 v49:=fun w=>by kernel_rfl
 t51:=by kernel_rfl
 a51:=fun w=>by kernel_rfl
 z51:=fun w=>by kernel_rfl
 v51:=fun w=>by kernel_rfl
 t119:=by kernel_rfl
 a119:=fun w=>by kernel_rfl
 z119:=fun w=>by kernel_rfl
 t141:=by kernel_rfl
 a141:=fun w=>by kernel_rfl
 z141:=fun w=>by kernel_rfl
 v141:=fun w=>by kernel_rfl
 t152:=by kernel_rfl
 a152:=fun w=>by kernel_rfl
 z152:=fun w=>by kernel_rfl
 v152:=fun w=>by kernel_rfl
 t154:=by kernel_rfl
 a154:=fun w=>by kernel_rfl
 z154:=fun w=>by kernel_rfl
 v154:=fun w=>by kernel_rfl
 t193:=by kernel_rfl
 a193:=fun w=>by kernel_rfl
 z193:=fun w=>by kernel_rfl
 v193:=fun w=>by kernel_rfl
 t194:=by kernel_rfl
 a194:=fun w=>by kernel_rfl
 z194:=fun w=>by kernel_rfl
 v194:=fun w=>by kernel_rfl
 t196:=by kernel_rfl
 a196:=fun w=>by kernel_rfl
 z196:=fun w=>by kernel_rfl
 v196:=fun w=>by kernel_rfl
 t198:=by kernel_rfl
 a198:=fun w=>by kernel_rfl
 z198:=fun w=>by kernel_rfl
 v198:=fun w=>by kernel_rfl
 t201:=by kernel_rfl
 a201:=fun w=>by kernel_rfl
 z201:=fun w=>by kernel_rfl
 v201:=fun w=>by kernel_rfl
 t226:=by kernel_rfl
 a226:=fun w=>by kernel_rfl
 z226:=fun w=>by kernel_rfl
 v226:=fun w=>by kernel_rfl
 t227:=by kernel_rfl
 a227:=fun w=>by kernel_rfl
 z227:=fun w=>by kernel_rfl
 v227:=fun w=>by kernel_rfl
 g0:=by kernel_rfl
 g6:=by kernel_rfl
theorem laysCo:Lays.n110 Tryz.prog renV where
 mixed:=by kernel_rfl
 f109:=by kernel_rfl
 f110:=by kernel_rfl
 t0:=by kernel_rfl
 a0:=fun w=>by kernel_rfl
 z0:=fun w=>by kernel_rfl
 v0:=fun w=>by kernel_rfl
 t3:=by kernel_rfl
 a3:=fun w=>by kernel_rfl
 z3:=fun w=>by kernel_rfl
 v3:=fun w=>by kernel_rfl
 t4:=by kernel_rfl
 a4:=fun w=>by kernel_rfl
 z4:=fun w=>by kernel_rfl
 v4:=fun w=>by kernel_rfl
 t9:=by kernel_rfl
 a9:=fun w=>by kernel_rfl
 z9:=fun w=>by kernel_rfl
 v9:=fun w=>by kernel_rfl
 t31:=by kernel_rfl
 a31:=fun w=>by kernel_rfl
 z31:=fun w=>by kernel_rfl
 v31:=fun w=>by kernel_rfl
theorem laysAt:LaysC.n172 Tryz.prog renV where
 mixed:=by kernel_rfl
 f129:=by kernel_rfl
 f171:=by kernel_rfl
 f172:=by kernel_rfl
 f205:=by kernel_rfl
 f243:=by kernel_rfl
 f244:=by kernel_rfl
 f245:=by kernel_rfl
 f246:=by kernel_rfl
 f247:=by kernel_rfl
 f279:=by kernel_rfl
 f280:=by kernel_rfl
 f281:=by kernel_rfl
 f282:=by kernel_rfl
 f283:=by kernel_rfl
 f284:=by kernel_rfl
 f285:=by kernel_rfl
 f286:=by kernel_rfl
 f287:=by kernel_rfl
 f316:=by kernel_rfl
 f317:=by kernel_rfl
 f318:=by kernel_rfl
 f319:=by kernel_rfl
 f320:=by kernel_rfl
 f321:=by kernel_rfl
 f322:=by kernel_rfl
 f337:=by kernel_rfl
 f338:=by kernel_rfl
 t0:=by kernel_rfl
 a0:=fun w=>by kernel_rfl
 z0:=fun w=>by kernel_rfl
 v0:=fun w=>by kernel_rfl
 t2:=by kernel_rfl
 a2:=fun w=>by kernel_rfl
 z2:=fun w=>by kernel_rfl
 v2:=fun w=>by kernel_rfl
 t3:=by kernel_rfl
 a3:=fun w=>by kernel_rfl
 z3:=fun w=>by kernel_rfl
 v3:=fun w=>by kernel_rfl
 t4:=by kernel_rfl
 a4:=fun w=>by kernel_rfl
 z4:=fun w=>by kernel_rfl
 v4:=fun w=>by kernel_rfl
 t5:=by kernel_rfl
 a5:=fun w=>by kernel_rfl
 z5:=fun w=>by kernel_rfl
 v5:=fun w=>by kernel_rfl
 t9:=by kernel_rfl
 a9:=fun w=>by kernel_rfl
 z9:=fun w=>by kernel_rfl
 v9:=fun w=>by kernel_rfl
 t20:=by kernel_rfl
 a20:=fun w=>by kernel_rfl
 z20:=fun w=>by kernel_rfl
 v20:=fun w=>by kernel_rfl
 t21:=by kernel_rfl
 a21:=fun w=>by kernel_rfl
 z21:=fun w=>by kernel_rfl
 v21:=fun w=>by kernel_rfl
 t37:=by kernel_rfl
 a37:=fun w=>by kernel_rfl
 z37:=fun w=>by kernel_rfl
 v37:=fun w=>by kernel_rfl
 t46:=by kernel_rfl
 a46:=fun w=>by kernel_rfl
 z46:=fun w=>by kernel_rfl
 v46:=fun w=>by kernel_rfl
 t51:=by kernel_rfl
 a51:=fun w=>by kernel_rfl
 z51:=fun w=>by kernel_rfl
 v51:=fun w=>by kernel_rfl
 t53:=by kernel_rfl
 a53:=fun w=>by kernel_rfl
 z53:=fun w=>by kernel_rfl
 v53:=fun w=>by kernel_rfl
 t75:=by kernel_rfl
 a75:=fun w=>by kernel_rfl
 z75:=fun w=>by kernel_rfl
 v75:=fun w=>by kernel_rfl
 t76:=by kernel_rfl
 a76:=fun w=>by kernel_rfl
 z76:=fun w=>by kernel_rfl
 v76:=fun w=>by kernel_rfl
 t85:=by kernel_rfl
 a85:=fun w=>by kernel_rfl
 z85:=fun w=>by kernel_rfl
 v85:=fun w=>by kernel_rfl
 t127:=by kernel_rfl
 a127:=fun w=>by kernel_rfl
 z127:=fun w=>by kernel_rfl
 v127:=fun w=>by kernel_rfl
 t143:=by kernel_rfl
 a143:=fun w=>by kernel_rfl
 z143:=fun w=>by kernel_rfl
 v143:=fun w=>by kernel_rfl
 t145:=by kernel_rfl
 a145:=fun w=>by kernel_rfl
 z145:=fun w=>by kernel_rfl
 v145:=fun w=>by kernel_rfl
 t167:=by kernel_rfl
 a167:=fun w=>by kernel_rfl
 z167:=fun w=>by kernel_rfl
 v167:=fun w=>by kernel_rfl
 t168:=by kernel_rfl
 a168:=fun w=>by kernel_rfl
 z168:=fun w=>by kernel_rfl
 v168:=fun w=>by kernel_rfl
 t171:=by kernel_rfl
 a171:=fun w=>by kernel_rfl
 z171:=fun w=>by kernel_rfl
 v171:=fun w=>by kernel_rfl
 t173:=by kernel_rfl
 a173:=fun w=>by kernel_rfl
 z173:=fun w=>by kernel_rfl
 v173:=fun w=>by kernel_rfl
 t175:=by kernel_rfl
 a175:=fun w=>by kernel_rfl
 z175:=fun w=>by kernel_rfl
 v175:=fun w=>by kernel_rfl
 t210:=by kernel_rfl
 a210:=fun w=>by kernel_rfl
 z210:=fun w=>by kernel_rfl
 v210:=fun w=>by kernel_rfl
 t212:=by kernel_rfl
 a212:=fun w=>by kernel_rfl
 z212:=fun w=>by kernel_rfl
 v212:=fun w=>by kernel_rfl
 t213:=by kernel_rfl
 a213:=fun w=>by kernel_rfl
 z213:=fun w=>by kernel_rfl
 t232:=by kernel_rfl
 a232:=fun w=>by kernel_rfl
 z232:=fun w=>by kernel_rfl
 v232:=fun w=>by kernel_rfl
 t233:=by kernel_rfl
 a233:=fun w=>by kernel_rfl
 z233:=fun w=>by kernel_rfl
 v233:=fun w=>by kernel_rfl
 g15:=by kernel_rfl
 g16:=by kernel_rfl
 g17:=by kernel_rfl
 g18:=by kernel_rfl
 g19:=by kernel_rfl
 t80:=by kernel_rfl
 a80:=fun w=>by kernel_rfl
 z80:=fun w=>by kernel_rfl
 v80:=fun w=>by kernel_rfl
 i0:=by kernel_rfl
 i2:=by kernel_rfl
 i3:=by kernel_rfl
 i4:=by kernel_rfl
 i5:=by kernel_rfl
 i9:=by kernel_rfl
 i20:=by kernel_rfl
 i21:=by kernel_rfl
 i37:=by kernel_rfl
 i46:=by kernel_rfl
 i51:=by kernel_rfl
 i53:=by kernel_rfl
 i75:=by kernel_rfl
 i76:=by kernel_rfl
 i80:=by kernel_rfl
 i85:=by kernel_rfl
 i127:=by kernel_rfl
 i143:=by kernel_rfl
 i145:=by kernel_rfl
 i167:=by kernel_rfl
 i168:=by kernel_rfl
 i171:=by kernel_rfl
 i173:=by kernel_rfl
 i175:=by kernel_rfl
 i210:=by kernel_rfl
 i212:=by kernel_rfl
 i232:=by kernel_rfl
 i233:=by kernel_rfl
 m15:=by kernel_rfl
 m16:=by kernel_rfl
 m17:=by kernel_rfl
 m18:=by kernel_rfl
 m19:=by kernel_rfl
 c0:=by kernel_rfl
 c2:=by kernel_rfl
 c3:=by kernel_rfl
 c4:=by kernel_rfl
 c5:=by kernel_rfl
 c9:=by kernel_rfl
 c20:=by kernel_rfl
 c21:=by kernel_rfl
 c37:=by kernel_rfl
 c46:=by kernel_rfl
 c51:=by kernel_rfl
 c53:=by kernel_rfl
 c75:=by kernel_rfl
 c76:=by kernel_rfl
 c80:=by kernel_rfl
 c85:=by kernel_rfl
 c127:=by kernel_rfl
 c143:=by kernel_rfl
 c145:=by kernel_rfl
 c167:=by kernel_rfl
 c168:=by kernel_rfl
 c171:=by kernel_rfl
 c173:=by kernel_rfl
 c175:=by kernel_rfl
 c210:=by kernel_rfl
 c212:=by kernel_rfl
 c213:=by kernel_rfl
 c232:=by kernel_rfl
 c233:=by kernel_rfl
theorem laysWs:Lays.n166 Tryz.prog renV where
 mixed:=by kernel_rfl
 f166:=by kernel_rfl
 f240:=by kernel_rfl
 f276:=by kernel_rfl
 t0:=by kernel_rfl
 a0:=fun w=>by kernel_rfl
 z0:=fun w=>by kernel_rfl
 v0:=fun w=>by kernel_rfl
 t3:=by kernel_rfl
 a3:=fun w=>by kernel_rfl
 z3:=fun w=>by kernel_rfl
 v3:=fun w=>by kernel_rfl
 t4:=by kernel_rfl
 a4:=fun w=>by kernel_rfl
 z4:=fun w=>by kernel_rfl
 v4:=fun w=>by kernel_rfl
 t9:=by kernel_rfl
 a9:=fun w=>by kernel_rfl
 z9:=fun w=>by kernel_rfl
 v9:=fun w=>by kernel_rfl
 t20:=by kernel_rfl
 a20:=fun w=>by kernel_rfl
 z20:=fun w=>by kernel_rfl
 v20:=fun w=>by kernel_rfl
 t37:=by kernel_rfl
 a37:=fun w=>by kernel_rfl
 z37:=fun w=>by kernel_rfl
 v37:=fun w=>by kernel_rfl
 t70:=by kernel_rfl
 a70:=fun w=>by kernel_rfl
 z70:=fun w=>by kernel_rfl
 v70:=fun w=>by kernel_rfl
 t72:=by kernel_rfl
 a72:=fun w=>by kernel_rfl
 z72:=fun w=>by kernel_rfl
 v72:=fun w=>by kernel_rfl
 t75:=by kernel_rfl
 a75:=fun w=>by kernel_rfl
 z75:=fun w=>by kernel_rfl
 v75:=fun w=>by kernel_rfl
 t164:=by kernel_rfl
 a164:=fun w=>by kernel_rfl
 z164:=fun w=>by kernel_rfl
 v164:=fun w=>by kernel_rfl
theorem laysSt:Lays.n169 Tryz.prog renV where
 mixed:=by kernel_rfl
 f169:=by kernel_rfl
 t0:=by kernel_rfl
 a0:=fun w=>by kernel_rfl
 z0:=fun w=>by kernel_rfl
 v0:=fun w=>by kernel_rfl
 t3:=by kernel_rfl
 a3:=fun w=>by kernel_rfl
 z3:=fun w=>by kernel_rfl
 v3:=fun w=>by kernel_rfl
 t9:=by kernel_rfl
 a9:=fun w=>by kernel_rfl
 z9:=fun w=>by kernel_rfl
 v9:=fun w=>by kernel_rfl
 t37:=by kernel_rfl
 a37:=fun w=>by kernel_rfl
 z37:=fun w=>by kernel_rfl
 v37:=fun w=>by kernel_rfl
 t70:=by kernel_rfl
 a70:=fun w=>by kernel_rfl
 z70:=fun w=>by kernel_rfl
 v70:=fun w=>by kernel_rfl
 t72:=by kernel_rfl
 a72:=fun w=>by kernel_rfl
 z72:=fun w=>by kernel_rfl
 v72:=fun w=>by kernel_rfl
 t127:=by kernel_rfl
 a127:=fun w=>by kernel_rfl
 z127:=fun w=>by kernel_rfl
 v127:=fun w=>by kernel_rfl
theorem laysLe:Lays.n170 Tryz.prog renV where
 mixed:=by kernel_rfl
 f170:=by kernel_rfl
 t0:=by kernel_rfl
 a0:=fun w=>by kernel_rfl
 z0:=fun w=>by kernel_rfl
 v0:=fun w=>by kernel_rfl
 t3:=by kernel_rfl
 a3:=fun w=>by kernel_rfl
 z3:=fun w=>by kernel_rfl
 v3:=fun w=>by kernel_rfl
 t37:=by kernel_rfl
 a37:=fun w=>by kernel_rfl
 z37:=fun w=>by kernel_rfl
 v37:=fun w=>by kernel_rfl
 t70:=by kernel_rfl
 a70:=fun w=>by kernel_rfl
 z70:=fun w=>by kernel_rfl
 v70:=fun w=>by kernel_rfl
 t72:=by kernel_rfl
 a72:=fun w=>by kernel_rfl
 z72:=fun w=>by kernel_rfl
 v72:=fun w=>by kernel_rfl
theorem laysJo:Lays.n156 Tryz.prog renV where
 mixed:=by kernel_rfl
 f156:=by kernel_rfl
 f165:=by kernel_rfl
 f166:=by kernel_rfl
 f169:=by kernel_rfl
 f240:=by kernel_rfl
 f241:=by kernel_rfl
 f276:=by kernel_rfl
 f277:=by kernel_rfl
 t0:=by kernel_rfl
 a0:=fun w=>by kernel_rfl
 z0:=fun w=>by kernel_rfl
 v0:=fun w=>by kernel_rfl
 t3:=by kernel_rfl
 a3:=fun w=>by kernel_rfl
 z3:=fun w=>by kernel_rfl
 v3:=fun w=>by kernel_rfl
 t4:=by kernel_rfl
 a4:=fun w=>by kernel_rfl
 z4:=fun w=>by kernel_rfl
 v4:=fun w=>by kernel_rfl
 t9:=by kernel_rfl
 a9:=fun w=>by kernel_rfl
 z9:=fun w=>by kernel_rfl
 v9:=fun w=>by kernel_rfl
 t20:=by kernel_rfl
 a20:=fun w=>by kernel_rfl
 z20:=fun w=>by kernel_rfl
 v20:=fun w=>by kernel_rfl
 t31:=by kernel_rfl
 a31:=fun w=>by kernel_rfl
 z31:=fun w=>by kernel_rfl
 v31:=fun w=>by kernel_rfl
 t37:=by kernel_rfl
 a37:=fun w=>by kernel_rfl
 z37:=fun w=>by kernel_rfl
 v37:=fun w=>by kernel_rfl
 t70:=by kernel_rfl
 a70:=fun w=>by kernel_rfl
 z70:=fun w=>by kernel_rfl
 v70:=fun w=>by kernel_rfl
 t72:=by kernel_rfl
 a72:=fun w=>by kernel_rfl
 z72:=fun w=>by kernel_rfl
 v72:=fun w=>by kernel_rfl
 t75:=by kernel_rfl
 a75:=fun w=>by kernel_rfl
 z75:=fun w=>by kernel_rfl
 v75:=fun w=>by kernel_rfl
 t76:=by kernel_rfl
 a76:=fun w=>by kernel_rfl
 z76:=fun w=>by kernel_rfl
 v76:=fun w=>by kernel_rfl
 t127:=by kernel_rfl
 a127:=fun w=>by kernel_rfl
 z127:=fun w=>by kernel_rfl
 v127:=fun w=>by kernel_rfl
 t164:=by kernel_rfl
 a164:=fun w=>by kernel_rfl
 z164:=fun w=>by kernel_rfl
 v164:=fun w=>by kernel_rfl
theorem numR:renV.f 155=251∧renV.f 171=218∧renV.g 1=2∧renV.g 17=4:=by decide
theorem numL:renV.f 137=209∧renV.f 99=223∧renV.f 145=259∧renV.f 157=261∧renV.f 110=256∧renV.f 172=258∧renV.f 166=221∧renV.f 169=222∧renV.f 170=260∧renV.f 156=173:=by decide
theorem numG:renV.g 0=1∧renV.g 16=6:=by decide
end Go.Proofs.YtaaggohjmhifbaaGreatDoor
