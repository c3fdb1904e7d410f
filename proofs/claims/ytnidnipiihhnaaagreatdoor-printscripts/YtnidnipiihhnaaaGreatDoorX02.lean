/- Packed for the hand-in: LaysV VDbl VLit LPure -/
import Derived.Shelf.Strings.Replace
import Derived.Shelf.Strconv.Itoa3
import Derived.Shelf.Small.Strs
import Derived.Shelf.Strings.Prefix
import Derived.Shelf.Strings.Cut
import Derived.Shelf.Strings.Fields
import Derived.Shelf.Strings.Builder1
import Derived.Shelf.Strings.OnBuilder
import Derived.Shelf.Slices.Turned
import Derived.Shelf.Strconv.AtoiAll
import Derived.Test.YtnidnipiihhnaaaGreatDoorChecked
import Derived.Lib.ReplaceLaws
import Derived.Lib.IndexBytes
import Derived.Test.YtnidnipiihhnaaaGreatDoorX01
import Derived.Lib.AtoiAll
import Derived.Lib.ItoaNum
import Derived.Lib.Fields
namespace Go.Proofs.YtnidnipiihhnaaaGreatDoor
open Go.Shelf
set_option linter.unusedVariables false
set_option maxRecDepth 100000
set_option maxHeartbeats 8000000
def renV:Ren:=⟨fun x=>if x=0 then 0 else if x=1 then 1 else if x=2 then 2 else if x=99 then 172 else if x=109 then 205 else if x=110 then 192 else if x=129 then 228 else if x=137 then 160 else if x=138 then 216 else if x=143 then 217 else if x=145 then 195 else if x=154 then 202 else if x=155 then 187 else if x=156 then 118 else if x=157 then 197 else if x=165 then 165 else if x=166 then 166 else if x=169 then 167 else if x=170 then 196 else if x=171 then 162 else if x=172 then 194 else if x=195 then 232 else if x=197 then 218 else if x=199 then 210 else if x=205 then 236 else if x=206 then 190 else if x=217 then 185 else if x=218 then 233 else if x=219 then 224 else if x=220 then 208 else if x=224 then 238 else if x=225 then 237 else if x=229 then 209 else if x=240 then 188 else if x=241 then 189 else if x=243 then 186 else if x=244 then 206 else if x=245 then 207 else if x=246 then 201 else if x=247 then 219 else if x=260 then 234 else if x=261 then 225 else if x=266 then 200 else if x=267 then 239 else if x=276 then 203 else if x=277 then 204 else if x=279 then 220 else if x=280 then 221 else if x=281 then 222 else if x=282 then 223 else if x=283 then 212 else if x=284 then 213 else if x=285 then 214 else if x=286 then 215 else if x=287 then 235 else if x=311 then 240 else if x=312 then 241 else if x=314 then 247 else if x=316 then 164 else if x=317 then 227 else if x=318 then 229 else if x=319 then 230 else if x=320 then 231 else if x=321 then 245 else if x=322 then 246 else if x=337 then 243 else if x=338 then 244 else if x=347 then 248 else if x=348 then 249 else if x=349 then 250 else if x=350 then 251 else if x=351 then 252 else if x=352 then 253 else if x=353 then 254 else if x=354 then 255 else if x=355 then 256 else if x=356 then 257 else if x=357 then 258 else if x=358 then 259 else if x=359 then 260 else if x=360 then 261 else if x=361 then 262 else if x=362 then 263 else if x=363 then 266 else if x=364 then 264 else if x=365 then 265 else if x=366 then 267 else if x=367 then 283 else x,fun x=>if x=0 then 0 else if x=1 then 1 else if x=2 then 2 else if x=3 then 3 else if x=4 then 4 else if x=5 then 5 else if x=6 then 6 else if x=7 then 7 else if x=8 then 8 else if x=9 then 9 else if x=10 then 10 else if x=11 then 11 else if x=12 then 12 else if x=13 then 13 else if x=14 then 14 else if x=15 then 15 else if x=16 then 16 else if x=17 then 17 else if x=18 then 18 else if x=19 then 19 else if x=20 then 20 else if x=21 then 21 else if x=22 then 191 else if x=27 then 219 else if x=31 then 77 else if x=32 then 208 else if x=33 then 198 else if x=37 then 183 else if x=40 then 212 else if x=41 then 142 else if x=46 then 238 else if x=47 then 239 else if x=49 then 250 else if x=51 then 231 else if x=52 then 257 else if x=53 then 214 else if x=54 then 215 else if x=55 then 181 else if x=59 then 200 else if x=60 then 201 else if x=65 then 204 else if x=66 then 196 else if x=67 then 148 else if x=68 then 202 else if x=69 then 147 else if x=70 then 182 else if x=71 then 184 else if x=72 then 185 else if x=73 then 121 else if x=74 then 186 else if x=75 then 187 else if x=76 then 188 else if x=77 then 189 else if x=80 then 135 else if x=81 then 178 else if x=83 then 153 else if x=84 then 203 else if x=85 then 223 else if x=86 then 224 else if x=103 then 240 else if x=104 then 54 else if x=105 then 220 else if x=106 then 221 else if x=108 then 245 else if x=111 then 86 else if x=114 then 234 else if x=119 then 210 else if x=120 then 211 else if x=127 then 197 else if x=128 then 209 else if x=137 then 258 else if x=138 then 259 else if x=139 then 260 else if x=140 then 232 else if x=141 then 233 else if x=143 then 262 else if x=144 then 263 else if x=145 then 264 else if x=146 then 265 else if x=151 then 266 else if x=152 then 228 else if x=153 then 229 else if x=154 then 230 else if x=164 then 205 else if x=165 then 206 else if x=166 then 207 else if x=167 then 222 else if x=168 then 225 else if x=169 then 226 else if x=170 then 227 else if x=171 then 213 else if x=172 then 216 else if x=173 then 217 else if x=174 then 218 else if x=175 then 241 else if x=176 then 242 else if x=193 then 246 else if x=194 then 247 else if x=195 then 248 else if x=196 then 249 else if x=197 then 251 else if x=198 then 252 else if x=199 then 253 else if x=200 then 254 else if x=201 then 255 else if x=202 then 256 else if x=209 then 243 else if x=210 then 244 else if x=211 then 235 else if x=212 then 236 else if x=213 then 237 else if x=214 then 261 else if x=226 then 267 else if x=227 then 268 else if x=232 then 269 else if x=233 then 270 else if x=238 then 271 else if x=239 then 272 else if x=240 then 273 else if x=241 then 274 else if x=242 then 275 else if x=243 then 276 else if x=244 then 277 else if x=245 then 278 else if x=246 then 279 else if x=247 then 280 else if x=248 then 281 else if x=249 then 282 else x,fun x=>if x=0 then 1 else if x=1 then 2 else if x=3 then 7 else if x=4 then 8 else if x=6 then 3 else if x=15 then 5 else if x=16 then 6 else if x=17 then 4 else if x=18 then 9 else if x=19 then 10 else x⟩
theorem laysR:Lays.n155 Tryz.prog renV where
 mixed:=by kernel_rfl
 f138:=by kernel_rfl
 f143:=by kernel_rfl
 f154:=by kernel_rfl
 f155:=by kernel_rfl
 f165:=by kernel_rfl
 f166:=by kernel_rfl
 f169:=by kernel_rfl
 f195:=by kernel_rfl
 f197:=by kernel_rfl
 f217:=by kernel_rfl
 f218:=by kernel_rfl
 f219:=by kernel_rfl
 f224:=by kernel_rfl
 f225:=by kernel_rfl
 f240:=by kernel_rfl
 f241:=by kernel_rfl
 f260:=by kernel_rfl
 f266:=by kernel_rfl
 f267:=by kernel_rfl
 f276:=by kernel_rfl
 f277:=by kernel_rfl
 f314:=by kernel_rfl
 t0:=by kernel_rfl
 a0:=fun w=>by kernel_rfl
 z0:=fun w=>by kernel_rfl
 v0:=fun w=>by kernel_rfl
 t3:=by kernel_rfl
 a3:=fun w=>by kernel_rfl
 z3:=fun w=>by kernel_rfl
 v3:=fun w=>by kernel_rfl
 t4:=by kernel_rfl
 a4:=fun w=>by kernel_rfl
 z4:=fun w=>by kernel_rfl
 v4:=fun w=>by kernel_rfl
 t5:=by kernel_rfl
 a5:=fun w=>by kernel_rfl
 z5:=fun w=>by kernel_rfl
 v5:=fun w=>by kernel_rfl
 t9:=by kernel_rfl
 a9:=fun w=>by kernel_rfl
 z9:=fun w=>by kernel_rfl
 v9:=fun w=>by kernel_rfl
 t20:=by kernel_rfl
 a20:=fun w=>by kernel_rfl
 z20:=fun w=>by kernel_rfl
 v20:=fun w=>by kernel_rfl
 t21:=by kernel_rfl
 a21:=fun w=>by kernel_rfl
 z21:=fun w=>by kernel_rfl
 v21:=fun w=>by kernel_rfl
 t37:=by kernel_rfl
 a37:=fun w=>by kernel_rfl
 z37:=fun w=>by kernel_rfl
 v37:=fun w=>by kernel_rfl
 t46:=by kernel_rfl
 a46:=fun w=>by kernel_rfl
 z46:=fun w=>by kernel_rfl
 v46:=fun w=>by kernel_rfl
 t51:=by kernel_rfl
 a51:=fun w=>by kernel_rfl
 z51:=fun w=>by kernel_rfl
 v51:=fun w=>by kernel_rfl
 t70:=by kernel_rfl
 a70:=fun w=>by kernel_rfl
 z70:=fun w=>by kernel_rfl
 v70:=fun w=>by kernel_rfl
 t72:=by kernel_rfl
 a72:=fun w=>by kernel_rfl
 z72:=fun w=>by kernel_rfl
 v72:=fun w=>by kernel_rfl
 t75:=by kernel_rfl
 a75:=fun w=>by kernel_rfl
 z75:=fun w=>by kernel_rfl
 v75:=fun w=>by kernel_rfl
 t76:=by kernel_rfl
 a76:=fun w=>by kernel_rfl
 z76:=fun w=>by kernel_rfl
 v76:=fun w=>by kernel_rfl
 t105:=by kernel_rfl
 a105:=fun w=>by kernel_rfl
 z105:=fun w=>by kernel_rfl
 v105:=fun w=>by kernel_rfl
 t119:=by kernel_rfl
 a119:=fun w=>by kernel_rfl
 z119:=fun w=>by kernel_rfl
 t127:=by kernel_rfl
 a127:=fun w=>by kernel_rfl
 z127:=fun w=>by kernel_rfl
 v127:=fun w=>by kernel_rfl
 t138:=by kernel_rfl
 a138:=fun w=>by kernel_rfl
 z138:=fun w=>by kernel_rfl
 v138:=fun w=>by kernel_rfl
 t139:=by kernel_rfl
 a139:=fun w=>by kernel_rfl
 z139:=fun w=>by kernel_rfl
 v139:=fun w=>by kernel_rfl
 t146:=by kernel_rfl
 a146:=fun w=>by kernel_rfl
 z146:=fun w=>by kernel_rfl
 v146:=fun w=>by kernel_rfl
 t164:=by kernel_rfl
 a164:=fun w=>by kernel_rfl
 z164:=fun w=>by kernel_rfl
 v164:=fun w=>by kernel_rfl
 g1:=by kernel_rfl
 g3:=by kernel_rfl
 g4:=by kernel_rfl
theorem extraR:Builder.Extra Tryz.prog renV where
 sizeBuilder:=by kernel_rfl
 liesBuilder:=by kernel_rfl
 t5:=laysR.t5
 a5:=laysR.a5
 z5:=laysR.z5
 v5:=laysR.v5
 infoByte:=by kernel_rfl
 cellsByte:=by kernel_rfl
 sizeByte:=by kernel_rfl
 neB5:=by decide
theorem laysI:LaysM.n171 Tryz.prog renV where
 mixed:=by kernel_rfl
 f129:=by kernel_rfl
 f171:=by kernel_rfl
 f243:=by kernel_rfl
 f246:=by kernel_rfl
 f283:=by kernel_rfl
 f284:=by kernel_rfl
 f285:=by kernel_rfl
 f286:=by kernel_rfl
 f317:=by kernel_rfl
 f318:=by kernel_rfl
 f319:=by kernel_rfl
 f320:=by kernel_rfl
 f337:=by kernel_rfl
 f338:=by kernel_rfl
 t0:=by kernel_rfl
 a0:=fun w=>by kernel_rfl
 z0:=fun w=>by kernel_rfl
 v0:=fun w=>by kernel_rfl
 t2:=by kernel_rfl
 a2:=fun w=>by kernel_rfl
 z2:=fun w=>by kernel_rfl
 v2:=fun w=>by kernel_rfl
 t3:=by kernel_rfl
 a3:=fun w=>by kernel_rfl
 z3:=fun w=>by kernel_rfl
 v3:=fun w=>by kernel_rfl
 t4:=by kernel_rfl
 a4:=fun w=>by kernel_rfl
 z4:=fun w=>by kernel_rfl
 v4:=fun w=>by kernel_rfl
 t5:=by kernel_rfl
 a5:=fun w=>by kernel_rfl
 z5:=fun w=>by kernel_rfl
 v5:=fun w=>by kernel_rfl
 t9:=by kernel_rfl
 a9:=fun w=>by kernel_rfl
 z9:=fun w=>by kernel_rfl
 v9:=fun w=>by kernel_rfl
 t20:=by kernel_rfl
 a20:=fun w=>by kernel_rfl
 z20:=fun w=>by kernel_rfl
 v20:=fun w=>by kernel_rfl
 t37:=by kernel_rfl
 a37:=fun w=>by kernel_rfl
 z37:=fun w=>by kernel_rfl
 v37:=fun w=>by kernel_rfl
 t46:=by kernel_rfl
 a46:=fun w=>by kernel_rfl
 z46:=fun w=>by kernel_rfl
 v46:=fun w=>by kernel_rfl
 t51:=by kernel_rfl
 a51:=fun w=>by kernel_rfl
 z51:=fun w=>by kernel_rfl
 v51:=fun w=>by kernel_rfl
 t53:=by kernel_rfl
 a53:=fun w=>by kernel_rfl
 z53:=fun w=>by kernel_rfl
 v53:=fun w=>by kernel_rfl
 t171:=by kernel_rfl
 a171:=fun w=>by kernel_rfl
 z171:=fun w=>by kernel_rfl
 v171:=fun w=>by kernel_rfl
 t173:=by kernel_rfl
 a173:=fun w=>by kernel_rfl
 z173:=fun w=>by kernel_rfl
 v173:=fun w=>by kernel_rfl
 t212:=by kernel_rfl
 a212:=fun w=>by kernel_rfl
 z212:=fun w=>by kernel_rfl
 v212:=fun w=>by kernel_rfl
 t213:=by kernel_rfl
 a213:=fun w=>by kernel_rfl
 z213:=fun w=>by kernel_rfl
 t232:=by kernel_rfl
 a232:=fun w=>by kernel_rfl
 z232:=fun w=>by kernel_rfl
 v232:=fun w=>by kernel_rfl
 t233:=by kernel_rfl
 a233:=fun w=>by kernel_rfl
 z233:=fun w=>by kernel_rfl
 v233:=fun w=>by kernel_rfl
 g17:=by kernel_rfl
 g18:=by kernel_rfl
 g19:=by kernel_rfl
 i0:=by kernel_rfl
 i2:=by kernel_rfl
 i3:=by kernel_rfl
 i4:=by kernel_rfl
 i5:=by kernel_rfl
 i9:=by kernel_rfl
 i20:=by kernel_rfl
 i37:=by kernel_rfl
 i46:=by kernel_rfl
 i51:=by kernel_rfl
 i53:=by kernel_rfl
 i171:=by kernel_rfl
 i173:=by kernel_rfl
 i212:=by kernel_rfl
 i232:=by kernel_rfl
 i233:=by kernel_rfl
 m17:=by kernel_rfl
 m18:=by kernel_rfl
 m19:=by kernel_rfl
theorem laysIx:Lays.n137 Tryz.prog renV where
 mixed:=by kernel_rfl
 f137:=by kernel_rfl
 f217:=by kernel_rfl
 f266:=by kernel_rfl
 t3:=by kernel_rfl
 a3:=fun w=>by kernel_rfl
 z3:=fun w=>by kernel_rfl
 v3:=fun w=>by kernel_rfl
 t5:=by kernel_rfl
 a5:=fun w=>by kernel_rfl
 z5:=fun w=>by kernel_rfl
 v5:=fun w=>by kernel_rfl
 t9:=by kernel_rfl
 a9:=fun w=>by kernel_rfl
 z9:=fun w=>by kernel_rfl
 v9:=fun w=>by kernel_rfl
theorem laysJo:Lays.n156 Tryz.prog renV where
 mixed:=by kernel_rfl
 f156:=by kernel_rfl
 f165:=by kernel_rfl
 f166:=by kernel_rfl
 f169:=by kernel_rfl
 f240:=by kernel_rfl
 f241:=by kernel_rfl
 f276:=by kernel_rfl
 f277:=by kernel_rfl
 t0:=by kernel_rfl
 a0:=fun w=>by kernel_rfl
 z0:=fun w=>by kernel_rfl
 v0:=fun w=>by kernel_rfl
 t3:=by kernel_rfl
 a3:=fun w=>by kernel_rfl
 z3:=fun w=>by kernel_rfl
 v3:=fun w=>by kernel_rfl
 t4:=by kernel_rfl
 a4:=fun w=>by kernel_rfl
 z4:=fun w=>by kernel_rfl
 v4:=fun w=>by kernel_rfl
 t9:=by kernel_rfl
 a9:=fun w=>by kernel_rfl
 z9:=fun w=>by kernel_rfl
 v9:=fun w=>by kernel_rfl
 t20:=by kernel_rfl
 a20:=fun w=>by kernel_rfl
 z20:=fun w=>by kernel_rfl
 v20:=fun w=>by kernel_rfl
 t31:=by kernel_rfl
 a31:=fun w=>by kernel_rfl
 z31:=fun w=>by kernel_rfl
 v31:=fun w=>by kernel_rfl
 t37:=by kernel_rfl
 a37:=fun w=>by kernel_rfl
 z37:=fun w=>by kernel_rfl
 v37:=fun w=>by kernel_rfl
 t70:=by kernel_rfl
 a70:=fun w=>by kernel_rfl
 z70:=fun w=>by kernel_rfl
 v70:=fun w=>by kernel_rfl
 t72:=by kernel_rfl
 a72:=fun w=>by kernel_rfl
 z72:=fun w=>by kernel_rfl
 v72:=fun w=>by kernel_rfl
 t75:=by kernel_rfl
 a75:=fun w=>by kernel_rfl
 z75:=fun w=>by kernel_rfl
 v75:=fun w=>by kernel_rfl
 t76:=by kernel_rfl
 a76:=fun w=>by kernel_rfl
 z76:=fun w=>by kernel_rfl
 v76:=fun w=>by kernel_rfl
 t127:=by kernel_rfl
 a127:=fun w=>by kernel_rfl
 z127:=fun w=>by kernel_rfl
 v127:=fun w=>by kernel_rfl
 t164:=by kernel_rfl
 a164:=fun w=>by kernel_rfl
 z164:=fun w=>by kernel_rfl
 v164:=fun w=>by kernel_rfl
theorem numR:renV.f 155=187∧renV.f 171=162∧renV.g 1=2∧renV.g 17=4:=by decide
theorem numL:renV.f 137=160∧renV.f 99=172∧renV.f 145=195∧renV.f 157=197∧renV.f 110=192∧renV.f 172=194∧renV.f 166=166∧renV.f 169=167∧renV.f 170=196∧renV.f 156=118:=by decide
end Go.Proofs.YtnidnipiihhnaaaGreatDoor
namespace Go.Proofs.YtnidnipiihhnaaaGreatDoor
set_option linter.unusedVariables false
set_option maxHeartbeats 8000000
def dbl (s:List UInt8):List UInt8:=s.flatMap fun c=>if c=39 then [39,39] else [c]
theorem dbl_append (a b:List UInt8):dbl (a++b)=dbl a++dbl b:=by simp[dbl]
theorem dbl_none : ∀(s:List UInt8),(∀k:Nat,s[k]?≠some 39)→dbl s=s
 | [],_=>rfl
 |
  c::s,h=>by
  have hc:c≠39:=fun e=>h 0 (by simp[e])
  have ih:=dbl_none s fun k=>by simpa using h (k+1)
  have e:dbl (c::s)=[c]++dbl s:=by simp[dbl,hc]
  rw[e,ih]
  rfl
theorem dbl_le (s:List UInt8):(dbl s).length≤2*s.length:=by
 induction s with
 | nil=>simp[dbl]
 |
  cons c s ih =>
  have e:dbl (c::s)=(if c=39 then [39,39] else [c])++dbl s:=by simp[dbl]
  rw[e,List.length_append,List.length_cons]
  split<;>simp<;>omega
theorem replaceK_dbl : ∀(k:Nat) (s:List UInt8),Lib.count s [39]≤k→Lib.replaceK [39] [39,39] k s=dbl s:=by
 have miss : ∀s:List UInt8,Lib.index s [39] = -1→dbl s=s:=fun s h=>by
  rw[Lib.index_one] at h
  exact dbl_none s (Lib.indexByte_none h)
 have hit : ∀(s:List UInt8) (i:Nat),Lib.index s [39]=i→Lib.count s [39]=Lib.count (s.drop (i+1)) [39]+1∧dbl s=s.take i++[39,39]++dbl (s.drop (i+1)):=fun s i h=>by
  refine ⟨by have:=Lib.count_hit (s:=s) (sub:=[39]) (i:=i) (by simp) h;simpa [Nat.add_comm] using this,?_⟩
  rw[Lib.index_one] at h
  obtain⟨h1,h2⟩:=Lib.indexByte_some h
  have hi:i<s.length:=(List.getElem?_eq_some_iff.1 h1).1
  have e:s=s.take i++(39::s.drop (i+1)):=by
   have e1:=(List.take_append_drop i s).symm
   rw[List.drop_eq_getElem_cons hi,(List.getElem?_eq_some_iff.1 h1).2] at e1
   exact e1
  have e2:dbl (s.take i)=s.take i:=dbl_none _ fun k hk=>by
   rw[List.getElem?_take] at hk
   split at hk
   ·rename_i hlt
    exact h2 k hlt hk
   ·cases hk
  have e3:dbl (39::s.drop (i+1))=[39,39]++dbl (s.drop (i+1)):=by simp[dbl]
  conv=>lhs;rw[e]
  rw[dbl_append,e2,e3,List.append_assoc]
 intro k
 induction k with
 |
  zero =>
  intro s h
  rw[Lib.replaceK]
  have hge:=Lib.index_ge s [39]
  by_cases hm:Lib.index s [39] = -1
  ·exact (miss s hm).symm
  ·obtain⟨i,hi⟩:∃i:Nat,Lib.index s [39]=i:=⟨(Lib.index s [39]).toNat,by omega⟩
   have:=(hit s i hi).1
   omega
 |
  succ k ih =>
  intro s h
  have hge:=Lib.index_ge s [39]
  by_cases hm:Lib.index s [39] = -1
  ·rw[miss s hm,Lib.replaceK,if_pos (by rw[hm];rfl)]
  ·obtain⟨i,hi⟩:∃i:Nat,Lib.index s [39]=i:=⟨(Lib.index s [39]).toNat,by omega⟩
   obtain⟨h1,h2⟩:=hit s i hi
   rw[Lib.replaceK_hit _ _ k s i hi,h2,ih _ (by simp;omega)]
   rfl
theorem replaceAll_dbl (s:List UInt8):Lib.replaceAll s [39] [39,39]=dbl s:=by
 unfold Lib.replaceAll Lib.replace
 rw[if_neg (by decide)]
 have e:Lib.replaceNum s [39] (-1)=Lib.count s [39]:=by
  unfold Lib.replaceNum
  rw[if_pos (by left;decide)]
 rw[e]
 exact replaceK_dbl _ s (Nat.le_refl _)
end Go.Proofs.YtnidnipiihhnaaaGreatDoor
namespace Go.Proofs.YtnidnipiihhnaaaGreatDoor
open Go.RowKit Go.Shelf
set_option linter.unusedSimpArgs false
set_option linter.unusedVariables false
set_option maxRecDepth 20000
set_option maxHeartbeats 8000000
structure TabV (w:World):Prop where
 lt:5<w.heap.size
 max : ∃m,w.cell? ⟨2,0,none⟩=some (.int .i64 m)
 pow:Lib.TabIs Tryz.prog w "internal/strconv.uint64pow10" .u64 Lib.pow10Tab
theorem TabV.below {w w':World} {B:Nat} (h:TabV w) (hb:Below B w w') (hB:5<B):TabV w':=by
 refine ⟨Nat.lt_of_lt_of_le h.lt hb.size,?_,?_⟩
 ·obtain⟨m,hm⟩:=h.max
  exact⟨m,by rw[hb.cell (p:=⟨2,0,none⟩) (by show 2<B;omega)];exact hm⟩
 ·have hp:=h.pow
  unfold Lib.TabIs World.var? at hp ⊢
  rw[laysI.m17] at hp ⊢
  have e:w'.heap[renV.g 17]?=w.heap[renV.g 17]?:=hb.block _ (by rw[numR.2.2.2];omega)
  simp only[Option.bind_some] at hp ⊢
  rw[e]
  exact hp
theorem str8_add (a b:List UInt8):str8 a++str8 b=str8 (a++b):=by
 apply ByteArray.ext
 simp[str8]
def litV (x:Vl):List UInt8:=if x.k=1 then Lib.itoa x.n else if x.k=2 then [39]++(dbl x.s++[39]) else [78,85,76,76]
theorem replaceAll_any (s:List UInt8) (w:World) (hT:TabV w) (hs:s.length<4294967281) :
  Calls Tryz.prog 187 #[.string (str8 s),.string ⟨#[39]⟩,.string ⟨#[39,39]⟩] w fun e w'=>e = .returned (.string (str8 (dbl s)))∧Below w.heap.size w w':=by
 obtain⟨m,hm⟩:=hT.max
 have hc:=Lib.countB_mul_le ⟨#[39]⟩ (by decide) (str8 s).size (str8 s) (Nat.le_refl _)
 have h1:(⟨#[39]⟩:ByteArray).size=1:=rfl
 have h2:(⟨#[39,39]⟩:ByteArray).size=2:=rfl
 rw[h1,str8_size] at hc
 have:=Any.strings_ReplaceAll laysR extraR (str8 s) ⟨#[39]⟩ ⟨#[39,39]⟩ m w (by rw[str8_size];exact hs) (by rw[numR.2.2.1];exact hm) (by decide) (by rw[h2,str8_size];omega)
 rw[numR.1] at this
 rw[← replaceAll_dbl]
 exact this
theorem itoa_any (n:Int) (w:World) (hT:TabV w) (h0 : -9223372036854775808≤n) (h1:n≤9223372036854775807) :
  Calls Tryz.prog 162 #[.int .i64 n] w fun e w'=>e = .returned (.string (str8 (Lib.itoa n)))∧Below w.heap.size w w':=by
 have:=Any.strconv_Itoa laysI n h0 h1 w hT.pow
 rw[numR.2.1] at this
 refine this.mono fun e w' ⟨he,k,os,hw⟩=>⟨he,?_⟩
 subst hw
 exact⟨rfl,rfl,rfl,by simp[Sort.grow,World.drewN],fun j hj=>by simp[Sort.grow,World.drewN,Array.getElem?_append_left hj]⟩
set_option maxRecDepth 100000 in
theorem literal_any (k n:Int) (s:List UInt8) (w:World) (hT:TabV w) (h0 : -9223372036854775808≤n) (h1:n≤9223372036854775807) (hs:s.length<4294967281) :
  Calls Tryz.prog 163 #[.agg #[.int .i64 k,.int .i64 n,.string (str8 s)]] w fun e w'=>e = .returned (.string (str8 (litV ⟨k,n,s⟩)))∧Below w.heap.size w w':=by
 obtain⟨W,hW,hbW,hzW,hcW⟩:=box3 w (.int .i64 k) (.int .i64 n) (.string (str8 s)) 23
 have c0:=hcW W (Below.refl _ _)
 have HI:=hid (itoa_any n W (hT.below hbW hT.lt) h0 h1)
 have HR:=hid (replaceAll_any s W (hT.below hbW hT.lt) hs)
 have HB:=hid hbW
 clear hcW hbW
 by_cases hk1:k=1
 ·have hd:litV ⟨k,n,s⟩=Lib.itoa n:=by rw[litV,if_pos hk1]
  rw[hd]
  clear hd
  subst hk1
  go_enter Tryz.func163,Tryz.ntmps163
  go_wp2_with fail
  refine HI.out.mono ?_
  rintro e w1 ⟨rfl,hb1⟩
  go_wp2
  go_ret
  exact⟨rfl,HB.out.trans (hb1.mono HB.out.size)⟩
 ·have hk1':(k==1)=false:=by simpa using hk1
  by_cases hk2:k=2
  ·have hd:litV ⟨k,n,s⟩=[39]++(dbl s++[39]):=by rw[litV,if_neg hk1,if_pos hk2]
   have hle:=dbl_le s
   obtain⟨L,hL⟩:∃L,dbl s=L:=⟨_,rfl⟩
   rw[hL] at hd HR hle
   rw[hd]
   clear hd hL
   subst hk2
   go_enter Tryz.func163,Tryz.ntmps163
   go_wp2_with fail
   refine HR.out.mono ?_
   rintro e w1 ⟨rfl,hb1⟩
   have ha1 : ∀w,(Op.stringOp .add ⟨#[39]⟩ (str8 L)).run Tryz.prog w = .ok (.string (str8 (39::L))) w:=fun w=>by
    rw[run_string_add_sum w _ _ (by rw[str8_size];show 1+L.length≤_;omega)]
    exact congrArg (fun x=>Result.ok (Value.string x) w) (str8_add [39] L)
   have ha2 : ∀w,(Op.stringOp .add (str8 (39::L)) ⟨#[39]⟩).run Tryz.prog w = .ok (.string (str8 ([39]++(L++[39])))) w:=fun w=>by
    rw[run_string_add_sum w _ _ (by rw[str8_size,List.length_cons];show L.length+1+1≤_;omega)]
    exact congrArg (fun x=>Result.ok (Value.string x) w) (str8_add (39::L) [39])
   clear hle
   go_wp2
   go_ret
   exact⟨rfl,HB.out.trans (hb1.mono HB.out.size)⟩
  ·have hk2':(k==2)=false:=by simpa using hk2
   have hd:litV ⟨k,n,s⟩=[78,85,76,76]:=by rw[litV,if_neg hk1,if_neg hk2]
   rw[hd]
   clear hd
   go_enter Tryz.func163,Tryz.ntmps163
   go_wp2
   go_ret
   exact⟨rfl,HB.out⟩
end Go.Proofs.YtnidnipiihhnaaaGreatDoor
namespace Go.Proofs.YtnidnipiihhnaaaGreatDoor
set_option linter.unusedSimpArgs false
set_option linter.unusedVariables false
set_option maxHeartbeats 8000000
def lowsB:List UInt8:=[97,98,99,100,101,102,103,104,105,106,107,108,109,110,111,112,113,114,115,116,117,118,119,120,121,122,95]
def digsB:List UInt8:=[48,49,50,51,52,53,54,55,56,57]
def upsB:List UInt8:=[65,66,67,68,69,70,71,72,73,74,75,76,77,78,79,80,81,82,83,84,85,86,87,88,89,90]
def blksB:List UInt8:=[9,10,13,32]
def nameB:List UInt8:=lowsB++digsB
def gluedB:List UInt8:=lowsB++(upsB++digsB)
def inS (l:List UInt8) (c:UInt8):Bool:=l.contains c
theorem index_inS : ∀(l:List UInt8) (c:UInt8),decide (0≤Lib.indexByte l c)=inS l c
 | [],c=>by simp[Lib.indexByte,inS]
 |
  b::l,c=>by
  have ih:=index_inS l c
  have hge:=Lib.indexByte_ge l c
  unfold Lib.indexByte
  by_cases h:b=c
  ·subst h;simp[inS]
  ·have h':(b==c)=false:=by simpa using h
   have h2 : ¬c=b:=fun e=>h e.symm
   rw[h']
   simp only[Bool.false_eq_true,if_false]
   have e:inS (b::l) c=inS l c:=by simp[inS,h2]
   rw[e,← ih]
   by_cases hm:Lib.indexByte l c = -1
   ·simp[hm]
   ·have:(Lib.indexByte l c==-1)=false:=by simpa using hm
    rw[this]
    simp only[Bool.false_eq_true,if_false]
    rw[decide_eq_true (by omega),decide_eq_true (by omega)]
def row (p:UInt8→Bool) (s:List UInt8):Nat:=(s.takeWhile p).length
theorem row_le (p:UInt8→Bool) (s:List UInt8):row p s≤s.length:=by
 unfold row
 induction s with
 | nil=>simp
 | cons c s ih=>rw[List.takeWhile_cons];split<;>simp<;>omega
theorem take_row (p:UInt8→Bool) (s:List UInt8):s.take (row p s)=s.takeWhile p:=by
 unfold row
 induction s with
 | nil=>simp
 |
  cons c s ih =>
  rw[List.takeWhile_cons]
  split
  ·simp[ih]
  ·simp
theorem row_cons_pos {p:UInt8→Bool} {c:UInt8} {s:List UInt8} (h:p c=true):row p (c::s)=row p s+1:=by
 simp[row,List.takeWhile_cons,h]
theorem row_cons_neg {p:UInt8→Bool} {c:UInt8} {s:List UInt8} (h:p c=false):row p (c::s)=0:=by
 simp[row,List.takeWhile_cons,h]
theorem row_nil (p:UInt8→Bool):row p []=0:=rfl
theorem row_append {p:UInt8→Bool} {a x:List UInt8} (ha : ∀c∈a,p c=true) (hx:row p x=0):row p (a++x)=a.length:=by
 induction a with
 | nil=>simpa using hx
 |
  cons c a ih =>
  rw[List.cons_append,row_cons_pos (ha c (by simp)),ih (fun d hd=>ha d (by simp[hd]))]
  simp
theorem takeWhile_all (p:UInt8→Bool) (s:List UInt8):∀c∈s.takeWhile p,p c=true:=by
 induction s with
 | nil=>simp
 |
  cons c s ih =>
  rw[List.takeWhile_cons]
  split
  ·intro d hd
   rcases List.mem_cons.1 hd with rfl | hd
   ·assumption
   ·exact ih d hd
  ·simp
theorem take_row_all (p:UInt8→Bool) (s:List UInt8):∀c∈s.take (row p s),p c=true:=by
 rw[take_row];exact takeWhile_all p s
structure Tk where
 k:Int
 s:List UInt8
 n:Int
 p:Int
def zTk:Tk:=⟨0,[],0,0⟩
def Tk.z (t:Tk):Tk:=⟨t.k,t.s,t.n,0⟩
def wordsB:List (List UInt8):=[[65,78,68],[66,89],[67,79,85,78,84],[67,82,69,65,84,69],[68,69,76,69,84,69],[68,69,83,67],[68,82,79,80],[70,82,79,77],[71,82,79,85,80],[73,78,83,69,82,84],[73,78,84],[73,78,84,79],[73,83],[74,79,73,78],[75,69,89],[76,73,77,73,84],[77,65,88],[77,73,78],[78,79,84],[78,85,76,76],[79,78],[79,82],[79,82,68,69,82],[80,82,73,77,65,82,89],[83,69,76,69,67,84],[83,69,84],[83,85,77],[84,65,66,76,69],[84,69,88,84],[85,78,73,81,85,69],[85,80,68,65,84,69],[86,65,76,85,69,83],[87,72,69,82,69]]
def signsB:List (List UInt8):=[[60,62],[60,61],[62,61],[40],[41],[44],[59],[46],[42],[43],[45],[47],[37],[61],[60],[62]]
def runsB (r:List UInt8):Bool:=decide (0<row (inS gluedB) r)
def cutNameT (s:List UInt8):Nat × Tk × Nat :=
 if runsB (s.drop (row (inS nameB) s))=true then (4,zTk,0) else if 16<row (inS nameB) s then (2,zTk,0) else (0,⟨1,s.take (row (inS nameB) s),0,0⟩,row (inS nameB) s)
def cutWordT (s:List UInt8):Nat × Tk × Nat :=
 if runsB (s.drop (row (inS upsB) s))=true then (4,zTk,0) else if wordsB.contains (s.take (row (inS upsB) s))=false then (4,zTk,0) else (0,⟨2,s.take (row (inS upsB) s),0,0⟩,row (inS upsB) s)
def numT (n:Nat):Lib.NumEnd Int→Nat × Tk × Nat
 | .ok v=>(0,⟨3,[],v,0⟩,n)
 | _=>(7,zTk,0)
def cutNumT (s:List UInt8):Nat × Tk × Nat :=
 if runsB (s.drop (row (inS digsB) s))=true then (4,zTk,0) else numT (row (inS digsB) s) (Lib.atoiAll (s.take (row (inS digsB) s)))
def txt:List UInt8→List UInt8 × List UInt8 × Bool
 | []=>([],[],false)
 | [c]=>if c=39 then ([],[],true) else ([c],[],false)
 | c::d::r=>if c=39 then (if d=39 then (39::(txt r).1,(txt r).2) else ([],d::r,true)) else (c::(txt (d::r)).1,(txt (d::r)).2)
def textT (n:Nat) (x:List UInt8 × List UInt8 × Bool):Nat × Tk × Nat :=
 if 40<x.1.length then (2,zTk,0) else if x.2.2=false then (3,zTk,0) else (0,⟨4,x.1,0,0⟩,n-x.2.1.length)
def cutTextT (s:List UInt8):Nat × Tk × Nat:=textT s.length (txt (s.drop 1))
def signT:List (List UInt8)→List UInt8→Nat × Tk × Nat
 | [],_=>(4,zTk,0)
 | g::r,s=>if g.isPrefixOf s=true then (0,⟨5,g,0,0⟩,g.length) else signT r s
def cutSignT (s:List UInt8):Nat × Tk × Nat:=signT signsB s
def cutT (s:List UInt8):Nat × Tk × Nat :=
 match s with
 | []=>(4,zTk,0)
 | c::_=>if inS lowsB c=true then cutNameT s else if inS upsB c=true then cutWordT s else if inS digsB c=true then cutNumT s else if inS [39] c=true then cutTextT s else cutSignT s
def skip:Bool→List UInt8→Nat
 | _,[]=>0
 | true,c::r=>1+skip (c != 10) r
 | false,c::r=>if inS blksB c=true then 1+skip false r else if c=45∧r.head?=some 45 then 1+skip true r else 0
def Stop (x:List UInt8):Prop:=x=[]∨∃c r,x=c::r∧(c=9∨c=10∨c=13∨c=32∨c=45)
theorem stop_row {x:List UInt8} (h:Stop x):row (inS nameB) x=0∧row (inS upsB) x=0∧row (inS digsB) x=0∧row (inS gluedB) x=0:=by
 rcases h with rfl | ⟨c,r,rfl,h⟩
 ·exact⟨rfl,rfl,rfl,rfl⟩
 ·rcases h with rfl | rfl | rfl | rfl | rfl<;>exact⟨row_cons_neg (by decide),row_cons_neg (by decide),row_cons_neg (by decide),row_cons_neg (by decide)⟩
theorem stop_runs {x:List UInt8} (h:Stop x):runsB x=false:=by
 rw[runsB,(stop_row h).2.2.2];rfl
theorem row_first {p:UInt8→Bool} {c:UInt8} {r:List UInt8} (h:p c=true):1≤row p (c::r):=by
 rw[row_cons_pos h];omega
end Go.Proofs.YtnidnipiihhnaaaGreatDoor
