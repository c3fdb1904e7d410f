/- Packed for the hand-in: LaysV -/
import Derived.Shelf.Strings.Replace
import Derived.Shelf.Strconv.Itoa3
import Derived.Shelf.Small.Strs
import Derived.Shelf.Strings.Prefix
import Derived.Shelf.Strings.Cut
import Derived.Shelf.Strings.Fields
import Derived.Shelf.Strings.Builder1
import Derived.Shelf.Strings.OnBuilder
import Derived.Shelf.Slices.Turned
import Derived.Shelf.Strconv.AtoiAll
import Derived.Test.YtnidnipiihhnaaaGreatDoorChecked
namespace Go.Proofs.YtnidnipiihhnaaaGreatDoor
open Go.Shelf
set_option linter.unusedVariables false
set_option maxRecDepth 100000
set_option maxHeartbeats 8000000
def renV : Ren := ⟨fun x => if x = 0 then 0 else if x = 1 then 1 else if x = 2 then 2 else if x = 99 then 172 else if x = 109 then 205 else if x = 110 then 192 else if x = 129 then 228 else if x = 137 then 160 else if x = 138 then 216 else if x = 143 then 217 else if x = 145 then 195 else if x = 154 then 202 else if x = 155 then 187 else if x = 156 then 118 else if x = 157 then 197 else if x = 165 then 165 else if x = 166 then 166 else if x = 169 then 167 else if x = 170 then 196 else if x = 171 then 162 else if x = 172 then 194 else if x = 195 then 232 else if x = 197 then 218 else if x = 199 then 210 else if x = 205 then 236 else if x = 206 then 190 else if x = 217 then 185 else if x = 218 then 233 else if x = 219 then 224 else if x = 220 then 208 else if x = 224 then 238 else if x = 225 then 237 else if x = 229 then 209 else if x = 240 then 188 else if x = 241 then 189 else if x = 243 then 186 else if x = 244 then 206 else if x = 245 then 207 else if x = 246 then 201 else if x = 247 then 219 else if x = 260 then 234 else if x = 261 then 225 else if x = 266 then 200 else if x = 267 then 239 else if x = 276 then 203 else if x = 277 then 204 else if x = 279 then 220 else if x = 280 then 221 else if x = 281 then 222 else if x = 282 then 223 else if x = 283 then 212 else if x = 284 then 213 else if x = 285 then 214 else if x = 286 then 215 else if x = 287 then 235 else if x = 311 then 240 else if x = 312 then 241 else if x = 314 then 247 else if x = 316 then 164 else if x = 317 then 227 else if x = 318 then 229 else if x = 319 then 230 else if x = 320 then 231 else if x = 321 then 245 else if x = 322 then 246 else if x = 337 then 243 else if x = 338 then 244 else if x = 347 then 248 else if x = 348 then 249 else if x = 349 then 250 else if x = 350 then 251 else if x = 351 then 252 else if x = 352 then 253 else if x = 353 then 254 else if x = 354 then 255 else if x = 355 then 256 else if x = 356 then 257 else if x = 357 then 258 else if x = 358 then 259 else if x = 359 then 260 else if x = 360 then 261 else if x = 361 then 262 else if x = 362 then 263 else if x = 363 then 266 else if x = 364 then 264 else if x = 365 then 265 else if x = 366 then 267 else if x = 367 then 283 else x, fun x => if x = 0 then 0 else if x = 1 then 1 else if x = 2 then 2 else if x = 3 then 3 else if x = 4 then 4 else if x = 5 then 5 else if x = 6 then 6 else if x = 7 then 7 else if x = 8 then 8 else if x = 9 then 9 else if x = 10 then 10 else if x = 11 then 11 else if x = 12 then 12 else if x = 13 then 13 else if x = 14 then 14 else if x = 15 then 15 else if x = 16 then 16 else if x = 17 then 17 else if x = 18 then 18 else if x = 19 then 19 else if x = 20 then 20 else if x = 21 then 21 else if x = 22 then 191 else if x = 27 then 219 else if x = 31 then 77 else if x = 32 then 208 else if x = 33 then 198 else if x = 37 then 183 else if x = 40 then 212 else if x = 41 then 142 else if x = 46 then 238 else if x = 47 then 239 else if x = 49 then 250 else if x = 51 then 231 else if x = 52 then 257 else if x = 53 then 214 else if x = 54 then 215 else if x = 55 then 181 else if x = 59 then 200 else if x = 60 then 201 else if x = 65 then 204 else if x = 66 then 196 else if x = 67 then 148 else if x = 68 then 202 else if x = 69 then 147 else if x = 70 then 182 else if x = 71 then 184 else if x = 72 then 185 else if x = 73 then 121 else if x = 74 then 186 else if x = 75 then 187 else if x = 76 then 188 else if x = 77 then 189 else if x = 80 then 135 else if x = 81 then 178 else if x = 83 then 153 else if x = 84 then 203 else if x = 85 then 223 else if x = 86 then 224 else if x = 103 then 240 else if x = 104 then 54 else if x = 105 then 220 else if x = 106 then 221 else if x = 108 then 245 else if x = 111 then 86 else if x = 114 then 234 else if x = 119 then 210 else if x = 120 then 211 else if x = 127 then 197 else if x = 128 then 209 else if x = 137 then 258 else if x = 138 then 259 else if x = 139 then 260 else if x = 140 then 232 else if x = 141 then 233 else if x = 143 then 262 else if x = 144 then 263 else if x = 145 then 264 else if x = 146 then 265 else if x = 151 then 266 else if x = 152 then 228 else if x = 153 then 229 else if x = 154 then 230 else if x = 164 then 205 else if x = 165 then 206 else if x = 166 then 207 else if x = 167 then 222 else if x = 168 then 225 else if x = 169 then 226 else if x = 170 then 227 else if x = 171 then 213 else if x = 172 then 216 else if x = 173 then 217 else if x = 174 then 218 else if x = 175 then 241 else if x = 176 then 242 else if x = 193 then 246 else if x = 194 then 247 else if x = 195 then 248 else if x = 196 then 249 else if x = 197 then 251 else if x = 198 then 252 else if x = 199 then 253 else if x = 200 then 254 else if x = 201 then 255 else if x = 202 then 256 else if x = 209 then 243 else if x = 210 then 244 else if x = 211 then 235 else if x = 212 then 236 else if x = 213 then 237 else if x = 214 then 261 else if x = 226 then 267 else if x = 227 then 268 else if x = 232 then 269 else if x = 233 then 270 else if x = 238 then 271 else if x = 239 then 272 else if x = 240 then 273 else if x = 241 then 274 else if x = 242 then 275 else if x = 243 then 276 else if x = 244 then 277 else if x = 245 then 278 else if x = 246 then 279 else if x = 247 then 280 else if x = 248 then 281 else if x = 249 then 282 else x, fun x => if x = 0 then 1 else if x = 1 then 2 else if x = 3 then 7 else if x = 4 then 8 else if x = 6 then 3 else if x = 15 then 5 else if x = 16 then 6 else if x = 17 then 4 else if x = 18 then 9 else if x = 19 then 10 else x⟩
theorem laysR : Lays.n155 Tryz.prog renV where
  mixed := by kernel_rfl
  f138 := by kernel_rfl
  f143 := by kernel_rfl
  f154 := by kernel_rfl
  f155 := by kernel_rfl
  f165 := by kernel_rfl
  f166 := by kernel_rfl
  f169 := by kernel_rfl
  f195 := by kernel_rfl
  f197 := by kernel_rfl
  f217 := by kernel_rfl
  f218 := by kernel_rfl
  f219 := by kernel_rfl
  f224 := by kernel_rfl
  f225 := by kernel_rfl
  f240 := by kernel_rfl
  f241 := by kernel_rfl
  f260 := by kernel_rfl
  f266 := by kernel_rfl
  f267 := by kernel_rfl
  f276 := by kernel_rfl
  f277 := by kernel_rfl
  f314 := by kernel_rfl
  t0 := by kernel_rfl
  a0 := fun w => by kernel_rfl
  z0 := fun w => by kernel_rfl
  v0 := fun w => by kernel_rfl
  t3 := by kernel_rfl
  a3 := fun w => by kernel_rfl
  z3 := fun w => by kernel_rfl
  v3 := fun w => by kernel_rfl
  t4 := by kernel_rfl
  a4 := fun w => by kernel_rfl
  z4 := fun w => by kernel_rfl
  v4 := fun w => by kernel_rfl
  t5 := by kernel_rfl
  a5 := fun w => by kernel_rfl
  z5 := fun w => by kernel_rfl
  v5 := fun w => by kernel_rfl
  t9 := by kernel_rfl
  a9 := fun w => by kernel_rfl
  z9 := fun w => by kernel_rfl
  v9 := fun w => by kernel_rfl
  t20 := by kernel_rfl
  a20 := fun w => by kernel_rfl
  z20 := fun w => by kernel_rfl
  v20 := fun w => by kernel_rfl
  t21 := by kernel_rfl
  a21 := fun w => by kernel_rfl
  z21 := fun w => by kernel_rfl
  v21 := fun w => by kernel_rfl
  t37 := by kernel_rfl
  a37 := fun w => by kernel_rfl
  z37 := fun w => by kernel_rfl
  v37 := fun w => by kernel_rfl
  t46 := by kernel_rfl
  a46 := fun w => by kernel_rfl
  z46 := fun w => by kernel_rfl
  v46 := fun w => by kernel_rfl
  t51 := by kernel_rfl
  a51 := fun w => by kernel_rfl
  z51 := fun w => by kernel_rfl
  v51 := fun w => by kernel_rfl
  t70 := by kernel_rfl
  a70 := fun w => by kernel_rfl
  z70 := fun w => by kernel_rfl
  v70 := fun w => by kernel_rfl
  t72 := by kernel_rfl
  a72 := fun w => by kernel_rfl
  z72 := fun w => by kernel_rfl
  v72 := fun w => by kernel_rfl
  t75 := by kernel_rfl
  a75 := fun w => by kernel_rfl
  z75 := fun w => by kernel_rfl
  v75 := fun w => by kernel_rfl
  t76 := by kernel_rfl
  a76 := fun w => by kernel_rfl
  z76 := fun w => by kernel_rfl
  v76 := fun w => by kernel_rfl
  t105 := by kernel_rfl
  a105 := fun w => by kernel_rfl
  z105 := fun w => by kernel_rfl
  v105 := fun w => by kernel_rfl
  t119 := by kernel_rfl
  a119 := fun w => by kernel_rfl
  z119 := fun w => by kernel_rfl
  t127 := by kernel_rfl
  a127 := fun w => by kernel_rfl
  z127 := fun w => by kernel_rfl
  v127 := fun w => by kernel_rfl
  t138 := by kernel_rfl
  a138 := fun w => by kernel_rfl
  z138 := fun w => by kernel_rfl
  v138 := fun w => by kernel_rfl
  t139 := by kernel_rfl
  a139 := fun w => by kernel_rfl
  z139 := fun w => by kernel_rfl
  v139 := fun w => by kernel_rfl
  t146 := by kernel_rfl
  a146 := fun w => by kernel_rfl
  z146 := fun w => by kernel_rfl
  v146 := fun w => by kernel_rfl
  t164 := by kernel_rfl
  a164 := fun w => by kernel_rfl
  z164 := fun w => by kernel_rfl
  v164 := fun w => by kernel_rfl
  g1 := by kernel_rfl
  g3 := by kernel_rfl
  g4 := by kernel_rfl
theorem extraR : Builder.Extra Tryz.prog renV where
  sizeBuilder := by kernel_rfl
  liesBuilder := by kernel_rfl
  t5 := laysR.t5
  a5 := laysR.a5
  z5 := laysR.z5
  v5 := laysR.v5
  infoByte := by kernel_rfl
  cellsByte := by kernel_rfl
  sizeByte := by kernel_rfl
  neB5 := by decide
theorem laysI : LaysM.n171 Tryz.prog renV where
  mixed := by kernel_rfl
  f129 := by kernel_rfl
  f171 := by kernel_rfl
  f243 := by kernel_rfl
  f246 := by kernel_rfl
  f283 := by kernel_rfl
  f284 := by kernel_rfl
  f285 := by kernel_rfl
  f286 := by kernel_rfl
  f317 := by kernel_rfl
  f318 := by kernel_rfl
  f319 := by kernel_rfl
  f320 := by kernel_rfl
  f337 := by kernel_rfl
  f338 := by kernel_rfl
  t0 := by kernel_rfl
  a0 := fun w => by kernel_rfl
  z0 := fun w => by kernel_rfl
  v0 := fun w => by kernel_rfl
  t2 := by kernel_rfl
  a2 := fun w => by kernel_rfl
  z2 := fun w => by kernel_rfl
  v2 := fun w => by kernel_rfl
  t3 := by kernel_rfl
  a3 := fun w => by kernel_rfl
  z3 := fun w => by kernel_rfl
  v3 := fun w => by kernel_rfl
  t4 := by kernel_rfl
  a4 := fun w => by kernel_rfl
  z4 := fun w => by kernel_rfl
  v4 := fun w => by kernel_rfl
  t5 := by kernel_rfl
  a5 := fun w => by kernel_rfl
  z5 := fun w => by kernel_rfl
  v5 := fun w => by kernel_rfl
  t9 := by kernel_rfl
  a9 := fun w => by kernel_rfl
  z9 := fun w => by kernel_rfl
  v9 := fun w => by kernel_rfl
  t20 := by kernel_rfl
  a20 := fun w => by kernel_rfl
  z20 := fun w => by kernel_rfl
  v20 := fun w => by kernel_rfl
  t37 := by kernel_rfl
  a37 := fun w => by kernel_rfl
  z37 := fun w => by kernel_rfl
  v37 := fun w => by kernel_rfl
  t46 := by kernel_rfl
  a46 := fun w => by kernel_rfl
  z46 := fun w => by kernel_rfl
  v46 := fun w => by kernel_rfl
  t51 := by kernel_rfl
  a51 := fun w => by kernel_rfl
  z51 := fun w => by kernel_rfl
  v51 := fun w => by kernel_rfl
  t53 := by kernel_rfl
  a53 := fun w => by kernel_rfl
  z53 := fun w => by kernel_rfl
  v53 := fun w => by kernel_rfl
  t171 := by kernel_rfl
  a171 := fun w => by kernel_rfl
  z171 := fun w => by kernel_rfl
  v171 := fun w => by kernel_rfl
  t173 := by kernel_rfl
  a173 := fun w => by kernel_rfl
  z173 := fun w => by kernel_rfl
  v173 := fun w => by kernel_rfl
  t212 := by kernel_rfl
  a212 := fun w => by kernel_rfl
  z212 := fun w => by kernel_rfl
  v212 := fun w => by kernel_rfl
  t213 := by kernel_rfl
  a213 := fun w => by kernel_rfl
  z213 := fun w => by kernel_rfl
  t232 := by kernel_rfl
  a232 := fun w => by kernel_rfl
  z232 := fun w => by kernel_rfl
  v232 := fun w => by kernel_rfl
  t233 := by kernel_rfl
  a233 := fun w => by kernel_rfl
  z233 := fun w => by kernel_rfl
  v233 := fun w => by kernel_rfl
  g17 := by kernel_rfl
  g18 := by kernel_rfl
  g19 := by kernel_rfl
  i0 := by kernel_rfl
  i2 := by kernel_rfl
  i3 := by kernel_rfl
  i4 := by kernel_rfl
  i5 := by kernel_rfl
  i9 := by kernel_rfl
  i20 := by kernel_rfl
  i37 := by kernel_rfl
  i46 := by kernel_rfl
  i51 := by kernel_rfl
  i53 := by kernel_rfl
  i171 := by kernel_rfl
  i173 := by kernel_rfl
  i212 := by kernel_rfl
  i232 := by kernel_rfl
  i233 := by kernel_rfl
  m17 := by kernel_rfl
  m18 := by kernel_rfl
  m19 := by kernel_rfl
theorem laysIx : Lays.n137 Tryz.prog renV where
  mixed := by kernel_rfl
  f137 := by kernel_rfl
  f217 := by kernel_rfl
  f266 := by kernel_rfl
  t3 := by kernel_rfl
  a3 := fun w => by kernel_rfl
  z3 := fun w => by kernel_rfl
  v3 := fun w => by kernel_rfl
  t5 := by kernel_rfl
  a5 := fun w => by kernel_rfl
  z5 := fun w => by kernel_rfl
  v5 := fun w => by kernel_rfl
  t9 := by kernel_rfl
  a9 := fun w => by kernel_rfl
  z9 := fun w => by kernel_rfl
  v9 := fun w => by kernel_rfl
theorem laysJo : Lays.n156 Tryz.prog renV where
  mixed := by kernel_rfl
  f156 := by kernel_rfl
  f165 := by kernel_rfl
  f166 := by kernel_rfl
  f169 := by kernel_rfl
  f240 := by kernel_rfl
  f241 := by kernel_rfl
  f276 := by kernel_rfl
  f277 := by kernel_rfl
  t0 := by kernel_rfl
  a0 := fun w => by kernel_rfl
  z0 := fun w => by kernel_rfl
  v0 := fun w => by kernel_rfl
  t3 := by kernel_rfl
  a3 := fun w => by kernel_rfl
  z3 := fun w => by kernel_rfl
  v3 := fun w => by kernel_rfl
  t4 := by kernel_rfl
  a4 := fun w => by kernel_rfl
  z4 := fun w => by kernel_rfl
  v4 := fun w => by kernel_rfl
  t9 := by kernel_rfl
  a9 := fun w => by kernel_rfl
  z9 := fun w => by kernel_rfl
  v9 := fun w => by kernel_rfl
  t20 := by kernel_rfl
  a20 := fun w => by kernel_rfl
  z20 := fun w => by kernel_rfl
  v20 := fun w => by kernel_rfl
  t31 := by kernel_rfl
  a31 := fun w => by kernel_rfl
  z31 := fun w => by kernel_rfl
  v31 := fun w => by kernel_rfl
  t37 := by kernel_rfl
  a37 := fun w => by kernel_rfl
  z37 := fun w => by kernel_rfl
  v37 := fun w => by kernel_rfl
  t70 := by kernel_rfl
  a70 := fun w => by kernel_rfl
  z70 := fun w => by kernel_rfl
  v70 := fun w => by kernel_rfl
  t72 := by kernel_rfl
  a72 := fun w => by kernel_rfl
  z72 := fun w => by kernel_rfl
  v72 := fun w => by kernel_rfl
  t75 := by kernel_rfl
  a75 := fun w => by kernel_rfl
  z75 := fun w => by kernel_rfl
  v75 := fun w => by kernel_rfl
  t76 := by kernel_rfl
  a76 := fun w => by kernel_rfl
  z76 := fun w => by kernel_rfl
  v76 := fun w => by kernel_rfl
  t127 := by kernel_rfl
  a127 := fun w => by kernel_rfl
  z127 := fun w => by kernel_rfl
  v127 := fun w => by kernel_rfl
  t164 := by kernel_rfl
  a164 := fun w => by kernel_rfl
  z164 := fun w => by kernel_rfl
  v164 := fun w => by kernel_rfl
theorem numR : renV.f 155 = 187 ∧ renV.f 171 = 162 ∧ renV.g 1 = 2 ∧ renV.g 17 = 4 := by decide
theorem numL : renV.f 137 = 160 ∧ renV.f 99 = 172 ∧ renV.f 145 = 195 ∧ renV.f 157 = 197 ∧ renV.f 110 = 192 ∧ renV.f 172 = 194 ∧ renV.f 166 = 166 ∧ renV.f 169 = 167 ∧ renV.f 170 = 196 ∧ renV.f 156 = 118 := by decide
end Go.Proofs.YtnidnipiihhnaaaGreatDoor
