/- Packed for the hand-in: LCutF -/
import Derived.Test.YtaaggohjmhifbaaGreatDoorY03
import Derived.Deep.RegionHeld3
namespace Go.Proofs.YtaaggohjmhifbaaGreatDoor
open Go.RowKit Go.Shelf
set_option linter.unusedSimpArgs false
set_option linter.unusedVariables false
set_option maxRecDepth 20000
set_option maxHeartbeats 8000000
def Lg:Ren:=⟨fun x=>if x=25 then 79 else x,fun x=>if x=0 then 0 else if x=3 then 3 else if x=4 then 4 else if x=5 then 5 else if x=9 then 9 else if x=37 then 186 else if x=47 then 187 else x,fun x=>x⟩
theorem K3:LaysPu.n25 Tryz.prog Lg where
 mixed:=by kernel_rfl
 f25:=by kernel_rfl
 t0:=by kernel_rfl
 a0:=fun w=>by kernel_rfl
 z0:=fun w=>by kernel_rfl
 v0:=fun w=>by kernel_rfl
 i0:=by kernel_rfl
 t3:=by kernel_rfl
 a3:=fun w=>by kernel_rfl
 z3:=fun w=>by kernel_rfl
 v3:=fun w=>by kernel_rfl
 i3:=by kernel_rfl
 t4:=by kernel_rfl
 a4:=fun w=>by kernel_rfl
 z4:=fun w=>by kernel_rfl
 v4:=fun w=>by kernel_rfl
 i4:=by kernel_rfl
 t5:=by kernel_rfl
 a5:=fun w=>by kernel_rfl
 z5:=fun w=>by kernel_rfl
 v5:=fun w=>by kernel_rfl
 i5:=by kernel_rfl
 t9:=by kernel_rfl
 a9:=fun w=>by kernel_rfl
 z9:=fun w=>by kernel_rfl
 v9:=fun w=>by kernel_rfl
 i9:=by kernel_rfl
 t37:=by kernel_rfl
 a37:=fun w=>by kernel_rfl
 z37:=fun w=>by kernel_rfl
 v37:=fun w=>by kernel_rfl
 i37:=by kernel_rfl
 t47:=by kernel_rfl
 a47:=fun w=>by kernel_rfl
 z47:=fun w=>by kernel_rfl
 v47:=fun w=>by kernel_rfl
 i47:=by kernel_rfl
theorem iX (s:ByteArray) (w:World) (hs:s.size≤140737488355328):Calls Tryz.prog 48 #[.string s] w fun e w'=>e = .returned (.string s)∧Below w.heap.size w w':=by
 have HC:=hid (AnyPu.stringslite_Clone K3 s w (by omega))
 go_enter Tryz.func48,Tryz.ntmps48
 go_wp2_with fail
 refine HC.out.mono ?_
 rintro e w1 ⟨rfl,h1⟩
 go_wp2
 go_ret
 exact⟨rfl,h1⟩
def jV (x:Nat × Tk × Nat):Value:=.tuple #[.agg #[.int .i64 x.2.1.k,.string (ah x.2.1.s),.int .i64 x.2.1.n,.int .i64 x.2.1.p],.int .i64 (x.2.2:Int),.int .i64 (x.1:Int)]
theorem aW {w:World} {g:Nat} {a b c d:Value} {t:TypeId} (h:w.heap[g]?=some (.cells #[a,b,c,d] t)) :
  w.cell? ⟨g,0,none⟩=some a∧w.cell? ⟨g,1,none⟩=some b∧w.cell? ⟨g,2,none⟩=some c∧w.cell? ⟨g,3,none⟩=some d∧∀i,w.frozen? ⟨g,i,none⟩=false :=
 ⟨by rw[aN _ _ _ _ _ _ h];rfl,by rw[aN _ _ _ _ _ _ h];rfl,by rw[aN _ _ _ _ _ _ h];rfl,by rw[aN _ _ _ _ _ _ h];rfl,fun i=>by simp[World.frozen?,h]⟩
theorem yg (w:World) (a b c d:Value) (t:TypeId):∃W,w.alloc (.cells #[a,b,c,d] t)=W∧Below w.heap.size w W∧w.heap.size<W.heap.size∧∀W',Below W.heap.size W W'→W'.heap[w.heap.size]?=some (.cells #[a,b,c,d] t) :=
 ⟨_,rfl,(Below.refl _ _).alloc (Nat.le_refl _) _,by simp,fun W' h=>(h.block _ (by simp)).trans (heap_alloc_new w _)⟩
theorem e4:jV (4,jl,0) = .tuple #[.agg #[.int .i64 0,.string ⟨#[]⟩,.int .i64 0,.int .i64 0],.int .i64 0,.int .i64 4]:=rfl
theorem e2:jV (2,jl,0) = .tuple #[.agg #[.int .i64 0,.string ⟨#[]⟩,.int .i64 0,.int .i64 0],.int .i64 0,.int .i64 2]:=rfl
theorem e3:jV (3,jl,0) = .tuple #[.agg #[.int .i64 0,.string ⟨#[]⟩,.int .i64 0,.int .i64 0],.int .i64 0,.int .i64 3]:=rfl
theorem e7:jV (7,jl,0) = .tuple #[.agg #[.int .i64 0,.string ⟨#[]⟩,.int .i64 0,.int .i64 0],.int .i64 0,.int .i64 7]:=rfl
theorem KJ (k:Int) (t:List UInt8) (n:Nat):jV (0,⟨k,t,0,0⟩,n) = .tuple #[.agg #[.int .i64 k,.string (ah t),.int .i64 0,.int .i64 0],.int .i64 (n:Int),.int .i64 0]:=rfl
theorem vP (w:World):Calls Tryz.prog 257 #[] w fun e w'=>e = .returned (.slice (some ⟨w.heap.size,0,none⟩) 33 33)∧w'=w.alloc (.cells ((jg.map fun l=>Value.string (ah l)).toArray) 9):=by
 go_enter Tryz.func257,Tryz.ntmps257
 go_wp2
 go_ret
 exact⟨rfl,rfl⟩
theorem Dl (t:List UInt8) (B:Nat) (w:World) (h:w.heap[B]?=some (.cells ((jg.map fun l=>Value.string (ah l)).toArray) 9)):Calls Tryz.prog 256 #[.slice (some ⟨B,0,none⟩) 33 33,.string (ah t)] w fun e w'=>e = .returned (.bool (jg.contains t))∧w'=w:=by
 have hl:(jg.map ah).length=33:=rfl
 have:=Any.slices_Contains_string Kk B 0 33 33 (jg.map ah) (ah t) w (by rw[hl];decide) (by decide) (fun j hj=>by
  rw[aN _ _ _ _ _ _ h]
  rw[hl] at hj
  rw[List.getElem?_toArray,Nat.zero_add,List.getElem?_map]
  have hj':j<jg.length:=hj
  rw[List.getElem?_eq_getElem hj']
  simp[List.getD,List.getElem?_eq_getElem hj'])
 rw[sV.2.2.2.2.1] at this
 have e:Lib.containsS ((jg.map ah).take 33) (ah t)=jg.contains t:=by
  rw[List.take_of_length_le (by rw[hl];decide),Bool.eq_iff_iff,Lib.containsS_iff,List.contains_iff_mem,List.mem_map]
  refine ⟨fun ⟨x,hx,he⟩=>by rw[← FP he];exact hx,fun h=>⟨t,h,rfl⟩⟩
 rw[e] at this
 exact this
theorem zk (s:List UInt8) (w:World) (hs:s.length≤140737488351232):Calls Tryz.prog 226 #[.string (ah s)] w fun e w'=>e = .returned (jV (iq s))∧Below w.heap.size w w':=by
 have HO:Hid (∀w,Calls Tryz.prog 153 #[.string ⟨#[97,98,99,100,101,102,103,104,105,106,107,108,109,110,111,112,113,114,115,116,117,118,119,120,121,122,95,48,49,50,51,52,53,54,55,56,57]⟩] w fun e w'=>(e = .returned (.func (.func 208) #[] #[.pointer (some ⟨w.heap.size,0,none⟩)])∧kM 208 #[.pointer (some ⟨w.heap.size,0,none⟩)] (bK bS) w')∧Below w.heap.size w w'):=hid (fun w=>fQ bS w)
 have hle:=kK (bK bS) s
 have HW:=hid (fun B w1 hp=>kH s bS B w1 hs hp)
 have HR:=hid (fun w=>pO (s.drop (row (bK bS) s)) w (by rw[List.length_drop];omega))
 have hd:iq s=if l7 (s.drop (row (bK bS) s))=true then (4,jl,0) else if 16<row (bK bS) s then (2,jl,0) else (0,⟨1,s.take (row (bK bS) s),0,0⟩,row (bK bS) s):=rfl
 rw[hd]
 clear hd
 generalize row (bK bS) s=n at HW HR hle ⊢
 have hs1:=gX s n hle
 have hs2:=rQ s n hle
 have hlt:(s.take n).length≤s.length:=by rw[List.length_take];omega
 have HC:=hid (fun w=>iX (ah (s.take n)) w (by rw[cu];omega))
 clear hlt
 generalize s.drop n=r at HR hs1 ⊢
 generalize s.take n=t at HC hs2 ⊢
 obtain⟨W,hW,hbW,hzW,hcW⟩:=yg w (.int .i64 0) (.string ⟨#[]⟩) (.int .i64 0) (.int .i64 0) 162
 have HCW:=hid hcW
 have HB:=hid hbW
 clear hcW hbW
 cases hr:l7 r with
 |
  true =>
  rw[hr] at HR
  rw[if_pos rfl,e4]
  clear hr
  go_enter Tryz.func226,Tryz.ntmps226
  go_wp2_with fail
  try rw[hW]
  clear hW
  refine (HO.out _).mono ?_
  rintro e w1 ⟨⟨rfl,hp⟩,hb1⟩
  go_wp2_with fail
  refine (HW.out _ _ hp).mono ?_
  rintro e w2 ⟨rfl,hw⟩
  obtain rfl:w1=w2:=hw.symm
  clear hw hp
  go_wp2_with fail
  refine (HR.out _).mono ?_
  rintro e w3 ⟨rfl,hb3⟩
  have HD:=hid (hb1.trans (hb3.mono hb1.size))
  clear hb1 hb3
  have HE:Hid (Below w.heap.size w w3):=hid (HB.out.trans (HD.out.mono (Nat.le_of_lt hzW)))
  have g0:=aW (HCW.out w3 HD.out)
  go_wp2
  exact bodyPost_ret (v:=.tuple #[.agg #[.int .i64 0,.string ⟨#[]⟩,.int .i64 0,.int .i64 0],.int .i64 0,.int .i64 4]) (by simp[results,Tryz.results226,go_sem,g0]) rfl ⟨rfl,(((HE.out.setCell (Nat.le_refl _) _).setCell (Nat.le_refl _) _).setCell (Nat.le_refl _) _).setCell (Nat.le_refl _) _⟩
 |
  false =>
  rw[hr] at HR
  rw[if_neg (by simp)]
  clear hr
  by_cases h16:16<n
  ·rw[if_pos h16,e2]
   go_enter Tryz.func226,Tryz.ntmps226
   go_wp2_with fail
   try rw[hW]
   clear hW
   refine (HO.out _).mono ?_
   rintro e w1 ⟨⟨rfl,hp⟩,hb1⟩
   go_wp2_with fail
   refine (HW.out _ _ hp).mono ?_
   rintro e w2 ⟨rfl,hw⟩
   obtain rfl:w1=w2:=hw.symm
   clear hw hp
   go_wp2_with fail
   refine (HR.out _).mono ?_
   rintro e w3 ⟨rfl,hb3⟩
   have HD:=hid (hb1.trans (hb3.mono hb1.size))
   clear hb1 hb3
   have HE:Hid (Below w.heap.size w w3):=hid (HB.out.trans (HD.out.mono (Nat.le_of_lt hzW)))
   have g0:=aW (HCW.out w3 HD.out)
   go_wp2
   exact bodyPost_ret (v:=.tuple #[.agg #[.int .i64 0,.string ⟨#[]⟩,.int .i64 0,.int .i64 0],.int .i64 0,.int .i64 2]) (by simp[results,Tryz.results226,go_sem,g0]) rfl ⟨rfl,(((HE.out.setCell (Nat.le_refl _) _).setCell (Nat.le_refl _) _).setCell (Nat.le_refl _) _).setCell (Nat.le_refl _) _⟩
  ·rw[if_neg h16,KJ]
   go_enter Tryz.func226,Tryz.ntmps226
   go_wp2_with fail
   try rw[hW]
   clear hW
   refine (HO.out _).mono ?_
   rintro e w1 ⟨⟨rfl,hp⟩,hb1⟩
   go_wp2_with fail
   refine (HW.out _ _ hp).mono ?_
   rintro e w2 ⟨rfl,hw⟩
   obtain rfl:w1=w2:=hw.symm
   clear hw hp
   go_wp2_with fail
   refine (HR.out _).mono ?_
   rintro e w3 ⟨rfl,hb3⟩
   have HD:=hid (hb1.trans (hb3.mono hb1.size))
   clear hb1 hb3
   go_wp2_with fail
   refine (HC.out _).mono ?_
   rintro e w4 ⟨rfl,hb4⟩
   have HD4:=hid (HD.out.trans (hb4.mono HD.out.size))
   have HE:Hid (Below w.heap.size w w4):=hid (HB.out.trans (HD4.out.mono (Nat.le_of_lt hzW)))
   have g0:=aW (HCW.out w4 HD4.out)
   clear hb4
   go_wp2
   exact bodyPost_ret (v:=.tuple #[.agg #[.int .i64 1,.string (ah t),.int .i64 0,.int .i64 0],.int .i64 (n:Int),.int .i64 0]) (by simp[results,Tryz.results226,go_sem,g0]) rfl ⟨rfl,(((HE.out.setCell (Nat.le_refl _) _).setCell (Nat.le_refl _) _).setCell (Nat.le_refl _) _).setCell (Nat.le_refl _) _⟩
theorem zT (s:List UInt8) (w:World) (hs:s.length≤140737488351232):Calls Tryz.prog 227 #[.string (ah s)] w fun e w'=>e = .returned (jV (iH s))∧Below w.heap.size w w':=by
 have HO:Hid (∀w,Calls Tryz.prog 153 #[.string ⟨#[65,66,67,68,69,70,71,72,73,74,75,76,77,78,79,80,81,82,83,84,85,86,87,88,89,90]⟩] w fun e w'=>(e = .returned (.func (.func 208) #[] #[.pointer (some ⟨w.heap.size,0,none⟩)])∧kM 208 #[.pointer (some ⟨w.heap.size,0,none⟩)] (bK je) w')∧Below w.heap.size w w'):=hid (fun w=>fQ je w)
 have hle:=kK (bK je) s
 have HW:=hid (fun B w1 hp=>kH s je B w1 hs hp)
 have HR:=hid (fun w=>pO (s.drop (row (bK je) s)) w (by rw[List.length_drop];omega))
 have hd:iH s=if l7 (s.drop (row (bK je) s))=true then (4,jl,0) else if jg.contains (s.take (row (bK je) s))=false then (4,jl,0) else (0,⟨2,s.take (row (bK je) s),0,0⟩,row (bK je) s):=rfl
 rw[hd]
 clear hd
 generalize row (bK je) s=n at HW HR hle ⊢
 have hs1:=gX s n hle
 have hs2:=rQ s n hle
 have hlt:(s.take n).length≤s.length:=by rw[List.length_take];omega
 have HC:=hid (fun w=>iX (ah (s.take n)) w (by rw[cu];omega))
 clear hlt
 generalize s.drop n=r at HR hs1 ⊢
 generalize s.take n=t at HC hs2 ⊢
 have HN:=hid (fun B w h=>Dl t B w h)
 obtain⟨W,hW,hbW,hzW,hcW⟩:=yg w (.int .i64 0) (.string ⟨#[]⟩) (.int .i64 0) (.int .i64 0) 162
 have HCW:=hid hcW
 have HB:=hid hbW
 clear hcW hbW
 cases hr:l7 r with
 |
  true =>
  rw[hr] at HR
  rw[if_pos rfl,e4]
  clear hr HN HC
  go_enter Tryz.func227,Tryz.ntmps227
  go_wp2_with fail
  try rw[hW]
  clear hW
  refine (HO.out _).mono ?_
  rintro e w1 ⟨⟨rfl,hp⟩,hb1⟩
  go_wp2_with fail
  refine (HW.out _ _ hp).mono ?_
  rintro e w2 ⟨rfl,hw⟩
  obtain rfl:w1=w2:=hw.symm
  clear hw hp
  have HD1:Hid (Below W.heap.size W w1.drew):=hid (below_drewN hb1 1)
  clear hb1
  go_wp2_with fail
  refine wp_region_quiet (C:=fun W'=>Below W.heap.size W W') (by kernel_rfl) (by kernel_rfl) HD1.out ?_
  dsimp only
  go_big_quiet_step ((intro _;rfl))
  go_big_quiet_step ((intro _;rfl))
  go_big_quiet_step ((intro _;rfl))
  go_big_quiet_want
  go_big_quiet_op
  refine ⟨_,fun W1 hW1=>(HR.out W1).mono (fun e w'' ⟨he,hb⟩=>⟨he,hW1.trans (hb.mono hW1.size)⟩),?_⟩
  go_big_quiet_on
  repeat go_big_quiet_step ((intro _;rfl))
  refine wpQuiet_nil ?_
  intro w3 hD3
  have HD:=hid hD3
  clear hD3
  have HE:Hid (Below w.heap.size w w3):=hid (HB.out.trans (HD.out.mono (Nat.le_of_lt hzW)))
  have g0:=aW (HCW.out w3 HD.out)
  go_wp2
  exact bodyPost_ret (v:=.tuple #[.agg #[.int .i64 0,.string ⟨#[]⟩,.int .i64 0,.int .i64 0],.int .i64 0,.int .i64 4]) (by simp[results,Tryz.results227,go_sem,g0]) rfl ⟨rfl,(((HE.out.setCell (Nat.le_refl _) _).setCell (Nat.le_refl _) _).setCell (Nat.le_refl _) _).setCell (Nat.le_refl _) _⟩
 |
  false =>
  rw[hr] at HR
  rw[if_neg (by simp)]
  clear hr
  cases hk:jg.contains t with
  |
   false =>
   rw[hk] at HN
   rw[if_pos rfl,e4]
   clear hk HC
   go_enter Tryz.func227,Tryz.ntmps227
   go_wp2_with fail
   try rw[hW]
   clear hW
   refine (HO.out _).mono ?_
   rintro e w1 ⟨⟨rfl,hp⟩,hb1⟩
   go_wp2_with fail
   refine (HW.out _ _ hp).mono ?_
   rintro e w2 ⟨rfl,hw⟩
   obtain rfl:w1=w2:=hw.symm
   clear hw hp
   go_wp2_with fail
   have HD1:Hid (Below W.heap.size W w1.drew):=hid (below_drewN hb1 1)
   clear hb1
   go_region_held3 (fun _=>True) (first | trivial) (first
    | (
     go_at_call 255;refine (HR.out _).mono ?_;rintro e w3 ⟨rfl,hb3⟩
     have HD3:=hid (HD1.out.trans (hb3.mono HD1.out.size))
     clear hb3)
    | (
     go_at_call 257;refine (vP _).mono ?_;rintro e w4 ⟨rfl,hw4⟩
     have HK:Hid (w4.heap[w3.heap.size]?=some (.cells ((jg.map fun l=>Value.string (ah l)).toArray) 9)):=hid (by rw[hw4];exact heap_alloc_new _ _)
     have HD:=hid (show Below W.heap.size W w4 by rw[hw4];exact HD3.out.alloc HD3.out.size _)
     clear hw4)
    | (go_at_call 256;refine (HN.out _ w4 HK.out).mono ?_;rintro e w5 ⟨rfl,hw5⟩;rw[hw5]))
   all_goals have HE:Hid (Below w.heap.size w w4):=hid (HB.out.trans (HD.out.mono (Nat.le_of_lt hzW)))
   all_goals have g0:=aW (HCW.out w4 HD.out)
   all_goals go_wp2
   all_goals exact bodyPost_ret (v:=.tuple #[.agg #[.int .i64 0,.string ⟨#[]⟩,.int .i64 0,.int .i64 0],.int .i64 0,.int .i64 4]) (by simp[results,Tryz.results227,go_sem,g0]) rfl ⟨rfl,(((HE.out.setCell (Nat.le_refl _) _).setCell (Nat.le_refl _) _).setCell (Nat.le_refl _) _).setCell (Nat.le_refl _) _⟩
  |
   true =>
   rw[hk] at HN
   rw[if_neg (by simp),KJ]
   clear hk
   go_enter Tryz.func227,Tryz.ntmps227
   go_wp2_with fail
   try rw[hW]
   clear hW
   refine (HO.out _).mono ?_
   rintro e w1 ⟨⟨rfl,hp⟩,hb1⟩
   go_wp2_with fail
   refine (HW.out _ _ hp).mono ?_
   rintro e w2 ⟨rfl,hw⟩
   obtain rfl:w1=w2:=hw.symm
   clear hw hp
   go_wp2_with fail
   have HD1:Hid (Below W.heap.size W w1.drew):=hid (below_drewN hb1 1)
   clear hb1
   go_region_held3 (fun _=>True) (first | trivial) (first
    | (
     go_at_call 255;refine (HR.out _).mono ?_;rintro e w3 ⟨rfl,hb3⟩
     have HD3:=hid (HD1.out.trans (hb3.mono HD1.out.size))
     clear hb3)
    | (
     go_at_call 257;refine (vP _).mono ?_;rintro e w4 ⟨rfl,hw4⟩
     have HK:Hid (w4.heap[w3.heap.size]?=some (.cells ((jg.map fun l=>Value.string (ah l)).toArray) 9)):=hid (by rw[hw4];exact heap_alloc_new _ _)
     have HD:=hid (show Below W.heap.size W w4 by rw[hw4];exact HD3.out.alloc HD3.out.size _)
     clear hw4)
    | (go_at_call 256;refine (HN.out _ w4 HK.out).mono ?_;rintro e w5 ⟨rfl,hw5⟩;rw[hw5]))
   all_goals go_wp2_with fail
   all_goals refine (HC.out _).mono ?_
   all_goals rintro e w6 ⟨rfl,hb6⟩
   all_goals have HD6:=hid (HD.out.trans (hb6.mono HD.out.size))
   all_goals have HE:Hid (Below w.heap.size w w6):=hid (HB.out.trans (HD6.out.mono (Nat.le_of_lt hzW)))
   all_goals have g0:=aW (HCW.out w6 HD6.out)
   all_goals clear hb6
   all_goals go_wp2
   all_goals exact bodyPost_ret (v:=.tuple #[.agg #[.int .i64 2,.string (ah t),.int .i64 0,.int .i64 0],.int .i64 (n:Int),.int .i64 0]) (by simp[results,Tryz.results227,go_sem,g0]) rfl ⟨rfl,(((HE.out.setCell (Nat.le_refl _) _).setCell (Nat.le_refl _) _).setCell (Nat.le_refl _) _).setCell (Nat.le_refl _) _⟩
end Go.Proofs.YtaaggohjmhifbaaGreatDoor
