/- Packed for the hand-in: LCutF LCutG LCutH -/
import Derived.Test.YtaaggohjmhifbaaGreatDoorP02
import Derived.Deep.RegionHeld3
namespace Go.Proofs.YtaaggohjmhifbaaGreatDoor
open Go.RowKit Go.Shelf
set_option linter.unusedSimpArgs false
set_option linter.unusedVariables false
set_option maxRecDepth 20000
set_option maxHeartbeats 8000000
def renC:Ren:=⟨fun x=>if x=25 then 79 else x,fun x=>if x=0 then 0 else if x=3 then 3 else if x=4 then 4 else if x=5 then 5 else if x=9 then 9 else if x=37 then 186 else if x=47 then 187 else x,fun x=>x⟩
theorem laysC:LaysPu.n25 Tryz.prog renC where
 mixed:=by kernel_rfl
 f25:=by kernel_rfl
 t0:=by kernel_rfl
 a0:=fun w=>by kernel_rfl
 z0:=fun w=>by kernel_rfl
 v0:=fun w=>by kernel_rfl
 i0:=by kernel_rfl
 t3:=by kernel_rfl
 a3:=fun w=>by kernel_rfl
 z3:=fun w=>by kernel_rfl
 v3:=fun w=>by kernel_rfl
 i3:=by kernel_rfl
 t4:=by kernel_rfl
 a4:=fun w=>by kernel_rfl
 z4:=fun w=>by kernel_rfl
 v4:=fun w=>by kernel_rfl
 i4:=by kernel_rfl
 t5:=by kernel_rfl
 a5:=fun w=>by kernel_rfl
 z5:=fun w=>by kernel_rfl
 v5:=fun w=>by kernel_rfl
 i5:=by kernel_rfl
 t9:=by kernel_rfl
 a9:=fun w=>by kernel_rfl
 z9:=fun w=>by kernel_rfl
 v9:=fun w=>by kernel_rfl
 i9:=by kernel_rfl
 t37:=by kernel_rfl
 a37:=fun w=>by kernel_rfl
 z37:=fun w=>by kernel_rfl
 v37:=fun w=>by kernel_rfl
 i37:=by kernel_rfl
 t47:=by kernel_rfl
 a47:=fun w=>by kernel_rfl
 z47:=fun w=>by kernel_rfl
 v47:=fun w=>by kernel_rfl
 i47:=by kernel_rfl
theorem strClone_any (s:ByteArray) (w:World) (hs:s.size≤140737488355328):Calls Tryz.prog 48 #[.string s] w fun e w'=>e = .returned (.string s)∧Below w.heap.size w w':=by
 have HC:=hid (AnyPu.stringslite_Clone laysC s w (by omega))
 go_enter Tryz.func48,Tryz.ntmps48
 go_wp2_with fail
 refine HC.out.mono ?_
 rintro e w1 ⟨rfl,h1⟩
 go_wp2
 go_ret
 exact⟨rfl,h1⟩
def cutA (x:Nat × Tk × Nat):Value:=.tuple #[.agg #[.int .i64 x.2.1.k,.string (str8 x.2.1.s),.int .i64 x.2.1.n,.int .i64 x.2.1.p],.int .i64 (x.2.2:Int),.int .i64 (x.1:Int)]
theorem cells4 {w:World} {g:Nat} {a b c d:Value} {t:TypeId} (h:w.heap[g]?=some (.cells #[a,b,c,d] t)) :
  w.cell? ⟨g,0,none⟩=some a∧w.cell? ⟨g,1,none⟩=some b∧w.cell? ⟨g,2,none⟩=some c∧w.cell? ⟨g,3,none⟩=some d∧∀i,w.frozen? ⟨g,i,none⟩=false :=
 ⟨by rw[cell_row _ _ _ _ _ _ h];rfl,by rw[cell_row _ _ _ _ _ _ h];rfl,by rw[cell_row _ _ _ _ _ _ h];rfl,by rw[cell_row _ _ _ _ _ _ h];rfl,fun i=>by simp[World.frozen?,h]⟩
theorem box4 (w:World) (a b c d:Value) (t:TypeId):∃W,w.alloc (.cells #[a,b,c,d] t)=W∧Below w.heap.size w W∧w.heap.size<W.heap.size∧∀W',Below W.heap.size W W'→W'.heap[w.heap.size]?=some (.cells #[a,b,c,d] t) :=
 ⟨_,rfl,(Below.refl _ _).alloc (Nat.le_refl _) _,by simp,fun W' h=>(h.block _ (by simp)).trans (heap_alloc_new w _)⟩
theorem e4:cutA (4,zTk,0) = .tuple #[.agg #[.int .i64 0,.string ⟨#[]⟩,.int .i64 0,.int .i64 0],.int .i64 0,.int .i64 4]:=rfl
theorem e2:cutA (2,zTk,0) = .tuple #[.agg #[.int .i64 0,.string ⟨#[]⟩,.int .i64 0,.int .i64 0],.int .i64 0,.int .i64 2]:=rfl
theorem e3:cutA (3,zTk,0) = .tuple #[.agg #[.int .i64 0,.string ⟨#[]⟩,.int .i64 0,.int .i64 0],.int .i64 0,.int .i64 3]:=rfl
theorem e7:cutA (7,zTk,0) = .tuple #[.agg #[.int .i64 0,.string ⟨#[]⟩,.int .i64 0,.int .i64 0],.int .i64 0,.int .i64 7]:=rfl
theorem eTxt (k:Int) (t:List UInt8) (n:Nat):cutA (0,⟨k,t,0,0⟩,n) = .tuple #[.agg #[.int .i64 k,.string (str8 t),.int .i64 0,.int .i64 0],.int .i64 (n:Int),.int .i64 0]:=rfl
theorem words_any (w:World):Calls Tryz.prog 257 #[] w fun e w'=>e = .returned (.slice (some ⟨w.heap.size,0,none⟩) 33 33)∧w'=w.alloc (.cells ((wordsB.map fun l=>Value.string (str8 l)).toArray) 9):=by
 go_enter Tryz.func257,Tryz.ntmps257
 go_wp2
 go_ret
 exact⟨rfl,rfl⟩
theorem known_any (t:List UInt8) (B:Nat) (w:World) (h:w.heap[B]?=some (.cells ((wordsB.map fun l=>Value.string (str8 l)).toArray) 9)):Calls Tryz.prog 256 #[.slice (some ⟨B,0,none⟩) 33 33,.string (str8 t)] w fun e w'=>e = .returned (.bool (wordsB.contains t))∧w'=w:=by
 have hl:(wordsB.map str8).length=33:=rfl
 have:=Any.slices_Contains_string laysCo B 0 33 33 (wordsB.map str8) (str8 t) w (by rw[hl];decide) (by decide) (fun j hj=>by
  rw[cell_row _ _ _ _ _ _ h]
  rw[hl] at hj
  rw[List.getElem?_toArray,Nat.zero_add,List.getElem?_map]
  have hj':j<wordsB.length:=hj
  rw[List.getElem?_eq_getElem hj']
  simp[List.getD,List.getElem?_eq_getElem hj'])
 rw[numL.2.2.2.2.1] at this
 have e:Lib.containsS ((wordsB.map str8).take 33) (str8 t)=wordsB.contains t:=by
  rw[List.take_of_length_le (by rw[hl];decide),Bool.eq_iff_iff,Lib.containsS_iff,List.contains_iff_mem,List.mem_map]
  refine ⟨fun ⟨x,hx,he⟩=>by rw[← str8_inj he];exact hx,fun h=>⟨t,h,rfl⟩⟩
 rw[e] at this
 exact this
theorem cutName_any (s:List UInt8) (w:World) (hs:s.length≤140737488351232):Calls Tryz.prog 226 #[.string (str8 s)] w fun e w'=>e = .returned (cutA (cutNameT s))∧Below w.heap.size w w':=by
 have HO:Hid (∀w,Calls Tryz.prog 153 #[.string ⟨#[97,98,99,100,101,102,103,104,105,106,107,108,109,110,111,112,113,114,115,116,117,118,119,120,121,122,95,48,49,50,51,52,53,54,55,56,57]⟩] w fun e w'=>(e = .returned (.func (.func 208) #[] #[.pointer (some ⟨w.heap.size,0,none⟩)])∧PredS 208 #[.pointer (some ⟨w.heap.size,0,none⟩)] (inS nameB) w')∧Below w.heap.size w w'):=hid (fun w=>oneOf_tells nameB w)
 have hle:=row_le (inS nameB) s
 have HW:=hid (fun B w1 hp=>rowOne_any s nameB B w1 hs hp)
 have HR:=hid (fun w=>runsOn_any (s.drop (row (inS nameB) s)) w (by rw[List.length_drop];omega))
 have hd:cutNameT s=if runsB (s.drop (row (inS nameB) s))=true then (4,zTk,0) else if 16<row (inS nameB) s then (2,zTk,0) else (0,⟨1,s.take (row (inS nameB) s),0,0⟩,row (inS nameB) s):=rfl
 rw[hd]
 clear hd
 generalize row (inS nameB) s=n at HW HR hle ⊢
 have hs1:=run_cutfrom s n hle
 have hs2:=run_cutto s n hle
 have hlt:(s.take n).length≤s.length:=by rw[List.length_take];omega
 have HC:=hid (fun w=>strClone_any (str8 (s.take n)) w (by rw[str8_size];omega))
 clear hlt
 generalize s.drop n=r at HR hs1 ⊢
 generalize s.take n=t at HC hs2 ⊢
 obtain⟨W,hW,hbW,hzW,hcW⟩:=box4 w (.int .i64 0) (.string ⟨#[]⟩) (.int .i64 0) (.int .i64 0) 162
 have HCW:=hid hcW
 have HB:=hid hbW
 clear hcW hbW
 cases hr:runsB r with
 |
  true =>
  rw[hr] at HR
  rw[if_pos rfl,e4]
  clear hr
  go_enter Tryz.func226,Tryz.ntmps226
  go_wp2_with fail
  try rw[hW]
  clear hW
  refine (HO.out _).mono ?_
  rintro e w1 ⟨⟨rfl,hp⟩,hb1⟩
  go_wp2_with fail
  refine (HW.out _ _ hp).mono ?_
  rintro e w2 ⟨rfl,hw⟩
  obtain rfl:w1=w2:=hw.symm
  clear hw hp
  go_wp2_with fail
  refine (HR.out _).mono ?_
  rintro e w3 ⟨rfl,hb3⟩
  have HD:=hid (hb1.trans (hb3.mono hb1.size))
  clear hb1 hb3
  have HE:Hid (Below w.heap.size w w3):=hid (HB.out.trans (HD.out.mono (Nat.le_of_lt hzW)))
  have g0:=cells4 (HCW.out w3 HD.out)
  go_wp2
  exact bodyPost_ret (v:=.tuple #[.agg #[.int .i64 0,.string ⟨#[]⟩,.int .i64 0,.int .i64 0],.int .i64 0,.int .i64 4]) (by simp[results,Tryz.results226,go_sem,g0]) rfl ⟨rfl,(((HE.out.setCell (Nat.le_refl _) _).setCell (Nat.le_refl _) _).setCell (Nat.le_refl _) _).setCell (Nat.le_refl _) _⟩
 |
  false =>
  rw[hr] at HR
  rw[if_neg (by simp)]
  clear hr
  by_cases h16:16<n
  ·rw[if_pos h16,e2]
   go_enter Tryz.func226,Tryz.ntmps226
   go_wp2_with fail
   try rw[hW]
   clear hW
   refine (HO.out _).mono ?_
   rintro e w1 ⟨⟨rfl,hp⟩,hb1⟩
   go_wp2_with fail
   refine (HW.out _ _ hp).mono ?_
   rintro e w2 ⟨rfl,hw⟩
   obtain rfl:w1=w2:=hw.symm
   clear hw hp
   go_wp2_with fail
   refine (HR.out _).mono ?_
   rintro e w3 ⟨rfl,hb3⟩
   have HD:=hid (hb1.trans (hb3.mono hb1.size))
   clear hb1 hb3
   have HE:Hid (Below w.heap.size w w3):=hid (HB.out.trans (HD.out.mono (Nat.le_of_lt hzW)))
   have g0:=cells4 (HCW.out w3 HD.out)
   go_wp2
   exact bodyPost_ret (v:=.tuple #[.agg #[.int .i64 0,.string ⟨#[]⟩,.int .i64 0,.int .i64 0],.int .i64 0,.int .i64 2]) (by simp[results,Tryz.results226,go_sem,g0]) rfl ⟨rfl,(((HE.out.setCell (Nat.le_refl _) _).setCell (Nat.le_refl _) _).setCell (Nat.le_refl _) _).setCell (Nat.le_refl _) _⟩
  ·rw[if_neg h16,eTxt]
   go_enter Tryz.func226,Tryz.ntmps226
   go_wp2_with fail
   try rw[hW]
   clear hW
   refine (HO.out _).mono ?_
   rintro e w1 ⟨⟨rfl,hp⟩,hb1⟩
   go_wp2_with fail
   refine (HW.out _ _ hp).mono ?_
   rintro e w2 ⟨rfl,hw⟩
   obtain rfl:w1=w2:=hw.symm
   clear hw hp
   go_wp2_with fail
   refine (HR.out _).mono ?_
   rintro e w3 ⟨rfl,hb3⟩
   have HD:=hid (hb1.trans (hb3.mono hb1.size))
   clear hb1 hb3
   go_wp2_with fail
   refine (HC.out _).mono ?_
   rintro e w4 ⟨rfl,hb4⟩
   have HD4:=hid (HD.out.trans (hb4.mono HD.out.size))
   have HE:Hid (Below w.heap.size w w4):=hid (HB.out.trans (HD4.out.mono (Nat.le_of_lt hzW)))
   have g0:=cells4 (HCW.out w4 HD4.out)
   clear hb4
   go_wp2
   exact bodyPost_ret (v:=.tuple #[.agg #[.int .i64 1,.string (str8 t),.int .i64 0,.int .i64 0],.int .i64 (n:Int),.int .i64 0]) (by simp[results,Tryz.results226,go_sem,g0]) rfl ⟨rfl,(((HE.out.setCell (Nat.le_refl _) _).setCell (Nat.le_refl _) _).setCell (Nat.le_refl _) _).setCell (Nat.le_refl _) _⟩
theorem cutWord_any (s:List UInt8) (w:World) (hs:s.length≤140737488351232):Calls Tryz.prog 227 #[.string (str8 s)] w fun e w'=>e = .returned (cutA (cutWordT s))∧Below w.heap.size w w':=by
 have HO:Hid (∀w,Calls Tryz.prog 153 #[.string ⟨#[65,66,67,68,69,70,71,72,73,74,75,76,77,78,79,80,81,82,83,84,85,86,87,88,89,90]⟩] w fun e w'=>(e = .returned (.func (.func 208) #[] #[.pointer (some ⟨w.heap.size,0,none⟩)])∧PredS 208 #[.pointer (some ⟨w.heap.size,0,none⟩)] (inS upsB) w')∧Below w.heap.size w w'):=hid (fun w=>oneOf_tells upsB w)
 have hle:=row_le (inS upsB) s
 have HW:=hid (fun B w1 hp=>rowOne_any s upsB B w1 hs hp)
 have HR:=hid (fun w=>runsOn_any (s.drop (row (inS upsB) s)) w (by rw[List.length_drop];omega))
 have hd:cutWordT s=if runsB (s.drop (row (inS upsB) s))=true then (4,zTk,0) else if wordsB.contains (s.take (row (inS upsB) s))=false then (4,zTk,0) else (0,⟨2,s.take (row (inS upsB) s),0,0⟩,row (inS upsB) s):=rfl
 rw[hd]
 clear hd
 generalize row (inS upsB) s=n at HW HR hle ⊢
 have hs1:=run_cutfrom s n hle
 have hs2:=run_cutto s n hle
 have hlt:(s.take n).length≤s.length:=by rw[List.length_take];omega
 have HC:=hid (fun w=>strClone_any (str8 (s.take n)) w (by rw[str8_size];omega))
 clear hlt
 generalize s.drop n=r at HR hs1 ⊢
 generalize s.take n=t at HC hs2 ⊢
 have HN:=hid (fun B w h=>known_any t B w h)
 obtain⟨W,hW,hbW,hzW,hcW⟩:=box4 w (.int .i64 0) (.string ⟨#[]⟩) (.int .i64 0) (.int .i64 0) 162
 have HCW:=hid hcW
 have HB:=hid hbW
 clear hcW hbW
 cases hr:runsB r with
 |
  true =>
  rw[hr] at HR
  rw[if_pos rfl,e4]
  clear hr HN HC
  go_enter Tryz.func227,Tryz.ntmps227
  go_wp2_with fail
  try rw[hW]
  clear hW
  refine (HO.out _).mono ?_
  rintro e w1 ⟨⟨rfl,hp⟩,hb1⟩
  go_wp2_with fail
  refine (HW.out _ _ hp).mono ?_
  rintro e w2 ⟨rfl,hw⟩
  obtain rfl:w1=w2:=hw.symm
  clear hw hp
  have HD1:Hid (Below W.heap.size W w1.drew):=hid (below_drewN hb1 1)
  clear hb1
  go_wp2_with fail
  refine wp_region_quiet (C:=fun W'=>Below W.heap.size W W') (by kernel_rfl) (by kernel_rfl) HD1.out ?_
  dsimp only
  go_big_quiet_step ((intro _;rfl))
  go_big_quiet_step ((intro _;rfl))
  go_big_quiet_step ((intro _;rfl))
  go_big_quiet_want
  go_big_quiet_op
  refine ⟨_,fun W1 hW1=>(HR.out W1).mono (fun e w'' ⟨he,hb⟩=>⟨he,hW1.trans (hb.mono hW1.size)⟩),?_⟩
  go_big_quiet_on
  repeat go_big_quiet_step ((intro _;rfl))
  refine wpQuiet_nil ?_
  intro w3 hD3
  have HD:=hid hD3
  clear hD3
  have HE:Hid (Below w.heap.size w w3):=hid (HB.out.trans (HD.out.mono (Nat.le_of_lt hzW)))
  have g0:=cells4 (HCW.out w3 HD.out)
  go_wp2
  exact bodyPost_ret (v:=.tuple #[.agg #[.int .i64 0,.string ⟨#[]⟩,.int .i64 0,.int .i64 0],.int .i64 0,.int .i64 4]) (by simp[results,Tryz.results227,go_sem,g0]) rfl ⟨rfl,(((HE.out.setCell (Nat.le_refl _) _).setCell (Nat.le_refl _) _).setCell (Nat.le_refl _) _).setCell (Nat.le_refl _) _⟩
 |
  false =>
  rw[hr] at HR
  rw[if_neg (by simp)]
  clear hr
  cases hk:wordsB.contains t with
  |
   false =>
   rw[hk] at HN
   rw[if_pos rfl,e4]
   clear hk HC
   go_enter Tryz.func227,Tryz.ntmps227
   go_wp2_with fail
   try rw[hW]
   clear hW
   refine (HO.out _).mono ?_
   rintro e w1 ⟨⟨rfl,hp⟩,hb1⟩
   go_wp2_with fail
   refine (HW.out _ _ hp).mono ?_
   rintro e w2 ⟨rfl,hw⟩
   obtain rfl:w1=w2:=hw.symm
   clear hw hp
   go_wp2_with fail
   have HD1:Hid (Below W.heap.size W w1.drew):=hid (below_drewN hb1 1)
   clear hb1
   go_region_held3 (fun _=>True) (first | trivial) (first
    | (
     go_at_call 255;refine (HR.out _).mono ?_;rintro e w3 ⟨rfl,hb3⟩
     have HD3:=hid (HD1.out.trans (hb3.mono HD1.out.size))
     clear hb3)
    | (
     go_at_call 257;refine (words_any _).mono ?_;rintro e w4 ⟨rfl,hw4⟩
     have HK:Hid (w4.heap[w3.heap.size]?=some (.cells ((wordsB.map fun l=>Value.string (str8 l)).toArray) 9)):=hid (by rw[hw4];exact heap_alloc_new _ _)
     have HD:=hid (show Below W.heap.size W w4 by rw[hw4];exact HD3.out.alloc HD3.out.size _)
     clear hw4)
    | (go_at_call 256;refine (HN.out _ w4 HK.out).mono ?_;rintro e w5 ⟨rfl,hw5⟩;rw[hw5]))
   all_goals have HE:Hid (Below w.heap.size w w4):=hid (HB.out.trans (HD.out.mono (Nat.le_of_lt hzW)))
   all_goals have g0:=cells4 (HCW.out w4 HD.out)
   all_goals go_wp2
   all_goals exact bodyPost_ret (v:=.tuple #[.agg #[.int .i64 0,.string ⟨#[]⟩,.int .i64 0,.int .i64 0],.int .i64 0,.int .i64 4]) (by simp[results,Tryz.results227,go_sem,g0]) rfl ⟨rfl,(((HE.out.setCell (Nat.le_refl _) _).setCell (Nat.le_refl _) _).setCell (Nat.le_refl _) _).setCell (Nat.le_refl _) _⟩
  |
   true =>
   rw[hk] at HN
   rw[if_neg (by simp),eTxt]
   clear hk
   go_enter Tryz.func227,Tryz.ntmps227
   go_wp2_with fail
   try rw[hW]
   clear hW
   refine (HO.out _).mono ?_
   rintro e w1 ⟨⟨rfl,hp⟩,hb1⟩
   go_wp2_with fail
   refine (HW.out _ _ hp).mono ?_
   rintro e w2 ⟨rfl,hw⟩
   obtain rfl:w1=w2:=hw.symm
   clear hw hp
   go_wp2_with fail
   have HD1:Hid (Below W.heap.size W w1.drew):=hid (below_drewN hb1 1)
   clear hb1
   go_region_held3 (fun _=>True) (first | trivial) (first
    | (
     go_at_call 255;refine (HR.out _).mono ?_;rintro e w3 ⟨rfl,hb3⟩
     have HD3:=hid (HD1.out.trans (hb3.mono HD1.out.size))
     clear hb3)
    | (
     go_at_call 257;refine (words_any _).mono ?_;rintro e w4 ⟨rfl,hw4⟩
     have HK:Hid (w4.heap[w3.heap.size]?=some (.cells ((wordsB.map fun l=>Value.string (str8 l)).toArray) 9)):=hid (by rw[hw4];exact heap_alloc_new _ _)
     have HD:=hid (show Below W.heap.size W w4 by rw[hw4];exact HD3.out.alloc HD3.out.size _)
     clear hw4)
    | (go_at_call 256;refine (HN.out _ w4 HK.out).mono ?_;rintro e w5 ⟨rfl,hw5⟩;rw[hw5]))
   all_goals go_wp2_with fail
   all_goals refine (HC.out _).mono ?_
   all_goals rintro e w6 ⟨rfl,hb6⟩
   all_goals have HD6:=hid (HD.out.trans (hb6.mono HD.out.size))
   all_goals have HE:Hid (Below w.heap.size w w6):=hid (HB.out.trans (HD6.out.mono (Nat.le_of_lt hzW)))
   all_goals have g0:=cells4 (HCW.out w6 HD6.out)
   all_goals clear hb6
   all_goals go_wp2
   all_goals exact bodyPost_ret (v:=.tuple #[.agg #[.int .i64 2,.string (str8 t),.int .i64 0,.int .i64 0],.int .i64 (n:Int),.int .i64 0]) (by simp[results,Tryz.results227,go_sem,g0]) rfl ⟨rfl,(((HE.out.setCell (Nat.le_refl _) _).setCell (Nat.le_refl _) _).setCell (Nat.le_refl _) _).setCell (Nat.le_refl _) _⟩
theorem parse_digits : ∀(l:List UInt8) (acc:Nat),(∀c∈l,inS digsB c=true)→Lib.parseUint10 acc l≠.syntax
 | [],acc,_=>by simp[Lib.parseUint10]
 |
  c::r,acc,h=>by
  have hc:=h c (by simp)
  have hc2:48≤c.toNat∧c.toNat≤57:=by
   simp only[inS,digsB,List.contains_iff_mem,List.mem_cons,List.not_mem_nil,or_false] at hc
   rcases hc with rfl | rfl | rfl | rfl | rfl | rfl | rfl | rfl | rfl | rfl<;>decide
  have ih:=parse_digits r (acc*10+(c.toNat-48)) (fun d hd=>h d (by simp[hd]))
  simp only[Lib.parseUint10]
  rw[if_pos hc2]
  split
  ·simp
  ·split
   ·simp
   ·exact ih
theorem atoi_not_syntax {l:List UInt8} (h : ∀c∈l,inS digsB c=true) (hne:l≠[]):Lib.atoiAll l≠.syntax:=by
 match l,hne with
 |
  c::r,_ =>
  have hc:=h c (by simp)
  have hc2 : ¬(c.toNat=43∨c.toNat=45)∧¬c.toNat=45:=by
   simp only[inS,digsB,List.contains_iff_mem,List.mem_cons,List.not_mem_nil,or_false] at hc
   rcases hc with rfl | rfl | rfl | rfl | rfl | rfl | rfl | rfl | rfl | rfl<;>decide
  unfold Lib.atoiAll
  dsimp only
  rw[if_neg hc2.1,Lib.parseMag,if_neg (by simp)]
  have:=parse_digits (c::r) 0 h
  cases hp:Lib.parseUint10 0 (c::r) with
  |
   ok u =>
   dsimp only
   split
   ·simp
   ·split
    ·simp
    ·simp
  | «syntax»=>exact absurd hp this
  | range=>simp
theorem below_bytesWorld (w:World) (e:TypeId) (t:ByteArray):Below w.heap.size w (Lib.bytesWorld w e t):=by
 unfold Lib.bytesWorld
 exact⟨rfl,rfl,rfl,by simp[World.freeze],fun j hj=>by
  simp only[World.freeze]
  have:(w.drew.alloc (.cells (Lib.bytesCells w e t) e)).heap[j]?=w.heap[j]?:=((below_drewN (Below.refl _ w) 1).alloc (Nat.le_refl _) _).block j hj
  split
  ·exact this
  ·show ((w.drew.alloc (.cells (Lib.bytesCells w e t) e)).heap.modify w.heap.size _)[j]?=_
   rw[Array.getElem?_modify,if_neg (by omega)];exact this⟩
theorem atoi_any (t:List UInt8) (w:World) (hT:TabL w) (hl:t.length≤140737488351232) (hd : ∀c∈t,inS digsB c=true) (hne:t≠[]) :
  Calls Tryz.prog 258 #[.string (str8 t)] w fun e w'=>((∃v,Lib.atoiAll t = .ok v∧e = .returned (.tuple #[.int .i64 v,.nilIface]))∨(∃v ty pt,Lib.atoiAll t = .range∧e = .returned (.tuple #[.int .i64 v,.iface ty pt])))∧Below w.heap.size w w':=by
 have hns:=atoi_not_syntax hd hne
 cases ha:Lib.atoiAll t with
 |
  ok v =>
  have:=Any.strconv_Atoi_ok laysAt (str8 t) (by rw[str8_size];omega) v ha w
  rw[numL.2.2.2.2.2.1] at this
  refine this.mono fun e w' ⟨he,hw⟩=>⟨.inl ⟨v,rfl,he⟩,?_⟩
  rcases hw with rfl | ⟨t,rfl⟩
  ·exact Below.refl _ _
  ·exact below_bytesWorld _ _ _
 |
  range =>
  obtain⟨ev,h1,h2⟩:=hT.rng
  have:=Any.strconv_Atoi_range laysAt (str8 t) (by rw[str8_size];omega) ha ev w (by rw[numG.2];exact h1) h2
  rw[numL.2.2.2.2.2.1] at this
  exact this.mono fun e w' ⟨N,he,_,_,hb⟩=>⟨.inr ⟨_,_,_,rfl,he⟩,hb⟩
 | «syntax»=>exact absurd ha hns
theorem cutNumber_any (s:List UInt8) (w:World) (hT:TabL w) (hs:s.length≤140737488351232) (h1:1≤row (inS digsB) s):Calls Tryz.prog 228 #[.string (str8 s)] w fun e w'=>e = .returned (cutA (cutNumT s))∧Below w.heap.size w w':=by
 have HO:Hid (∀w,Calls Tryz.prog 153 #[.string ⟨#[48,49,50,51,52,53,54,55,56,57]⟩] w fun e w'=>(e = .returned (.func (.func 208) #[] #[.pointer (some ⟨w.heap.size,0,none⟩)])∧PredS 208 #[.pointer (some ⟨w.heap.size,0,none⟩)] (inS digsB) w')∧Below w.heap.size w w'):=hid (fun w=>oneOf_tells digsB w)
 have hle:=row_le (inS digsB) s
 have HW:=hid (fun B w1 hp=>rowOne_any s digsB B w1 hs hp)
 have HR:=hid (fun w=>runsOn_any (s.drop (row (inS digsB) s)) w (by rw[List.length_drop];omega))
 have hd:cutNumT s=if runsB (s.drop (row (inS digsB) s))=true then (4,zTk,0) else numT (row (inS digsB) s) (Lib.atoiAll (s.take (row (inS digsB) s))):=rfl
 rw[hd]
 clear hd
 have hall:=take_row_all (inS digsB) s
 have hne:s.take (row (inS digsB) s)≠[]:=fun e=>by have:=congrArg List.length e;rw[List.length_take,List.length_nil] at this;omega
 generalize hrow:row (inS digsB) s=n at HW HR hle hall hne h1 ⊢
 clear hrow
 have hs1:=run_cutfrom s n hle
 have hs2:=run_cutto s n hle
 have hlt:(s.take n).length≤s.length:=by rw[List.length_take];omega
 obtain⟨W,hW,hbW,hzW,hcW⟩:=box4 w (.int .i64 0) (.string ⟨#[]⟩) (.int .i64 0) (.int .i64 0) 162
 have HCW:=hid hcW
 have HB:=hid hbW
 clear hcW hbW
 have HTW:=hid (hT.on HB.out)
 have HA:=hid (fun w (h:TabL w)=>atoi_any (s.take n) w h (by omega) hall hne)
 clear hlt hall hne hT
 generalize s.drop n=r at HR hs1 ⊢
 generalize s.take n=t at HA hs2 ⊢
 cases hr:runsB r with
 |
  true =>
  rw[hr] at HR
  rw[if_pos rfl,e4]
  clear hr
  go_enter Tryz.func228,Tryz.ntmps228
  go_wp2_with fail
  try rw[hW]
  clear hW
  refine (HO.out _).mono ?_
  rintro e w1 ⟨⟨rfl,hp⟩,hb1⟩
  go_wp2_with fail
  refine (HW.out _ _ hp).mono ?_
  rintro e w2 ⟨rfl,hw⟩
  obtain rfl:w1=w2:=hw.symm
  clear hw hp
  go_wp2_with fail
  refine (HR.out _).mono ?_
  rintro e w3 ⟨rfl,hb3⟩
  have HD:=hid (hb1.trans (hb3.mono hb1.size))
  clear hb1 hb3
  have HE:Hid (Below w.heap.size w w3):=hid (HB.out.trans (HD.out.mono (Nat.le_of_lt hzW)))
  have g0:=cells4 (HCW.out w3 HD.out)
  go_wp2
  exact bodyPost_ret (v:=.tuple #[.agg #[.int .i64 0,.string ⟨#[]⟩,.int .i64 0,.int .i64 0],.int .i64 0,.int .i64 4]) (by simp[results,Tryz.results228,go_sem,g0]) rfl ⟨rfl,(((HE.out.setCell (Nat.le_refl _) _).setCell (Nat.le_refl _) _).setCell (Nat.le_refl _) _).setCell (Nat.le_refl _) _⟩
 |
  false =>
  rw[hr] at HR
  rw[if_neg (by simp)]
  clear hr
  go_enter Tryz.func228,Tryz.ntmps228
  go_wp2_with fail
  try rw[hW]
  clear hW
  refine (HO.out _).mono ?_
  rintro e w1 ⟨⟨rfl,hp⟩,hb1⟩
  go_wp2_with fail
  refine (HW.out _ _ hp).mono ?_
  rintro e w2 ⟨rfl,hw⟩
  obtain rfl:w1=w2:=hw.symm
  clear hw hp
  go_wp2_with fail
  refine (HR.out _).mono ?_
  rintro e w3 ⟨rfl,hb3⟩
  have HD:=hid (hb1.trans (hb3.mono hb1.size))
  clear hb1 hb3
  have HA3:=hid (HA.out w3 (HTW.out.on HD.out))
  go_wp2_with fail
  refine HA3.out.mono ?_
  rintro e w4 ⟨hcase,hb4⟩
  have HD4:=hid (HD.out.trans (hb4.mono HD.out.size))
  have HE:Hid (Below w.heap.size w w4):=hid (HB.out.trans (HD4.out.mono (Nat.le_of_lt hzW)))
  have g0:=cells4 (HCW.out w4 HD4.out)
  clear hb4
  rcases hcase with⟨v,hv,rfl⟩ | ⟨v,ty,pt,hv,rfl⟩
  ·have HV:=hid (show cutA (numT n (Lib.atoiAll t)) = .tuple #[.agg #[.int .i64 3,.string ⟨#[]⟩,.int .i64 v,.int .i64 0],.int .i64 (n:Int),.int .i64 0] by rw[hv];rfl)
   clear hv
   go_wp2
   exact bodyPost_ret (v:=.tuple #[.agg #[.int .i64 3,.string ⟨#[]⟩,.int .i64 v,.int .i64 0],.int .i64 (n:Int),.int .i64 0]) (by simp[results,Tryz.results228,go_sem,g0]) rfl ⟨by rw[HV.out],(((HE.out.setCell (Nat.le_refl _) _).setCell (Nat.le_refl _) _).setCell (Nat.le_refl _) _).setCell (Nat.le_refl _) _⟩
  ·have HV:=hid (show cutA (numT n (Lib.atoiAll t)) = .tuple #[.agg #[.int .i64 0,.string ⟨#[]⟩,.int .i64 0,.int .i64 0],.int .i64 0,.int .i64 7] by rw[hv];rfl)
   clear hv
   go_wp2
   exact bodyPost_ret (v:=.tuple #[.agg #[.int .i64 0,.string ⟨#[]⟩,.int .i64 0,.int .i64 0],.int .i64 0,.int .i64 7]) (by simp[results,Tryz.results228,go_sem,g0]) rfl ⟨by rw[HV.out],(((HE.out.setCell (Nat.le_refl _) _).setCell (Nat.le_refl _) _).setCell (Nat.le_refl _) _).setCell (Nat.le_refl _) _⟩
def cutQ:List UInt8→List UInt8 × List UInt8 × Bool
 | []=>([],[],false)
 | c::r=>if c=39 then ([],r,true) else (c::(cutQ r).1,(cutQ r).2)
theorem lib_cut (s:List UInt8):Lib.cut s [39]=cutQ s:=by
 unfold Lib.cut
 rw[Lib.index_one]
 induction s with
 | nil=>simp[Lib.indexByte,cutQ]
 |
  cons c r ih =>
  have hge:=Lib.indexByte_ge r 39
  unfold Lib.indexByte cutQ
  by_cases hc:c=39
  ·subst hc
   simp
  ·have hc':(c==39)=false:=by simpa using hc
   rw[hc',if_neg hc]
   simp only[Bool.false_eq_true,if_false]
   rw[← ih]
   by_cases hm:Lib.indexByte r 39 = -1
   ·simp[hm]
   ·have hm':(Lib.indexByte r 39==-1)=false:=by simpa using hm
    rw[hm']
    simp only[Bool.false_eq_true,if_false]
    rw[if_pos (by omega),if_pos (by omega)]
    have e:(Lib.indexByte r 39+1).toNat=(Lib.indexByte r 39).toNat+1:=by omega
    rw[e]
    simp
theorem cutQ_le (s:List UInt8):(cutQ s).1.length+(cutQ s).2.1.length≤s.length:=by
 induction s with
 | nil=>simp[cutQ]
 | cons c r ih=>unfold cutQ;split<;>simp<;>omega
def finT (acc rest:List UInt8) (cl:Bool):List UInt8 × List UInt8 × Bool :=
 if rest.head?=some 39 then (acc++39::(txt (rest.drop 1)).1,(txt (rest.drop 1)).2) else (acc,rest,cl)
theorem finT_app (acc a rest:List UInt8) (cl:Bool):finT (acc++a) rest cl=(acc++(finT a rest cl).1,(finT a rest cl).2):=by
 unfold finT
 split<;>simp
theorem txt_cutQ (s:List UInt8):txt s=finT (cutQ s).1 (cutQ s).2.1 (cutQ s).2.2:=by
 fun_induction txt s with
 | case1=>simp[cutQ,finT]
 | case2=>simp[cutQ,finT]
 | case3 c h=>simp[cutQ,finT,h]
 | case4 r ih=>simp[cutQ,finT]
 | case5 d r hd=>simp[cutQ,finT,hd]
 |
  case6 c d r hc ih =>
  have e:cutQ (c::d::r)=(c::(cutQ (d::r)).1,(cutQ (d::r)).2):=by rw[cutQ,if_neg hc]
  rw[e]
  have:=finT_app [c] (cutQ (d::r)).1 (cutQ (d::r)).2.1 (cutQ (d::r)).2.2
  rw[← ih] at this
  exact this.symm
theorem finT_step (acc r:List UInt8) (cl:Bool):finT acc (39::r) cl=finT (acc++39::(cutQ r).1) (cutQ r).2.1 (cutQ r).2.2:=by
 rw[show acc++39::(cutQ r).1=(acc++[39])++(cutQ r).1 by simp,finT_app,← txt_cutQ]
 simp[finT]
theorem finT_end {acc rest:List UInt8} {cl:Bool} (h:rest.head?≠some 39):finT acc rest cl=(acc,rest,cl):=if_neg h
def Bd (g:Nat) (acc:List UInt8) (w:World):Prop:=Lib.IsBuilder 239 5 g g (Lib.byteCells acc) w
theorem Bd.drewN {g:Nat} {acc:List UInt8} {w:World} (h:Bd g acc w) (n:Nat):Bd g acc (w.drewN n):=h
theorem numT72:renV.t 72=239∧renV.t 5=5:=by decide
theorem bWrite_any (g:Nat) (acc t:List UInt8) (w:World) (h:Bd g acc w) (hl:acc.length+t.length≤140737488355328) (hg:g≤w.heap.size) :
  Calls Tryz.prog 221 #[.pointer (some ⟨g,0,none⟩),.string (str8 t)] w fun e w'=>e = .returned (.tuple #[.int .i64 (t.length:Int),.nilIface])∧Bd g (acc++t) w'∧Below g w w':=by
 have hB:=Any.Builder_WriteString laysWs extraR g g (Lib.byteCells acc) (str8 t) w (by rw[numT72.1,numT72.2];exact h) (by rw[Lib.byteCells_length,str8_size];exact hl) hg
 rw[numL.2.2.2.2.2.2.1,numT72.1,numT72.2] at hB
 refine hB.mono fun e w' ⟨he,hb,hbel⟩=>⟨he,.inr ?_,hbel⟩
 have e2:Lib.byteCells acc++Lib.strCells (str8 t)=Lib.byteCells (acc++t):=by
  rw[Lib.strCells_eq]
  show _++Lib.byteCells t=_
  simp[Lib.byteCells]
 rwa [e2] at hb
theorem bLen_any (g:Nat) (acc:List UInt8) (w:World) (h:Bd g acc w):Calls Tryz.prog 260 #[.pointer (some ⟨g,0,none⟩)] w fun e w'=>e = .returned (.int .i64 (acc.length:Int))∧w'=w:=by
 have hB:=Any.Builder_Len laysLe g g (Lib.byteCells acc) w (by rw[numT72.1,numT72.2];exact h)
 rw[numL.2.2.2.2.2.2.2.2.1,Lib.byteCells_length] at hB
 exact hB
theorem bString_any (g:Nat) (acc:List UInt8) (w:World) (h:Bd g acc w) (hg:g≤w.heap.size):Calls Tryz.prog 222 #[.pointer (some ⟨g,0,none⟩)] w fun e w'=>e = .returned (.string (str8 acc))∧Below g w w':=by
 have hB:=Any.Builder_String_any laysSt extraR g g acc w (by rw[numT72.1,numT72.2];exact h) hg
 rw[numL.2.2.2.2.2.2.2.1] at hB
 exact hB
theorem cutQ_any (s:List UInt8) (w:World) (hT:TabL w) (hs:s.length≤2147483648):Calls Tryz.prog 259 #[.string (str8 s),.string ⟨#[39]⟩] w fun e w'=>e = .returned (.tuple #[.string (str8 (cutQ s).1),.string (str8 (cutQ s).2.1),.bool (cutQ s).2.2])∧∃n,w'=w.drewN n:=by
 obtain⟨m,hm⟩:=hT.tv.max
 have:=Any.strings_Cut laysCu (str8 s) ⟨#[39]⟩ m w (by rw[str8_size];omega) (by rw[numR.2.2.1];exact hm)
 rw[numL.2.2.1] at this
 have e:Lib.cut (str8 s).data.toList [39]=cutQ s:=lib_cut s
 have e2:Lib.cut (str8 s).data.toList (⟨#[39]⟩:ByteArray).data.toList=cutQ s:=e
 rw[e2] at this
 exact this
theorem prefixQ (rest:List UInt8):[39].isPrefixOf rest=decide (rest.head?=some 39):=by
 cases rest with
 | nil=>simp[List.isPrefixOf]
 |
  cons c r =>
  simp only[List.isPrefixOf,List.head?_cons,Option.some.injEq,Bool.and_true]
  rw[Bool.eq_iff_iff,beq_iff_eq,decide_eq_true_eq]
  exact eq_comm
theorem cutText_any (s:List UInt8) (w:World) (hT:TabL w) (hs:s.length≤2147483648) (h1:1≤s.length):Calls Tryz.prog 229 #[.string (str8 s)] w fun e w'=>e = .returned (cutA (cutTextT s))∧Below w.heap.size w w':=by
 have hsz:(str8 s).size=s.length:=rfl
 have hs1 : ∀w,(Instr.slice 9 (.string (str8 s)) (some (.int .i64 1)) none none).run Tryz.prog w = .ok (.string (str8 (s.drop 1))) w:=run_cutfrom s 1 h1
 have hdl:(s.drop 1).length=s.length-1:=by simp
 have hq:=cutQ_le (s.drop 1)
 have hd:cutTextT s=textT s.length (txt (s.drop 1)):=rfl
 rw[hd,txt_cutQ]
 clear hd
 obtain⟨W0,hW0,hbW0,hzW0,hcW0⟩:=box4 w (.int .i64 0) (.string ⟨#[]⟩) (.int .i64 0) (.int .i64 0) 162
 obtain⟨W,hW⟩:∃W,W0.alloc (.cells #[.pointer none,.slice none 0 0] 239)=W:=⟨_,rfl⟩
 have hbd:Bd W0.heap.size [] W:=by rw[← hW];exact Lib.fresh_isBuilder _ _ W0
 have hbW1:Below W0.heap.size W0 W:=by rw[← hW];exact (Below.refl _ _).alloc (Nat.le_refl _) _
 have hzW1:W0.heap.size<W.heap.size:=by rw[← hW];simp
 have HT0:=hid (hT.on hbW0)
 have HTW:=hid (HT0.out.on hbW1)
 have HC0:=hid (cutQ_any (s.drop 1) W HTW.out (by omega))
 have HCW:=hid hcW0
 have HB:=hid hbW0
 have HB1:=hid hbW1
 have HBD:=hid hbd
 clear hcW0 hbW0 hbW1 hbd hT
 obtain⟨⟨a0,r0,c0⟩,hx0⟩:∃x,cutQ (s.drop 1)=x:=⟨_,rfl⟩
 rw[hx0] at HC0 hq ⊢
 dsimp only at HC0 hq ⊢
 clear hx0
 generalize hs':s.drop 1=s1 at hs1 HC0 hdl hq
 clear hs'
 obtain⟨X,hX⟩:∃X,finT a0 r0 c0=X:=⟨_,rfl⟩
 rw[hX]
 go_enter Tryz.func229,Tryz.ntmps229
 go_wp2_with fail
 try rw[hW0]
 try rw[hW]
 clear hW0 hW
 refine HC0.out.mono ?_
 rintro e w1 ⟨rfl,n1,hn1⟩
 have HW1:Hid (Below W.heap.size W w1):=hid (by rw[hn1];exact below_drewN (Below.refl _ _) n1)
 have HBD1:Hid (Bd W0.heap.size [] w1):=hid (by rw[hn1];exact HBD.out)
 clear hn1 HC0
 have HWR:=hid (bWrite_any W0.heap.size [] a0 w1 HBD1.out (by simp;omega) (by have:=HW1.out.size;omega))
 go_wp2_with fail
 refine HWR.out.mono ?_
 rintro e w2 ⟨rfl,hbd2,hb2⟩
 have hbel2:Below W0.heap.size W0 w2:=HB1.out.trans ((HW1.out.mono (Nat.le_of_lt hzW1)).trans hb2)
 rw[List.nil_append] at hbd2
 have HX:=hid hX
 clear hb2 HWR HBD1 HW1 hX
 go_wp2_with fail
 go_loopw [6,7,8] (fun _ v7 v8 wr=>∃(acc rest:List UInt8) (cl:Bool),v7 = .string (str8 rest)∧v8 = .bool cl∧acc.length+rest.length≤s.length∧Hid (Bd W0.heap.size acc wr)∧Hid (Below W0.heap.size W0 wr)∧Hid (finT acc rest cl=X)) (fun _ v7 _ _=>match v7 with | .string b=>b.size | _=>0)
 case atStart=>exact⟨a0,r0,c0,rfl,rfl,by omega,hid hbd2,hid hbel2,HX⟩
 case round =>
  obtain⟨acc,rest,cl,rfl,rfl,hlen,HBDr,HBr,HXr⟩:=hrel
  have hszr:=HBr.out.size
  have HP:Hid (∀w,Calls Tryz.prog 223 #[.string (str8 rest),.string ⟨#[39]⟩] w fun e w'=>e = .returned (.bool ([39].isPrefixOf rest))∧w'=w):=hid (fun w=>hasPrefix_any rest [39] w)
  rw[prefixQ] at HP
  by_cases hh:rest.head?=some 39
  ·obtain⟨r,rfl⟩:∃r,rest=39::r:=by
    cases rest with
    | nil=>simp at hh
    | cons c r=>simp at hh;exact⟨r,by rw[hh]⟩
   rw[decide_eq_true hh] at HP
   have hss : ∀w,(Instr.slice 9 (.string (str8 (39::r))) (some (.int .i64 1)) none none).run Tryz.prog w = .ok (.string (str8 r)) w:=run_cutfrom (39::r) 1 (by simp)
   have hstep:=finT_step acc r cl
   have hqr:=cutQ_le r
   rw[List.length_cons] at hlen
   have HC:=hid (cutQ_any r wr (HT0.out.on HBr.out) (by omega))
   obtain⟨⟨a1,r1,c1⟩,hx1⟩:∃x,cutQ r=x:=⟨_,rfl⟩
   rw[hx1] at HC hqr hstep
   dsimp only at HC hqr hstep
   have HS:=hid (hstep.symm.trans HXr.out)
   clear hx1 hstep hh HXr
   have hm:(str8 (39::r)).size=r.length+1:=rfl
   have HM:=hid hm
   clear hm
   go_wp2_with fail
   refine (HP.out _).mono ?_
   rintro e w3 ⟨rfl,hw3⟩
   obtain rfl:wr=w3:=hw3.symm
   clear hw3
   go_wp2_with fail
   refine HC.out.mono ?_
   rintro e w4 ⟨rfl,n4,hn4⟩
   have HB4:Hid (Below W0.heap.size W0 w4):=hid (by rw[hn4];exact below_drewN HBr.out n4)
   have HBD4:Hid (Bd W0.heap.size acc w4):=hid (by rw[hn4];exact HBDr.out)
   clear hn4 HC HP
   have HW4:=hid (show Calls Tryz.prog 221 #[.pointer (some ⟨W0.heap.size,0,none⟩),.string ⟨#[39]⟩] w4 _ from bWrite_any W0.heap.size acc [39] w4 HBD4.out (by simp;omega) HB4.out.size)
   go_wp2_with fail
   refine HW4.out.mono ?_
   rintro e w5 ⟨rfl,hbd5,hb5⟩
   have HB5:Hid (Below W0.heap.size W0 w5):=hid (HB4.out.trans hb5)
   have HW5:=hid (bWrite_any W0.heap.size (acc++[39]) a1 w5 hbd5 (by simp;omega) HB5.out.size)
   clear HW4 hbd5 hb5 HBD4 HB4
   go_wp2_with fail
   refine HW5.out.mono ?_
   rintro e w6 ⟨rfl,hbd6,hb6⟩
   have HB6:Hid (Below W0.heap.size W0 w6):=hid (HB5.out.trans hb6)
   have HBD6:=hid hbd6
   clear HW5 hbd6 hb6
   go_wp2
   go_roundw
   case rel=>exact⟨acc++[39]++a1,r1,c1,rfl,rfl,by simp;omega,HBD6,HB6,hid (by rw[← HS.out];simp)⟩
   case measure =>
    show (str8 r1).size<(str8 (39::r)).size
    rw[HM.out,str8_size]
    omega
  ·rw[decide_eq_false hh] at HP
   have HXe:Hid (X=(acc,rest,cl)):=hid (by rw[← HXr.out,finT_end hh])
   have HL:=hid (bLen_any W0.heap.size acc wr HBDr.out)
   have HSt:=hid (bString_any W0.heap.size acc wr HBDr.out HBr.out.size)
   have g0:=cells4 (HCW.out wr HBr.out)
   have HE:Hid (Below w.heap.size w wr):=hid (HB.out.trans (HBr.out.mono (Nat.le_of_lt hzW0)))
   clear HXr hh
   rw[HXe.out]
   have ht:textT s.length (acc,rest,cl)=if 40<acc.length then (2,zTk,0) else if cl=false then (3,zTk,0) else (0,⟨4,acc,0,0⟩,s.length-rest.length):=rfl
   have HTX:=hid ht
   clear ht
   go_wp2_with fail
   refine (HP.out _).mono ?_
   rintro e w3 ⟨rfl,hw3⟩
   obtain rfl:wr=w3:=hw3.symm
   clear hw3
   go_wp2_with fail
   refine HL.out.mono ?_
   rintro e w4 ⟨rfl,hw4⟩
   obtain rfl:wr=w4:=hw4.symm
   clear hw4 HL
   by_cases h40:40<acc.length
   ·have HTa:Hid (cutA (textT s.length (acc,rest,cl)) = .tuple #[.agg #[.int .i64 0,.string ⟨#[]⟩,.int .i64 0,.int .i64 0],.int .i64 0,.int .i64 2]):=hid (by rw[HTX.out,if_pos h40];rfl)
    go_wp2
    exact bodyPost_ret (v:=.tuple #[.agg #[.int .i64 0,.string ⟨#[]⟩,.int .i64 0,.int .i64 0],.int .i64 0,.int .i64 2]) (by simp[results,Tryz.results229,go_sem,g0]) rfl ⟨by rw[HXe.out,HTa.out],(((HE.out.setCell (Nat.le_refl _) _).setCell (Nat.le_refl _) _).setCell (Nat.le_refl _) _).setCell (Nat.le_refl _) _⟩
   ·cases cl with
    |
     false =>
     have HTa:Hid (cutA (textT s.length (acc,rest,false)) = .tuple #[.agg #[.int .i64 0,.string ⟨#[]⟩,.int .i64 0,.int .i64 0],.int .i64 0,.int .i64 3]):=hid (by rw[HTX.out,if_neg h40];rfl)
     go_wp2
     exact bodyPost_ret (v:=.tuple #[.agg #[.int .i64 0,.string ⟨#[]⟩,.int .i64 0,.int .i64 0],.int .i64 0,.int .i64 3]) (by simp[results,Tryz.results229,go_sem,g0]) rfl ⟨by rw[HXe.out,HTa.out],(((HE.out.setCell (Nat.le_refl _) _).setCell (Nat.le_refl _) _).setCell (Nat.le_refl _) _).setCell (Nat.le_refl _) _⟩
    |
     true =>
     have HTa:Hid (cutA (textT s.length (acc,rest,true)) = .tuple #[.agg #[.int .i64 4,.string (str8 acc),.int .i64 0,.int .i64 0],.int .i64 ((s.length:Int)-(rest.length:Int)),.int .i64 0]):=hid (by
      rw[HTX.out,if_neg h40,if_neg (by simp)]
      show Value.tuple #[_,.int .i64 ((s.length-rest.length:Nat):Int),_]=_
      rw[show ((s.length-rest.length:Nat):Int)=(s.length:Int)-(rest.length:Int) by omega]
      rfl)
     have HWr:Hid (wrap64 ((s.length:Int)-((str8 rest).size:Int))=(s.length:Int)-(rest.length:Int)):=hid (by
      rw[str8_size]
      unfold wrap64;omega)
     go_wp2_with fail
     refine HSt.out.mono ?_
     rintro e w5 ⟨rfl,hb5⟩
     have HB5:Hid (Below W0.heap.size W0 w5):=hid (HBr.out.trans hb5)
     have g1:=cells4 (HCW.out w5 HB5.out)
     have HE5:Hid (Below w.heap.size w w5):=hid (HB.out.trans (HB5.out.mono (Nat.le_of_lt hzW0)))
     clear hb5 HSt g0 HE
     go_wp2
     exact bodyPost_ret (v:=.tuple #[.agg #[.int .i64 4,.string (str8 acc),.int .i64 0,.int .i64 0],.int .i64 ((s.length:Int)-(rest.length:Int)),.int .i64 0]) (by simp[results,Tryz.results229,go_sem,g1,HWr.out]) rfl ⟨by rw[HXe.out,HTa.out],(((HE5.out.setCell (Nat.le_refl _) _).setCell (Nat.le_refl _) _).setCell (Nat.le_refl _) _).setCell (Nat.le_refl _) _⟩
end Go.Proofs.YtaaggohjmhifbaaGreatDoor
