/- Packed for the hand-in: LCutI LCutJ -/
import Derived.Test.YtaaggohjmhifbaaGreatDoorP03
namespace Go.Proofs.YtaaggohjmhifbaaGreatDoor
open Go.RowKit Go.Shelf
set_option linter.unusedSimpArgs false
set_option linter.unusedVariables false
set_option maxRecDepth 20000
set_option maxHeartbeats 8000000
theorem drop_consL {α:Type} (xs:List α) (k:Nat) (x:α) (h:xs[k]?=some x):xs.drop k=x::xs.drop (k+1):=by
 obtain⟨hk,e⟩:=List.getElem?_eq_some_iff.1 h
 rw[List.drop_eq_getElem_cons hk,e]
theorem signs_fields:Lib.fields [60,62,32,60,61,32,62,61,32,40,32,41,32,44,32,59,32,46,32,42,32,43,32,45,32,47,32,37,32,61,32,60,32,62]=signsB:=by decide
theorem Tryz.infoStr9:(Tryz.prog.info? 9).map (fun i=>(i.zero,i.size,i.bytes))=some (some (.string ByteArray.empty),1,16):=by kernel_rfl
theorem numT9:renV.t 9=9:=by decide
theorem fields_any (w:World) (hT:TabL w):Calls Tryz.prog 261 #[.string ⟨#[60,62,32,60,61,32,62,61,32,40,32,41,32,44,32,59,32,46,32,42,32,43,32,45,32,47,32,37,32,61,32,60,32,62]⟩] w fun e w'=>e = .returned (.slice (some ⟨w.heap.size,0,none⟩) 16 16)∧w'=w.alloc (.cells ((signsB.map fun l=>Value.string (str8 l)).toArray) 9):=by
 have hB:=Any.strings_Fields laysFi (by rw[numT9];exact Tryz.infoStr9) (by rw[numG.1];kernel_rfl) ⟨#[60,62,32,60,61,32,62,61,32,40,32,41,32,44,32,59,32,46,32,42,32,43,32,45,32,47,32,37,32,61,32,60,32,62]⟩ w (by decide) (by
  intro j b hb
  have hm:=List.mem_of_getElem? hb
  revert hm b
  intro b _ hm
  have : ∀c∈([60,62,32,60,61,32,62,61,32,40,32,41,32,44,32,59,32,46,32,42,32,43,32,45,32,47,32,37,32,61,32,60,32,62]:List UInt8),c.toNat<128:=by decide
  exact this b hm) hT.spc
 rw[numL.2.2.2.1,numT9] at hB
 have e:Lib.fields (⟨#[60,62,32,60,61,32,62,61,32,40,32,41,32,44,32,59,32,46,32,42,32,43,32,45,32,47,32,37,32,61,32,60,32,62]⟩:ByteArray).data.toList=signsB:=signs_fields
 rw[e] at hB
 exact hB
theorem cutSign_any (s:List UInt8) (w:World) (hT:TabL w) (hs:s.length≤140737488351232):Calls Tryz.prog 230 #[.string (str8 s)] w fun e w'=>e = .returned (cutA (cutSignT s))∧Below w.heap.size w w':=by
 obtain⟨W,hW,hbW,hzW,hcW⟩:=box4 w (.int .i64 0) (.string ⟨#[]⟩) (.int .i64 0) (.int .i64 0) 162
 have HCW:=hid hcW
 have HB:=hid hbW
 clear hcW hbW
 have HF:=hid (fields_any W (hT.on HB.out))
 obtain⟨W2,hW2⟩:∃W2,W.alloc (.cells ((signsB.map fun l=>Value.string (str8 l)).toArray) 9)=W2:=⟨_,rfl⟩
 rw[hW2] at HF
 have HD:Hid (Below W.heap.size W W2):=hid (by rw[← hW2];exact (Below.refl _ _).alloc (Nat.le_refl _) _)
 have HN:Hid (W2.heap[W.heap.size]?=some (.cells ((signsB.map fun l=>Value.string (str8 l)).toArray) 9)):=hid (by rw[← hW2];exact heap_alloc_new _ _)
 have HE:Hid (Below w.heap.size w W2):=hid (HB.out.trans (HD.out.mono (Nat.le_of_lt hzW)))
 have g0:=cells4 (HCW.out W2 HD.out)
 have hd:cutSignT s=signT signsB s:=rfl
 rw[hd]
 clear hd hW2 hT
 obtain⟨X,hX⟩:∃X,signT signsB s=X:=⟨_,rfl⟩
 rw[hX]
 have HX:=hid hX
 clear hX
 go_enter Tryz.func230,Tryz.ntmps230
 go_wp2_with fail
 try rw[hW]
 clear hW
 refine HF.out.mono ?_
 rintro e w1 ⟨rfl,hw1⟩
 obtain rfl:W2=w1:=hw1.symm
 clear hw1 HF
 go_wp2_with fail
 go_loopw [6,9] (fun _ i wr=>∃k:Nat,k≤16∧i = .int .i64 k∧wr=W2∧Hid (signT (signsB.drop k) s=X)) (fun _ i _=>16-(intOf i).toNat)
 case atStart=>exact⟨0,by omega,rfl,rfl,HX⟩
 case round =>
  obtain⟨k,hk,rfl,rfl,HR⟩:=hrel
  by_cases hlt:k<16
  ·obtain⟨g,hg⟩:∃g,signsB[k]?=some g:=⟨_,List.getElem?_eq_getElem (show k<signsB.length from hlt)⟩
   have hcell:wr.cell? ⟨W.heap.size,k,none⟩=some (.string (str8 g)):=by
    rw[cell_row _ _ _ _ _ _ HN.out,List.getElem?_toArray,List.getElem?_map,hg]
    rfl
   have hgl:g.length≤2:=by
    have : ∀x∈signsB,x.length≤2:=by decide
    exact this g (List.mem_of_getElem? hg)
   have hdr:signsB.drop k=g::signsB.drop (k+1):=drop_consL signsB k g hg
   rw[hdr,signT] at HR
   have HP:=hid (fun w=>hasPrefix_any s g w)
   clear hdr hg
   cases hp:g.isPrefixOf s with
   |
    true =>
    rw[hp] at HP HR
    have HV:Hid (cutA X = .tuple #[.agg #[.int .i64 5,.string (str8 g),.int .i64 0,.int .i64 0],.int .i64 (g.length:Int),.int .i64 0]):=hid (by rw[← HR.out];rfl)
    clear HR hp
    go_wp2_with (go_at_call 223;refine (HP.out _).mono ?_;rintro e w3 ⟨rfl,hw3⟩;rw[hw3])
    exact bodyPost_ret (v:=.tuple #[.agg #[.int .i64 5,.string (str8 g),.int .i64 0,.int .i64 0],.int .i64 (g.length:Int),.int .i64 0]) (by simp[results,Tryz.results230,go_sem,g0,str8_size]) rfl ⟨by rw[HV.out],(((HE.out.setCell (Nat.le_refl _) _).setCell (Nat.le_refl _) _).setCell (Nat.le_refl _) _).setCell (Nat.le_refl _) _⟩
   |
    false =>
    rw[hp] at HP HR
    have HR2:Hid (signT (signsB.drop (k+1)) s=X):=hid (by rw[← HR.out];rfl)
    clear HR hp
    go_wp2_with (go_at_call 223;refine (HP.out _).mono ?_;rintro e w3 ⟨rfl,hw3⟩;rw[hw3])
    go_roundw
    case rel=>exact⟨k+1,by omega,by go_num,by first | rfl | trivial,HR2⟩
    case measure=>simp[intOf];omega
  ·obtain rfl:k=16:=by omega
   have HV:Hid (cutA X = .tuple #[.agg #[.int .i64 0,.string ⟨#[]⟩,.int .i64 0,.int .i64 0],.int .i64 0,.int .i64 4]):=hid (by rw[← HR.out];rfl)
   clear HR
   go_wp2
   exact bodyPost_ret (v:=.tuple #[.agg #[.int .i64 0,.string ⟨#[]⟩,.int .i64 0,.int .i64 0],.int .i64 0,.int .i64 4]) (by simp[results,Tryz.results230,go_sem,g0]) rfl ⟨by rw[HV.out],(((HE.out.setCell (Nat.le_refl _) _).setCell (Nat.le_refl _) _).setCell (Nat.le_refl _) _).setCell (Nat.le_refl _) _⟩
theorem cut1_any (l:List UInt8) (c:UInt8) (r:List UInt8) (B:Nat) (W:World) (hB:B<W.heap.size) (hc:W.cell? ⟨B,0,none⟩=some (.string (str8 (c::r)))) :
  Calls Tryz.prog 225 #[.string (str8 l),.pointer (some ⟨B,0,none⟩)] W fun e w'=>e = .returned (.bool (inS l c))∧Below W.heap.size W w':=by
 have hix : ∀w,(Instr.index 9 (.string (str8 (c::r))) (.int .i64 0)).run Tryz.prog w = .ok (.int .u8 (c.toNat:Int)) w:=run_ix (c::r) 0 c rfl
 have HO:=hid (fun w=>oneOf_tells l w)
 have HD:Hid (Below W.heap.size W W.drew):=hid (below_drewN (Below.refl _ _) 1)
 have HFS:Hid (∀V,Below W.heap.size W V→V.cell? ⟨B,0,none⟩=some (.string (str8 (c::r)))):=hid (fun V hV=>(hV.cell (p:=⟨B,0,none⟩) hB).trans hc)
 have hS0:W.drew.cell? ⟨B,0,none⟩=some (.string (str8 (c::r))):=HFS.out _ HD.out
 obtain⟨b,hb⟩:∃b,inS l c=b:=⟨_,rfl⟩
 rw[hb]
 have HB:=hid hb
 clear hb
 go_enter Tryz.func225,Tryz.ntmps225
 go_wp2_with fail
 go_region_held3 (fun w'=>w'.cell? ⟨B,0,none⟩=some (.string (str8 (c::r)))) (first | assumption) (first
  | (
   go_at_call 153;refine (HO.out _).mono ?_;rintro e w1 ⟨⟨rfl,hp⟩,hb1⟩
   have HP1:=hid (hp w1 c (Below.refl _ _))
   rw[HB.out] at HP1
   have HD1:Hid (Below W.heap.size W w1):=hid (HD.out.trans (hb1.mono HD.out.size))
   have hS1:=HFS.out _ HD1.out
   clear hp hb1)
  | (go_at_call 208;refine HP1.out.mono ?_;rintro e w2 ⟨rfl,hw2⟩;rw[hw2]))
 all_goals go_wp2
 all_goals go_ret
 all_goals exact⟨rfl,HD1.out⟩
theorem cut_any (c:UInt8) (r:List UInt8) (w:World) (hT:TabL w) (hs:(c::r).length≤2147483648):Calls Tryz.prog 175 #[.string (str8 (c::r))] w fun e w'=>e = .returned (cutA (cutT (c::r)))∧Below w.heap.size w w':=by
 have hd:cutT (c::r)=if inS lowsB c=true then cutNameT (c::r) else if inS upsB c=true then cutWordT (c::r) else if inS digsB c=true then cutNumT (c::r) else if inS [39] c=true then cutTextT (c::r) else cutSignT (c::r):=rfl
 rw[hd]
 clear hd
 obtain⟨W0,hW0⟩:∃W0,w.alloc (.cells #[.string (str8 (c::r))] 9)=W0:=⟨_,rfl⟩
 have hbW0:Below w.heap.size w W0:=by rw[← hW0];exact (Below.refl _ _).alloc (Nat.le_refl _) _
 have hzW0:W0.heap.size=w.heap.size+1:=by rw[← hW0];simp
 have hcW0:W0.cell? ⟨w.heap.size,0,none⟩=some (.string (str8 (c::r))):=by rw[← hW0];simp
 obtain⟨W,hW,hbW,hzW,hcW⟩:=box4 W0 (.int .i64 0) (.string ⟨#[]⟩) (.int .i64 0) (.int .i64 0) 162
 have HFS:Hid (∀V,Below W.heap.size W V→V.cell? ⟨w.heap.size,0,none⟩=some (.string (str8 (c::r)))):=hid (fun V hV=>(hV.cell (p:=⟨w.heap.size,0,none⟩) (by show w.heap.size<_;omega)).trans ((hbW.cell (p:=⟨w.heap.size,0,none⟩) (by show w.heap.size<_;omega)).trans hcW0))
 have hS0:=HFS.out W (Below.refl _ _)
 have HCW:=hid hcW
 have HB0:Hid (Below w.heap.size w W):=hid (hbW0.trans (hbW.mono (by omega)))
 have HTW:=hid (hT.on HB0.out)
 have HBG:Hid (∀(l:List UInt8) V,Below W.heap.size W V→Calls Tryz.prog 225 #[.string (str8 l),.pointer (some ⟨w.heap.size,0,none⟩)] V fun e w'=>e = .returned (.bool (inS l c))∧Below V.heap.size V w'):=hid (fun l V hV=>cut1_any l c r w.heap.size V (by have:=hV.size;omega) (HFS.out V hV))
 have HL1:Hid (∀V,Below W.heap.size W V→Calls Tryz.prog 225 #[.string ⟨#[97,98,99,100,101,102,103,104,105,106,107,108,109,110,111,112,113,114,115,116,117,118,119,120,121,122,95]⟩,.pointer (some ⟨w.heap.size,0,none⟩)] V fun e w'=>e = .returned (.bool (inS lowsB c))∧Below V.heap.size V w'):=hid (fun V hV=>HBG.out lowsB V hV)
 have HL2:Hid (∀V,Below W.heap.size W V→Calls Tryz.prog 225 #[.string ⟨#[65,66,67,68,69,70,71,72,73,74,75,76,77,78,79,80,81,82,83,84,85,86,87,88,89,90]⟩,.pointer (some ⟨w.heap.size,0,none⟩)] V fun e w'=>e = .returned (.bool (inS upsB c))∧Below V.heap.size V w'):=hid (fun V hV=>HBG.out upsB V hV)
 have HL3:Hid (∀V,Below W.heap.size W V→Calls Tryz.prog 225 #[.string ⟨#[48,49,50,51,52,53,54,55,56,57]⟩,.pointer (some ⟨w.heap.size,0,none⟩)] V fun e w'=>e = .returned (.bool (inS digsB c))∧Below V.heap.size V w'):=hid (fun V hV=>HBG.out digsB V hV)
 have HL4:Hid (∀V,Below W.heap.size W V→Calls Tryz.prog 225 #[.string ⟨#[39]⟩,.pointer (some ⟨w.heap.size,0,none⟩)] V fun e w'=>e = .returned (.bool (inS [39] c))∧Below V.heap.size V w'):=hid (fun V hV=>HBG.out [39] V hV)
 have hsz:W0.heap.size=w.heap.size+1:=hzW0
 have HK1:=hid (fun V=>cutName_any (c::r) V (by omega))
 have HK2:=hid (fun V=>cutWord_any (c::r) V (by omega))
 have HK3:Hid (inS digsB c=true→∀V,TabL V→_):=hid (fun (h:inS digsB c=true) V hV=>cutNumber_any (c::r) V hV (by omega) (row_first h))
 have HK4:=hid (fun V hV=>cutText_any (c::r) V hV hs (by simp))
 have HK5:=hid (fun V hV=>cutSign_any (c::r) V hV (by omega))
 clear hcW hbW hbW0 hzW0 hT hcW0 HBG
 by_cases hc1:inS lowsB c=true
 ·rw[if_pos hc1]
  rw[hc1] at HL1
  obtain⟨⟨xe,⟨xk,xs,xn,xp⟩,xm⟩,hX⟩:∃X,cutNameT (c::r)=X:=⟨_,rfl⟩
  have HK:=HK1
  rw[hX] at HK ⊢
  clear hX HK1 HK2 HK3 HK4 HK5
  unfold cutA at HK ⊢
  dsimp only at HK ⊢
  generalize str8 (c::r)=S at *
  go_enter Tryz.func175,Tryz.ntmps175
  go_wp2_with fail
  try rw[hW0]
  try rw[hsz]
  try rw[hW]
  clear hW0 hW
  have D0:Hid (Below W.heap.size W W):=hid (Below.refl _ _)
  refine (HL1.out W D0.out).mono ?_
  rintro e v1 ⟨rfl,g1⟩
  have D1:Hid (Below W.heap.size W v1):=hid (D0.out.trans (g1.mono D0.out.size))
  have hS1:=HFS.out v1 D1.out
  clear g1
  go_wp2_with fail
  refine (HK.out v1).mono ?_
  rintro e u ⟨rfl,gu⟩
  have DU:Hid (Below W.heap.size W u):=hid (D1.out.trans (gu.mono D1.out.size))
  have HE:Hid (Below w.heap.size w u):=hid (HB0.out.trans (DU.out.mono HB0.out.size))
  have g0:=cells4 (HCW.out u DU.out)
  rw[hsz] at g0
  clear gu
  go_wp2
  exact bodyPost_ret (v:=.tuple #[.agg #[.int .i64 xk,.string (str8 xs),.int .i64 xn,.int .i64 xp],.int .i64 (xm:Int),.int .i64 (xe:Int)]) (by simp[results,Tryz.results175,go_sem,g0]) rfl ⟨rfl,(((HE.out.setCell (Nat.le_succ _) _).setCell (Nat.le_succ _) _).setCell (Nat.le_succ _) _).setCell (Nat.le_succ _) _⟩
 ·rw[if_neg hc1]
  have hf1:inS lowsB c=false:=by simpa using hc1
  rw[hf1] at HL1
  by_cases hc2:inS upsB c=true
  ·rw[if_pos hc2]
   rw[hc2] at HL2
   obtain⟨⟨xe,⟨xk,xs,xn,xp⟩,xm⟩,hX⟩:∃X,cutWordT (c::r)=X:=⟨_,rfl⟩
   have HK:=HK2
   rw[hX] at HK ⊢
   clear hX HK1 HK2 HK3 HK4 HK5
   unfold cutA at HK ⊢
   dsimp only at HK ⊢
   generalize str8 (c::r)=S at *
   go_enter Tryz.func175,Tryz.ntmps175
   go_wp2_with fail
   try rw[hW0]
   try rw[hsz]
   try rw[hW]
   clear hW0 hW
   have D0:Hid (Below W.heap.size W W):=hid (Below.refl _ _)
   refine (HL1.out W D0.out).mono ?_
   rintro e v1 ⟨rfl,g1⟩
   have D1:Hid (Below W.heap.size W v1):=hid (D0.out.trans (g1.mono D0.out.size))
   have hS1:=HFS.out v1 D1.out
   clear g1
   go_wp2_with fail
   refine (HL2.out v1 D1.out).mono ?_
   rintro e v2 ⟨rfl,g2⟩
   have D2:Hid (Below W.heap.size W v2):=hid (D1.out.trans (g2.mono D1.out.size))
   have hS2:=HFS.out v2 D2.out
   clear g2
   go_wp2_with fail
   refine (HK.out v2).mono ?_
   rintro e u ⟨rfl,gu⟩
   have DU:Hid (Below W.heap.size W u):=hid (D2.out.trans (gu.mono D2.out.size))
   have HE:Hid (Below w.heap.size w u):=hid (HB0.out.trans (DU.out.mono HB0.out.size))
   have g0:=cells4 (HCW.out u DU.out)
   rw[hsz] at g0
   clear gu
   go_wp2
   exact bodyPost_ret (v:=.tuple #[.agg #[.int .i64 xk,.string (str8 xs),.int .i64 xn,.int .i64 xp],.int .i64 (xm:Int),.int .i64 (xe:Int)]) (by simp[results,Tryz.results175,go_sem,g0]) rfl ⟨rfl,(((HE.out.setCell (Nat.le_succ _) _).setCell (Nat.le_succ _) _).setCell (Nat.le_succ _) _).setCell (Nat.le_succ _) _⟩
  ·rw[if_neg hc2]
   have hf2:inS upsB c=false:=by simpa using hc2
   rw[hf2] at HL2
   by_cases hc3:inS digsB c=true
   ·rw[if_pos hc3]
    rw[hc3] at HL3
    obtain⟨⟨xe,⟨xk,xs,xn,xp⟩,xm⟩,hX⟩:∃X,cutNumT (c::r)=X:=⟨_,rfl⟩
    have HK:=hid (HK3.out hc3)
    rw[hX] at HK ⊢
    clear hX HK1 HK2 HK3 HK4 HK5
    unfold cutA at HK ⊢
    dsimp only at HK ⊢
    generalize str8 (c::r)=S at *
    go_enter Tryz.func175,Tryz.ntmps175
    go_wp2_with fail
    try rw[hW0]
    try rw[hsz]
    try rw[hW]
    clear hW0 hW
    have D0:Hid (Below W.heap.size W W):=hid (Below.refl _ _)
    refine (HL1.out W D0.out).mono ?_
    rintro e v1 ⟨rfl,g1⟩
    have D1:Hid (Below W.heap.size W v1):=hid (D0.out.trans (g1.mono D0.out.size))
    have hS1:=HFS.out v1 D1.out
    clear g1
    go_wp2_with fail
    refine (HL2.out v1 D1.out).mono ?_
    rintro e v2 ⟨rfl,g2⟩
    have D2:Hid (Below W.heap.size W v2):=hid (D1.out.trans (g2.mono D1.out.size))
    have hS2:=HFS.out v2 D2.out
    clear g2
    go_wp2_with fail
    refine (HL3.out v2 D2.out).mono ?_
    rintro e v3 ⟨rfl,g3⟩
    have D3:Hid (Below W.heap.size W v3):=hid (D2.out.trans (g3.mono D2.out.size))
    have hS3:=HFS.out v3 D3.out
    clear g3
    go_wp2_with fail
    refine (HK.out v3 (HTW.out.on D3.out)).mono ?_
    rintro e u ⟨rfl,gu⟩
    have DU:Hid (Below W.heap.size W u):=hid (D3.out.trans (gu.mono D3.out.size))
    have HE:Hid (Below w.heap.size w u):=hid (HB0.out.trans (DU.out.mono HB0.out.size))
    have g0:=cells4 (HCW.out u DU.out)
    rw[hsz] at g0
    clear gu
    go_wp2
    exact bodyPost_ret (v:=.tuple #[.agg #[.int .i64 xk,.string (str8 xs),.int .i64 xn,.int .i64 xp],.int .i64 (xm:Int),.int .i64 (xe:Int)]) (by simp[results,Tryz.results175,go_sem,g0]) rfl ⟨rfl,(((HE.out.setCell (Nat.le_succ _) _).setCell (Nat.le_succ _) _).setCell (Nat.le_succ _) _).setCell (Nat.le_succ _) _⟩
   ·rw[if_neg hc3]
    have hf3:inS digsB c=false:=by simpa using hc3
    rw[hf3] at HL3
    by_cases hc4:inS [39] c=true
    ·rw[if_pos hc4]
     rw[hc4] at HL4
     obtain⟨⟨xe,⟨xk,xs,xn,xp⟩,xm⟩,hX⟩:∃X,cutTextT (c::r)=X:=⟨_,rfl⟩
     have HK:=HK4
     rw[hX] at HK ⊢
     clear hX HK1 HK2 HK3 HK4 HK5
     unfold cutA at HK ⊢
     dsimp only at HK ⊢
     generalize str8 (c::r)=S at *
     go_enter Tryz.func175,Tryz.ntmps175
     go_wp2_with fail
     try rw[hW0]
     try rw[hsz]
     try rw[hW]
     clear hW0 hW
     have D0:Hid (Below W.heap.size W W):=hid (Below.refl _ _)
     refine (HL1.out W D0.out).mono ?_
     rintro e v1 ⟨rfl,g1⟩
     have D1:Hid (Below W.heap.size W v1):=hid (D0.out.trans (g1.mono D0.out.size))
     have hS1:=HFS.out v1 D1.out
     clear g1
     go_wp2_with fail
     refine (HL2.out v1 D1.out).mono ?_
     rintro e v2 ⟨rfl,g2⟩
     have D2:Hid (Below W.heap.size W v2):=hid (D1.out.trans (g2.mono D1.out.size))
     have hS2:=HFS.out v2 D2.out
     clear g2
     go_wp2_with fail
     refine (HL3.out v2 D2.out).mono ?_
     rintro e v3 ⟨rfl,g3⟩
     have D3:Hid (Below W.heap.size W v3):=hid (D2.out.trans (g3.mono D2.out.size))
     have hS3:=HFS.out v3 D3.out
     clear g3
     go_wp2_with fail
     refine (HL4.out v3 D3.out).mono ?_
     rintro e v4 ⟨rfl,g4⟩
     have D4:Hid (Below W.heap.size W v4):=hid (D3.out.trans (g4.mono D3.out.size))
     have hS4:=HFS.out v4 D4.out
     clear g4
     go_wp2_with fail
     refine (HK.out v4 (HTW.out.on D4.out)).mono ?_
     rintro e u ⟨rfl,gu⟩
     have DU:Hid (Below W.heap.size W u):=hid (D4.out.trans (gu.mono D4.out.size))
     have HE:Hid (Below w.heap.size w u):=hid (HB0.out.trans (DU.out.mono HB0.out.size))
     have g0:=cells4 (HCW.out u DU.out)
     rw[hsz] at g0
     clear gu
     go_wp2
     exact bodyPost_ret (v:=.tuple #[.agg #[.int .i64 xk,.string (str8 xs),.int .i64 xn,.int .i64 xp],.int .i64 (xm:Int),.int .i64 (xe:Int)]) (by simp[results,Tryz.results175,go_sem,g0]) rfl ⟨rfl,(((HE.out.setCell (Nat.le_succ _) _).setCell (Nat.le_succ _) _).setCell (Nat.le_succ _) _).setCell (Nat.le_succ _) _⟩
    ·rw[if_neg hc4]
     have hf4:inS [39] c=false:=by simpa using hc4
     rw[hf4] at HL4
     obtain⟨⟨xe,⟨xk,xs,xn,xp⟩,xm⟩,hX⟩:∃X,cutSignT (c::r)=X:=⟨_,rfl⟩
     have HK:=HK5
     rw[hX] at HK ⊢
     clear hX HK1 HK2 HK3 HK4 HK5
     unfold cutA at HK ⊢
     dsimp only at HK ⊢
     generalize str8 (c::r)=S at *
     go_enter Tryz.func175,Tryz.ntmps175
     go_wp2_with fail
     try rw[hW0]
     try rw[hsz]
     try rw[hW]
     clear hW0 hW
     have D0:Hid (Below W.heap.size W W):=hid (Below.refl _ _)
     refine (HL1.out W D0.out).mono ?_
     rintro e v1 ⟨rfl,g1⟩
     have D1:Hid (Below W.heap.size W v1):=hid (D0.out.trans (g1.mono D0.out.size))
     have hS1:=HFS.out v1 D1.out
     clear g1
     go_wp2_with fail
     refine (HL2.out v1 D1.out).mono ?_
     rintro e v2 ⟨rfl,g2⟩
     have D2:Hid (Below W.heap.size W v2):=hid (D1.out.trans (g2.mono D1.out.size))
     have hS2:=HFS.out v2 D2.out
     clear g2
     go_wp2_with fail
     refine (HL3.out v2 D2.out).mono ?_
     rintro e v3 ⟨rfl,g3⟩
     have D3:Hid (Below W.heap.size W v3):=hid (D2.out.trans (g3.mono D2.out.size))
     have hS3:=HFS.out v3 D3.out
     clear g3
     go_wp2_with fail
     refine (HL4.out v3 D3.out).mono ?_
     rintro e v4 ⟨rfl,g4⟩
     have D4:Hid (Below W.heap.size W v4):=hid (D3.out.trans (g4.mono D3.out.size))
     have hS4:=HFS.out v4 D4.out
     clear g4
     go_wp2_with fail
     refine (HK.out v4 (HTW.out.on D4.out)).mono ?_
     rintro e u ⟨rfl,gu⟩
     have DU:Hid (Below W.heap.size W u):=hid (D4.out.trans (gu.mono D4.out.size))
     have HE:Hid (Below w.heap.size w u):=hid (HB0.out.trans (DU.out.mono HB0.out.size))
     have g0:=cells4 (HCW.out u DU.out)
     rw[hsz] at g0
     clear gu
     go_wp2
     exact bodyPost_ret (v:=.tuple #[.agg #[.int .i64 xk,.string (str8 xs),.int .i64 xn,.int .i64 xp],.int .i64 (xm:Int),.int .i64 (xe:Int)]) (by simp[results,Tryz.results175,go_sem,g0]) rfl ⟨rfl,(((HE.out.setCell (Nat.le_succ _) _).setCell (Nat.le_succ _) _).setCell (Nat.le_succ _) _).setCell (Nat.le_succ _) _⟩
end Go.Proofs.YtaaggohjmhifbaaGreatDoor
