/- Packed for the hand-in: PLit PExpr -/
import Derived.Test.YtaaggohjmhifbaaGreatDoorP11
import Derived.Test.YtaaggohjmhifbaaGreatDoorP12
namespace Go.Proofs.YtaaggohjmhifbaaGreatDoor
open Go.RowKit Go.Shelf
set_option linter.unusedSimpArgs false
set_option linter.unusedVariables false
set_option maxRecDepth 20000
set_option maxHeartbeats 8000000
theorem set3 {w:World} {b:Nat} {a0 a1 a2:Value} {t:TypeId} (h:w.heap[b]?=some (.cells #[a0,a1,a2] t)) (v0 v1 v2:Value) :
  ((w.setCell ⟨b,0,none⟩ v0).setCell ⟨b,1,none⟩ v1).setCell ⟨b,2,none⟩ v2=w.setRow b #[v0,v1,v2]:=by
 have q : ∀cs,(w.setRow b cs).heap[b]?=some (.cells cs t):=fun cs=>setRow_heap w b _ cs t _ h
 rw[setCell_eq_setRow w b 0 _ t _ v0 h,setCell_eq_setRow _ b 1 _ t _ v1 (q _),setRow_setRow,setCell_eq_setRow _ b 2 _ t _ v2 (q _),setRow_setRow]
 simp only[List.setIfInBounds_toArray,List.set_cons_zero,List.set_cons_succ]
theorem cells3f {w:World} {g:Nat} {a b c:Value} {t:TypeId} (h:w.heap[g]?=some (.cells #[a,b,c] t)) :
  w.cell? ⟨g,0,none⟩=some a∧w.cell? ⟨g,1,none⟩=some b∧w.cell? ⟨g,2,none⟩=some c∧∀i,w.frozen? ⟨g,i,none⟩=false :=
 ⟨by rw[cell_row _ _ _ _ _ _ h];rfl,by rw[cell_row _ _ _ _ _ _ h];rfl,by rw[cell_row _ _ _ _ _ _ h];rfl,fun i=>by simp[World.frozen?,h]⟩
theorem num_bound {F:Nat} {r:Rd} (h:Good F r):0≤(numP r).1∧(numP r).1≤9223372036854775807:=by
 unfold numP
 split
 ·rename_i hk
  have hb:=now_good hk (by decide)
  have hm:nowR r∈r.ts:=by
   unfold nowR at hk ⊢
   rw[if_pos hb] at hk ⊢
   cases hr:r.ts with
   | nil=>rw[hr] at hk;exact absurd hk (by decide)
   | cons a l=>simp
  exact h.nums _ hm
 ·simp
theorem lit_any (F g:Nat) (r:Rd) (w:World) (h:RdAt F w g r) :
  Calls Tryz.prog 232 #[.pointer (some ⟨g,0,none⟩)] w fun e w'=>e = .returned (.agg #[.int .i64 (litP r).1.k,.int .i64 (litP r).1.n,.string (str8 (litP r).1.s)])∧RdAt F w' g (litP r).2∧Fr g w w':=by
 have hgw:=h.lt
 have hG:=h.good
 obtain⟨W,hW,hbW,hzW,hcW⟩:=box8 w (.cells #[.int .i64 0,.int .i64 0,.string ⟨#[]⟩] 128)
 have HCW:=hid hcW
 have HH:=hid (h.below hbW)
 have HF:=hid (Spares.of_new (S:=fun k=>k=g) hbW)
 have HN:=hid (now_any F g r W HH.out)
 obtain⟨Y,hYe⟩:∃Y,litP r=Y:=⟨_,rfl⟩
 have hlit:litP r=if isR [78,85,76,76] r=true then (zV,nextR r) else if (nowR r).k=4 then (⟨2,0,(nowR r).s⟩,nextR r) else if isR [45] r=true then (⟨1,-(numP (nextR r)).1,[]⟩,(numP (nextR r)).2) else (⟨1,(numP r).1,[]⟩,(numP r).2):=by
  unfold litP ifP bindP textP retP
  by_cases h1:isR [78,85,76,76] r=true
  ·rw[if_pos h1,if_pos h1]
  ·rw[if_neg h1,if_neg h1]
   by_cases h2:(nowR r).k=4
   ·rw[if_pos h2,if_pos h2]
   ·rw[if_neg h2,if_neg h2]
 rw[hYe] at hlit ⊢
 clear hYe
 by_cases h1:isR [78,85,76,76] r=true
 ·rw[if_pos h1] at hlit
  subst hlit
  have HSK:Hid (∀V,RdAt F V g r→Calls Tryz.prog 118 #[.pointer (some ⟨g,0,none⟩),.string ⟨#[78,85,76,76]⟩] V fun e w'=>e = .returned (.bool true)∧RdAt F w' g (nextR r)∧Fr g V w'):=hid (fun V hV=>skip_yes F g r V hV [78,85,76,76] h1)
  generalize nowR r=x at HN
  obtain⟨xk,xs,xn,xp⟩:=x
  dsimp only at HN
  clear h hcW hbW h1 hG
  go_enter Tryz.func232,Tryz.ntmps232
  go_wp2_with fail
  try rw[hW]
  clear hW
  refine HN.out.mono ?_
  rintro e w1 ⟨rfl,hb1⟩
  obtain⟨V,hV,hbV,hzV,hcV⟩:=box8 w1 (.cells #[.int .i64 xk,.string (str8 xs),.int .i64 xn,.int .i64 xp] 162)
  have hz1:=hb1.size
  have HRV:=hid ((HH.out.below hb1).below hbV)
  have HFV:=hid ((HF.out.thenNew hb1).thenNew hbV)
  have HBV:=hid ((hbV.block _ (by omega)).trans ((hb1.block _ hzW).trans HCW.out))
  have HTV:=hid hcV
  have HS:=hid (HSK.out V HRV.out)
  clear hb1 hbV hcV HN HSK
  go_wp2_with fail
  try rw[hV]
  clear hV
  refine HS.out.mono ?_
  rintro e w2 ⟨rfl,hr2,hf2⟩
  have hz2:=hf2.size
  have HB2:=hid ((hf2.block w.heap.size (by omega) (by omega)).trans HBV.out)
  have ht2:=(hf2.block w1.heap.size hzV (by omega)).trans HTV.out
  have HR2:=hid hr2
  have HF2:=hid (HFV.out.then hf2)
  clear hr2 hf2 HS
  clear ht2
  have kb:=cells3f HB2.out
  go_wp2
  rw[set3 HB2.out]
  obtain⟨Z,hZ,hZB,hZs,hZR,hZF⟩:=put_box (w:=w) #[.int .i64 0,.int .i64 0,.string ⟨#[]⟩] HB2.out (Nat.le_refl _) hgw HR2.out HF2.out
  rw[hZ]
  have kc:=cells3f hZB
  exact bodyPost_ret (v:=.agg #[.int .i64 0,.int .i64 0,.string ⟨#[]⟩]) (by simp[results,Tryz.results232,go_sem,kc]) rfl ⟨rfl,hZR,hZF⟩
 ·rw[if_neg h1] at hlit
  have HSK:Hid (∀V,RdAt F V g r→Calls Tryz.prog 118 #[.pointer (some ⟨g,0,none⟩),.string ⟨#[78,85,76,76]⟩] V fun e w'=>e = .returned (.bool false)∧RdAt F w' g r∧Fr g V w'):=hid (fun V hV=>skip_no F g r V hV [78,85,76,76] (by simpa using h1))
  by_cases h2:(nowR r).k=4
  ·rw[if_pos h2] at hlit
   subst hlit
   have HX:=hid (fun V (hV:RdAt F V g r)=>next_any F g r V hV (now_good h2 (by decide)) (by rw[h2];decide))
   generalize nowR r=x at HN h2 ⊢
   obtain⟨xk,xs,xn,xp⟩:=x
   dsimp only at HN h2 ⊢
   subst h2
   clear h hcW hbW h1 hG
   go_enter Tryz.func232,Tryz.ntmps232
   go_wp2_with fail
   try rw[hW]
   clear hW
   refine HN.out.mono ?_
   rintro e w1 ⟨rfl,hb1⟩
   obtain⟨V,hV,hbV,hzV,hcV⟩:=box8 w1 (.cells #[.int .i64 4,.string (str8 xs),.int .i64 xn,.int .i64 xp] 162)
   have hz1:=hb1.size
   have HRV:=hid ((HH.out.below hb1).below hbV)
   have HFV:=hid ((HF.out.thenNew hb1).thenNew hbV)
   have HBV:=hid ((hbV.block _ (by omega)).trans ((hb1.block _ hzW).trans HCW.out))
   have HTV:=hid hcV
   have HS:=hid (HSK.out V HRV.out)
   clear hb1 hbV hcV HN HSK
   go_wp2_with fail
   try rw[hV]
   clear hV
   refine HS.out.mono ?_
   rintro e w2 ⟨rfl,hr2,hf2⟩
   have hz2:=hf2.size
   have HB2:=hid ((hf2.block w.heap.size (by omega) (by omega)).trans HBV.out)
   have ht2:=(hf2.block w1.heap.size hzV (by omega)).trans HTV.out
   have HR2:=hid hr2
   have HF2:=hid (HFV.out.then hf2)
   clear hr2 hf2 HS
   have kt:=cells4 ht2
   have HT2:=hid ht2
   clear ht2
   go_wp2_with fail
   refine (HX.out w2 HR2.out).mono ?_
   rintro e w3 ⟨rfl,hr3,hf3⟩
   have HB3:=hid ((hf3.block w.heap.size (by omega) (by omega)).trans HB2.out)
   have HR3:=hid hr3
   have HF3:=hid (HF2.out.then hf3)
   have kt3:=cells4 ((hf3.block w1.heap.size (by omega) (by omega)).trans HT2.out)
   have kb:=cells3f HB3.out
   clear hr3 hf3 kt
   go_wp2
   rw[set3 HB3.out]
   obtain⟨Z,hZ,hZB,hZs,hZR,hZF⟩:=put_box (w:=w) #[.int .i64 2,.int .i64 0,.string (str8 xs)] HB3.out (Nat.le_refl _) hgw HR3.out HF3.out
   rw[hZ]
   have kc:=cells3f hZB
   exact bodyPost_ret (v:=.agg #[.int .i64 2,.int .i64 0,.string (str8 xs)]) (by simp[results,Tryz.results232,go_sem,kc]) rfl ⟨rfl,hZR,hZF⟩
  ·rw[if_neg h2] at hlit
   have h2':((nowR r).k==4)=false:=by simpa using h2
   by_cases h3:isR [45] r=true
   ·rw[if_pos h3] at hlit
    subst hlit
    have HSM:Hid (∀V,RdAt F V g r→Calls Tryz.prog 118 #[.pointer (some ⟨g,0,none⟩),.string ⟨#[45]⟩] V fun e w'=>e = .returned (.bool true)∧RdAt F w' g (nextR r)∧Fr g V w'):=hid (fun V hV=>skip_yes F g r V hV [45] h3)
    have HX:=hid (fun V (hV:RdAt F V g (nextR r))=>number_any F g (nextR r) V hV)
    have hbd:=num_bound (hG.next (is_ok h3) (kind6 h3))
    generalize (numP (nextR r)).1=m at HX hbd ⊢
    generalize (numP (nextR r)).2=r3 at HX ⊢
    have hneg:IntKind.i64.wrap (-m) = -m:=by rw[IntKind.wrap_i64];omega
    generalize nowR r=x at HN h2'
    obtain⟨xk,xs,xn,xp⟩:=x
    dsimp only at HN h2'
    clear h hcW hbW h1 h2 h3 hG
    go_enter Tryz.func232,Tryz.ntmps232
    go_wp2_with fail
    try rw[hW]
    clear hW
    refine HN.out.mono ?_
    rintro e w1 ⟨rfl,hb1⟩
    obtain⟨V,hV,hbV,hzV,hcV⟩:=box8 w1 (.cells #[.int .i64 xk,.string (str8 xs),.int .i64 xn,.int .i64 xp] 162)
    have hz1:=hb1.size
    have HRV:=hid ((HH.out.below hb1).below hbV)
    have HFV:=hid ((HF.out.thenNew hb1).thenNew hbV)
    have HBV:=hid ((hbV.block _ (by omega)).trans ((hb1.block _ hzW).trans HCW.out))
    have HTV:=hid hcV
    have HS:=hid (HSK.out V HRV.out)
    clear hb1 hbV hcV HN HSK
    go_wp2_with fail
    try rw[hV]
    clear hV
    refine HS.out.mono ?_
    rintro e w2 ⟨rfl,hr2,hf2⟩
    have hz2:=hf2.size
    have HB2:=hid ((hf2.block w.heap.size (by omega) (by omega)).trans HBV.out)
    have ht2:=(hf2.block w1.heap.size hzV (by omega)).trans HTV.out
    have HR2:=hid hr2
    have HF2:=hid (HFV.out.then hf2)
    clear hr2 hf2 HS
    have kt:=cells4 ht2
    clear ht2
    go_wp2_with fail
    refine (HSM.out w2 HR2.out).mono ?_
    rintro e w3 ⟨rfl,hr3,hf3⟩
    have hz3:=hf3.size
    have HB3:=hid ((hf3.block w.heap.size (by omega) (by omega)).trans HB2.out)
    have HR3:=hid hr3
    have HF3:=hid (HF2.out.then hf3)
    clear hr3 hf3 kt
    go_wp2_with fail
    refine (HX.out w3 HR3.out).mono ?_
    rintro e w4 ⟨rfl,hr4,hf4⟩
    have HB4:=hid ((hf4.block w.heap.size (by omega) (by omega)).trans HB3.out)
    have HR4:=hid hr4
    have HF4:=hid (HF3.out.then hf4)
    have kb:=cells3f HB4.out
    clear hr4 hf4
    go_wp2
    rw[set3 HB4.out]
    obtain⟨Z,hZ,hZB,hZs,hZR,hZF⟩:=put_box (w:=w) #[.int .i64 1,.int .i64 (-m),.string ⟨#[]⟩] HB4.out (Nat.le_refl _) hgw HR4.out HF4.out
    rw[hZ]
    have kc:=cells3f hZB
    exact bodyPost_ret (v:=.agg #[.int .i64 1,.int .i64 (-m),.string ⟨#[]⟩]) (by simp[results,Tryz.results232,go_sem,kc]) rfl ⟨rfl,hZR,hZF⟩
   ·rw[if_neg h3] at hlit
    subst hlit
    have HSM:Hid (∀V,RdAt F V g r→Calls Tryz.prog 118 #[.pointer (some ⟨g,0,none⟩),.string ⟨#[45]⟩] V fun e w'=>e = .returned (.bool false)∧RdAt F w' g r∧Fr g V w'):=hid (fun V hV=>skip_no F g r V hV [45] (by simpa using h3))
    have HX:=hid (fun V (hV:RdAt F V g r)=>number_any F g r V hV)
    generalize (numP r).1=m at HX ⊢
    generalize (numP r).2=r3 at HX ⊢
    generalize nowR r=x at HN h2'
    obtain⟨xk,xs,xn,xp⟩:=x
    dsimp only at HN h2'
    clear h hcW hbW h1 h2 h3 hG
    go_enter Tryz.func232,Tryz.ntmps232
    go_wp2_with fail
    try rw[hW]
    clear hW
    refine HN.out.mono ?_
    rintro e w1 ⟨rfl,hb1⟩
    obtain⟨V,hV,hbV,hzV,hcV⟩:=box8 w1 (.cells #[.int .i64 xk,.string (str8 xs),.int .i64 xn,.int .i64 xp] 162)
    have hz1:=hb1.size
    have HRV:=hid ((HH.out.below hb1).below hbV)
    have HFV:=hid ((HF.out.thenNew hb1).thenNew hbV)
    have HBV:=hid ((hbV.block _ (by omega)).trans ((hb1.block _ hzW).trans HCW.out))
    have HTV:=hid hcV
    have HS:=hid (HSK.out V HRV.out)
    clear hb1 hbV hcV HN HSK
    go_wp2_with fail
    try rw[hV]
    clear hV
    refine HS.out.mono ?_
    rintro e w2 ⟨rfl,hr2,hf2⟩
    have hz2:=hf2.size
    have HB2:=hid ((hf2.block w.heap.size (by omega) (by omega)).trans HBV.out)
    have ht2:=(hf2.block w1.heap.size hzV (by omega)).trans HTV.out
    have HR2:=hid hr2
    have HF2:=hid (HFV.out.then hf2)
    clear hr2 hf2 HS
    have kt:=cells4 ht2
    clear ht2
    go_wp2_with fail
    refine (HSM.out w2 HR2.out).mono ?_
    rintro e w3 ⟨rfl,hr3,hf3⟩
    have hz3:=hf3.size
    have HB3:=hid ((hf3.block w.heap.size (by omega) (by omega)).trans HB2.out)
    have HR3:=hid hr3
    have HF3:=hid (HF2.out.then hf3)
    clear hr3 hf3 kt
    go_wp2_with fail
    refine (HX.out w3 HR3.out).mono ?_
    rintro e w4 ⟨rfl,hr4,hf4⟩
    have HB4:=hid ((hf4.block w.heap.size (by omega) (by omega)).trans HB3.out)
    have HR4:=hid hr4
    have HF4:=hid (HF3.out.then hf4)
    have kb:=cells3f HB4.out
    clear hr4 hf4
    go_wp2
    rw[set3 HB4.out]
    obtain⟨Z,hZ,hZB,hZs,hZR,hZF⟩:=put_box (w:=w) #[.int .i64 1,.int .i64 m,.string ⟨#[]⟩] HB4.out (Nat.le_refl _) hgw HR4.out HF4.out
    rw[hZ]
    have kc:=cells3f hZB
    exact bodyPost_ret (v:=.agg #[.int .i64 1,.int .i64 m,.string ⟨#[]⟩]) (by simp[results,Tryz.results232,go_sem,kc]) rfl ⟨rfl,hZR,hZF⟩
theorem row_new (F:Nat) (n fb:Nat) (p:Pa Ex) (hp:RdsE F (Enough n) fb p) (hN:Nice false F p) (eg : ∀args w,(callFunc fb args).run Tryz.prog w = .ok (.enter fb args) w)
  (ops:List (List UInt8 × Int)) (ho : ∀c∈ops,c.2≠0) (hl:ops.length≤1000) (g:Nat) (r:Rd) (W:World) (h:RdAt F W g r) (hE:Enough n r) :
  Calls Tryz.prog 185 #[.pointer (some ⟨g,0,none⟩),.func (.func fb) #[.pointer (some ⟨g,0,none⟩)] #[],.slice (some ⟨W.heap.size,0,none⟩) ops.length ops.length] (W.alloc (.cells (ops.flatMap fun t=>[Value.string (str8 t.1),.int .i64 t.2]).toArray 155)) fun e w'=>∃u,e = .returned u∧ExV (fun b=>W.heap.size≤b) w' (rowP F p ops r).1 u∧RdAt F w' g (rowP F p ops r).2∧Fr g W w':=by
 have hb:Below W.heap.size W (W.alloc (.cells (ops.flatMap fun t=>[Value.string (str8 t.1),.int .i64 t.2]).toArray 155)):=(Below.refl _ _).alloc (Nat.le_refl _) _
 refine (row_any F n fb p hp hN eg ops ho g r _ (h.below hb) hE _ ⟨_,_,rfl,hl,fun _=>⟨_,rfl,h.lt,fun j t ht=>?_⟩⟩).mono ?_
 ·rw[cell_of_row _ _ _ _ _ _ (heap_alloc_new W _),cell_of_row _ _ _ _ _ _ (heap_alloc_new W _)]
  have:=flat_at ops j t ht
  simpa using this
 ·rintro e w' ⟨u,rfl,h0,h1,h2⟩
  exact⟨u,rfl,h0.to (R:=fun _=>False) (Spares.refl _ _) (fun b hb' _=>⟨id,Nat.le_trans hb.size hb'⟩),h1,(Spares.of_new (S:=fun k=>k=g) hb).then h2⟩
theorem term_any (F n:Nat) (p:Pa Ex) (hp:RdsE F (Enough n) 311 p) (hN:Nice false F p):RdsE F (Enough n) 296 (rowP F p mulsB):=fun g r w h hE=>by
 have hgw:=h.lt
 obtain⟨W,hW,hbW,hzW,hcW⟩:=box8 w zBox
 have HCW:=hid hcW
 have HF:=hid (Spares.of_new (S:=fun k=>k=g) hbW)
 have HR:Hid (Calls Tryz.prog 185 #[.pointer (some ⟨g,0,none⟩),.func (.func 311) #[.pointer (some ⟨g,0,none⟩)] #[],.slice (some ⟨W.heap.size,0,none⟩) 3 3] (W.alloc (.cells #[.string ⟨#[42]⟩,.int .i64 11,.string ⟨#[47]⟩,.int .i64 12,.string ⟨#[37]⟩,.int .i64 13] 155)) fun e w'=>∃u,e = .returned u∧ExV (fun b=>W.heap.size≤b) w' (rowP F p mulsB r).1 u∧RdAt F w' g (rowP F p mulsB r).2∧Fr g W w') :=
  hid (row_new F n 311 p hp hN (enters_of Tryz.func311 (by kernel_rfl) rfl) mulsB (by decide) (by decide) g r W (h.below hbW) hE)
 generalize (rowP F p mulsB r).1=y1 at HR ⊢
 generalize (rowP F p mulsB r).2=y2 at HR ⊢
 clear h hcW hbW hp hN hE
 go_enter Tryz.func296,Tryz.ntmps296
 go_wp2_with fail
 try rw[hW]
 clear hW
 refine HR.out.mono ?_
 rintro e w1 ⟨u,rfl,hu,hr1,hf1⟩
 have HU:=hid hu
 obtain⟨k3,op3,tb3,nm3,vk3,vn3,vs3,ys3,aa3,nn3,cc3,_,rfl,_⟩:=hu
 have HB:=hid ((hf1.block w.heap.size hzW (by omega)).trans HCW.out)
 have HR1:=hid hr1
 have HF1:=hid (HF.out.then hf1)
 clear hr1 hf1 HR
 go_wp2_with (first
  | (
   refine wpList_store_box rfl (.tmp 2) (.tmp 10) rfl w.heap.size rfl k3 op3 vk3 vn3 (str8 tb3) (str8 nm3) (str8 vs3) aa3 nn3 cc3 rfl HB.out (Nat.le_refl _) hgw HR1.out HF1.out ?_
   intro Y hYB hYs hYR hYF
   have HYB:=hid hYB
   have HUY:=hid (HU.out.to (T:=fun b=>w.heap.size≤b) hYs (fun b hb _=>⟨by omega,by omega⟩))
   have HYR:=hid hYR
   have HYF:=hid hYF
   clear hYB hYs hYR hYF)
  | fail)
 have kc:=cells8 HYB.out
 exact bodyPost_ret (v:=.agg #[.int .i64 k3,.int .i64 op3,.string (str8 tb3),.string (str8 nm3),.int .i64 vk3,.int .i64 vn3,.string (str8 vs3),.slice aa3 nn3 cc3]) (by simp[results,Tryz.results296,go_sem,kc]) rfl ⟨_,rfl,HUY.out,HYR.out,HYF.out⟩
theorem sum_any (F n:Nat) (p:Pa Ex) (hp:RdsE F (Enough n) 296 p) (hN:Nice false F p):RdsE F (Enough n) 280 (rowP F p addsB):=fun g r w h hE=>by
 have hgw:=h.lt
 obtain⟨W,hW,hbW,hzW,hcW⟩:=box8 w zBox
 have HCW:=hid hcW
 have HF:=hid (Spares.of_new (S:=fun k=>k=g) hbW)
 have HR:Hid (Calls Tryz.prog 185 #[.pointer (some ⟨g,0,none⟩),.func (.func 296) #[.pointer (some ⟨g,0,none⟩)] #[],.slice (some ⟨W.heap.size,0,none⟩) 2 2] (W.alloc (.cells #[.string ⟨#[43]⟩,.int .i64 9,.string ⟨#[45]⟩,.int .i64 10] 155)) fun e w'=>∃u,e = .returned u∧ExV (fun b=>W.heap.size≤b) w' (rowP F p addsB r).1 u∧RdAt F w' g (rowP F p addsB r).2∧Fr g W w') :=
  hid (row_new F n 296 p hp hN (enters_of Tryz.func296 (by kernel_rfl) rfl) addsB (by decide) (by decide) g r W (h.below hbW) hE)
 generalize (rowP F p addsB r).1=y1 at HR ⊢
 generalize (rowP F p addsB r).2=y2 at HR ⊢
 clear h hcW hbW hp hN hE
 go_enter Tryz.func280,Tryz.ntmps280
 go_wp2_with fail
 try rw[hW]
 clear hW
 refine HR.out.mono ?_
 rintro e w1 ⟨u,rfl,hu,hr1,hf1⟩
 have HU:=hid hu
 obtain⟨k3,op3,tb3,nm3,vk3,vn3,vs3,ys3,aa3,nn3,cc3,_,rfl,_⟩:=hu
 have HB:=hid ((hf1.block w.heap.size hzW (by omega)).trans HCW.out)
 have HR1:=hid hr1
 have HF1:=hid (HF.out.then hf1)
 clear hr1 hf1 HR
 go_wp2_with (first
  | (
   refine wpList_store_box rfl (.tmp 2) (.tmp 9) rfl w.heap.size rfl k3 op3 vk3 vn3 (str8 tb3) (str8 nm3) (str8 vs3) aa3 nn3 cc3 rfl HB.out (Nat.le_refl _) hgw HR1.out HF1.out ?_
   intro Y hYB hYs hYR hYF
   have HYB:=hid hYB
   have HUY:=hid (HU.out.to (T:=fun b=>w.heap.size≤b) hYs (fun b hb _=>⟨by omega,by omega⟩))
   have HYR:=hid hYR
   have HYF:=hid hYF
   clear hYB hYs hYR hYF)
  | fail)
 have kc:=cells8 HYB.out
 exact bodyPost_ret (v:=.agg #[.int .i64 k3,.int .i64 op3,.string (str8 tb3),.string (str8 nm3),.int .i64 vk3,.int .i64 vn3,.string (str8 vs3),.slice aa3 nn3 cc3]) (by simp[results,Tryz.results280,go_sem,kc]) rfl ⟨_,rfl,HUY.out,HYR.out,HYF.out⟩
theorem and_any (F n:Nat) (p:Pa Ex) (hp:RdsE F (Enough n) 233 p) (hN:Nice false F p):RdsE F (Enough n) 186 (rowP F p andsB):=fun g r w h hE=>by
 have hgw:=h.lt
 obtain⟨W,hW,hbW,hzW,hcW⟩:=box8 w zBox
 have HCW:=hid hcW
 have HF:=hid (Spares.of_new (S:=fun k=>k=g) hbW)
 have HR:Hid (Calls Tryz.prog 185 #[.pointer (some ⟨g,0,none⟩),.func (.func 233) #[.pointer (some ⟨g,0,none⟩)] #[],.slice (some ⟨W.heap.size,0,none⟩) 1 1] (W.alloc (.cells #[.string ⟨#[65,78,68]⟩,.int .i64 2] 155)) fun e w'=>∃u,e = .returned u∧ExV (fun b=>W.heap.size≤b) w' (rowP F p andsB r).1 u∧RdAt F w' g (rowP F p andsB r).2∧Fr g W w') :=
  hid (row_new F n 233 p hp hN (enters_of Tryz.func233 (by kernel_rfl) rfl) andsB (by decide) (by decide) g r W (h.below hbW) hE)
 generalize (rowP F p andsB r).1=y1 at HR ⊢
 generalize (rowP F p andsB r).2=y2 at HR ⊢
 clear h hcW hbW hp hN hE
 go_enter Tryz.func186,Tryz.ntmps186
 go_wp2_with fail
 try rw[hW]
 clear hW
 refine HR.out.mono ?_
 rintro e w1 ⟨u,rfl,hu,hr1,hf1⟩
 have HU:=hid hu
 obtain⟨k3,op3,tb3,nm3,vk3,vn3,vs3,ys3,aa3,nn3,cc3,_,rfl,_⟩:=hu
 have HB:=hid ((hf1.block w.heap.size hzW (by omega)).trans HCW.out)
 have HR1:=hid hr1
 have HF1:=hid (HF.out.then hf1)
 clear hr1 hf1 HR
 go_wp2_with (first
  | (
   refine wpList_store_box rfl (.tmp 2) (.tmp 8) rfl w.heap.size rfl k3 op3 vk3 vn3 (str8 tb3) (str8 nm3) (str8 vs3) aa3 nn3 cc3 rfl HB.out (Nat.le_refl _) hgw HR1.out HF1.out ?_
   intro Y hYB hYs hYR hYF
   have HYB:=hid hYB
   have HUY:=hid (HU.out.to (T:=fun b=>w.heap.size≤b) hYs (fun b hb _=>⟨by omega,by omega⟩))
   have HYR:=hid hYR
   have HYF:=hid hYF
   clear hYB hYs hYR hYF)
  | fail)
 have kc:=cells8 HYB.out
 exact bodyPost_ret (v:=.agg #[.int .i64 k3,.int .i64 op3,.string (str8 tb3),.string (str8 nm3),.int .i64 vk3,.int .i64 vn3,.string (str8 vs3),.slice aa3 nn3 cc3]) (by simp[results,Tryz.results186,go_sem,kc]) rfl ⟨_,rfl,HUY.out,HYR.out,HYF.out⟩
theorem expr_any (F n:Nat) (p:Pa Ex) (hp:RdsE F (Enough n) 186 p) (hN:Nice false F p):RdsE F (Enough n) 116 (rowP F p orsB):=fun g r w h hE=>by
 have hgw:=h.lt
 obtain⟨W,hW,hbW,hzW,hcW⟩:=box8 w zBox
 have HCW:=hid hcW
 have HF:=hid (Spares.of_new (S:=fun k=>k=g) hbW)
 have HR:Hid (Calls Tryz.prog 185 #[.pointer (some ⟨g,0,none⟩),.func (.func 186) #[.pointer (some ⟨g,0,none⟩)] #[],.slice (some ⟨W.heap.size,0,none⟩) 1 1] (W.alloc (.cells #[.string ⟨#[79,82]⟩,.int .i64 1] 155)) fun e w'=>∃u,e = .returned u∧ExV (fun b=>W.heap.size≤b) w' (rowP F p orsB r).1 u∧RdAt F w' g (rowP F p orsB r).2∧Fr g W w') :=
  hid (row_new F n 186 p hp hN (enters_of Tryz.func186 (by kernel_rfl) rfl) orsB (by decide) (by decide) g r W (h.below hbW) hE)
 generalize (rowP F p orsB r).1=y1 at HR ⊢
 generalize (rowP F p orsB r).2=y2 at HR ⊢
 clear h hcW hbW hp hN hE
 go_enter Tryz.func116,Tryz.ntmps116
 go_wp2_with fail
 try rw[hW]
 clear hW
 refine HR.out.mono ?_
 rintro e w1 ⟨u,rfl,hu,hr1,hf1⟩
 have HU:=hid hu
 obtain⟨k3,op3,tb3,nm3,vk3,vn3,vs3,ys3,aa3,nn3,cc3,_,rfl,_⟩:=hu
 have HB:=hid ((hf1.block w.heap.size hzW (by omega)).trans HCW.out)
 have HR1:=hid hr1
 have HF1:=hid (HF.out.then hf1)
 clear hr1 hf1 HR
 go_wp2_with (first
  | (
   refine wpList_store_box rfl (.tmp 2) (.tmp 8) rfl w.heap.size rfl k3 op3 vk3 vn3 (str8 tb3) (str8 nm3) (str8 vs3) aa3 nn3 cc3 rfl HB.out (Nat.le_refl _) hgw HR1.out HF1.out ?_
   intro Y hYB hYs hYR hYF
   have HYB:=hid hYB
   have HUY:=hid (HU.out.to (T:=fun b=>w.heap.size≤b) hYs (fun b hb _=>⟨by omega,by omega⟩))
   have HYR:=hid hYR
   have HYF:=hid hYF
   clear hYB hYs hYR hYF)
  | fail)
 have kc:=cells8 HYB.out
 exact bodyPost_ret (v:=.agg #[.int .i64 k3,.int .i64 op3,.string (str8 tb3),.string (str8 nm3),.int .i64 vk3,.int .i64 vn3,.string (str8 vs3),.slice aa3 nn3 cc3]) (by simp[results,Tryz.results116,go_sem,kc]) rfl ⟨_,rfl,HUY.out,HYR.out,HYF.out⟩
theorem not_yes {nt test:Pa Ex} {r:Rd} (h:isR [78,79,84] r=true):notP nt test r=(exOf 4 (deepP nt (nextR r)).1,(deepP nt (nextR r)).2):=by
 unfold notP ifP bindP retP
 rw[if_pos h]
theorem not_no {nt test:Pa Ex} {r:Rd} (h:isR [78,79,84] r=false):notP nt test r=test r:=by
 unfold notP ifP
 rw[if_neg (by rw[h];exact Bool.false_ne_true)]
theorem not_any (F n:Nat) (pn pt:Pa Ex) (hn:RdsE F (Enough n) 233 pn) (hNn:Nice false F pn) (ht:RdsE F (Enough (n+1)) 264 pt):RdsE F (Enough (n+1)) 233 (notP pn pt):=fun g r w h hE=>by
 have hgw:=h.lt
 have hG:=h.good
 obtain⟨W,hW,hbW,hzW,hcW⟩:=box8 w zBox
 have HCW:=hid hcW
 have HF:=hid (Spares.of_new (S:=fun k=>k=g) hbW)
 have HH:=hid (h.below hbW)
 cases hi:isR [78,79,84] r with
 |
  false =>
  rw[not_no hi]
  have HS:Hid (Calls Tryz.prog 118 #[.pointer (some ⟨g,0,none⟩),.string ⟨#[78,79,84]⟩] W fun e w'=>e = .returned (.bool false)∧RdAt F w' g r∧Fr g W w'):=hid (skip_no F g r W HH.out [78,79,84] hi)
  have HT:=hid (fun V (hV:RdAt F V g r)=>ht g r V hV hE)
  generalize (pt r).1=y1 at HT ⊢
  generalize (pt r).2=y2 at HT ⊢
  clear h hcW hbW hn hNn ht hE hi hG
  go_enter Tryz.func233,Tryz.ntmps233
  go_wp2_with fail
  try rw[hW]
  clear hW
  refine HS.out.mono ?_
  rintro e w1 ⟨rfl,hr1,hf1⟩
  have hz1:=hf1.size
  have HB1:=hid ((hf1.block w.heap.size hzW (by omega)).trans HCW.out)
  have HT1:=hid (HT.out w1 hr1)
  have HF1:=hid (HF.out.then hf1)
  clear hr1 hf1 HS HT
  go_wp2_with fail
  refine HT1.out.mono ?_
  rintro e w2 ⟨u,rfl,hu,hr2,hf2⟩
  have HU:=hid hu
  obtain⟨k3,op3,tb3,nm3,vk3,vn3,vs3,ys3,aa3,nn3,cc3,_,rfl,_⟩:=hu
  have HB:=hid ((hf2.block w.heap.size (by omega) (by omega)).trans HB1.out)
  have HR2:=hid hr2
  have HF2:=hid (HF1.out.then hf2)
  clear hr2 hf2 HT1
  go_wp2_with (first
   | (
    refine wpList_store_box rfl (.tmp 2) (.tmp 11) rfl w.heap.size rfl k3 op3 vk3 vn3 (str8 tb3) (str8 nm3) (str8 vs3) aa3 nn3 cc3 rfl HB.out (Nat.le_refl _) hgw HR2.out HF2.out ?_
    intro Y hYB hYs hYR hYF
    have HYB:=hid hYB
    have HUY:=hid (HU.out.to (T:=fun b=>w.heap.size≤b) hYs (fun b hb _=>⟨by omega,by omega⟩))
    have HYR:=hid hYR
    have HYF:=hid hYF
    clear hYB hYs hYR hYF)
   | fail)
  have kc:=cells8 HYB.out
  exact bodyPost_ret (v:=.agg #[.int .i64 k3,.int .i64 op3,.string (str8 tb3),.string (str8 nm3),.int .i64 vk3,.int .i64 vn3,.string (str8 vs3),.slice aa3 nn3 cc3]) (by simp[results,Tryz.results233,go_sem,kc]) rfl ⟨_,rfl,HUY.out,HYR.out,HYF.out⟩
 |
  true =>
  rw[not_yes hi]
  have hb:=is_ok hi
  have hE1:Enough (n+1) (nextR r):=hE.next
  have HS:Hid (Calls Tryz.prog 118 #[.pointer (some ⟨g,0,none⟩),.string ⟨#[78,79,84]⟩] W fun e w'=>e = .returned (.bool true)∧RdAt F w' g (nextR r)∧Fr g W w'):=hid (skip_yes F g r W HH.out [78,79,84] hi)
  have HD:=hid (fun V (hV:RdAt F V g (nextR r))=>deeper_any F n 233 pn hn hNn (enters_of Tryz.func233 (by kernel_rfl) rfl) g (nextR r) V hV hE1 hb)
  dsimp only
  generalize (deepP pn (nextR r)).1=y1 at HD ⊢
  generalize (deepP pn (nextR r)).2=y2 at HD ⊢
  clear h hcW hbW hn hNn ht hE hE1 hi hG hb
  go_enter Tryz.func233,Tryz.ntmps233
  go_wp2_with fail
  try rw[hW]
  clear hW
  refine HS.out.mono ?_
  rintro e w1 ⟨rfl,hr1,hf1⟩
  have hz1:=hf1.size
  have HB1:=hid ((hf1.block w.heap.size hzW (by omega)).trans HCW.out)
  have HD1:=hid (HD.out w1 hr1)
  have HF1:=hid (HF.out.then hf1)
  clear hr1 hf1 HS HD
  go_wp2_with fail
  refine HD1.out.mono ?_
  rintro e w2 ⟨u,rfl,hu,hr2,hf2⟩
  have hz2:=hf2.size
  have HO:=hid (of_any (fun b=>w1.heap.size≤b) 4 y1 u w2 (fun b hb=>by omega) hu)
  obtain⟨k2,op2,tb2,nm2,vk2,vn2,vs2,ys2,aa2,nn2,cc2,_,rfl,_⟩:=hu
  have HB2:=hid ((hf2.block w.heap.size (by omega) (by omega)).trans HB1.out)
  have HR2:=hid hr2
  have HF2:=hid (HF1.out.then hf2)
  clear hr2 hf2 HD1
  go_wp2_with fail
  refine HO.out.mono ?_
  rintro e w3 ⟨u,rfl,hu,hb3⟩
  have HU:=hid hu
  obtain⟨k3,op3,tb3,nm3,vk3,vn3,vs3,ys3,aa3,nn3,cc3,_,rfl,_⟩:=hu
  have HB:=hid ((hb3.block w.heap.size (by omega)).trans HB2.out)
  have HR3:=hid (HR2.out.below hb3)
  have HF3:=hid (HF2.out.thenNew hb3)
  clear hb3 HO
  go_wp2_with (first
   | (
    refine wpList_store_box rfl (.tmp 2) (.tmp 9) rfl w.heap.size rfl k3 op3 vk3 vn3 (str8 tb3) (str8 nm3) (str8 vs3) aa3 nn3 cc3 rfl HB.out (Nat.le_refl _) hgw HR3.out HF3.out ?_
    intro Y hYB hYs hYR hYF
    have HYB:=hid hYB
    have HUY:=hid (HU.out.to (T:=fun b=>w.heap.size≤b) hYs (fun b hb _=>⟨by omega,by omega⟩))
    have HYR:=hid hYR
    have HYF:=hid hYF
    clear hYB hYs hYR hYF)
   | fail)
  have kc:=cells8 HYB.out
  exact bodyPost_ret (v:=.agg #[.int .i64 k3,.int .i64 op3,.string (str8 tb3),.string (str8 nm3),.int .i64 vk3,.int .i64 vn3,.string (str8 vs3),.slice aa3 nn3 cc3]) (by simp[results,Tryz.results233,go_sem,kc]) rfl ⟨_,rfl,HUY.out,HYR.out,HYF.out⟩
end Go.Proofs.YtaaggohjmhifbaaGreatDoor
