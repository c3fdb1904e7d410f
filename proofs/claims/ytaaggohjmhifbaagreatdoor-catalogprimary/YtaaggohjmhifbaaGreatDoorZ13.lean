/- Packed for the hand-in: PLit PExpr -/
import Derived.Test.YtaaggohjmhifbaaGreatDoorZ11
import Derived.Test.YtaaggohjmhifbaaGreatDoorZ12
namespace Go.Proofs.YtaaggohjmhifbaaGreatDoor
open Go.RowKit Go.Shelf
set_option linter.unusedSimpArgs false
set_option linter.unusedVariables false
set_option maxRecDepth 20000
set_option maxHeartbeats 8000000
theorem IB {w:World} {b:Nat} {a0 a1 a2:Value} {t:TypeId} (h:w.heap[b]?=some (.cells #[a0,a1,a2] t)) (v0 v1 v2:Value) :
  ((w.setCell ⟨b,0,none⟩ v0).setCell ⟨b,1,none⟩ v1).setCell ⟨b,2,none⟩ v2=w.setRow b #[v0,v1,v2]:=by
 have q : ∀cs,(w.setRow b cs).heap[b]?=some (.cells cs t):=fun cs=>setRow_heap w b _ cs t _ h
 rw[setCell_eq_setRow w b 0 _ t _ v0 h,setCell_eq_setRow _ b 1 _ t _ v1 (q _),setRow_setRow,setCell_eq_setRow _ b 2 _ t _ v2 (q _),setRow_setRow]
 simp only[List.setIfInBounds_toArray,List.set_cons_zero,List.set_cons_succ]
theorem bI {w:World} {g:Nat} {a b c:Value} {t:TypeId} (h:w.heap[g]?=some (.cells #[a,b,c] t)) :
  w.cell? ⟨g,0,none⟩=some a∧w.cell? ⟨g,1,none⟩=some b∧w.cell? ⟨g,2,none⟩=some c∧∀i,w.frozen? ⟨g,i,none⟩=false :=
 ⟨by rw[aC _ _ _ _ _ _ h];rfl,by rw[aC _ _ _ _ _ _ h];rfl,by rw[aC _ _ _ _ _ _ h];rfl,fun i=>by simp[World.frozen?,h]⟩
theorem E9 {F:Nat} {r:Rd} (h:Good F r):0≤(ji r).1∧(ji r).1≤9223372036854775807:=by
 unfold ji
 split
 ·rename_i hk
  have hb:=rD hk (by decide)
  have hm:bH r∈r.ts:=by
   unfold bH at hk ⊢
   rw[if_pos hb] at hk ⊢
   cases hr:r.ts with
   | nil=>rw[hr] at hk;exact absurd hk (by decide)
   | cons a l=>simp
  exact h.nums _ hm
 ·simp
theorem xZ (F g:Nat) (r:Rd) (w:World) (h:aB F w g r) :
  Calls Tryz.prog 232 #[.pointer (some ⟨g,0,none⟩)] w fun e w'=>e = .returned (.agg #[.int .i64 (jI r).1.k,.int .i64 (jI r).1.n,.string (aj (jI r).1.s)])∧aB F w' g (jI r).2∧Fr g w w':=by
 have hgw:=h.lt
 have hG:=h.good
 obtain⟨W,hW,hbW,hzW,hcW⟩:=aQ w (.cells #[.int .i64 0,.int .i64 0,.string ⟨#[]⟩] 128)
 have HCW:=hid hcW
 have HH:=hid (h.below hbW)
 have HF:=hid (ay.aI (S:=fun k=>k=g) hbW)
 have HN:=hid (pz F g r W HH.out)
 obtain⟨Y,hYe⟩:∃Y,jI r=Y:=⟨_,rfl⟩
 have hlit:jI r=if dX [78,85,76,76] r=true then (zV,nextR r) else if (bH r).k=4 then (⟨2,0,(bH r).s⟩,nextR r) else if dX [45] r=true then (⟨1,-(ji (nextR r)).1,[]⟩,(ji (nextR r)).2) else (⟨1,(ji r).1,[]⟩,(ji r).2):=by
  unfold jI gV aF rC bg
  by_cases h1:dX [78,85,76,76] r=true
  ·rw[if_pos h1,if_pos h1]
  ·rw[if_neg h1,if_neg h1]
   by_cases h2:(bH r).k=4
   ·rw[if_pos h2,if_pos h2]
   ·rw[if_neg h2,if_neg h2]
 rw[hYe] at hlit ⊢
 clear hYe
 by_cases h1:dX [78,85,76,76] r=true
 ·rw[if_pos h1] at hlit
  subst hlit
  have HSK:Hid (∀V,aB F V g r→Calls Tryz.prog 118 #[.pointer (some ⟨g,0,none⟩),.string ⟨#[78,85,76,76]⟩] V fun e w'=>e = .returned (.bool true)∧aB F w' g (nextR r)∧Fr g V w'):=hid (fun V hV=>eX F g r V hV [78,85,76,76] h1)
  generalize bH r=x at HN
  obtain⟨xk,xs,xn,xp⟩:=x
  dsimp only at HN
  clear h hcW hbW h1 hG
  go_enter Tryz.func232,Tryz.ntmps232
  go_wp2_with fail
  try rw[hW]
  clear hW
  refine HN.out.mono ?_
  rintro e w1 ⟨rfl,hb1⟩
  obtain⟨V,hV,hbV,hzV,hcV⟩:=aQ w1 (.cells #[.int .i64 xk,.string (aj xs),.int .i64 xn,.int .i64 xp] 162)
  have hz1:=hb1.size
  have HRV:=hid ((HH.out.below hb1).below hbV)
  have HFV:=hid ((HF.out.aM hb1).aM hbV)
  have HBV:=hid ((hbV.block _ (by omega)).trans ((hb1.block _ hzW).trans HCW.out))
  have HTV:=hid hcV
  have HS:=hid (HSK.out V HRV.out)
  clear hb1 hbV hcV HN HSK
  go_wp2_with fail
  try rw[hV]
  clear hV
  refine HS.out.mono ?_
  rintro e w2 ⟨rfl,hr2,hf2⟩
  have hz2:=hf2.size
  have HB2:=hid ((hf2.block w.heap.size (by omega) (by omega)).trans HBV.out)
  have ht2:=(hf2.block w1.heap.size hzV (by omega)).trans HTV.out
  have HR2:=hid hr2
  have HF2:=hid (HFV.out.then hf2)
  clear hr2 hf2 HS
  clear ht2
  have kb:=bI HB2.out
  go_wp2
  rw[IB HB2.out]
  obtain⟨Z,hZ,hZB,hZs,hZR,hZF⟩:=fJ (w:=w) #[.int .i64 0,.int .i64 0,.string ⟨#[]⟩] HB2.out (Nat.le_refl _) hgw HR2.out HF2.out
  rw[hZ]
  have kc:=bI hZB
  exact bodyPost_ret (v:=.agg #[.int .i64 0,.int .i64 0,.string ⟨#[]⟩]) (by simp[results,Tryz.results232,go_sem,kc]) rfl ⟨rfl,hZR,hZF⟩
 ·rw[if_neg h1] at hlit
  have HSK:Hid (∀V,aB F V g r→Calls Tryz.prog 118 #[.pointer (some ⟨g,0,none⟩),.string ⟨#[78,85,76,76]⟩] V fun e w'=>e = .returned (.bool false)∧aB F w' g r∧Fr g V w'):=hid (fun V hV=>fK F g r V hV [78,85,76,76] (by simpa using h1))
  by_cases h2:(bH r).k=4
  ·rw[if_pos h2] at hlit
   subst hlit
   have HX:=hid (fun V (hV:aB F V g r)=>om F g r V hV (rD h2 (by decide)) (by rw[h2];decide))
   generalize bH r=x at HN h2 ⊢
   obtain⟨xk,xs,xn,xp⟩:=x
   dsimp only at HN h2 ⊢
   subst h2
   clear h hcW hbW h1 hG
   go_enter Tryz.func232,Tryz.ntmps232
   go_wp2_with fail
   try rw[hW]
   clear hW
   refine HN.out.mono ?_
   rintro e w1 ⟨rfl,hb1⟩
   obtain⟨V,hV,hbV,hzV,hcV⟩:=aQ w1 (.cells #[.int .i64 4,.string (aj xs),.int .i64 xn,.int .i64 xp] 162)
   have hz1:=hb1.size
   have HRV:=hid ((HH.out.below hb1).below hbV)
   have HFV:=hid ((HF.out.aM hb1).aM hbV)
   have HBV:=hid ((hbV.block _ (by omega)).trans ((hb1.block _ hzW).trans HCW.out))
   have HTV:=hid hcV
   have HS:=hid (HSK.out V HRV.out)
   clear hb1 hbV hcV HN HSK
   go_wp2_with fail
   try rw[hV]
   clear hV
   refine HS.out.mono ?_
   rintro e w2 ⟨rfl,hr2,hf2⟩
   have hz2:=hf2.size
   have HB2:=hid ((hf2.block w.heap.size (by omega) (by omega)).trans HBV.out)
   have ht2:=(hf2.block w1.heap.size hzV (by omega)).trans HTV.out
   have HR2:=hid hr2
   have HF2:=hid (HFV.out.then hf2)
   clear hr2 hf2 HS
   have kt:=bA ht2
   have HT2:=hid ht2
   clear ht2
   go_wp2_with fail
   refine (HX.out w2 HR2.out).mono ?_
   rintro e w3 ⟨rfl,hr3,hf3⟩
   have HB3:=hid ((hf3.block w.heap.size (by omega) (by omega)).trans HB2.out)
   have HR3:=hid hr3
   have HF3:=hid (HF2.out.then hf3)
   have kt3:=bA ((hf3.block w1.heap.size (by omega) (by omega)).trans HT2.out)
   have kb:=bI HB3.out
   clear hr3 hf3 kt
   go_wp2
   rw[IB HB3.out]
   obtain⟨Z,hZ,hZB,hZs,hZR,hZF⟩:=fJ (w:=w) #[.int .i64 2,.int .i64 0,.string (aj xs)] HB3.out (Nat.le_refl _) hgw HR3.out HF3.out
   rw[hZ]
   have kc:=bI hZB
   exact bodyPost_ret (v:=.agg #[.int .i64 2,.int .i64 0,.string (aj xs)]) (by simp[results,Tryz.results232,go_sem,kc]) rfl ⟨rfl,hZR,hZF⟩
  ·rw[if_neg h2] at hlit
   have h2':((bH r).k==4)=false:=by simpa using h2
   by_cases h3:dX [45] r=true
   ·rw[if_pos h3] at hlit
    subst hlit
    have HSM:Hid (∀V,aB F V g r→Calls Tryz.prog 118 #[.pointer (some ⟨g,0,none⟩),.string ⟨#[45]⟩] V fun e w'=>e = .returned (.bool true)∧aB F w' g (nextR r)∧Fr g V w'):=hid (fun V hV=>eX F g r V hV [45] h3)
    have HX:=hid (fun V (hV:aB F V g (nextR r))=>nA F g (nextR r) V hV)
    have hbd:=E9 (hG.next (j4 h3) (mI h3))
    generalize (ji (nextR r)).1=m at HX hbd ⊢
    generalize (ji (nextR r)).2=r3 at HX ⊢
    have hneg:IntKind.i64.wrap (-m) = -m:=by rw[IntKind.wrap_i64];omega
    generalize bH r=x at HN h2'
    obtain⟨xk,xs,xn,xp⟩:=x
    dsimp only at HN h2'
    clear h hcW hbW h1 h2 h3 hG
    go_enter Tryz.func232,Tryz.ntmps232
    go_wp2_with fail
    try rw[hW]
    clear hW
    refine HN.out.mono ?_
    rintro e w1 ⟨rfl,hb1⟩
    obtain⟨V,hV,hbV,hzV,hcV⟩:=aQ w1 (.cells #[.int .i64 xk,.string (aj xs),.int .i64 xn,.int .i64 xp] 162)
    have hz1:=hb1.size
    have HRV:=hid ((HH.out.below hb1).below hbV)
    have HFV:=hid ((HF.out.aM hb1).aM hbV)
    have HBV:=hid ((hbV.block _ (by omega)).trans ((hb1.block _ hzW).trans HCW.out))
    have HTV:=hid hcV
    have HS:=hid (HSK.out V HRV.out)
    clear hb1 hbV hcV HN HSK
    go_wp2_with fail
    try rw[hV]
    clear hV
    refine HS.out.mono ?_
    rintro e w2 ⟨rfl,hr2,hf2⟩
    have hz2:=hf2.size
    have HB2:=hid ((hf2.block w.heap.size (by omega) (by omega)).trans HBV.out)
    have ht2:=(hf2.block w1.heap.size hzV (by omega)).trans HTV.out
    have HR2:=hid hr2
    have HF2:=hid (HFV.out.then hf2)
    clear hr2 hf2 HS
    have kt:=bA ht2
    clear ht2
    go_wp2_with fail
    refine (HSM.out w2 HR2.out).mono ?_
    rintro e w3 ⟨rfl,hr3,hf3⟩
    have hz3:=hf3.size
    have HB3:=hid ((hf3.block w.heap.size (by omega) (by omega)).trans HB2.out)
    have HR3:=hid hr3
    have HF3:=hid (HF2.out.then hf3)
    clear hr3 hf3 kt
    go_wp2_with fail
    refine (HX.out w3 HR3.out).mono ?_
    rintro e w4 ⟨rfl,hr4,hf4⟩
    have HB4:=hid ((hf4.block w.heap.size (by omega) (by omega)).trans HB3.out)
    have HR4:=hid hr4
    have HF4:=hid (HF3.out.then hf4)
    have kb:=bI HB4.out
    clear hr4 hf4
    go_wp2
    rw[IB HB4.out]
    obtain⟨Z,hZ,hZB,hZs,hZR,hZF⟩:=fJ (w:=w) #[.int .i64 1,.int .i64 (-m),.string ⟨#[]⟩] HB4.out (Nat.le_refl _) hgw HR4.out HF4.out
    rw[hZ]
    have kc:=bI hZB
    exact bodyPost_ret (v:=.agg #[.int .i64 1,.int .i64 (-m),.string ⟨#[]⟩]) (by simp[results,Tryz.results232,go_sem,kc]) rfl ⟨rfl,hZR,hZF⟩
   ·rw[if_neg h3] at hlit
    subst hlit
    have HSM:Hid (∀V,aB F V g r→Calls Tryz.prog 118 #[.pointer (some ⟨g,0,none⟩),.string ⟨#[45]⟩] V fun e w'=>e = .returned (.bool false)∧aB F w' g r∧Fr g V w'):=hid (fun V hV=>fK F g r V hV [45] (by simpa using h3))
    have HX:=hid (fun V (hV:aB F V g r)=>nA F g r V hV)
    generalize (ji r).1=m at HX ⊢
    generalize (ji r).2=r3 at HX ⊢
    generalize bH r=x at HN h2'
    obtain⟨xk,xs,xn,xp⟩:=x
    dsimp only at HN h2'
    clear h hcW hbW h1 h2 h3 hG
    go_enter Tryz.func232,Tryz.ntmps232
    go_wp2_with fail
    try rw[hW]
    clear hW
    refine HN.out.mono ?_
    rintro e w1 ⟨rfl,hb1⟩
    obtain⟨V,hV,hbV,hzV,hcV⟩:=aQ w1 (.cells #[.int .i64 xk,.string (aj xs),.int .i64 xn,.int .i64 xp] 162)
    have hz1:=hb1.size
    have HRV:=hid ((HH.out.below hb1).below hbV)
    have HFV:=hid ((HF.out.aM hb1).aM hbV)
    have HBV:=hid ((hbV.block _ (by omega)).trans ((hb1.block _ hzW).trans HCW.out))
    have HTV:=hid hcV
    have HS:=hid (HSK.out V HRV.out)
    clear hb1 hbV hcV HN HSK
    go_wp2_with fail
    try rw[hV]
    clear hV
    refine HS.out.mono ?_
    rintro e w2 ⟨rfl,hr2,hf2⟩
    have hz2:=hf2.size
    have HB2:=hid ((hf2.block w.heap.size (by omega) (by omega)).trans HBV.out)
    have ht2:=(hf2.block w1.heap.size hzV (by omega)).trans HTV.out
    have HR2:=hid hr2
    have HF2:=hid (HFV.out.then hf2)
    clear hr2 hf2 HS
    have kt:=bA ht2
    clear ht2
    go_wp2_with fail
    refine (HSM.out w2 HR2.out).mono ?_
    rintro e w3 ⟨rfl,hr3,hf3⟩
    have hz3:=hf3.size
    have HB3:=hid ((hf3.block w.heap.size (by omega) (by omega)).trans HB2.out)
    have HR3:=hid hr3
    have HF3:=hid (HF2.out.then hf3)
    clear hr3 hf3 kt
    go_wp2_with fail
    refine (HX.out w3 HR3.out).mono ?_
    rintro e w4 ⟨rfl,hr4,hf4⟩
    have HB4:=hid ((hf4.block w.heap.size (by omega) (by omega)).trans HB3.out)
    have HR4:=hid hr4
    have HF4:=hid (HF3.out.then hf4)
    have kb:=bI HB4.out
    clear hr4 hf4
    go_wp2
    rw[IB HB4.out]
    obtain⟨Z,hZ,hZB,hZs,hZR,hZF⟩:=fJ (w:=w) #[.int .i64 1,.int .i64 m,.string ⟨#[]⟩] HB4.out (Nat.le_refl _) hgw HR4.out HF4.out
    rw[hZ]
    have kc:=bI hZB
    exact bodyPost_ret (v:=.agg #[.int .i64 1,.int .i64 m,.string ⟨#[]⟩]) (by simp[results,Tryz.results232,go_sem,kc]) rfl ⟨rfl,hZR,hZF⟩
theorem uz (F:Nat) (n fb:Nat) (p:Pa Ex) (hp:jd F (bX n) fb p) (hN:bE false F p) (eg : ∀args w,(callFunc fb args).run Tryz.prog w = .ok (.enter fb args) w)
  (ops:List (List UInt8 × Int)) (ho : ∀c∈ops,c.2≠0) (hl:ops.length≤1000) (g:Nat) (r:Rd) (W:World) (h:aB F W g r) (hE:bX n r) :
  Calls Tryz.prog 185 #[.pointer (some ⟨g,0,none⟩),.func (.func fb) #[.pointer (some ⟨g,0,none⟩)] #[],.slice (some ⟨W.heap.size,0,none⟩) ops.length ops.length] (W.alloc (.cells (ops.flatMap fun t=>[Value.string (aj t.1),.int .i64 t.2]).toArray 155)) fun e w'=>∃u,e = .returned u∧jU (fun b=>W.heap.size≤b) w' (rowP F p ops r).1 u∧aB F w' g (rowP F p ops r).2∧Fr g W w':=by
 have hb:Below W.heap.size W (W.alloc (.cells (ops.flatMap fun t=>[Value.string (aj t.1),.int .i64 t.2]).toArray 155)):=(Below.refl _ _).alloc (Nat.le_refl _) _
 refine (JI F n fb p hp hN eg ops ho g r _ (h.below hb) hE _ ⟨_,_,rfl,hl,fun _=>⟨_,rfl,h.lt,fun j t ht=>?_⟩⟩).mono ?_
 ·rw[cell_of_row _ _ _ _ _ _ (heap_alloc_new W _),cell_of_row _ _ _ _ _ _ (heap_alloc_new W _)]
  have:=yt ops j t ht
  simpa using this
 ·rintro e w' ⟨u,rfl,h0,h1,h2⟩
  exact⟨u,rfl,h0.to (R:=fun _=>False) (ay.refl _ _) (fun b hb' _=>⟨id,Nat.le_trans hb.size hb'⟩),h1,(ay.aI (S:=fun k=>k=g) hb).then h2⟩
theorem F9 (F n:Nat) (p:Pa Ex) (hp:jd F (bX n) 311 p) (hN:bE false F p):jd F (bX n) 296 (rowP F p qR):=fun g r w h hE=>by
 have hgw:=h.lt
 obtain⟨W,hW,hbW,hzW,hcW⟩:=aQ w tZ
 have HCW:=hid hcW
 have HF:=hid (ay.aI (S:=fun k=>k=g) hbW)
 have HR:Hid (Calls Tryz.prog 185 #[.pointer (some ⟨g,0,none⟩),.func (.func 311) #[.pointer (some ⟨g,0,none⟩)] #[],.slice (some ⟨W.heap.size,0,none⟩) 3 3] (W.alloc (.cells #[.string ⟨#[42]⟩,.int .i64 11,.string ⟨#[47]⟩,.int .i64 12,.string ⟨#[37]⟩,.int .i64 13] 155)) fun e w'=>∃u,e = .returned u∧jU (fun b=>W.heap.size≤b) w' (rowP F p qR r).1 u∧aB F w' g (rowP F p qR r).2∧Fr g W w') :=
  hid (uz F n 311 p hp hN (enters_of Tryz.func311 (by kernel_rfl) rfl) qR (by decide) (by decide) g r W (h.below hbW) hE)
 generalize (rowP F p qR r).1=y1 at HR ⊢
 generalize (rowP F p qR r).2=y2 at HR ⊢
 clear h hcW hbW hp hN hE
 go_enter Tryz.func296,Tryz.ntmps296
 go_wp2_with fail
 try rw[hW]
 clear hW
 refine HR.out.mono ?_
 rintro e w1 ⟨u,rfl,hu,hr1,hf1⟩
 have HU:=hid hu
 obtain⟨k3,op3,tb3,nm3,vk3,vn3,vs3,ys3,aa3,nn3,cc3,_,rfl,_⟩:=hu
 have HB:=hid ((hf1.block w.heap.size hzW (by omega)).trans HCW.out)
 have HR1:=hid hr1
 have HF1:=hid (HF.out.then hf1)
 clear hr1 hf1 HR
 go_wp2_with (first
  | (
   refine aS rfl (.tmp 2) (.tmp 10) rfl w.heap.size rfl k3 op3 vk3 vn3 (aj tb3) (aj nm3) (aj vs3) aa3 nn3 cc3 rfl HB.out (Nat.le_refl _) hgw HR1.out HF1.out ?_
   intro Y hYB hYs hYR hYF
   have HYB:=hid hYB
   have HUY:=hid (HU.out.to (T:=fun b=>w.heap.size≤b) hYs (fun b hb _=>⟨by omega,by omega⟩))
   have HYR:=hid hYR
   have HYF:=hid hYF
   clear hYB hYs hYR hYF)
  | fail)
 have kc:=aY HYB.out
 exact bodyPost_ret (v:=.agg #[.int .i64 k3,.int .i64 op3,.string (aj tb3),.string (aj nm3),.int .i64 vk3,.int .i64 vn3,.string (aj vs3),.slice aa3 nn3 cc3]) (by simp[results,Tryz.results296,go_sem,kc]) rfl ⟨_,rfl,HUY.out,HYR.out,HYF.out⟩
theorem IG (F n:Nat) (p:Pa Ex) (hp:jd F (bX n) 296 p) (hN:bE false F p):jd F (bX n) 280 (rowP F p rJ):=fun g r w h hE=>by
 have hgw:=h.lt
 obtain⟨W,hW,hbW,hzW,hcW⟩:=aQ w tZ
 have HCW:=hid hcW
 have HF:=hid (ay.aI (S:=fun k=>k=g) hbW)
 have HR:Hid (Calls Tryz.prog 185 #[.pointer (some ⟨g,0,none⟩),.func (.func 296) #[.pointer (some ⟨g,0,none⟩)] #[],.slice (some ⟨W.heap.size,0,none⟩) 2 2] (W.alloc (.cells #[.string ⟨#[43]⟩,.int .i64 9,.string ⟨#[45]⟩,.int .i64 10] 155)) fun e w'=>∃u,e = .returned u∧jU (fun b=>W.heap.size≤b) w' (rowP F p rJ r).1 u∧aB F w' g (rowP F p rJ r).2∧Fr g W w') :=
  hid (uz F n 296 p hp hN (enters_of Tryz.func296 (by kernel_rfl) rfl) rJ (by decide) (by decide) g r W (h.below hbW) hE)
 generalize (rowP F p rJ r).1=y1 at HR ⊢
 generalize (rowP F p rJ r).2=y2 at HR ⊢
 clear h hcW hbW hp hN hE
 go_enter Tryz.func280,Tryz.ntmps280
 go_wp2_with fail
 try rw[hW]
 clear hW
 refine HR.out.mono ?_
 rintro e w1 ⟨u,rfl,hu,hr1,hf1⟩
 have HU:=hid hu
 obtain⟨k3,op3,tb3,nm3,vk3,vn3,vs3,ys3,aa3,nn3,cc3,_,rfl,_⟩:=hu
 have HB:=hid ((hf1.block w.heap.size hzW (by omega)).trans HCW.out)
 have HR1:=hid hr1
 have HF1:=hid (HF.out.then hf1)
 clear hr1 hf1 HR
 go_wp2_with (first
  | (
   refine aS rfl (.tmp 2) (.tmp 9) rfl w.heap.size rfl k3 op3 vk3 vn3 (aj tb3) (aj nm3) (aj vs3) aa3 nn3 cc3 rfl HB.out (Nat.le_refl _) hgw HR1.out HF1.out ?_
   intro Y hYB hYs hYR hYF
   have HYB:=hid hYB
   have HUY:=hid (HU.out.to (T:=fun b=>w.heap.size≤b) hYs (fun b hb _=>⟨by omega,by omega⟩))
   have HYR:=hid hYR
   have HYF:=hid hYF
   clear hYB hYs hYR hYF)
  | fail)
 have kc:=aY HYB.out
 exact bodyPost_ret (v:=.agg #[.int .i64 k3,.int .i64 op3,.string (aj tb3),.string (aj nm3),.int .i64 vk3,.int .i64 vn3,.string (aj vs3),.slice aa3 nn3 cc3]) (by simp[results,Tryz.results280,go_sem,kc]) rfl ⟨_,rfl,HUY.out,HYR.out,HYF.out⟩
theorem I7 (F n:Nat) (p:Pa Ex) (hp:jd F (bX n) 233 p) (hN:bE false F p):jd F (bX n) 186 (rowP F p rE):=fun g r w h hE=>by
 have hgw:=h.lt
 obtain⟨W,hW,hbW,hzW,hcW⟩:=aQ w tZ
 have HCW:=hid hcW
 have HF:=hid (ay.aI (S:=fun k=>k=g) hbW)
 have HR:Hid (Calls Tryz.prog 185 #[.pointer (some ⟨g,0,none⟩),.func (.func 233) #[.pointer (some ⟨g,0,none⟩)] #[],.slice (some ⟨W.heap.size,0,none⟩) 1 1] (W.alloc (.cells #[.string ⟨#[65,78,68]⟩,.int .i64 2] 155)) fun e w'=>∃u,e = .returned u∧jU (fun b=>W.heap.size≤b) w' (rowP F p rE r).1 u∧aB F w' g (rowP F p rE r).2∧Fr g W w') :=
  hid (uz F n 233 p hp hN (enters_of Tryz.func233 (by kernel_rfl) rfl) rE (by decide) (by decide) g r W (h.below hbW) hE)
 generalize (rowP F p rE r).1=y1 at HR ⊢
 generalize (rowP F p rE r).2=y2 at HR ⊢
 clear h hcW hbW hp hN hE
 go_enter Tryz.func186,Tryz.ntmps186
 go_wp2_with fail
 try rw[hW]
 clear hW
 refine HR.out.mono ?_
 rintro e w1 ⟨u,rfl,hu,hr1,hf1⟩
 have HU:=hid hu
 obtain⟨k3,op3,tb3,nm3,vk3,vn3,vs3,ys3,aa3,nn3,cc3,_,rfl,_⟩:=hu
 have HB:=hid ((hf1.block w.heap.size hzW (by omega)).trans HCW.out)
 have HR1:=hid hr1
 have HF1:=hid (HF.out.then hf1)
 clear hr1 hf1 HR
 go_wp2_with (first
  | (
   refine aS rfl (.tmp 2) (.tmp 8) rfl w.heap.size rfl k3 op3 vk3 vn3 (aj tb3) (aj nm3) (aj vs3) aa3 nn3 cc3 rfl HB.out (Nat.le_refl _) hgw HR1.out HF1.out ?_
   intro Y hYB hYs hYR hYF
   have HYB:=hid hYB
   have HUY:=hid (HU.out.to (T:=fun b=>w.heap.size≤b) hYs (fun b hb _=>⟨by omega,by omega⟩))
   have HYR:=hid hYR
   have HYF:=hid hYF
   clear hYB hYs hYR hYF)
  | fail)
 have kc:=aY HYB.out
 exact bodyPost_ret (v:=.agg #[.int .i64 k3,.int .i64 op3,.string (aj tb3),.string (aj nm3),.int .i64 vk3,.int .i64 vn3,.string (aj vs3),.slice aa3 nn3 cc3]) (by simp[results,Tryz.results186,go_sem,kc]) rfl ⟨_,rfl,HUY.out,HYR.out,HYF.out⟩
theorem F7 (F n:Nat) (p:Pa Ex) (hp:jd F (bX n) 186 p) (hN:bE false F p):jd F (bX n) 116 (rowP F p yL):=fun g r w h hE=>by
 have hgw:=h.lt
 obtain⟨W,hW,hbW,hzW,hcW⟩:=aQ w tZ
 have HCW:=hid hcW
 have HF:=hid (ay.aI (S:=fun k=>k=g) hbW)
 have HR:Hid (Calls Tryz.prog 185 #[.pointer (some ⟨g,0,none⟩),.func (.func 186) #[.pointer (some ⟨g,0,none⟩)] #[],.slice (some ⟨W.heap.size,0,none⟩) 1 1] (W.alloc (.cells #[.string ⟨#[79,82]⟩,.int .i64 1] 155)) fun e w'=>∃u,e = .returned u∧jU (fun b=>W.heap.size≤b) w' (rowP F p yL r).1 u∧aB F w' g (rowP F p yL r).2∧Fr g W w') :=
  hid (uz F n 186 p hp hN (enters_of Tryz.func186 (by kernel_rfl) rfl) yL (by decide) (by decide) g r W (h.below hbW) hE)
 generalize (rowP F p yL r).1=y1 at HR ⊢
 generalize (rowP F p yL r).2=y2 at HR ⊢
 clear h hcW hbW hp hN hE
 go_enter Tryz.func116,Tryz.ntmps116
 go_wp2_with fail
 try rw[hW]
 clear hW
 refine HR.out.mono ?_
 rintro e w1 ⟨u,rfl,hu,hr1,hf1⟩
 have HU:=hid hu
 obtain⟨k3,op3,tb3,nm3,vk3,vn3,vs3,ys3,aa3,nn3,cc3,_,rfl,_⟩:=hu
 have HB:=hid ((hf1.block w.heap.size hzW (by omega)).trans HCW.out)
 have HR1:=hid hr1
 have HF1:=hid (HF.out.then hf1)
 clear hr1 hf1 HR
 go_wp2_with (first
  | (
   refine aS rfl (.tmp 2) (.tmp 8) rfl w.heap.size rfl k3 op3 vk3 vn3 (aj tb3) (aj nm3) (aj vs3) aa3 nn3 cc3 rfl HB.out (Nat.le_refl _) hgw HR1.out HF1.out ?_
   intro Y hYB hYs hYR hYF
   have HYB:=hid hYB
   have HUY:=hid (HU.out.to (T:=fun b=>w.heap.size≤b) hYs (fun b hb _=>⟨by omega,by omega⟩))
   have HYR:=hid hYR
   have HYF:=hid hYF
   clear hYB hYs hYR hYF)
  | fail)
 have kc:=aY HYB.out
 exact bodyPost_ret (v:=.agg #[.int .i64 k3,.int .i64 op3,.string (aj tb3),.string (aj nm3),.int .i64 vk3,.int .i64 vn3,.string (aj vs3),.slice aa3 nn3 cc3]) (by simp[results,Tryz.results116,go_sem,kc]) rfl ⟨_,rfl,HUY.out,HYR.out,HYF.out⟩
theorem IX {nt test:Pa Ex} {r:Rd} (h:dX [78,79,84] r=true):notP nt test r=(fT 4 (gI nt (nextR r)).1,(gI nt (nextR r)).2):=by
 unfold notP gV aF bg
 rw[if_pos h]
theorem KW {nt test:Pa Ex} {r:Rd} (h:dX [78,79,84] r=false):notP nt test r=test r:=by
 unfold notP gV
 rw[if_neg (by rw[h];exact Bool.false_ne_true)]
theorem I8 (F n:Nat) (pn pt:Pa Ex) (hn:jd F (bX n) 233 pn) (hNn:bE false F pn) (ht:jd F (bX (n+1)) 264 pt):jd F (bX (n+1)) 233 (notP pn pt):=fun g r w h hE=>by
 have hgw:=h.lt
 have hG:=h.good
 obtain⟨W,hW,hbW,hzW,hcW⟩:=aQ w tZ
 have HCW:=hid hcW
 have HF:=hid (ay.aI (S:=fun k=>k=g) hbW)
 have HH:=hid (h.below hbW)
 cases hi:dX [78,79,84] r with
 |
  false =>
  rw[KW hi]
  have HS:Hid (Calls Tryz.prog 118 #[.pointer (some ⟨g,0,none⟩),.string ⟨#[78,79,84]⟩] W fun e w'=>e = .returned (.bool false)∧aB F w' g r∧Fr g W w'):=hid (fK F g r W HH.out [78,79,84] hi)
  have HT:=hid (fun V (hV:aB F V g r)=>ht g r V hV hE)
  generalize (pt r).1=y1 at HT ⊢
  generalize (pt r).2=y2 at HT ⊢
  clear h hcW hbW hn hNn ht hE hi hG
  go_enter Tryz.func233,Tryz.ntmps233
  go_wp2_with fail
  try rw[hW]
  clear hW
  refine HS.out.mono ?_
  rintro e w1 ⟨rfl,hr1,hf1⟩
  have hz1:=hf1.size
  have HB1:=hid ((hf1.block w.heap.size hzW (by omega)).trans HCW.out)
  have HT1:=hid (HT.out w1 hr1)
  have HF1:=hid (HF.out.then hf1)
  clear hr1 hf1 HS HT
  go_wp2_with fail
  refine HT1.out.mono ?_
  rintro e w2 ⟨u,rfl,hu,hr2,hf2⟩
  have HU:=hid hu
  obtain⟨k3,op3,tb3,nm3,vk3,vn3,vs3,ys3,aa3,nn3,cc3,_,rfl,_⟩:=hu
  have HB:=hid ((hf2.block w.heap.size (by omega) (by omega)).trans HB1.out)
  have HR2:=hid hr2
  have HF2:=hid (HF1.out.then hf2)
  clear hr2 hf2 HT1
  go_wp2_with (first
   | (
    refine aS rfl (.tmp 2) (.tmp 11) rfl w.heap.size rfl k3 op3 vk3 vn3 (aj tb3) (aj nm3) (aj vs3) aa3 nn3 cc3 rfl HB.out (Nat.le_refl _) hgw HR2.out HF2.out ?_
    intro Y hYB hYs hYR hYF
    have HYB:=hid hYB
    have HUY:=hid (HU.out.to (T:=fun b=>w.heap.size≤b) hYs (fun b hb _=>⟨by omega,by omega⟩))
    have HYR:=hid hYR
    have HYF:=hid hYF
    clear hYB hYs hYR hYF)
   | fail)
  have kc:=aY HYB.out
  exact bodyPost_ret (v:=.agg #[.int .i64 k3,.int .i64 op3,.string (aj tb3),.string (aj nm3),.int .i64 vk3,.int .i64 vn3,.string (aj vs3),.slice aa3 nn3 cc3]) (by simp[results,Tryz.results233,go_sem,kc]) rfl ⟨_,rfl,HUY.out,HYR.out,HYF.out⟩
 |
  true =>
  rw[IX hi]
  have hb:=j4 hi
  have hE1:bX (n+1) (nextR r):=hE.next
  have HS:Hid (Calls Tryz.prog 118 #[.pointer (some ⟨g,0,none⟩),.string ⟨#[78,79,84]⟩] W fun e w'=>e = .returned (.bool true)∧aB F w' g (nextR r)∧Fr g W w'):=hid (eX F g r W HH.out [78,79,84] hi)
  have HD:=hid (fun V (hV:aB F V g (nextR r))=>qg F n 233 pn hn hNn (enters_of Tryz.func233 (by kernel_rfl) rfl) g (nextR r) V hV hE1 hb)
  dsimp only
  generalize (gI pn (nextR r)).1=y1 at HD ⊢
  generalize (gI pn (nextR r)).2=y2 at HD ⊢
  clear h hcW hbW hn hNn ht hE hE1 hi hG hb
  go_enter Tryz.func233,Tryz.ntmps233
  go_wp2_with fail
  try rw[hW]
  clear hW
  refine HS.out.mono ?_
  rintro e w1 ⟨rfl,hr1,hf1⟩
  have hz1:=hf1.size
  have HB1:=hid ((hf1.block w.heap.size hzW (by omega)).trans HCW.out)
  have HD1:=hid (HD.out w1 hr1)
  have HF1:=hid (HF.out.then hf1)
  clear hr1 hf1 HS HD
  go_wp2_with fail
  refine HD1.out.mono ?_
  rintro e w2 ⟨u,rfl,hu,hr2,hf2⟩
  have hz2:=hf2.size
  have HO:=hid (yw (fun b=>w1.heap.size≤b) 4 y1 u w2 (fun b hb=>by omega) hu)
  obtain⟨k2,op2,tb2,nm2,vk2,vn2,vs2,ys2,aa2,nn2,cc2,_,rfl,_⟩:=hu
  have HB2:=hid ((hf2.block w.heap.size (by omega) (by omega)).trans HB1.out)
  have HR2:=hid hr2
  have HF2:=hid (HF1.out.then hf2)
  clear hr2 hf2 HD1
  go_wp2_with fail
  refine HO.out.mono ?_
  rintro e w3 ⟨u,rfl,hu,hb3⟩
  have HU:=hid hu
  obtain⟨k3,op3,tb3,nm3,vk3,vn3,vs3,ys3,aa3,nn3,cc3,_,rfl,_⟩:=hu
  have HB:=hid ((hb3.block w.heap.size (by omega)).trans HB2.out)
  have HR3:=hid (HR2.out.below hb3)
  have HF3:=hid (HF2.out.aM hb3)
  clear hb3 HO
  go_wp2_with (first
   | (
    refine aS rfl (.tmp 2) (.tmp 9) rfl w.heap.size rfl k3 op3 vk3 vn3 (aj tb3) (aj nm3) (aj vs3) aa3 nn3 cc3 rfl HB.out (Nat.le_refl _) hgw HR3.out HF3.out ?_
    intro Y hYB hYs hYR hYF
    have HYB:=hid hYB
    have HUY:=hid (HU.out.to (T:=fun b=>w.heap.size≤b) hYs (fun b hb _=>⟨by omega,by omega⟩))
    have HYR:=hid hYR
    have HYF:=hid hYF
    clear hYB hYs hYR hYF)
   | fail)
  have kc:=aY HYB.out
  exact bodyPost_ret (v:=.agg #[.int .i64 k3,.int .i64 op3,.string (aj tb3),.string (aj nm3),.int .i64 vk3,.int .i64 vn3,.string (aj vs3),.slice aa3 nn3 cc3]) (by simp[results,Tryz.results233,go_sem,kc]) rfl ⟨_,rfl,HUY.out,HYR.out,HYF.out⟩
end Go.Proofs.YtaaggohjmhifbaaGreatDoor
