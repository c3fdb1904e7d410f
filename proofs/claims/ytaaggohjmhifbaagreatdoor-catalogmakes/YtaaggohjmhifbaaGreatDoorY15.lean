/- Packed for the hand-in: PLit PExpr -/
import Derived.Test.YtaaggohjmhifbaaGreatDoorY13
import Derived.Test.YtaaggohjmhifbaaGreatDoorY14
namespace Go.Proofs.YtaaggohjmhifbaaGreatDoor
open Go.RowKit Go.Shelf
set_option linter.unusedSimpArgs false
set_option linter.unusedVariables false
set_option maxRecDepth 20000
set_option maxHeartbeats 8000000
theorem Ij {w:World} {b:Nat} {a0 a1 a2:Value} {t:TypeId} (h:w.heap[b]?=some (.cells #[a0,a1,a2] t)) (v0 v1 v2:Value) :
  ((w.setCell ⟨b,0,none⟩ v0).setCell ⟨b,1,none⟩ v1).setCell ⟨b,2,none⟩ v2=w.setRow b #[v0,v1,v2]:=by
 have q : ∀cs,(w.setRow b cs).heap[b]?=some (.cells cs t):=fun cs=>setRow_heap w b _ cs t _ h
 rw[setCell_eq_setRow w b 0 _ t _ v0 h,setCell_eq_setRow _ b 1 _ t _ v1 (q _),setRow_setRow,setCell_eq_setRow _ b 2 _ t _ v2 (q _),setRow_setRow]
 simp only[List.setIfInBounds_toArray,List.set_cons_zero,List.set_cons_succ]
theorem aS {w:World} {g:Nat} {a b c:Value} {t:TypeId} (h:w.heap[g]?=some (.cells #[a,b,c] t)) :
  w.cell? ⟨g,0,none⟩=some a∧w.cell? ⟨g,1,none⟩=some b∧w.cell? ⟨g,2,none⟩=some c∧∀i,w.frozen? ⟨g,i,none⟩=false :=
 ⟨by rw[aN _ _ _ _ _ _ h];rfl,by rw[aN _ _ _ _ _ _ h];rfl,by rw[aN _ _ _ _ _ _ h];rfl,fun i=>by simp[World.frozen?,h]⟩
theorem DV {F:Nat} {r:Rd} (h:Good F r):0≤(iT r).1∧(iT r).1≤9223372036854775807:=by
 unfold iT
 split
 ·rename_i hk
  have hb:=qz hk (by decide)
  have hm:bq r∈r.ts:=by
   unfold bq at hk ⊢
   rw[if_pos hb] at hk ⊢
   cases hr:r.ts with
   | nil=>rw[hr] at hk;exact absurd hk (by decide)
   | cons a l=>simp
  exact h.nums _ hm
 ·simp
theorem xR (F g:Nat) (r:Rd) (w:World) (h:aA F w g r) :
  Calls Tryz.prog 232 #[.pointer (some ⟨g,0,none⟩)] w fun e w'=>e = .returned (.agg #[.int .i64 (jk r).1.k,.int .i64 (jk r).1.n,.string (ah (jk r).1.s)])∧aA F w' g (jk r).2∧Fr g w w':=by
 have hgw:=h.lt
 have hG:=h.good
 obtain⟨W,hW,hbW,hzW,hcW⟩:=bF w (.cells #[.int .i64 0,.int .i64 0,.string ⟨#[]⟩] 128)
 have HCW:=hid hcW
 have HH:=hid (h.below hbW)
 have HF:=hid (aj.aC (S:=fun k=>k=g) hbW)
 have HN:=hid (oP F g r W HH.out)
 obtain⟨Y,hYe⟩:∃Y,jk r=Y:=⟨_,rfl⟩
 have hlit:jk r=if dK [78,85,76,76] r=true then (zV,nextR r) else if (bq r).k=4 then (⟨2,0,(bq r).s⟩,nextR r) else if dK [45] r=true then (⟨1,-(iT (nextR r)).1,[]⟩,(iT (nextR r)).2) else (⟨1,(iT r).1,[]⟩,(iT r).2):=by
  unfold jk gI aB qy aT
  by_cases h1:dK [78,85,76,76] r=true
  ·rw[if_pos h1,if_pos h1]
  ·rw[if_neg h1,if_neg h1]
   by_cases h2:(bq r).k=4
   ·rw[if_pos h2,if_pos h2]
   ·rw[if_neg h2,if_neg h2]
 rw[hYe] at hlit ⊢
 clear hYe
 by_cases h1:dK [78,85,76,76] r=true
 ·rw[if_pos h1] at hlit
  subst hlit
  have HSK:Hid (∀V,aA F V g r→Calls Tryz.prog 118 #[.pointer (some ⟨g,0,none⟩),.string ⟨#[78,85,76,76]⟩] V fun e w'=>e = .returned (.bool true)∧aA F w' g (nextR r)∧Fr g V w'):=hid (fun V hV=>eF F g r V hV [78,85,76,76] h1)
  generalize bq r=x at HN
  obtain⟨xk,xs,xn,xp⟩:=x
  dsimp only at HN
  clear h hcW hbW h1 hG
  go_enter Tryz.func232,Tryz.ntmps232
  go_wp2_with fail
  try rw[hW]
  clear hW
  refine HN.out.mono ?_
  rintro e w1 ⟨rfl,hb1⟩
  obtain⟨V,hV,hbV,hzV,hcV⟩:=bF w1 (.cells #[.int .i64 xk,.string (ah xs),.int .i64 xn,.int .i64 xp] 162)
  have hz1:=hb1.size
  have HRV:=hid ((HH.out.below hb1).below hbV)
  have HFV:=hid ((HF.out.aO hb1).aO hbV)
  have HBV:=hid ((hbV.block _ (by omega)).trans ((hb1.block _ hzW).trans HCW.out))
  have HTV:=hid hcV
  have HS:=hid (HSK.out V HRV.out)
  clear hb1 hbV hcV HN HSK
  go_wp2_with fail
  try rw[hV]
  clear hV
  refine HS.out.mono ?_
  rintro e w2 ⟨rfl,hr2,hf2⟩
  have hz2:=hf2.size
  have HB2:=hid ((hf2.block w.heap.size (by omega) (by omega)).trans HBV.out)
  have ht2:=(hf2.block w1.heap.size hzV (by omega)).trans HTV.out
  have HR2:=hid hr2
  have HF2:=hid (HFV.out.then hf2)
  clear hr2 hf2 HS
  clear ht2
  have kb:=aS HB2.out
  go_wp2
  rw[Ij HB2.out]
  obtain⟨Z,hZ,hZB,hZs,hZR,hZF⟩:=fB (w:=w) #[.int .i64 0,.int .i64 0,.string ⟨#[]⟩] HB2.out (Nat.le_refl _) hgw HR2.out HF2.out
  rw[hZ]
  have kc:=aS hZB
  exact bodyPost_ret (v:=.agg #[.int .i64 0,.int .i64 0,.string ⟨#[]⟩]) (by simp[results,Tryz.results232,go_sem,kc]) rfl ⟨rfl,hZR,hZF⟩
 ·rw[if_neg h1] at hlit
  have HSK:Hid (∀V,aA F V g r→Calls Tryz.prog 118 #[.pointer (some ⟨g,0,none⟩),.string ⟨#[78,85,76,76]⟩] V fun e w'=>e = .returned (.bool false)∧aA F w' g r∧Fr g V w'):=hid (fun V hV=>fC F g r V hV [78,85,76,76] (by simpa using h1))
  by_cases h2:(bq r).k=4
  ·rw[if_pos h2] at hlit
   subst hlit
   have HX:=hid (fun V (hV:aA F V g r)=>nC F g r V hV (qz h2 (by decide)) (by rw[h2];decide))
   generalize bq r=x at HN h2 ⊢
   obtain⟨xk,xs,xn,xp⟩:=x
   dsimp only at HN h2 ⊢
   subst h2
   clear h hcW hbW h1 hG
   go_enter Tryz.func232,Tryz.ntmps232
   go_wp2_with fail
   try rw[hW]
   clear hW
   refine HN.out.mono ?_
   rintro e w1 ⟨rfl,hb1⟩
   obtain⟨V,hV,hbV,hzV,hcV⟩:=bF w1 (.cells #[.int .i64 4,.string (ah xs),.int .i64 xn,.int .i64 xp] 162)
   have hz1:=hb1.size
   have HRV:=hid ((HH.out.below hb1).below hbV)
   have HFV:=hid ((HF.out.aO hb1).aO hbV)
   have HBV:=hid ((hbV.block _ (by omega)).trans ((hb1.block _ hzW).trans HCW.out))
   have HTV:=hid hcV
   have HS:=hid (HSK.out V HRV.out)
   clear hb1 hbV hcV HN HSK
   go_wp2_with fail
   try rw[hV]
   clear hV
   refine HS.out.mono ?_
   rintro e w2 ⟨rfl,hr2,hf2⟩
   have hz2:=hf2.size
   have HB2:=hid ((hf2.block w.heap.size (by omega) (by omega)).trans HBV.out)
   have ht2:=(hf2.block w1.heap.size hzV (by omega)).trans HTV.out
   have HR2:=hid hr2
   have HF2:=hid (HFV.out.then hf2)
   clear hr2 hf2 HS
   have kt:=aW ht2
   have HT2:=hid ht2
   clear ht2
   go_wp2_with fail
   refine (HX.out w2 HR2.out).mono ?_
   rintro e w3 ⟨rfl,hr3,hf3⟩
   have HB3:=hid ((hf3.block w.heap.size (by omega) (by omega)).trans HB2.out)
   have HR3:=hid hr3
   have HF3:=hid (HF2.out.then hf3)
   have kt3:=aW ((hf3.block w1.heap.size (by omega) (by omega)).trans HT2.out)
   have kb:=aS HB3.out
   clear hr3 hf3 kt
   go_wp2
   rw[Ij HB3.out]
   obtain⟨Z,hZ,hZB,hZs,hZR,hZF⟩:=fB (w:=w) #[.int .i64 2,.int .i64 0,.string (ah xs)] HB3.out (Nat.le_refl _) hgw HR3.out HF3.out
   rw[hZ]
   have kc:=aS hZB
   exact bodyPost_ret (v:=.agg #[.int .i64 2,.int .i64 0,.string (ah xs)]) (by simp[results,Tryz.results232,go_sem,kc]) rfl ⟨rfl,hZR,hZF⟩
  ·rw[if_neg h2] at hlit
   have h2':((bq r).k==4)=false:=by simpa using h2
   by_cases h3:dK [45] r=true
   ·rw[if_pos h3] at hlit
    subst hlit
    have HSM:Hid (∀V,aA F V g r→Calls Tryz.prog 118 #[.pointer (some ⟨g,0,none⟩),.string ⟨#[45]⟩] V fun e w'=>e = .returned (.bool true)∧aA F w' g (nextR r)∧Fr g V w'):=hid (fun V hV=>eF F g r V hV [45] h3)
    have HX:=hid (fun V (hV:aA F V g (nextR r))=>mU F g (nextR r) V hV)
    have hbd:=DV (hG.next (jO h3) (mg h3))
    generalize (iT (nextR r)).1=m at HX hbd ⊢
    generalize (iT (nextR r)).2=r3 at HX ⊢
    have hneg:IntKind.i64.wrap (-m) = -m:=by rw[IntKind.wrap_i64];omega
    generalize bq r=x at HN h2'
    obtain⟨xk,xs,xn,xp⟩:=x
    dsimp only at HN h2'
    clear h hcW hbW h1 h2 h3 hG
    go_enter Tryz.func232,Tryz.ntmps232
    go_wp2_with fail
    try rw[hW]
    clear hW
    refine HN.out.mono ?_
    rintro e w1 ⟨rfl,hb1⟩
    obtain⟨V,hV,hbV,hzV,hcV⟩:=bF w1 (.cells #[.int .i64 xk,.string (ah xs),.int .i64 xn,.int .i64 xp] 162)
    have hz1:=hb1.size
    have HRV:=hid ((HH.out.below hb1).below hbV)
    have HFV:=hid ((HF.out.aO hb1).aO hbV)
    have HBV:=hid ((hbV.block _ (by omega)).trans ((hb1.block _ hzW).trans HCW.out))
    have HTV:=hid hcV
    have HS:=hid (HSK.out V HRV.out)
    clear hb1 hbV hcV HN HSK
    go_wp2_with fail
    try rw[hV]
    clear hV
    refine HS.out.mono ?_
    rintro e w2 ⟨rfl,hr2,hf2⟩
    have hz2:=hf2.size
    have HB2:=hid ((hf2.block w.heap.size (by omega) (by omega)).trans HBV.out)
    have ht2:=(hf2.block w1.heap.size hzV (by omega)).trans HTV.out
    have HR2:=hid hr2
    have HF2:=hid (HFV.out.then hf2)
    clear hr2 hf2 HS
    have kt:=aW ht2
    clear ht2
    go_wp2_with fail
    refine (HSM.out w2 HR2.out).mono ?_
    rintro e w3 ⟨rfl,hr3,hf3⟩
    have hz3:=hf3.size
    have HB3:=hid ((hf3.block w.heap.size (by omega) (by omega)).trans HB2.out)
    have HR3:=hid hr3
    have HF3:=hid (HF2.out.then hf3)
    clear hr3 hf3 kt
    go_wp2_with fail
    refine (HX.out w3 HR3.out).mono ?_
    rintro e w4 ⟨rfl,hr4,hf4⟩
    have HB4:=hid ((hf4.block w.heap.size (by omega) (by omega)).trans HB3.out)
    have HR4:=hid hr4
    have HF4:=hid (HF3.out.then hf4)
    have kb:=aS HB4.out
    clear hr4 hf4
    go_wp2
    rw[Ij HB4.out]
    obtain⟨Z,hZ,hZB,hZs,hZR,hZF⟩:=fB (w:=w) #[.int .i64 1,.int .i64 (-m),.string ⟨#[]⟩] HB4.out (Nat.le_refl _) hgw HR4.out HF4.out
    rw[hZ]
    have kc:=aS hZB
    exact bodyPost_ret (v:=.agg #[.int .i64 1,.int .i64 (-m),.string ⟨#[]⟩]) (by simp[results,Tryz.results232,go_sem,kc]) rfl ⟨rfl,hZR,hZF⟩
   ·rw[if_neg h3] at hlit
    subst hlit
    have HSM:Hid (∀V,aA F V g r→Calls Tryz.prog 118 #[.pointer (some ⟨g,0,none⟩),.string ⟨#[45]⟩] V fun e w'=>e = .returned (.bool false)∧aA F w' g r∧Fr g V w'):=hid (fun V hV=>fC F g r V hV [45] (by simpa using h3))
    have HX:=hid (fun V (hV:aA F V g r)=>mU F g r V hV)
    generalize (iT r).1=m at HX ⊢
    generalize (iT r).2=r3 at HX ⊢
    generalize bq r=x at HN h2'
    obtain⟨xk,xs,xn,xp⟩:=x
    dsimp only at HN h2'
    clear h hcW hbW h1 h2 h3 hG
    go_enter Tryz.func232,Tryz.ntmps232
    go_wp2_with fail
    try rw[hW]
    clear hW
    refine HN.out.mono ?_
    rintro e w1 ⟨rfl,hb1⟩
    obtain⟨V,hV,hbV,hzV,hcV⟩:=bF w1 (.cells #[.int .i64 xk,.string (ah xs),.int .i64 xn,.int .i64 xp] 162)
    have hz1:=hb1.size
    have HRV:=hid ((HH.out.below hb1).below hbV)
    have HFV:=hid ((HF.out.aO hb1).aO hbV)
    have HBV:=hid ((hbV.block _ (by omega)).trans ((hb1.block _ hzW).trans HCW.out))
    have HTV:=hid hcV
    have HS:=hid (HSK.out V HRV.out)
    clear hb1 hbV hcV HN HSK
    go_wp2_with fail
    try rw[hV]
    clear hV
    refine HS.out.mono ?_
    rintro e w2 ⟨rfl,hr2,hf2⟩
    have hz2:=hf2.size
    have HB2:=hid ((hf2.block w.heap.size (by omega) (by omega)).trans HBV.out)
    have ht2:=(hf2.block w1.heap.size hzV (by omega)).trans HTV.out
    have HR2:=hid hr2
    have HF2:=hid (HFV.out.then hf2)
    clear hr2 hf2 HS
    have kt:=aW ht2
    clear ht2
    go_wp2_with fail
    refine (HSM.out w2 HR2.out).mono ?_
    rintro e w3 ⟨rfl,hr3,hf3⟩
    have hz3:=hf3.size
    have HB3:=hid ((hf3.block w.heap.size (by omega) (by omega)).trans HB2.out)
    have HR3:=hid hr3
    have HF3:=hid (HF2.out.then hf3)
    clear hr3 hf3 kt
    go_wp2_with fail
    refine (HX.out w3 HR3.out).mono ?_
    rintro e w4 ⟨rfl,hr4,hf4⟩
    have HB4:=hid ((hf4.block w.heap.size (by omega) (by omega)).trans HB3.out)
    have HR4:=hid hr4
    have HF4:=hid (HF3.out.then hf4)
    have kb:=aS HB4.out
    clear hr4 hf4
    go_wp2
    rw[Ij HB4.out]
    obtain⟨Z,hZ,hZB,hZs,hZR,hZF⟩:=fB (w:=w) #[.int .i64 1,.int .i64 m,.string ⟨#[]⟩] HB4.out (Nat.le_refl _) hgw HR4.out HF4.out
    rw[hZ]
    have kc:=aS hZB
    exact bodyPost_ret (v:=.agg #[.int .i64 1,.int .i64 m,.string ⟨#[]⟩]) (by simp[results,Tryz.results232,go_sem,kc]) rfl ⟨rfl,hZR,hZF⟩
theorem tK (F:Nat) (n fb:Nat) (p:Pa Ex) (hp:iM F (bQ n) fb p) (hN:bf false F p) (eg : ∀args w,(callFunc fb args).run Tryz.prog w = .ok (.enter fb args) w)
  (ops:List (List UInt8 × Int)) (ho : ∀c∈ops,c.2≠0) (hl:ops.length≤1000) (g:Nat) (r:Rd) (W:World) (h:aA F W g r) (hE:bQ n r) :
  Calls Tryz.prog 185 #[.pointer (some ⟨g,0,none⟩),.func (.func fb) #[.pointer (some ⟨g,0,none⟩)] #[],.slice (some ⟨W.heap.size,0,none⟩) ops.length ops.length] (W.alloc (.cells (ops.flatMap fun t=>[Value.string (ah t.1),.int .i64 t.2]).toArray 155)) fun e w'=>∃u,e = .returned u∧pq (fun b=>W.heap.size≤b) w' (rowP F p ops r).1 u∧aA F w' g (rowP F p ops r).2∧Fr g W w':=by
 have hb:Below W.heap.size W (W.alloc (.cells (ops.flatMap fun t=>[Value.string (ah t.1),.int .i64 t.2]).toArray 155)):=(Below.refl _ _).alloc (Nat.le_refl _) _
 refine (I8 F n fb p hp hN eg ops ho g r _ (h.below hb) hE _ ⟨_,_,rfl,hl,fun _=>⟨_,rfl,h.lt,fun j t ht=>?_⟩⟩).mono ?_
 ·rw[cell_of_row _ _ _ _ _ _ (heap_alloc_new W _),cell_of_row _ _ _ _ _ _ (heap_alloc_new W _)]
  have:=xA ops j t ht
  simpa using this
 ·rintro e w' ⟨u,rfl,h0,h1,h2⟩
  exact⟨u,rfl,h0.to (R:=fun _=>False) (aj.refl _ _) (fun b hb' _=>⟨id,Nat.le_trans hb.size hb'⟩),h1,(aj.aC (S:=fun k=>k=g) hb).then h2⟩
theorem FE (F n:Nat) (p:Pa Ex) (hp:iM F (bQ n) 311 p) (hN:bf false F p):iM F (bQ n) 296 (rowP F p qJ):=fun g r w h hE=>by
 have hgw:=h.lt
 obtain⟨W,hW,hbW,hzW,hcW⟩:=bF w sW
 have HCW:=hid hcW
 have HF:=hid (aj.aC (S:=fun k=>k=g) hbW)
 have HR:Hid (Calls Tryz.prog 185 #[.pointer (some ⟨g,0,none⟩),.func (.func 311) #[.pointer (some ⟨g,0,none⟩)] #[],.slice (some ⟨W.heap.size,0,none⟩) 3 3] (W.alloc (.cells #[.string ⟨#[42]⟩,.int .i64 11,.string ⟨#[47]⟩,.int .i64 12,.string ⟨#[37]⟩,.int .i64 13] 155)) fun e w'=>∃u,e = .returned u∧pq (fun b=>W.heap.size≤b) w' (rowP F p qJ r).1 u∧aA F w' g (rowP F p qJ r).2∧Fr g W w') :=
  hid (tK F n 311 p hp hN (enters_of Tryz.func311 (by kernel_rfl) rfl) qJ (by decide) (by decide) g r W (h.below hbW) hE)
 generalize (rowP F p qJ r).1=y1 at HR ⊢
 generalize (rowP F p qJ r).2=y2 at HR ⊢
 clear h hcW hbW hp hN hE
 go_enter Tryz.func296,Tryz.ntmps296
 go_wp2_with fail
 try rw[hW]
 clear hW
 refine HR.out.mono ?_
 rintro e w1 ⟨u,rfl,hu,hr1,hf1⟩
 have HU:=hid hu
 obtain⟨k3,op3,tb3,nm3,vk3,vn3,vs3,ys3,aa3,nn3,cc3,_,rfl,_⟩:=hu
 have HB:=hid ((hf1.block w.heap.size hzW (by omega)).trans HCW.out)
 have HR1:=hid hr1
 have HF1:=hid (HF.out.then hf1)
 clear hr1 hf1 HR
 go_wp2_with (first
  | (
   refine aP rfl (.tmp 2) (.tmp 10) rfl w.heap.size rfl k3 op3 vk3 vn3 (ah tb3) (ah nm3) (ah vs3) aa3 nn3 cc3 rfl HB.out (Nat.le_refl _) hgw HR1.out HF1.out ?_
   intro Y hYB hYs hYR hYF
   have HYB:=hid hYB
   have HUY:=hid (HU.out.to (T:=fun b=>w.heap.size≤b) hYs (fun b hb _=>⟨by omega,by omega⟩))
   have HYR:=hid hYR
   have HYF:=hid hYF
   clear hYB hYs hYR hYF)
  | fail)
 have kc:=aU HYB.out
 exact bodyPost_ret (v:=.agg #[.int .i64 k3,.int .i64 op3,.string (ah tb3),.string (ah nm3),.int .i64 vk3,.int .i64 vn3,.string (ah vs3),.slice aa3 nn3 cc3]) (by simp[results,Tryz.results296,go_sem,kc]) rfl ⟨_,rfl,HUY.out,HYR.out,HYF.out⟩
theorem Hr (F n:Nat) (p:Pa Ex) (hp:iM F (bQ n) 296 p) (hN:bf false F p):iM F (bQ n) 280 (rowP F p qm):=fun g r w h hE=>by
 have hgw:=h.lt
 obtain⟨W,hW,hbW,hzW,hcW⟩:=bF w sW
 have HCW:=hid hcW
 have HF:=hid (aj.aC (S:=fun k=>k=g) hbW)
 have HR:Hid (Calls Tryz.prog 185 #[.pointer (some ⟨g,0,none⟩),.func (.func 296) #[.pointer (some ⟨g,0,none⟩)] #[],.slice (some ⟨W.heap.size,0,none⟩) 2 2] (W.alloc (.cells #[.string ⟨#[43]⟩,.int .i64 9,.string ⟨#[45]⟩,.int .i64 10] 155)) fun e w'=>∃u,e = .returned u∧pq (fun b=>W.heap.size≤b) w' (rowP F p qm r).1 u∧aA F w' g (rowP F p qm r).2∧Fr g W w') :=
  hid (tK F n 296 p hp hN (enters_of Tryz.func296 (by kernel_rfl) rfl) qm (by decide) (by decide) g r W (h.below hbW) hE)
 generalize (rowP F p qm r).1=y1 at HR ⊢
 generalize (rowP F p qm r).2=y2 at HR ⊢
 clear h hcW hbW hp hN hE
 go_enter Tryz.func280,Tryz.ntmps280
 go_wp2_with fail
 try rw[hW]
 clear hW
 refine HR.out.mono ?_
 rintro e w1 ⟨u,rfl,hu,hr1,hf1⟩
 have HU:=hid hu
 obtain⟨k3,op3,tb3,nm3,vk3,vn3,vs3,ys3,aa3,nn3,cc3,_,rfl,_⟩:=hu
 have HB:=hid ((hf1.block w.heap.size hzW (by omega)).trans HCW.out)
 have HR1:=hid hr1
 have HF1:=hid (HF.out.then hf1)
 clear hr1 hf1 HR
 go_wp2_with (first
  | (
   refine aP rfl (.tmp 2) (.tmp 9) rfl w.heap.size rfl k3 op3 vk3 vn3 (ah tb3) (ah nm3) (ah vs3) aa3 nn3 cc3 rfl HB.out (Nat.le_refl _) hgw HR1.out HF1.out ?_
   intro Y hYB hYs hYR hYF
   have HYB:=hid hYB
   have HUY:=hid (HU.out.to (T:=fun b=>w.heap.size≤b) hYs (fun b hb _=>⟨by omega,by omega⟩))
   have HYR:=hid hYR
   have HYF:=hid hYF
   clear hYB hYs hYR hYF)
  | fail)
 have kc:=aU HYB.out
 exact bodyPost_ret (v:=.agg #[.int .i64 k3,.int .i64 op3,.string (ah tb3),.string (ah nm3),.int .i64 vk3,.int .i64 vn3,.string (ah vs3),.slice aa3 nn3 cc3]) (by simp[results,Tryz.results280,go_sem,kc]) rfl ⟨_,rfl,HUY.out,HYR.out,HYF.out⟩
theorem IY (F n:Nat) (p:Pa Ex) (hp:iM F (bQ n) 233 p) (hN:bf false F p):iM F (bQ n) 186 (rowP F p qH):=fun g r w h hE=>by
 have hgw:=h.lt
 obtain⟨W,hW,hbW,hzW,hcW⟩:=bF w sW
 have HCW:=hid hcW
 have HF:=hid (aj.aC (S:=fun k=>k=g) hbW)
 have HR:Hid (Calls Tryz.prog 185 #[.pointer (some ⟨g,0,none⟩),.func (.func 233) #[.pointer (some ⟨g,0,none⟩)] #[],.slice (some ⟨W.heap.size,0,none⟩) 1 1] (W.alloc (.cells #[.string ⟨#[65,78,68]⟩,.int .i64 2] 155)) fun e w'=>∃u,e = .returned u∧pq (fun b=>W.heap.size≤b) w' (rowP F p qH r).1 u∧aA F w' g (rowP F p qH r).2∧Fr g W w') :=
  hid (tK F n 233 p hp hN (enters_of Tryz.func233 (by kernel_rfl) rfl) qH (by decide) (by decide) g r W (h.below hbW) hE)
 generalize (rowP F p qH r).1=y1 at HR ⊢
 generalize (rowP F p qH r).2=y2 at HR ⊢
 clear h hcW hbW hp hN hE
 go_enter Tryz.func186,Tryz.ntmps186
 go_wp2_with fail
 try rw[hW]
 clear hW
 refine HR.out.mono ?_
 rintro e w1 ⟨u,rfl,hu,hr1,hf1⟩
 have HU:=hid hu
 obtain⟨k3,op3,tb3,nm3,vk3,vn3,vs3,ys3,aa3,nn3,cc3,_,rfl,_⟩:=hu
 have HB:=hid ((hf1.block w.heap.size hzW (by omega)).trans HCW.out)
 have HR1:=hid hr1
 have HF1:=hid (HF.out.then hf1)
 clear hr1 hf1 HR
 go_wp2_with (first
  | (
   refine aP rfl (.tmp 2) (.tmp 8) rfl w.heap.size rfl k3 op3 vk3 vn3 (ah tb3) (ah nm3) (ah vs3) aa3 nn3 cc3 rfl HB.out (Nat.le_refl _) hgw HR1.out HF1.out ?_
   intro Y hYB hYs hYR hYF
   have HYB:=hid hYB
   have HUY:=hid (HU.out.to (T:=fun b=>w.heap.size≤b) hYs (fun b hb _=>⟨by omega,by omega⟩))
   have HYR:=hid hYR
   have HYF:=hid hYF
   clear hYB hYs hYR hYF)
  | fail)
 have kc:=aU HYB.out
 exact bodyPost_ret (v:=.agg #[.int .i64 k3,.int .i64 op3,.string (ah tb3),.string (ah nm3),.int .i64 vk3,.int .i64 vn3,.string (ah vs3),.slice aa3 nn3 cc3]) (by simp[results,Tryz.results186,go_sem,kc]) rfl ⟨_,rfl,HUY.out,HYR.out,HYF.out⟩
theorem Gd (F n:Nat) (p:Pa Ex) (hp:iM F (bQ n) 186 p) (hN:bf false F p):iM F (bQ n) 116 (rowP F p xX):=fun g r w h hE=>by
 have hgw:=h.lt
 obtain⟨W,hW,hbW,hzW,hcW⟩:=bF w sW
 have HCW:=hid hcW
 have HF:=hid (aj.aC (S:=fun k=>k=g) hbW)
 have HR:Hid (Calls Tryz.prog 185 #[.pointer (some ⟨g,0,none⟩),.func (.func 186) #[.pointer (some ⟨g,0,none⟩)] #[],.slice (some ⟨W.heap.size,0,none⟩) 1 1] (W.alloc (.cells #[.string ⟨#[79,82]⟩,.int .i64 1] 155)) fun e w'=>∃u,e = .returned u∧pq (fun b=>W.heap.size≤b) w' (rowP F p xX r).1 u∧aA F w' g (rowP F p xX r).2∧Fr g W w') :=
  hid (tK F n 186 p hp hN (enters_of Tryz.func186 (by kernel_rfl) rfl) xX (by decide) (by decide) g r W (h.below hbW) hE)
 generalize (rowP F p xX r).1=y1 at HR ⊢
 generalize (rowP F p xX r).2=y2 at HR ⊢
 clear h hcW hbW hp hN hE
 go_enter Tryz.func116,Tryz.ntmps116
 go_wp2_with fail
 try rw[hW]
 clear hW
 refine HR.out.mono ?_
 rintro e w1 ⟨u,rfl,hu,hr1,hf1⟩
 have HU:=hid hu
 obtain⟨k3,op3,tb3,nm3,vk3,vn3,vs3,ys3,aa3,nn3,cc3,_,rfl,_⟩:=hu
 have HB:=hid ((hf1.block w.heap.size hzW (by omega)).trans HCW.out)
 have HR1:=hid hr1
 have HF1:=hid (HF.out.then hf1)
 clear hr1 hf1 HR
 go_wp2_with (first
  | (
   refine aP rfl (.tmp 2) (.tmp 8) rfl w.heap.size rfl k3 op3 vk3 vn3 (ah tb3) (ah nm3) (ah vs3) aa3 nn3 cc3 rfl HB.out (Nat.le_refl _) hgw HR1.out HF1.out ?_
   intro Y hYB hYs hYR hYF
   have HYB:=hid hYB
   have HUY:=hid (HU.out.to (T:=fun b=>w.heap.size≤b) hYs (fun b hb _=>⟨by omega,by omega⟩))
   have HYR:=hid hYR
   have HYF:=hid hYF
   clear hYB hYs hYR hYF)
  | fail)
 have kc:=aU HYB.out
 exact bodyPost_ret (v:=.agg #[.int .i64 k3,.int .i64 op3,.string (ah tb3),.string (ah nm3),.int .i64 vk3,.int .i64 vn3,.string (ah vs3),.slice aa3 nn3 cc3]) (by simp[results,Tryz.results116,go_sem,kc]) rfl ⟨_,rfl,HUY.out,HYR.out,HYF.out⟩
theorem Ii {nt test:Pa Ex} {r:Rd} (h:dK [78,79,84] r=true):notP nt test r=(jE 4 (fT nt (nextR r)).1,(fT nt (nextR r)).2):=by
 unfold notP gI aB aT
 rw[if_pos h]
theorem Kr {nt test:Pa Ex} {r:Rd} (h:dK [78,79,84] r=false):notP nt test r=test r:=by
 unfold notP gI
 rw[if_neg (by rw[h];exact Bool.false_ne_true)]
theorem IZ (F n:Nat) (pn pt:Pa Ex) (hn:iM F (bQ n) 233 pn) (hNn:bf false F pn) (ht:iM F (bQ (n+1)) 264 pt):iM F (bQ (n+1)) 233 (notP pn pt):=fun g r w h hE=>by
 have hgw:=h.lt
 have hG:=h.good
 obtain⟨W,hW,hbW,hzW,hcW⟩:=bF w sW
 have HCW:=hid hcW
 have HF:=hid (aj.aC (S:=fun k=>k=g) hbW)
 have HH:=hid (h.below hbW)
 cases hi:dK [78,79,84] r with
 |
  false =>
  rw[Kr hi]
  have HS:Hid (Calls Tryz.prog 118 #[.pointer (some ⟨g,0,none⟩),.string ⟨#[78,79,84]⟩] W fun e w'=>e = .returned (.bool false)∧aA F w' g r∧Fr g W w'):=hid (fC F g r W HH.out [78,79,84] hi)
  have HT:=hid (fun V (hV:aA F V g r)=>ht g r V hV hE)
  generalize (pt r).1=y1 at HT ⊢
  generalize (pt r).2=y2 at HT ⊢
  clear h hcW hbW hn hNn ht hE hi hG
  go_enter Tryz.func233,Tryz.ntmps233
  go_wp2_with fail
  try rw[hW]
  clear hW
  refine HS.out.mono ?_
  rintro e w1 ⟨rfl,hr1,hf1⟩
  have hz1:=hf1.size
  have HB1:=hid ((hf1.block w.heap.size hzW (by omega)).trans HCW.out)
  have HT1:=hid (HT.out w1 hr1)
  have HF1:=hid (HF.out.then hf1)
  clear hr1 hf1 HS HT
  go_wp2_with fail
  refine HT1.out.mono ?_
  rintro e w2 ⟨u,rfl,hu,hr2,hf2⟩
  have HU:=hid hu
  obtain⟨k3,op3,tb3,nm3,vk3,vn3,vs3,ys3,aa3,nn3,cc3,_,rfl,_⟩:=hu
  have HB:=hid ((hf2.block w.heap.size (by omega) (by omega)).trans HB1.out)
  have HR2:=hid hr2
  have HF2:=hid (HF1.out.then hf2)
  clear hr2 hf2 HT1
  go_wp2_with (first
   | (
    refine aP rfl (.tmp 2) (.tmp 11) rfl w.heap.size rfl k3 op3 vk3 vn3 (ah tb3) (ah nm3) (ah vs3) aa3 nn3 cc3 rfl HB.out (Nat.le_refl _) hgw HR2.out HF2.out ?_
    intro Y hYB hYs hYR hYF
    have HYB:=hid hYB
    have HUY:=hid (HU.out.to (T:=fun b=>w.heap.size≤b) hYs (fun b hb _=>⟨by omega,by omega⟩))
    have HYR:=hid hYR
    have HYF:=hid hYF
    clear hYB hYs hYR hYF)
   | fail)
  have kc:=aU HYB.out
  exact bodyPost_ret (v:=.agg #[.int .i64 k3,.int .i64 op3,.string (ah tb3),.string (ah nm3),.int .i64 vk3,.int .i64 vn3,.string (ah vs3),.slice aa3 nn3 cc3]) (by simp[results,Tryz.results233,go_sem,kc]) rfl ⟨_,rfl,HUY.out,HYR.out,HYF.out⟩
 |
  true =>
  rw[Ii hi]
  have hb:=jO hi
  have hE1:bQ (n+1) (nextR r):=hE.next
  have HS:Hid (Calls Tryz.prog 118 #[.pointer (some ⟨g,0,none⟩),.string ⟨#[78,79,84]⟩] W fun e w'=>e = .returned (.bool true)∧aA F w' g (nextR r)∧Fr g W w'):=hid (eF F g r W HH.out [78,79,84] hi)
  have HD:=hid (fun V (hV:aA F V g (nextR r))=>pU F n 233 pn hn hNn (enters_of Tryz.func233 (by kernel_rfl) rfl) g (nextR r) V hV hE1 hb)
  dsimp only
  generalize (fT pn (nextR r)).1=y1 at HD ⊢
  generalize (fT pn (nextR r)).2=y2 at HD ⊢
  clear h hcW hbW hn hNn ht hE hE1 hi hG hb
  go_enter Tryz.func233,Tryz.ntmps233
  go_wp2_with fail
  try rw[hW]
  clear hW
  refine HS.out.mono ?_
  rintro e w1 ⟨rfl,hr1,hf1⟩
  have hz1:=hf1.size
  have HB1:=hid ((hf1.block w.heap.size hzW (by omega)).trans HCW.out)
  have HD1:=hid (HD.out w1 hr1)
  have HF1:=hid (HF.out.then hf1)
  clear hr1 hf1 HS HD
  go_wp2_with fail
  refine HD1.out.mono ?_
  rintro e w2 ⟨u,rfl,hu,hr2,hf2⟩
  have hz2:=hf2.size
  have HO:=hid (xY (fun b=>w1.heap.size≤b) 4 y1 u w2 (fun b hb=>by omega) hu)
  obtain⟨k2,op2,tb2,nm2,vk2,vn2,vs2,ys2,aa2,nn2,cc2,_,rfl,_⟩:=hu
  have HB2:=hid ((hf2.block w.heap.size (by omega) (by omega)).trans HB1.out)
  have HR2:=hid hr2
  have HF2:=hid (HF1.out.then hf2)
  clear hr2 hf2 HD1
  go_wp2_with fail
  refine HO.out.mono ?_
  rintro e w3 ⟨u,rfl,hu,hb3⟩
  have HU:=hid hu
  obtain⟨k3,op3,tb3,nm3,vk3,vn3,vs3,ys3,aa3,nn3,cc3,_,rfl,_⟩:=hu
  have HB:=hid ((hb3.block w.heap.size (by omega)).trans HB2.out)
  have HR3:=hid (HR2.out.below hb3)
  have HF3:=hid (HF2.out.aO hb3)
  clear hb3 HO
  go_wp2_with (first
   | (
    refine aP rfl (.tmp 2) (.tmp 9) rfl w.heap.size rfl k3 op3 vk3 vn3 (ah tb3) (ah nm3) (ah vs3) aa3 nn3 cc3 rfl HB.out (Nat.le_refl _) hgw HR3.out HF3.out ?_
    intro Y hYB hYs hYR hYF
    have HYB:=hid hYB
    have HUY:=hid (HU.out.to (T:=fun b=>w.heap.size≤b) hYs (fun b hb _=>⟨by omega,by omega⟩))
    have HYR:=hid hYR
    have HYF:=hid hYF
    clear hYB hYs hYR hYF)
   | fail)
  have kc:=aU HYB.out
  exact bodyPost_ret (v:=.agg #[.int .i64 k3,.int .i64 op3,.string (ah tb3),.string (ah nm3),.int .i64 vk3,.int .i64 vn3,.string (ah vs3),.slice aa3 nn3 cc3]) (by simp[results,Tryz.results233,go_sem,kc]) rfl ⟨_,rfl,HUY.out,HYR.out,HYF.out⟩
end Go.Proofs.YtaaggohjmhifbaaGreatDoor
