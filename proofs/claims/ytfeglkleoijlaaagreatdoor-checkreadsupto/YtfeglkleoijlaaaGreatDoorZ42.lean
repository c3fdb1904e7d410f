/- Packed for the hand-in: KSelE -/
import Derived.Test.YtfeglkleoijlaaaGreatDoorZ41
namespace Go.Proofs.YtfeglkleoijlaaaGreatDoor
open Go.RowKit Go.Shelf
set_option linter.unusedSimpArgs false
set_option linter.unusedVariables false
set_option maxRecDepth 20000
set_option maxHeartbeats 8000000
def qW (r1 r2 r3 r4:Int) (gb:Bool) (n:Nat):Int :=
 if r1≠0 then r1 else if r2≠0 then r2 else if r3≠0 then r3 else if r4≠0 then r4 else if gb=false∧8<n then 4 else 0
theorem FB (L:List Tb) (s:St):Gn L s=qW (iB L (s.on++s.wh)) (aX (s.gr.map fun e=>(aR L e).2.2)) (aX (s.items.map (nS L (bZ s) (s.gr.map fun e=>(aR L e).1)))) (aX (s.od.map fun x=>ig (bZ s) (s.gr.map fun e=>(aR L e).1) (aR L x))) (bZ s) (fI L s.items):=by
 unfold Gn qW
 rw[show s.items.map (wW L s)=s.items.map (nS L (bZ s) (s.gr.map fun e=>(aR L e).1)) from List.map_congr_left (fun i _=>Ef L s i),show s.od.map (oZ L s)=s.od.map (fun x=>ig (bZ s) (s.gr.map fun e=>(aR L e).1) (aR L x)) from List.map_congr_left (fun i _=>Af L s i)]
theorem wE (sb mb:Nat) (E:DataW Value) (f:List UInt8→Value) (C:List Tb) (S2:Nat→Prop) (t:Tb) (s:St) (cs sc:List Value) (w:World) (hW:eH w) (hC:dY w sb mb E f C S2) (ht:dK (fun b=>b<w.heap.size) w t cs) (hKt:oo t) (hKC : ∀u∈C,oo u) (hs:eZ (fun b=>b<w.heap.size) w s sc)
  (hgo : ∀x∈s.on++s.wh,dS x) (hgg : ∀x∈s.gr,dS x) (hgi : ∀i∈s.items,∀x∈i.xs,dS x) (hgd : ∀x∈s.od,dS x) (h1:s.gr.length≤1) (h2:s.on.length+s.wh.length≤1000) (h3:s.items.length≤1000) (hj:s.jn.length≤maxLen) :
  Calls Tryz.prog 25 #[.pointer (some ⟨sb,0,none⟩),.agg cs.toArray,.agg sc.toArray] w fun e w'=>e = .returned (.int .i64 (j5 C t s))∧Below w.heap.size w w':=by
 have hs0:=hs
 have ht0:=ht
 obtain⟨b1,b2,b3,b4,b5,b6,b7,b8,m1,m2,m3,m4,m5,m6,m7,m8,d1,d2,d3,d4,d5,d6,d7,d8,rfl,_⟩:=hs
 obtain⟨a1,n1,c1,rfl,_⟩:=ht
 obtain⟨W,hWW,hbW,hzW,hcA,hcB⟩:=two w (.cells #[.string (aj t.nm),.slice a1 n1 c1,.int .i64 t.pr] 42) (.cells #[.int .i64 s.k,.string (aj s.tb),.slice b1 m1 d1,.string (aj s.prim),.slice b2 m2 d2,.slice b3 m3 d3,.slice b4 m4 d4,.string (aj s.jn),.slice b5 m5 d5,.slice b6 m6 d6,.slice b7 m7 d7,.slice b8 m8 d8,.bool s.desc,.int .i64 s.lim] 29)
 have kA:=aH hcA
 have kB:=ay hcB
 have HF:=hid (wG sb mb E f C S2 t s.jn _ W (hC.new hbW) ((ht0.on hbW).to (R:=fun _=>False) (T:=fun b=>b<W.heap.size) (aA.refl _ _) (fun b hb _=>⟨id,by show b<W.heap.size;have:b<w.heap.size:=hb;omega⟩)) hj)
 obtain⟨hKL,hnL⟩:=Ej (jn:=s.jn) hKC hKt
 have HST:=hid hs0
 have HB:=hid hbW
 have HCB:=hid hcB
 have HW:=hid hW
 unfold j5
 obtain⟨⟨L,code⟩,hR⟩:∃R,iy C t s.jn=R:=⟨_,rfl⟩
 rw[hR] at HF hKL hnL ⊢
 dsimp only at HF hKL hnL ⊢
 have HKL:=hid hKL
 have HGO:=hid hgo
 have HGG:=hid hgg
 have HGI:=hid hgi
 have HGD:=hid hgd
 have HSEL:=hid (FB L s)
 clear hbW hcA hcB hs0 ht0 hW hC hR hKL hgo hgg hgi hgd hKt hKC hj
 by_cases hcode:code=0
 ·subst hcode
  rw[if_neg (fun h=>h rfl)]
  obtain⟨r1,hr1⟩:∃r,iB L (s.on++s.wh)=r:=⟨_,rfl⟩
  obtain⟨r2,hr2⟩:∃r,aX (s.gr.map fun e=>(aR L e).2.2)=r:=⟨_,rfl⟩
  obtain⟨r3,hr3⟩:∃r,aX (s.items.map (nS L (bZ s) (s.gr.map fun e=>(aR L e).1)))=r:=⟨_,rfl⟩
  obtain⟨r4,hr4⟩:∃r,aX (s.od.map fun x=>ig (bZ s) (s.gr.map fun e=>(aR L e).1) (aR L x))=r:=⟨_,rfl⟩
  obtain⟨gb,hgb⟩:∃r,bZ s=r:=⟨_,rfl⟩
  obtain⟨wn,hwn⟩:∃r,fI L s.items=r:=⟨_,rfl⟩
  rw[hgb] at hr3 hr4
  have hsel:=HSEL.out
  rw[hgb,hr1,hr2,hr3,hr4,hwn] at hsel
  obtain⟨rr,hrr⟩:∃r,qW r1 r2 r3 r4 gb wn=r:=⟨_,rfl⟩
  rw[hsel,hrr]
  have HRR:=hid hrr
  have HR1:=hid hr1
  have HR2:=hid hr2
  have HR3:=hid hr3
  have HR4:=hid hr4
  have HRG:=hid hgb
  have HRW:=hid hwn
  clear hr1 hr2 hr3 hr4 hgb hwn hsel hrr HSEL
  go_enter Tryz.func25,Tryz.ntmps25
  go_wp2_with fail
  try rw[hWW]
  refine HF.out.mono ?_
  rintro e w1 ⟨la,ln,lc,rfl,hsl,hb1⟩
  obtain⟨Y,hY,hbY,hzY,hcY⟩:=aL w1 (.cells #[(.slice la ln lc)] 22)
  have HB1:=hid (HB.out.trans (hb1.mono HB.out.size))
  have HBY:=hid (HB1.out.trans (hbY.mono HB1.out.size))
  have hz1:=hb1.size
  have HC:Hid (om w Y Y.heap.size w1.heap.size s #[.int .i64 s.k,.string (aj s.tb),.slice b1 m1 d1,.string (aj s.prim),.slice b2 m2 d2,.slice b3 m3 d3,.slice b4 m4 d4,.string (aj s.jn),.slice b5 m5 d5,.slice b6 m6 d6,.slice b7 m7 d7,.slice b8 m8 d8,.bool s.desc,.int .i64 s.lim] L (.slice la ln lc)):=hid
   ⟨HBY.out,(hbY.block _ (by omega)).trans ((hb1.block _ (by omega)).trans HCB.out),hcY,⟨by omega,hzY⟩,Nat.le_refl _,
    hsl.to (by decide) (R:=fun _=>False) (aA.aC hbY) (fun b hb hlt=>⟨id,by show b<Y.heap.size;omega⟩) (fun _ _ e=>e.to (R:=fun _=>False) (aA.aC hbY) (fun b hb hlt=>⟨id,by show b<Y.heap.size;omega⟩)),
    HST.out.to (R:=fun _=>False) (aA.aC HBY.out) (fun b hb _=>⟨id,hb⟩)⟩
  obtain⟨N,hN⟩:∃N,Y.heap.size=N:=⟨_,rfl⟩
  rw[hN] at HC
  have hNY:N≤Y.heap.size:=by omega
  obtain⟨p,hp⟩:∃p,w1.heap.size=p:=⟨_,rfl⟩
  rw[hp] at HC
  clear hsl hb1 hbY hcY HF HB1 HCB HST kA kB hN
  go_wp2_with (first | (refine wpList_store_oneTo rfl 22 (.tmp 7) (.tmp 19) rfl rfl w1.heap.size (.slice la ln lc) rfl rfl rfl 22 _ (heap_alloc_new w1 _) Tryz.vK ?_;rw[aB,hY];clear hY) | fail)
  try rw[hp]
  have hzc:=HC.out.lo
  clear hp
  go_cut [9] (fun u9 wx=>u9 = .int .i64 r1∧Hid (om w wx N p s #[.int .i64 s.k,.string (aj s.tb),.slice b1 m1 d1,.string (aj s.prim),.slice b2 m2 d2,.slice b3 m3 d3,.slice b4 m4 d4,.string (aj s.jn),.slice b5 m5 d5,.slice b6 m6 d6,.slice b7 m7 d7,.slice b8 m8 d8,.bool s.desc,.int .i64 s.lim] L (.slice la ln lc)))
  case first =>
   have HS:Hid (∀V,Below Y.heap.size Y V→V.cell? ⟨w.heap.size+1,8,none⟩=some (.slice b5 m5 d5)∧V.cell? ⟨w.heap.size+1,9,none⟩=some (.slice b6 m6 d6)∧(V.cell? ⟨p,0,none⟩=some (.slice la ln lc))):=hid (fun V hV=>by
    have q:=HC.out.dG hV
    have k:=ay q.st
    exact⟨k.2.2.2.2.2.2.2.2.1,k.2.2.2.2.2.2.2.2.2.1,by rw[aD _ _ _ _ _ _ q.pb];rfl⟩)
   have hS0:=HS.out Y.drew (Below.refl _ Y).drew
   refine dB (fun V:World=>V.cell? ⟨w.heap.size+1,8,none⟩=some (.slice b5 m5 d5)∧V.cell? ⟨w.heap.size+1,9,none⟩=some (.slice b6 m6 d6)∧(V.cell? ⟨p,0,none⟩=some (.slice la ln lc))) [] (by kernel_rfl) ?_
   refine aP (i:=0) (v:=?_) rfl (by kernel_rfl) (by kernel_rfl) (by kernel_rfl) (by kernel_rfl) (by kernel_rfl) (fun _ _ _ h=>h) (Or.inl ⟨by rfl,?_⟩) (by assumption) ?_;rotate_left;(focus (intro w hSw;(try dsimp only at hSw);(try obtain⟨hSw1,hSw2,hSw3⟩:=hSw);go_simp<;>with_reducible rfl));(try simp only[Act.put,List.getElem_toArray,List.getElem_cons_zero,List.getElem_cons_succ,List.setIfInBounds_toArray,List.set_cons_zero,List.set_cons_succ])
   refine aP (i:=1) (v:=?_) rfl (by kernel_rfl) (by kernel_rfl) (by kernel_rfl) (by kernel_rfl) (by kernel_rfl) (fun _ _ _ h=>h) (Or.inl ⟨by rfl,?_⟩) (by assumption) ?_;rotate_left;(focus (intro w hSw;(try dsimp only at hSw);(try obtain⟨hSw1,hSw2,hSw3⟩:=hSw);go_simp<;>with_reducible rfl));(try simp only[Act.put,List.getElem_toArray,List.getElem_cons_zero,List.getElem_cons_succ,List.setIfInBounds_toArray,List.set_cons_zero,List.set_cons_succ])
   refine aP (i:=2) (v:=?_) rfl (by kernel_rfl) (by kernel_rfl) (by kernel_rfl) (by kernel_rfl) (by kernel_rfl) (fun _ _ _ h=>h) (Or.inl ⟨by rfl,?_⟩) (by assumption) ?_;rotate_left;(focus (intro w hSw;(try dsimp only at hSw);(try obtain⟨hSw1,hSw2,hSw3⟩:=hSw);go_simp<;>with_reducible rfl));(try simp only[Act.put,List.getElem_toArray,List.getElem_cons_zero,List.getElem_cons_succ,List.setIfInBounds_toArray,List.set_cons_zero,List.set_cons_succ])
   refine aP (i:=3) (v:=?_) rfl (by kernel_rfl) (by kernel_rfl) (by kernel_rfl) (by kernel_rfl) (by kernel_rfl) (fun _ _ _ h=>h) (Or.inl ⟨by rfl,?_⟩) (by assumption) ?_;rotate_left;(focus (intro w hSw;(try dsimp only at hSw);(try obtain⟨hSw1,hSw2,hSw3⟩:=hSw);go_simp<;>with_reducible rfl));(try simp only[Act.put,List.getElem_toArray,List.getElem_cons_zero,List.getElem_cons_succ,List.setIfInBounds_toArray,List.set_cons_zero,List.set_cons_succ])
   refine aP (i:=6) (v:=?_) rfl (by kernel_rfl) (by kernel_rfl) (by kernel_rfl) (by kernel_rfl) (by kernel_rfl) (fun _ _ _ h=>h) (Or.inl ⟨by rfl,?_⟩) (by assumption) ?_;rotate_left;(focus (intro w hSw;(try dsimp only at hSw);(try obtain⟨hSw1,hSw2,hSw3⟩:=hSw);go_simp<;>with_reducible rfl));(try simp only[Act.put,List.getElem_toArray,List.getElem_cons_zero,List.getElem_cons_succ,List.setIfInBounds_toArray,List.set_cons_zero,List.set_cons_succ])
   obtain⟨Z,hZ,hbZ,hzZ,hcZ⟩:=aL Y.drew (.cells #[.slice b5 m5 d5,.slice b6 m6 d6] 27)
   have hbZ1:Below Y.heap.size Y Z:=((Below.refl _ Y).drew).trans hbZ
   refine bD (i:=4) (by kernel_rfl) rfl rfl (aT (CB rfl (by rfl) (by rfl) _) ?_)
   rw[hZ]
   refine ⟨.inl (HS.out Z hbZ1),?_⟩
   simp only[Act.put,List.getElem_toArray,List.getElem_cons_zero,List.getElem_cons_succ,List.setIfInBounds_toArray,List.set_cons_zero,List.set_cons_succ]
   have hCZ:=HC.out.dG hbZ1
   obtain⟨_,hon,hwh,_,_⟩:=eZ.slices hCZ.stm
   have hle:w.heap.size≤Z.heap.size:=hCZ.bel.size
   have hwid : ∀{xs:List Ex} {v:Value},aQ 8 gu (fun b=>b<w.heap.size) Z xs v→aQ 8 gu (fun b=>b<Z.heap.size) Z xs v:=fun h=>h.to (by decide) (R:=fun _=>False) (aA.refl _ _) (fun b hb _=>⟨id,Nat.lt_of_lt_of_le hb hle⟩) (fun _ _ e=>e.to (R:=fun _=>False) (aA.refl _ _) (fun b hb _=>⟨id,Nat.lt_of_lt_of_le hb hle⟩))
   refine dL (i:=5) #[.slice (some ⟨Y.drew.heap.size,0,none⟩) 2 2] (fun v V=>aQ 8 gu (fun _=>True) V (s.on++s.wh) v∧Below Z.heap.size Z V) (by kernel_rfl) rfl rfl rfl (by kernel_rfl) (enters_of Tryz.func60 (by kernel_rfl) rfl) ((yS s.on s.wh b5 b6 m5 d5 m6 d6 Y.drew.heap.size Z (hwid hon) (hwid hwh) hcZ (by omega)).mono (fun e V h=>by obtain⟨v,q1,q2,q3⟩:=h;exact⟨v,q1,q2,q3⟩)) ?_
   rintro vc V5 ⟨hcat,hb5⟩
   have hb51:Below Y.heap.size Y V5:=hbZ1.trans (hb5.mono hbZ1.size)
   obtain⟨va,vd,rfl⟩:=hcat.form
   refine ⟨HS.out V5 hb51,?_⟩
   simp only[Act.put,List.getElem_toArray,List.getElem_cons_zero,List.getElem_cons_succ,List.setIfInBounds_toArray,List.set_cons_zero,List.set_cons_succ]
   refine dL (i:=7) #[(.slice la ln lc)] (fun v V=>v = .func (.func 58) #[] #[.pointer (some ⟨V5.heap.size,0,none⟩)]∧V.heap[V5.heap.size]?=some (.cells #[(.slice la ln lc)] 22)∧Below V5.heap.size V5 V) (by kernel_rfl) rfl rfl rfl (by kernel_rfl) (enters_of Tryz.func24 (by kernel_rfl) rfl) ((pR _ _ _ V5).mono (fun e V h=>⟨_,h.1,rfl,h.2.1,h.2.2⟩)) ?_
   rintro _ V7 ⟨rfl,hc7,hb7⟩
   have hb71:Below Y.heap.size Y V7:=hb51.trans (hb7.mono hb51.size)
   refine ⟨HS.out V7 hb71,?_⟩
   simp only[Act.put,List.getElem_toArray,List.getElem_cons_zero,List.getElem_cons_succ,List.setIfInBounds_toArray,List.set_cons_zero,List.set_cons_succ]
   have hC7:=HC.out.dG hb71
   refine dL (i:=8) #[.slice va (s.on++s.wh).length vd,.func (.func 58) #[] #[.pointer (some ⟨V5.heap.size,0,none⟩)]] (fun v V=>v = .int .i64 r1∧Below V7.heap.size V7 V) (by kernel_rfl) rfl rfl rfl (by kernel_rfl) (enters_of Tryz.func23 (by kernel_rfl) rfl)
    ((nu (fun b=>b<N) (fun _=>True) L (s.on++s.wh) _ _ V5.heap.size V7 (HW.out.on hC7.bel) HGO.out (hcat.to (by decide) (R:=fun _=>False) (aA.aC hb7) (fun b hb _=>⟨id,hb⟩) (fun _ _ e=>e.to (R:=fun _=>False) (aA.aC hb7) (fun b hb _=>⟨id,hb⟩))) (by rw[aD _ _ _ _ _ _ hc7];rfl) (World.lt_of_block hc7) hC7.sl HKL.out (by omega)).mono (fun e V h=>⟨_,h.1,by rw[HR1.out],h.2⟩)) ?_
   rintro _ V8 ⟨rfl,hb8⟩
   have hb81:Below Y.heap.size Y V8:=hb71.trans (hb8.mono hb71.size)
   refine ⟨HS.out V8 hb81,?_⟩
   simp only[Act.put,List.getElem_toArray,List.getElem_cons_zero,List.getElem_cons_succ,List.setIfInBounds_toArray,List.set_cons_zero,List.set_cons_succ]
   refine bD (i:=9) (by kernel_rfl) rfl rfl (aT (iR rfl (by rfl) _) ⟨.inl (HS.out V8 hb81),?_⟩)
   simp only[Act.put,List.getElem_toArray,List.getElem_cons_zero,List.getElem_cons_succ,List.setIfInBounds_toArray,List.set_cons_zero,List.set_cons_succ]
   refine bV (by kernel_rfl) ?_ _
   show Only _ .normal _ _
   unfold Only
   have HC8:=hid (HC.out.dG hb81)
   clear hS0
   go_wp2_with fail
   go_meet
   exact⟨rfl,HC8⟩
  case rest =>
   obtain⟨rfl,HC4⟩:=hcut
   clear HC hzY
   have kS:=ay HC4.out.st
   have kP:wc.cell? ⟨p,0,none⟩=some (.slice la ln lc):=by rw[aD _ _ _ _ _ _ HC4.out.pb];rfl
   by_cases h1z:r1=0
   ·have H1:=hid h1z
    have h1b:(r1 != 0)=false:=by rw[h1z];rfl
    clear h1z
    go_wp2_with fail
    clear kS kP
    go_cut [10] (fun u10 wx=>∃xb:Nat,u10 = .pointer (some ⟨xb,0,none⟩)∧Hid (N≤xb)∧Hid (om w wx N p s #[.int .i64 s.k,.string (aj s.tb),.slice b1 m1 d1,.string (aj s.prim),.slice b2 m2 d2,.slice b3 m3 d3,.slice b4 m4 d4,.string (aj s.jn),.slice b5 m5 d5,.slice b6 m6 d6,.slice b7 m7 d7,.slice b8 m8 d8,.bool s.desc,.int .i64 s.lim] L (.slice la ln lc))∧Hid (wx.heap[xb]?=some (.cells #[.slice la ln lc,.bool gb,.slice none 0 0] 115)))
    case first =>
     have HS:Hid (∀V,Below wc.heap.size wc V→V.cell? ⟨p,0,none⟩=some (.slice la ln lc)∧V.cell? ⟨w.heap.size+1,0,none⟩=some (.int .i64 s.k)∧(V.cell? ⟨w.heap.size+1,1,none⟩=some (.string (aj s.tb))∧V.cell? ⟨w.heap.size+1,2,none⟩=some (.slice b1 m1 d1)∧V.cell? ⟨w.heap.size+1,3,none⟩=some (.string (aj s.prim))∧V.cell? ⟨w.heap.size+1,4,none⟩=some (.slice b2 m2 d2)∧V.cell? ⟨w.heap.size+1,5,none⟩=some (.slice b3 m3 d3)∧V.cell? ⟨w.heap.size+1,6,none⟩=some (.slice b4 m4 d4)∧V.cell? ⟨w.heap.size+1,7,none⟩=some (.string (aj s.jn))∧V.cell? ⟨w.heap.size+1,8,none⟩=some (.slice b5 m5 d5)∧V.cell? ⟨w.heap.size+1,9,none⟩=some (.slice b6 m6 d6)∧V.cell? ⟨w.heap.size+1,10,none⟩=some (.slice b7 m7 d7)∧V.cell? ⟨w.heap.size+1,11,none⟩=some (.slice b8 m8 d8)∧V.cell? ⟨w.heap.size+1,12,none⟩=some (.bool s.desc)∧V.cell? ⟨w.heap.size+1,13,none⟩=some (.int .i64 s.lim))):=hid (fun V hV=>by
      have q:=HC4.out.dG hV
      exact⟨by rw[aD _ _ _ _ _ _ q.pb];rfl,ay q.st⟩)
     have hS0:=HS.out wc.drew (Below.refl _ wc).drew
     have hNc:=HC4.out.leN
     have hd:Below wc.heap.size wc wc.drew:=(Below.refl _ wc).drew
     refine dB (fun V:World=>V.cell? ⟨p,0,none⟩=some (.slice la ln lc)∧V.cell? ⟨w.heap.size+1,0,none⟩=some (.int .i64 s.k)∧(V.cell? ⟨w.heap.size+1,1,none⟩=some (.string (aj s.tb))∧V.cell? ⟨w.heap.size+1,2,none⟩=some (.slice b1 m1 d1)∧V.cell? ⟨w.heap.size+1,3,none⟩=some (.string (aj s.prim))∧V.cell? ⟨w.heap.size+1,4,none⟩=some (.slice b2 m2 d2)∧V.cell? ⟨w.heap.size+1,5,none⟩=some (.slice b3 m3 d3)∧V.cell? ⟨w.heap.size+1,6,none⟩=some (.slice b4 m4 d4)∧V.cell? ⟨w.heap.size+1,7,none⟩=some (.string (aj s.jn))∧V.cell? ⟨w.heap.size+1,8,none⟩=some (.slice b5 m5 d5)∧V.cell? ⟨w.heap.size+1,9,none⟩=some (.slice b6 m6 d6)∧V.cell? ⟨w.heap.size+1,10,none⟩=some (.slice b7 m7 d7)∧V.cell? ⟨w.heap.size+1,11,none⟩=some (.slice b8 m8 d8)∧V.cell? ⟨w.heap.size+1,12,none⟩=some (.bool s.desc)∧V.cell? ⟨w.heap.size+1,13,none⟩=some (.int .i64 s.lim))) [5] (by kernel_rfl) ?_
     refine aP (i:=0) (v:=?_) rfl (by kernel_rfl) (by kernel_rfl) (by kernel_rfl) (by kernel_rfl) (by kernel_rfl) (fun _ _ _ h=>h) (Or.inl ⟨by rfl,?_⟩) (by assumption) ?_;rotate_left;(focus (intro w hSw;(try dsimp only at hSw);(try obtain⟨hSw1,hSw2,hSw3⟩:=hSw);go_simp<;>with_reducible rfl));(try simp only[Act.put,List.getElem_toArray,List.getElem_cons_zero,List.getElem_cons_succ,List.setIfInBounds_toArray,List.set_cons_zero,List.set_cons_succ])
     refine aP (i:=1) (v:=?_) rfl (by kernel_rfl) (by kernel_rfl) (by kernel_rfl) (by kernel_rfl) (by kernel_rfl) (fun _ _ _ h=>h) (Or.inl ⟨by rfl,?_⟩) (by assumption) ?_;rotate_left;(focus (intro w hSw;(try dsimp only at hSw);(try obtain⟨hSw1,hSw2,hSw3⟩:=hSw);go_simp<;>with_reducible rfl));(try simp only[Act.put,List.getElem_toArray,List.getElem_cons_zero,List.getElem_cons_succ,List.setIfInBounds_toArray,List.set_cons_zero,List.set_cons_succ])
     refine jd (i:=2) (j:=4) (by kernel_rfl) rfl rfl rfl rfl ?_ ?_
     ·have hCC:=HC4.out.dG hd
      refine D8 #[.agg #[.int .i64 s.k,.string (aj s.tb),.slice b1 m1 d1,.string (aj s.prim),.slice b2 m2 d2,.slice b3 m3 d3,.slice b4 m4 d4,.string (aj s.jn),.slice b5 m5 d5,.slice b6 m6 d6,.slice b7 m7 d7,.slice b8 m8 d8,.bool s.desc,.int .i64 s.lim]] (fun v V=>v = .bool gb∧Below wc.drew.heap.size wc.drew V) rfl (by kernel_rfl) (enters_of Tryz.func61 (by kernel_rfl) rfl) ((lq (fun b=>b<w.heap.size) s _ wc.drew hCC.stm).mono (fun e V h=>⟨_,h.1,by rw[HRG.out],h.2⟩)) ?_
      rintro _ V2 ⟨rfl,hb2⟩
      have hb21:Below wc.heap.size wc V2:=hd.trans hb2
      refine ⟨.inl (HS.out V2 hb21),?_⟩
      simp only[Act.put,List.getElem_toArray,List.getElem_cons_zero,List.getElem_cons_succ,List.setIfInBounds_toArray,List.set_cons_zero,List.set_cons_succ]
      refine jd (i:=3) (j:=4) (by kernel_rfl) rfl rfl rfl rfl ?_ ?_
      ·refine aT (qH rfl (by rfl) (by rfl) _) ⟨.inl (HS.out V2 hb21),?_⟩
       simp only[Act.put,List.getElem_toArray,List.getElem_cons_zero,List.getElem_cons_succ,List.setIfInBounds_toArray,List.set_cons_zero,List.set_cons_succ]
       obtain⟨X,hX,hbX,hzX,hcX⟩:=aL V2 (.cells #[.slice none 0 0,.bool false,.slice none 0 0] 115)
       have hbX1:=hb21.trans (hbX.mono hb21.size)
       refine bD (i:=4) (by kernel_rfl) rfl rfl (aT (qG _ _ rfl _) ?_)
       rw[hX]
       refine ⟨.inl (HS.out X hbX1),?_⟩
       simp only[Act.put,List.getElem_toArray,List.getElem_cons_zero,List.getElem_cons_succ,List.setIfInBounds_toArray,List.set_cons_zero,List.set_cons_succ]
       have hzN:N≤V2.heap.size:=by first | exact hNc | exact Nat.le_trans hNc hb21.size
       refine j6 (i:=5) (by kernel_rfl) rfl rfl 115 (.tmp 10) (.tmp 39) rfl V2.heap.size #[.slice la ln lc,.bool gb,.slice none 0 0] (by rfl) (by rfl) 115 _ hcX Tryz.pG rfl (yP _ _ _ _ _ _ _) (.inr (by simp)) ?_
       simp only[Act.put,List.getElem_toArray,List.getElem_cons_zero,List.getElem_cons_succ,List.setIfInBounds_toArray,List.set_cons_zero,List.set_cons_succ]
       have HX9:=hid (setRow_heap _ _ _ #[.slice la ln lc,.bool gb,.slice none 0 0] _ _ hcX)
       have HXN:Hid (N≤V2.heap.size):=hid hzN
       have HC9:=hid ((HC4.out.dG hbX1).qh (R:=fun b=>b=V2.heap.size) ((aA.refl (fun b=>b=V2.heap.size) X).setRow (p:=V2.heap.size) (.inl rfl) #[.slice la ln lc,.bool gb,.slice none 0 0]) (fun b e=>by rw[e];exact hzN))
       refine bV (by kernel_rfl) ?_ _
       show Only _ .normal _ _
       unfold Only
       clear hS0
       go_wp2_with fail
       go_meet
       exact⟨_,rfl,HXN,HC9,HX9⟩
      ·obtain⟨X,hX,hbX,hzX,hcX⟩:=aL V2 (.cells #[.slice none 0 0,.bool false,.slice none 0 0] 115)
       have hbX1:=hb21.trans (hbX.mono hb21.size)
       refine aT (qG _ _ rfl _) ?_
       rw[hX]
       refine ⟨.inl (HS.out X hbX1),?_⟩
       simp only[Act.put,List.getElem_toArray,List.getElem_cons_zero,List.getElem_cons_succ,List.setIfInBounds_toArray,List.set_cons_zero,List.set_cons_succ]
       refine bD (i:=3) (by kernel_rfl) rfl rfl (aT (qH rfl (by rfl) (by rfl) _) ⟨.inl (HS.out X hbX1),?_⟩)
       simp only[Act.put,List.getElem_toArray,List.getElem_cons_zero,List.getElem_cons_succ,List.setIfInBounds_toArray,List.set_cons_zero,List.set_cons_succ]
       have hzN:N≤V2.heap.size:=by first | exact hNc | exact Nat.le_trans hNc hb21.size
       refine j6 (i:=5) (by kernel_rfl) rfl rfl 115 (.tmp 10) (.tmp 39) rfl V2.heap.size #[.slice la ln lc,.bool gb,.slice none 0 0] (by rfl) (by rfl) 115 _ hcX Tryz.pG rfl (yP _ _ _ _ _ _ _) (.inr (by simp)) ?_
       simp only[Act.put,List.getElem_toArray,List.getElem_cons_zero,List.getElem_cons_succ,List.setIfInBounds_toArray,List.set_cons_zero,List.set_cons_succ]
       have HX9:=hid (setRow_heap _ _ _ #[.slice la ln lc,.bool gb,.slice none 0 0] _ _ hcX)
       have HXN:Hid (N≤V2.heap.size):=hid hzN
       have HC9:=hid ((HC4.out.dG hbX1).qh (R:=fun b=>b=V2.heap.size) ((aA.refl (fun b=>b=V2.heap.size) X).setRow (p:=V2.heap.size) (.inl rfl) #[.slice la ln lc,.bool gb,.slice none 0 0]) (fun b e=>by rw[e];exact hzN))
       refine bV (by kernel_rfl) ?_ _
       show Only _ .normal _ _
       unfold Only
       clear hS0
       go_wp2_with fail
       go_meet
       exact⟨_,rfl,HXN,HC9,HX9⟩
     ·obtain⟨X0,hX0,hbX0,hzX0,hcX0⟩:=aL wc.drew (.cells #[.slice none 0 0,.bool false,.slice none 0 0] 115)
      have hbX01:=hd.trans hbX0
      refine aT (qG _ _ rfl _) ?_
      rw[hX0]
      refine ⟨.inl (HS.out X0 hbX01),?_⟩
      simp only[Act.put,List.getElem_toArray,List.getElem_cons_zero,List.getElem_cons_succ,List.setIfInBounds_toArray,List.set_cons_zero,List.set_cons_succ]
      have hCC:=HC4.out.dG hbX01
      refine dL (i:=2) #[.agg #[.int .i64 s.k,.string (aj s.tb),.slice b1 m1 d1,.string (aj s.prim),.slice b2 m2 d2,.slice b3 m3 d3,.slice b4 m4 d4,.string (aj s.jn),.slice b5 m5 d5,.slice b6 m6 d6,.slice b7 m7 d7,.slice b8 m8 d8,.bool s.desc,.int .i64 s.lim]] (fun v V=>v = .bool gb∧Below X0.heap.size X0 V) (by kernel_rfl) rfl rfl rfl (by kernel_rfl) (enters_of Tryz.func61 (by kernel_rfl) rfl) ((lq (fun b=>b<w.heap.size) s _ X0 hCC.stm).mono (fun e V h=>⟨_,h.1,by rw[HRG.out],h.2⟩)) ?_
      rintro _ X ⟨rfl,hbX⟩
      have hbX1:=hbX01.trans (hbX.mono hbX01.size)
      have hcX:=(hbX.block _ hzX0).trans hcX0
      refine ⟨HS.out X hbX1,?_⟩
      simp only[Act.put,List.getElem_toArray,List.getElem_cons_zero,List.getElem_cons_succ,List.setIfInBounds_toArray,List.set_cons_zero,List.set_cons_succ]
      refine bD (i:=3) (by kernel_rfl) rfl rfl (aT (qH rfl (by rfl) (by rfl) _) ⟨.inl (HS.out X hbX1),?_⟩)
      simp only[Act.put,List.getElem_toArray,List.getElem_cons_zero,List.getElem_cons_succ,List.setIfInBounds_toArray,List.set_cons_zero,List.set_cons_succ]
      have hzN:N≤wc.drew.heap.size:=by first | exact hNc | exact Nat.le_trans hNc hb21.size
      refine j6 (i:=5) (by kernel_rfl) rfl rfl 115 (.tmp 10) (.tmp 39) rfl wc.drew.heap.size #[.slice la ln lc,.bool gb,.slice none 0 0] (by rfl) (by rfl) 115 _ hcX Tryz.pG rfl (yP _ _ _ _ _ _ _) (.inr (by simp)) ?_
      simp only[Act.put,List.getElem_toArray,List.getElem_cons_zero,List.getElem_cons_succ,List.setIfInBounds_toArray,List.set_cons_zero,List.set_cons_succ]
      have HX9:=hid (setRow_heap _ _ _ #[.slice la ln lc,.bool gb,.slice none 0 0] _ _ hcX)
      have HXN:Hid (N≤wc.drew.heap.size):=hid hzN
      have HC9:=hid ((HC4.out.dG hbX1).qh (R:=fun b=>b=wc.drew.heap.size) ((aA.refl (fun b=>b=wc.drew.heap.size) X).setRow (p:=wc.drew.heap.size) (.inl rfl) #[.slice la ln lc,.bool gb,.slice none 0 0]) (fun b e=>by rw[e];exact hzN))
      refine bV (by kernel_rfl) ?_ _
      show Only _ .normal _ _
      unfold Only
      clear hS0
      go_wp2_with fail
      go_meet
      exact⟨_,rfl,HXN,HC9,HX9⟩
    case rest =>
     obtain⟨xb,rfl,HXN,HC7,HX7⟩:=hcut
     clear HC4
     obtain⟨_,_,_,hgr,_⟩:=eZ.slices HC7.out.stm
     have HG:=hid (yD w wc N p xb s _ L _ _ _ HW.out HC7.out hgr HGG.out h1 HKL.out (by omega) HXN.out HX7.out)
     rw[HR2.out] at HG
     have kS:=ay HC7.out.st
     have kP:wc.cell? ⟨p,0,none⟩=some (.slice la ln lc):=by rw[aD _ _ _ _ _ _ HC7.out.pb];rfl
     clear hgr
     by_cases h2z:r2=0
     ·have H2:=hid h2z
      have h2b:(r2 != 0)=false:=by rw[h2z];rfl
      go_wp2_with fail
      refine HG.out.mono ?_
      rintro e w2 ⟨rfl,hg2,_⟩
      obtain⟨ga,gn,gc,hC8,hX8,hGr⟩:=hg2 h2z
      have HC8:=hid hC8
      have HX8:=hid hX8
      have HGr:=hid hGr
      clear HC7 HX7 HG hg2 kS kP h2z hC8 hX8 hGr
      have kS:=ay HC8.out.st
      have kP:w2.cell? ⟨p,0,none⟩=some (.slice la ln lc):=by rw[aD _ _ _ _ _ _ HC8.out.pb];rfl
      have kX:=aH HX8.out
      obtain⟨hit,_,_,_,hod⟩:=eZ.slices HC8.out.stm
      have HSA:Hid (nO (fun b=>b<N) (fun _=>True) L gb (s.gr.map fun e=>(aR L e).1) w2 #[.slice la ln lc,.bool gb,.slice ga gn gc]):=hid ⟨_,_,_,_,_,_,rfl,HC8.out.sl,HGr.out⟩
      have HI:=hid (vF (fun b=>b<w.heap.size) 64 #[.agg #[.slice la ln lc,.bool gb,.slice ga gn gc]] #[] (enters_of Tryz.func64 (by kernel_rfl) rfl) (nS L gb (s.gr.map fun e=>(aR L e).1)) s.items _ w2 hit (hid fun i him V hV ds hds=>Cy (fun b=>b<N) (fun _=>True) (fun b=>b<w.heap.size) L gb _ i ds _ V (HW.out.on (HC8.out.dG hV).bel) (HGI.out i him) hds (HSA.out.lU hV) HKL.out (by omega)))
      rw[HR3.out] at HI
      clear hit hod
      by_cases h3z:r3=0
      ·have H3:=hid h3z
       have h3b:(r3 != 0)=false:=by rw[h3z];rfl
       clear h3z
       go_wp2_with fail
       refine HI.out.mono ?_
       rintro e w3 ⟨rfl,hb3⟩
       have HC9:=hid (HC8.out.dG hb3)
       have HX9:=hid ((hb3.block _ (World.lt_of_block HX8.out)).trans HX8.out)
       have HSA9:=hid (HSA.out.lU hb3)
       clear HC8 HX8 HSA HI HGr kS kP kX hb3
       have kS:=ay HC9.out.st
       have kP:w3.cell? ⟨p,0,none⟩=some (.slice la ln lc):=by rw[aD _ _ _ _ _ _ HC9.out.pb];rfl
       have kX:=aH HX9.out
       obtain⟨_,_,_,_,hod⟩:=eZ.slices HC9.out.stm
       have HO:=hid (jJ (fun b=>b<w.heap.size) 65 #[.agg #[.slice la ln lc,.bool gb,.slice ga gn gc]] #[] (enters_of Tryz.func65 (by kernel_rfl) rfl) (fun x=>ig gb (s.gr.map fun e=>(aR L e).1) (aR L x)) s.od _ w3 hod (hid fun x hxm V hV ds hds=>AV (fun b=>b<N) (fun _=>True) (fun b=>b<w.heap.size) L gb _ x _ _ V (HW.out.on (HC9.out.dG hV).bel) (HGD.out x hxm) hds.v (HSA9.out.lU hV) HKL.out (by omega)))
       rw[HR4.out] at HO
       clear hod
       by_cases h4z:r4=0
       ·have H4:=hid h4z
        have h4b:(r4 != 0)=false:=by rw[h4z];rfl
        clear h4z
        cases gb with
        |
         true =>
         go_wp2_with fail
         refine HO.out.mono ?_
         rintro e w4 ⟨rfl,hb4⟩
         have HC10:=hid (HC9.out.dG hb4)
         have kX:=aH ((hb4.block _ (World.lt_of_block HX9.out)).trans HX9.out)
         have kS:=ay HC10.out.st
         clear HO HC9 HSA9 hb4
         go_wp2_with fail
         go_ret
         exact⟨congrArg (fun x=>Ending.returned (Value.int .i64 x)) (show 0=rr from by rw[← HRR.out,qW,if_neg (fun h=>h H1.out),if_neg (fun h=>h H2.out),if_neg (fun h=>h H3.out),if_neg (fun h=>h H4.out),if_neg (fun h=>by cases h.1)]),HC10.out.bel⟩
        |
         false =>
         by_cases h8:8<wn
         ·have HQ:Hid (rr=4):=hid (by rw[← HRR.out,qW,if_neg (fun h=>h H1.out),if_neg (fun h=>h H2.out),if_neg (fun h=>h H3.out),if_neg (fun h=>h H4.out),if_pos ⟨rfl,h8⟩])
          have h8b:((8:Int)<(wn:Int)):=by omega
          clear h8
          go_wp2_with fail
          refine HO.out.mono ?_
          rintro e w4 ⟨rfl,hb4⟩
          have HC10:=hid (HC9.out.dG hb4)
          have kX:=aH ((hb4.block _ (World.lt_of_block HX9.out)).trans HX9.out)
          have kS:=ay HC10.out.st
          obtain⟨hit,_,_,_,_⟩:=eZ.slices HC10.out.stm
          have HWD:=hid (sI (fun b=>b<N) (fun _=>True) (fun b=>b<w.heap.size) L false (s.gr.map fun e=>(aR L e).1) s.items _ _ w4 hit (HSA9.out.lU hb4) HKL.out (by omega) h3)
          rw[HRW.out] at HWD
          clear HO HC9 HSA9 hb4 hit
          go_wp2_with fail
          refine HWD.out.mono ?_
          rintro e w5 ⟨rfl,hb5⟩
          have HB9:=hid (HC10.out.dG hb5).bel
          clear hb5 HWD HC10
          go_wp2_with fail
          go_ret
          exact⟨congrArg (fun x=>Ending.returned (Value.int .i64 x)) HQ.out.symm,HB9.out⟩
         ·have HQ:Hid (rr=0):=hid (by rw[← HRR.out,qW,if_neg (fun h=>h H1.out),if_neg (fun h=>h H2.out),if_neg (fun h=>h H3.out),if_neg (fun h=>h H4.out),if_neg (fun h=>h8 h.2)])
          have h8b : ¬((8:Int)<(wn:Int)):=by omega
          clear h8
          go_wp2_with fail
          refine HO.out.mono ?_
          rintro e w4 ⟨rfl,hb4⟩
          have HC10:=hid (HC9.out.dG hb4)
          have kX:=aH ((hb4.block _ (World.lt_of_block HX9.out)).trans HX9.out)
          have kS:=ay HC10.out.st
          obtain⟨hit,_,_,_,_⟩:=eZ.slices HC10.out.stm
          have HWD:=hid (sI (fun b=>b<N) (fun _=>True) (fun b=>b<w.heap.size) L false (s.gr.map fun e=>(aR L e).1) s.items _ _ w4 hit (HSA9.out.lU hb4) HKL.out (by omega) h3)
          rw[HRW.out] at HWD
          clear HO HC9 HSA9 hb4 hit
          go_wp2_with fail
          refine HWD.out.mono ?_
          rintro e w5 ⟨rfl,hb5⟩
          have HB9:=hid (HC10.out.dG hb5).bel
          clear hb5 HWD HC10
          go_wp2_with fail
          go_ret
          exact⟨congrArg (fun x=>Ending.returned (Value.int .i64 x)) HQ.out.symm,HB9.out⟩
       ·have H4:=hid h4z
        have h4b:(r4 != 0)=true:=by simpa using h4z
        clear h4z
        go_wp2_with fail
        refine HO.out.mono ?_
        rintro e w4 ⟨rfl,hb4⟩
        have HB9:=hid (HC9.out.dG hb4).bel
        clear hb4 HO
        go_wp2_with fail
        go_ret
        exact⟨congrArg (fun x=>Ending.returned (Value.int .i64 x)) (show r4=rr from by rw[← HRR.out,qW,if_neg (fun h=>h H1.out),if_neg (fun h=>h H2.out),if_neg (fun h=>h H3.out),if_pos H4.out]),HB9.out⟩
      ·have H3:=hid h3z
       have h3b:(r3 != 0)=true:=by simpa using h3z
       clear h3z
       go_wp2_with fail
       refine HI.out.mono ?_
       rintro e w3 ⟨rfl,hb3⟩
       have HB9:=hid (HC8.out.dG hb3).bel
       clear hb3 HI
       go_wp2_with fail
       go_ret
       exact⟨congrArg (fun x=>Ending.returned (Value.int .i64 x)) (show r3=rr from by rw[← HRR.out,qW,if_neg (fun h=>h H1.out),if_neg (fun h=>h H2.out),if_pos H3.out]),HB9.out⟩
     ·have H2:=hid h2z
      have h2b:(r2 != 0)=true:=by simpa using h2z
      go_wp2_with fail
      refine HG.out.mono ?_
      rintro e w2 ⟨rfl,_,hg2⟩
      have HB9:=hid (hg2 h2z)
      clear hg2 HG h2z
      go_wp2_with fail
      go_ret
      exact⟨congrArg (fun x=>Ending.returned (Value.int .i64 x)) (show r2=rr from by rw[← HRR.out,qW,if_neg (fun h=>h H1.out),if_pos H2.out]),HB9.out⟩
   ·have H1:=hid h1z
    have h1b:(r1 != 0)=true:=by simpa using h1z
    clear h1z
    go_wp2_with fail
    go_ret
    exact⟨congrArg (fun x=>Ending.returned (Value.int .i64 x)) (show r1=rr from by rw[← HRR.out,qW,if_pos H1.out]),HC4.out.bel⟩
 ·rw[if_pos hcode]
  have hcb:(code != 0)=true:=by simpa using hcode
  clear hcode
  go_enter Tryz.func25,Tryz.ntmps25
  go_wp2_with fail
  try rw[hWW]
  refine HF.out.mono ?_
  rintro e w1 ⟨la,ln,lc,rfl,hsl,hb1⟩
  obtain⟨Y,hY,hbY,hzY,hcY⟩:=aL w1 (.cells #[(.slice la ln lc)] 22)
  have HB1:=hid (HB.out.trans (hb1.mono HB.out.size))
  have HBY:=hid (HB1.out.trans (hbY.mono HB1.out.size))
  clear hsl hb1 hbY hcY HF HB1 HCB HST HSEL kA kB
  go_wp2_with (first | (refine wpList_store_oneTo rfl 22 (.tmp 7) (.tmp 19) rfl rfl w1.heap.size (.slice la ln lc) rfl rfl rfl 22 _ (heap_alloc_new w1 _) Tryz.vK ?_;rw[aB,hY];clear hY) | fail)
  go_ret
  exact⟨rfl,HBY.out⟩
end Go.Proofs.YtfeglkleoijlaaaGreatDoor
