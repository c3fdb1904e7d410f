import Derived.Test.YtfeglkleoijlaaaGreatDoorY33
namespace Go.Proofs.YtfeglkleoijlaaaGreatDoor
open Go.RowKit Go.Shelf
set_option linter.unusedSimpArgs false
set_option linter.unusedVariables false
set_option maxRecDepth 20000
set_option maxHeartbeats 8000000
def zx (r1 r2 r3 r4:Int) (gb:Bool) (n:Nat):Int :=
 if r1≠0 then r1 else if r2≠0 then r2 else if r3≠0 then r3 else if r4≠0 then r4 else if gb=false∧8<n then 4 else 0
theorem Qa (L:List Tb) (s:St):Nh L s=zx (fE L (s.on++s.wh)) (aO (s.gr.map fun e=>(aI L e).2.2)) (aO (s.items.map (uZ L (cB s) (s.gr.map fun e=>(aI L e).1)))) (aO (s.od.map fun x=>mo (cB s) (s.gr.map fun e=>(aI L e).1) (aI L x))) (cB s) (dD L s.items):=by
 unfold Nh zx
 rw[show s.items.map (iQ L s)=s.items.map (uZ L (cB s) (s.gr.map fun e=>(aI L e).1)) from List.map_congr_left (fun i _=>OP L s i),show s.od.map (lX L s)=s.od.map (fun x=>mo (cB s) (s.gr.map fun e=>(aI L e).1) (aI L x)) from List.map_congr_left (fun i _=>J4 L s i)]
theorem CX (sb mb:Nat) (E:DataW Value) (f:List UInt8→Value) (C:List Tb) (S2:Nat→Prop) (t:Tb) (s:St) (cs sc:List Value) (w:World) (hW:iL w) (hC:iA w sb mb E f C S2) (ht:fG (fun b=>b<w.heap.size) w t cs) (hKt:mR t) (Vd : ∀u∈C,mR u) (hs:fD (fun b=>b<w.heap.size) w s sc)
  (hgo : ∀x∈s.on++s.wh,gW x) (hgg : ∀x∈s.gr,gW x) (hgi : ∀i∈s.items,∀x∈i.xs,gW x) (hgd : ∀x∈s.od,gW x) (h1:s.gr.length≤1) (h2:s.on.length+s.wh.length≤1000) (h3:s.items.length≤1000) (hj:s.jn.length≤maxLen) :
  Calls Tryz.prog 25 #[.pointer (some ⟨sb,0,none⟩),.agg cs.toArray,.agg sc.toArray] w fun e w'=>e = .returned (.int .i64 (mP C t s))∧Below w.heap.size w w':=by
 have hs0:=hs
 have ht0:=ht
 obtain⟨b1,b2,b3,b4,b5,b6,b7,b8,m1,m2,m3,m4,m5,m6,m7,m8,d1,d2,d3,d4,d5,d6,d7,d8,rfl,_⟩:=hs
 obtain⟨a1,n1,c1,rfl,_⟩:=ht
 obtain⟨W,gI,hbW,aJ,hcA,hcB⟩:=two w (.cells #[.string (aj t.nm),.slice a1 n1 c1,.int .i64 t.pr] 42) (.cells #[.int .i64 s.k,.string (aj s.tb),.slice b1 m1 d1,.string (aj s.aD),.slice b2 m2 d2,.slice b3 m3 d3,.slice b4 m4 d4,.string (aj s.jn),.slice b5 m5 d5,.slice b6 m6 d6,.slice b7 m7 d7,.slice b8 m8 d8,.bool s.desc,.int .i64 s.lim] 29)
 have kA:=aH hcA
 have kB:=au hcB
 have HF:=hid (EP sb mb E f C S2 t s.jn _ W (hC.new hbW) ((ht0.on hbW).to (R:=fun _=>False) (T:=fun b=>b<W.heap.size) (ak.refl _ _) (fun b hb _=>⟨id,by show b<W.heap.size;have:b<w.heap.size:=hb;omega⟩)) hj)
 obtain⟨ZY,hnL⟩:=NZ (jn:=s.jn) Vd hKt
 have HST:=hid hs0
 have HB:=hid hbW
 have nP:=hid hcB
 have HW:=hid hW
 unfold mP
 obtain⟨⟨L,code⟩,hR⟩:∃R,lu C t s.jn=R:=⟨_,rfl⟩
 rw[hR] at HF ZY hnL ⊢
 dsimp only at HF ZY hnL ⊢
 have VE:=hid ZY
 have qY:=hid hgo
 have VA:=hid hgg
 have HGI:=hid hgi
 have HGD:=hid hgd
 have F4:=hid (Qa L s)
 clear hbW hcA hcB hs0 ht0 hW hC hR ZY hgo hgg hgi hgd hKt Vd hj
 by_cases hcode:code=0
 ·subst hcode
  rw[if_neg (fun h=>h rfl)]
  obtain⟨r1,hr1⟩:∃r,fE L (s.on++s.wh)=r:=⟨_,rfl⟩
  obtain⟨r2,hr2⟩:∃r,aO (s.gr.map fun e=>(aI L e).2.2)=r:=⟨_,rfl⟩
  obtain⟨r3,hr3⟩:∃r,aO (s.items.map (uZ L (cB s) (s.gr.map fun e=>(aI L e).1)))=r:=⟨_,rfl⟩
  obtain⟨r4,hr4⟩:∃r,aO (s.od.map fun x=>mo (cB s) (s.gr.map fun e=>(aI L e).1) (aI L x))=r:=⟨_,rfl⟩
  obtain⟨gb,hgb⟩:∃r,cB s=r:=⟨_,rfl⟩
  obtain⟨wn,hwn⟩:∃r,dD L s.items=r:=⟨_,rfl⟩
  rw[hgb] at hr3 hr4
  have hsel:=F4.out
  rw[hgb,hr1,hr2,hr3,hr4,hwn] at hsel
  obtain⟨rr,hrr⟩:∃r,zx r1 r2 r3 r4 gb wn=r:=⟨_,rfl⟩
  rw[hsel,hrr]
  have HRR:=hid hrr
  have HR1:=hid hr1
  have HR2:=hid hr2
  have HR3:=hid hr3
  have HR4:=hid hr4
  have OV:=hid hgb
  have HRW:=hid hwn
  clear hr1 hr2 hr3 hr4 hgb hwn hsel hrr F4
  go_enter Tryz.func25,Tryz.ntmps25
  go_wp2_with fail
  try rw[gI]
  refine HF.out.mono ?_
  rintro e w1 ⟨la,ln,lc,rfl,hsl,hb1⟩
  obtain⟨Y,hY,bV,kL,dJ⟩:=aK w1 (.cells #[(.slice la ln lc)] 22)
  have HB1:=htr HB hb1
  have bZ:=htr HB1 bV
  have hz1:=hb1.size
  have HC:Hid (vS w Y Y.heap.size w1.heap.size s #[.int .i64 s.k,.string (aj s.tb),.slice b1 m1 d1,.string (aj s.aD),.slice b2 m2 d2,.slice b3 m3 d3,.slice b4 m4 d4,.string (aj s.jn),.slice b5 m5 d5,.slice b6 m6 d6,.slice b7 m7 d7,.slice b8 m8 d8,.bool s.desc,.int .i64 s.lim] L (.slice la ln lc)):=hid
   ⟨bZ.out,(bV.block _ (by omega)).trans ((hb1.block _ (by omega)).trans nP.out),dJ,⟨by omega,kL⟩,aaF _,
    hsl.to (by decide) (R:=fun _=>False) (ak.aA bV) (fun b hb hlt=>⟨id,by show b<Y.heap.size;omega⟩) (fun _ _ e=>e.to (R:=fun _=>False) (ak.aA bV) (fun b hb hlt=>⟨id,by show b<Y.heap.size;omega⟩)),
    HST.out.to (R:=fun _=>False) (ak.aA bZ.out) (fun b hb _=>⟨id,hb⟩)⟩
  obtain⟨N,hN⟩:∃N,Y.heap.size=N:=⟨_,rfl⟩
  rw[hN] at HC
  have hNY:N≤Y.heap.size:=by omega
  obtain⟨p,hp⟩:∃p,w1.heap.size=p:=⟨_,rfl⟩
  rw[hp] at HC
  clear hsl hb1 bV dJ HF HB1 nP HST kA kB hN
  go_wp2_with (first | (refine wpList_store_oneTo rfl 22 (.tmp 7) (.tmp 19) rfl rfl w1.heap.size (.slice la ln lc) rfl rfl rfl 22 _ (heap_alloc_new w1 _) Tryz.sizeTbsK ?_;rw[bW,hY];clear hY) | fail)
  try rw[hp]
  have hzc:=HC.out.lo
  clear hp
  go_cut [9] (fun u9 wx=>u9 = .int .i64 r1∧Hid (vS w wx N p s #[.int .i64 s.k,.string (aj s.tb),.slice b1 m1 d1,.string (aj s.aD),.slice b2 m2 d2,.slice b3 m3 d3,.slice b4 m4 d4,.string (aj s.jn),.slice b5 m5 d5,.slice b6 m6 d6,.slice b7 m7 d7,.slice b8 m8 d8,.bool s.desc,.int .i64 s.lim] L (.slice la ln lc)))
  case first =>
   have HS:Hid (∀V,Below Y.heap.size Y V→V.cell? ⟨w.heap.size+1,8,none⟩=some (.slice b5 m5 d5)∧V.cell? ⟨w.heap.size+1,9,none⟩=some (.slice b6 m6 d6)∧(V.cell? ⟨p,0,none⟩=some (.slice la ln lc))):=hid (fun V hV=>by
    have q:=HC.out.fQ hV
    have k:=au q.st
    exact⟨k.2.2.2.2.2.2.2.2.1,k.2.2.2.2.2.2.2.2.2.1,by rw[aB _ _ _ _ _ _ q.pb];rfl⟩)
   have hS0:=HS.out Y.drew (Below.refl _ Y).drew
   refine dG (fun V:World=>V.cell? ⟨w.heap.size+1,8,none⟩=some (.slice b5 m5 d5)∧V.cell? ⟨w.heap.size+1,9,none⟩=some (.slice b6 m6 d6)∧(V.cell? ⟨p,0,none⟩=some (.slice la ln lc))) [] (by kernel_rfl) ?_
   refine fF (i:=0) rfl (by assumption) ?_
   refine fF (i:=1) rfl (by assumption) ?_
   refine fF (i:=2) rfl (by assumption) ?_
   refine fF (i:=3) rfl (by assumption) ?_
   refine fF (i:=6) rfl (by assumption) ?_
   obtain⟨Z,hZ,o8,VD,wB⟩:=aK Y.drew (.cells #[.slice b5 m5 d5,.slice b6 m6 d6] 27)
   have jo:Below Y.heap.size Y Z:=((Below.refl _ Y).drew).trans o8
   refine bH (i:=4) (by kernel_rfl) rfl rfl (aW (Lc rfl (by rfl) (by rfl) _) ?_)
   rw[hZ]
   refine ⟨.inl (HS.out Z jo),?_⟩
   simp only[Act.put,aas,aap,aaq,aag,aaw,aay]
   have hCZ:=HC.out.fQ jo
   obtain⟨_,hon,U9,_,_⟩:=fD.slices hCZ.QI
   have hle:w.heap.size≤Z.heap.size:=hCZ.qJ.size
   have Ym : ∀{xs:List Ex} {v:Value},aM 8 jl (fun b=>b<w.heap.size) Z xs v→aM 8 jl (fun b=>b<Z.heap.size) Z xs v:=fun h=>h.to (by decide) (R:=fun _=>False) (ak.refl _ _) (fun b hb _=>⟨id,aa7 hb hle⟩) (fun _ _ e=>e.to (R:=fun _=>False) (ak.refl _ _) (fun b hb _=>⟨id,aa7 hb hle⟩))
   refine dM (i:=5) #[.slice (some ⟨Y.drew.heap.size,0,none⟩) 2 2] (fun v V=>aM 8 jl (fun _=>True) V (s.on++s.wh) v∧Below Z.heap.size Z V) (by kernel_rfl) rfl rfl rfl (by kernel_rfl) (enters_of Tryz.func60 (by kernel_rfl) rfl) ((F6 s.on s.wh b5 b6 m5 d5 m6 d6 Y.drew.heap.size Z (Ym hon) (Ym U9) wB (by omega)).mono (fun e V h=>by obtain⟨v,q1,q2,q3⟩:=h;exact⟨v,q1,q2,q3⟩)) ?_
   rintro vc V5 ⟨Gc,hb5⟩
   have Tg:Below Y.heap.size Y V5:=jo.trans (hb5.mono jo.size)
   obtain⟨va,vd,rfl⟩:=Gc.form
   refine ⟨HS.out V5 Tg,?_⟩
   simp only[Act.put,aas,aap,aaq,aag,aaw,aay]
   refine dM (i:=7) #[(.slice la ln lc)] (fun v V=>v = .func (.func 58) #[] #[.pointer (some ⟨V5.heap.size,0,none⟩)]∧V.heap[V5.heap.size]?=some (.cells #[(.slice la ln lc)] 22)∧Below V5.heap.size V5 V) (by kernel_rfl) rfl rfl rfl (by kernel_rfl) (enters_of Tryz.func24 (by kernel_rfl) rfl) ((yD _ _ _ V5).mono (fun e V h=>⟨_,h.1,rfl,h.2.1,h.2.2⟩)) ?_
   rintro _ V7 ⟨rfl,hc7,Bw⟩
   have Qn:Below Y.heap.size Y V7:=Tg.trans (Bw.mono Tg.size)
   refine ⟨HS.out V7 Qn,?_⟩
   simp only[Act.put,aas,aap,aaq,aag,aaw,aay]
   have hC7:=HC.out.fQ Qn
   refine dM (i:=8) #[.slice va (s.on++s.wh).length vd,.func (.func 58) #[] #[.pointer (some ⟨V5.heap.size,0,none⟩)]] (fun v V=>v = .int .i64 r1∧Below V7.heap.size V7 V) (by kernel_rfl) rfl rfl rfl (by kernel_rfl) (enters_of Tryz.func23 (by kernel_rfl) rfl)
    ((tZ (fun b=>b<N) (fun _=>True) L (s.on++s.wh) _ _ V5.heap.size V7 (HW.out.on hC7.qJ) qY.out (Gc.to (by decide) (R:=fun _=>False) (ak.aA Bw) (fun b hb _=>⟨id,hb⟩) (fun _ _ e=>e.to (R:=fun _=>False) (ak.aA Bw) (fun b hb _=>⟨id,hb⟩))) (by rw[aB _ _ _ _ _ _ hc7];rfl) (World.lt_of_block hc7) hC7.sl VE.out (by omega)).mono (fun e V h=>⟨_,h.1,by rw[HR1.out],h.2⟩)) ?_
   rintro _ V8 ⟨rfl,mg⟩
   have TV:Below Y.heap.size Y V8:=Qn.trans (mg.mono Qn.size)
   refine ⟨HS.out V8 TV,?_⟩
   simp only[Act.put,aas,aap,aaq,aag,aaw,aay]
   refine fF (i:=9) rfl (HS.out V8 TV) ?_
   refine bN (by kernel_rfl) ?_ _
   show Only _ .normal _ _
   unfold Only
   have Pg:=hid (HC.out.fQ TV)
   clear hS0
   go_wp2_with fail
   go_meet
   exact⟨rfl,Pg⟩
  case rest =>
   obtain⟨rfl,Ew⟩:=hcut
   clear HC kL
   have kS:=au Ew.out.st
   have kP:wc.cell? ⟨p,0,none⟩=some (.slice la ln lc):=by rw[aB _ _ _ _ _ _ Ew.out.pb];rfl
   by_cases h1z:r1=0
   ·have H1:=hid h1z
    have h1b:(r1 != 0)=false:=by rw[h1z];rfl
    clear h1z
    go_wp2_with fail
    clear kS kP
    go_cut [10] (fun u10 wx=>∃xb:Nat,u10 = .pointer (some ⟨xb,0,none⟩)∧Hid (N≤xb)∧Hid (vS w wx N p s #[.int .i64 s.k,.string (aj s.tb),.slice b1 m1 d1,.string (aj s.aD),.slice b2 m2 d2,.slice b3 m3 d3,.slice b4 m4 d4,.string (aj s.jn),.slice b5 m5 d5,.slice b6 m6 d6,.slice b7 m7 d7,.slice b8 m8 d8,.bool s.desc,.int .i64 s.lim] L (.slice la ln lc))∧Hid (wx.heap[xb]?=some (.cells #[.slice la ln lc,.bool gb,.slice none 0 0] 115)))
    case first =>
     have HS:Hid (∀V,Below wc.heap.size wc V→V.cell? ⟨p,0,none⟩=some (.slice la ln lc)∧V.cell? ⟨w.heap.size+1,0,none⟩=some (.int .i64 s.k)∧(V.cell? ⟨w.heap.size+1,1,none⟩=some (.string (aj s.tb))∧V.cell? ⟨w.heap.size+1,2,none⟩=some (.slice b1 m1 d1)∧V.cell? ⟨w.heap.size+1,3,none⟩=some (.string (aj s.aD))∧V.cell? ⟨w.heap.size+1,4,none⟩=some (.slice b2 m2 d2)∧V.cell? ⟨w.heap.size+1,5,none⟩=some (.slice b3 m3 d3)∧V.cell? ⟨w.heap.size+1,6,none⟩=some (.slice b4 m4 d4)∧V.cell? ⟨w.heap.size+1,7,none⟩=some (.string (aj s.jn))∧V.cell? ⟨w.heap.size+1,8,none⟩=some (.slice b5 m5 d5)∧V.cell? ⟨w.heap.size+1,9,none⟩=some (.slice b6 m6 d6)∧V.cell? ⟨w.heap.size+1,10,none⟩=some (.slice b7 m7 d7)∧V.cell? ⟨w.heap.size+1,11,none⟩=some (.slice b8 m8 d8)∧V.cell? ⟨w.heap.size+1,12,none⟩=some (.bool s.desc)∧V.cell? ⟨w.heap.size+1,13,none⟩=some (.int .i64 s.lim))):=hid (fun V hV=>by
      have q:=Ew.out.fQ hV
      exact⟨by rw[aB _ _ _ _ _ _ q.pb];rfl,au q.st⟩)
     have hS0:=HS.out wc.drew (Below.refl _ wc).drew
     have hNc:=Ew.out.leN
     have hd:Below wc.heap.size wc wc.drew:=(Below.refl _ wc).drew
     refine dG (fun V:World=>V.cell? ⟨p,0,none⟩=some (.slice la ln lc)∧V.cell? ⟨w.heap.size+1,0,none⟩=some (.int .i64 s.k)∧(V.cell? ⟨w.heap.size+1,1,none⟩=some (.string (aj s.tb))∧V.cell? ⟨w.heap.size+1,2,none⟩=some (.slice b1 m1 d1)∧V.cell? ⟨w.heap.size+1,3,none⟩=some (.string (aj s.aD))∧V.cell? ⟨w.heap.size+1,4,none⟩=some (.slice b2 m2 d2)∧V.cell? ⟨w.heap.size+1,5,none⟩=some (.slice b3 m3 d3)∧V.cell? ⟨w.heap.size+1,6,none⟩=some (.slice b4 m4 d4)∧V.cell? ⟨w.heap.size+1,7,none⟩=some (.string (aj s.jn))∧V.cell? ⟨w.heap.size+1,8,none⟩=some (.slice b5 m5 d5)∧V.cell? ⟨w.heap.size+1,9,none⟩=some (.slice b6 m6 d6)∧V.cell? ⟨w.heap.size+1,10,none⟩=some (.slice b7 m7 d7)∧V.cell? ⟨w.heap.size+1,11,none⟩=some (.slice b8 m8 d8)∧V.cell? ⟨w.heap.size+1,12,none⟩=some (.bool s.desc)∧V.cell? ⟨w.heap.size+1,13,none⟩=some (.int .i64 s.lim))) [5] (by kernel_rfl) ?_
     refine fF (i:=0) rfl (by assumption) ?_
     refine fF (i:=1) rfl (by assumption) ?_
     refine jS (i:=2) (j:=4) (by kernel_rfl) rfl rfl rfl rfl ?_ ?_
     ·have hCC:=Ew.out.fQ hd
      refine Ec #[.agg #[.int .i64 s.k,.string (aj s.tb),.slice b1 m1 d1,.string (aj s.aD),.slice b2 m2 d2,.slice b3 m3 d3,.slice b4 m4 d4,.string (aj s.jn),.slice b5 m5 d5,.slice b6 m6 d6,.slice b7 m7 d7,.slice b8 m8 d8,.bool s.desc,.int .i64 s.lim]] (fun v V=>v = .bool gb∧Below wc.drew.heap.size wc.drew V) rfl (by kernel_rfl) (enters_of Tryz.func61 (by kernel_rfl) rfl) ((qK (fun b=>b<w.heap.size) s _ wc.drew hCC.QI).mono (fun e V h=>⟨_,h.1,by rw[OV.out],h.2⟩)) ?_
      rintro _ V2 ⟨rfl,hb2⟩
      have Cm:Below wc.heap.size wc V2:=hd.trans hb2
      refine ⟨.inl (HS.out V2 Cm),?_⟩
      simp only[Act.put,aas,aap,aaq,aag,aaw,aay]
      refine jS (i:=3) (j:=4) (by kernel_rfl) rfl rfl rfl rfl ?_ ?_
      ·refine aW (xq rfl (by rfl) (by rfl) _) ⟨.inl (HS.out V2 Cm),?_⟩
       simp only[Act.put,aas,aap,aaq,aag,aaw,aay]
       obtain⟨X,hX,hbX,ZR,vC⟩:=aK V2 (.cells #[.slice none 0 0,.bool false,.slice none 0 0] 115)
       have pF:=Cm.trans (hbX.mono Cm.size)
       refine bH (i:=4) (by kernel_rfl) rfl rfl (aW (yT _ _ rfl _) ?_)
       rw[hX]
       refine ⟨.inl (HS.out X pF),?_⟩
       simp only[Act.put,aas,aap,aaq,aag,aaw,aay]
       have R9:N≤V2.heap.size:=by first | exact hNc | exact Nat.le_trans hNc Cm.size
       refine jf (i:=5) (by kernel_rfl) rfl rfl 115 (.tmp 10) (.tmp 39) rfl V2.heap.size #[.slice la ln lc,.bool gb,.slice none 0 0] (by rfl) (by rfl) 115 _ vC Tryz.sizeSelK rfl (GX _ _ _ _ _ _ _) (.inr (by simp)) ?_
       simp only[Act.put,aas,aap,aaq,aag,aaw,aay]
       have JB:=hid (setRow_heap _ _ _ #[.slice la ln lc,.bool gb,.slice none 0 0] _ _ vC)
       have qV:Hid (N≤V2.heap.size):=hid R9
       have Er:=hid ((Ew.out.fQ pF).xY (R:=fun b=>b=V2.heap.size) ((ak.refl (fun b=>b=V2.heap.size) X).setRow (p:=V2.heap.size) (.inl rfl) #[.slice la ln lc,.bool gb,.slice none 0 0]) (fun b e=>by rw[e];exact R9))
       refine bN (by kernel_rfl) ?_ _
       show Only _ .normal _ _
       unfold Only
       clear hS0
       go_wp2_with fail
       go_meet
       exact⟨_,rfl,qV,Er,JB⟩
      ·obtain⟨X,hX,hbX,ZR,vC⟩:=aK V2 (.cells #[.slice none 0 0,.bool false,.slice none 0 0] 115)
       have pF:=Cm.trans (hbX.mono Cm.size)
       refine aW (yT _ _ rfl _) ?_
       rw[hX]
       refine ⟨.inl (HS.out X pF),?_⟩
       simp only[Act.put,aas,aap,aaq,aag,aaw,aay]
       refine bH (i:=3) (by kernel_rfl) rfl rfl (aW (xq rfl (by rfl) (by rfl) _) ⟨.inl (HS.out X pF),?_⟩)
       simp only[Act.put,aas,aap,aaq,aag,aaw,aay]
       have R9:N≤V2.heap.size:=by first | exact hNc | exact Nat.le_trans hNc Cm.size
       refine jf (i:=5) (by kernel_rfl) rfl rfl 115 (.tmp 10) (.tmp 39) rfl V2.heap.size #[.slice la ln lc,.bool gb,.slice none 0 0] (by rfl) (by rfl) 115 _ vC Tryz.sizeSelK rfl (GX _ _ _ _ _ _ _) (.inr (by simp)) ?_
       simp only[Act.put,aas,aap,aaq,aag,aaw,aay]
       have JB:=hid (setRow_heap _ _ _ #[.slice la ln lc,.bool gb,.slice none 0 0] _ _ vC)
       have qV:Hid (N≤V2.heap.size):=hid R9
       have Er:=hid ((Ew.out.fQ pF).xY (R:=fun b=>b=V2.heap.size) ((ak.refl (fun b=>b=V2.heap.size) X).setRow (p:=V2.heap.size) (.inl rfl) #[.slice la ln lc,.bool gb,.slice none 0 0]) (fun b e=>by rw[e];exact R9))
       refine bN (by kernel_rfl) ?_ _
       show Only _ .normal _ _
       unfold Only
       clear hS0
       go_wp2_with fail
       go_meet
       exact⟨_,rfl,qV,Er,JB⟩
     ·obtain⟨X0,hX0,ab3,acd,acH⟩:=aK wc.drew (.cells #[.slice none 0 0,.bool false,.slice none 0 0] 115)
      have Iw:=hd.trans ab3
      refine aW (yT _ _ rfl _) ?_
      rw[hX0]
      refine ⟨.inl (HS.out X0 Iw),?_⟩
      simp only[Act.put,aas,aap,aaq,aag,aaw,aay]
      have hCC:=Ew.out.fQ Iw
      refine dM (i:=2) #[.agg #[.int .i64 s.k,.string (aj s.tb),.slice b1 m1 d1,.string (aj s.aD),.slice b2 m2 d2,.slice b3 m3 d3,.slice b4 m4 d4,.string (aj s.jn),.slice b5 m5 d5,.slice b6 m6 d6,.slice b7 m7 d7,.slice b8 m8 d8,.bool s.desc,.int .i64 s.lim]] (fun v V=>v = .bool gb∧Below X0.heap.size X0 V) (by kernel_rfl) rfl rfl rfl (by kernel_rfl) (enters_of Tryz.func61 (by kernel_rfl) rfl) ((qK (fun b=>b<w.heap.size) s _ X0 hCC.QI).mono (fun e V h=>⟨_,h.1,by rw[OV.out],h.2⟩)) ?_
      rintro _ X ⟨rfl,hbX⟩
      have pF:=Iw.trans (hbX.mono Iw.size)
      have vC:=(hbX.block _ acd).trans acH
      refine ⟨HS.out X pF,?_⟩
      simp only[Act.put,aas,aap,aaq,aag,aaw,aay]
      refine bH (i:=3) (by kernel_rfl) rfl rfl (aW (xq rfl (by rfl) (by rfl) _) ⟨.inl (HS.out X pF),?_⟩)
      simp only[Act.put,aas,aap,aaq,aag,aaw,aay]
      have R9:N≤wc.drew.heap.size:=by first | exact hNc | exact Nat.le_trans hNc Cm.size
      refine jf (i:=5) (by kernel_rfl) rfl rfl 115 (.tmp 10) (.tmp 39) rfl wc.drew.heap.size #[.slice la ln lc,.bool gb,.slice none 0 0] (by rfl) (by rfl) 115 _ vC Tryz.sizeSelK rfl (GX _ _ _ _ _ _ _) (.inr (by simp)) ?_
      simp only[Act.put,aas,aap,aaq,aag,aaw,aay]
      have JB:=hid (setRow_heap _ _ _ #[.slice la ln lc,.bool gb,.slice none 0 0] _ _ vC)
      have qV:Hid (N≤wc.drew.heap.size):=hid R9
      have Er:=hid ((Ew.out.fQ pF).xY (R:=fun b=>b=wc.drew.heap.size) ((ak.refl (fun b=>b=wc.drew.heap.size) X).setRow (p:=wc.drew.heap.size) (.inl rfl) #[.slice la ln lc,.bool gb,.slice none 0 0]) (fun b e=>by rw[e];exact R9))
      refine bN (by kernel_rfl) ?_ _
      show Only _ .normal _ _
      unfold Only
      clear hS0
      go_wp2_with fail
      go_meet
      exact⟨_,rfl,qV,Er,JB⟩
    case rest =>
     obtain⟨xb,rfl,qV,YM,HX7⟩:=hcut
     clear Ew
     obtain⟨_,_,_,hgr,_⟩:=fD.slices YM.out.QI
     have HG:=hid (Gl w wc N p xb s _ L _ _ _ HW.out YM.out hgr VA.out h1 VE.out (by omega) qV.out HX7.out)
     rw[HR2.out] at HG
     have kS:=au YM.out.st
     have kP:wc.cell? ⟨p,0,none⟩=some (.slice la ln lc):=by rw[aB _ _ _ _ _ _ YM.out.pb];rfl
     clear hgr
     by_cases h2z:r2=0
     ·have H2:=hid h2z
      have h2b:(r2 != 0)=false:=by rw[h2z];rfl
      go_wp2_with fail
      refine HG.out.mono ?_
      rintro e w2 ⟨rfl,hg2,_⟩
      obtain⟨ga,gn,gc,hC8,hX8,hGr⟩:=hg2 h2z
      have Pg:=hid hC8
      have ZX:=hid hX8
      have WM:=hid hGr
      clear YM HX7 HG hg2 kS kP h2z hC8 hX8 hGr
      have kS:=au Pg.out.st
      have kP:w2.cell? ⟨p,0,none⟩=some (.slice la ln lc):=by rw[aB _ _ _ _ _ _ Pg.out.pb];rfl
      have kX:=aH ZX.out
      obtain⟨hit,_,_,_,hod⟩:=fD.slices Pg.out.QI
      have RB:Hid (vL (fun b=>b<N) (fun _=>True) L gb (s.gr.map fun e=>(aI L e).1) w2 #[.slice la ln lc,.bool gb,.slice ga gn gc]):=hid ⟨_,_,_,_,_,_,rfl,Pg.out.sl,WM.out⟩
      have HI:=hid (Dk (fun b=>b<w.heap.size) 64 #[.agg #[.slice la ln lc,.bool gb,.slice ga gn gc]] #[] (enters_of Tryz.func64 (by kernel_rfl) rfl) (uZ L gb (s.gr.map fun e=>(aI L e).1)) s.items _ w2 hit (hid fun i him V hV ds hds=>NM (fun b=>b<N) (fun _=>True) (fun b=>b<w.heap.size) L gb _ i ds _ V (HW.out.on (Pg.out.fQ hV).qJ) (HGI.out i him) hds (RB.out.qX hV) VE.out (by omega)))
      rw[HR3.out] at HI
      clear hit hod
      by_cases VG:r3=0
      ·have H3:=hid VG
       have h3b:(r3 != 0)=false:=by rw[VG];rfl
       clear VG
       go_wp2_with fail
       refine HI.out.mono ?_
       rintro e w3 ⟨rfl,hb3⟩
       have Er:=hid (Pg.out.fQ hb3)
       have JB:=hid ((hb3.block _ (World.lt_of_block ZX.out)).trans ZX.out)
       have JI:=hid (RB.out.qX hb3)
       clear Pg ZX RB HI WM kS kP kX hb3
       have kS:=au Er.out.st
       have kP:w3.cell? ⟨p,0,none⟩=some (.slice la ln lc):=by rw[aB _ _ _ _ _ _ Er.out.pb];rfl
       have kX:=aH JB.out
       obtain⟨_,_,_,_,hod⟩:=fD.slices Er.out.QI
       have HO:=hid (pQ (fun b=>b<w.heap.size) 65 #[.agg #[.slice la ln lc,.bool gb,.slice ga gn gc]] #[] (enters_of Tryz.func65 (by kernel_rfl) rfl) (fun x=>mo gb (s.gr.map fun e=>(aI L e).1) (aI L x)) s.od _ w3 hod (hid fun x hxm V hV ds hds=>JW (fun b=>b<N) (fun _=>True) (fun b=>b<w.heap.size) L gb _ x _ _ V (HW.out.on (Er.out.fQ hV).qJ) (HGD.out x hxm) hds.v (JI.out.qX hV) VE.out (by omega)))
       rw[HR4.out] at HO
       clear hod
       by_cases h4z:r4=0
       ·have H4:=hid h4z
        have h4b:(r4 != 0)=false:=by rw[h4z];rfl
        clear h4z
        cases gb with
        |
         true =>
         go_wp2_with fail
         refine HO.out.mono ?_
         rintro e w4 ⟨rfl,hb4⟩
         have vT:=hid (Er.out.fQ hb4)
         have kX:=aH ((hb4.block _ (World.lt_of_block JB.out)).trans JB.out)
         have kS:=au vT.out.st
         clear HO Er JI hb4
         go_wp2_with fail
         go_ret
         exact⟨congrArg (fun x=>Ending.returned (Value.int .i64 x)) (show 0=rr from by rw[← HRR.out,zx,if_neg (fun h=>h H1.out),if_neg (fun h=>h H2.out),if_neg (fun h=>h H3.out),if_neg (fun h=>h H4.out),if_neg (fun h=>by cases h.1)]),vT.out.qJ⟩
        |
         false =>
         by_cases h8:8<wn
         ·have HQ:Hid (rr=4):=hid (by rw[← HRR.out,zx,if_neg (fun h=>h H1.out),if_neg (fun h=>h H2.out),if_neg (fun h=>h H3.out),if_neg (fun h=>h H4.out),if_pos ⟨rfl,h8⟩])
          have h8b:((8:Int)<(wn:Int)):=by omega
          clear h8
          go_wp2_with fail
          refine HO.out.mono ?_
          rintro e w4 ⟨rfl,hb4⟩
          have vT:=hid (Er.out.fQ hb4)
          have kX:=aH ((hb4.block _ (World.lt_of_block JB.out)).trans JB.out)
          have kS:=au vT.out.st
          obtain⟨hit,_,_,_,_⟩:=fD.slices vT.out.QI
          have OX:=hid (Ad (fun b=>b<N) (fun _=>True) (fun b=>b<w.heap.size) L false (s.gr.map fun e=>(aI L e).1) s.items _ _ w4 hit (JI.out.qX hb4) VE.out (by omega) h3)
          rw[HRW.out] at OX
          clear HO Er JI hb4 hit
          go_wp2_with fail
          refine OX.out.mono ?_
          rintro e w5 ⟨rfl,hb5⟩
          have nQ:=hid (vT.out.fQ hb5).qJ
          clear hb5 OX vT
          go_wp2_with fail
          go_ret
          exact⟨congrArg (fun x=>Ending.returned (Value.int .i64 x)) HQ.out.symm,nQ.out⟩
         ·have HQ:Hid (rr=0):=hid (by rw[← HRR.out,zx,if_neg (fun h=>h H1.out),if_neg (fun h=>h H2.out),if_neg (fun h=>h H3.out),if_neg (fun h=>h H4.out),if_neg (fun h=>h8 h.2)])
          have h8b : ¬((8:Int)<(wn:Int)):=by omega
          clear h8
          go_wp2_with fail
          refine HO.out.mono ?_
          rintro e w4 ⟨rfl,hb4⟩
          have vT:=hid (Er.out.fQ hb4)
          have kX:=aH ((hb4.block _ (World.lt_of_block JB.out)).trans JB.out)
          have kS:=au vT.out.st
          obtain⟨hit,_,_,_,_⟩:=fD.slices vT.out.QI
          have OX:=hid (Ad (fun b=>b<N) (fun _=>True) (fun b=>b<w.heap.size) L false (s.gr.map fun e=>(aI L e).1) s.items _ _ w4 hit (JI.out.qX hb4) VE.out (by omega) h3)
          rw[HRW.out] at OX
          clear HO Er JI hb4 hit
          go_wp2_with fail
          refine OX.out.mono ?_
          rintro e w5 ⟨rfl,hb5⟩
          have nQ:=hid (vT.out.fQ hb5).qJ
          clear hb5 OX vT
          go_wp2_with fail
          go_ret
          exact⟨congrArg (fun x=>Ending.returned (Value.int .i64 x)) HQ.out.symm,nQ.out⟩
       ·have H4:=hid h4z
        have h4b:(r4 != 0)=true:=by simpa using h4z
        clear h4z
        go_wp2_with fail
        refine HO.out.mono ?_
        rintro e w4 ⟨rfl,hb4⟩
        have nQ:=hid (Er.out.fQ hb4).qJ
        clear hb4 HO
        go_wp2_with fail
        go_ret
        exact⟨congrArg (fun x=>Ending.returned (Value.int .i64 x)) (show r4=rr from by rw[← HRR.out,zx,if_neg (fun h=>h H1.out),if_neg (fun h=>h H2.out),if_neg (fun h=>h H3.out),if_pos H4.out]),nQ.out⟩
      ·have H3:=hid VG
       have h3b:(r3 != 0)=true:=by simpa using VG
       clear VG
       go_wp2_with fail
       refine HI.out.mono ?_
       rintro e w3 ⟨rfl,hb3⟩
       have nQ:=hid (Pg.out.fQ hb3).qJ
       clear hb3 HI
       go_wp2_with fail
       go_ret
       exact⟨congrArg (fun x=>Ending.returned (Value.int .i64 x)) (show r3=rr from by rw[← HRR.out,zx,if_neg (fun h=>h H1.out),if_neg (fun h=>h H2.out),if_pos H3.out]),nQ.out⟩
     ·have H2:=hid h2z
      have h2b:(r2 != 0)=true:=by simpa using h2z
      go_wp2_with fail
      refine HG.out.mono ?_
      rintro e w2 ⟨rfl,_,hg2⟩
      have nQ:=hid (hg2 h2z)
      clear hg2 HG h2z
      go_wp2_with fail
      go_ret
      exact⟨congrArg (fun x=>Ending.returned (Value.int .i64 x)) (show r2=rr from by rw[← HRR.out,zx,if_neg (fun h=>h H1.out),if_pos H2.out]),nQ.out⟩
   ·have H1:=hid h1z
    have h1b:(r1 != 0)=true:=by simpa using h1z
    clear h1z
    go_wp2_with fail
    go_ret
    exact⟨congrArg (fun x=>Ending.returned (Value.int .i64 x)) (show r1=rr from by rw[← HRR.out,zx,if_pos H1.out]),Ew.out.qJ⟩
 ·rw[if_pos hcode]
  have hcb:(code != 0)=true:=by simpa using hcode
  clear hcode
  go_enter Tryz.func25,Tryz.ntmps25
  go_wp2_with fail
  try rw[gI]
  refine HF.out.mono ?_
  rintro e w1 ⟨la,ln,lc,rfl,hsl,hb1⟩
  obtain⟨Y,hY,bV,kL,dJ⟩:=aK w1 (.cells #[(.slice la ln lc)] 22)
  have HB1:=htr HB hb1
  have bZ:=htr HB1 bV
  clear hsl hb1 bV dJ HF HB1 nP HST F4 kA kB
  go_wp2_with (first | (refine wpList_store_oneTo rfl 22 (.tmp 7) (.tmp 19) rfl rfl w1.heap.size (.slice la ln lc) rfl rfl rfl 22 _ (heap_alloc_new w1 _) Tryz.sizeTbsK ?_;rw[bW,hY];clear hY) | fail)
  go_ret
  exact⟨rfl,bZ.out⟩
end Go.Proofs.YtfeglkleoijlaaaGreatDoor
