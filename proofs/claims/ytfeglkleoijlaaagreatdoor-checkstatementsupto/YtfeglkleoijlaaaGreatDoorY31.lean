import Derived.Test.YtfeglkleoijlaaaGreatDoorY30
namespace Go.Proofs.YtfeglkleoijlaaaGreatDoor
open Go.RowKit Go.Shelf
set_option linter.unusedSimpArgs false
set_option linter.unusedVariables false
set_option maxRecDepth 20000
set_option maxHeartbeats 8000000
theorem ql {a:Act} {oi:Oper} {x:Operand} {c0 c1 c2:Value} (ki:oi.op = .buildSlice 22 1 #[(0,x)]) (hx:a.eval x = .agg #[c0,c1,c2]) (V:World) :
  (execOp a.eval oi).run Tryz.prog V = .ok (.value (.slice (some ⟨V.heap.size,0,none⟩) 1 1)) (V.alloc (.cells #[c0,c1,c2] 42)):=by
 have u:=Tryz.underlying22
 obtain⟨r,hr⟩:∃r,a.eval=r:=⟨_,rfl⟩
 rw[hr] at hx ⊢
 unfold execOp
 simp only[ki,hx,List.map_toArray,List.map_cons,List.map_nil]
 go_simp
theorem uL (t:Tb):∀(ah l:List Se),(iO t ah l).length=l.length
 | _,[]=>rfl
 | ah,s::l=>by rw[iO,aa1,uL t _ l,aa1]
theorem xI (t:Tb):∀(ah l:List Se) (i:Nat) (s:Se),l[i]?=some s→(iO t ah l)[i]?=some (qI t (ah++l.take i) s)
 | _,[],i,s,h=>by simp at h
 |
  ah,x::l,0,s,h=>by
  simp only[List.getElem?_cons_zero,abf] at h
  subst h
  rw[iO]
  simp
 |
  ah,x::l,i+1,s,h=>by
  rw[List.getElem?_cons_succ] at h
  rw[iO,List.getElem?_cons_succ,xI t _ l i s h,List.take_succ_cons]
  simp
def XW (t:Tb) (sets:List Se) (cs sc:Array Value) (w:World) (i:Nat) (V:World):Prop :=
 Below w.heap.size w V∧w.heap.size+3≤V.heap.size∧V.heap[w.heap.size]?=some (.cells cs 42)∧V.heap[w.heap.size+1]?=some (.cells sc 29)∧lG (w.heap.size+3) (w.heap.size+2) V ((sets.take i).map fun x=>((bF t.aC x.nm:Nat):Int))∧∀x∈sets.take i,bF t.aC x.nm<t.aC.length
theorem Gy (t:Tb) (s:St) (cs sc:List Value) (w:World) (hW:iL w) (ht:fG (fun b=>b<w.heap.size) w t cs) (hK:mR t) (hs:fD (fun b=>b<w.heap.size) w s sc) (hgs : ∀x∈s.sets,gW x.e) (hgw : ∀x∈s.wh,gW x) (hn:s.sets.length≤100) :
  Calls Tryz.prog 22 #[.agg cs.toArray,.agg sc.toArray] w fun e w'=>e = .returned (.int .i64 (Je t s))∧Below w.heap.size w w':=by
 obtain⟨b1,b2,b3,b4,b5,b6,b7,b8,m1,m2,m3,m4,m5,m6,m7,m8,d1,d2,d3,d4,d5,d6,d7,d8,rfl,_,_,zY,_,_,U9,_,_⟩:=hs
 have ht0:=ht
 obtain⟨a2,n2,c2,rfl,hsl⟩:=ht
 obtain⟨W,gI,hbW,aJ,hc0,hc1,hc2⟩:=Gu w (.cells #[.string (aj t.nm),.slice a2 n2 c2,.int .i64 t.pr] 42) (.cells #[.int .i64 s.k,.string (aj s.tb),.slice b1 m1 d1,.string (aj s.aD),.slice b2 m2 d2,.slice b3 m3 d3,.slice b4 m4 d4,.string (aj s.jn),.slice b5 m5 d5,.slice b6 m6 d6,.slice b7 m7 d7,.slice b8 m8 d8,.bool s.desc,.int .i64 s.lim] 29) (.cells #[.slice none 0 0] 87)
 have k1:=au hc1
 have h10:10<w.heap.size:=hW.lt
 have DV:=hid (GA (fun b=>b<w.heap.size) 55 #[] #[.pointer (some ⟨w.heap.size,0,none⟩),.pointer (some ⟨w.heap.size+2,0,none⟩)] (enters_of Tryz.func55 (by kernel_rfl) rfl)
  (XW t s.sets #[.string (aj t.nm),.slice a2 n2 c2,.int .i64 t.pr] #[.int .i64 s.k,.string (aj s.tb),.slice b1 m1 d1,.string (aj s.aD),.slice b2 m2 d2,.slice b3 m3 d3,.slice b4 m4 d4,.string (aj s.jn),.slice b5 m5 d5,.slice b6 m6 d6,.slice b7 m7 d7,.slice b8 m8 d8,.bool s.desc,.int .i64 s.lim] w) (fun V=>Below w.heap.size w V) s.sets (iO t [] s.sets) (.slice b3 m3 d3) W (uL _ _ _)
  ⟨hbW,by omega,hc0,hc1,⟨_,hc2,World.ownsRow_nil _ _ _ _,fun e=>by cases e⟩,fun x hx=>by cases hx⟩
  (hid (fun i V hI=>zY.to (by decide) (R:=fun _=>False) (ak.aA hI.1) (fun b hb _=>⟨id,hb⟩) (fun _ _ e=>e.to (R:=fun _=>False) (ak.aA hI.1) (fun b hb _=>⟨id,hb⟩))))
  (hid (fun i V U hI hb=>⟨hI.1.trans (hb.mono hI.1.size),Nat.le_trans hI.2.1 hb.size,(hb.block _ (World.lt_of_block hI.2.2.1)).trans hI.2.2.1,(hb.block _ (World.lt_of_block hI.2.2.2.1)).trans hI.2.2.2.1,hI.2.2.2.2.1.L6 hb,hI.2.2.2.2.2⟩))
  (hid (fun i x c hx hcx V hI ds hds=>by
   rw[xI t [] s.sets i x hx,List.nil_append] at hcx
   obtain rfl:qI t (s.sets.take i) x=c:=by simpa using hcx
   obtain⟨g1,g2,g3,g4,g5,g6⟩:=hI
   have hlt:=aam.1 hx
   refine (MC t x (s.sets.take i) ds _ w.heap.size w.heap.size (w.heap.size+2) (w.heap.size+3) V (hW.on g1) hds (hgs x (aaP hx)) g3 (ht0.on g1) hK g5 g6 (by simp only[List.length_take];omega) h10 ⟨by omega,by omega,by omega,by omega⟩ (by omega) g2).mono ?_
   rintro e w' ⟨rfl,q1,q2,q3,q4⟩
   have ht2:s.sets.take (i+1)=s.sets.take i++[x]:=by rw[aaJ hlt.1,hlt.2]
   refine ⟨rfl,fun h0=>⟨g1.trans q1,by omega,(q2 _ (by omega) (by omega)).trans g3,(q2 _ (by omega) (by omega)).trans g4,by rw[ht2];exact (q4 h0).2,fun y hy=>?_⟩,fun _=>g1.trans q1⟩
   rw[ht2,List.mem_append,List.mem_singleton] at hy
   rcases hy with hy | rfl
   ·exact g6 y hy
   ·exact (q4 h0).1)))
 have HT0:=hid ht0
 have acO:=hid (eZ U9)
 have HGW:=hid hgw
 have KX:=hid hK
 have HW:=hid hW
 unfold Je
 obtain⟨c,hcc⟩:∃c,aO (iO t [] s.sets)=c:=⟨_,rfl⟩
 rw[hcc] at DV ⊢
 clear hcc hc0 hc1 hc2 hbW zY U9 hsl ht0 hgs hgw hK hW
 by_cases hc:c=0
 ·rw[if_neg (fun h=>h hc)]
  subst hc
  go_enter Tryz.func22,Tryz.ntmps22
  go_wp2_with fail
  try rw[gI]
  refine DV.out.mono ?_
  rintro e w1 ⟨rfl,hI,_⟩
  obtain⟨g1,g2,g3,g4,_,_⟩:XW t s.sets #[.string (aj t.nm),.slice a2 n2 c2,.int .i64 t.pr] #[.int .i64 s.k,.string (aj s.tb),.slice b1 m1 d1,.string (aj s.aD),.slice b2 m2 d2,.slice b3 m3 d3,.slice b4 m4 d4,.string (aj s.jn),.slice b5 m5 d5,.slice b6 m6 d6,.slice b7 m7 d7,.slice b8 m8 d8,.bool s.desc,.int .i64 s.lim] w s.sets.length w1:=by simpa using hI
  have HT3:=hid g3
  have RY:=hid (au g4).2.2.2.2.2.2.2.2.2.1
  have HWT:=hid (HW.out.on g1)
  have DC:=hid (acO.out.to (T:=fun b=>b<w.heap.size) (by decide) (R:=fun _=>False) (ak.aA g1) (fun b hb _=>⟨id,hb⟩) (fun _ _ e=>e.to (R:=fun _=>False) (ak.aA g1) (fun b hb _=>⟨id,hb⟩)))
  have Vm:=hid (HT0.out.on g1)
  have HG1:=hid g1
  clear hI g1 g3 g4 DV k1
  go_wp2_with fail
  have Oh:Hid (∀V,Below w1.heap.size w1 V→V.cell? ⟨w.heap.size+1,9,none⟩=some (.slice b6 m6 d6)∧V.cell? ⟨w.heap.size,0,none⟩=some (.string (aj t.nm))∧(V.cell? ⟨w.heap.size,1,none⟩=some (.slice a2 n2 c2)∧V.cell? ⟨w.heap.size,2,none⟩=some (.int .i64 t.pr))):=hid (fun V hV=>by
   have q:=aH ((hV.block w.heap.size (World.lt_of_block HT3.out)).trans HT3.out)
   exact⟨(hV.cell (p:=⟨w.heap.size+1,9,none⟩) (World.block_lt_of_cell? _ _ RY.out)).trans RY.out,q.1,q.2.1,q.2.2.1⟩)
  have hS0:=Oh.out w1.drew (Below.refl _ w1).drew
  refine dG (fun V:World=>V.cell? ⟨w.heap.size+1,9,none⟩=some (.slice b6 m6 d6)∧V.cell? ⟨w.heap.size,0,none⟩=some (.string (aj t.nm))∧(V.cell? ⟨w.heap.size,1,none⟩=some (.slice a2 n2 c2)∧V.cell? ⟨w.heap.size,2,none⟩=some (.int .i64 t.pr))) [] (by kernel_rfl) ?_
  refine fF (i:=0) rfl (by assumption) ?_
  refine fF (i:=1) rfl (by assumption) ?_
  refine fF (i:=2) rfl (by assumption) ?_
  obtain⟨Y,hY,bV,kL,dJ⟩:=aK w1.drew (.cells #[.string (aj t.nm),.slice a2 n2 c2,.int .i64 t.pr] 42)
  have nk:Below w1.heap.size w1 Y:=((Below.refl _ w1).drew).trans bV
  refine bH (i:=3) (by kernel_rfl) rfl rfl (aW (ql rfl (by rfl) _) ?_)
  rw[hY]
  refine ⟨.inl (Oh.out Y nk),?_⟩
  simp only[Act.put,aas,aap,aaq,aag,aaw,aay]
  refine dM (i:=4) #[.slice (some ⟨w1.drew.heap.size,0,none⟩) 1 1] (fun v W=>v = .func (.func 58) #[] #[.pointer (some ⟨Y.heap.size,0,none⟩)]∧W.heap[Y.heap.size]?=some (.cells #[.slice (some ⟨w1.drew.heap.size,0,none⟩) 1 1] 22)∧Below Y.heap.size Y W) (by kernel_rfl) rfl rfl rfl (by kernel_rfl) (enters_of Tryz.func24 (by kernel_rfl) rfl) ((yD _ _ _ Y).mono (fun e W h=>⟨_,h.1,rfl,h.2.1,h.2.2⟩)) ?_
  rintro _ Z ⟨rfl,wB,o8⟩
  have jo:Below w1.heap.size w1 Z:=nk.trans (o8.mono nk.size)
  refine ⟨Oh.out Z jo,?_⟩
  simp only[Act.put,aas,aap,aaq,aag,aaw,aay]
  have hTZ:=Vm.out.on jo
  have hcT:Z.heap[w1.drew.heap.size]?=some (.cells #[.string (aj t.nm),.slice a2 n2 c2,.int .i64 t.pr] 42):=(o8.block _ kL).trans dJ
  refine dM (i:=5) #[.slice b6 m6 d6,.func (.func 58) #[] #[.pointer (some ⟨Y.heap.size,0,none⟩)]] (fun v W=>v = .int .i64 (fE [t] s.wh)∧Below Z.heap.size Z W) (by kernel_rfl) rfl rfl rfl (by kernel_rfl) (enters_of Tryz.func23 (by kernel_rfl) rfl)
   ((tZ _ _ [t] s.wh _ _ Y.heap.size Z (HWT.out.on jo) HGW.out (DC.out.to (by decide) (R:=fun _=>False) (ak.aA jo) (fun b hb _=>⟨id,hb⟩) (fun _ _ e=>e.to (R:=fun _=>False) (ak.aA jo) (fun b hb _=>⟨id,hb⟩))) (by rw[aB _ _ _ _ _ _ wB];rfl) (World.lt_of_block wB) (mX hcT hTZ) (fun t' ht'=>by simp only[List.mem_singleton] at ht';rw[ht'];exact KX.out) (by simp)).mono (fun e W h=>⟨_,h.1,rfl,h.2⟩)) ?_
  rintro _ wF ⟨rfl,RD⟩
  have zF:Below w1.heap.size w1 wF:=jo.trans (RD.mono jo.size)
  refine ⟨Oh.out wF zF,?_⟩
  simp only[Act.put,aas,aap,aaq,aag,aaw,aay]
  refine fF (i:=6) rfl (Oh.out wF zF) ?_
  refine bN (by kernel_rfl) ?_ _
  show Only _ .normal _ _
  unfold Only
  clear hS0
  go_wp2
  go_ret
  exact⟨rfl,HG1.out.trans (zF.mono HG1.out.size)⟩
 ·rw[if_pos hc]
  have hc1:(c != 0)=true:=by simpa using hc
  have HCC:=hid hc
  clear hc
  go_enter Tryz.func22,Tryz.ntmps22
  go_wp2_with fail
  try rw[gI]
  refine DV.out.mono ?_
  rintro e w1 ⟨rfl,_,hb1⟩
  have HB1:=hid (hb1 HCC.out)
  clear hb1 DV k1
  go_wp2_with fail
  go_ret
  exact⟨rfl,HB1.out⟩
def oW (Gr:List Ex) (X:Ex):Bool:=decide (Gr.length=1)&&(decide (fV X=2)&&eqv (valOf X) (valOf (Gr.headD tO)))
theorem Ht (L:List Tb) (gr:List Ex) (X:Ex):wM L gr X=oW (gr.map fun e=>(aI L e).1) X:=by
 unfold wM oW
 rw[List.length_map]
 by_cases h:gr.length=1
 ·match gr,h with
  | [g],_=>rfl
 ·rw[aaj h,aaz,aaz]
theorem vI (S T:Nat→Prop) (Gr:List Ex) (X:Ex) (sa:Option Addr) (sn sc:Nat) (gb:Bool) (ga:Option Addr) (gn gc:Nat) (v:Value) (w:World) (hx:gH T w X v) (hg:aM 8 jl S w Gr (.slice ga gn gc)) :
  Calls Tryz.prog 117 #[.agg #[.slice sa sn sc,.bool gb,.slice ga gn gc],v] w fun e w'=>e = .returned (.bool (oW Gr X))∧Below w.heap.size w w':=by
 obtain⟨k1,op1,dN,fU,fJ,fI,vs1,ys1,eD,dF,eB,rfl,rfl,_⟩:=hx
 obtain⟨W,gI,hbW,aJ,hcA,hcB⟩:=two w (.cells #[.slice sa sn sc,.bool gb,.slice ga gn gc] 115) (.cells #[.int .i64 k1,.int .i64 op1,.string (aj dN),.string (aj fU),.int .i64 fJ,.int .i64 fI,.string (aj vs1),.slice eD dF eB] 48)
 have kA:=aH hcA
 have kB:=aG hcB
 have HG:=hid (hg.to (T:=S) (by decide) (R:=fun _=>False) (ak.aA hbW) (fun b hb _=>⟨id,hb⟩) (fun _ _ e=>e.to (R:=fun _=>False) (ak.aA hbW) (fun b hb _=>⟨id,hb⟩)))
 have hgn:gn=Gr.length:=by obtain⟨_,_,hf⟩:=hg.form;simp only[aah] at hf;exact hf.2.1
 subst hgn
 have HB:=hid hbW
 unfold oW
 show Calls Tryz.prog _ _ w fun e w'=>e = .returned (.bool (decide (Gr.length=1)&&(decide (k1=2)&&eqv ⟨fJ,fI,vs1⟩ (valOf (Gr.headD tO)))))∧Below w.heap.size w w'
 clear hbW hcA hcB hg
 by_cases hl:Gr.length=1
 ·rw[aar hl,aaA]
  have hl1:(((Gr.length:Nat):Int)==1)=true:=by rw[beq_iff_eq];omega
  by_cases hk:k1=2
  ·rw[aar hk,aaA]
   have hk1:(k1==2)=true:=by rw[beq_iff_eq];exact hk
   obtain⟨g,hgr⟩:∃g,Gr[0]?=some g:=⟨_,aaf (by omega)⟩
   have hhd:Gr.headD tO=g:=by
    match Gr,hl with
    | [y],_=>simpa using hgr
   rw[hhd]
   obtain⟨_,_,_,b,off,ds,rfl,_,hel,hcell⟩:=bC HG.out hgr
   obtain⟨k2,op2,bX,eH,dS,dU,vs2,ys2,dR,dY,dP,rfl,rfl,_⟩:=hel
   have q4:=hcell 4 _ rfl
   have q5:=hcell 5 _ rfl
   have q6:=hcell 6 _ rfl
   simp only[Nat.zero_mul,aa2] at q4 q5 q6
   have hlt:((0:Int)<((Gr.length:Nat):Int)):=by omega
   have hrun:=fun V=>wC ⟨fJ,fI,vs1⟩ ⟨dS,dU,vs2⟩ V
   have hgd:=Tryz.jV
   show Calls Tryz.prog _ _ w fun e w'=>e = .returned (.bool (eqv ⟨fJ,fI,vs1⟩ ⟨dS,dU,vs2⟩))∧Below w.heap.size w w'
   generalize eqv ⟨fJ,fI,vs1⟩ ⟨dS,dU,vs2⟩=r at hrun ⊢
   dsimp only at hrun
   clear hcell hl hk hhd hgr
   go_enter Tryz.func117,Tryz.ntmps117
   go_wp2_with fail
   try rw[gI]
   go_quiet (fail)
   have HB3:=hid (below_drewN HB.out nq)
   go_wp2_with fail
   go_ret
   exact⟨rfl,HB3.out⟩
  ·rw[aaj hk,aaz]
   have hk1:(k1==2)=false:=by rw[aai];exact hk
   clear hl hk
   go_enter Tryz.func117,Tryz.ntmps117
   go_wp2_with fail
   try rw[gI]
   go_quiet (fail)
   have HB3:=hid (below_drewN HB.out nq)
   go_wp2_with fail
   go_ret
   exact⟨rfl,HB3.out⟩
 ·rw[aaj hl,aaz]
  have hl1:(((Gr.length:Nat):Int)==1)=false:=by rw[aai];omega
  clear hl
  go_enter Tryz.func117,Tryz.ntmps117
  go_wp2_with fail
  try rw[gI]
  go_quiet (fail)
  have HB3:=hid (below_drewN HB.out nq)
  go_wp2_with fail
  go_ret
  exact⟨rfl,HB3.out⟩
def vL (S T:Nat→Prop) (L:List Tb) (gb:Bool) (Gr:List Ex) (w:World) (cs:Array Value):Prop:=∃sa sn sc ga gn gc,cs=#[.slice sa sn sc,.bool gb,.slice ga gn gc]∧aM 3 fG S w L (.slice sa sn sc)∧aM 8 jl T w Gr (.slice ga gn gc)
theorem vL.qX {S T:Nat→Prop} {L:List Tb} {gb:Bool} {Gr:List Ex} {w w':World} {cs:Array Value} (h:vL S T L gb Gr w cs) (hb:Below w.heap.size w w'):vL S T L gb Gr w' cs:=by
 obtain⟨sa,sn,sc,ga,gn,gc,rfl,h1,h2⟩:=h
 exact⟨_,_,_,_,_,_,rfl,h1.to (by decide) (R:=fun _=>False) (ak.aA hb) (fun b hb _=>⟨id,hb⟩) (fun _ _ e=>e.on hb),h2.to (by decide) (R:=fun _=>False) (ak.aA hb) (fun b hb _=>⟨id,hb⟩) (fun _ _ e=>e.to (R:=fun _=>False) (ak.aA hb) (fun b hb _=>⟨id,hb⟩))⟩
theorem wI {w:World} {g:Nat} {a b:Value} {t:TypeId} {fr:Nat × Nat} (h:w.heap[g]?=some (.cells #[a,b] t fr)):w.cell? ⟨g,0,none⟩=some a∧w.cell? ⟨g,1,none⟩=some b :=
 ⟨by rw[aB _ _ _ _ _ _ h];rfl,by rw[aB _ _ _ _ _ _ h];rfl⟩
def mV (gb:Bool) (Gr:List Ex) (ik:Int) (R:Ex × Int × Int):Int :=
 if R.2.2≠0 then R.2.2 else if ik=5∧R.2.1=2 then 9 else if ik=2∧gb=true∧oW Gr R.1=false then 4 else 0
theorem Le (L:List Tb) (s:St) (i:It) (e:Ex):zR L s i e=mV (cB s) (s.gr.map fun e=>(aI L e).1) i.k (aI L e):=by
 unfold zR mV
 rw[Ht]
theorem Kl (S T T2:Nat→Prop) (L:List Tb) (gb:Bool) (Gr:List Ex) (x:Ex) (ik:Int) (iv:Value) (v:Value) (sb ib:Nat) (cs:Array Value) (w:World) (hW:iL w) (hg:gW x) (hx:gH T2 w x v) (hSb:w.heap[sb]?=some (.cells cs 115)) (Dm:vL S T L gb Gr w cs) (hIb:w.heap[ib]?=some (.cells #[.int .i64 ik,iv] 55)) (hK : ∀t∈L,mR t) (hn:L.length≤100) :
  Calls Tryz.prog 116 #[v,.pointer (some ⟨sb,0,none⟩),.pointer (some ⟨ib,0,none⟩)] w fun e w'=>e = .returned (.int .i64 (mV gb Gr ik (aI L x)))∧Below w.heap.size w w':=by
 have hx0:=hx
 obtain⟨k1,op1,dN,fU,fJ,fI,vs1,ys1,eD,dF,eB,hxe,rfl,ha⟩:=hx
 obtain⟨sa,sn,sc,ga,gn,gc,rfl,hl,hgr⟩:=Dm
 obtain⟨W,gI,hbW,aJ,hcW⟩:=aK w (.cells #[.int .i64 k1,.int .i64 op1,.string (aj dN),.string (aj fU),.int .i64 fJ,.int .i64 fI,.string (aj vs1),.slice eD dF eB] 48)
 have k0:=aG hcW
 have hsb:=World.lt_of_block hSb
 have hib:=World.lt_of_block hIb
 have rG:=aH ((hbW.block sb hsb).trans hSb)
 have U0:=hid hSb
 have U5:=hid hIb
 have F4:=hid hgr
 have kJ:=hid (jH S T2 L x (.slice sa sn sc) _ W (hW.on hbW) hg.2.1 (hx0.new hbW) (hl.to (by decide) (R:=fun _=>False) (ak.aA hbW) (fun b hb _=>⟨id,hb⟩) (fun _ _ e=>e.on hbW)) hK hn (fun _=>hg.2.2))
 have hT:iP L x=aI L x:=by unfold iP;rw[if_pos hg.1]
 rw[hT] at kJ
 have HB:=hid hbW
 generalize aI L x=R at kJ ⊢
 obtain⟨X,kk,c⟩:=R
 dsimp only at kJ ⊢
 obtain⟨r,hr⟩:∃r,mV gb Gr ik (X,kk,c)=r:=⟨_,rfl⟩
 rw[hr]
 have HR:=hid hr
 clear hbW hcW hx0 hxe ha hSb hIb hgr hl hK hg hT hW hr
 go_enter Tryz.func116,Tryz.ntmps116
 go_wp2_with fail
 try rw[gI]
 refine kJ.out.mono ?_
 rintro e w1 ⟨u,rfl,hxu,hb1⟩
 have yM:=hxu
 obtain⟨k2,op2,bX,eH,dS,dU,vs2,ys2,dR,dY,dP,_,rfl,_⟩:=hxu
 obtain⟨Y,hY,bV,kL,dJ⟩:=aK w1 (.cells #[.int .i64 k2,.int .i64 op2,.string (aj bX),.string (aj eH),.int .i64 dS,.int .i64 dU,.string (aj vs2),.slice dR dY dP] 48)
 have HB1:=HB.out.trans (hb1.mono HB.out.size)
 have bZ:=hid (HB1.trans (bV.mono HB1.size))
 have kS:=aH ((bZ.out.block sb hsb).trans U0.out)
 have kI:=wI ((bZ.out.block ib hib).trans U5.out)
 have Xn:=hid (vI T _ Gr X sa sn sc gb ga gn gc _ Y (yM.new bV) ((F4.out).to (T:=T) (by decide) (R:=fun _=>False) (ak.aA bZ.out) (fun b hb _=>⟨id,hb⟩) (fun _ _ e=>e.to (R:=fun _=>False) (ak.aA bZ.out) (fun b hb _=>⟨id,hb⟩))))
 have kU:=aG dJ
 clear rG
 clear hb1 bV dJ HB1 kJ k0 yM
 by_cases hc:c=0
 ·subst hc
  by_cases h5:ik=5
  ·subst h5
   by_cases hk:kk=2
   ·have HE:Hid (r=9):=hid (by rw[← HR.out];unfold mV;rw[if_neg (fun h=>h rfl),if_pos ⟨rfl,hk⟩])
    subst hk
    go_wp2_with (first | (refine eX hY ?_;clear hY) | fail)
    go_ret
    exact⟨by rw[HE.out];rfl,bZ.out⟩
   ·have HE:Hid (r=0):=hid (by rw[← HR.out];unfold mV;rw[if_neg (fun h=>h rfl),if_neg (fun h=>hk h.2),if_neg (fun h=>absurd h.1 (by decide))])
    have hk1:(kk==2)=false:=by rw[aai];exact hk
    clear hk
    go_wp2_with (first | (refine eX hY ?_;clear hY) | fail)
    go_ret
    exact⟨by rw[HE.out];rfl,bZ.out⟩
  ·have h51:(ik==5)=false:=by rw[aai];exact h5
   by_cases h2:ik=2
   ·subst h2
    cases gb with
    |
     true =>
     have HE:Hid (r=if oW Gr X=false then 4 else 0):=hid (by
      rw[← HR.out]
      unfold mV
      rw[if_neg (fun h=>h rfl),if_neg (fun h=>h5 h.1)]
      cases oW Gr X<;>simp)
     clear h5
     go_wp2_with (first | (refine eX hY ?_;clear hY) | fail)
     refine Xn.out.mono ?_
     rintro e w2 ⟨rfl,hb2⟩
     have HB2:=htr bZ hb2
     clear hb2 Xn
     cases hig:oW Gr X with
     |
      true =>
      have HE2:Hid (r=0):=hid (by rw[HE.out,hig];rfl)
      go_wp2_with fail
      go_ret
      exact⟨by rw[HE2.out];rfl,HB2.out⟩
     |
      false =>
      have HE2:Hid (r=4):=hid (by rw[HE.out,hig];rfl)
      go_wp2_with fail
      go_ret
      exact⟨by rw[HE2.out];rfl,HB2.out⟩
    |
     false =>
     have HE:Hid (r=0):=hid (by rw[← HR.out];unfold mV;rw[if_neg (fun h=>h rfl),if_neg (fun h=>h5 h.1),if_neg (fun h=>by cases h.2.1)])
     clear h5
     go_wp2_with (first | (refine eX hY ?_;clear hY) | fail)
     go_ret
     exact⟨by rw[HE.out];rfl,bZ.out⟩
   ·have h21:(ik==2)=false:=by rw[aai];exact h2
    have HE:Hid (r=0):=hid (by rw[← HR.out];unfold mV;rw[if_neg (fun h=>h rfl),if_neg (fun h=>h5 h.1),if_neg (fun h=>h2 h.1)])
    clear h5 h2
    go_wp2_with (first | (refine eX hY ?_;clear hY) | fail)
    go_ret
    exact⟨by rw[HE.out];rfl,bZ.out⟩
 ·have HE:Hid (r=c):=hid (by rw[← HR.out];unfold mV;rw[if_pos hc])
  have hc1:(c != 0)=true:=by simpa using hc
  have hc2:(c==0)=false:=by rw[aai];exact hc
  clear hc
  go_wp2_with (first | (refine eX hY ?_;clear hY) | fail)
  go_ret
  exact⟨by rw[HE.out];rfl,bZ.out⟩
def uZ (L:List Tb) (gb:Bool) (Gr:List Ex) (i:It):Int:=if i.k=1∧gb=true then 4 else aO (i.xs.map fun x=>mV gb Gr i.k (aI L x))
theorem OP (L:List Tb) (s:St) (i:It):iQ L s i=uZ L (cB s) (s.gr.map fun e=>(aI L e).1) i:=by
 unfold iQ uZ
 rw[show i.xs.map (zR L s i)=i.xs.map (fun x=>mV (cB s) (s.gr.map fun e=>(aI L e).1) i.k (aI L x)) from List.map_congr_left (fun x _=>Le L s i x)]
def mo (gb:Bool) (Gr:List Ex) (R:Ex × Int × Int):Int:=if R.2.2=0∧gb=true∧oW Gr R.1=false then 4 else R.2.2
theorem J4 (L:List Tb) (s:St) (e:Ex):lX L s e=mo (cB s) (s.gr.map fun e=>(aI L e).1) (aI L e):=by
 unfold lX mo
 rw[Ht]
theorem NM (S T T2:Nat→Prop) (L:List Tb) (gb:Bool) (Gr:List Ex) (i:It) (ds:List Value) (cs:Array Value) (w:World) (hW:iL w) (hg : ∀x∈i.xs,gW x) (hx:vY T2 w i ds) (Dm:vL S T L gb Gr w cs) (hK : ∀t∈L,mR t) (hn:L.length≤100) :
  Calls Tryz.prog 64 #[.agg cs,.agg ds.toArray] w fun e w'=>e = .returned (.int .i64 (uZ L gb Gr i))∧Below w.heap.size w w':=by
 obtain⟨ia,im,ic,rfl,hxs⟩:=hx
 have Rt:=Dm
 obtain⟨sa,sn,sc,ga,gn,gc,rfl,_,_⟩:=Dm
 obtain⟨W,gI,hbW,aJ,hcA,hcB⟩:=two w (.cells #[.slice sa sn sc,.bool gb,.slice ga gn gc] 115) (.cells #[.int .i64 i.k,.slice ia im ic] 55)
 have kA:=aH hcA
 have kB:=wI hcB
 have HE:=hid (pQ T2 116 #[] #[.pointer (some ⟨w.heap.size,0,none⟩),.pointer (some ⟨w.heap.size+1,0,none⟩)] (enters_of Tryz.func116 (by kernel_rfl) rfl) (fun x=>mV gb Gr i.k (aI L x)) i.xs (.slice ia im ic) W
  ((eZ hxs).to (by decide) (R:=fun _=>False) (ak.aA hbW) (fun b hb _=>⟨id,hb⟩) (fun _ _ e=>e.to (R:=fun _=>False) (ak.aA hbW) (fun b hb _=>⟨id,hb⟩)))
  (hid fun x hxm V hV ds hds=>Kl S T T2 L gb Gr x i.k _ _ w.heap.size (w.heap.size+1) _ V ((hW.on hbW).on hV) (hg x hxm) hds.v ((hV.block _ (World.lt_of_block hcA)).trans hcA) ((Rt.qX hbW).qX hV) ((hV.block _ (World.lt_of_block hcB)).trans hcB) hK hn))
 have HB:=hid hbW
 unfold uZ
 obtain⟨F,hF⟩:∃F,aO (i.xs.map fun x=>mV gb Gr i.k (aI L x))=F:=⟨_,rfl⟩
 rw[hF] at HE ⊢
 clear hF hcA hcB hbW Rt hxs hW hg
 obtain⟨ik,xs⟩:=i
 dsimp only at *
 by_cases h1:ik=1
 ·subst h1
  cases gb with
  |
   true =>
   rw[if_pos ⟨rfl,rfl⟩]
   go_enter Tryz.func64,Tryz.ntmps64
   go_wp2_with fail
   try rw[gI]
   go_wp2_with fail
   go_ret
   exact⟨rfl,HB.out⟩
  |
   false =>
   rw[if_neg (fun h=>by cases h.2)]
   go_enter Tryz.func64,Tryz.ntmps64
   go_wp2_with fail
   try rw[gI]
   refine HE.out.mono ?_
   rintro e w1 ⟨rfl,hb1⟩
   have HB1:=htr HB hb1
   clear hb1 HE
   go_wp2_with fail
   go_ret
   exact⟨rfl,HB1.out⟩
 ·rw[if_neg (fun h=>h1 h.1)]
  have h11:(ik==1)=false:=by rw[aai];exact h1
  clear h1
  go_enter Tryz.func64,Tryz.ntmps64
  go_wp2_with fail
  try rw[gI]
  refine HE.out.mono ?_
  rintro e w1 ⟨rfl,hb1⟩
  have HB1:=htr HB hb1
  clear hb1 HE
  go_wp2_with fail
  go_ret
  exact⟨rfl,HB1.out⟩
theorem JW (S T T2:Nat→Prop) (L:List Tb) (gb:Bool) (Gr:List Ex) (x:Ex) (v:Value) (cs:Array Value) (w:World) (hW:iL w) (hg:gW x) (hx:gH T2 w x v) (Dm:vL S T L gb Gr w cs) (hK : ∀t∈L,mR t) (hn:L.length≤100) :
  Calls Tryz.prog 65 #[.agg cs,v] w fun e w'=>e = .returned (.int .i64 (mo gb Gr (aI L x)))∧Below w.heap.size w w':=by
 have hx0:=hx
 obtain⟨k1,op1,dN,fU,fJ,fI,vs1,ys1,eD,dF,eB,hxe,rfl,ha⟩:=hx
 obtain⟨sa,sn,sc,ga,gn,gc,rfl,hl,hgr⟩:=Dm
 obtain⟨W,gI,hbW,aJ,hcA,hcB⟩:=two w (.cells #[.slice sa sn sc,.bool gb,.slice ga gn gc] 115) (.cells #[.int .i64 k1,.int .i64 op1,.string (aj dN),.string (aj fU),.int .i64 fJ,.int .i64 fI,.string (aj vs1),.slice eD dF eB] 48)
 have kA:=aH hcA
 have k0:=aG hcB
 have U0:=hid hcA
 have F4:=hid (hgr.to (T:=T) (by decide) (R:=fun _=>False) (ak.aA hbW) (fun b hb _=>⟨id,hb⟩) (fun _ _ e=>e.to (T:=T) (R:=fun _=>False) (ak.aA hbW) (fun b hb _=>⟨id,hb⟩)))
 have kJ:=hid (jH S T2 L x (.slice sa sn sc) _ W (hW.on hbW) hg.2.1 (hx0.new hbW) (hl.to (by decide) (R:=fun _=>False) (ak.aA hbW) (fun b hb _=>⟨id,hb⟩) (fun _ _ e=>e.on hbW)) hK hn (fun _=>hg.2.2))
 have hT:iP L x=aI L x:=by unfold iP;rw[if_pos hg.1]
 rw[hT] at kJ
 have HB:=hid hbW
 generalize aI L x=R at kJ ⊢
 obtain⟨X,kk,c⟩:=R
 dsimp only at kJ ⊢
 obtain⟨r,hr⟩:∃r,mo gb Gr (X,kk,c)=r:=⟨_,rfl⟩
 rw[hr]
 have HR:=hid hr
 clear hbW hcA hcB hx0 hxe ha hgr hl hK hg hT hW hr
 go_enter Tryz.func65,Tryz.ntmps65
 go_wp2_with fail
 try rw[gI]
 refine kJ.out.mono ?_
 rintro e w1 ⟨u,rfl,hxu,hb1⟩
 have yM:=hxu
 obtain⟨k2,op2,bX,eH,dS,dU,vs2,ys2,dR,dY,dP,_,rfl,_⟩:=hxu
 obtain⟨Y,hY,bV,kL,dJ⟩:=aK w1 (.cells #[.int .i64 k2,.int .i64 op2,.string (aj bX),.string (aj eH),.int .i64 dS,.int .i64 dU,.string (aj vs2),.slice dR dY dP] 48)
 have tT:=hb1.trans (bV.mono hb1.size)
 have bZ:=htr HB tT
 have kS:=aH ((tT.block w.heap.size (by omega)).trans U0.out)
 have Xn:=hid (vI T _ Gr X sa sn sc gb ga gn gc _ Y (yM.new bV) (F4.out.to (T:=T) (by decide) (R:=fun _=>False) (ak.aA tT) (fun b hb _=>⟨id,hb⟩) (fun _ _ e=>e.to (R:=fun _=>False) (ak.aA tT) (fun b hb _=>⟨id,hb⟩))))
 have kU:=aG dJ
 clear hb1 bV dJ tT kJ k0 kA yM
 by_cases hc:c=0
 ·subst hc
  cases gb with
  |
   true =>
   have HE:Hid (r=if oW Gr X=false then 4 else 0):=hid (by
    rw[← HR.out]
    unfold mo
    cases oW Gr X<;>simp)
   go_wp2_with (first | (refine eX hY ?_;clear hY) | fail)
   refine Xn.out.mono ?_
   rintro e w2 ⟨rfl,hb2⟩
   have HB2:=htr bZ hb2
   clear hb2 Xn
   cases hig:oW Gr X with
   |
    true =>
    have HE2:Hid (r=0):=hid (by rw[HE.out,hig];rfl)
    go_wp2_with fail
    go_ret
    exact⟨by rw[HE2.out];rfl,HB2.out⟩
   |
    false =>
    have HE2:Hid (r=4):=hid (by rw[HE.out,hig];rfl)
    go_wp2_with fail
    go_ret
    exact⟨by rw[HE2.out];rfl,HB2.out⟩
  |
   false =>
   have HE:Hid (r=0):=hid (by rw[← HR.out];unfold mo;rw[if_neg (fun h=>by cases h.2.1)])
   go_wp2_with (first | (refine eX hY ?_;clear hY) | fail)
   go_ret
   exact⟨by rw[HE.out];rfl,bZ.out⟩
 ·have HE:Hid (r=c):=hid (by rw[← HR.out];unfold mo;rw[if_neg (fun h=>hc h.1)])
  have hc2:(c==0)=false:=by rw[aai];exact hc
  clear hc
  go_wp2_with (first | (refine eX hY ?_;clear hY) | fail)
  go_ret
  exact⟨by rw[HE.out];rfl,bZ.out⟩
theorem Gj {L:List Tb} {k:Nat} {t:Tb} (h:L[k]?=some t):fu (L.take (k+1))=fu (L.take k)+t.aC.length:=by
 obtain⟨h1,h2⟩:=aam.1 h
 unfold fu
 rw[aaJ h1,h2,List.map_append,List.sum_append]
 simp
theorem DN {L:List Tb} (h : ∀t∈L,mR t):fu L≤8*L.length:=by
 induction L with
 | nil=>simp[fu]
 |
  cons t L ih =>
  have h1:=ih (fun x hx=>h x (by simp[hx]))
  have h2:=(h t (by simp)).2.1
  unfold fu at h1 ⊢
  simp only[List.map_cons,List.sum_cons,aa1]
  omega
theorem Dl {L:List Tb} {l:List It} {k:Nat} {i:It} (h:l[k]?=some i):dD L (l.take (k+1))=dD L (l.take k)+(if i.k=1 then fu L else 1):=by
 obtain⟨h1,h2⟩:=aam.1 h
 unfold dD
 rw[aaJ h1,h2,List.map_append,List.sum_append]
 simp
theorem Az (L:List Tb):∀l:List It,dD L l≤(fu L+1)*l.length
 | []=>by simp[dD]
 |
  i::l=>by
  have h1:=Az L l
  unfold dD at h1 ⊢
  simp only[List.map_cons,List.sum_cons,aa1,Nat.mul_add]
  split<;>omega
theorem Ad (S T T2:Nat→Prop) (L:List Tb) (gb:Bool) (Gr:List Ex) (items:List It) (v:Value) (cs:Array Value) (w:World) (hx:aM 2 vY T2 w items v) (Dm:vL S T L gb Gr w cs) (hK : ∀t∈L,mR t) (hn:L.length≤100) (hi:items.length≤1000) :
  Calls Tryz.prog 66 #[.agg cs,v] w fun e w'=>e = .returned (.int .i64 ((dD L items:Nat):Int))∧Below w.heap.size w w':=by
 obtain⟨sa,sn,sc,ga,gn,gc,rfl,hl,_⟩:=Dm
 have hsn:sn=L.length:=by obtain⟨_,_,hf⟩:=hl.form;simp only[aah] at hf;exact hf.2.1
 subst hsn
 have HX:=hid hx
 obtain⟨va,vc,ag7,rfl,h1,h2,_⟩:=hx
 unfold maxLen at h2
 obtain⟨W,gI,hbW,aJ,hcW⟩:=aK w (.cells #[.slice sa L.length sc,.bool gb,.slice ga gn gc] 115)
 have kA:=aH hcW
 have HLW:=hid (hl.to (T:=S) (by decide) (R:=fun _=>False) (ak.aA hbW) (fun b hb _=>⟨id,hb⟩) (fun _ _ e=>e.on hbW))
 have Zc:=hid (HX.out.to (T:=T2) (by decide) (R:=fun _=>False) (ak.aA hbW) (fun b hb _=>⟨id,hb⟩) (fun _ _ e=>e.to (T:=T2) (R:=fun _=>False) (ak.aA hbW) (fun b hb _=>⟨id,hb⟩)))
 have HK:=hid hK
 have HB:=hid hbW
 have hcn:=DN hK
 clear hbW hcW hl hK
 go_enter Tryz.func66,Tryz.ntmps66
 go_wp2_with fail
 try rw[gI]
 go_loopw [5,7,14] (fun a _ i wr=>∃m:Nat,m≤L.length∧i = .int .i64 m∧a = .int .i64 ((fu (L.take m):Nat):Int)∧Hid (Below W.heap.size W wr)) (fun _ _ i _=>L.length-(intOf i).toNat)
 case atStart=>exact⟨0,aaV _,rfl,rfl,hid (Below.refl _ _)⟩
 case round =>
  obtain⟨m,hm,rfl,rfl,iW⟩:=hrel
  by_cases hlt:m<L.length
  ·obtain⟨t,ht⟩:∃t,L[m]?=some t:=⟨_,aaf hlt⟩
   have hlt':((m:Int)<(L.length:Int)):=by omega
   have hc8:=(HK.out t (aaP ht)).2.1
   obtain⟨_,_,_,b,off,ds,rfl,_,hel,hcell⟩:=bC (HLW.out.to (T:=S) (by decide) (R:=fun _=>False) (ak.aA iW.out) (fun b hb _=>⟨id,hb⟩) (fun _ _ e=>e.on iW.out)) ht
   obtain⟨ab,nb,cb,rfl,hsl⟩:=hel
   have hnb:nb=t.aC.length:=by obtain⟨_,_,hf⟩:=hsl.form;simp only[aah] at hf;exact hf.2.1
   subst hnb
   have q0:=hcell 0 _ rfl
   have q1:=hcell 1 _ rfl
   have q2:=hcell 2 _ rfl
   simp only[aa2] at q0
   obtain⟨U,hU,bB,jc,eU⟩:=aK wr (.cells #[.string (aj t.nm),.slice ab t.aC.length cb,.int .i64 t.pr] 42)
   have kU:=aH eU
   have bS:=htr iW bB
   have htk:=Gj ht
   have hle:=DN (L:=L.take m) (fun x hx=>HK.out x (List.mem_of_mem_take hx))
   have hlen:(L.take m).length≤100:=by simp only[List.length_take];omega
   obtain⟨A,hA⟩:∃A,fu (L.take m)=A:=⟨_,rfl⟩
   rw[hA] at htk hle ⊢
   have hw1:IntKind.i64.wrap ((A:Int)+(t.aC.length:Int))=(A:Int)+(t.aC.length:Int):=rD _ (by omega) (by omega)
   have Ve:=hid htk
   clear hcell hsl bB eU htk hA ht
   go_wp2_with (first | (refine eX hU ?_;clear hU) | fail)
   go_roundw
   case rel=>exact⟨m+1,by omega,by go_num,by rw[Ve.out];go_num,bS⟩
   case measure=>simp[intOf];omega
  ·have hlt' : ¬((m:Int)<(L.length:Int)):=by omega
   have htl:L.take m=L:=aaU (by omega)
   rw[htl]
   obtain⟨A,hA⟩:∃A,fu L=A:=⟨_,rfl⟩
   rw[hA] at hcn ⊢
   have HA:=hid hA
   have Un:=hid iW.out
   obtain⟨wo,rfl⟩:∃wo,wo=wr:=⟨_,rfl⟩
   clear hA htl iW
   go_wp2_with fail
   go_loopw [8,10,26] (fun a _ i wr=>∃m:Nat,m≤items.length∧i = .int .i64 m∧a = .int .i64 ((dD L (items.take m):Nat):Int)∧Hid (Below W.heap.size W wr)) (fun _ _ i _=>items.length-(intOf i).toNat)
   case atStart=>exact⟨0,aaV _,rfl,rfl,hid Un.out⟩
   case round =>
    obtain⟨m,hm,rfl,rfl,iW⟩:=hrel
    by_cases hlt:m<items.length
    ·obtain⟨i,hit⟩:∃i,items[m]?=some i:=⟨_,aaf hlt⟩
     have hlt':((m:Int)<(items.length:Int)):=by omega
     obtain⟨_,_,_,b,off,ds,rfl,_,hel,hcell⟩:=bC (Zc.out.to (T:=T2) (by decide) (R:=fun _=>False) (ak.aA iW.out) (fun b hb _=>⟨id,hb⟩) (fun _ _ e=>e.to (R:=fun _=>False) (ak.aA iW.out) (fun b hb _=>⟨id,hb⟩))) hit
     obtain⟨ia,im,ic,rfl,_⟩:=hel
     have q0:=hcell 0 _ rfl
     have q1:=hcell 1 _ rfl
     simp only[aa2] at q0
     obtain⟨U,hU,bB,jc,eU⟩:=aK wr (.cells #[.int .i64 i.k,.slice ia im ic] 55)
     have kU:=wI eU
     have bS:=htr iW bB
     have htk:=Dl (L:=L) hit
     rw[HA.out] at htk
     have hle:=Az L (items.take m)
     have hlen:(items.take m).length≤1000:=by simp only[List.length_take];omega
     have hle2:(fu L+1)*(items.take m).length≤801*1000:=Nat.mul_le_mul (by rw[HA.out];omega) hlen
     obtain⟨B,hB⟩:∃B,dD L (items.take m)=B:=⟨_,rfl⟩
     rw[hB] at htk hle ⊢
     have Ve:=hid htk
     have afj:B≤801000:=by omega
     clear hcell bB eU htk hB hit hle hle2
     by_cases h1:i.k=1
     ·have h11:(i.k==1)=true:=by rw[beq_iff_eq];exact h1
      have hw1:IntKind.i64.wrap ((B:Int)+(A:Int))=(B:Int)+(A:Int):=rD _ (by omega) (by omega)
      have Te:Hid (dD L (items.take (m+1))=B+A):=hid (by rw[Ve.out,if_pos h1])
      clear h1 Ve
      go_wp2_with (first | (refine eX hU ?_;clear hU) | fail)
      go_roundw
      case rel=>exact⟨m+1,by omega,by go_num,by rw[Te.out];go_num,bS⟩
      case measure=>simp[intOf];omega
     ·have h11:(i.k==1)=false:=by rw[aai];exact h1
      have hw1:IntKind.i64.wrap ((B:Int)+1)=(B:Int)+1:=rD _ (by omega) (by omega)
      have Te:Hid (dD L (items.take (m+1))=B+1):=hid (by rw[Ve.out,if_neg h1])
      clear h1 Ve
      go_wp2_with (first | (refine eX hU ?_;clear hU) | fail)
      go_roundw
      case rel=>exact⟨m+1,by omega,by go_num,by rw[Te.out];go_num,bS⟩
      case measure=>simp[intOf];omega
    ·have hlt' : ¬((m:Int)<(items.length:Int)):=by omega
     have htl:items.take m=items:=aaU (by omega)
     rw[htl]
     have HF:=hid (HB.out.trans (iW.out.mono HB.out.size))
     clear iW
     go_wp2_with fail
     go_ret
     exact⟨rfl,HF.out⟩
end Go.Proofs.YtfeglkleoijlaaaGreatDoor
