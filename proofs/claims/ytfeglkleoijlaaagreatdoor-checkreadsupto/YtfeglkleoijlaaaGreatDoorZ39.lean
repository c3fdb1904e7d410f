/- Packed for the hand-in: KUpdT KSel KSelB -/
import Derived.Test.YtfeglkleoijlaaaGreatDoorZ38
namespace Go.Proofs.YtfeglkleoijlaaaGreatDoor
open Go.RowKit Go.Shelf
set_option linter.unusedSimpArgs false
set_option linter.unusedVariables false
set_option maxRecDepth 20000
set_option maxHeartbeats 8000000
theorem vV {a:Act} {oi:Oper} {x:Operand} {c0 c1 c2:Value} (ki:oi.op = .buildSlice 22 1 #[(0,x)]) (hx:a.eval x = .agg #[c0,c1,c2]) (V:World) :
  (execOp a.eval oi).run Tryz.prog V = .ok (.value (.slice (some ⟨V.heap.size,0,none⟩) 1 1)) (V.alloc (.cells #[c0,c1,c2] 42)):=by
 have u:=Tryz.underlying22
 obtain⟨r,hr⟩:∃r,a.eval=r:=⟨_,rfl⟩
 rw[hr] at hx ⊢
 unfold execOp
 simp only[ki,hx,List.map_toArray,List.map_cons,List.map_nil]
 go_simp
theorem rY (t:Tb):∀(ah l:List Se),(lG t ah l).length=l.length
 | _,[]=>rfl
 | ah,s::l=>by rw[lG,List.length_cons,rY t _ l,List.length_cons]
theorem wS (t:Tb):∀(ah l:List Se) (i:Nat) (s:Se),l[i]?=some s→(lG t ah l)[i]?=some (Bg t (ah++l.take i) s)
 | _,[],i,s,h=>by simp at h
 |
  ah,x::l,0,s,h=>by
  simp only[List.getElem?_cons_zero,Option.some.injEq] at h
  subst h
  rw[lG]
  simp
 |
  ah,x::l,i+1,s,h=>by
  rw[List.getElem?_cons_succ] at h
  rw[lG,List.getElem?_cons_succ,wS t _ l i s h,List.take_succ_cons]
  simp
def Ia (t:Tb) (sets:List Se) (cs sc:Array Value) (w:World) (i:Nat) (V:World):Prop :=
 Below w.heap.size w V∧w.heap.size+3≤V.heap.size∧V.heap[w.heap.size]?=some (.cells cs 42)∧V.heap[w.heap.size+1]?=some (.cells sc 29)∧gP (w.heap.size+3) (w.heap.size+2) V ((sets.take i).map fun x=>((bO t.cols x.nm:Nat):Int))∧∀x∈sets.take i,bO t.cols x.nm<t.cols.length
theorem yh (t:Tb) (s:St) (cs sc:List Value) (w:World) (hW:eH w) (ht:dK (fun b=>b<w.heap.size) w t cs) (hK:oo t) (hs:eZ (fun b=>b<w.heap.size) w s sc) (hgs : ∀x∈s.sets,dS x.e) (hgw : ∀x∈s.wh,dS x) (hn:s.sets.length≤100) :
  Calls Tryz.prog 22 #[.agg cs.toArray,.agg sc.toArray] w fun e w'=>e = .returned (.int .i64 (CJ t s))∧Below w.heap.size w w':=by
 obtain⟨b1,b2,b3,b4,b5,b6,b7,b8,m1,m2,m3,m4,m5,m6,m7,m8,d1,d2,d3,d4,d5,d6,d7,d8,rfl,_,_,hsets,_,_,hwh,_,_⟩:=hs
 have ht0:=ht
 obtain⟨a2,n2,c2,rfl,hsl⟩:=ht
 obtain⟨W,hWW,hbW,hzW,hc0,hc1,hc2⟩:=x9 w (.cells #[.string (aj t.nm),.slice a2 n2 c2,.int .i64 t.pr] 42) (.cells #[.int .i64 s.k,.string (aj s.tb),.slice b1 m1 d1,.string (aj s.prim),.slice b2 m2 d2,.slice b3 m3 d3,.slice b4 m4 d4,.string (aj s.jn),.slice b5 m5 d5,.slice b6 m6 d6,.slice b7 m7 d7,.slice b8 m8 d8,.bool s.desc,.int .i64 s.lim] 29) (.cells #[.slice none 0 0] 87)
 have k1:=ay hc1
 have h10:10<w.heap.size:=hW.lt
 have HEA:=hid (xQ (fun b=>b<w.heap.size) 55 #[] #[.pointer (some ⟨w.heap.size,0,none⟩),.pointer (some ⟨w.heap.size+2,0,none⟩)] (enters_of Tryz.func55 (by kernel_rfl) rfl)
  (Ia t s.sets #[.string (aj t.nm),.slice a2 n2 c2,.int .i64 t.pr] #[.int .i64 s.k,.string (aj s.tb),.slice b1 m1 d1,.string (aj s.prim),.slice b2 m2 d2,.slice b3 m3 d3,.slice b4 m4 d4,.string (aj s.jn),.slice b5 m5 d5,.slice b6 m6 d6,.slice b7 m7 d7,.slice b8 m8 d8,.bool s.desc,.int .i64 s.lim] w) (fun V=>Below w.heap.size w V) s.sets (lG t [] s.sets) (.slice b3 m3 d3) W (rY _ _ _)
  ⟨hbW,by omega,hc0,hc1,⟨_,hc2,World.ownsRow_nil _ _ _ _,fun e=>by cases e⟩,fun x hx=>by cases hx⟩
  (hid (fun i V hI=>hsets.to (by decide) (R:=fun _=>False) (aA.aC hI.1) (fun b hb _=>⟨id,hb⟩) (fun _ _ e=>e.to (R:=fun _=>False) (aA.aC hI.1) (fun b hb _=>⟨id,hb⟩))))
  (hid (fun i V U hI hb=>⟨hI.1.trans (hb.mono hI.1.size),Nat.le_trans hI.2.1 hb.size,(hb.block _ (World.lt_of_block hI.2.2.1)).trans hI.2.2.1,(hb.block _ (World.lt_of_block hI.2.2.2.1)).trans hI.2.2.2.1,hI.2.2.2.2.1.CS hb,hI.2.2.2.2.2⟩))
  (hid (fun i x c hx hcx V hI ds hds=>by
   rw[wS t [] s.sets i x hx,List.nil_append] at hcx
   obtain rfl:Bg t (s.sets.take i) x=c:=by simpa using hcx
   obtain⟨g1,g2,g3,g4,g5,g6⟩:=hI
   have hlt:=List.getElem?_eq_some_iff.1 hx
   refine (Eh t x (s.sets.take i) ds _ w.heap.size w.heap.size (w.heap.size+2) (w.heap.size+3) V (hW.on g1) hds (hgs x (List.mem_of_getElem? hx)) g3 (ht0.on g1) hK g5 g6 (by simp only[List.length_take];omega) h10 ⟨by omega,by omega,by omega,by omega⟩ (by omega) g2).mono ?_
   rintro e w' ⟨rfl,q1,q2,q3,q4⟩
   have ht2:s.sets.take (i+1)=s.sets.take i++[x]:=by rw[List.take_succ_eq_append_getElem hlt.1,hlt.2]
   refine ⟨rfl,fun h0=>⟨g1.trans q1,by omega,(q2 _ (by omega) (by omega)).trans g3,(q2 _ (by omega) (by omega)).trans g4,by rw[ht2];exact (q4 h0).2,fun y hy=>?_⟩,fun _=>g1.trans q1⟩
   rw[ht2,List.mem_append,List.mem_singleton] at hy
   rcases hy with hy | rfl
   ·exact g6 y hy
   ·exact (q4 h0).1)))
 have HT0:=hid ht0
 have HWH0:=hid (dN hwh)
 have HGW:=hid hgw
 have HKT:=hid hK
 have HW:=hid hW
 unfold CJ
 obtain⟨c,hcc⟩:∃c,aX (lG t [] s.sets)=c:=⟨_,rfl⟩
 rw[hcc] at HEA ⊢
 clear hcc hc0 hc1 hc2 hbW hsets hwh hsl ht0 hgs hgw hK hW
 by_cases hc:c=0
 ·rw[if_neg (fun h=>h hc)]
  subst hc
  go_enter Tryz.func22,Tryz.ntmps22
  go_wp2_with fail
  try rw[hWW]
  refine HEA.out.mono ?_
  rintro e w1 ⟨rfl,hI,_⟩
  obtain⟨g1,g2,g3,g4,_,_⟩:Ia t s.sets #[.string (aj t.nm),.slice a2 n2 c2,.int .i64 t.pr] #[.int .i64 s.k,.string (aj s.tb),.slice b1 m1 d1,.string (aj s.prim),.slice b2 m2 d2,.slice b3 m3 d3,.slice b4 m4 d4,.string (aj s.jn),.slice b5 m5 d5,.slice b6 m6 d6,.slice b7 m7 d7,.slice b8 m8 d8,.bool s.desc,.int .i64 s.lim] w s.sets.length w1:=by simpa using hI
  have HT3:=hid g3
  have HS9:=hid (ay g4).2.2.2.2.2.2.2.2.2.1
  have HWT:=hid (HW.out.on g1)
  have HWH:=hid (HWH0.out.to (T:=fun b=>b<w.heap.size) (by decide) (R:=fun _=>False) (aA.aC g1) (fun b hb _=>⟨id,hb⟩) (fun _ _ e=>e.to (R:=fun _=>False) (aA.aC g1) (fun b hb _=>⟨id,hb⟩)))
  have HTE:=hid (HT0.out.on g1)
  have HG1:=hid g1
  clear hI g1 g3 g4 HEA k1
  go_wp2_with fail
  have HS3:Hid (∀V,Below w1.heap.size w1 V→V.cell? ⟨w.heap.size+1,9,none⟩=some (.slice b6 m6 d6)∧V.cell? ⟨w.heap.size,0,none⟩=some (.string (aj t.nm))∧(V.cell? ⟨w.heap.size,1,none⟩=some (.slice a2 n2 c2)∧V.cell? ⟨w.heap.size,2,none⟩=some (.int .i64 t.pr))):=hid (fun V hV=>by
   have q:=aH ((hV.block w.heap.size (World.lt_of_block HT3.out)).trans HT3.out)
   exact⟨(hV.cell (p:=⟨w.heap.size+1,9,none⟩) (World.block_lt_of_cell? _ _ HS9.out)).trans HS9.out,q.1,q.2.1,q.2.2.1⟩)
  have hS0:=HS3.out w1.drew (Below.refl _ w1).drew
  refine dB (fun V:World=>V.cell? ⟨w.heap.size+1,9,none⟩=some (.slice b6 m6 d6)∧V.cell? ⟨w.heap.size,0,none⟩=some (.string (aj t.nm))∧(V.cell? ⟨w.heap.size,1,none⟩=some (.slice a2 n2 c2)∧V.cell? ⟨w.heap.size,2,none⟩=some (.int .i64 t.pr))) [] (by kernel_rfl) ?_
  refine aP (i:=0) (v:=?_) rfl (by kernel_rfl) (by kernel_rfl) (by kernel_rfl) (by kernel_rfl) (by kernel_rfl) (fun _ _ _ h=>h) (Or.inl ⟨by rfl,?_⟩) (by assumption) ?_;rotate_left;(focus (intro w hSw;(try dsimp only at hSw);(try obtain⟨hSw1,hSw2,hSw3⟩:=hSw);go_simp<;>with_reducible rfl));(try simp only[Act.put,List.getElem_toArray,List.getElem_cons_zero,List.getElem_cons_succ,List.setIfInBounds_toArray,List.set_cons_zero,List.set_cons_succ])
  refine aP (i:=1) (v:=?_) rfl (by kernel_rfl) (by kernel_rfl) (by kernel_rfl) (by kernel_rfl) (by kernel_rfl) (fun _ _ _ h=>h) (Or.inl ⟨by rfl,?_⟩) (by assumption) ?_;rotate_left;(focus (intro w hSw;(try dsimp only at hSw);(try obtain⟨hSw1,hSw2,hSw3⟩:=hSw);go_simp<;>with_reducible rfl));(try simp only[Act.put,List.getElem_toArray,List.getElem_cons_zero,List.getElem_cons_succ,List.setIfInBounds_toArray,List.set_cons_zero,List.set_cons_succ])
  refine aP (i:=2) (v:=?_) rfl (by kernel_rfl) (by kernel_rfl) (by kernel_rfl) (by kernel_rfl) (by kernel_rfl) (fun _ _ _ h=>h) (Or.inl ⟨by rfl,?_⟩) (by assumption) ?_;rotate_left;(focus (intro w hSw;(try dsimp only at hSw);(try obtain⟨hSw1,hSw2,hSw3⟩:=hSw);go_simp<;>with_reducible rfl));(try simp only[Act.put,List.getElem_toArray,List.getElem_cons_zero,List.getElem_cons_succ,List.setIfInBounds_toArray,List.set_cons_zero,List.set_cons_succ])
  obtain⟨Y,hY,hbY,hzY,hcY⟩:=aL w1.drew (.cells #[.string (aj t.nm),.slice a2 n2 c2,.int .i64 t.pr] 42)
  have hbY1:Below w1.heap.size w1 Y:=((Below.refl _ w1).drew).trans hbY
  refine bD (i:=3) (by kernel_rfl) rfl rfl (aT (vV rfl (by rfl) _) ?_)
  rw[hY]
  refine ⟨.inl (HS3.out Y hbY1),?_⟩
  simp only[Act.put,List.getElem_toArray,List.getElem_cons_zero,List.getElem_cons_succ,List.setIfInBounds_toArray,List.set_cons_zero,List.set_cons_succ]
  refine dL (i:=4) #[.slice (some ⟨w1.drew.heap.size,0,none⟩) 1 1] (fun v W=>v = .func (.func 58) #[] #[.pointer (some ⟨Y.heap.size,0,none⟩)]∧W.heap[Y.heap.size]?=some (.cells #[.slice (some ⟨w1.drew.heap.size,0,none⟩) 1 1] 22)∧Below Y.heap.size Y W) (by kernel_rfl) rfl rfl rfl (by kernel_rfl) (enters_of Tryz.func24 (by kernel_rfl) rfl) ((pR _ _ _ Y).mono (fun e W h=>⟨_,h.1,rfl,h.2.1,h.2.2⟩)) ?_
  rintro _ Z ⟨rfl,hcZ,hbZ⟩
  have hbZ1:Below w1.heap.size w1 Z:=hbY1.trans (hbZ.mono hbY1.size)
  refine ⟨HS3.out Z hbZ1,?_⟩
  simp only[Act.put,List.getElem_toArray,List.getElem_cons_zero,List.getElem_cons_succ,List.setIfInBounds_toArray,List.set_cons_zero,List.set_cons_succ]
  have hTZ:=HTE.out.on hbZ1
  have hcT:Z.heap[w1.drew.heap.size]?=some (.cells #[.string (aj t.nm),.slice a2 n2 c2,.int .i64 t.pr] 42):=(hbZ.block _ hzY).trans hcY
  refine dL (i:=5) #[.slice b6 m6 d6,.func (.func 58) #[] #[.pointer (some ⟨Y.heap.size,0,none⟩)]] (fun v W=>v = .int .i64 (iB [t] s.wh)∧Below Z.heap.size Z W) (by kernel_rfl) rfl rfl rfl (by kernel_rfl) (enters_of Tryz.func23 (by kernel_rfl) rfl)
   ((nu _ _ [t] s.wh _ _ Y.heap.size Z (HWT.out.on hbZ1) HGW.out (HWH.out.to (by decide) (R:=fun _=>False) (aA.aC hbZ1) (fun b hb _=>⟨id,hb⟩) (fun _ _ e=>e.to (R:=fun _=>False) (aA.aC hbZ1) (fun b hb _=>⟨id,hb⟩))) (by rw[aD _ _ _ _ _ _ hcZ];rfl) (World.lt_of_block hcZ) (oD hcT hTZ) (fun t' ht'=>by simp only[List.mem_singleton] at ht';rw[ht'];exact HKT.out) (by simp)).mono (fun e W h=>⟨_,h.1,rfl,h.2⟩)) ?_
  rintro _ wF ⟨rfl,hbF⟩
  have hbF1:Below w1.heap.size w1 wF:=hbZ1.trans (hbF.mono hbZ1.size)
  refine ⟨HS3.out wF hbF1,?_⟩
  simp only[Act.put,List.getElem_toArray,List.getElem_cons_zero,List.getElem_cons_succ,List.setIfInBounds_toArray,List.set_cons_zero,List.set_cons_succ]
  refine bD (i:=6) (by kernel_rfl) rfl rfl (aT (iR rfl (by rfl) _) ⟨.inl (HS3.out wF hbF1),?_⟩)
  simp only[Act.put,List.getElem_toArray,List.getElem_cons_zero,List.getElem_cons_succ,List.setIfInBounds_toArray,List.set_cons_zero,List.set_cons_succ]
  refine bV (by kernel_rfl) ?_ _
  show Only _ .normal _ _
  unfold Only
  clear hS0
  go_wp2
  go_ret
  exact⟨rfl,HG1.out.trans (hbF1.mono HG1.out.size)⟩
 ·rw[if_pos hc]
  have hc1:(c != 0)=true:=by simpa using hc
  have HCC:=hid hc
  clear hc
  go_enter Tryz.func22,Tryz.ntmps22
  go_wp2_with fail
  try rw[hWW]
  refine HEA.out.mono ?_
  rintro e w1 ⟨rfl,_,hb1⟩
  have HB1:=hid (hb1 HCC.out)
  clear hb1 HEA k1
  go_wp2_with fail
  go_ret
  exact⟨rfl,HB1.out⟩
def jB (Gr:List Ex) (X:Ex):Bool:=decide (Gr.length=1)&&(decide (jH X=2)&&eqv (valOf X) (valOf (Gr.headD mW)))
theorem zy (L:List Tb) (gr:List Ex) (X:Ex):ED L gr X=jB (gr.map fun e=>(aR L e).1) X:=by
 unfold ED jB
 rw[List.length_map]
 by_cases h:gr.length=1
 ·match gr,h with
  | [g],_=>rfl
 ·rw[decide_eq_false h,Bool.false_and,Bool.false_and]
theorem nI (S T:Nat→Prop) (Gr:List Ex) (X:Ex) (sa:Option Addr) (sn sc:Nat) (gb:Bool) (ga:Option Addr) (gn gc:Nat) (v:Value) (w:World) (hx:fB T w X v) (hg:aQ 8 gu S w Gr (.slice ga gn gc)) :
  Calls Tryz.prog 117 #[.agg #[.slice sa sn sc,.bool gb,.slice ga gn gc],v] w fun e w'=>e = .returned (.bool (jB Gr X))∧Below w.heap.size w w':=by
 obtain⟨k1,op1,tb1,nm1,vk1,vn1,vs1,ys1,aa1,nn1,cc1,rfl,rfl,_⟩:=hx
 obtain⟨W,hWW,hbW,hzW,hcA,hcB⟩:=two w (.cells #[.slice sa sn sc,.bool gb,.slice ga gn gc] 115) (.cells #[.int .i64 k1,.int .i64 op1,.string (aj tb1),.string (aj nm1),.int .i64 vk1,.int .i64 vn1,.string (aj vs1),.slice aa1 nn1 cc1] 48)
 have kA:=aH hcA
 have kB:=aN hcB
 have HG:=hid (hg.to (T:=S) (by decide) (R:=fun _=>False) (aA.aC hbW) (fun b hb _=>⟨id,hb⟩) (fun _ _ e=>e.to (R:=fun _=>False) (aA.aC hbW) (fun b hb _=>⟨id,hb⟩)))
 have hgn:gn=Gr.length:=by obtain⟨_,_,hf⟩:=hg.form;simp only[Value.slice.injEq] at hf;exact hf.2.1
 subst hgn
 have HB:=hid hbW
 unfold jB
 show Calls Tryz.prog _ _ w fun e w'=>e = .returned (.bool (decide (Gr.length=1)&&(decide (k1=2)&&eqv ⟨vk1,vn1,vs1⟩ (valOf (Gr.headD mW)))))∧Below w.heap.size w w'
 clear hbW hcA hcB hg
 by_cases hl:Gr.length=1
 ·rw[decide_eq_true hl,Bool.true_and]
  have hl1:(((Gr.length:Nat):Int)==1)=true:=by rw[beq_iff_eq];omega
  by_cases hk:k1=2
  ·rw[decide_eq_true hk,Bool.true_and]
   have hk1:(k1==2)=true:=by rw[beq_iff_eq];exact hk
   obtain⟨g,hgr⟩:∃g,Gr[0]?=some g:=⟨_,List.getElem?_eq_getElem (by omega)⟩
   have hhd:Gr.headD mW=g:=by
    match Gr,hl with
    | [y],_=>simpa using hgr
   rw[hhd]
   obtain⟨_,_,_,b,off,ds,rfl,_,hel,hcell⟩:=bN HG.out hgr
   obtain⟨k2,op2,tb2,nm2,vk2,vn2,vs2,ys2,aa2,nn2,cc2,rfl,rfl,_⟩:=hel
   have q4:=hcell 4 _ rfl
   have q5:=hcell 5 _ rfl
   have q6:=hcell 6 _ rfl
   simp only[Nat.zero_mul,Nat.add_zero] at q4 q5 q6
   have hlt:((0:Int)<((Gr.length:Nat):Int)):=by omega
   have hrun:=fun V=>zU ⟨vk1,vn1,vs1⟩ ⟨vk2,vn2,vs2⟩ V
   have hgd:=Tryz.lS
   show Calls Tryz.prog _ _ w fun e w'=>e = .returned (.bool (eqv ⟨vk1,vn1,vs1⟩ ⟨vk2,vn2,vs2⟩))∧Below w.heap.size w w'
   generalize eqv ⟨vk1,vn1,vs1⟩ ⟨vk2,vn2,vs2⟩=r at hrun ⊢
   dsimp only at hrun
   clear hcell hl hk hhd hgr
   go_enter Tryz.func117,Tryz.ntmps117
   go_wp2_with fail
   try rw[hWW]
   go_quiet (fail)
   have HB3:=hid (below_drewN HB.out nq)
   go_wp2_with fail
   go_ret
   exact⟨rfl,HB3.out⟩
  ·rw[decide_eq_false hk,Bool.false_and]
   have hk1:(k1==2)=false:=by rw[beq_eq_false_iff_ne];exact hk
   clear hl hk
   go_enter Tryz.func117,Tryz.ntmps117
   go_wp2_with fail
   try rw[hWW]
   go_quiet (fail)
   have HB3:=hid (below_drewN HB.out nq)
   go_wp2_with fail
   go_ret
   exact⟨rfl,HB3.out⟩
 ·rw[decide_eq_false hl,Bool.false_and]
  have hl1:(((Gr.length:Nat):Int)==1)=false:=by rw[beq_eq_false_iff_ne];omega
  clear hl
  go_enter Tryz.func117,Tryz.ntmps117
  go_wp2_with fail
  try rw[hWW]
  go_quiet (fail)
  have HB3:=hid (below_drewN HB.out nq)
  go_wp2_with fail
  go_ret
  exact⟨rfl,HB3.out⟩
def nO (S T:Nat→Prop) (L:List Tb) (gb:Bool) (Gr:List Ex) (w:World) (cs:Array Value):Prop:=∃sa sn sc ga gn gc,cs=#[.slice sa sn sc,.bool gb,.slice ga gn gc]∧aQ 3 dK S w L (.slice sa sn sc)∧aQ 8 gu T w Gr (.slice ga gn gc)
theorem nO.lU {S T:Nat→Prop} {L:List Tb} {gb:Bool} {Gr:List Ex} {w w':World} {cs:Array Value} (h:nO S T L gb Gr w cs) (hb:Below w.heap.size w w'):nO S T L gb Gr w' cs:=by
 obtain⟨sa,sn,sc,ga,gn,gc,rfl,h1,h2⟩:=h
 exact⟨_,_,_,_,_,_,rfl,h1.to (by decide) (R:=fun _=>False) (aA.aC hb) (fun b hb _=>⟨id,hb⟩) (fun _ _ e=>e.on hb),h2.to (by decide) (R:=fun _=>False) (aA.aC hb) (fun b hb _=>⟨id,hb⟩) (fun _ _ e=>e.to (R:=fun _=>False) (aA.aC hb) (fun b hb _=>⟨id,hb⟩))⟩
theorem oK {w:World} {g:Nat} {a b:Value} {t:TypeId} {fr:Nat × Nat} (h:w.heap[g]?=some (.cells #[a,b] t fr)):w.cell? ⟨g,0,none⟩=some a∧w.cell? ⟨g,1,none⟩=some b :=
 ⟨by rw[aD _ _ _ _ _ _ h];rfl,by rw[aD _ _ _ _ _ _ h];rfl⟩
def iG (gb:Bool) (Gr:List Ex) (ik:Int) (R:Ex × Int × Int):Int :=
 if R.2.2≠0 then R.2.2 else if ik=5∧R.2.1=2 then 9 else if ik=2∧gb=true∧jB Gr R.1=false then 4 else 0
theorem CF (L:List Tb) (s:St) (i:It) (e:Ex):zB L s i e=iG (bZ s) (s.gr.map fun e=>(aR L e).1) i.k (aR L e):=by
 unfold zB iG
 rw[zy]
theorem Bn (S T T2:Nat→Prop) (L:List Tb) (gb:Bool) (Gr:List Ex) (x:Ex) (ik:Int) (iv:Value) (v:Value) (sb ib:Nat) (cs:Array Value) (w:World) (hW:eH w) (hg:dS x) (hx:fB T2 w x v) (hSb:w.heap[sb]?=some (.cells cs 115)) (hSel:nO S T L gb Gr w cs) (hIb:w.heap[ib]?=some (.cells #[.int .i64 ik,iv] 55)) (hK : ∀t∈L,oo t) (hn:L.length≤100) :
  Calls Tryz.prog 116 #[v,.pointer (some ⟨sb,0,none⟩),.pointer (some ⟨ib,0,none⟩)] w fun e w'=>e = .returned (.int .i64 (iG gb Gr ik (aR L x)))∧Below w.heap.size w w':=by
 have hx0:=hx
 obtain⟨k1,op1,tb1,nm1,vk1,vn1,vs1,ys1,aa1,nn1,cc1,hxe,rfl,ha⟩:=hx
 obtain⟨sa,sn,sc,ga,gn,gc,rfl,hl,hgr⟩:=hSel
 obtain⟨W,hWW,hbW,hzW,hcW⟩:=aL w (.cells #[.int .i64 k1,.int .i64 op1,.string (aj tb1),.string (aj nm1),.int .i64 vk1,.int .i64 vn1,.string (aj vs1),.slice aa1 nn1 cc1] 48)
 have k0:=aN hcW
 have hsb:=World.lt_of_block hSb
 have hib:=World.lt_of_block hIb
 have kk0:=aH ((hbW.block sb hsb).trans hSb)
 have HSB:=hid hSb
 have HIB:=hid hIb
 have HSEL:=hid hgr
 have HBI:=hid (fM S T2 L x (.slice sa sn sc) _ W (hW.on hbW) hg.2.1 (hx0.new hbW) (hl.to (by decide) (R:=fun _=>False) (aA.aC hbW) (fun b hb _=>⟨id,hb⟩) (fun _ _ e=>e.on hbW)) hK hn (fun _=>hg.2.2))
 have hT:eX L x=aR L x:=by unfold eX;rw[if_pos hg.1]
 rw[hT] at HBI
 have HB:=hid hbW
 generalize aR L x=R at HBI ⊢
 obtain⟨X,kk,c⟩:=R
 dsimp only at HBI ⊢
 obtain⟨r,hr⟩:∃r,iG gb Gr ik (X,kk,c)=r:=⟨_,rfl⟩
 rw[hr]
 have HR:=hid hr
 clear hbW hcW hx0 hxe ha hSb hIb hgr hl hK hg hT hW hr
 go_enter Tryz.func116,Tryz.ntmps116
 go_wp2_with fail
 try rw[hWW]
 refine HBI.out.mono ?_
 rintro e w1 ⟨u,rfl,hxu,hb1⟩
 have hxu2:=hxu
 obtain⟨k2,op2,tb2,nm2,vk2,vn2,vs2,ys2,aa2,nn2,cc2,_,rfl,_⟩:=hxu
 obtain⟨Y,hY,hbY,hzY,hcY⟩:=aL w1 (.cells #[.int .i64 k2,.int .i64 op2,.string (aj tb2),.string (aj nm2),.int .i64 vk2,.int .i64 vn2,.string (aj vs2),.slice aa2 nn2 cc2] 48)
 have HB1:=HB.out.trans (hb1.mono HB.out.size)
 have HBY:=hid (HB1.trans (hbY.mono HB1.size))
 have kS:=aH ((HBY.out.block sb hsb).trans HSB.out)
 have kI:=oK ((HBY.out.block ib hib).trans HIB.out)
 have HIG:=hid (nI T _ Gr X sa sn sc gb ga gn gc _ Y (hxu2.new hbY) ((HSEL.out).to (T:=T) (by decide) (R:=fun _=>False) (aA.aC HBY.out) (fun b hb _=>⟨id,hb⟩) (fun _ _ e=>e.to (R:=fun _=>False) (aA.aC HBY.out) (fun b hb _=>⟨id,hb⟩))))
 have kU:=aN hcY
 clear kk0
 clear hb1 hbY hcY HB1 HBI k0 hxu2
 by_cases hc:c=0
 ·subst hc
  by_cases h5:ik=5
  ·subst h5
   by_cases hk:kk=2
   ·have HE:Hid (r=9):=hid (by rw[← HR.out];unfold iG;rw[if_neg (fun h=>h rfl),if_pos ⟨rfl,hk⟩])
    subst hk
    go_wp2_with (first | (refine wpList_store_row rfl 48 (.tmp 5) (.tmp 13) rfl w1.heap.size #[.int .i64 k2,.int .i64 op2,.string (aj tb2),.string (aj nm2),.int .i64 vk2,.int .i64 vn2,.string (aj vs2),.slice aa2 nn2 cc2] rfl rfl 48 bS (heap_alloc_new w1 _) Tryz.bA rfl (bE _ _ _ _ _ _ _ _ _ _) ?_;rw[aB,hY];clear hY) | fail)
    go_ret
    exact⟨by rw[HE.out];rfl,HBY.out⟩
   ·have HE:Hid (r=0):=hid (by rw[← HR.out];unfold iG;rw[if_neg (fun h=>h rfl),if_neg (fun h=>hk h.2),if_neg (fun h=>absurd h.1 (by decide))])
    have hk1:(kk==2)=false:=by rw[beq_eq_false_iff_ne];exact hk
    clear hk
    go_wp2_with (first | (refine wpList_store_row rfl 48 (.tmp 5) (.tmp 13) rfl w1.heap.size #[.int .i64 k2,.int .i64 op2,.string (aj tb2),.string (aj nm2),.int .i64 vk2,.int .i64 vn2,.string (aj vs2),.slice aa2 nn2 cc2] rfl rfl 48 bS (heap_alloc_new w1 _) Tryz.bA rfl (bE _ _ _ _ _ _ _ _ _ _) ?_;rw[aB,hY];clear hY) | fail)
    go_ret
    exact⟨by rw[HE.out];rfl,HBY.out⟩
  ·have h51:(ik==5)=false:=by rw[beq_eq_false_iff_ne];exact h5
   by_cases h2:ik=2
   ·subst h2
    cases gb with
    |
     true =>
     have HE:Hid (r=if jB Gr X=false then 4 else 0):=hid (by
      rw[← HR.out]
      unfold iG
      rw[if_neg (fun h=>h rfl),if_neg (fun h=>h5 h.1)]
      cases jB Gr X<;>simp)
     clear h5
     go_wp2_with (first | (refine wpList_store_row rfl 48 (.tmp 5) (.tmp 13) rfl w1.heap.size #[.int .i64 k2,.int .i64 op2,.string (aj tb2),.string (aj nm2),.int .i64 vk2,.int .i64 vn2,.string (aj vs2),.slice aa2 nn2 cc2] rfl rfl 48 bS (heap_alloc_new w1 _) Tryz.bA rfl (bE _ _ _ _ _ _ _ _ _ _) ?_;rw[aB,hY];clear hY) | fail)
     refine HIG.out.mono ?_
     rintro e w2 ⟨rfl,hb2⟩
     have HB2:=hid (HBY.out.trans (hb2.mono HBY.out.size))
     clear hb2 HIG
     cases hig:jB Gr X with
     |
      true =>
      have HE2:Hid (r=0):=hid (by rw[HE.out,hig];rfl)
      go_wp2_with fail
      go_ret
      exact⟨by rw[HE2.out];rfl,HB2.out⟩
     |
      false =>
      have HE2:Hid (r=4):=hid (by rw[HE.out,hig];rfl)
      go_wp2_with fail
      go_ret
      exact⟨by rw[HE2.out];rfl,HB2.out⟩
    |
     false =>
     have HE:Hid (r=0):=hid (by rw[← HR.out];unfold iG;rw[if_neg (fun h=>h rfl),if_neg (fun h=>h5 h.1),if_neg (fun h=>by cases h.2.1)])
     clear h5
     go_wp2_with (first | (refine wpList_store_row rfl 48 (.tmp 5) (.tmp 13) rfl w1.heap.size #[.int .i64 k2,.int .i64 op2,.string (aj tb2),.string (aj nm2),.int .i64 vk2,.int .i64 vn2,.string (aj vs2),.slice aa2 nn2 cc2] rfl rfl 48 bS (heap_alloc_new w1 _) Tryz.bA rfl (bE _ _ _ _ _ _ _ _ _ _) ?_;rw[aB,hY];clear hY) | fail)
     go_ret
     exact⟨by rw[HE.out];rfl,HBY.out⟩
   ·have h21:(ik==2)=false:=by rw[beq_eq_false_iff_ne];exact h2
    have HE:Hid (r=0):=hid (by rw[← HR.out];unfold iG;rw[if_neg (fun h=>h rfl),if_neg (fun h=>h5 h.1),if_neg (fun h=>h2 h.1)])
    clear h5 h2
    go_wp2_with (first | (refine wpList_store_row rfl 48 (.tmp 5) (.tmp 13) rfl w1.heap.size #[.int .i64 k2,.int .i64 op2,.string (aj tb2),.string (aj nm2),.int .i64 vk2,.int .i64 vn2,.string (aj vs2),.slice aa2 nn2 cc2] rfl rfl 48 bS (heap_alloc_new w1 _) Tryz.bA rfl (bE _ _ _ _ _ _ _ _ _ _) ?_;rw[aB,hY];clear hY) | fail)
    go_ret
    exact⟨by rw[HE.out];rfl,HBY.out⟩
 ·have HE:Hid (r=c):=hid (by rw[← HR.out];unfold iG;rw[if_pos hc])
  have hc1:(c != 0)=true:=by simpa using hc
  have hc2:(c==0)=false:=by rw[beq_eq_false_iff_ne];exact hc
  clear hc
  go_wp2_with (first | (refine wpList_store_row rfl 48 (.tmp 5) (.tmp 13) rfl w1.heap.size #[.int .i64 k2,.int .i64 op2,.string (aj tb2),.string (aj nm2),.int .i64 vk2,.int .i64 vn2,.string (aj vs2),.slice aa2 nn2 cc2] rfl rfl 48 bS (heap_alloc_new w1 _) Tryz.bA rfl (bE _ _ _ _ _ _ _ _ _ _) ?_;rw[aB,hY];clear hY) | fail)
  go_ret
  exact⟨by rw[HE.out];rfl,HBY.out⟩
def nS (L:List Tb) (gb:Bool) (Gr:List Ex) (i:It):Int:=if i.k=1∧gb=true then 4 else aX (i.xs.map fun x=>iG gb Gr i.k (aR L x))
theorem Ef (L:List Tb) (s:St) (i:It):wW L s i=nS L (bZ s) (s.gr.map fun e=>(aR L e).1) i:=by
 unfold wW nS
 rw[show i.xs.map (zB L s i)=i.xs.map (fun x=>iG (bZ s) (s.gr.map fun e=>(aR L e).1) i.k (aR L x)) from List.map_congr_left (fun x _=>CF L s i x)]
def ig (gb:Bool) (Gr:List Ex) (R:Ex × Int × Int):Int:=if R.2.2=0∧gb=true∧jB Gr R.1=false then 4 else R.2.2
theorem Af (L:List Tb) (s:St) (e:Ex):oZ L s e=ig (bZ s) (s.gr.map fun e=>(aR L e).1) (aR L e):=by
 unfold oZ ig
 rw[zy]
theorem Cy (S T T2:Nat→Prop) (L:List Tb) (gb:Bool) (Gr:List Ex) (i:It) (ds:List Value) (cs:Array Value) (w:World) (hW:eH w) (hg : ∀x∈i.xs,dS x) (hx:qo T2 w i ds) (hSel:nO S T L gb Gr w cs) (hK : ∀t∈L,oo t) (hn:L.length≤100) :
  Calls Tryz.prog 64 #[.agg cs,.agg ds.toArray] w fun e w'=>e = .returned (.int .i64 (nS L gb Gr i))∧Below w.heap.size w w':=by
 obtain⟨ia,im,ic,rfl,hxs⟩:=hx
 have hSel0:=hSel
 obtain⟨sa,sn,sc,ga,gn,gc,rfl,_,_⟩:=hSel
 obtain⟨W,hWW,hbW,hzW,hcA,hcB⟩:=two w (.cells #[.slice sa sn sc,.bool gb,.slice ga gn gc] 115) (.cells #[.int .i64 i.k,.slice ia im ic] 55)
 have kA:=aH hcA
 have kB:=oK hcB
 have HE:=hid (jJ T2 116 #[] #[.pointer (some ⟨w.heap.size,0,none⟩),.pointer (some ⟨w.heap.size+1,0,none⟩)] (enters_of Tryz.func116 (by kernel_rfl) rfl) (fun x=>iG gb Gr i.k (aR L x)) i.xs (.slice ia im ic) W
  ((dN hxs).to (by decide) (R:=fun _=>False) (aA.aC hbW) (fun b hb _=>⟨id,hb⟩) (fun _ _ e=>e.to (R:=fun _=>False) (aA.aC hbW) (fun b hb _=>⟨id,hb⟩)))
  (hid fun x hxm V hV ds hds=>Bn S T T2 L gb Gr x i.k _ _ w.heap.size (w.heap.size+1) _ V ((hW.on hbW).on hV) (hg x hxm) hds.v ((hV.block _ (World.lt_of_block hcA)).trans hcA) ((hSel0.lU hbW).lU hV) ((hV.block _ (World.lt_of_block hcB)).trans hcB) hK hn))
 have HB:=hid hbW
 unfold nS
 obtain⟨F,hF⟩:∃F,aX (i.xs.map fun x=>iG gb Gr i.k (aR L x))=F:=⟨_,rfl⟩
 rw[hF] at HE ⊢
 clear hF hcA hcB hbW hSel0 hxs hW hg
 obtain⟨ik,xs⟩:=i
 dsimp only at *
 by_cases h1:ik=1
 ·subst h1
  cases gb with
  |
   true =>
   rw[if_pos ⟨rfl,rfl⟩]
   go_enter Tryz.func64,Tryz.ntmps64
   go_wp2_with fail
   try rw[hWW]
   go_wp2_with fail
   go_ret
   exact⟨rfl,HB.out⟩
  |
   false =>
   rw[if_neg (fun h=>by cases h.2)]
   go_enter Tryz.func64,Tryz.ntmps64
   go_wp2_with fail
   try rw[hWW]
   refine HE.out.mono ?_
   rintro e w1 ⟨rfl,hb1⟩
   have HB1:=hid (HB.out.trans (hb1.mono HB.out.size))
   clear hb1 HE
   go_wp2_with fail
   go_ret
   exact⟨rfl,HB1.out⟩
 ·rw[if_neg (fun h=>h1 h.1)]
  have h11:(ik==1)=false:=by rw[beq_eq_false_iff_ne];exact h1
  clear h1
  go_enter Tryz.func64,Tryz.ntmps64
  go_wp2_with fail
  try rw[hWW]
  refine HE.out.mono ?_
  rintro e w1 ⟨rfl,hb1⟩
  have HB1:=hid (HB.out.trans (hb1.mono HB.out.size))
  clear hb1 HE
  go_wp2_with fail
  go_ret
  exact⟨rfl,HB1.out⟩
theorem AV (S T T2:Nat→Prop) (L:List Tb) (gb:Bool) (Gr:List Ex) (x:Ex) (v:Value) (cs:Array Value) (w:World) (hW:eH w) (hg:dS x) (hx:fB T2 w x v) (hSel:nO S T L gb Gr w cs) (hK : ∀t∈L,oo t) (hn:L.length≤100) :
  Calls Tryz.prog 65 #[.agg cs,v] w fun e w'=>e = .returned (.int .i64 (ig gb Gr (aR L x)))∧Below w.heap.size w w':=by
 have hx0:=hx
 obtain⟨k1,op1,tb1,nm1,vk1,vn1,vs1,ys1,aa1,nn1,cc1,hxe,rfl,ha⟩:=hx
 obtain⟨sa,sn,sc,ga,gn,gc,rfl,hl,hgr⟩:=hSel
 obtain⟨W,hWW,hbW,hzW,hcA,hcB⟩:=two w (.cells #[.slice sa sn sc,.bool gb,.slice ga gn gc] 115) (.cells #[.int .i64 k1,.int .i64 op1,.string (aj tb1),.string (aj nm1),.int .i64 vk1,.int .i64 vn1,.string (aj vs1),.slice aa1 nn1 cc1] 48)
 have kA:=aH hcA
 have k0:=aN hcB
 have HSB:=hid hcA
 have HSEL:=hid (hgr.to (T:=T) (by decide) (R:=fun _=>False) (aA.aC hbW) (fun b hb _=>⟨id,hb⟩) (fun _ _ e=>e.to (T:=T) (R:=fun _=>False) (aA.aC hbW) (fun b hb _=>⟨id,hb⟩)))
 have HBI:=hid (fM S T2 L x (.slice sa sn sc) _ W (hW.on hbW) hg.2.1 (hx0.new hbW) (hl.to (by decide) (R:=fun _=>False) (aA.aC hbW) (fun b hb _=>⟨id,hb⟩) (fun _ _ e=>e.on hbW)) hK hn (fun _=>hg.2.2))
 have hT:eX L x=aR L x:=by unfold eX;rw[if_pos hg.1]
 rw[hT] at HBI
 have HB:=hid hbW
 generalize aR L x=R at HBI ⊢
 obtain⟨X,kk,c⟩:=R
 dsimp only at HBI ⊢
 obtain⟨r,hr⟩:∃r,ig gb Gr (X,kk,c)=r:=⟨_,rfl⟩
 rw[hr]
 have HR:=hid hr
 clear hbW hcA hcB hx0 hxe ha hgr hl hK hg hT hW hr
 go_enter Tryz.func65,Tryz.ntmps65
 go_wp2_with fail
 try rw[hWW]
 refine HBI.out.mono ?_
 rintro e w1 ⟨u,rfl,hxu,hb1⟩
 have hxu2:=hxu
 obtain⟨k2,op2,tb2,nm2,vk2,vn2,vs2,ys2,aa2,nn2,cc2,_,rfl,_⟩:=hxu
 obtain⟨Y,hY,hbY,hzY,hcY⟩:=aL w1 (.cells #[.int .i64 k2,.int .i64 op2,.string (aj tb2),.string (aj nm2),.int .i64 vk2,.int .i64 vn2,.string (aj vs2),.slice aa2 nn2 cc2] 48)
 have hWY:=hb1.trans (hbY.mono hb1.size)
 have HBY:=hid (HB.out.trans (hWY.mono HB.out.size))
 have kS:=aH ((hWY.block w.heap.size (by omega)).trans HSB.out)
 have HIG:=hid (nI T _ Gr X sa sn sc gb ga gn gc _ Y (hxu2.new hbY) (HSEL.out.to (T:=T) (by decide) (R:=fun _=>False) (aA.aC hWY) (fun b hb _=>⟨id,hb⟩) (fun _ _ e=>e.to (R:=fun _=>False) (aA.aC hWY) (fun b hb _=>⟨id,hb⟩))))
 have kU:=aN hcY
 clear hb1 hbY hcY hWY HBI k0 kA hxu2
 by_cases hc:c=0
 ·subst hc
  cases gb with
  |
   true =>
   have HE:Hid (r=if jB Gr X=false then 4 else 0):=hid (by
    rw[← HR.out]
    unfold ig
    cases jB Gr X<;>simp)
   go_wp2_with (first | (refine wpList_store_row rfl 48 (.tmp 5) (.tmp 13) rfl w1.heap.size #[.int .i64 k2,.int .i64 op2,.string (aj tb2),.string (aj nm2),.int .i64 vk2,.int .i64 vn2,.string (aj vs2),.slice aa2 nn2 cc2] rfl rfl 48 bS (heap_alloc_new w1 _) Tryz.bA rfl (bE _ _ _ _ _ _ _ _ _ _) ?_;rw[aB,hY];clear hY) | fail)
   refine HIG.out.mono ?_
   rintro e w2 ⟨rfl,hb2⟩
   have HB2:=hid (HBY.out.trans (hb2.mono HBY.out.size))
   clear hb2 HIG
   cases hig:jB Gr X with
   |
    true =>
    have HE2:Hid (r=0):=hid (by rw[HE.out,hig];rfl)
    go_wp2_with fail
    go_ret
    exact⟨by rw[HE2.out];rfl,HB2.out⟩
   |
    false =>
    have HE2:Hid (r=4):=hid (by rw[HE.out,hig];rfl)
    go_wp2_with fail
    go_ret
    exact⟨by rw[HE2.out];rfl,HB2.out⟩
  |
   false =>
   have HE:Hid (r=0):=hid (by rw[← HR.out];unfold ig;rw[if_neg (fun h=>by cases h.2.1)])
   go_wp2_with (first | (refine wpList_store_row rfl 48 (.tmp 5) (.tmp 13) rfl w1.heap.size #[.int .i64 k2,.int .i64 op2,.string (aj tb2),.string (aj nm2),.int .i64 vk2,.int .i64 vn2,.string (aj vs2),.slice aa2 nn2 cc2] rfl rfl 48 bS (heap_alloc_new w1 _) Tryz.bA rfl (bE _ _ _ _ _ _ _ _ _ _) ?_;rw[aB,hY];clear hY) | fail)
   go_ret
   exact⟨by rw[HE.out];rfl,HBY.out⟩
 ·have HE:Hid (r=c):=hid (by rw[← HR.out];unfold ig;rw[if_neg (fun h=>hc h.1)])
  have hc2:(c==0)=false:=by rw[beq_eq_false_iff_ne];exact hc
  clear hc
  go_wp2_with (first | (refine wpList_store_row rfl 48 (.tmp 5) (.tmp 13) rfl w1.heap.size #[.int .i64 k2,.int .i64 op2,.string (aj tb2),.string (aj nm2),.int .i64 vk2,.int .i64 vn2,.string (aj vs2),.slice aa2 nn2 cc2] rfl rfl 48 bS (heap_alloc_new w1 _) Tryz.bA rfl (bE _ _ _ _ _ _ _ _ _ _) ?_;rw[aB,hY];clear hY) | fail)
  go_ret
  exact⟨by rw[HE.out];rfl,HBY.out⟩
theorem yZ {L:List Tb} {k:Nat} {t:Tb} (h:L[k]?=some t):iQ (L.take (k+1))=iQ (L.take k)+t.cols.length:=by
 obtain⟨h1,h2⟩:=List.getElem?_eq_some_iff.1 h
 unfold iQ
 rw[List.take_succ_eq_append_getElem h1,h2,List.map_append,List.sum_append]
 simp
theorem vY {L:List Tb} (h : ∀t∈L,oo t):iQ L≤8*L.length:=by
 induction L with
 | nil=>simp[iQ]
 |
  cons t L ih =>
  have h1:=ih (fun x hx=>h x (by simp[hx]))
  have h2:=(h t (by simp)).2.1
  unfold iQ at h1 ⊢
  simp only[List.map_cons,List.sum_cons,List.length_cons]
  omega
theorem vL {L:List Tb} {l:List It} {k:Nat} {i:It} (h:l[k]?=some i):fI L (l.take (k+1))=fI L (l.take k)+(if i.k=1 then iQ L else 1):=by
 obtain⟨h1,h2⟩:=List.getElem?_eq_some_iff.1 h
 unfold fI
 rw[List.take_succ_eq_append_getElem h1,h2,List.map_append,List.sum_append]
 simp
theorem sF (L:List Tb):∀l:List It,fI L l≤(iQ L+1)*l.length
 | []=>by simp[fI]
 |
  i::l=>by
  have h1:=sF L l
  unfold fI at h1 ⊢
  simp only[List.map_cons,List.sum_cons,List.length_cons,Nat.mul_add]
  split<;>omega
theorem sI (S T T2:Nat→Prop) (L:List Tb) (gb:Bool) (Gr:List Ex) (items:List It) (v:Value) (cs:Array Value) (w:World) (hx:aQ 2 qo T2 w items v) (hSel:nO S T L gb Gr w cs) (hK : ∀t∈L,oo t) (hn:L.length≤100) (hi:items.length≤1000) :
  Calls Tryz.prog 66 #[.agg cs,v] w fun e w'=>e = .returned (.int .i64 ((fI L items:Nat):Int))∧Below w.heap.size w w':=by
 obtain⟨sa,sn,sc,ga,gn,gc,rfl,hl,_⟩:=hSel
 have hsn:sn=L.length:=by obtain⟨_,_,hf⟩:=hl.form;simp only[Value.slice.injEq] at hf;exact hf.2.1
 subst hsn
 have HX:=hid hx
 obtain⟨va,vc,vcss,rfl,h1,h2,_⟩:=hx
 unfold maxLen at h2
 obtain⟨W,hWW,hbW,hzW,hcW⟩:=aL w (.cells #[.slice sa L.length sc,.bool gb,.slice ga gn gc] 115)
 have kA:=aH hcW
 have HLW:=hid (hl.to (T:=S) (by decide) (R:=fun _=>False) (aA.aC hbW) (fun b hb _=>⟨id,hb⟩) (fun _ _ e=>e.on hbW))
 have HXW:=hid (HX.out.to (T:=T2) (by decide) (R:=fun _=>False) (aA.aC hbW) (fun b hb _=>⟨id,hb⟩) (fun _ _ e=>e.to (T:=T2) (R:=fun _=>False) (aA.aC hbW) (fun b hb _=>⟨id,hb⟩)))
 have HK:=hid hK
 have HB:=hid hbW
 have hcn:=vY hK
 clear hbW hcW hl hK
 go_enter Tryz.func66,Tryz.ntmps66
 go_wp2_with fail
 try rw[hWW]
 go_loopw [5,7,14] (fun a _ i wr=>∃m:Nat,m≤L.length∧i = .int .i64 m∧a = .int .i64 ((iQ (L.take m):Nat):Int)∧Hid (Below W.heap.size W wr)) (fun _ _ i _=>L.length-(intOf i).toNat)
 case atStart=>exact⟨0,Nat.zero_le _,rfl,rfl,hid (Below.refl _ _)⟩
 case round =>
  obtain⟨m,hm,rfl,rfl,HBr⟩:=hrel
  by_cases hlt:m<L.length
  ·obtain⟨t,ht⟩:∃t,L[m]?=some t:=⟨_,List.getElem?_eq_getElem hlt⟩
   have hlt':((m:Int)<(L.length:Int)):=by omega
   have hc8:=(HK.out t (List.mem_of_getElem? ht)).2.1
   obtain⟨_,_,_,b,off,ds,rfl,_,hel,hcell⟩:=bN (HLW.out.to (T:=S) (by decide) (R:=fun _=>False) (aA.aC HBr.out) (fun b hb _=>⟨id,hb⟩) (fun _ _ e=>e.on HBr.out)) ht
   obtain⟨ab,nb,cb,rfl,hsl⟩:=hel
   have hnb:nb=t.cols.length:=by obtain⟨_,_,hf⟩:=hsl.form;simp only[Value.slice.injEq] at hf;exact hf.2.1
   subst hnb
   have q0:=hcell 0 _ rfl
   have q1:=hcell 1 _ rfl
   have q2:=hcell 2 _ rfl
   simp only[Nat.add_zero] at q0
   obtain⟨U,hU,hbU,hzU,hcU⟩:=aL wr (.cells #[.string (aj t.nm),.slice ab t.cols.length cb,.int .i64 t.pr] 42)
   have kU:=aH hcU
   have HBU:=hid (HBr.out.trans (hbU.mono HBr.out.size))
   have htk:=yZ ht
   have hle:=vY (L:=L.take m) (fun x hx=>HK.out x (List.mem_of_mem_take hx))
   have hlen:(L.take m).length≤100:=by simp only[List.length_take];omega
   obtain⟨A,hA⟩:∃A,iQ (L.take m)=A:=⟨_,rfl⟩
   rw[hA] at htk hle ⊢
   have hw1:IntKind.i64.wrap ((A:Int)+(t.cols.length:Int))=(A:Int)+(t.cols.length:Int):=vU _ (by omega) (by omega)
   have HTK:=hid htk
   clear hcell hsl hbU hcU htk hA ht
   go_wp2_with (first | (refine wpList_store_row rfl 42 (.tmp 7) (.tmp 17) rfl wr.heap.size #[.string (aj t.nm),.slice ab t.cols.length cb,.int .i64 t.pr] rfl rfl 42 #[.string ⟨#[]⟩,.slice none 0 0,.int .i64 0] (heap_alloc_new wr _) Tryz.bW rfl rfl ?_;rw[aB,hU];clear hU) | fail)
   go_roundw
   case rel=>exact⟨m+1,by omega,by go_num,by rw[HTK.out];go_num,HBU⟩
   case measure=>simp[intOf];omega
  ·have hlt' : ¬((m:Int)<(L.length:Int)):=by omega
   have htl:L.take m=L:=List.take_of_length_le (by omega)
   rw[htl]
   obtain⟨A,hA⟩:∃A,iQ L=A:=⟨_,rfl⟩
   rw[hA] at hcn ⊢
   have HA:=hid hA
   have HBR2:=hid HBr.out
   obtain⟨wo,rfl⟩:∃wo,wo=wr:=⟨_,rfl⟩
   clear hA htl HBr
   go_wp2_with fail
   go_loopw [8,10,26] (fun a _ i wr=>∃m:Nat,m≤items.length∧i = .int .i64 m∧a = .int .i64 ((fI L (items.take m):Nat):Int)∧Hid (Below W.heap.size W wr)) (fun _ _ i _=>items.length-(intOf i).toNat)
   case atStart=>exact⟨0,Nat.zero_le _,rfl,rfl,hid HBR2.out⟩
   case round =>
    obtain⟨m,hm,rfl,rfl,HBr⟩:=hrel
    by_cases hlt:m<items.length
    ·obtain⟨i,hit⟩:∃i,items[m]?=some i:=⟨_,List.getElem?_eq_getElem hlt⟩
     have hlt':((m:Int)<(items.length:Int)):=by omega
     obtain⟨_,_,_,b,off,ds,rfl,_,hel,hcell⟩:=bN (HXW.out.to (T:=T2) (by decide) (R:=fun _=>False) (aA.aC HBr.out) (fun b hb _=>⟨id,hb⟩) (fun _ _ e=>e.to (R:=fun _=>False) (aA.aC HBr.out) (fun b hb _=>⟨id,hb⟩))) hit
     obtain⟨ia,im,ic,rfl,_⟩:=hel
     have q0:=hcell 0 _ rfl
     have q1:=hcell 1 _ rfl
     simp only[Nat.add_zero] at q0
     obtain⟨U,hU,hbU,hzU,hcU⟩:=aL wr (.cells #[.int .i64 i.k,.slice ia im ic] 55)
     have kU:=oK hcU
     have HBU:=hid (HBr.out.trans (hbU.mono HBr.out.size))
     have htk:=vL (L:=L) hit
     rw[HA.out] at htk
     have hle:=sF L (items.take m)
     have hlen:(items.take m).length≤1000:=by simp only[List.length_take];omega
     have hle2:(iQ L+1)*(items.take m).length≤801*1000:=Nat.mul_le_mul (by rw[HA.out];omega) hlen
     obtain⟨B,hB⟩:∃B,fI L (items.take m)=B:=⟨_,rfl⟩
     rw[hB] at htk hle ⊢
     have HTK:=hid htk
     have hBle:B≤801000:=by omega
     clear hcell hbU hcU htk hB hit hle hle2
     by_cases h1:i.k=1
     ·have h11:(i.k==1)=true:=by rw[beq_iff_eq];exact h1
      have hw1:IntKind.i64.wrap ((B:Int)+(A:Int))=(B:Int)+(A:Int):=vU _ (by omega) (by omega)
      have HTK2:Hid (fI L (items.take (m+1))=B+A):=hid (by rw[HTK.out,if_pos h1])
      clear h1 HTK
      go_wp2_with (first | (refine wpList_store_row rfl 55 (.tmp 10) (.tmp 29) rfl wr.heap.size #[.int .i64 i.k,.slice ia im ic] rfl rfl 55 #[.int .i64 0,.slice none 0 0] (heap_alloc_new wr _) Tryz.ow rfl rfl ?_;rw[aB,hU];clear hU) | fail)
      go_roundw
      case rel=>exact⟨m+1,by omega,by go_num,by rw[HTK2.out];go_num,HBU⟩
      case measure=>simp[intOf];omega
     ·have h11:(i.k==1)=false:=by rw[beq_eq_false_iff_ne];exact h1
      have hw1:IntKind.i64.wrap ((B:Int)+1)=(B:Int)+1:=vU _ (by omega) (by omega)
      have HTK2:Hid (fI L (items.take (m+1))=B+1):=hid (by rw[HTK.out,if_neg h1])
      clear h1 HTK
      go_wp2_with (first | (refine wpList_store_row rfl 55 (.tmp 10) (.tmp 29) rfl wr.heap.size #[.int .i64 i.k,.slice ia im ic] rfl rfl 55 #[.int .i64 0,.slice none 0 0] (heap_alloc_new wr _) Tryz.ow rfl rfl ?_;rw[aB,hU];clear hU) | fail)
      go_roundw
      case rel=>exact⟨m+1,by omega,by go_num,by rw[HTK2.out];go_num,HBU⟩
      case measure=>simp[intOf];omega
    ·have hlt' : ¬((m:Int)<(items.length:Int)):=by omega
     have htl:items.take m=items:=List.take_of_length_le (by omega)
     rw[htl]
     have HF:=hid (HB.out.trans (HBr.out.mono HB.out.size))
     clear HBr
     go_wp2_with fail
     go_ret
     exact⟨rfl,HF.out⟩
end Go.Proofs.YtfeglkleoijlaaaGreatDoor
