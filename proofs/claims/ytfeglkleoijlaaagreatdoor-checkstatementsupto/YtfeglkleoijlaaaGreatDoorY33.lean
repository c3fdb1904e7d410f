import Derived.Test.YtfeglkleoijlaaaGreatDoorY32
namespace Go.Proofs.YtfeglkleoijlaaaGreatDoor
open Go.RowKit Go.Shelf
set_option linter.unusedSimpArgs false
set_option linter.unusedVariables false
set_option maxRecDepth 20000
set_option maxHeartbeats 8000000
section
variable {P : Program} {md : Region.Mode} {ops : Array Oper} {Q : Exit → Act → World → Prop} {S : World → Prop} {fuel : Nat} {listed : Array Bool} {a : Act} {w : World} {i j : Nat} {ks : List Nat} {oi oj : Oper}
theorem vD : ∀(fuel:Nat) (listed:Array Bool) (a:Act) (w:World),(∀i,listed.getD i true=false→i∈ks)→eG P md ops Q (fun _=>True) [] fuel listed a w→eG P md ops Q S ks fuel listed a w
 | 0,_,_,_,_,h=>h
 | fuel+1,listed,_,_,hk,h=>⟨h.1,fun i hi=>wpOp_mono (fun a' w' h'=>⟨.inr (hk i (mem_ready.1 hi).1),vD fuel _ a' w' (fun j hj=>hk j (by
  by_cases e:i=j
  ·subst e;exact (mem_ready.1 hi).1
  ·rwa [getD_set_ne true e] at hj)) h'.2⟩) (h.2 i hi)⟩
theorem rest_of {n:Nat} {l:Array Bool} (hs:l.size=n) (h:((List.range n).all fun i=>l.getD i true||ks.contains i)=true):∀i,l.getD i true=false→i∈ks:=fun i hi=>by
 have hlt:i<n:=by
  rcases Nat.lt_or_ge i l.size with h1 | h1
  ·omega
  ·rw[Array.getD,dif_neg (by omega)] at hi
   cases hi
 have:=List.all_eq_true.1 h i (List.mem_range.2 hlt)
 rw[hi,Bool.false_or] at this
 simpa using this
theorem lF (g:Nat) (t:TypeId):∀(vs:List Value) (i:Nat) (cur:Array Value) (w:World),w.heap[g]?=some (.cells cur t (0,0))→i+vs.length≤cur.size→(∀v∈vs,v.oneCell'=true) →
  (storeCells ⟨g,0,none⟩ vs i).run P w = .ok () (w.setRow g (cur.toList.take i++vs++cur.toList.drop (i+vs.length)).toArray)
 |
  [],i,cur,w,hg,hl,_=>by
  have h0:=run_storeCells_from (P:=P) g t [] cur.size cur w hg rfl (fun v hv=>by cases hv)
  have e2:(cur.toList.take i++[]++cur.toList.drop (i+([]:List Value).length))=cur.toList.take cur.size++[]:=by
   rw[List.append_nil,List.append_nil,List.length_nil,aa2,List.take_append_drop,aaU (by simp)]
  rw[e2,← h0]
  simp only[storeCells]
 |
  v::rest,i,cur,w,hg,hl,h1=>by
  have hi:i<cur.size:=by simp at hl;omega
  have hadd:(⟨g,0,none⟩:Addr).add i=⟨g,i,none⟩:=by unfold Addr.add;split<;>simp_all
  have hcell:w.cell? ⟨g,i,none⟩=some cur[i]:=by simp[World.cell?,hg,hi]
  have hfro:w.frozen? ⟨g,i,none⟩=false:=by simp[World.frozen?,hg]
  have hst:(store ((⟨g,0,none⟩:Addr).add i) v).run P w = .ok () (w.setRow g (cur.setIfInBounds i v)):=by
   rw[hadd,run_store P w _ v _ (h1 v (by simp)),hcell]
   simp[hfro,setCell_eq_setRow w g i cur t (0,0) v hg]
  have ih:=lF g t rest (i+1) (cur.setIfInBounds i v) (w.setRow g (cur.setIfInBounds i v)) (setRow_heap w g cur _ t _ hg) (by simp at hl ⊢;omega) (fun x hx=>h1 x (by simp[hx]))
  simp only[storeCells,Sem.run_bind,hst,Result.andThen_ok,ih,setRow_setRow]
  congr 3
  simp only[Array.toList_setIfInBounds,aa1]
  rw[aaJ (by simpa using hi),List.take_set_of_le (aaF _),List.getElem_set_self,List.drop_set_of_lt (by omega),show i+1+rest.length=i+(rest.length+1) by omega]
  simp
theorem rP (w:World) (g:Nat) (t ty:TypeId) (old cells:Array Value) (hg:w.heap[g]?=some (.cells old t (0,0))) (hi:(P.info? ty).map (·.size)=some cells.size)
  (ho:cells.size≤old.size) (h1:cells.all (·.oneCell')=true) :
  (storeVar ty ⟨g,0,none⟩ (.agg cells)).run P w = .ok () (w.setRow g (cells.toList++old.toList.drop cells.size).toArray):=by
 have:=lF (P:=P) g t cells.toList 0 old w hg (by simp;omega) (fun v hv=>(Array.all_eq_true_iff_forall_mem.1 h1) v (by simpa using hv))
 cases hq:P.info? ty with
 | none=>simp[hq] at hi
 |
  some i =>
  have hs:cells.size=i.size:=by simp[hq] at hi;omega
  simp[storeVar,sizeOf,typeInfo,hq,Value.cells,hs,this]
theorem qN {K:Act→World→Prop} (ty:TypeId) (x y:Operand) (ho:oi.op = .store ty x y)
  (g:Nat) (cells:Array Value) (hx:a.eval x = .pointer (some ⟨g,0,none⟩)) (hy:a.eval y = .agg cells)
  (t:TypeId) (old:Array Value) (hg:w.heap[g]?=some (.cells old t (0,0))) (hi:(P.info? ty).map (·.size)=some cells.size)
  (hold:cells.size≤old.size) (h1:cells.all (·.oneCell')=true)
  (h:K (a.put oi.dst undef) (w.setRow g (cells.toList++old.toList.drop cells.size).toArray)):oi.wp P a w K Q:=by
 unfold Oper.wp execOp
 simp only[ho,hx,hy,Instr.storeAt,Instr.sureAddr,Sem.run_bind,Sem.run_pure,Result.andThen_ok,rP w g t ty old cells hg hi hold h1]
 exact h
theorem qU (w:World) (g i:Nat) (t ty:TypeId) (old:Array Value) (v:Value) (hg:w.heap[g]?=some (.cells old t (0,0))) (hlt:i<old.size) (hi:(P.info? ty).map (·.size)=some 1) (h1:v.oneCell'=true) :
  (storeVar ty ⟨g,i,none⟩ v).run P w = .ok () (w.setCell ⟨g,i,none⟩ v):=by
 have hadd:(⟨g,i,none⟩:Addr).add 0=⟨g,i,none⟩:=by unfold Addr.add;split<;>simp_all
 have hcell:w.cell? ⟨g,i,none⟩=some old[i]:=by simp[World.cell?,hg,hlt]
 have hfro:w.frozen? ⟨g,i,none⟩=false:=by simp[World.frozen?,hg]
 have hst:(store ((⟨g,i,none⟩:Addr).add 0) v).run P w = .ok () (w.setCell ⟨g,i,none⟩ v):=by
  rw[hadd,run_store P w _ v _ h1,hcell]
  simp[hfro]
 have hc:v.cells=#[v]:=by cases v<;>first | rfl | cases h1
 cases hq:P.info? ty with
 | none=>simp[hq] at hi
 |
  some i0 =>
  have hs:i0.size=1:=by simpa [hq] using hi
  simp[storeVar,sizeOf,typeInfo,hq,hc,hs,storeCells,hst]
theorem pq {K:Act→World→Prop} (ty:TypeId) (x y:Operand) (ho:oi.op = .store ty x y)
  (g i0:Nat) (v:Value) (hx:a.eval x = .pointer (some ⟨g,i0,none⟩)) (hy:a.eval y=v)
  (t:TypeId) (old:Array Value) (hg:w.heap[g]?=some (.cells old t (0,0))) (hlt:i0<old.size) (hi:(P.info? ty).map (·.size)=some 1) (h1:v.oneCell'=true)
  (h:K (a.put oi.dst undef) (w.setCell ⟨g,i0,none⟩ v)):oi.wp P a w K Q:=by
 unfold Oper.wp execOp
 simp only[ho,hx,hy,Instr.storeAt,Instr.sureAddr,Sem.run_bind,Sem.run_pure,Result.andThen_ok,qU w g i0 t ty old v hg hlt hi h1]
 exact h
end
theorem PI {W U:World} {g xb:Nat} {cur cs:Array Value} {c0 c1 c2 v:Value} (hU:U=(W.setRow g cs).setCell ⟨xb,2,none⟩ v∨U=(W.setCell ⟨xb,2,none⟩ v).setRow g cs) (hg:W.heap[g]?=some (.cells cur 48)) (hx:W.heap[xb]?=some (.cells #[c0,c1,c2] 115)) (hne:g≠xb) :
  U.heap[g]?=some (.cells cs 48)∧U.heap[xb]?=some (.cells #[c0,c1,v] 115)∧ak (fun k=>k=g∨k=xb) W U:=by
 rcases hU with rfl | rfl
 ·obtain⟨X,hX,h1,h2⟩:=wE (w:=W.setRow g cs) ((setRow_other _ _ _ _ (Ne.symm hne)).trans hx) v
  rw[hX]
  exact⟨(h2.block g (by simpa using World.lt_of_block hg) hne).trans (setRow_heap _ _ _ _ _ _ hg),h1,((ak.refl _ W).setRow (.inl (.inl rfl)) cs).andThen (h2.mono (fun i hi=>Or.inr hi)) (fun i hi=>.inl hi)⟩
 ·obtain⟨X,hX,h1,h2⟩:=wE hx v
  rw[hX]
  have hgX:=(h2.block g (World.lt_of_block hg) hne).trans hg
  exact⟨setRow_heap _ _ _ _ _ _ hgX,(setRow_other _ _ _ _ (Ne.symm hne)).trans h1,(h2.mono (fun i hi=>Or.inr hi):ak (fun k=>k=g∨k=xb) W X).setRow (p:=g) (.inl (.inl rfl)) cs⟩
theorem GZ (S T:Nat→Prop) (L:List Tb) (x:Ex) (v sv c0 c1:Value) (sb xb:Nat) (w:World) (hW:iL w) (hg:gW x) (hx:gH T w x v) (hb:w.cell? ⟨sb,0,none⟩=some sv) (hb2:sb<w.heap.size) (hl:aM 3 fG S w L sv) (hK : ∀t∈L,mR t) (hn:L.length≤100) (hxb:w.heap[xb]?=some (.cells #[c0,c1,.slice none 0 0] 115)) :
  Calls Tryz.prog 62 #[v,.pointer (some ⟨sb,0,none⟩),.pointer (some ⟨xb,0,none⟩)] w fun e w'=>e = .returned (.int .i64 (aI L x).2.2)∧∃v',w'.heap[xb]?=some (.cells #[c0,c1,v'] 115)∧aM 8 jl (fun b=>w.heap.size≤b) w' [(aI L x).1] v'∧ak (fun k=>k=xb) w w':=by
 have hx0:=hx
 obtain⟨k,op,tb,nm,vk,vn,vs,ys,aa,nn,cc,he,rfl,ha⟩:=hx
 obtain⟨la,ln,lc,rfl⟩:∃a n c,sv = .slice a n c:=by
  obtain⟨a,c,e⟩:=hl.form
  exact⟨_,_,_,e⟩
 obtain⟨W,gI,hbW,aJ,hcW⟩:=aK w (.cells #[.int .i64 k,.int .i64 op,.string (aj tb),.string (aj nm),.int .i64 vk,.int .i64 vn,.string (aj vs),.slice aa nn cc] 48)
 have k0:=aG hcW
 have kb:=(hbW.cell (p:=⟨sb,0,none⟩) hb2).trans hb
 have kJ:=hid (jH S T L x (.slice la ln lc) _ W (hW.on hbW) hg.2.1 (hx0.new hbW) (hl.to (by decide) (R:=fun _=>False) (ak.aA hbW) (fun b hb _=>⟨id,hb⟩) (fun _ _ e=>e.on hbW)) hK hn (fun _=>hg.2.2))
 have hT:iP L x=aI L x:=by unfold iP;rw[if_pos hg.1]
 rw[hT] at kJ
 have HB:=hid hbW
 have HXB:=hid hxb
 have YC:=World.lt_of_block hxb
 generalize aI L x=R at kJ ⊢
 obtain⟨X,kk,c⟩:=R
 dsimp only at kJ ⊢
 clear hbW hcW hx0 he ha hb hl hK hg hT hW hxb
 go_enter Tryz.func62,Tryz.ntmps62
 go_wp2_with fail
 try rw[gI]
 refine kJ.out.mono ?_
 rintro e w1 ⟨u,rfl,hxu,hb1⟩
 have HXU:=hid hxu
 obtain⟨k2,op2,bX,eH,dS,dU,vs2,ys2,dR,dY,dP,gT,rfl,YZ⟩:=hxu
 obtain⟨Y,hY,bV,kL,dJ⟩:=aK w1 (.cells #[.int .i64 k2,.int .i64 op2,.string (aj bX),.string (aj eH),.int .i64 dS,.int .i64 dU,.string (aj vs2),.slice dR dY dP] 48)
 have hB1:=HB.out.trans (hb1.mono HB.out.size)
 have bZ:=hid (hB1.trans (bV.mono hB1.size))
 have Fy:=hid dJ
 have HAU:=hid YZ
 have HXE:=hid gT
 have HB1:=hid hB1
 have hs1:=hb1.size
 clear hb1 dJ hB1 kJ k0 kb YZ gT
 go_wp2_with (first | (refine eX hY ?_;clear hY) | fail)
 have HS:Hid (∀V,Below Y.heap.size Y V→V.cell? ⟨xb,2,none⟩=some (.slice none 0 0)∧V.cell? ⟨w1.heap.size,0,none⟩=some (.int .i64 k2)∧(V.cell? ⟨w1.heap.size,1,none⟩=some (.int .i64 op2)∧V.cell? ⟨w1.heap.size,2,none⟩=some (.string (aj bX))∧V.cell? ⟨w1.heap.size,3,none⟩=some (.string (aj eH))∧V.cell? ⟨w1.heap.size,4,none⟩=some (.int .i64 dS)∧V.cell? ⟨w1.heap.size,5,none⟩=some (.int .i64 dU)∧V.cell? ⟨w1.heap.size,6,none⟩=some (.string (aj vs2))∧V.cell? ⟨w1.heap.size,7,none⟩=some (.slice dR dY dP))):=hid (fun V hV=>by
  have q:=aG ((hV.block _ kL).trans Fy.out)
  have q2:=(hV.block xb (by have:=bZ.out.size;omega)).trans ((bZ.out.block xb YC).trans HXB.out)
  exact⟨by rw[aB _ _ _ _ _ _ q2];rfl,q⟩)
 have hS0:=HS.out Y.drew (Below.refl _ Y).drew
 refine dG (fun V:World=>V.cell? ⟨xb,2,none⟩=some (.slice none 0 0)∧V.cell? ⟨w1.heap.size,0,none⟩=some (.int .i64 k2)∧(V.cell? ⟨w1.heap.size,1,none⟩=some (.int .i64 op2)∧V.cell? ⟨w1.heap.size,2,none⟩=some (.string (aj bX))∧V.cell? ⟨w1.heap.size,3,none⟩=some (.string (aj eH))∧V.cell? ⟨w1.heap.size,4,none⟩=some (.int .i64 dS)∧V.cell? ⟨w1.heap.size,5,none⟩=some (.int .i64 dU)∧V.cell? ⟨w1.heap.size,6,none⟩=some (.string (aj vs2))∧V.cell? ⟨w1.heap.size,7,none⟩=some (.slice dR dY dP))) [6,7,8,9] (by kernel_rfl) ?_
 refine fF (i:=0) rfl (by assumption) ?_
 refine fF (i:=1) rfl (by assumption) ?_
 refine fF (i:=2) rfl (by assumption) ?_
 refine fF (i:=3) rfl (by assumption) ?_
 obtain⟨Z,hZ,o8,VD,wB⟩:=aK Y.drew (.cells eT 48)
 have jo:Below Y.heap.size Y Z:=((Below.refl _ Y).drew).trans o8
 refine bH (i:=4) (by kernel_rfl) rfl rfl (aW (yt rfl (by rfl) _) ?_)
 rw[hZ]
 refine ⟨.inl (HS.out Z jo),?_⟩
 simp only[Act.put,aas,aap,aaq,aag,aaw,aay]
 obtain⟨va,WA,hra,Rn,hgA,hA⟩:∃va WA,(Builtin.append_ #[27,27] 27 #[.slice none 0 0,.slice (some ⟨Y.drew.heap.size,0,none⟩) 1 1]).run Tryz.prog Z = .ok va WA∧WA.ownsRow Z.heap.size 48 8 va 1 eT.toList∧Z.grownBy WA (none:Option Nat)∧True:=by
  obtain⟨i0,hi,hy0,hy1,hy2⟩:=info_parts Tryz.sU
  obtain⟨va,WA,h1,h2,h3,_⟩:=run_append_own (P:=Tryz.prog) Z Z.heap.size 27 27 48 i0 _ 8 104 Tryz.underlying27 hi hy0 hy1 hy2 rfl (by decide) (.slice none 0 0) 0 [] (World.ownsRow_nil _ _ _ _) ⟨Y.drew.heap.size,0,none⟩ 1 1 eT.toList rfl (fun j u hu=>by
   rw[Addr.add_lit,Nat.zero_add,cell_of_row _ _ _ _ _ _ wB]
   simpa using hu) (fun u hu=>(Array.all_eq_true_iff_forall_mem.1 M4) u (by simpa using hu)) (by unfold maxLen;omega) (by omega) (aaF _)
  exact⟨va,WA,h1,by simpa using h2,h3,trivial⟩
 have Wt:ak (fun _=>False) Z WA:=ak.gU hgA (fun k e=>by cases e)
 have Qt:Below Y.heap.size Y WA:=jo.trans (Wt.below (fun i hi=>hi.elim) jo.size)
 refine bH (i:=5) (by kernel_rfl) rfl rfl (aW (dX rfl (by rfl) (by rfl) hra) ?_)
 refine ⟨.inl (HS.out WA Qt),?_⟩
 simp only[Act.put,aas,aap,aaq,aag,aaw,aay]
 obtain⟨g,cap,cur,rfl,hg0,hgg,hgc,hcm,hcs⟩:∃g cap cur,va = .slice (some ⟨g,0,none⟩) 1 cap∧Z.heap.size≤g∧WA.heap[g]?=some (.cells cur 48)∧1≤cap∧cap≤maxLen∧cur.size=cap*8:=by
  rcases Rn.2 with⟨_,h0⟩ | ⟨g,cap,cur,h1,h2,h3,h4,h5,h6,h7⟩
  ·exact absurd h0 (by decide)
  ·exact⟨g,cap,cur,h1,h2,h3,h4,h5,h6⟩
 have OW:Hid (WA.heap[xb]?=some (.cells #[c0,c1,.slice none 0 0] 115)):=hid ((Qt.block xb (by have:=bZ.out.size;omega)).trans ((bZ.out.block xb YC).trans HXB.out))
 have hzA:=Qt.size
 have hzB:=o8.size
 have hzD:Y.drew.heap.size=Y.heap.size:=rfl
 have hgx:g≠xb:=by have:=bZ.out.size;omega
 have VA:=hid hgg
 have Z0:=hid Qt
 clear hS0 hra Rn hgA hA Wt wB o8 jo hZ hgg Qt
 have ZW:(8:Nat)≤cur.size:=by omega
 have Yj:Hid (∀U:World,(U=(WA.setRow g (([.int .i64 k2,.int .i64 op2,.string (aj bX),.string (aj eH),.int .i64 dS,.int .i64 dU,.string (aj vs2),.slice dR dY dP]:List Value)++cur.toList.drop 8).toArray).setCell ⟨xb,2,none⟩ (.slice (some ⟨g,0,none⟩) 1 cap)∨U=(WA.setCell ⟨xb,2,none⟩ (.slice (some ⟨g,0,none⟩) 1 cap)).setRow g (([.int .i64 k2,.int .i64 op2,.string (aj bX),.string (aj eH),.int .i64 dS,.int .i64 dU,.string (aj vs2),.slice dR dY dP]:List Value)++cur.toList.drop 8).toArray) →
   ∃v',U.heap[xb]?=some (.cells #[c0,c1,v'] 115)∧aM 8 jl (fun b=>w.heap.size≤b) U [X] v'∧ak (fun k=>k=xb) w U):=hid (fun U hU=>by
  obtain⟨h1,h2,h3⟩:=PI hU VA.out OW.out hgx
  have aao:=bZ.out.size
  have hA1:ak (fun _=>False) w1 WA:=((ak.aA (S:=fun _=>False) bV).andThen (ak.aA (S:=fun _=>False) Z0.out) (fun i hi=>.inl hi))
  have hA2:ak (fun k=>k=xb) w1 U:=(hA1.mono (fun i hi=>hi.elim)).andThen h3 (fun i hi=>by
   rcases hi with rfl | rfl
   ·exact .inr (by omega)
   ·exact .inl rfl)
  have hA3:ak (fun k=>k=xb) w U:=(ak.aA (S:=fun k=>k=xb) HB1.out).andThen hA2 (fun i hi=>.inl hi)
  have hE:jl (fun b=>w.heap.size≤b) U X [.int .i64 k2,.int .i64 op2,.string (aj bX),.string (aj eH),.int .i64 dS,.int .i64 dU,.string (aj vs2),.slice dR dY dP]:=⟨k2,op2,bX,eH,dS,dU,vs2,ys2,dR,dY,dP,HXE.out,rfl,HAU.out.to hA2 (fun b hb hlt=>⟨fun e=>by subst e;omega,by show w.heap.size≤b;omega⟩)⟩
  refine ⟨_,h2,⟨_,cap,[[.int .i64 k2,.int .i64 op2,.string (aj bX),.string (aj eH),.int .i64 dS,.int .i64 dU,.string (aj vs2),.slice dR dY dP]],rfl,by simpa using hgc,hcm,⟨rfl,fun j y cs hy hc=>?_⟩,fun _=>⟨g,0,rfl,by show w.heap.size≤g;omega,fun j cs hj i u hu=>?_⟩⟩,hA3⟩
  ·match j,hy,hc with
   |
    0,hy,hc =>
    simp only[List.getElem?_cons_zero,abf] at hy hc
    subst hy hc
    exact⟨rfl,hE⟩
   | j+1,hy,_=>simp at hy
  ·match j,hj with
   |
    0,hj =>
    simp only[List.getElem?_cons_zero,abf] at hj
    subst hj
    have hi8:i<8:=(aam.1 hu).1
    simp only[Nat.zero_mul,Nat.zero_add]
    rw[cell_of_row _ _ _ _ _ _ h1]
    simp only[List.getElem?_toArray]
    rw[List.getElem?_append_left (by exact hi8)]
    exact hu
   | j+1,hj=>simp at hj)
 refine vD _ _ _ _ (rest_of (n:=10) rfl (by kernel_rfl)) ?_
 have hTr:(fun _:World=>True) WA:=trivial
 refine fF (i:=6) rfl (by assumption) ?_
 refine fF (i:=8) rfl (by assumption) ?_
 refine jS (i:=7) (j:=9) (by kernel_rfl) rfl rfl rfl rfl ?_ ?_
 ·refine qN 48 (.tmp 21) (.tmp 17) rfl g #[.int .i64 k2,.int .i64 op2,.string (aj bX),.string (aj eH),.int .i64 dS,.int .i64 dU,.string (aj vs2),.slice dR dY dP] (by rfl) (by rfl) 48 cur VA.out Tryz.sizeEx ZW (iF _ _ _ _ _ _ _ _ _ _) ⟨.inl trivial,?_⟩
  simp only[Act.put,aas,aap,aaq,aag,aaw,aay]
  refine bH (i:=9) (by kernel_rfl) rfl rfl (pq 27 (.tmp 22) (.tmp 20) rfl xb 2 (.slice (some ⟨g,0,none⟩) 1 cap) (by rfl) (by rfl) 115 _ ((setRow_other _ _ _ _ (Ne.symm hgx)).trans OW.out) (by decide:2<3) Tryz.sizeExsK rfl ⟨.inl trivial,?_⟩)
  have HF:=Yj.out _ (.inl rfl)
  simp only[Act.put,aas,aap,aaq,aag,aaw,aay]
  refine bN (by kernel_rfl) ?_ _
  show Only _ .normal _ _
  unfold Only
  obtain⟨v',e1,e2,e3⟩:=HF
  have jG:=hid e1
  have jW:=hid e2
  have za:=hid e3
  clear e1 e2 e3
  go_wp2
  go_ret
  exact⟨rfl,v',jG.out,jW.out,za.out⟩
 ·refine pq 27 (.tmp 22) (.tmp 20) rfl xb 2 (.slice (some ⟨g,0,none⟩) 1 cap) (by rfl) (by rfl) 115 _ OW.out (by decide:2<3) Tryz.sizeExsK rfl ⟨.inl trivial,?_⟩
  simp only[Act.put,aas,aap,aaq,aag,aaw,aay]
  obtain⟨X9,hX9,_,O9⟩:=wE OW.out (.slice (some ⟨g,0,none⟩) 1 cap)
  have Vs:=(O9.block g (World.lt_of_block VA.out) hgx).trans VA.out
  rw[← hX9] at Vs
  clear O9 hX9
  refine bH (i:=7) (by kernel_rfl) rfl rfl (qN 48 (.tmp 21) (.tmp 17) rfl g #[.int .i64 k2,.int .i64 op2,.string (aj bX),.string (aj eH),.int .i64 dS,.int .i64 dU,.string (aj vs2),.slice dR dY dP] (by rfl) (by rfl) 48 cur Vs Tryz.sizeEx ZW (iF _ _ _ _ _ _ _ _ _ _) ⟨.inl trivial,?_⟩)
  have HF:=Yj.out _ (.inr rfl)
  clear Vs
  simp only[Act.put,aas,aap,aaq,aag,aaw,aay]
  refine bN (by kernel_rfl) ?_ _
  show Only _ .normal _ _
  unfold Only
  obtain⟨v',e1,e2,e3⟩:=HF
  have jG:=hid e1
  have jW:=hid e2
  have za:=hid e3
  clear e1 e2 e3
  go_wp2
  go_ret
  exact⟨rfl,v',jG.out,jW.out,za.out⟩
structure vS (w V:World) (N p:Nat) (s:St) (sc:Array Value) (L:List Tb) (sv:Value):Prop where
 qJ:Below w.heap.size w V
 st:V.heap[w.heap.size+1]?=some (.cells sc 29)
 pb:V.heap[p]?=some (.cells #[sv] 22)
 lo:w.heap.size+1<p∧p<N
 leN:N≤V.heap.size
 sl:aM 3 fG (fun b=>b<N) V L sv
 QI:fD (fun b=>b<w.heap.size) V s sc.toList
theorem vS.xY {w V U:World} {N p:Nat} {s:St} {sc:Array Value} {L:List Tb} {sv:Value} {R:Nat→Prop} (h:vS w V N p s sc L sv) (hk:ak R V U) (hR : ∀b,R b→N≤b):vS w U N p s sc L sv :=
 ⟨h.qJ.trans (hk.below (fun i hi=>by have:=hR i hi;have:=h.lo;omega) (by have:=h.lo;have:=h.leN;omega)),
  (hk.block _ (World.lt_of_block h.st) (fun e=>by have:=hR _ e;have:=h.lo;omega)).trans h.st,
  (hk.block _ (World.lt_of_block h.pb) (fun e=>by have:=hR _ e;have:=h.lo;omega)).trans h.pb,h.lo,Nat.le_trans h.leN hk.size,
  h.sl.to (by decide) hk (fun b hb _=>⟨fun e=>by have:=hR b e;have:b<N:=hb;omega,hb⟩) (fun _ _ e=>e.to hk (fun b hb _=>⟨fun e=>by have:=hR b e;have:b<N:=hb;omega,hb⟩)),
  h.QI.to hk (fun b hb _=>⟨fun e=>by have:=hR b e;have:b<w.heap.size:=hb;have:=h.lo;omega,hb⟩)⟩
theorem vS.fQ {w V U:World} {N p:Nat} {s:St} {sc:Array Value} {L:List Tb} {sv:Value} (h:vS w V N p s sc L sv) (hb:Below V.heap.size V U):vS w U N p s sc L sv :=
 h.xY (R:=fun _=>False) (ak.aA hb) (fun _ e=>e.elim)
theorem fD.slices {S:Nat→Prop} {w:World} {s:St} {v0 v1 v3 v7 v12 v13:Value} {b1 b2 b3 b4 b5 b6 b7 b8:Option Addr} {m1 m2 m3 m4 m5 m6 m7 m8 d1 d2 d3 d4 d5 d6 d7 d8:Nat}
  (h:fD S w s [v0,v1,.slice b1 m1 d1,v3,.slice b2 m2 d2,.slice b3 m3 d3,.slice b4 m4 d4,v7,.slice b5 m5 d5,.slice b6 m6 d6,.slice b7 m7 d7,.slice b8 m8 d8,v12,v13]) :
  aM 2 vY S w s.items (.slice b4 m4 d4)∧aM 8 jl S w s.on (.slice b5 m5 d5)∧aM 8 jl S w s.wh (.slice b6 m6 d6)∧aM 8 jl S w s.gr (.slice b7 m7 d7)∧aM 8 jl S w s.od (.slice b8 m8 d8):=by
 obtain⟨e1,e2,e3,e4,e5,e6,e7,e8,f1,f2,f3,f4,f5,f6,f7,f8,g1,g2,g3,g4,g5,g6,g7,g8,he,_,_,_,h4,h5,h6,h7,h8⟩:=h
 simp only[List.cons.injEq,aah,and_true] at he
 obtain⟨_,_,⟨rfl,rfl,rfl⟩,_,⟨rfl,rfl,rfl⟩,⟨rfl,rfl,rfl⟩,⟨rfl,rfl,rfl⟩,_,⟨rfl,rfl,rfl⟩,⟨rfl,rfl,rfl⟩,⟨rfl,rfl,rfl⟩,⟨rfl,rfl,rfl⟩,_⟩:=he
 exact⟨h4,eZ h5,eZ h6,eZ h7,eZ h8⟩
theorem NZ {C:List Tb} {t:Tb} {jn:List UInt8} (hC : ∀u∈C,mR u) (ht:mR t):(∀u∈(lu C t jn).1,mR u)∧(lu C t jn).1.length≤2:=by
 have hf:jn∈C.map Tb.nm→fC C jn∈C:=fun h=>by
  obtain⟨u,hu,e⟩:=List.mem_map.1 h
  unfold fC
  cases hq:C.find? fun t=>decide (t.nm=jn) with
  |
   none =>
   have:=List.find?_eq_none.1 hq u hu
   simp[e] at this
  | some x=>exact List.mem_of_find?_eq_some hq
 unfold lu
 split
 ·exact⟨fun u hu=>by simp only[List.mem_singleton] at hu;rw[hu];exact ht,by simp⟩
 ·split
  ·exact⟨fun u hu=>(by cases hu),by simp⟩
  ·rename_i h1
   split
   ·exact⟨fun u hu=>(by cases hu),by simp⟩
   ·refine ⟨fun u hu=>?_,by simp⟩
    simp only[abg,List.not_mem_nil,or_false] at hu
    rcases hu with rfl | rfl
    ·exact ht
    ·exact hC _ (hf (Classical.not_not.1 h1))
theorem Lc {a:Act} {oi:Oper} {x y:Operand} {a1 a2:Option Addr} {n1 c1 n2 c2:Nat} (ki:oi.op = .buildSlice 156 2 #[(0,x),(1,y)]) (hx:a.eval x = .slice a1 n1 c1) (hy:a.eval y = .slice a2 n2 c2) (V:World) :
  (execOp a.eval oi).run Tryz.prog V = .ok (.value (.slice (some ⟨V.heap.size,0,none⟩) 2 2)) (V.alloc (.cells #[.slice a1 n1 c1,.slice a2 n2 c2] 27)):=by
 have u:=Tryz.underlying156
 obtain⟨r,hr⟩:∃r,a.eval=r:=⟨_,rfl⟩
 rw[hr] at hx hy ⊢
 unfold execOp
 simp only[ki,hx,hy,List.map_toArray,List.map_cons,List.map_nil]
 go_simp
theorem xq {a:Act} {oi:Oper} {x y:Operand} {a1:Option Addr} {n1 c1:Nat} {b:Bool} (ki:oi.op = .build 115 #[(0,x),(1,y)]) (hx:a.eval x = .slice a1 n1 c1) (hy:a.eval y = .bool b) (V:World) :
  (execOp a.eval oi).run Tryz.prog V = .ok (.value (.agg #[.slice a1 n1 c1,.bool b,.slice none 0 0])) V:=by
 have u:=Tryz.underlying115
 obtain⟨r,hr⟩:∃r,a.eval=r:=⟨_,rfl⟩
 rw[hr] at hx hy ⊢
 unfold execOp
 simp only[ki,hx,hy,List.map_toArray,List.map_cons,List.map_nil]
 go_simp
theorem yT (a:Act) (oi:Oper) (ki:oi.op = .alloc 115) (V:World):(execOp a.eval oi).run Tryz.prog V = .ok (.value (.pointer (some ⟨V.heap.size,0,none⟩))) (V.alloc (.cells #[.slice none 0 0,.bool false,.slice none 0 0] 115)):=by
 unfold execOp
 simp only[ki]
 go_simp
theorem Tryz.sizeSelK:(Tryz.prog.info? 115).map (·.size)=some 3:=by kernel_rfl
theorem Tryz.sizeTbsK:(Tryz.prog.info? 22).map (·.size)=some 1:=by kernel_rfl
theorem GX (a:Option Addr) (b c:Nat) (d:Bool) (e:Option Addr) (f g:Nat):(#[.slice a b c,.bool d,.slice e f g]:Array Value).all (·.oneCell')=true:=by simp[Value.oneCell']
theorem Ec {P:Program} {Q:Exit→Act→World→Prop} {a:Act} {w:World} {oi:Oper} {K:Act→World→Prop} {f:FuncId} {xs:Array Operand} {ts:Array TypeId} (args:Array Value) (R:Value→World→Prop)
  (ki:oi.op = .call { callee:=.value (.func f),args:=xs,argTypes:=ts }) (ea:xs.map a.eval=args) (ef : ∀args w,(callFunc f args).run P w = .ok (.enter f args) w)
  (hc:Calls P f args w fun e w'=>∃v,e = .returned v∧R v w') (h : ∀v w',R v w'→K (a.put oi.dst v) w'):oi.wp P a w K Q:=by
 unfold Oper.wp execOp
 simp only[ki,resolve,ea,Act.eval,Deferred.ofValue,invoke,Sem.run_bind,Sem.run_pure,Result.andThen_ok,Array.append_empty,Array.empty_append,ef]
 exact hc.mono fun e w' ⟨v,he,hR⟩=>by subst he;exact h v w' hR
def ac6 (w:World) (N p xb M:Nat) (s:St) (sc:Array Value) (L:List Tb) (sv gb:Value) (i:Nat) (V:World):Prop :=
 ∃ga gn gc,vS w V N p s sc L sv∧V.heap[xb]?=some (.cells #[sv,gb,.slice ga gn gc] 115)∧M≤V.heap.size∧aM 8 jl (fun b=>M≤b) V ((s.gr.take i).map fun e=>(aI L e).1) (.slice ga gn gc)∧(i=0→(.slice ga gn gc:Value) = .slice none 0 0)
theorem Gl (w V:World) (N p xb:Nat) (s:St) (sc:Array Value) (L:List Tb) (sv gb:Value) (gv:Value) (hW:iL w) (hC:vS w V N p s sc L sv) (hgv:aM 8 jl (fun b=>b<w.heap.size) V s.gr gv) (hg : ∀x∈s.gr,gW x) (h1:s.gr.length≤1) (hK : ∀t∈L,mR t) (hn:L.length≤100) (hxN:N≤xb) (hxb:V.heap[xb]?=some (.cells #[sv,gb,.slice none 0 0] 115)) :
  Calls Tryz.prog 23 #[gv,.func (.func 62) #[] #[.pointer (some ⟨p,0,none⟩),.pointer (some ⟨xb,0,none⟩)]] V fun e V'=>e = .returned (.int .i64 (aO (s.gr.map fun e=>(aI L e).2.2)))∧(aO (s.gr.map fun e=>(aI L e).2.2)=0→∃ga gn gc,vS w V' N p s sc L sv∧V'.heap[xb]?=some (.cells #[sv,gb,.slice ga gn gc] 115)∧aM 8 jl (fun _=>True) V' (s.gr.map fun e=>(aI L e).1) (.slice ga gn gc))∧(aO (s.gr.map fun e=>(aI L e).2.2)≠0→Below w.heap.size w V'):=by
 have hxl:=World.lt_of_block hxb
 refine (rz (fun b=>b<w.heap.size) 62 #[] #[.pointer (some ⟨p,0,none⟩),.pointer (some ⟨xb,0,none⟩)] (enters_of Tryz.func62 (by kernel_rfl) rfl) (fun i U=>ac6 w N p xb V.heap.size s sc L sv gb i U∧aM 8 jl (fun b=>b<w.heap.size) U s.gr gv) (fun U=>Below w.heap.size w U) s.gr (s.gr.map fun e=>(aI L e).2.2) gv V (by simp)
  ⟨⟨_,_,_,hC,hxb,aaF _,aM.nil,fun _=>rfl⟩,hgv⟩ (hid fun i U hI=>hI.2) (hid fun i U X hI hb=>?_) (hid fun i x c hx hc U hI ds hds=>?_)).mono ?_
 ·obtain⟨⟨ga,gn,gc,g1,g2,g3,g4,g5⟩,g6⟩:=hI
  exact⟨⟨ga,gn,gc,g1.fQ hb,(hb.block _ (World.lt_of_block g2)).trans g2,Nat.le_trans g3 hb.size,g4.to (by decide) (R:=fun _=>False) (ak.aA hb) (fun b hb _=>⟨id,hb⟩) (fun _ _ e=>e.to (R:=fun _=>False) (ak.aA hb) (fun b hb _=>⟨id,hb⟩)),g5⟩,g6.to (by decide) (R:=fun _=>False) (ak.aA hb) (fun b hb _=>⟨id,hb⟩) (fun _ _ e=>e.to (R:=fun _=>False) (ak.aA hb) (fun b hb _=>⟨id,hb⟩))⟩
 ·have hlt:=aam.1 hx
  obtain rfl:i=0:=by have:=hlt.1;omega
  obtain rfl:(aI L x).2.2=c:=by rw[List.getElem?_map,hx] at hc;simpa using hc
  obtain⟨⟨ga,gn,gc,g1,g2,g3,g4,g5⟩,g6⟩:=hI
  have e0:=g5 rfl
  rw[e0] at g2
  have hp:=g1.pb
  refine (GZ (fun b=>b<N) (fun b=>b<w.heap.size) L x _ sv sv gb p xb U (hW.on g1.qJ) (hg x (aaP hx)) hds.v (by rw[aB _ _ _ _ _ _ hp];rfl) (World.lt_of_block hp) g1.sl hK hn g2).mono ?_
  rintro e U' ⟨rfl,v',k1,k2,k3⟩
  obtain⟨va,vc,rfl⟩:=k2.form
  have hC':=g1.xY k3 (fun b e=>by rw[e];exact hxN)
  refine ⟨rfl,fun _=>⟨⟨_,_,_,hC',k1,Nat.le_trans g3 k3.size,?_,fun e=>by cases e⟩,?_⟩,fun _=>hC'.qJ⟩
  ·have ht:(s.gr.take 1).map (fun e=>(aI L e).1)=[(aI L x).1]:=by
    match hgr:s.gr,h1,hx with
    | [y],_,hx=>simp only[List.getElem?_cons_zero,abf] at hx;rw[hx];rfl
    | y::z::l,h1,_=>simp at h1
   rw[ht]
   exact k2.to (by decide) (R:=fun _=>False) (ak.refl _ _) (fun b hb _=>⟨id,Nat.le_trans g3 hb⟩) (fun _ _ e=>e.to (R:=fun _=>False) (ak.refl _ _) (fun b hb _=>⟨id,Nat.le_trans g3 hb⟩))
  ·exact g6.to (by decide) k3 (fun b hb _=>⟨fun e=>by have:b<w.heap.size:=hb;have:=g1.lo;omega,hb⟩) (fun _ _ e=>e.to k3 (fun b hb _=>⟨fun e=>by have:b<w.heap.size:=hb;have:=g1.lo;omega,hb⟩))
 ·rintro e U ⟨rfl,h2,h3⟩
  refine ⟨rfl,fun h0=>?_,h3⟩
  obtain⟨⟨ga,gn,gc,g1,g2,g3,g4,g5⟩,g6⟩:=h2 h0
  rw[List.take_length] at g4
  exact⟨ga,gn,gc,g1,g2,g4.to (by decide) (R:=fun _=>False) (ak.refl _ _) (fun b hb _=>⟨id,trivial⟩) (fun _ _ e=>e.to (R:=fun _=>False) (ak.refl _ _) (fun b hb _=>⟨id,trivial⟩))⟩
end Go.Proofs.YtfeglkleoijlaaaGreatDoor
