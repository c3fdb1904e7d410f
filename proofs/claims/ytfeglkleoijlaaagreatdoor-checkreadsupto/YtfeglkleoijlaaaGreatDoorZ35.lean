/- Packed for the hand-in: KVisit -/
import Derived.Test.YtfeglkleoijlaaaGreatDoorZ34
namespace Go.Proofs.YtfeglkleoijlaaaGreatDoor
open Go.RowKit Go.Shelf
set_option linter.unusedSimpArgs false
set_option linter.unusedVariables false
set_option maxRecDepth 20000
set_option maxHeartbeats 8000000
abbrev Jb (A B:Nat):Value:=.func (.func 38) #[] #[.pointer (some ⟨B,0,none⟩),.pointer (some ⟨A,0,none⟩)]
structure Ag (w:World) (A B:Nat) (S:Nat→Prop) (L:List Tb):Prop where
 scopeB : ∃v,w.cell? ⟨A,0,none⟩=some v∧aQ 3 dK S w L v
 selfB:w.cell? ⟨B,0,none⟩=some (Jb A B)
 ltB:A<w.heap.size∧B<w.heap.size
 okB : ∀t∈L,oo t
 fewL:L.length≤100
theorem Ag.Gj {w w':World} {A B:Nat} {S:Nat→Prop} {L:List Tb} (h:Ag w A B S L) (hb:Below w.heap.size w w'):Ag w' A B S L:=by
 obtain⟨v,h1,h2⟩:=h.scopeB
 exact⟨⟨v,(hb.cell (p:=⟨A,0,none⟩) h.ltB.1).trans h1,h2.to (by decide) (R:=fun _=>False) (aA.aC hb) (fun b hb _=>⟨id,hb⟩) (fun _ _ e=>e.on hb)⟩,(hb.cell (p:=⟨B,0,none⟩) h.ltB.2).trans h.selfB,⟨Nat.lt_of_lt_of_le h.ltB.1 hb.size,Nat.lt_of_lt_of_le h.ltB.2 hb.size⟩,h.okB,h.fewL⟩
def uD (L:List Tb) (x:Ex):Prop:=∀(S T:Nat→Prop) (A B:Nat) (w:World) (v:Value),fB T w x v→Ag w A B S L →
 Calls Tryz.prog 38 #[v,.pointer (some ⟨B,0,none⟩),.pointer (some ⟨A,0,none⟩)] w fun e w'=>∃u,e = .returned (.tuple #[u,.int .i64 (aR L x).2.1,.int .i64 (aR L x).2.2])∧fB (fun b=>w.heap.size≤b) w' (aR L x).1 u∧Below w.heap.size w w'
theorem Tryz.jX:(Tryz.prog.info? 27).map (·.size)=some 1:=by kernel_rfl
theorem Tryz.kJ:(Tryz.prog.info? 87).map (·.size)=some 1:=by kernel_rfl
theorem qJ {w:World} {base:Nat} {t:TypeId} {z n:Nat} {v:Value} {xs:List Value} (h:w.ownsRow base t z v n xs):v.oneCell'=true:=by
 rcases h.2 with⟨rfl,_⟩ | ⟨g,cap,cur,rfl,_⟩<;>rfl
theorem qB {B0:Nat} {w W:World} {va vk:Value} {rs:List Ex} {ks:List Int} {S:Nat→Prop} {tmp:List (Nat × Obj)} {more:List (Ex × List Value)} (h:Two B0 w W va vk rs ks S tmp more):va.oneCell'=true:=by
 obtain⟨css,ho,_⟩:=h.ownA
 exact qJ ho
theorem pO {B0:Nat} {w W:World} {va vk:Value} {rs:List Ex} {ks:List Int} {S:Nat→Prop} {tmp:List (Nat × Obj)} {more:List (Ex × List Value)} (h:Two B0 w W va vk rs ks S tmp more):vk.oneCell'=true:=qJ h.ownK
theorem yE {B0 b2 b3:Nat} {w V:World} {va vk va' vk':Value} {rs:List Ex} {ks:List Int} {S:Nat→Prop} {tmp tmp2:List (Nat × Obj)} (h:Two B0 w V va' vk' rs ks S tmp2 []) (m2:(b2,Obj.cells #[va] 27)∈tmp2) (m3:(b3,Obj.cells #[vk] 87)∈tmp2) (hs : ∀p∈tmp,p∈tmp2) (ht : ∀p∈tmp,p.1≠b2∧p.1≠b3) (hne:b2≠b3) (hS : ¬S b2∧¬S b3) (hw:w.heap.size≤b2∧w.heap.size≤b3) :
  Two B0 w ((V.setRow b2 #[va']).setRow b3 #[vk']) va' vk' rs ks S tmp []∧((V.setRow b2 #[va']).setRow b3 #[vk']).heap[b2]?=some (.cells #[va'] 27)∧((V.setRow b2 #[va']).setRow b3 #[vk']).heap[b3]?=some (.cells #[vk'] 87):=by
 obtain⟨k1,k2,k3⟩:=h.keep _ m2
 obtain⟨l1,l2,l3⟩:=h.keep _ m3
 refine ⟨((h.I7 hs).F5 b2 hw.1 hS.1 k2 k3 (fun p hp=>(ht p hp).1) _).F5 b3 hw.2 hS.2 l2 l3 (fun p hp=>(ht p hp).2) _,?_,?_⟩
 ·rw[setRow_other _ _ _ _ hne,setRow_heap V b2 _ _ _ _ k1]
 ·refine setRow_heap _ b3 #[vk] _ _ _ ?_
  rw[setRow_other _ _ _ _ (fun e=>hne e.symm)]
  exact l1
theorem Ab (L:List Tb) (x:Ex) (HI:Hid (uD L x)) (S T S1:Nat→Prop) (A B b2 b3 B0:Nat) (w W:World) (va vk:Value) (rs:List Ex) (ks:List Int) (ds:List Value) (tmp:List (Nat × Obj))
  (hT:Two B0 w W va vk rs ks S1 tmp []) (hC0:Ag w A B S L) (hx:gu T W x ds) (hb2:W.heap[b2]?=some (.cells #[va] 27)) (hb3:W.heap[b3]?=some (.cells #[vk] 87)) (hne:b2≠b3) (hw:w.heap.size≤b2∧w.heap.size≤b3) (hlo:b2<B0∧b3<B0) (hS1 : ¬S1 b2∧¬S1 b3) (htm : ∀p∈tmp,p.1≠b2∧p.1≠b3) (hn:rs.length≤1000000∧ks.length≤1000000) :
  Calls Tryz.prog 39 #[.agg ds.toArray,.pointer (some ⟨B,0,none⟩),.pointer (some ⟨b2,0,none⟩),.pointer (some ⟨b3,0,none⟩)] W fun e w'=>e = .returned (.int .i64 (aR L x).2.2)∧∃va' vk' S2,Two B0 w w' va' vk' (rs++[(aR L x).1]) (ks++[(aR L x).2.1]) S2 tmp []∧w'.heap[b2]?=some (.cells #[va'] 27)∧w'.heap[b3]?=some (.cells #[vk'] 87)∧(¬S2 b2∧¬S2 b3):=by
 obtain⟨k1,op1,tb1,nm1,vk1,vn1,vs1,ys1,aa1,nn1,cc1,hxe,rfl,hxa⟩:=id hx
 obtain⟨U,hU,hbU,hzU,hcU⟩:=aL W (.cells #[.int .i64 k1,.int .i64 op1,.string (aj tb1),.string (aj nm1),.int .i64 vk1,.int .i64 vn1,.string (aj vs1),.slice aa1 nn1 cc1] 48)
 have k0:=aN hcU
 have HC:=hid (hC0.Gj (hT.bel.trans (hbU.mono (Nat.le_trans hT.le hT.leW))))
 have hB1:=HC.out.selfB
 have HX:Hid (fB T U x (.agg #[.int .i64 k1,.int .i64 op1,.string (aj tb1),.string (aj nm1),.int .i64 vk1,.int .i64 vn1,.string (aj vs1),.slice aa1 nn1 cc1])):=hid ((hx.to (T:=T) (R:=fun _=>False) (aA.aC hbU) (fun b hb _=>⟨id,hb⟩)).v)
 have HBI:=hid (HI.out S T A B U _ HX.out HC.out)
 have HTU:=hid (hT.pE hbU)
 have HBX2:=hid ((hbU.block b2 (World.lt_of_block hb2)).trans hb2)
 have HBX3:=hid ((hbU.block b3 (World.lt_of_block hb3)).trans hb3)
 have HBU:=hid hbU
 have HTM:=hid htm
 obtain⟨X,hX⟩:∃X,(aR L x).1=X:=⟨_,rfl⟩
 obtain⟨k,hk⟩:∃k,(aR L x).2.1=k:=⟨_,rfl⟩
 obtain⟨c,hcd⟩:∃c,(aR L x).2.2=c:=⟨_,rfl⟩
 rw[hX,hk,hcd] at HBI ⊢
 clear hX hk hcd hxe hxa hx hC0 hbU hcU hT htm hb2 hb3
 go_enter Tryz.func39,Tryz.ntmps39
 go_wp2_with fail
 try rw[hU]
 refine HBI.out.mono ?_
 rintro e w2 ⟨u,rfl,hxu,hbw2⟩
 obtain⟨k2,op2,tb2,nm2,vk2,vn2,vs2,ys2,aa2,nn2,cc2,hXe,rfl,hxa2⟩:=id hxu
 obtain⟨Y,hY,hbY,hzY,hcY⟩:=aL w2 (.cells #[.int .i64 k2,.int .i64 op2,.string (aj tb2),.string (aj nm2),.int .i64 vk2,.int .i64 vn2,.string (aj vs2),.slice aa2 nn2 cc2] 48)
 have hs2:=hbw2.size
 have hltb2:b2<U.heap.size:=World.lt_of_block HBX2.out
 have hltb3:b3<U.heap.size:=World.lt_of_block HBX3.out
 have T2:=HTU.out.pE hbw2
 have hUW:B0≤U.heap.size:=HTU.out.leW
 have T3:Two B0 w w2 va vk rs ks (fun b=>S1 b∨(U.heap.size≤b∧b<w2.heap.size)) tmp []:=T2.GR (fun b hb=>.inl hb) (fun b hb=>by
  rcases hb with hb | ⟨h1,h2⟩
  ·exact .inl hb
  ·exact .inr ⟨Nat.le_trans hUW h1,h2,fun e=>by have:=(HTU.out.zu.1 b e).2;omega,fun e=>by have:=(HTU.out.zu.2 b e).2;omega⟩)
 have hb2w:=(hbw2.block b2 hltb2).trans HBX2.out
 have hb3w:=(hbw2.block b3 hltb3).trans HBX3.out
 have own2:va.ownBlock≠some b2∧vk.ownBlock≠some b2:=⟨fun e=>by have:=(HTU.out.zu.1 b2 e).1;omega,fun e=>by have:=(HTU.out.zu.2 b2 e).1;omega⟩
 have own3:va.ownBlock≠some b3∧vk.ownBlock≠some b3:=⟨fun e=>by have:=(HTU.out.zu.1 b3 e).1;omega,fun e=>by have:=(HTU.out.zu.2 b3 e).1;omega⟩
 have T4:=((((T3.yC b3 _ hb3w own3.1 own3.2).yC b2 _ hb2w own2.1 own2.2)).nE (.cells #[.int .i64 k2,.int .i64 op2,.string (aj tb2),.string (aj nm2),.int .i64 vk2,.int .i64 vn2,.string (aj vs2),.slice aa2 nn2 cc2] 48)).G5
 rw[hY] at T4
 have hX2:gu (fun b=>S1 b∨(U.heap.size≤b∧b<w2.heap.size)) Y.drew X [.int .i64 k2,.int .i64 op2,.string (aj tb2),.string (aj nm2),.int .i64 vk2,.int .i64 vn2,.string (aj vs2),.slice aa2 nn2 cc2]:=by
  have h0:gu (fun b=>U.heap.size≤b) w2 X [.int .i64 k2,.int .i64 op2,.string (aj tb2),.string (aj nm2),.int .i64 vk2,.int .i64 vn2,.string (aj vs2),.slice aa2 nn2 cc2]:=⟨_,_,_,_,_,_,_,_,_,_,_,hXe,rfl,hxa2⟩
  exact h0.to (R:=fun _=>False) (aA.aC hbY.drew) (fun b hb hlt=>⟨id,.inr ⟨hb,hlt⟩⟩)
 have T5:=T4.GV X _ hX2
 obtain⟨V0,hV0⟩:∃V0,Y.drew=V0:=⟨_,rfl⟩
 rw[hV0] at T5
 have hone : ∀u∈([.int .i64 k2,.int .i64 op2,.string (aj tb2),.string (aj nm2),.int .i64 vk2,.int .i64 vn2,.string (aj vs2),.slice aa2 nn2 cc2]:List Value),u.oneCell'=true:=by
  intro u hu
  simp only[List.mem_cons,List.not_mem_nil,or_false] at hu
  rcases hu with rfl | rfl | rfl | rfl | rfl | rfl | rfl | rfl<;>rfl
 have HS:Hid (∀V va' vk' rs' ks' tmp',Two B0 w V va' vk' rs' ks' (fun b=>S1 b∨(U.heap.size≤b∧b<w2.heap.size)) tmp' [(X,[.int .i64 k2,.int .i64 op2,.string (aj tb2),.string (aj nm2),.int .i64 vk2,.int .i64 vn2,.string (aj vs2),.slice aa2 nn2 cc2])]→(∀p∈((w2.heap.size,Obj.cells #[.int .i64 k2,.int .i64 op2,.string (aj tb2),.string (aj nm2),.int .i64 vk2,.int .i64 vn2,.string (aj vs2),.slice aa2 nn2 cc2] 48)::(b2,Obj.cells #[va] 27)::(b3,Obj.cells #[vk] 87)::tmp),p∈tmp')→(V.cell? ⟨b2,0,none⟩=some va∧V.cell? ⟨b3,0,none⟩=some vk∧(V.cell? ⟨w2.heap.size,0,none⟩=some (.int .i64 k2)∧V.cell? ⟨w2.heap.size,1,none⟩=some (.int .i64 op2)∧V.cell? ⟨w2.heap.size,2,none⟩=some (.string (aj tb2))∧V.cell? ⟨w2.heap.size,3,none⟩=some (.string (aj nm2))∧V.cell? ⟨w2.heap.size,4,none⟩=some (.int .i64 vk2)∧V.cell? ⟨w2.heap.size,5,none⟩=some (.int .i64 vn2)∧V.cell? ⟨w2.heap.size,6,none⟩=some (.string (aj vs2))∧V.cell? ⟨w2.heap.size,7,none⟩=some (.slice aa2 nn2 cc2)))):=hid (fun V va' vk' rs' ks' tmp' hV hs=>by
  have g1:=(hV.keep _ (hs (w2.heap.size,Obj.cells #[.int .i64 k2,.int .i64 op2,.string (aj tb2),.string (aj nm2),.int .i64 vk2,.int .i64 vn2,.string (aj vs2),.slice aa2 nn2 cc2] 48) (by simp))).1
  have g2:=(hV.keep _ (hs (b2,Obj.cells #[va] 27) (by simp))).1
  have g3:=(hV.keep _ (hs (b3,Obj.cells #[vk] 87) (by simp))).1
  exact⟨by rw[aD _ _ _ _ _ _ g2];rfl,by rw[aD _ _ _ _ _ _ g3];rfl,aN g1⟩)
 have HFIN:Hid (∀(V:World) (va' vk':Value) (tmp':List (Nat × Obj)),Two B0 w V va' vk' (rs++[X]) (ks++[k]) (fun b=>S1 b∨(U.heap.size≤b∧b<w2.heap.size)) tmp' [(X,[.int .i64 k2,.int .i64 op2,.string (aj tb2),.string (aj nm2),.int .i64 vk2,.int .i64 vn2,.string (aj vs2),.slice aa2 nn2 cc2])]→(∀p∈((b2,Obj.cells #[va] 27)::(b3,Obj.cells #[vk] 87)::tmp),p∈tmp')→∃va'' vk'' S2,Two B0 w ((V.setRow b2 #[va']).setRow b3 #[vk']) va'' vk'' (rs++[X]) (ks++[k]) S2 tmp []∧((V.setRow b2 #[va']).setRow b3 #[vk']).heap[b2]?=some (.cells #[va''] 27)∧((V.setRow b2 #[va']).setRow b3 #[vk']).heap[b3]?=some (.cells #[vk''] 87)∧(¬S2 b2∧¬S2 b3)):=hid (fun V va' vk' tmp' hV hs=>by
  have hSS : ¬(S1 b2∨(U.heap.size≤b2∧b2<w2.heap.size))∧¬(S1 b3∨(U.heap.size≤b3∧b3<w2.heap.size)):=⟨fun e=>e.elim hS1.1 (fun e=>by omega),fun e=>e.elim hS1.2 (fun e=>by omega)⟩
  obtain⟨g1,g2,g3⟩:=yE (hV.Ip) (hs (b2,Obj.cells #[va] 27) (by simp)) (hs (b3,Obj.cells #[vk] 87) (by simp)) (fun p hp=>hs p (by simp[hp])) HTM.out hne hSS hw
  exact⟨va',vk',_,g1,g2,g3,hSS⟩)
 clear T2 T3 T4 hbw2 hb2w hb3w own2 own3 hX2 hXe hxa2 hxu HBI HBU HTU hcY hbY k0
 go_wp2_with (first | (refine wpList_store_row rfl 48 (.tmp 6) (.tmp 13) rfl w2.heap.size #[.int .i64 k2,.int .i64 op2,.string (aj tb2),.string (aj nm2),.int .i64 vk2,.int .i64 vn2,.string (aj vs2),.slice aa2 nn2 cc2] rfl rfl 48 bS (heap_alloc_new w2 _) Tryz.bA rfl rfl ?_;rw[aB,hY];clear hY) | fail)
 have hS0:=HS.out V0 va vk rs ks _ T5 (fun p hp=>by simpa using hp)
 refine dB (fun V:World=>(V.cell? ⟨b2,0,none⟩=some va∧V.cell? ⟨b3,0,none⟩=some vk∧(V.cell? ⟨w2.heap.size,0,none⟩=some (.int .i64 k2)∧V.cell? ⟨w2.heap.size,1,none⟩=some (.int .i64 op2)∧V.cell? ⟨w2.heap.size,2,none⟩=some (.string (aj tb2))∧V.cell? ⟨w2.heap.size,3,none⟩=some (.string (aj nm2))∧V.cell? ⟨w2.heap.size,4,none⟩=some (.int .i64 vk2)∧V.cell? ⟨w2.heap.size,5,none⟩=some (.int .i64 vn2)∧V.cell? ⟨w2.heap.size,6,none⟩=some (.string (aj vs2))∧V.cell? ⟨w2.heap.size,7,none⟩=some (.slice aa2 nn2 cc2)))) [8,9] (by kernel_rfl) ?_
 rw[hV0]
 refine aP (i:=0) (v:=?_) rfl (by kernel_rfl) (by kernel_rfl) (by kernel_rfl) (by kernel_rfl) (by kernel_rfl) (fun _ _ _ h=>h) (Or.inl ⟨by rfl,?_⟩) (by assumption) ?_;rotate_left;(focus (intro w hSw;(try dsimp only at hSw);(try obtain⟨hSw1,hSw2,hSw3⟩:=hSw);go_simp<;>with_reducible rfl));(try simp only[Act.put,List.getElem_toArray,List.getElem_cons_zero,List.getElem_cons_succ,List.setIfInBounds_toArray,List.set_cons_zero,List.set_cons_succ])
 refine aP (i:=1) (v:=?_) rfl (by kernel_rfl) (by kernel_rfl) (by kernel_rfl) (by kernel_rfl) (by kernel_rfl) (fun _ _ _ h=>h) (Or.inl ⟨by rfl,?_⟩) (by assumption) ?_;rotate_left;(focus (intro w hSw;(try dsimp only at hSw);(try obtain⟨hSw1,hSw2,hSw3⟩:=hSw);go_simp<;>with_reducible rfl));(try simp only[Act.put,List.getElem_toArray,List.getElem_cons_zero,List.getElem_cons_succ,List.setIfInBounds_toArray,List.set_cons_zero,List.set_cons_succ])
 refine aP (i:=4) (v:=?_) rfl (by kernel_rfl) (by kernel_rfl) (by kernel_rfl) (by kernel_rfl) (by kernel_rfl) (fun _ _ _ h=>h) (Or.inl ⟨by rfl,?_⟩) (by assumption) ?_;rotate_left;(focus (intro w hSw;(try dsimp only at hSw);(try obtain⟨hSw1,hSw2,hSw3⟩:=hSw);go_simp<;>with_reducible rfl));(try simp only[Act.put,List.getElem_toArray,List.getElem_cons_zero,List.getElem_cons_succ,List.setIfInBounds_toArray,List.set_cons_zero,List.set_cons_succ])
 refine aP (i:=5) (v:=?_) rfl (by kernel_rfl) (by kernel_rfl) (by kernel_rfl) (by kernel_rfl) (by kernel_rfl) (fun _ _ _ h=>h) (Or.inl ⟨by rfl,?_⟩) (by assumption) ?_;rotate_left;(focus (intro w hSw;(try dsimp only at hSw);(try obtain⟨hSw1,hSw2,hSw3⟩:=hSw);go_simp<;>with_reducible rfl));(try simp only[Act.put,List.getElem_toArray,List.getElem_cons_zero,List.getElem_cons_succ,List.setIfInBounds_toArray,List.set_cons_zero,List.set_cons_succ])
 refine jd (i:=2) (j:=6) (by kernel_rfl) rfl rfl rfl rfl ?_ ?_
 ·refine aT (o7 rfl (by rfl) _) ?_
  have T1x:=T5.nE (.cells #[.int .i64 k2,.int .i64 op2,.string (aj tb2),.string (aj nm2),.int .i64 vk2,.int .i64 vn2,.string (aj vs2),.slice aa2 nn2 cc2] 48)
  obtain⟨V1,hV1⟩:∃V1,V0.alloc (.cells #[.int .i64 k2,.int .i64 op2,.string (aj tb2),.string (aj nm2),.int .i64 vk2,.int .i64 vn2,.string (aj vs2),.slice aa2 nn2 cc2] 48)=V1:=⟨_,rfl⟩
  rw[hV1] at T1x ⊢
  refine ⟨.inl (HS.out V1 _ _ _ _ _ T1x (fun p hp=>by simp at hp ⊢;rcases hp with h | h | h | h<;>simp[h])),?_⟩
  simp only[Act.put,List.getElem_toArray,List.getElem_cons_zero,List.getElem_cons_succ,List.setIfInBounds_toArray,List.set_cons_zero,List.set_cons_succ]
  refine jd (i:=3) (j:=6) (by kernel_rfl) rfl rfl rfl rfl ?_ ?_
  ·obtain⟨va2,V2,hr2,T2x⟩:=T1x.GH X [.int .i64 k2,.int .i64 op2,.string (aj tb2),.string (aj nm2),.int .i64 vk2,.int .i64 vn2,.string (aj vs2),.slice aa2 nn2 cc2] V0.heap.size rfl hone (by simp) (T1x.also (X,[.int .i64 k2,.int .i64 op2,.string (aj tb2),.string (aj nm2),.int .i64 vk2,.int .i64 vn2,.string (aj vs2),.slice aa2 nn2 cc2]) (by simp)) hn.1 27
   refine aT (cK rfl (by rfl) (by rfl) hr2) ?_
   refine ⟨.inl (HS.out V2 _ _ _ _ _ T2x (fun p hp=>by simp at hp ⊢;rcases hp with h | h | h | h<;>simp[h])),?_⟩
   simp only[Act.put,List.getElem_toArray,List.getElem_cons_zero,List.getElem_cons_succ,List.setIfInBounds_toArray,List.set_cons_zero,List.set_cons_succ]
   refine bD (i:=6) (by kernel_rfl) rfl rfl ?_
   refine aT (oO rfl (by rfl) _) ?_
   have T3x:=T2x.nE (.cells #[.int .i64 k] 3)
   obtain⟨V3,hV3⟩:∃V3,V2.alloc (.cells #[.int .i64 k] 3)=V3:=⟨_,rfl⟩
   rw[hV3] at T3x ⊢
   refine ⟨.inl (HS.out V3 _ _ _ _ _ T3x (fun p hp=>by simp at hp ⊢;rcases hp with h | h | h | h<;>simp[h])),?_⟩
   simp only[Act.put,List.getElem_toArray,List.getElem_cons_zero,List.getElem_cons_succ,List.setIfInBounds_toArray,List.set_cons_zero,List.set_cons_succ]
   refine bD (i:=7) (by kernel_rfl) rfl rfl ?_
   obtain⟨vk4,V4,hr4,T4x⟩:=T3x.GU k V2.heap.size (by simp) hn.2 87
   refine aT (cK rfl (by rfl) (by rfl) hr4) ?_
   refine ⟨.inl (HS.out V4 _ _ _ _ _ T4x (fun p hp=>by simp at hp ⊢;rcases hp with h | h | h | h<;>simp[h])),?_⟩
   simp only[Act.put,List.getElem_toArray,List.getElem_cons_zero,List.getElem_cons_succ,List.setIfInBounds_toArray,List.set_cons_zero,List.set_cons_succ]
   have kk2:=T4x.keep (b2,Obj.cells #[va] 27) (by simp)
   have kk3:=T4x.keep (b3,Obj.cells #[vk] 87) (by simp)
   obtain⟨vaF,vkF,SF,hfin⟩:=HFIN.out V4 va2 vk4 _ T4x (fun p hp=>by simp at hp ⊢;rcases hp with h | h | h<;>simp[h])
   have ho2:(va2:Value).oneCell'=true:=qB T4x
   have ho3:(vk4:Value).oneCell'=true:=pO T4x
   refine eT (i:=8) (by kernel_rfl) rfl rfl 27 (.tmp 2) (.tmp 19) rfl b2 va2 (by rfl) (by rfl) ho2 27 va kk2.1 Tryz.jX (.inr (by simp)) ?_
   simp only[Act.put,List.getElem_toArray,List.getElem_cons_zero,List.getElem_cons_succ,List.setIfInBounds_toArray,List.set_cons_zero,List.set_cons_succ]
   refine eT (i:=9) (by kernel_rfl) rfl rfl 87 (.tmp 3) (.tmp 23) rfl b3 vk4 (by rfl) (by rfl) ho3 87 vk ((setRow_other _ _ _ _ (fun e=>hne e.symm)).trans kk3.1) Tryz.kJ (.inr (by simp)) ?_
   simp only[Act.put,List.getElem_toArray,List.getElem_cons_zero,List.getElem_cons_succ,List.setIfInBounds_toArray,List.set_cons_zero,List.set_cons_succ]
   refine bV (by kernel_rfl) ?_ _
   show Only _ .normal _ _
   unfold Only
   go_wp2
   go_ret
   exact⟨rfl,vaF,vkF,SF,hfin⟩
  ·refine aT (oO rfl (by rfl) _) ?_
   have T5x:=T1x.nE (.cells #[.int .i64 k] 3)
   obtain⟨V5,hV5⟩:∃V5,V1.alloc (.cells #[.int .i64 k] 3)=V5:=⟨_,rfl⟩
   rw[hV5] at T5x ⊢
   refine ⟨.inl (HS.out V5 _ _ _ _ _ T5x (fun p hp=>by simp at hp ⊢;rcases hp with h | h | h | h<;>simp[h])),?_⟩
   simp only[Act.put,List.getElem_toArray,List.getElem_cons_zero,List.getElem_cons_succ,List.setIfInBounds_toArray,List.set_cons_zero,List.set_cons_succ]
   refine bD (i:=3) (by kernel_rfl) rfl rfl ?_
   obtain⟨va6,V6,hr6,T6x⟩:=T5x.GH X [.int .i64 k2,.int .i64 op2,.string (aj tb2),.string (aj nm2),.int .i64 vk2,.int .i64 vn2,.string (aj vs2),.slice aa2 nn2 cc2] V0.heap.size rfl hone (by simp) (T5x.also (X,[.int .i64 k2,.int .i64 op2,.string (aj tb2),.string (aj nm2),.int .i64 vk2,.int .i64 vn2,.string (aj vs2),.slice aa2 nn2 cc2]) (by simp)) hn.1 27
   refine aT (cK rfl (by rfl) (by rfl) hr6) ?_
   refine ⟨.inl (HS.out V6 _ _ _ _ _ T6x (fun p hp=>by simp at hp ⊢;rcases hp with h | h | h | h<;>simp[h])),?_⟩
   simp only[Act.put,List.getElem_toArray,List.getElem_cons_zero,List.getElem_cons_succ,List.setIfInBounds_toArray,List.set_cons_zero,List.set_cons_succ]
   refine bD (i:=7) (by kernel_rfl) rfl rfl ?_
   obtain⟨vk7,V7,hr7,T7x⟩:=T6x.GU k V1.heap.size (by simp) hn.2 87
   refine aT (cK rfl (by rfl) (by rfl) hr7) ?_
   refine ⟨.inl (HS.out V7 _ _ _ _ _ T7x (fun p hp=>by simp at hp ⊢;rcases hp with h | h | h | h<;>simp[h])),?_⟩
   simp only[Act.put,List.getElem_toArray,List.getElem_cons_zero,List.getElem_cons_succ,List.setIfInBounds_toArray,List.set_cons_zero,List.set_cons_succ]
   have kk2:=T7x.keep (b2,Obj.cells #[va] 27) (by simp)
   have kk3:=T7x.keep (b3,Obj.cells #[vk] 87) (by simp)
   obtain⟨vaF,vkF,SF,hfin⟩:=HFIN.out V7 va6 vk7 _ T7x (fun p hp=>by simp at hp ⊢;rcases hp with h | h | h<;>simp[h])
   have ho2:(va6:Value).oneCell'=true:=qB T7x
   have ho3:(vk7:Value).oneCell'=true:=pO T7x
   refine eT (i:=8) (by kernel_rfl) rfl rfl 27 (.tmp 2) (.tmp 19) rfl b2 va6 (by rfl) (by rfl) ho2 27 va kk2.1 Tryz.jX (.inr (by simp)) ?_
   simp only[Act.put,List.getElem_toArray,List.getElem_cons_zero,List.getElem_cons_succ,List.setIfInBounds_toArray,List.set_cons_zero,List.set_cons_succ]
   refine eT (i:=9) (by kernel_rfl) rfl rfl 87 (.tmp 3) (.tmp 23) rfl b3 vk7 (by rfl) (by rfl) ho3 87 vk ((setRow_other _ _ _ _ (fun e=>hne e.symm)).trans kk3.1) Tryz.kJ (.inr (by simp)) ?_
   simp only[Act.put,List.getElem_toArray,List.getElem_cons_zero,List.getElem_cons_succ,List.setIfInBounds_toArray,List.set_cons_zero,List.set_cons_succ]
   refine bV (by kernel_rfl) ?_ _
   show Only _ .normal _ _
   unfold Only
   go_wp2
   go_ret
   exact⟨rfl,vaF,vkF,SF,hfin⟩
 ·refine aT (oO rfl (by rfl) _) ?_
  have T8x:=T5.nE (.cells #[.int .i64 k] 3)
  obtain⟨V8,hV8⟩:∃V8,V0.alloc (.cells #[.int .i64 k] 3)=V8:=⟨_,rfl⟩
  rw[hV8] at T8x ⊢
  refine ⟨.inl (HS.out V8 _ _ _ _ _ T8x (fun p hp=>by simp at hp ⊢;rcases hp with h | h | h | h<;>simp[h])),?_⟩
  simp only[Act.put,List.getElem_toArray,List.getElem_cons_zero,List.getElem_cons_succ,List.setIfInBounds_toArray,List.set_cons_zero,List.set_cons_succ]
  refine bD (i:=2) (by kernel_rfl) rfl rfl ?_
  refine aT (o7 rfl (by rfl) _) ?_
  have T9x:=T8x.nE (.cells #[.int .i64 k2,.int .i64 op2,.string (aj tb2),.string (aj nm2),.int .i64 vk2,.int .i64 vn2,.string (aj vs2),.slice aa2 nn2 cc2] 48)
  obtain⟨V9,hV9⟩:∃V9,V8.alloc (.cells #[.int .i64 k2,.int .i64 op2,.string (aj tb2),.string (aj nm2),.int .i64 vk2,.int .i64 vn2,.string (aj vs2),.slice aa2 nn2 cc2] 48)=V9:=⟨_,rfl⟩
  rw[hV9] at T9x ⊢
  refine ⟨.inl (HS.out V9 _ _ _ _ _ T9x (fun p hp=>by simp at hp ⊢;rcases hp with h | h | h | h<;>simp[h])),?_⟩
  simp only[Act.put,List.getElem_toArray,List.getElem_cons_zero,List.getElem_cons_succ,List.setIfInBounds_toArray,List.set_cons_zero,List.set_cons_succ]
  refine bD (i:=3) (by kernel_rfl) rfl rfl ?_
  obtain⟨va10,V10,hr10,T10x⟩:=T9x.GH X [.int .i64 k2,.int .i64 op2,.string (aj tb2),.string (aj nm2),.int .i64 vk2,.int .i64 vn2,.string (aj vs2),.slice aa2 nn2 cc2] V8.heap.size rfl hone (by simp) (T9x.also (X,[.int .i64 k2,.int .i64 op2,.string (aj tb2),.string (aj nm2),.int .i64 vk2,.int .i64 vn2,.string (aj vs2),.slice aa2 nn2 cc2]) (by simp)) hn.1 27
  refine aT (cK rfl (by rfl) (by rfl) hr10) ?_
  refine ⟨.inl (HS.out V10 _ _ _ _ _ T10x (fun p hp=>by simp at hp ⊢;rcases hp with h | h | h | h<;>simp[h])),?_⟩
  simp only[Act.put,List.getElem_toArray,List.getElem_cons_zero,List.getElem_cons_succ,List.setIfInBounds_toArray,List.set_cons_zero,List.set_cons_succ]
  refine bD (i:=7) (by kernel_rfl) rfl rfl ?_
  obtain⟨vk11,V11,hr11,T11x⟩:=T10x.GU k V0.heap.size (by simp) hn.2 87
  refine aT (cK rfl (by rfl) (by rfl) hr11) ?_
  refine ⟨.inl (HS.out V11 _ _ _ _ _ T11x (fun p hp=>by simp at hp ⊢;rcases hp with h | h | h | h<;>simp[h])),?_⟩
  simp only[Act.put,List.getElem_toArray,List.getElem_cons_zero,List.getElem_cons_succ,List.setIfInBounds_toArray,List.set_cons_zero,List.set_cons_succ]
  have kk2:=T11x.keep (b2,Obj.cells #[va] 27) (by simp)
  have kk3:=T11x.keep (b3,Obj.cells #[vk] 87) (by simp)
  obtain⟨vaF,vkF,SF,hfin⟩:=HFIN.out V11 va10 vk11 _ T11x (fun p hp=>by simp at hp ⊢;rcases hp with h | h | h<;>simp[h])
  have ho2:(va10:Value).oneCell'=true:=qB T11x
  have ho3:(vk11:Value).oneCell'=true:=pO T11x
  refine eT (i:=8) (by kernel_rfl) rfl rfl 27 (.tmp 2) (.tmp 19) rfl b2 va10 (by rfl) (by rfl) ho2 27 va kk2.1 Tryz.jX (.inr (by simp)) ?_
  simp only[Act.put,List.getElem_toArray,List.getElem_cons_zero,List.getElem_cons_succ,List.setIfInBounds_toArray,List.set_cons_zero,List.set_cons_succ]
  refine eT (i:=9) (by kernel_rfl) rfl rfl 87 (.tmp 3) (.tmp 23) rfl b3 vk11 (by rfl) (by rfl) ho3 87 vk ((setRow_other _ _ _ _ (fun e=>hne e.symm)).trans kk3.1) Tryz.kJ (.inr (by simp)) ?_
  simp only[Act.put,List.getElem_toArray,List.getElem_cons_zero,List.getElem_cons_succ,List.setIfInBounds_toArray,List.set_cons_zero,List.set_cons_succ]
  refine bV (by kernel_rfl) ?_ _
  show Only _ .normal _ _
  unfold Only
  go_wp2
  go_ret
  exact⟨rfl,vaF,vkF,SF,hfin⟩
end Go.Proofs.YtfeglkleoijlaaaGreatDoor
