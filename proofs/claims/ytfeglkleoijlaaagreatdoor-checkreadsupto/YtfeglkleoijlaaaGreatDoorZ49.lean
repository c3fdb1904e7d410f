/- Packed for the hand-in: KFew -/
import Derived.Test.YtfeglkleoijlaaaGreatDoorZ48
import Derived.Test.YtfeglkleoijlaaaGreatDoorZ44
namespace Go.Proofs.YtfeglkleoijlaaaGreatDoor
open Go.RowKit Go.Shelf
set_option linter.unusedSimpArgs false
set_option linter.unusedVariables false
set_option maxRecDepth 20000
set_option maxHeartbeats 8000000
theorem BX {w W:World} {zs:List Ex} {v:Value} (hr:jc w.heap.size (fun b=>b<w.heap.size) W zs v) (hB:Below w.heap.size w W) (x:Ex) (cs:List Value) (g:Nat) (hl:cs.length=8) (h1 : ∀u∈cs,u.oneCell'=true) (hg:W.heap[g]?=some (.cells cs.toArray 48)) (hx:gu (fun b=>b<w.heap.size) W x cs) (hn:zs.length≤1000000000) (ty:TypeId) :
  ∃v' W',(Builtin.append_ #[27,27] ty #[v,.slice (some ⟨g,0,none⟩) 1 1]).run Tryz.prog W = .ok v' W'∧jc w.heap.size (fun b=>b<w.heap.size) W' (zs++[x]) v'∧Below w.heap.size w W':=by
 obtain⟨i0,hi,hy0,hy1,hy2⟩:=info_parts Tryz.l9
 obtain⟨css,ho,he⟩:=hr.has
 obtain⟨v',W',hrn,ho2,hg2,_⟩:=run_append_own (P:=Tryz.prog) W w.heap.size 27 ty 48 i0 _ 8 104 Tryz.underlying27 hi hy0 hy1 hy2 rfl (by decide) v zs.length css.flatten ho ⟨g,0,none⟩ 1 1 cs (by omega) (fun j u hu=>by
  rw[Addr.add_lit,Nat.zero_add,cell_of_row _ _ _ _ _ _ hg]
  simpa using hu) h1 (by unfold maxLen;omega) (by omega) hB.size
 have hsp:=fH hg2
 have hlow : ∀b,v.ownBlock=some b→w.heap.size≤b:=fun b hb=>(ho.lt b hb).1
 refine ⟨v',W',hrn,⟨css++[cs],?_,?_⟩,hB.trans (hsp.below (fun i hi=>hlow i hi) hB.size)⟩
 ·rw[List.length_append,List.flatten_append]
  simpa using ho2
 ·exact (he.snoc hl hx).to (fun x cs e=>e.to hsp (fun b hb _=>⟨fun e=>by have:=hlow b e;have:b<w.heap.size:=hb;omega,hb⟩))
theorem jc.Db {n0:Nat} {S:Nat→Prop} {W V:World} {zs:List Ex} {v:Value} (h:jc n0 S W zs v) (hb:Below W.heap.size W V):jc n0 S V zs v:=by
 obtain⟨css,ho,he⟩:=h.has
 exact⟨css,aA.row (aA.aC (S:=fun _=>False) hb) ho (fun _ _=>id),he.to (fun x cs e=>e.to (R:=fun _=>False) (aA.aC hb) (fun b hb _=>⟨id,hb⟩))⟩
theorem Bc (a:Act) (oi:Oper) (ki:oi.op = .buildSlice 27 0 #[]) (V:World):(execOp a.eval oi).run Tryz.prog V = .ok (.value (.slice (some ⟨V.heap.size,0,none⟩) 0 0)) (V.alloc (.cells #[] 48)):=by
 have u:=Tryz.underlying27
 unfold execOp
 simp only[ki]
 go_simp
def zW (s:St):List Ex:=((s.on++s.wh)++s.gr)++s.od
def dM (s:St):List Ex:=(zW s++s.sets.map fun x=>x.e)++s.items.flatMap fun i=>i.xs
theorem zY {s:St} {e:Ex} (h:e∈jv s):e∈dM s:=by
 unfold jv at h
 unfold dM zW
 simp only[List.mem_append] at h ⊢
 rcases h with h | h | h | h | h | h
 ·exact .inl (.inr h)
 ·exact .inr h
 ·exact .inl (.inl (.inl (.inl (.inl h))))
 ·exact .inl (.inl (.inl (.inl (.inr h))))
 ·exact .inl (.inl (.inl (.inr h)))
 ·exact .inl (.inl (.inr h))
def FX (s:St):Prop:=(∀e∈dM s,fQ 12 e=true)∧s.tb.length≤4096∧s.jn.length≤4096
theorem DZ {s:St} (h:xH s):∀e∈dM s,jD e:=fun e he=>by
 unfold dM zW at he
 simp only[List.mem_append,List.mem_map,List.mem_flatMap] at he
 rcases he with (((((he | he) | he) | he) | ⟨x,hx,rfl⟩) | ⟨i,hi,he⟩)
 ·exact h.on e he
 ·exact h.wh e he
 ·exact h.gr e he
 ·exact h.od e he
 ·exact (h.sets x hx).2
 ·exact h.items i hi e he
theorem Am (s:St) (sc:List Value) (w:World) (hR:xH s) (hs:eZ (fun b=>b<w.heap.size) w s sc) (hN:(dM s).length≤100000000) (hN2:s.sets.length≤100000000∧s.items.length≤1000000000000) :
  Calls Tryz.prog 6 #[.agg sc.toArray] w fun e w'=>∃b,e = .returned (.bool b)∧(b=true→FX s)∧Below w.heap.size w w':=by
 have hs0:=hs
 obtain⟨b1,b2,b3,b4,b5,b6,b7,b8,m1,m2,m3,m4,m5,m6,m7,m8,d1,d2,d3,d4,d5,d6,d7,d8,rfl,_,_,hsets,_⟩:=hs
 obtain⟨W,hWW,hbW,hzW,hcA⟩:=aL w (.cells #[.int .i64 s.k,.string (aj s.tb),.slice b1 m1 d1,.string (aj s.prim),.slice b2 m2 d2,.slice b3 m3 d3,.slice b4 m4 d4,.string (aj s.jn),.slice b5 m5 d5,.slice b6 m6 d6,.slice b7 m7 d7,.slice b8 m8 d8,.bool s.desc,.int .i64 s.lim] 29)
 have kA:=ay hcA
 have HB:=hid hbW
 have HCA:=hid hcA
 have HSW:Hid (∀V,Below W.heap.size W V→eZ (fun b=>b<W.heap.size) V s [.int .i64 s.k,.string (aj s.tb),.slice b1 m1 d1,.string (aj s.prim),.slice b2 m2 d2,.slice b3 m3 d3,.slice b4 m4 d4,.string (aj s.jn),.slice b5 m5 d5,.slice b6 m6 d6,.slice b7 m7 d7,.slice b8 m8 d8,.bool s.desc,.int .i64 s.lim]∧aQ 9 yx (fun b=>b<W.heap.size) V s.sets (.slice b3 m3 d3)):=hid (fun V hV=>by
  have hb2:=hbW.trans (hV.mono hbW.size)
  exact⟨hs0.to (R:=fun _=>False) (aA.aC hb2) (fun b hb _=>⟨id,Nat.lt_of_lt_of_le hb hbW.size⟩),hsets.to (by decide) (R:=fun _=>False) (aA.aC hb2) (fun b hb _=>⟨id,Nat.lt_of_lt_of_le hb hbW.size⟩) (fun _ _ e=>e.to (R:=fun _=>False) (aA.aC hb2) (fun b hb _=>⟨id,Nat.lt_of_lt_of_le hb hbW.size⟩))⟩)
 have hm3:m3=s.sets.length:=by obtain⟨_,_,hf⟩:=hsets.form;simp only[Value.slice.injEq] at hf;exact hf.2.1
 have hm4:m4=s.items.length:=by obtain⟨_,_,hf⟩:=(eZ.slices hs0).1.form;simp only[Value.slice.injEq] at hf;exact hf.2.1
 subst hm3 hm4
 have HRA:=hid (DZ hR)
 have HN:=hid hN
 obtain⟨hn1,hn2⟩:=hN2
 clear hbW hcA hs0 hsets hR hN
 go_enter Tryz.func6,Tryz.ntmps6
 go_wp2_with fail
 try rw[hWW]
 have HS:Hid (∀V,Below W.heap.size W V→V.cell? ⟨w.heap.size,8,none⟩=some (.slice b5 m5 d5)∧V.cell? ⟨w.heap.size,9,none⟩=some (.slice b6 m6 d6)∧(V.cell? ⟨w.heap.size,10,none⟩=some (.slice b7 m7 d7)∧V.cell? ⟨w.heap.size,11,none⟩=some (.slice b8 m8 d8))):=hid (fun V hV=>by
  have q:=ay ((hV.block w.heap.size hzW).trans HCA.out)
  exact⟨q.2.2.2.2.2.2.2.2.1,q.2.2.2.2.2.2.2.2.2.1,q.2.2.2.2.2.2.2.2.2.2.1,q.2.2.2.2.2.2.2.2.2.2.2.1⟩)
 have hS0:=HS.out W.drew (Below.refl _ W).drew
 have hon4:(zW s).length≤100000000:=by
  have:=HN.out
  unfold dM at this
  simp only[List.length_append] at this
  omega
 have hla:s.on.length+s.wh.length+s.gr.length+s.od.length≤100000000:=by
  unfold zW at hon4
  simp only[List.length_append] at hon4
  omega
 clear hon4
 refine dB (fun V:World=>V.cell? ⟨w.heap.size,8,none⟩=some (.slice b5 m5 d5)∧V.cell? ⟨w.heap.size,9,none⟩=some (.slice b6 m6 d6)∧(V.cell? ⟨w.heap.size,10,none⟩=some (.slice b7 m7 d7)∧V.cell? ⟨w.heap.size,11,none⟩=some (.slice b8 m8 d8))) [] (by kernel_rfl) ?_
 refine aP (i:=1) (v:=?_) rfl (by kernel_rfl) (by kernel_rfl) (by kernel_rfl) (by kernel_rfl) (by kernel_rfl) (fun _ _ _ h=>h) (Or.inl ⟨by rfl,?_⟩) (by assumption) ?_;rotate_left;(focus (intro w hSw;(try dsimp only at hSw);(try obtain⟨hSw1,hSw2,hSw3⟩:=hSw);go_simp<;>with_reducible rfl));(try simp only[Act.put,List.getElem_toArray,List.getElem_cons_zero,List.getElem_cons_succ,List.setIfInBounds_toArray,List.set_cons_zero,List.set_cons_succ])
 refine aP (i:=2) (v:=?_) rfl (by kernel_rfl) (by kernel_rfl) (by kernel_rfl) (by kernel_rfl) (by kernel_rfl) (fun _ _ _ h=>h) (Or.inl ⟨by rfl,?_⟩) (by assumption) ?_;rotate_left;(focus (intro w hSw;(try dsimp only at hSw);(try obtain⟨hSw1,hSw2,hSw3⟩:=hSw);go_simp<;>with_reducible rfl));(try simp only[Act.put,List.getElem_toArray,List.getElem_cons_zero,List.getElem_cons_succ,List.setIfInBounds_toArray,List.set_cons_zero,List.set_cons_succ])
 refine aP (i:=4) (v:=?_) rfl (by kernel_rfl) (by kernel_rfl) (by kernel_rfl) (by kernel_rfl) (by kernel_rfl) (fun _ _ _ h=>h) (Or.inl ⟨by rfl,?_⟩) (by assumption) ?_;rotate_left;(focus (intro w hSw;(try dsimp only at hSw);(try obtain⟨hSw1,hSw2,hSw3⟩:=hSw);go_simp<;>with_reducible rfl));(try simp only[Act.put,List.getElem_toArray,List.getElem_cons_zero,List.getElem_cons_succ,List.setIfInBounds_toArray,List.set_cons_zero,List.set_cons_succ])
 refine aP (i:=5) (v:=?_) rfl (by kernel_rfl) (by kernel_rfl) (by kernel_rfl) (by kernel_rfl) (by kernel_rfl) (fun _ _ _ h=>h) (Or.inl ⟨by rfl,?_⟩) (by assumption) ?_;rotate_left;(focus (intro w hSw;(try dsimp only at hSw);(try obtain⟨hSw1,hSw2,hSw3⟩:=hSw);go_simp<;>with_reducible rfl));(try simp only[Act.put,List.getElem_toArray,List.getElem_cons_zero,List.getElem_cons_succ,List.setIfInBounds_toArray,List.set_cons_zero,List.set_cons_succ])
 refine aP (i:=7) (v:=?_) rfl (by kernel_rfl) (by kernel_rfl) (by kernel_rfl) (by kernel_rfl) (by kernel_rfl) (fun _ _ _ h=>h) (Or.inl ⟨by rfl,?_⟩) (by assumption) ?_;rotate_left;(focus (intro w hSw;(try dsimp only at hSw);(try obtain⟨hSw1,hSw2,hSw3⟩:=hSw);go_simp<;>with_reducible rfl));(try simp only[Act.put,List.getElem_toArray,List.getElem_cons_zero,List.getElem_cons_succ,List.setIfInBounds_toArray,List.set_cons_zero,List.set_cons_succ])
 refine aP (i:=8) (v:=?_) rfl (by kernel_rfl) (by kernel_rfl) (by kernel_rfl) (by kernel_rfl) (by kernel_rfl) (fun _ _ _ h=>h) (Or.inl ⟨by rfl,?_⟩) (by assumption) ?_;rotate_left;(focus (intro w hSw;(try dsimp only at hSw);(try obtain⟨hSw1,hSw2,hSw3⟩:=hSw);go_simp<;>with_reducible rfl));(try simp only[Act.put,List.getElem_toArray,List.getElem_cons_zero,List.getElem_cons_succ,List.setIfInBounds_toArray,List.set_cons_zero,List.set_cons_succ])
 refine aP (i:=10) (v:=?_) rfl (by kernel_rfl) (by kernel_rfl) (by kernel_rfl) (by kernel_rfl) (by kernel_rfl) (fun _ _ _ h=>h) (Or.inl ⟨by rfl,?_⟩) (by assumption) ?_;rotate_left;(focus (intro w hSw;(try dsimp only at hSw);(try obtain⟨hSw1,hSw2,hSw3⟩:=hSw);go_simp<;>with_reducible rfl));(try simp only[Act.put,List.getElem_toArray,List.getElem_cons_zero,List.getElem_cons_succ,List.setIfInBounds_toArray,List.set_cons_zero,List.set_cons_succ])
 refine aP (i:=11) (v:=?_) rfl (by kernel_rfl) (by kernel_rfl) (by kernel_rfl) (by kernel_rfl) (by kernel_rfl) (fun _ _ _ h=>h) (Or.inl ⟨by rfl,?_⟩) (by assumption) ?_;rotate_left;(focus (intro w hSw;(try dsimp only at hSw);(try obtain⟨hSw1,hSw2,hSw3⟩:=hSw);go_simp<;>with_reducible rfl));(try simp only[Act.put,List.getElem_toArray,List.getElem_cons_zero,List.getElem_cons_succ,List.setIfInBounds_toArray,List.set_cons_zero,List.set_cons_succ])
 obtain⟨Z,hZ,hbZ,hzZ,hcZ⟩:=aL W.drew (.cells #[] 48)
 have hbZ1:Below W.heap.size W Z:=((Below.refl _ W).drew).trans hbZ
 refine bD (i:=0) (by kernel_rfl) rfl rfl (aT (Bc _ _ rfl _) ?_)
 rw[hZ]
 refine ⟨.inl (HS.out Z hbZ1),?_⟩
 simp only[Act.put,List.getElem_toArray,List.getElem_cons_zero,List.getElem_cons_succ,List.setIfInBounds_toArray,List.set_cons_zero,List.set_cons_succ]
 have hr0:jc W.heap.size (fun b=>b<W.heap.size) Z [] (.slice (some ⟨W.drew.heap.size,0,none⟩) 0 0):=⟨[],⟨by simp,.inr ⟨W.drew.heap.size,0,#[],rfl,Nat.le_refl _,hcZ,Nat.le_refl _,by unfold maxLen;omega,rfl,by simp⟩⟩,gJ.nil⟩
 obtain⟨v1,W1,hr1,hx1,hb1,_⟩:=jq hr0 hbZ1 (eZ.slices (HSW.out Z hbZ1).1).2.1 (by simp only[List.length_nil];omega) 27
 refine bD (i:=3) (by kernel_rfl) rfl rfl (aT (cK rfl (by rfl) (by rfl) hr1) ⟨.inl (HS.out W1 hb1),?_⟩)
 simp only[Act.put,List.getElem_toArray,List.getElem_cons_zero,List.getElem_cons_succ,List.setIfInBounds_toArray,List.set_cons_zero,List.set_cons_succ]
 rw[List.nil_append] at hx1
 obtain⟨v2,W2,hr2,hx2,hb2,_⟩:=jq hx1 hb1 (eZ.slices (HSW.out W1 hb1).1).2.2.1 (by omega) 27
 refine bD (i:=6) (by kernel_rfl) rfl rfl (aT (cK rfl (by rfl) (by rfl) hr2) ⟨.inl (HS.out W2 hb2),?_⟩)
 simp only[Act.put,List.getElem_toArray,List.getElem_cons_zero,List.getElem_cons_succ,List.setIfInBounds_toArray,List.set_cons_zero,List.set_cons_succ]
 obtain⟨v3,W3,hr3,hx3,hb3,_⟩:=jq hx2 hb2 (eZ.slices (HSW.out W2 hb2).1).2.2.2.1 (by simp only[List.length_append];omega) 27
 refine bD (i:=9) (by kernel_rfl) rfl rfl (aT (cK rfl (by rfl) (by rfl) hr3) ⟨.inl (HS.out W3 hb3),?_⟩)
 simp only[Act.put,List.getElem_toArray,List.getElem_cons_zero,List.getElem_cons_succ,List.setIfInBounds_toArray,List.set_cons_zero,List.set_cons_succ]
 obtain⟨v4,W4,hr4,hx4,hb4,_⟩:=jq hx3 hb3 (eZ.slices (HSW.out W3 hb3).1).2.2.2.2 (by simp only[List.length_append];omega) 27
 refine bD (i:=12) (by kernel_rfl) rfl rfl (aT (cK rfl (by rfl) (by rfl) hr4) ⟨.inl (HS.out W4 hb4),?_⟩)
 simp only[Act.put,List.getElem_toArray,List.getElem_cons_zero,List.getElem_cons_succ,List.setIfInBounds_toArray,List.set_cons_zero,List.set_cons_succ]
 refine bD (i:=13) (by kernel_rfl) rfl rfl (aT (iR rfl (by rfl) _) ⟨.inl (HS.out W4 hb4),?_⟩)
 simp only[Act.put,List.getElem_toArray,List.getElem_cons_zero,List.getElem_cons_succ,List.setIfInBounds_toArray,List.set_cons_zero,List.set_cons_succ]
 refine bV (by kernel_rfl) ?_ _
 show Only _ .normal _ _
 unfold Only
 have HR0:Hid (jc W.heap.size (fun b=>b<W.heap.size) W4 (zW s++(s.sets.take 0).map fun x=>x.e) v4):=hid (by simpa [zW] using hx4)
 have HB4:=hid hb4
 clear hS0 hZ hbZ hcZ hbZ1 hr0 hr1 hx1 hb1 hr2 hx2 hb2 hr3 hx3 hb3 hr4 hx4 hb4 hla kA
 go_wp2_with fail
 go_loopw [3,4] (fun v i wr=>∃(k:Nat),k≤s.sets.length∧i = .int .i64 k∧Hid (jc W.heap.size (fun b=>b<W.heap.size) wr (zW s++(s.sets.take k).map fun x=>x.e) v)∧Hid (Below W.heap.size W wr)) (fun _ i _=>s.sets.length-(intOf i).toNat)
 case atStart=>exact⟨0,Nat.zero_le _,rfl,HR0,HB4⟩
 case round =>
  clear HR0 HB4
  obtain⟨k,hk,rfl,HRX,HBr⟩:=hrel
  have kW:=ay ((HBr.out.block w.heap.size hzW).trans HCA.out)
  by_cases hlt:k<s.sets.length
  ·have hlt':((k:Int)<(s.sets.length:Int)):=by omega
   obtain⟨y,hy⟩:∃y,s.sets[k]?=some y:=⟨_,List.getElem?_eq_getElem hlt⟩
   obtain⟨_,_,_,b,off,cs,rfl,_,hel,hcell⟩:=bN (HSW.out _ HBr.out).2 hy
   obtain⟨k1,op1,tb1,nm1,vk1,vn1,vs1,ys1,aa1,nn1,cc1,hye,rfl,hya⟩:=hel
   have hex0:gu (fun b=>b<W.heap.size) wr y.e [.int .i64 k1,.int .i64 op1,.string (aj tb1),.string (aj nm1),.int .i64 vk1,.int .i64 vn1,.string (aj vs1),.slice aa1 nn1 cc1]:=⟨k1,op1,tb1,nm1,vk1,vn1,vs1,ys1,aa1,nn1,cc1,hye,rfl,hya⟩
   have q1:=hcell 1 _ rfl
   have q2:=hcell 2 _ rfl
   have q3:=hcell 3 _ rfl
   have q4:=hcell 4 _ rfl
   have q5:=hcell 5 _ rfl
   have q6:=hcell 6 _ rfl
   have q7:=hcell 7 _ rfl
   have q8:=hcell 8 _ rfl
   obtain⟨U,hU,hbU,hzU,hcU⟩:=aL wr (.cells #[.int .i64 k1,.int .i64 op1,.string (aj tb1),.string (aj nm1),.int .i64 vk1,.int .i64 vn1,.string (aj vs1),.slice aa1 nn1 cc1] 48)
   have hbU1:=HBr.out.trans (hbU.mono HBr.out.size)
   have hlen:(zW s++(s.sets.take k).map fun x=>x.e).length≤1000000000:=by
    have:=HN.out
    unfold dM at this
    simp only[List.length_append,List.length_map,List.length_take] at this ⊢
    omega
   obtain⟨v',W',hrun,hrow,hbW'⟩:=BX (HRX.out.Db hbU) hbU1 y.e _ wr.heap.size rfl (fun u hu=>(Array.all_eq_true_iff_forall_mem.1 (bE k1 op1 (aj tb1) (aj nm1) vk1 vn1 (aj vs1) aa1 nn1 cc1)) u (by simpa using hu)) hcU (hex0.to (R:=fun _=>False) (aA.aC hbU) (fun b hb _=>⟨id,hb⟩)) hlen 27
   have HRUN:=hid hrun
   have HROW:Hid (jc W.heap.size (fun b=>b<W.heap.size) W' (zW s++(s.sets.take (k+1)).map fun x=>x.e) v'):=hid (by
    have hg:=List.getElem?_eq_some_iff.1 hy
    rw[List.take_succ_eq_append_getElem hg.1,hg.2,List.map_append,← List.append_assoc]
    exact hrow)
   have HBW:=hid hbW'
   clear hrun hrow hbW' hcell hye hya hex0 hbU hcU hbU1 hlen HRX hy
   go_wp2_with (first | (at_builtin;(try rw[hU]);refine wpList_append_run _ rfl (.tmp 28) (.tmp 35) 27 rfl _ _ _ _ rfl rfl HRUN.out ?_) | fail)
   go_roundw
   case rel=>exact⟨k+1,by omega,by go_num,HROW,HBW⟩
   case measure=>simp[intOf];omega
  ·have hlt' : ¬((k:Int)<(s.sets.length:Int)):=by omega
   obtain rfl:k=s.sets.length:=by omega
   have HR1:Hid (jc W.heap.size (fun b=>b<W.heap.size) wr ((zW s++s.sets.map fun x=>x.e)++(s.items.take 0).flatMap fun i=>i.xs) _):=hid (by
    have:=HRX.out
    rw[List.take_length] at this
    simpa using this)
   clear HRX
   go_wp2_with fail
   have HBO:=HBr
   obtain⟨wo,hwo⟩:∃x,x=wr:=⟨_,rfl⟩
   clear kW
   go_loopw [3,5] (fun v i wr=>∃(k:Nat),k≤s.items.length∧i = .int .i64 k∧Hid (jc W.heap.size (fun b=>b<W.heap.size) wr ((zW s++s.sets.map fun x=>x.e)++(s.items.take k).flatMap fun i=>i.xs) v)∧Hid (Below W.heap.size W wr)) (fun _ i _=>s.items.length-(intOf i).toNat)
   case atStart=>exact⟨0,Nat.zero_le _,rfl,HR1,HBO⟩
   case round =>
    clear HR1 HBO HBr hwo
    obtain⟨k,hk,rfl,HRX,HBr⟩:=hrel
    have kW:=ay ((HBr.out.block w.heap.size hzW).trans HCA.out)
    by_cases hlt2:k<s.items.length
    ·have hlt2':((k:Int)<(s.items.length:Int)):=by omega
     obtain⟨y,hy⟩:∃y,s.items[k]?=some y:=⟨_,List.getElem?_eq_getElem hlt2⟩
     obtain⟨_,_,_,b,off,cs,rfl,_,hel,hcell⟩:=bN (eZ.slices (HSW.out _ HBr.out).1).1 hy
     obtain⟨aa1,nn1,cc1,rfl,hargs⟩:=hel
     have q1:=hcell 1 _ rfl
     have hg:=List.getElem?_eq_some_iff.1 hy
     have htk:(s.items.take (k+1)).flatMap (fun i=>i.xs)=(s.items.take k).flatMap (fun i=>i.xs)++y.xs:=by
      rw[List.take_succ_eq_append_getElem hg.1,hg.2,List.flatMap_append]
      simp
     have hlen:((zW s++s.sets.map fun x=>x.e)++(s.items.take k).flatMap fun i=>i.xs).length+y.xs.length≤1000000000:=by
      have h1:=HN.out
      unfold dM at h1
      have h2:(s.items.flatMap fun i=>i.xs).length=((s.items.take (k+1)).flatMap fun i=>i.xs).length+((s.items.drop (k+1)).flatMap fun i=>i.xs).length:=by
       rw[← List.length_append,← List.flatMap_append,List.take_append_drop]
      rw[htk] at h2
      simp only[List.length_append] at h1 h2 ⊢
      omega
     obtain⟨v',W',hrun,hrow,hbW',_⟩:=jq HRX.out HBr.out (dN hargs) hlen 27
     rw[List.append_assoc,← htk] at hrow
     have HRUN:=hid hrun
     have HROW:=hid hrow
     have HBW:=hid hbW'
     clear hrun hrow hbW' hcell hargs hlen HRX hy hg htk
     go_wp2_with (first | (at_builtin;refine wpList_append_run _ rfl (.tmp 44) (.tmp 50) 27 rfl _ _ _ _ rfl rfl HRUN.out ?_) | fail)
     go_roundw
     case rel=>exact⟨k+1,by omega,by go_num,HROW,HBW⟩
     case measure=>simp[intOf];omega
    ·have hlt2' : ¬((k:Int)<(s.items.length:Int)):=by omega
     obtain rfl:k=s.items.length:=by omega
     have HA0:Hid (jc W.heap.size (fun b=>b<W.heap.size) wr (dM s) _):=hid (by
      have:=HRX.out
      rw[List.take_length] at this
      exact this)
     clear HRX
     obtain⟨la,lc,hlf⟩:=HA0.out.F9
     subst hlf
     have HSL:Hid (∀V,Below wr.heap.size wr V→aQ 8 gu (fun _=>True) V (dM s) (.slice la (dM s).length lc)):=hid (fun V hV=>by
      obtain⟨css,ho,he⟩:=(HA0.out.Db hV).has
      exact aQ.dW (by decide) ho (he.to (fun x cs e=>e.to (R:=fun _=>False) (aA.refl _ _) (fun b hb _=>⟨id,trivial⟩))) (fun b hb=>trivial))
     clear HA0
     go_wp2_with fail
     have HB0:=HBr
     have hal:=HN.out
     obtain⟨wo,hwo⟩:∃x,x=wr:=⟨_,rfl⟩
     rw[← hwo] at HSL
     clear kW
     go_loopw [6,7] (fun i _ wr=>∃(k:Nat),k≤(dM s).length∧i = .int .i64 k∧Hid (Below wo.heap.size wo wr)∧Hid (∀e∈(dM s).take k,fQ 12 e=true)) (fun i _ _=>(dM s).length-(intOf i).toNat)
     case atStart=>exact⟨0,Nat.zero_le _,rfl,hid (by rw[hwo];exact Below.refl _ _),hid (fun e he=>by cases he)⟩
     case round =>
      rw[← hwo] at HB0
      clear HBr hwo
      obtain⟨k,hk,rfl,HBr,HK⟩:=hrel
      have HBW:=hid (HB0.out.trans (HBr.out.mono HB0.out.size))
      have kW:=ay ((HBW.out.block w.heap.size hzW).trans HCA.out)
      by_cases hlt3:k<(dM s).length
      ·have hlt3':((k:Int)<((dM s).length:Int)):=by omega
       obtain⟨y,hy⟩:∃y,(dM s)[k]?=some y:=⟨_,List.getElem?_eq_getElem hlt3⟩
       obtain⟨_,_,_,b,off,cs,rfl,_,hel,hcell⟩:=bN (HSL.out _ HBr.out) hy
       have HFW:=hid (FQ (fun _=>True) 12 y _ wr (by decide) (HRA.out y (List.mem_of_getElem? hy)) hel.v)
       obtain⟨k1,op1,tb1,nm1,vk1,vn1,vs1,ys1,aa1,nn1,cc1,_,rfl,_⟩:=hel
       have q0:=hcell 0 _ rfl
       have q1:=hcell 1 _ rfl
       have q2:=hcell 2 _ rfl
       have q3:=hcell 3 _ rfl
       have q4:=hcell 4 _ rfl
       have q5:=hcell 5 _ rfl
       have q6:=hcell 6 _ rfl
       have q7:=hcell 7 _ rfl
       simp only[Nat.add_zero] at q0
       cases hp:fQ 12 y with
       |
        true =>
        rw[hp] at HFW
        have HK2:Hid (∀e∈(dM s).take (k+1),fQ 12 e=true):=hid (fun e he=>by
         have hg:=List.getElem?_eq_some_iff.1 hy
         rw[List.take_succ_eq_append_getElem hg.1,hg.2,List.mem_append,List.mem_singleton] at he
         rcases he with he | rfl
         ·exact HK.out e he
         ·exact hp)
        clear hcell hy hp HK
        go_wp2_with fail
        refine HFW.out.mono ?_
        rintro e w2 ⟨rfl,hb2⟩
        have HB2:=hid (HBr.out.trans (hb2.mono HBr.out.size))
        clear hb2 HFW
        go_wp2
        go_roundw
        case rel=>exact⟨k+1,by omega,by go_num,HB2,HK2⟩
        case measure=>simp[intOf];omega
       |
        false =>
        rw[hp] at HFW
        clear hcell hy hp HK
        go_wp2_with fail
        refine HFW.out.mono ?_
        rintro e w2 ⟨rfl,hb2⟩
        have HB2:=hid (HB.out.trans ((HBW.out.trans (hb2.mono HBW.out.size)).mono HB.out.size))
        clear hb2 HFW
        go_wp2
        go_ret
        first
        | exact Or.inl ⟨rfl,HB2.out⟩
        | exact⟨false,rfl,(fun e=>by cases e),HB2.out⟩
      ·have hlt3' : ¬((k:Int)<((dM s).length:Int)):=by omega
       obtain rfl:k=(dM s).length:=by omega
       have HOK:Hid (∀e∈dM s,fQ 12 e=true):=hid (by
        have:=HK.out
        rw[List.take_length] at this
        exact this)
       have HBZ:=hid (HB.out.trans (HBW.out.mono HB.out.size))
       have zt:(aj s.tb).size=s.tb.length:=rfl
       have zj:(aj s.jn).size=s.jn.length:=rfl
       have zp:(aj s.prim).size=s.prim.length:=rfl
       clear HK HSL
       by_cases c1:(((dM s).length:Int)<60)
       ·by_cases c2:((m2:Int)<60)
        ·by_cases c3:((m1:Int)<60)
         ·by_cases c4:(((aj s.tb).size:Int)≤4096)
          ·by_cases c5:(((aj s.jn).size:Int)≤4096)
           ·by_cases c6:(((aj s.prim).size:Int)≤4096)
            ·have HTB:Hid (s.tb.length≤4096):=hid (by omega)
             have HJB:Hid (s.jn.length≤4096):=hid (by omega)
             clear zt zj zp
             go_wp2
             go_ret
             first
             | exact Or.inr ⟨rfl,⟨HOK.out,HTB.out,HJB.out⟩,HBZ.out⟩
             | exact⟨true,rfl,fun _=>⟨HOK.out,HTB.out,HJB.out⟩,HBZ.out⟩
            ·clear zt zj zp
             go_wp2
             go_ret
             first
             | exact Or.inl ⟨rfl,HBZ.out⟩
             | exact⟨false,rfl,(fun e=>by cases e),HBZ.out⟩
           ·clear zt zj zp
            go_wp2
            go_ret
            first
            | exact Or.inl ⟨rfl,HBZ.out⟩
            | exact⟨false,rfl,(fun e=>by cases e),HBZ.out⟩
          ·clear zt zj zp
           go_wp2
           go_ret
           first
           | exact Or.inl ⟨rfl,HBZ.out⟩
           | exact⟨false,rfl,(fun e=>by cases e),HBZ.out⟩
         ·clear zt zj zp
          go_wp2
          go_ret
          first
          | exact Or.inl ⟨rfl,HBZ.out⟩
          | exact⟨false,rfl,(fun e=>by cases e),HBZ.out⟩
        ·clear zt zj zp
         go_wp2
         go_ret
         first
         | exact Or.inl ⟨rfl,HBZ.out⟩
         | exact⟨false,rfl,(fun e=>by cases e),HBZ.out⟩
       ·clear zt zj zp
        go_wp2
        go_ret
        first
        | exact Or.inl ⟨rfl,HBZ.out⟩
        | exact⟨false,rfl,(fun e=>by cases e),HBZ.out⟩
end Go.Proofs.YtfeglkleoijlaaaGreatDoor
