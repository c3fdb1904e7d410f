/- Packed for the hand-in: PRow PRowL -/
import Derived.Test.YtaaggohjmhifbaaGreatDoorP11
namespace Go.Proofs.YtaaggohjmhifbaaGreatDoor
open Go.RowKit Go.Shelf
set_option linter.unusedSimpArgs false
set_option linter.unusedVariables false
set_option maxRecDepth 20000
set_option maxHeartbeats 8000000
def lenAt (g:Nat) (w:World):Nat:=match w.cell? ⟨g,0,none⟩ with
 | some (.slice _ n _)=>n
 | _=>0
theorem RdAt.len {F:Nat} {w:World} {g:Nat} {r:Rd} (h:RdAt F w g r):lenAt g w=r.ts.length:=by
 obtain⟨v,hv,a,c,rfl,_⟩:=h.lie
 unfold lenAt
 rw[(cells4 hv).1]
theorem RdL.setD {w:World} {g:Nat} {r:Rd} (h:RdL w g r) (d:Int):∃W,w.setCell ⟨g,1,none⟩ (.int .i64 d)=W∧RdL W g { r with d:=d }∧Fr g w W:=by
 refine ⟨_,rfl,?_,(Spares.refl (fun k=>k=g) w).own _ _⟩
 obtain⟨v,hv,ht⟩:=h.lie
 rw[setCell_eq_setRow w g 1 _ _ _ _ hv]
 refine ⟨h.any,v,?_,?_⟩
 ·rw[setRow_heap w g _ _ _ _ hv]
  rfl
 ·exact ht.keeps (R:=fun k=>k=g) (Spares.setRow (S:=fun k=>k=g) (Spares.refl _ w) (p:=g) (.inl rfl) _) (fun i hi e=>by omega)
theorem deeper_any (F:Nat) (n fb:Nat) (p:Pa Ex) (hp:RdsE F (Enough n) fb p) (hN:Nice false F p) (eg : ∀args w,(callFunc fb args).run Tryz.prog w = .ok (.enter fb args) w)
  (g:Nat) (r:Rd) (w:World) (h:RdAt F w g r) (hE:Enough (n+1) r) (hb:r.bad=0) :
  Calls Tryz.prog 263 #[.pointer (some ⟨g,0,none⟩),.func (.func fb) #[.pointer (some ⟨g,0,none⟩)] #[]] w fun e w'=>∃u,e = .returned u∧ExV (fun b=>w.heap.size≤b) w' (deepP p r).1 u∧RdAt F w' g (deepP p r).2∧Fr g w w':=by
 have hgw:=h.lt
 have hG:=h.good
 obtain⟨W,hW,hbW,hzW,hcW⟩:=box8 w zBox
 have HH:=h.below hbW
 obtain⟨v,hv,ht⟩:=HH.lie
 have kg:=cells4 hv
 have d0:=hG.d0
 have d2:=hG.d2 hb
 obtain⟨hGd,hdd,hdt⟩:=hG.down hb
 have hEd:=hE.down hG hb
 have HFI:=hid ((nice_deep hN).fine r hb hG)
 have HPF:=hid (hN.fine (downR r) trivial hGd)
 obtain⟨W1,hW1,hL1,hF1⟩:=HH.toL.setD (r.d+1)
 obtain⟨v1,hv1,_⟩:=hL1.lie
 have kg1:=cells4 hv1
 have hz1:=hF1.size
 have HB1:=hid ((hF1.block w.heap.size hzW (by omega)).trans hcW)
 have HF1:=hid ((Spares.of_new (S:=fun k=>k=g) hbW).then hF1)
 have HP:=hid (fun V (hV:RdAt F V g (downR r))=>hp g (downR r) V hV hEd)
 have HG2:Hid (Good F (deepP p r).2):=hid HFI.out.1
 have hd3:(p (downR r)).2.d=r.d+1:=HPF.out.2.1.trans hdd
 have HUP:Hid ((deepP p r).2=upR (p (downR r)).2):=hid rfl
 have HX1:Hid ((deepP p r).1=(p (downR r)).1):=hid rfl
 obtain⟨x2,hx2⟩:∃x,(p (downR r)).1=x:=⟨_,rfl⟩
 obtain⟨r2,hr2⟩:∃x,(p (downR r)).2=x:=⟨_,rfl⟩
 rw[hx2] at HX1 HP
 rw[hr2] at HUP HP hd3
 generalize (deepP p r).1=y1 at HX1 ⊢
 generalize (deepP p r).2=y2 at HUP HG2 ⊢
 clear hx2 hr2 HPF HFI hEd hE hv hv1 hcW hF1 h ht
 by_cases hd:10<r.d+1
 ·have hd':(10:Int)<r.d+1:=hd
  have HFL:=hid (fail_anyL g { r with d:=r.d+1 } W1 hL1 10 (by decide))
  have eD:failR 10 { r with d:=r.d+1 } = downR r:=by unfold downR;rw[if_pos hd]
  rw[eD] at HFL
  have HGD:=hid hGd
  clear eD hd hGd hL1 HH
  go_enter Tryz.func263,Tryz.ntmps263
  go_wp2_with fail
  clear hW1 hW
  refine HFL.out.mono ?_
  rintro e w1 ⟨rfl,hl1,hf1⟩
  have HRD:Hid (RdAt F w1 g (downR r)):=hid ⟨HGD.out,hl1.lie⟩
  have hz1':=hf1.size
  have HBD:=hid ((hf1.block w.heap.size (by omega) (by omega)).trans HB1.out)
  have HFD:=hid (HF1.out.then hf1)
  clear hl1 hf1 HFL
  go_wp2_with fail
  refine (HP.out w1 HRD.out).mono ?_
  rintro e w2 ⟨u,rfl,hu,hr2,hf2⟩
  have HU:=hid hu
  obtain⟨k3,op3,tb3,nm3,vk3,vn3,vs3,ys3,aa3,nn3,cc3,_,rfl,_⟩:=hu
  have hz2:=hf2.size
  have hgz2:g<w2.heap.size:=hr2.lt
  obtain⟨U,hU,hbU,hzU,hcU⟩:=box8 w2 (.cells #[.int .i64 k3,.int .i64 op3,.string (str8 tb3),.string (str8 nm3),.int .i64 vk3,.int .i64 vn3,.string (str8 vs3),.slice aa3 nn3 cc3] 130)
  have hLU:=(hr2.below hbU).toL
  obtain⟨vU,hvU,_⟩:=hLU.lie
  rw[hd3] at hvU
  have kU:=cells4 hvU
  obtain⟨V,hV,hLV,hFV⟩:=hLU.setD r.d
  have kV:=cells8f ((hFV.block w2.heap.size hzU (by omega)).trans hcU)
  have HRV:Hid (RdAt F V g y2):=hid (by
   rw[HUP.out] at HG2 ⊢
   have e:upR r2 = { r2 with d:=r.d }:=by unfold upR;rw[hd3];congr 1;omega
   rw[e] at HG2 ⊢
   exact⟨HG2.out,hLV.lie⟩)
  have HBV:=hid ((hFV.block w.heap.size (by omega) (by omega)).trans ((hbU.block w.heap.size (by omega)).trans ((hf2.block w.heap.size (by omega) (by omega)).trans HBD.out)))
  have HFV:Hid (Fr g w V):=hid (((HFD.out.then hf2).thenNew hbU).then hFV)
  have HUV:Hid (ExV (fun b=>w.heap.size≤b∧b≠w.heap.size) V y1 _):=hid (by
   rw[HX1.out]
   exact (HU.out.to (T:=fun b=>w.heap.size≤b∧b≠w.heap.size∧b≠g) (R:=fun _=>False) (Spares.of_new hbU) (fun b hb _=>⟨id,by omega,by omega,by omega⟩)).to hFV (fun b hb _=>⟨hb.2.2,hb.1,hb.2.1⟩))
  clear hr2 hf2 HP hvU hLU hbU hcU hLV hFV HU HX1
  go_wp2_with (first
   | (
    refine wpList_store_box rfl (.tmp 4) (.tmp 29) rfl w.heap.size rfl k3 op3 vk3 vn3 (str8 tb3) (str8 nm3) (str8 vs3) aa3 nn3 cc3 rfl HBV.out (Nat.le_refl _) hgw HRV.out HFV.out ?_
    intro Y hYB hYs hYR hYF
    have HYB:=hid hYB
    have HUY:=hid (HUV.out.to (T:=fun b=>w.heap.size≤b) hYs (fun b hb _=>⟨hb.2,hb.1⟩))
    have HYR:=hid hYR
    have HYF:=hid hYF
    clear hYB hYs hYR hYF)
   | fail)
  have kc:=cells8 HYB.out
  exact bodyPost_ret (v:=.agg #[.int .i64 k3,.int .i64 op3,.string (str8 tb3),.string (str8 nm3),.int .i64 vk3,.int .i64 vn3,.string (str8 vs3),.slice aa3 nn3 cc3]) (by simp[results,Tryz.results263,go_sem,kc]) rfl ⟨_,rfl,HUY.out,HYR.out,HYF.out⟩
 ·have hd' : ¬(10:Int)<r.d+1:=hd
  have HRD:Hid (RdAt F W1 g (downR r)):=hid (by
   have e:downR r = { r with d:=r.d+1 }:=by unfold downR;rw[if_neg hd]
   rw[e] at hGd ⊢
   exact⟨hGd,hL1.lie⟩)
  have HBD:=hid HB1.out
  have HFD:=hid HF1.out
  clear hd hGd hL1 HH
  go_enter Tryz.func263,Tryz.ntmps263
  go_wp2_with fail
  clear hW1 hW
  refine (HP.out W1 HRD.out).mono ?_
  rintro e w2 ⟨u,rfl,hu,hr2,hf2⟩
  have HU:=hid hu
  obtain⟨k3,op3,tb3,nm3,vk3,vn3,vs3,ys3,aa3,nn3,cc3,_,rfl,_⟩:=hu
  have hz2:=hf2.size
  have hgz2:g<w2.heap.size:=hr2.lt
  obtain⟨U,hU,hbU,hzU,hcU⟩:=box8 w2 (.cells #[.int .i64 k3,.int .i64 op3,.string (str8 tb3),.string (str8 nm3),.int .i64 vk3,.int .i64 vn3,.string (str8 vs3),.slice aa3 nn3 cc3] 130)
  have hLU:=(hr2.below hbU).toL
  obtain⟨vU,hvU,_⟩:=hLU.lie
  rw[hd3] at hvU
  have kU:=cells4 hvU
  obtain⟨V,hV,hLV,hFV⟩:=hLU.setD r.d
  have kV:=cells8f ((hFV.block w2.heap.size hzU (by omega)).trans hcU)
  have HRV:Hid (RdAt F V g y2):=hid (by
   rw[HUP.out] at HG2 ⊢
   have e:upR r2 = { r2 with d:=r.d }:=by unfold upR;rw[hd3];congr 1;omega
   rw[e] at HG2 ⊢
   exact⟨HG2.out,hLV.lie⟩)
  have HBV:=hid ((hFV.block w.heap.size (by omega) (by omega)).trans ((hbU.block w.heap.size (by omega)).trans ((hf2.block w.heap.size (by omega) (by omega)).trans HBD.out)))
  have HFV:Hid (Fr g w V):=hid (((HFD.out.then hf2).thenNew hbU).then hFV)
  have HUV:Hid (ExV (fun b=>w.heap.size≤b∧b≠w.heap.size) V y1 _):=hid (by
   rw[HX1.out]
   exact (HU.out.to (T:=fun b=>w.heap.size≤b∧b≠w.heap.size∧b≠g) (R:=fun _=>False) (Spares.of_new hbU) (fun b hb _=>⟨id,by omega,by omega,by omega⟩)).to hFV (fun b hb _=>⟨hb.2.2,hb.1,hb.2.1⟩))
  clear hr2 hf2 HP hvU hLU hbU hcU hLV hFV HU HX1
  go_wp2_with (first
   | (
    refine wpList_store_box rfl (.tmp 4) (.tmp 29) rfl w.heap.size rfl k3 op3 vk3 vn3 (str8 tb3) (str8 nm3) (str8 vs3) aa3 nn3 cc3 rfl HBV.out (Nat.le_refl _) hgw HRV.out HFV.out ?_
    intro Y hYB hYs hYR hYF
    have HYB:=hid hYB
    have HUY:=hid (HUV.out.to (T:=fun b=>w.heap.size≤b) hYs (fun b hb _=>⟨hb.2,hb.1⟩))
    have HYR:=hid hYR
    have HYF:=hid hYF
    clear hYB hYs hYR hYF)
   | fail)
  have kc:=cells8 HYB.out
  exact bodyPost_ret (v:=.agg #[.int .i64 k3,.int .i64 op3,.string (str8 tb3),.string (str8 nm3),.int .i64 vk3,.int .i64 vn3,.string (str8 vs3),.slice aa3 nn3 cc3]) (by simp[results,Tryz.results263,go_sem,kc]) rfl ⟨_,rfl,HUY.out,HYR.out,HYF.out⟩
theorem rowL_stop {p:Pa Ex} {ops:List (List UInt8 × Int)} (ho : ∀c∈ops,c.2≠0) {f:Nat} {e:Ex} {r q:Rd} (h:chooseP ops r=(0,q)):rowL p ops f e r=(e,q):=by
 cases f with
 |
  zero =>
  have:=choose_none ops r ho (by rw[h])
  rw[h] at this
  show (e,r)=(e,q)
  rw[← this]
 |
  succ f =>
  show (if (chooseP ops r).1=0 then retP e else bindP p fun x=>rowL p ops f (exOp (chooseP ops r).1 e x)) (chooseP ops r).2=_
  rw[h,if_pos rfl]
  rfl
theorem rowL_go {p:Pa Ex} {ops:List (List UInt8 × Int)} {f:Nat} {e:Ex} {r q:Rd} {o:Int} (h:chooseP ops r=(o,q)) (h0:o≠0) (hf:r.ts.length≤f):q=nextR r∧r.bad=0∧q.ts.length<r.ts.length∧∃f',f=f'+1∧rowL p ops f e r=rowL p ops f' (exOp o e (p q).1) (p q).2:=by
 have hl:=choose_lt ops r (by rw[h];exact h0)
 rw[h] at hl
 obtain⟨rfl,hb,hlt⟩:=hl
 refine ⟨rfl,hb,hlt,?_⟩
 cases f with
 | zero=>omega
 |
  succ f =>
  refine ⟨f,rfl,?_⟩
  show (if (chooseP ops r).1=0 then retP e else bindP p fun x=>rowL p ops f (exOp (chooseP ops r).1 e x)) (chooseP ops r).2=_
  rw[h,if_neg h0]
  rfl
theorem Enough.keep {F n:Nat} {p:Pa Ex} {r:Rd} (hp:Nice false F p) (hG:Good F r) (h:Enough n r):Enough n (p r).2:=h.after hp trivial hG
theorem row_any (F:Nat) (n fb:Nat) (p:Pa Ex) (hp:RdsE F (Enough n) fb p) (hN:Nice false F p) (eg : ∀args w,(callFunc fb args).run Tryz.prog w = .ok (.enter fb args) w)
  (ops:List (List UInt8 × Int)) (ho : ∀c∈ops,c.2≠0) (g:Nat) (r:Rd) (w:World) (h:RdAt F w g r) (hE:Enough n r) (v:Value) (hv:ChsG g w v ops) :
  Calls Tryz.prog 185 #[.pointer (some ⟨g,0,none⟩),.func (.func fb) #[.pointer (some ⟨g,0,none⟩)] #[],v] w fun e w'=>∃u,e = .returned u∧ExV (fun b=>w.heap.size≤b) w' (rowP F p ops r).1 u∧RdAt F w' g (rowP F p ops r).2∧Fr g w w':=by
 have hgw:=h.lt
 have hG:=h.good
 obtain⟨W,hW,hbW,hzW,hcW⟩:=box8 w zBox
 have HCW:=hid hcW
 have HH:=hid (h.below hbW)
 have HF:=hid (Spares.of_new (S:=fun k=>k=g) hbW)
 have HV:=hid hv
 have HPX:=hid (fun V q (hV:RdAt F V g q) (hq:Enough n q)=>hp g q V hV hq)
 have HP:=hid (HPX.out W r HH.out hE)
 obtain⟨hG1,hd1,hl1⟩:=hN.fine r trivial hG
 have HE1:=hid (hE.keep hN hG)
 have HX:Hid (rowP F p ops r=rowL p ops F (p r).1 (p r).2):=hid rfl
 obtain⟨⟨X1,X2⟩,hXe⟩:∃X,rowP F p ops r=X:=⟨_,rfl⟩
 rw[hXe] at HX ⊢
 dsimp only
 obtain⟨x1,hx1⟩:∃x,(p r).1=x:=⟨_,rfl⟩
 obtain⟨r1,hr1⟩:∃x,(p r).2=x:=⟨_,rfl⟩
 rw[hx1] at HX HP
 rw[hr1] at HX HP hG1 HE1
 obtain⟨a0,c0,hve,_⟩:=id hv
 subst hve
 have HCH:=hid (fun V (hV:RdAt F V g r1) (hs:ChsG g V (.slice a0 ops.length c0) ops)=>choose_any F g r1 V hV _ ops hs)
 have HMANY:=hid hG1.many
 have HG1:=hid hG1
 obtain⟨⟨o1,q1⟩,ho1⟩:∃x,chooseP ops r1=x:=⟨_,rfl⟩
 rw[ho1] at HCH
 have HO1:=hid ho1
 clear hXe hx1 hr1 hd1 hl1 hG hE h hcW hbW hG1 ho1 hv hp
 go_enter Tryz.func185,Tryz.ntmps185
 go_wp2_with fail
 try rw[hW]
 clear hW
 refine HP.out.mono ?_
 rintro e w1 ⟨u,rfl,hu,hr1,hf1⟩
 obtain⟨k3,op3,tb3,nm3,vk3,vn3,vs3,ys3,aa3,nn3,cc3,hxe3,rfl,ha3⟩:=hu
 have HU:=hid ha3
 have HXE:=hid hxe3
 clear hxe3 ha3
 have hz1:=hf1.size
 have hg1:=hr1.lt
 obtain⟨V,hV,hbV,hzV,hcV⟩:=box8 w1 (.cells #[.int .i64 k3,.int .i64 op3,.string (str8 tb3),.string (str8 nm3),.int .i64 vk3,.int .i64 vn3,.string (str8 vs3),.slice aa3 nn3 cc3] 130)
 have HRV:=hid (hr1.below hbV)
 have HFV:Hid (Fr g w V):=hid ((HF.out.then hf1).thenNew hbV)
 have HBV:=hid ((hbV.block w.heap.size (by omega)).trans ((hf1.block w.heap.size hzW (by omega)).trans HCW.out))
 have HEV:=hid hcV
 have HUV:Hid (ArgsAt (fun b=>w.heap.size≤b∧b≠w.heap.size∧b≠w1.heap.size) V ys3 _):=hid (HU.out.to (R:=fun _=>False) (Spares.of_new hbV) (fun b hb hlt=>⟨id,by omega,by omega,by omega⟩))
 have HCV:=hid (HV.out.keeps HFV.out (fun i hi e=>by omega))
 have HC:=hid (HCH.out V HRV.out HCV.out)
 clear hr1 hf1 hbV hcV HP HU HCH
 go_wp2_with fail
 try rw[hV]
 clear hV
 refine HC.out.mono ?_
 rintro e w2 ⟨rfl,hr2,hf2⟩
 have hz2:=hf2.size
 have HR2:=hid hr2
 have HF2:=hid (HFV.out.then hf2)
 have HB2:=hid ((hf2.block w.heap.size (by omega) (by omega)).trans HBV.out)
 have HE2:=hid ((hf2.block w1.heap.size (by omega) (by omega)).trans HEV.out)
 have HU2:=hid (HUV.out.to (T:=fun b=>w.heap.size≤b∧b≠w.heap.size∧b≠w1.heap.size) hf2 (fun b hb _=>⟨by omega,hb⟩))
 clear hr2 hf2 HC
 go_wp2_with fail
 go_loopw [8] (fun o wr=>∃(f:Nat) (ys:List Ex) (rr q:Rd) (oo k op vk vn:Int) (tb nm vs:List UInt8) (aa:Option Addr) (nn cc:Nat),o = .int .i64 oo∧RdAt F wr g q∧Fr g w wr∧w2.heap.size≤wr.heap.size ∧
   wr.heap[w.heap.size]?=some zBox∧wr.heap[w1.heap.size]?=some (.cells #[.int .i64 k,.int .i64 op,.string (str8 tb),.string (str8 nm),.int .i64 vk,.int .i64 vn,.string (str8 vs),.slice aa nn cc] 130) ∧
   ArgsAt (fun b=>w.heap.size≤b∧b≠w.heap.size∧b≠w1.heap.size) wr ys (.slice aa nn cc) ∧
   Hid (chooseP ops rr=(oo,q))∧Hid (Enough n q)∧Hid (rr.ts.length≤f)∧Hid (rowL p ops f (.mk k op tb nm ⟨vk,vn,vs⟩ ys) rr=(X1,X2))) (fun o wr=>2*lenAt g wr+(if intOf o=0 then 0 else 1))
 case atStart =>
  refine ⟨F,ys3,r1,q1,o1,_,_,_,_,_,_,_,_,_,_,rfl,HR2.out,HF2.out,Nat.le_refl _,HB2.out,HE2.out,HU2.out,HO1,hid ?_,HMANY,hid (by rw[← HXE.out];exact HX.out.symm)⟩
  have:=HE1.out.after (nice_choose (b:=false) ops (fun e=>by cases e)) trivial HG1.out
  rw[HO1.out] at this
  exact this
 case round =>
  obtain⟨f,ys,rr,q,oo,k,op,vk,vn,tb,nm,vs,aa,nn,cc,rfl,hq,hf,hsz,hb0,hb1,hxv,HCQ,HEQ,HLQ,HRL⟩:=hrel
  by_cases h0:oo=0
  ·subst h0
   have HXX:Hid ((.mk k op tb nm ⟨vk,vn,vs⟩ ys,q)=(X1,X2)):=hid (by rw[← HRL.out];exact (rowL_stop ho HCQ.out).symm)
   have HB0:=hid hb0
   have k1:=cells8f hb1
   have HQ:=hid hq
   have HFQ:=hid hf
   have HXV:=hid hxv
   clear hb0 hb1 hq hf hxv HRL HCQ HEQ HLQ HX HO1 HXE
   go_wp2_with (first
    | (
      refine wpList_store_box rfl (.tmp 6) (.tmp 25) rfl w.heap.size rfl k op vk vn (str8 tb) (str8 nm) (str8 vs) aa nn cc rfl HB0.out (Nat.le_refl _) hgw HQ.out HFQ.out ?_
      intro Y hYB hYs hYR hYF
      have HYB:=hid hYB
      have HUY:=hid (HXV.out.to (T:=fun b=>w.heap.size≤b) hYs (fun b hb _=>⟨hb.2.1,hb.1⟩))
      have HYR:=hid hYR
      have HYF:=hid hYF
      clear hYB hYs hYR hYF)
    | fail)
   have kc:=cells8 HYB.out
   have hxx:=HXX.out
   simp only[Prod.mk.injEq] at hxx
   obtain⟨rfl,rfl⟩:=hxx
   exact bodyPost_ret (v:=.agg #[.int .i64 k,.int .i64 op,.string (str8 tb),.string (str8 nm),.int .i64 vk,.int .i64 vn,.string (str8 vs),.slice aa nn cc]) (by simp[results,Tryz.results185,go_sem,kc]) rfl ⟨_,rfl,⟨_,_,_,_,_,_,_,_,_,_,_,rfl,rfl,HUY.out⟩,HYR.out,HYF.out⟩
  ·obtain⟨hqe,hrb,hql,f',hff,hrl⟩:=rowL_go (p:=p) (e:=.mk k op tb nm ⟨vk,vn,vs⟩ ys) HCQ.out h0 HLQ.out
   have h0':(oo != 0)=true:=by simpa using h0
   have HQG:=hid hq.good
   have hQf:=hN.fine q trivial hq.good
   have HEN:=hid (HEQ.out.keep hN hq.good)
   have HPQ:=hid (HPX.out wr.drew q (hq.below (Below.refl _ wr).drew) HEQ.out)
   have HLEN:=hid hq.len
   have hRL2:rowL p ops f' (exOp oo (.mk k op tb nm ⟨vk,vn,vs⟩ ys) (p q).1) (p q).2=(X1,X2):=hrl.symm.trans HRL.out
   obtain⟨xn,hxn⟩:∃x,(p q).1=x:=⟨_,rfl⟩
   obtain⟨rn,hrn⟩:∃x,(p q).2=x:=⟨_,rfl⟩
   rw[hxn] at hRL2 HPQ
   rw[hrn] at hRL2 HPQ hQf HEN
   have HRL2:=hid hRL2
   have HGN:=hid hQf.1
   have HLN:Hid (rn.ts.length≤q.ts.length∧rn.ts.length≤f'):=hid ⟨hQf.2.2,by have:=HLQ.out;have:=hQf.2.2;omega⟩
   obtain⟨⟨on,qn⟩,hon⟩:∃x,chooseP ops rn=x:=⟨_,rfl⟩
   have HON:=hid hon
   have HQN:=hid (fun V (hV:RdAt F V g rn) (hs:ChsG g V (.slice a0 ops.length c0) ops)=>choose_any F g rn V hV _ ops hs)
   rw[hon] at HQN
   have k1:=cells8f hb1
   have HB0:=hid hb0
   have HB1:=hid hb1
   have HFQ:=hid hf
   have HXV:=hid hxv
   have hgr:=hq.lt
   have hw1r:w1.heap.size<wr.heap.size:=World.lt_of_block hb1
   have hw0r:w.heap.size<wr.heap.size:=World.lt_of_block hb0
   have hww:w.heap.size<w1.heap.size:=by omega
   clear hb0 hb1 hq hf hxv HRL HCQ HEQ HLQ HX HO1 HXE hqe hrb hql hff hrl hxn hrn hRL2 hon hQf h0 HPX HRV HFV HBV HEV HUV HCV HR2 HF2 HB2 HE2 HU2 HCW HH HF HG1 HMANY HE1
   go_wp2_with fail
   go_region_with (first
    | (
      go_at_fn fb
      go_loud
        (
         refine HPQ.out.mono ?_
         rintro e w3 ⟨u,rfl,hu,hr3,hf3⟩
         obtain⟨k4,op4,tb4,nm4,vk4,vn4,vs4,ys4,aa4,nn4,cc4,hxe4,rfl,ha4⟩:=hu
         have k13:=cells8f ((hf3.block w1.heap.size hw1r (by omega)).trans HB1.out)
         have hb1a:=fun o=>(Below.heap_alloc w3 o w1.heap.size (Nat.lt_of_lt_of_le hw1r hf3.size)).trans ((hf3.block w1.heap.size hw1r (by omega)).trans HB1.out)
         have k13a:=fun o=>cells8f (hb1a o)
         have HB13:=hid hb1a
         have HU4:=hid ha4
         have HXE4:=hid hxe4
         have HR3:=hid hr3
         have HFR3:=hid hf3
         clear hr3 hf3 hb1a ha4 hxe4))
    | fail)
   all_goals
    obtain⟨U,hU,hbU,hzU,hcU⟩:=box8 w3 (.cells #[.int .i64 k,.int .i64 op,.string (str8 tb),.string (str8 nm),.int .i64 vk,.int .i64 vn,.string (str8 vs),.slice aa nn cc,.int .i64 k4,.int .i64 op4,.string (str8 tb4),.string (str8 nm4),.int .i64 vk4,.int .i64 vn4,.string (str8 vs4),.slice aa4 nn4 cc4] 130)
    have hB1U:=HB13.out (.cells #[.int .i64 k,.int .i64 op,.string (str8 tb),.string (str8 nm),.int .i64 vk,.int .i64 vn,.string (str8 vs),.slice aa nn cc,.int .i64 k4,.int .i64 op4,.string (str8 tb4),.string (str8 nm4),.int .i64 vk4,.int .i64 vn4,.string (str8 vs4),.slice aa4 nn4 cc4] 130)
    rw[hU] at hB1U ⊢
    clear hU
    rw[set8 hB1U]
    have hz3:wr.heap.size≤w3.heap.size:=HFR3.out.size
    have hF3:Fr g wr w3:=(Spares.of_new (S:=fun k=>k=g) (Below.refl _ wr).drew).then HFR3.out
    have hFU:Fr g w U:=(HFQ.out.then hF3).thenNew hbU
    obtain⟨Z,hZ,hZB,hZs,hZR,hZF⟩:=put_box (w:=w) #[.int .i64 3,.int .i64 oo,.string ⟨#[]⟩,.string ⟨#[]⟩,.int .i64 0,.int .i64 0,.string ⟨#[]⟩,.slice (some ⟨w3.heap.size,0,none⟩) 2 2] hB1U (Nat.le_of_lt hww) hgw (HR3.out.below hbU) hFU
    rw[hZ]
    clear hZ
    have HZ0:=hid ((hZs.block w.heap.size (by omega) (by omega)).trans ((hbU.block w.heap.size (by omega)).trans ((hF3.block w.heap.size hw0r (by omega)).trans HB0.out)))
    have HZ1:=hid hZB
    have HZA:Hid (ArgsAt (fun b=>w.heap.size≤b∧b≠w.heap.size∧b≠w1.heap.size) Z [.mk k op tb nm ⟨vk,vn,vs⟩ ys,.mk k4 op4 tb4 nm4 ⟨vk4,vn4,vs4⟩ ys4] (.slice (some ⟨w3.heap.size,0,none⟩) 2 2)):=hid (by
     refine args_two (t:=130) ⟨by omega,by omega,by omega⟩ ((hZs.block w3.heap.size hzU (by omega)).trans hcU) ?_ ?_
     · exact ((HXV.out.to (T:=fun b=>w.heap.size≤b∧b≠w.heap.size∧b≠w1.heap.size) hF3 (fun b hb _=>⟨by omega,hb⟩)).to (R:=fun _=>False) (T:=fun b=>w.heap.size≤b∧b≠w.heap.size∧b≠w1.heap.size) (Spares.of_new hbU) (fun b hb _=>⟨id,hb⟩)).to hZs (fun b hb _=>⟨hb.2.2,hb⟩)
     · exact (HU4.out.to (R:=fun _=>False) (T:=fun b=>w.heap.size≤b∧b≠w.heap.size∧b≠w1.heap.size) (Spares.of_new hbU) (fun b hb _=>by have hb':wr.heap.size≤b:=hb;exact⟨id,by omega,by omega,by omega⟩)).to hZs (fun b hb _=>⟨hb.2.2,hb⟩))
    have HZF:=hid hZF
    have hzZ:w2.heap.size≤Z.heap.size:=by have:=hZs.size;omega
    have hZw1:w1.heap.size<Z.heap.size:=World.lt_of_block hZB
    have HQZ:=hid (HQN.out Z hZR (HV.out.keeps hZF (fun i hi e=>by omega)))
    clear hZs hZB hZR hZF hB1U hcU hbU hFU hF3 k13 k13a HB13 HU4 HFR3 HR3 HXV HQN k1
    go_wp2_with fail
    refine HQZ.out.mono ?_
    rintro e w4 ⟨rfl,hr4,hf4⟩
    have HLA:=hid hr4.len
    have HR4:=hid hr4
    have HF4:=hid (HZF.out.then hf4)
    have H40:=hid ((hf4.block w.heap.size (by omega) (by omega)).trans HZ0.out)
    have H41:=hid ((hf4.block w1.heap.size hZw1 (by omega)).trans HZ1.out)
    have H4A:=hid (HZA.out.to (T:=fun b=>w.heap.size≤b∧b≠w.heap.size∧b≠w1.heap.size) hf4 (fun b hb _=>⟨by omega,hb⟩))
    have hz4:w2.heap.size≤w4.heap.size:=Nat.le_trans hzZ hf4.size
    clear hr4 hf4 HQZ
    go_wp2
    refine ⟨⟨f',_,rn,qn,on,_,_,_,_,[],[],[],_,_,_,rfl,HR4.out,HF4.out,hz4,H40.out,H41.out,H4A.out,HON,hid ?_,hid HLN.out.2,hid ?_⟩,?_⟩
    ·have:=HEN.out.after (nice_choose (b:=false) ops (fun e=>by cases e)) trivial HGN.out
     rw[HON.out] at this
     exact this
    ·have:=HRL2.out
     rw[HXE4.out] at this
     exact this
    ·show 2*lenAt g w4+(if intOf (.int .i64 on)=0 then 0 else 1)<2*lenAt g wr+(if intOf (.int .i64 oo)=0 then 0 else 1)
     rw[HLA.out,HLEN.out]
     have h1:=HLN.out.1
     have hoo : ¬(intOf (.int .i64 oo)=0):=by simpa [intOf] using h0'
     rw[if_neg hoo]
     by_cases hon:on=0
     · have:=choose_none ops rn ho (by rw[HON.out];exact hon)
       rw[HON.out] at this
       have hq:qn=rn:=this
       rw[hq,if_pos (by simp[intOf,hon])]
       omega
     · have:=choose_lt ops rn (by rw[HON.out];exact hon)
       rw[HON.out] at this
       have h2:qn=nextR rn:=this.1
       have h3:=this.2.2
       rw[h2,if_neg (by simpa [intOf] using hon)]
       omega
end Go.Proofs.YtaaggohjmhifbaaGreatDoor
