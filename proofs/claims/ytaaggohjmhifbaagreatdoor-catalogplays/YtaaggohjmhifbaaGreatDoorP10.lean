/- Packed for the hand-in: PMust PArgs -/
import Derived.Test.YtaaggohjmhifbaaGreatDoorP09
namespace Go.Proofs.YtaaggohjmhifbaaGreatDoor
open Go.RowKit Go.Shelf
set_option linter.unusedSimpArgs false
set_option linter.unusedVariables false
set_option maxRecDepth 20000
set_option maxHeartbeats 8000000
def StrsG (g:Nat) (w:World) (v:Value) (ts:List (List UInt8)):Prop :=
 ∃a c,v = .slice a ts.length c∧ts.length≤1000∧(ts≠[]→∃b,a=some ⟨b,0,none⟩∧g<b∧∀j t,ts[j]?=some t→w.cell? ⟨b,j,none⟩=some (.string (str8 t)))
theorem StrsG.keeps {g:Nat} {R:Nat→Prop} {w w':World} {v:Value} {ts:List (List UInt8)} (h:StrsG g w v ts) (hk:Spares R w w') (hR : ∀i,g<i→¬R i):StrsG g w' v ts:=by
 obtain⟨a,c,h1,h2,h3⟩:=h
 refine ⟨a,c,h1,h2,fun hne=>?_⟩
 obtain⟨b,ha,hb,hc⟩:=h3 hne
 exact⟨b,ha,hb,fun j t ht=>hk.cell (hc j t ht) (hR b hb)⟩
theorem musts_cons (t:List UInt8) (l:List (List UInt8)) (r:Rd):mustsP (t::l) r=mustsP l (if isR t r=true then nextR r else failR 4 r):=by
 show mustsP l (mustP t r).2=_
 unfold mustP ifP
 split<;>rfl
theorem must_any (F g:Nat) (r:Rd) (w:World) (h:RdAt F w g r) (v:Value) (ts:List (List UInt8)) (hv:StrsG g w v ts) :
  Calls Tryz.prog 111 #[.pointer (some ⟨g,0,none⟩),v] w fun e w'=>e = .returned (.tuple #[])∧RdAt F w' g (mustsP ts r).2∧Fr g w w':=by
 have HV:=hid hv
 have HH:=hid h
 obtain⟨a,c,rfl,hlen,_⟩:=hv
 obtain⟨X,hX⟩:∃X,(mustsP ts r).2=X:=⟨_,rfl⟩
 rw[hX]
 have HX:=hid hX
 clear hX h
 go_enter Tryz.func111,Tryz.ntmps111
 go_wp2_with fail
 go_loopw [5,8] (fun _ i wr=>∃(k:Nat) (q:Rd),k≤ts.length∧i = .int .i64 k∧RdAt F wr g q∧Fr g w wr∧Hid ((mustsP (ts.drop k) q).2=X)) (fun _ i _=>ts.length-(intOf i).toNat)
 case atStart=>exact⟨0,r,Nat.zero_le _,rfl,HH.out,Spares.refl _ _,hid (by rw[List.drop_zero];exact HX.out)⟩
 case round =>
  obtain⟨k,q,hk,rfl,hq,hf,HE⟩:=hrel
  by_cases hlt:k<ts.length
  ·obtain⟨t,ht⟩:∃t,ts[k]?=some t:=⟨_,List.getElem?_eq_getElem hlt⟩
   have hd:ts.drop k=t::ts.drop (k+1):=by
    obtain⟨h1,h2⟩:=List.getElem?_eq_some_iff.1 ht
    rw[List.drop_eq_getElem_cons h1,h2]
   have hlt':((k:Int)<(ts.length:Int)):=by omega
   obtain⟨a',c',hvv,_,h3⟩:=HV.out.keeps hf (fun i hi e=>by omega)
   simp only[Value.slice.injEq] at hvv
   obtain⟨rfl,_,rfl⟩:=hvv
   obtain⟨b,rfl,hgb,hcell⟩:=h3 (fun e=>by rw[e] at hlt;simp at hlt)
   have hc:=hcell k t ht
   clear hcell h3
   rw[hd,musts_cons] at HE
   have HQ:=hid hq
   have HF:=hid hf
   cases hi:isR t q with
   |
    true =>
    rw[if_pos hi] at HE
    have HS:=hid (skip_yes F g q wr hq t hi)
    clear hq hf hd ht hi
    go_wp2_with fail
    refine HS.out.mono ?_
    rintro e w1 ⟨rfl,hr1,hf1⟩
    have HR1:=hid hr1
    have HF1:=hid (HF.out.then hf1)
    clear hr1 hf1 HS
    go_wp2
    go_roundw
    case rel=>exact⟨k+1,nextR q,by omega,by go_num,HR1.out,HF1.out,HE⟩
    case measure=>simp[intOf];omega
   |
    false =>
    rw[if_neg (by rw[hi];exact Bool.false_ne_true)] at HE
    have HS:=hid (skip_no F g q wr hq t hi)
    clear hq hf hd ht hi
    go_wp2_with fail
    refine HS.out.mono ?_
    rintro e w1 ⟨rfl,hr1,hf1⟩
    have HR1:=hid (fail_any F g q w1 hr1 4 (by decide))
    have HF1:=hid (HF.out.then hf1)
    clear hr1 hf1 HS
    go_wp2_with fail
    refine HR1.out.mono ?_
    rintro e w2 ⟨rfl,hr2,hf2⟩
    have HR2:=hid hr2
    have HF2:=hid (HF1.out.then hf2)
    clear hr2 hf2 HR1
    go_wp2
    go_roundw
    case rel=>exact⟨k+1,failR 4 q,by omega,by go_num,HR2.out,HF2.out,HE⟩
    case measure=>simp[intOf];omega
  ·have hlt' : ¬((k:Int)<(ts.length:Int)):=by omega
   have HE2:Hid (q=X):=hid (by have:=HE.out;rw[List.drop_of_length_le (by omega)] at this;exact this)
   have HQ:=hid hq
   have HF:=hid hf
   clear HE hq hf
   go_wp2
   exact bodyPost_end (v:=.tuple #[]) (by simp[results,Tryz.results111,go_sem]) rfl ⟨rfl,by rw[← HE2.out];exact HQ.out,HF.out⟩
def ChsG (g:Nat) (w:World) (v:Value) (l:List (List UInt8 × Int)):Prop :=
 ∃a c,v = .slice a l.length c∧l.length≤1000∧(l≠[]→∃b,a=some ⟨b,0,none⟩∧g<b∧∀j t,l[j]?=some t→w.cell? ⟨b,j*2,none⟩=some (.string (str8 t.1))∧w.cell? ⟨b,j*2+1,none⟩=some (.int .i64 t.2))
theorem ChsG.keeps {g:Nat} {R:Nat→Prop} {w w':World} {v:Value} {l:List (List UInt8 × Int)} (h:ChsG g w v l) (hk:Spares R w w') (hR : ∀i,g<i→¬R i):ChsG g w' v l:=by
 obtain⟨a,c,h1,h2,h3⟩:=h
 refine ⟨a,c,h1,h2,fun hne=>?_⟩
 obtain⟨b,ha,hb,hc⟩:=h3 hne
 exact⟨b,ha,hb,fun j t ht=>⟨hk.cell (hc j t ht).1 (hR b hb),hk.cell (hc j t ht).2 (hR b hb)⟩⟩
theorem choose_cons (t:List UInt8 × Int) (l:List (List UInt8 × Int)) (r:Rd):chooseP (t::l) r=if isR t.1 r=true then (t.2,nextR r) else chooseP l r:=rfl
theorem choose_any (F g:Nat) (r:Rd) (w:World) (h:RdAt F w g r) (v:Value) (l:List (List UInt8 × Int)) (hv:ChsG g w v l) :
  Calls Tryz.prog 109 #[.pointer (some ⟨g,0,none⟩),v] w fun e w'=>e = .returned (.int .i64 (chooseP l r).1)∧RdAt F w' g (chooseP l r).2∧Fr g w w':=by
 have HV:=hid hv
 have HH:=hid h
 have hgw:=h.lt
 obtain⟨a,c,rfl,hlen,_⟩:=hv
 obtain⟨⟨X,Y⟩,hX⟩:∃X,chooseP l r=X:=⟨_,rfl⟩
 rw[hX]
 dsimp only
 have HX:=hid hX
 clear hX h
 go_enter Tryz.func109,Tryz.ntmps109
 go_wp2_with fail
 go_loopw [6,9] (fun _ i wr=>∃(k:Nat),k≤l.length∧i = .int .i64 k∧RdAt F wr g r∧Fr g w wr∧Hid (chooseP (l.drop k) r=(X,Y))) (fun _ i _=>l.length-(intOf i).toNat)
 case atStart=>exact⟨0,Nat.zero_le _,rfl,HH.out,Spares.refl _ _,hid (by rw[List.drop_zero];exact HX.out)⟩
 case round =>
  obtain⟨k,hk,rfl,hq,hf,HE⟩:=hrel
  by_cases hlt:k<l.length
  ·obtain⟨t,ht⟩:∃t,l[k]?=some t:=⟨_,List.getElem?_eq_getElem hlt⟩
   have hd:l.drop k=t::l.drop (k+1):=by
    obtain⟨h1,h2⟩:=List.getElem?_eq_some_iff.1 ht
    rw[List.drop_eq_getElem_cons h1,h2]
   have hlt':((k:Int)<(l.length:Int)):=by omega
   obtain⟨a',c',hvv,_,h3⟩:=HV.out.keeps hf (fun i hi e=>by omega)
   simp only[Value.slice.injEq] at hvv
   obtain⟨rfl,_,rfl⟩:=hvv
   obtain⟨b,rfl,hgb,hcell⟩:=h3 (fun e=>by rw[e] at hlt;simp at hlt)
   obtain⟨hc1,hc2⟩:=hcell k t ht
   clear hcell h3
   rw[hd,choose_cons] at HE
   obtain⟨t1,t2⟩:=t
   dsimp only at HE hc1 hc2
   obtain⟨W,hW,hbW,hzW,hcW⟩:=box8 wr (.cells #[.string (str8 t1),.int .i64 t2] 155)
   have kc:=cells2 hcW
   have HCW:=hid hcW
   have hgr:=hq.lt
   have HQ:=hid (hq.below hbW)
   have HF:=hid (hf.thenNew hbW)
   cases hi:isR t1 r with
   |
    true =>
    rw[if_pos hi] at HE
    have HS:=hid (skip_yes F g r W HQ.out t1 hi)
    clear hq hf hd ht hi hbW hcW
    go_wp2_with fail
    try rw[hW]
    clear hW
    refine HS.out.mono ?_
    rintro e w1 ⟨rfl,hr1,hf1⟩
    have kc2:=cells2 ((hf1.block wr.heap.size hzW (by omega)).trans HCW.out)
    have HR1:=hid hr1
    have HF1:=hid (HF.out.then hf1)
    clear hr1 hf1 HS kc
    go_wp2
    go_ret
    have:=HE.out
    simp only[Prod.mk.injEq] at this
    obtain⟨rfl,rfl⟩:=this
    exact⟨rfl,HR1.out,HF1.out⟩
   |
    false =>
    rw[if_neg (by rw[hi];exact Bool.false_ne_true)] at HE
    have HS:=hid (skip_no F g r W HQ.out t1 hi)
    clear hq hf hd ht hi hbW hcW
    go_wp2_with fail
    try rw[hW]
    clear hW
    refine HS.out.mono ?_
    rintro e w1 ⟨rfl,hr1,hf1⟩
    have HR1:=hid hr1
    have HF1:=hid (HF.out.then hf1)
    clear hr1 hf1 HS kc
    go_wp2
    go_roundw
    case rel=>exact⟨k+1,by omega,by go_num,HR1.out,HF1.out,HE⟩
    case measure=>simp[intOf];omega
  ·have hlt' : ¬((k:Int)<(l.length:Int)):=by omega
   have HE2:Hid ((0,r)=(X,Y)):=hid (by have:=HE.out;rw[List.drop_of_length_le (by omega)] at this;exact this)
   have HQ:=hid hq
   have HF:=hid hf
   clear HE hq hf
   go_wp2
   go_ret
   have:=HE2.out
   simp only[Prod.mk.injEq] at this
   obtain⟨rfl,rfl⟩:=this
   exact⟨rfl,HQ.out,HF.out⟩
theorem end_eq (r:Rd):(endP r).2=if (nowR r).k=6 then r else failR 4 r:=by unfold endP;split<;>rfl
theorem end_any (F g:Nat) (r:Rd) (w:World) (h:RdAt F w g r) :
  Calls Tryz.prog 67 #[.pointer (some ⟨g,0,none⟩)] w fun e w'=>e = .returned (.agg #[.int .i64 (endP r).2.bad,.int .i64 (endP r).2.bp])∧RdAt F w' g (endP r).2∧Fr g w w':=by
 rw[end_eq]
 have hgw:=h.lt
 obtain⟨W,hW,hbW,hzW,hcW⟩:=box8 w (.cells #[.int .i64 0,.int .i64 0] 69)
 have HH:=hid (h.below hbW)
 have HF:=hid (Spares.of_new (S:=fun k=>k=g) hbW)
 have HN:=hid (now_any F g r W HH.out)
 have hft:=fun w=>(field_tok (nowR r).k (nowR r).n (nowR r).p (str8 (nowR r).s) w).1
 have HCW:=hid hcW
 clear h hbW hcW
 by_cases hk:(nowR r).k=6
 ·rw[if_pos hk]
  have hk':((nowR r).k != 6)=false:=by rw[hk];rfl
  clear hk
  go_enter Tryz.func67,Tryz.ntmps67
  go_wp2_with fail
  try rw[hW]
  clear hW
  refine HN.out.mono ?_
  rintro e w1 ⟨rfl,hb1⟩
  obtain⟨v,hv,_⟩:=(HH.out.below hb1).lie
  have HR:=hid (HH.out.below hb1)
  have kg:=cells4 hv
  have hcb:=(hb1.block _ hzW).trans HCW.out
  have kc:=cells2 hcb
  have HF1:=hid (HF.out.thenNew hb1)
  have hz1:=hb1.size
  clear HN hb1
  go_wp2
  have e1:=setCell_eq_setRow w1 w.heap.size 0 _ _ _ (.int .i64 r.bad) hcb
  have e2:=setCell_eq_setRow _ w.heap.size 1 _ _ _ (.int .i64 r.bp) (setRow_heap w1 w.heap.size _ (#[Value.int .i64 0,.int .i64 0].setIfInBounds 0 (.int .i64 r.bad)) _ _ hcb)
  rw[e1,e2,setRow_setRow]
  have hnew:=setRow_heap w1 w.heap.size _ #[.int .i64 r.bad,.int .i64 r.bp] _ _ hcb
  refine bodyPost_ret (v:=.agg #[.int .i64 r.bad,.int .i64 r.bp]) ?_ rfl ⟨rfl,HR.out.keeps (R:=fun k=>k=w.heap.size) (Spares.setRow (S:=fun k=>k=w.heap.size) (Spares.refl _ w1) (p:=w.heap.size) (.inl rfl) _) (fun i hi e=>by omega),HF1.out.setRow (.inr (Nat.le_refl _)) _⟩
  have kn:=cells2 hnew
  simp[results,Tryz.results67,go_sem,kn]
 ·rw[if_neg hk]
  have hk':((nowR r).k != 6)=true:=by simpa using hk
  clear hk
  go_enter Tryz.func67,Tryz.ntmps67
  go_wp2_with fail
  try rw[hW]
  clear hW
  refine HN.out.mono ?_
  rintro e w0 ⟨rfl,hb0⟩
  have HX:=hid (fail_any F g r w0 (HH.out.below hb0) 4 (by decide))
  have HF0:=hid (HF.out.thenNew hb0)
  have HC0:=hid ((hb0.block _ hzW).trans HCW.out)
  have hz0:=hb0.size
  clear HN hb0
  go_wp2_with fail
  refine HX.out.mono ?_
  rintro e w1 ⟨rfl,hr1,hf1⟩
  obtain⟨v,hv,_⟩:=hr1.lie
  have HR:=hid hr1
  have kg:=cells4 hv
  have hcb:=(hf1.block w.heap.size (by omega) (by omega)).trans HC0.out
  have kc:=cells2 hcb
  have HF1:=hid (HF0.out.then hf1)
  have hz1:=hf1.size
  clear HX hr1 hf1
  go_wp2
  have e1:=setCell_eq_setRow w1 w.heap.size 0 _ _ _ (.int .i64 (failR 4 r).bad) hcb
  have e2:=setCell_eq_setRow _ w.heap.size 1 _ _ _ (.int .i64 (failR 4 r).bp) (setRow_heap w1 w.heap.size _ (#[Value.int .i64 0,.int .i64 0].setIfInBounds 0 (.int .i64 (failR 4 r).bad)) _ _ hcb)
  rw[e1,e2,setRow_setRow]
  have hnew:=setRow_heap w1 w.heap.size _ #[.int .i64 (failR 4 r).bad,.int .i64 (failR 4 r).bp] _ _ hcb
  refine bodyPost_ret (v:=.agg #[.int .i64 (failR 4 r).bad,.int .i64 (failR 4 r).bp]) ?_ rfl ⟨rfl,HR.out.keeps (R:=fun k=>k=w.heap.size) (Spares.setRow (S:=fun k=>k=w.heap.size) (Spares.refl _ w1) (p:=w.heap.size) (.inl rfl) _) (fun i hi e=>by omega),HF1.out.setRow (.inr (Nat.le_refl _)) _⟩
  have kn:=cells2 hnew
  simp[results,Tryz.results67,go_sem,kn]
inductive ArgsAt (S:Nat→Prop) (w:World):List Ex→Value→Prop
 | nil (a:Option Addr) (c:Nat) (hc:c≤maxLen):ArgsAt S w [] (.slice a 0 c)
 | cons (xs:List Ex) (b off c:Nat) (avs:Nat→Value) (hne:xs≠[]) (hS:S b) (hl:xs.length≤c) (hc:c≤maxLen)
  (hcell : ∀(j:Nat) (k op:Int) (tb nm:List UInt8) (vk vn:Int) (vs:List UInt8) (ys:List Ex),xs[j]?=some (.mk k op tb nm ⟨vk,vn,vs⟩ ys) →
   w.cell? ⟨b,off+j*8,none⟩=some (.int .i64 k)∧w.cell? ⟨b,off+j*8+1,none⟩=some (.int .i64 op)∧w.cell? ⟨b,off+j*8+2,none⟩=some (.string (str8 tb))∧w.cell? ⟨b,off+j*8+3,none⟩=some (.string (str8 nm)) ∧
   w.cell? ⟨b,off+j*8+4,none⟩=some (.int .i64 vk)∧w.cell? ⟨b,off+j*8+5,none⟩=some (.int .i64 vn)∧w.cell? ⟨b,off+j*8+6,none⟩=some (.string (str8 vs))∧w.cell? ⟨b,off+j*8+7,none⟩=some (avs j))
  (hrec : ∀(j:Nat) (k op:Int) (tb nm:List UInt8) (vk vn:Int) (vs:List UInt8) (ys:List Ex),xs[j]?=some (.mk k op tb nm ⟨vk,vn,vs⟩ ys)→ArgsAt S w ys (avs j)) :
  ArgsAt S w xs (.slice (some ⟨b,off,none⟩) xs.length c)
theorem ArgsAt.to {S R T:Nat→Prop} {w w':World} {xs:List Ex} {v:Value} (h:ArgsAt S w xs v) (hk:Spares R w w') (hS : ∀b,S b→b<w.heap.size→¬R b∧T b):ArgsAt T w' xs v:=by
 induction h with
 | nil a c hc=>exact .nil a c hc
 |
  cons xs b off c avs hne hSb hl hc hcell hrec ih =>
  have hb:b<w.heap.size:=by
   cases xs with
   | nil=>exact absurd rfl hne
   |
    cons x l =>
    obtain⟨k,op,tb,nm,⟨vk,vn,vs⟩,ys⟩:=x
    exact World.block_lt_of_cell? w _ (hcell 0 k op tb nm vk vn vs ys rfl).1
  obtain⟨h1,h2⟩:=hS b hSb hb
  refine .cons xs b off c avs hne h2 hl hc (fun j k op tb nm vk vn vs ys hj=>?_) ih
  obtain⟨c0,c1,c2,c3,c4,c5,c6,c7⟩:=hcell j k op tb nm vk vn vs ys hj
  exact⟨hk.cell c0 h1,hk.cell c1 h1,hk.cell c2 h1,hk.cell c3 h1,hk.cell c4 h1,hk.cell c5 h1,hk.cell c6 h1,hk.cell c7 h1⟩
theorem ArgsAt.form {S:Nat→Prop} {w:World} {xs:List Ex} {v:Value} (h:ArgsAt S w xs v):∃a c,v = .slice a xs.length c∧c≤maxLen:=by
 cases h with
 | nil a c hc=>exact⟨a,c,rfl,hc⟩
 | cons xs b off c avs hne hS hl hc hcell hrec=>exact⟨_,c,rfl,hc⟩
def ExV (S:Nat→Prop) (w:World) (x:Ex) (v:Value):Prop :=
 ∃(k op:Int) (tb nm:List UInt8) (vk vn:Int) (vs:List UInt8) (ys:List Ex) (aa:Option Addr) (nn cc:Nat),x = .mk k op tb nm ⟨vk,vn,vs⟩ ys∧v = .agg #[.int .i64 k,.int .i64 op,.string (str8 tb),.string (str8 nm),.int .i64 vk,.int .i64 vn,.string (str8 vs),.slice aa nn cc]∧ArgsAt S w ys (.slice aa nn cc)
theorem ExV.to {S R T:Nat→Prop} {w w':World} {x:Ex} {v:Value} (h:ExV S w x v) (hk:Spares R w w') (hS : ∀b,S b→b<w.heap.size→¬R b∧T b):ExV T w' x v:=by
 obtain⟨k,op,tb,nm,vk,vn,vs,ys,aa,nn,cc,h1,h2,h3⟩:=h
 exact⟨k,op,tb,nm,vk,vn,vs,ys,aa,nn,cc,h1,h2,h3.to hk hS⟩
theorem cells8 {w:World} {g:Nat} {a b c d e f i j:Value} {t:TypeId} {fr:Nat × Nat} (h:w.heap[g]?=some (.cells #[a,b,c,d,e,f,i,j] t fr)) :
  w.cell? ⟨g,0,none⟩=some a∧w.cell? ⟨g,1,none⟩=some b∧w.cell? ⟨g,2,none⟩=some c∧w.cell? ⟨g,3,none⟩=some d∧w.cell? ⟨g,4,none⟩=some e∧w.cell? ⟨g,5,none⟩=some f∧w.cell? ⟨g,6,none⟩=some i∧w.cell? ⟨g,7,none⟩=some j :=
 ⟨by rw[cell_row _ _ _ _ _ _ h];rfl,by rw[cell_row _ _ _ _ _ _ h];rfl,by rw[cell_row _ _ _ _ _ _ h];rfl,by rw[cell_row _ _ _ _ _ _ h];rfl,by rw[cell_row _ _ _ _ _ _ h];rfl,by rw[cell_row _ _ _ _ _ _ h];rfl,by rw[cell_row _ _ _ _ _ _ h];rfl,by rw[cell_row _ _ _ _ _ _ h];rfl⟩
theorem args_one {S:Nat→Prop} {w:World} {b:Nat} {k op:Int} {tb nm:List UInt8} {vk vn:Int} {vs:List UInt8} {ys:List Ex} {av:Value} {t:TypeId} (hS:S b)
  (hb:w.heap[b]?=some (.cells #[.int .i64 k,.int .i64 op,.string (str8 tb),.string (str8 nm),.int .i64 vk,.int .i64 vn,.string (str8 vs),av] t)) (ha:ArgsAt S w ys av) :
  ArgsAt S w [.mk k op tb nm ⟨vk,vn,vs⟩ ys] (.slice (some ⟨b,0,none⟩) 1 1):=by
 refine ArgsAt.cons (S:=S) (w:=w) [.mk k op tb nm ⟨vk,vn,vs⟩ ys] b 0 1 (fun _=>av) (by simp) hS (by simp) (by unfold maxLen;omega) ?_ ?_
 ·intro j k' op' tb' nm' vk' vn' vs' ys' hj
  match j,hj with
  |
   0,hj =>
   simp only[List.getElem?_cons_zero,Option.some.injEq,Ex.mk.injEq,Vl.mk.injEq] at hj
   obtain⟨rfl,rfl,rfl,rfl,⟨rfl,rfl,rfl⟩,rfl⟩:=hj
   simpa using cells8 hb
 ·intro j k' op' tb' nm' vk' vn' vs' ys' hj
  match j,hj with
  |
   0,hj =>
   simp only[List.getElem?_cons_zero,Option.some.injEq,Ex.mk.injEq,Vl.mk.injEq] at hj
   obtain⟨rfl,rfl,rfl,rfl,⟨rfl,rfl,rfl⟩,rfl⟩:=hj
   exact ha
theorem args_two {S:Nat→Prop} {w:World} {b:Nat} {k op:Int} {tb nm:List UInt8} {vk vn:Int} {vs:List UInt8} {ys:List Ex} {av:Value} {k2 op2:Int} {tb2 nm2:List UInt8} {vk2 vn2:Int} {vs2:List UInt8} {ys2:List Ex} {av2:Value} {t:TypeId} (hS:S b)
  (hb:w.heap[b]?=some (.cells #[.int .i64 k,.int .i64 op,.string (str8 tb),.string (str8 nm),.int .i64 vk,.int .i64 vn,.string (str8 vs),av,.int .i64 k2,.int .i64 op2,.string (str8 tb2),.string (str8 nm2),.int .i64 vk2,.int .i64 vn2,.string (str8 vs2),av2] t)) (ha:ArgsAt S w ys av) (ha2:ArgsAt S w ys2 av2) :
  ArgsAt S w [.mk k op tb nm ⟨vk,vn,vs⟩ ys,.mk k2 op2 tb2 nm2 ⟨vk2,vn2,vs2⟩ ys2] (.slice (some ⟨b,0,none⟩) 2 2):=by
 refine ArgsAt.cons (S:=S) (w:=w) [.mk k op tb nm ⟨vk,vn,vs⟩ ys,.mk k2 op2 tb2 nm2 ⟨vk2,vn2,vs2⟩ ys2] b 0 2 (fun j=>if j=0 then av else av2) (by simp) hS (by simp) (by unfold maxLen;omega) ?_ ?_
 ·intro j k' op' tb' nm' vk' vn' vs' ys' hj
  have cl:=fun i=>cell_of_row w b i _ _ _ hb
  match j,hj with
  |
   0,hj =>
   simp only[List.getElem?_cons_zero,Option.some.injEq,Ex.mk.injEq,Vl.mk.injEq] at hj
   obtain⟨rfl,rfl,rfl,rfl,⟨rfl,rfl,rfl⟩,rfl⟩:=hj
   simp[cl]
  |
   1,hj =>
   simp only[List.getElem?_cons_succ,List.getElem?_cons_zero,Option.some.injEq,Ex.mk.injEq,Vl.mk.injEq] at hj
   obtain⟨rfl,rfl,rfl,rfl,⟨rfl,rfl,rfl⟩,rfl⟩:=hj
   simp[cl]
 ·intro j k' op' tb' nm' vk' vn' vs' ys' hj
  match j,hj with
  |
   0,hj =>
   simp only[List.getElem?_cons_zero,Option.some.injEq,Ex.mk.injEq,Vl.mk.injEq] at hj
   obtain⟨rfl,rfl,rfl,rfl,⟨rfl,rfl,rfl⟩,rfl⟩:=hj
   exact ha
  |
   1,hj =>
   simp only[List.getElem?_cons_succ,List.getElem?_cons_zero,Option.some.injEq,Ex.mk.injEq,Vl.mk.injEq] at hj
   obtain⟨rfl,rfl,rfl,rfl,⟨rfl,rfl,rfl⟩,rfl⟩:=hj
   exact ha2
theorem three (w:World) (A B C:Obj):∃W,((w.alloc A).alloc B).alloc C=W∧Below w.heap.size w W∧W.heap[w.heap.size+1]?=some B∧W.heap[w.heap.size+1+1]?=some C:=by
 refine ⟨_,rfl,(((Below.refl _ w).alloc (Nat.le_refl _) A).alloc (by simp) B).alloc (by simp;omega) C,?_,?_⟩
 ·rw[Below.heap_alloc _ _ _ (by simp)]
  exact heap_alloc2_new w A B
 ·have h:=heap_alloc_new ((w.alloc A).alloc B) C
  have e:((w.alloc A).alloc B).heap.size=w.heap.size+1+1:=by simp
  rw[e] at h
  exact h
theorem of_any (S:Nat→Prop) (kind:Int) (x:Ex) (v:Value) (w:World) (hS : ∀b,w.heap.size≤b→S b) (h:ExV S w x v) :
  Calls Tryz.prog 262 #[.int .i64 kind,v] w fun e w'=>∃u,e = .returned u∧ExV S w' (exOf kind x) u∧Below w.heap.size w w':=by
 obtain⟨k,op,tb,nm,vk,vn,vs,ys,aa,nn,cc,rfl,rfl,ha⟩:=h
 have HA:=hid ha
 clear ha
 go_enter Tryz.func262,Tryz.ntmps262
 go_wp2
 obtain⟨W,hW,hbW,hcW⟩:=three w (.cells #[.int .i64 k,.int .i64 op,.string (str8 tb),.string (str8 nm),.int .i64 vk,.int .i64 vn,.string (str8 vs),.slice aa nn cc] 130) (.cells #[.int .i64 kind,.int .i64 0,.string ⟨#[]⟩,.string ⟨#[]⟩,.int .i64 0,.int .i64 0,.string ⟨#[]⟩,.slice (some ⟨w.heap.size+1+1,0,none⟩) 1 1] 130) (.cells #[.int .i64 k,.int .i64 op,.string (str8 tb),.string (str8 nm),.int .i64 vk,.int .i64 vn,.string (str8 vs),.slice aa nn cc] 130)
 rw[hW]
 clear hW
 have kc:=cells8 hcW.1
 refine bodyPost_ret (v:=.agg #[.int .i64 kind,.int .i64 0,.string ⟨#[]⟩,.string ⟨#[]⟩,.int .i64 0,.int .i64 0,.string ⟨#[]⟩,.slice (some ⟨w.heap.size+1+1,0,none⟩) 1 1]) (by simp[results,Tryz.results262,go_sem,kc]) rfl ⟨_,rfl,?_,hbW⟩
 refine ⟨kind,0,[],[],0,0,[],_,_,_,_,rfl,rfl,args_one (hS _ (by omega)) hcW.2 (HA.out.to (R:=fun _=>False) (Spares.of_new hbW) (fun b hb _=>⟨id,hb⟩))⟩
def RdsE (F:Nat) (C:Rd→Prop) (f:Nat) (p:Pa Ex):Prop :=
 ∀(g:Nat) (r:Rd) (w:World),RdAt F w g r→C r→Calls Tryz.prog f #[.pointer (some ⟨g,0,none⟩)] w fun e w'=>∃u,e = .returned u∧ExV (fun b=>w.heap.size≤b) w' (p r).1 u∧RdAt F w' g (p r).2∧Fr g w w'
theorem cells8f {w:World} {g:Nat} {a b c d e f i j:Value} {t:TypeId} (h:w.heap[g]?=some (.cells #[a,b,c,d,e,f,i,j] t)):(∀i,w.frozen? ⟨g,i,none⟩=false) ∧
  w.cell? ⟨g,0,none⟩=some a∧w.cell? ⟨g,1,none⟩=some b∧w.cell? ⟨g,2,none⟩=some c∧w.cell? ⟨g,3,none⟩=some d∧w.cell? ⟨g,4,none⟩=some e∧w.cell? ⟨g,5,none⟩=some f∧w.cell? ⟨g,6,none⟩=some i∧w.cell? ⟨g,7,none⟩=some j :=
 ⟨fun i=>by simp[World.frozen?,h],cells8 h⟩
end Go.Proofs.YtaaggohjmhifbaaGreatDoor
