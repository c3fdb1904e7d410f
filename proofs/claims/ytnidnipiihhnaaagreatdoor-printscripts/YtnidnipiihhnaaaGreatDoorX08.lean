/- Packed for the hand-in: WLev WExpr -/
import Derived.Test.YtnidnipiihhnaaaGreatDoorX07
namespace Go.Proofs.YtnidnipiihhnaaaGreatDoor
open Go.RowKit Go.Shelf
set_option linter.unusedSimpArgs false
set_option linter.unusedVariables false
set_option maxRecDepth 20000
set_option maxHeartbeats 8000000
def Cells8 (w:World) (b off:Nat) (k op:Int) (tb nm:List UInt8) (vk vn:Int) (vs:List UInt8) (a:Value):Prop :=
 w.cell? ⟨b,off,none⟩=some (.int .i64 k)∧w.cell? ⟨b,off+1,none⟩=some (.int .i64 op)∧w.cell? ⟨b,off+2,none⟩=some (.string (str8 tb))∧w.cell? ⟨b,off+3,none⟩=some (.string (str8 nm)) ∧
  w.cell? ⟨b,off+4,none⟩=some (.int .i64 vk)∧w.cell? ⟨b,off+5,none⟩=some (.int .i64 vn)∧w.cell? ⟨b,off+6,none⟩=some (.string (str8 vs))∧w.cell? ⟨b,off+7,none⟩=some a
theorem Cells8.on {w w':World} {b off:Nat} {k op:Int} {tb nm:List UInt8} {vk vn:Int} {vs:List UInt8} {a:Value} (h:Cells8 w b off k op tb nm vk vn vs a) {R:Nat→Prop} (hk:Spares R w w') (hb : ¬R b):Cells8 w' b off k op tb nm vk vn vs a:=by
 obtain⟨c0,c1,c2,c3,c4,c5,c6,c7⟩:=h
 exact⟨hk.cell c0 hb,hk.cell c1 hb,hk.cell c2 hb,hk.cell c3 hb,hk.cell c4 hb,hk.cell c5 hb,hk.cell c6 hb,hk.cell c7 hb⟩
theorem Cells8.lt {w:World} {b off:Nat} {k op:Int} {tb nm:List UInt8} {vk vn:Int} {vs:List UInt8} {a:Value} (h:Cells8 w b off k op tb nm vk vn vs a):b<w.heap.size:=World.block_lt_of_cell? w _ h.1
theorem Cells8.new {w w':World} {b off:Nat} {k op:Int} {tb nm:List UInt8} {vk vn:Int} {vs:List UInt8} {a:Value} (h:Cells8 w b off k op tb nm vk vn vs a) (hb:Below w.heap.size w w'):Cells8 w' b off k op tb nm vk vn vs a:=h.on (Spares.of_new (S:=fun _=>False) hb) id
theorem args_get {S:Nat→Prop} {w:World} {xs:List Ex} {aa:Option Addr} {nn cc:Nat} (h:ArgsAt S w xs (.slice aa nn cc)) {j:Nat} {x:Ex} (hx:xs[j]?=some x) :
  nn=xs.length∧nn≤cc∧cc≤maxLen∧∃(b off:Nat) (k op:Int) (tb nm:List UInt8) (vk vn:Int) (vs:List UInt8) (ys:List Ex) (a1:Option Addr) (n1 c1:Nat),x = .mk k op tb nm ⟨vk,vn,vs⟩ ys∧aa=some ⟨b,off,none⟩∧S b∧Cells8 w b (off+j*8) k op tb nm vk vn vs (.slice a1 n1 c1)∧ArgsAt S w ys (.slice a1 n1 c1):=by
 cases h with
 | nil a c hc=>simp at hx
 |
  cons xs b off c avs hne hS hl hc hcell hrec =>
  obtain⟨k,op,tb,nm,⟨vk,vn,vs⟩,ys⟩:=x
  obtain⟨a1,c1,e,_⟩:=(hrec j k op tb nm vk vn vs ys hx).form
  refine ⟨rfl,hl,hc,b,off,k,op,tb,nm,vk,vn,vs,ys,a1,ys.length,c1,rfl,rfl,hS,?_,e ▸ hrec j k op tb nm vk vn vs ys hx⟩
  have:=hcell j k op tb nm vk vn vs ys hx
  rw[e] at this
  exact this
theorem args_get0 {S:Nat→Prop} {w:World} {x:Ex} {l:List Ex} {aa:Option Addr} {nn cc:Nat} (h:ArgsAt S w (x::l) (.slice aa nn cc)) :
  nn=l.length+1∧nn≤cc∧cc≤maxLen∧∃(b off:Nat) (k op:Int) (tb nm:List UInt8) (vk vn:Int) (vs:List UInt8) (ys:List Ex) (a1:Option Addr) (n1 c1:Nat),x = .mk k op tb nm ⟨vk,vn,vs⟩ ys∧aa=some ⟨b,off,none⟩∧S b∧Cells8 w b off k op tb nm vk vn vs (.slice a1 n1 c1)∧ArgsAt S w ys (.slice a1 n1 c1):=by
 obtain⟨h1,h2,h3,b,off,k,op,tb,nm,vk,vn,vs,ys,a1,n1,c1,h4,h5,h6,h7,h8⟩:=args_get h (j:=0) (x:=x) rfl
 rw[Nat.zero_mul,Nat.add_zero] at h7
 exact⟨h1,h2,h3,b,off,k,op,tb,nm,vk,vn,vs,ys,a1,n1,c1,h4,h5,h6,h7,h8⟩
theorem kind_isNul (a:Tm) (h:a.isNul=false):exKind a.ex≠6:=by
 cases a<;>first | (cases h;done) | (simp[exKind,Tm.ex,exVal,exCol,exOp,exOf])
theorem isNotNull_any (S:Nat→Prop) (x:Ex) (tb nm:List UInt8) (vk vn:Int) (vs:List UInt8) (op:Int) (aa:Option Addr) (nn cc:Nat) (w:World) (ha:ArgsAt S w [x] (.slice aa nn cc)) :
  Calls Tryz.prog 114 #[.agg #[.int .i64 4,.int .i64 op,.string (str8 tb),.string (str8 nm),.int .i64 vk,.int .i64 vn,.string (str8 vs),.slice aa nn cc]] w fun e w'=>e = .returned (.bool (exKind x==6))∧Below w.heap.size w w':=by
 obtain⟨W,hW,hbW,hzW,hcW⟩:=box8 w (.cells #[.int .i64 4,.int .i64 op,.string (str8 tb),.string (str8 nm),.int .i64 vk,.int .i64 vn,.string (str8 vs),.slice aa nn cc] 26)
 have k0:=cells8 hcW
 obtain⟨h1,h2,h3,b,off,k1,op1,tb1,nm1,vk1,vn1,vs1,ys1,a1,n1,c1,rfl,rfl,_,h7,_⟩:=args_get0 (ha.new hbW)
 unfold Cells8 at h7
 rw[List.length_nil,Nat.zero_add] at h1
 subst h1
 unfold maxLen at h3
 show Calls Tryz.prog 114 _ _ fun e w'=>e = .returned (.bool (k1==6))∧_
 have HB:=hid hbW
 clear hbW hcW ha
 go_enter Tryz.func114,Tryz.ntmps114
 go_wp2
 go_ret
 exact⟨rfl,HB.out⟩
theorem op_cell {w:World} (h:OpsAt w) {o:Int} (h1:1≤o) (h2:o≤13):∃n:Nat,o=(n:Int)∧n≤13∧w.cell? ⟨0,n*2,none⟩=some (.string (str8 (opTx o)))∧w.cell? ⟨0,n*2+1,none⟩=some (.int .i64 (opLv o)) :=
 ⟨o.toNat,by omega,by omega,by have:=h o.toNat (by omega);rw[show ((o.toNat:Nat):Int)=o by omega] at this;exact this⟩
theorem level_any (S:Nat→Prop) (t:Tm) (hok:t.ok) (v:Value) (w:World) (hO:TabW w) (hx:ExV S w t.ex v) :
  Calls Tryz.prog 161 #[v] w fun e w'=>e = .returned (.int .i64 (t.lv:Int))∧Below w.heap.size w w':=by
 obtain⟨k,op,tb,nm,vk,vn,vs,ys,aa,nn,cc,he,rfl,ha⟩:=hx
 obtain⟨W,hW,hbW,hzW,hcW⟩:=box8 w (.cells #[.int .i64 k,.int .i64 op,.string (str8 tb),.string (str8 nm),.int .i64 vk,.int .i64 vn,.string (str8 vs),.slice aa nn cc] 26)
 have k0:=cells8 hcW
 have HB:=hid hbW
 have hOW:=(hO.on hbW).ops
 cases t with
 |
  val x =>
  simp only[Tm.ex,exVal,Ex.mk.injEq] at he
  obtain⟨rfl,-⟩:=he
  clear hcW hbW ha hO hOW
  go_enter Tryz.func161,Tryz.ntmps161
  go_wp2
  go_ret
  exact⟨rfl,HB.out.alloc HB.out.size _⟩
 |
  col x y =>
  simp only[Tm.ex,exCol,Ex.mk.injEq] at he
  obtain⟨rfl,-⟩:=he
  clear hcW hbW ha hO hOW
  go_enter Tryz.func161,Tryz.ntmps161
  go_wp2
  go_ret
  exact⟨rfl,HB.out.alloc HB.out.size _⟩
 |
  op o a b =>
  simp only[Tm.ex,exOp,Ex.mk.injEq] at he
  obtain⟨rfl,rfl,-⟩:=he
  obtain⟨n,hn,hn13,_,hc⟩:=op_cell hOW hok.1 hok.2.1
  show Calls Tryz.prog 161 _ _ fun e w'=>e = .returned (.int .i64 (opLv o:Int))∧_
  generalize opLv o=lv at hc ⊢
  have h1:=hok.1
  subst hn
  have hn14:((n:Int)<14):=by omega
  clear hcW hbW ha hO hOW hok
  go_enter Tryz.func161,Tryz.ntmps161
  go_wp2
  go_ret
  exact⟨rfl,HB.out⟩
 |
  not a =>
  simp only[Tm.ex,exOf,Ex.mk.injEq] at he
  obtain⟨rfl,rfl,rfl,rfl,hv,rfl⟩:=he
  have HN:=hid (isNotNull_any S a.ex [] [] vk vn vs 0 aa nn cc W (ha.new hbW))
  have h6:(exKind a.ex==6)=false:=by have:=kind_isNul a hok.1;simpa using this
  rw[h6] at HN
  clear hcW hbW ha hO hOW hok hv h6
  go_enter Tryz.func161,Tryz.ntmps161
  go_wp2_with fail
  refine HN.out.mono ?_
  rintro e w1 ⟨rfl,hb1⟩
  have k1:=cells8 ((hb1.block w.heap.size hzW).trans (by rw[← hW];exact heap_alloc_new _ _))
  have HB1:=hid (HB.out.trans (hb1.mono (Nat.le_of_lt hzW)))
  clear hb1 HN
  go_wp2
  go_ret
  exact⟨rfl,HB1.out⟩
 |
  neg a =>
  simp only[Tm.ex,exOf,Ex.mk.injEq] at he
  obtain⟨rfl,-⟩:=he
  clear hcW hbW ha hO hOW
  go_enter Tryz.func161,Tryz.ntmps161
  go_wp2
  go_ret
  exact⟨rfl,HB.out.alloc HB.out.size _⟩
 |
  nul a =>
  simp only[Tm.ex,exOf,Ex.mk.injEq] at he
  obtain⟨rfl,-⟩:=he
  clear hcW hbW ha hO hOW
  go_enter Tryz.func161,Tryz.ntmps161
  go_wp2
  go_ret
  exact⟨rfl,HB.out⟩
 |
  nnul a =>
  simp only[Tm.ex,exOf,Ex.mk.injEq] at he
  obtain⟨rfl,rfl,rfl,rfl,hv,rfl⟩:=he
  have HN:Hid (Calls Tryz.prog 114 #[.agg #[.int .i64 4,.int .i64 0,.string (str8 []),.string (str8 []),.int .i64 vk,.int .i64 vn,.string (str8 vs),.slice aa nn cc]] W fun e w'=>e = .returned (.bool true)∧Below W.heap.size W w'):=hid (isNotNull_any S _ [] [] vk vn vs 0 aa nn cc W (ha.new hbW))
  clear hcW hbW ha hO hOW hok hv
  go_enter Tryz.func161,Tryz.ntmps161
  go_wp2_with fail
  refine HN.out.mono ?_
  rintro e w1 ⟨rfl,hb1⟩
  have HB1:=hid (HB.out.trans (hb1.mono (Nat.le_of_lt hzW)))
  clear hb1 HN
  go_wp2
  go_ret
  exact⟨rfl,HB1.out⟩
theorem literal_w (g:Nat) (tb:Option Nat) (L:List Tk) (d m:Int) (w:World) (h:WrAt w g tb L d m) (v:Vl) (hv:valOk v=true) (hL:L.length+(litK v).length≤1000000000) :
  Calls Tryz.prog 48 #[.pointer (some ⟨g,0,none⟩),.agg #[.int .i64 v.k,.int .i64 v.n,.string (str8 v.s)]] w fun e w'=>e = .returned (.tuple #[])∧Wrote g tb w w' (L++litK v) d m:=by
 obtain⟨vk,vn,vs⟩:=v
 dsimp only
 have hl2:=litK_len ⟨vk,vn,vs⟩
 obtain⟨W,hW,hbW,hzW,hcW⟩:=box8 w (.cells #[.int .i64 vk,.int .i64 vn,.string (str8 vs)] 23)
 have k0:=cells3W hcW
 have HW:=hid (h.below hbW)
 have HWD:=hid (h.below hbW.drew)
 have HB:=hid hbW
 have HBD:=hid hbW.drew
 have HC:=hid hcW
 rcases val_kind hv with⟨h1,h2,h3⟩ | ⟨h1,h2,h3⟩ | ⟨h1,h2,h3⟩
 ·dsimp only at h1;subst h1
  have HT:=hid (text_w g tb L d m W.drew HWD.out vs (by omega))
  clear hbW hcW h hv h2 h3 HC
  go_enter Tryz.func48,Tryz.ntmps48
  go_wp2_with fail
  go_region_with (first
   | (
     go_at_call 111;refine HT.out.mono ?_
     rintro e w1 ⟨rfl,h1⟩)
   | fail)
  all_goals go_wp2
  all_goals exact bodyPost_end (v:=.tuple #[]) (by simp[results,Tryz.results48,go_sem]) rfl ⟨rfl,h1.new HBD.out⟩
 ·dsimp only at h1;subst h1
  have HT:Hid (Calls Tryz.prog 68 #[.pointer (some ⟨g,0,none⟩),.slice (some ⟨W.heap.size,0,none⟩) 1 1] (W.alloc (.cells #[.string ⟨#[78,85,76,76]⟩] 9)) fun e w'=>e = .returned (.tuple #[])∧Wrote g tb W w' (L++wordsK [[78,85,76,76]]) d m):=hid (fixed_new g tb L d m [[78,85,76,76]] W HW.out (by decide) (by decide) (by simp;omega))
  clear hbW hcW h hv h2 h3 HC
  go_enter Tryz.func48,Tryz.ntmps48
  go_wp2_with fail
  refine HT.out.mono ?_
  rintro e w1 ⟨rfl,h1⟩
  go_wp2
  exact bodyPost_end (v:=.tuple #[]) (by simp[results,Tryz.results48,go_sem]) rfl ⟨rfl,h1.new HB.out⟩
 ·dsimp only at h1 h3;subst h1
  have e:litK ⟨1,vn,vs⟩=if vn<0 then [fxT [45],nuT (-vn)] else [nuT vn]:=rfl
  rw[e] at hL hl2 ⊢
  by_cases hn:vn<0
  ·rw[if_pos hn] at hL hl2 ⊢
   have hL:L.length+2≤1000000000:=hL
   have HT:Hid (Calls Tryz.prog 68 #[.pointer (some ⟨g,0,none⟩),.slice (some ⟨W.heap.size,0,none⟩) 1 1] (W.alloc (.cells #[.string ⟨#[45]⟩] 9)) fun e w'=>e = .returned (.tuple #[])∧Wrote g tb W w' (L++wordsK [[45]]) d m):=hid (fixed_new g tb L d m [[45]] W HW.out (by decide) (by decide) (by simp;omega))
   have HBX:=hid (BoxW.mk' h hcW (Nat.le_refl _))
   have hneg:IntKind.i64.wrap (-vn) = -vn:=by rw[IntKind.wrap_i64];omega
   clear hbW hcW h hv h2 HC h3
   go_enter Tryz.func48,Tryz.ntmps48
   go_wp2_with fail
   refine HT.out.mono ?_
   rintro e w1 ⟨rfl,h1⟩
   obtain⟨tb1,hw1,ht1,hf1⟩:=h1
   have hbx:=(HBX.out.on ht1 hf1).at'
   have k1:=cells3W hbx
   have HN:=hid (number_w g tb1 _ d m w1.drew (hw1.below (Below.refl _ w1).drew) (-vn) (by simp[wordsK];omega))
   have HT1:=hid ht1
   have HF1:=hid hf1
   clear hw1 ht1 hf1 HT hbx
   go_wp2_with fail
   go_region_with (first
    | (
      go_at_call 112;refine HN.out.mono ?_
      rintro e w2 ⟨rfl,h2⟩)
    | fail)
   all_goals go_wp2
   all_goals exact bodyPost_end (v:=.tuple #[]) (by simp[results,Tryz.results48,go_sem]) rfl ⟨rfl,by
    have:=Wrote.new HB.out (Wrote.then HT1.out HF1.out (h2.new (Below.refl _ w1).drew))
    simpa [wordsK] using this⟩
  ·rw[if_neg hn] at hL hl2 ⊢
   have HN:=hid (number_w g tb L d m W.drew HWD.out vn (by omega))
   clear hbW hcW h hv h2 HC
   go_enter Tryz.func48,Tryz.ntmps48
   go_wp2_with fail
   go_region_with (first
    | (
      go_at_call 112;refine HN.out.mono ?_
      rintro e w1 ⟨rfl,h1⟩)
    | fail)
   all_goals go_wp2
   all_goals exact bodyPost_end (v:=.tuple #[]) (by simp[results,Tryz.results48,go_sem]) rfl ⟨rfl,h1.new HBD.out⟩
def WrE (f:Nat) (args:Value→Nat→Array Value) (t:Tm) (T:List Tk) (D:Nat):Prop :=
 ∀
  (g:Nat) (tb:Option Nat) (L:List Tk) (d m:Int) (w:World) (v:Value),WrAt w g tb L d m→ExV (fun b=>b<g) w t.ex v→L.length+T.length≤1000000000→0≤d→d≤m→d+D≤1000000000→m≤1000000000 →
  Calls Tryz.prog f (args v g) w fun e w'=>e = .returned (.tuple #[])∧Wrote g tb w w' (L++T) d (max m (d+D))
theorem WrAt.setD {w:World} {g:Nat} {tb:Option Nat} {L:List Tk} {d m:Int} (h:WrAt w g tb L d m) (d':Int):∃V,w.setCell ⟨g,1,none⟩ (.int .i64 d')=V∧WrAt V g tb L d' m∧FrW g tb w V:=by
 obtain⟨v,hv,ho,hb⟩:=h.lie
 have hf:FrW g tb w (w.setCell ⟨g,1,none⟩ (.int .i64 d')):=Spares.setCell (Spares.refl _ _) (.inl (.inl rfl)) _
 refine ⟨_,rfl,⟨⟨v,?_,ownsRow_setCell_below ho (Nat.lt_succ_self g) _,hb⟩,h.tab.below (h.frBelow hf) h.big,h.big⟩,hf⟩
 rw[setCell_eq_setRow w g 1 _ _ _ _ hv,setRow_heap w g _ _ _ _ hv]
 rfl
theorem WrAt.setM {w:World} {g:Nat} {tb:Option Nat} {L:List Tk} {d m:Int} (h:WrAt w g tb L d m) (m':Int):∃V,w.setCell ⟨g,2,none⟩ (.int .i64 m')=V∧WrAt V g tb L d m'∧FrW g tb w V:=by
 obtain⟨v,hv,ho,hb⟩:=h.lie
 have hf:FrW g tb w (w.setCell ⟨g,2,none⟩ (.int .i64 m')):=Spares.setCell (Spares.refl _ _) (.inl (.inl rfl)) _
 refine ⟨_,rfl,⟨⟨v,?_,ownsRow_setCell_below ho (Nat.lt_succ_self g) _,hb⟩,h.tab.below (h.frBelow hf) h.big,h.big⟩,hf⟩
 rw[setCell_eq_setRow w g 2 _ _ _ _ hv,setRow_heap w g _ _ _ _ hv]
 rfl
theorem WrAt.cells {w:World} {g:Nat} {tb:Option Nat} {L:List Tk} {d m:Int} (h:WrAt w g tb L d m):∃va vb vc,w.cell? ⟨g,0,none⟩=some (.slice va vb vc)∧w.cell? ⟨g,1,none⟩=some (.int .i64 d)∧w.cell? ⟨g,2,none⟩=some (.int .i64 m)∧∀i,w.frozen? ⟨g,i,none⟩=false:=by
 obtain⟨v,hv,ho,_⟩:=h.lie
 obtain⟨va,vb,vc,rfl⟩:∃va vb vc,v = .slice va vb vc:=by
  rcases ho.2 with⟨rfl,_⟩ | ⟨_,_,_,rfl,_⟩
  ·exact⟨_,_,_,rfl⟩
  ·exact⟨_,_,_,rfl⟩
 exact⟨va,vb,vc,cells3W hv⟩
theorem ExV.mk' {S:Nat→Prop} {w:World} {x:Ex} {k op:Int} {tb nm:List UInt8} {vk vn:Int} {vs:List UInt8} {ys:List Ex} {aa:Option Addr} {nn cc:Nat} (he:x = .mk k op tb nm ⟨vk,vn,vs⟩ ys) (ha:ArgsAt S w ys (.slice aa nn cc)):ExV S w x (.agg #[.int .i64 k,.int .i64 op,.string (str8 tb),.string (str8 nm),.int .i64 vk,.int .i64 vn,.string (str8 vs),.slice aa nn cc]) :=
 ⟨k,op,tb,nm,vk,vn,vs,ys,aa,nn,cc,he,rfl,ha⟩
theorem deeper_of (l:Int) (t:Tm) (T:List Tk) (D:Nat) (hf:WrE 113 (fun v g=>#[.pointer (some ⟨g,0,none⟩),.int .i64 l,v]) t T D) :
  WrE 115 (fun v g=>#[.pointer (some ⟨g,0,none⟩),.int .i64 l,v]) t T (D+1):=fun g tb L d m w v h hx hL h0 hdm hd hm=>by
 obtain⟨k,op,tbl,nm,vk,vn,vs,ys,aa,nn,cc,he,rfl,ha⟩:=hx
 obtain⟨W,hW,hbW,hzW,hcW⟩:=box8 w (.cells #[.int .i64 k,.int .i64 op,.string (str8 tbl),.string (str8 nm),.int .i64 vk,.int .i64 vn,.string (str8 vs),.slice aa nn cc] 26)
 have hg:=h.lt
 have hWW:=h.below hbW
 have HBX:=hid (BoxW.mk' h hcW (Nat.le_refl _))
 obtain⟨va,vb,vc,kW⟩:=hWW.cells
 have hd1:IntKind.i64.wrap (d+1)=d+1:=by rw[IntKind.wrap_i64];omega
 obtain⟨W1,hW1,hw1,hf1⟩:=hWW.setD (d+1)
 obtain⟨va1,vb1,vc1,kW1⟩:=hw1.cells
 have hw1d:=hw1.below (Below.refl _ W1).drew
 obtain⟨W2,hW2,hw2,hf2⟩:=hw1d.setM (max m (d+1))
 have hF2:FrW g tb w W2:=((Spares.of_new (S:=fun k=>k=g∨tb=some k) hbW).then hf1).then ((Spares.of_new (S:=fun k=>k=g∨tb=some k) (Below.refl _ W1).drew).then hf2)
 have hBX2:=HBX.out.on (fun k hk=>.inl hk) (hf1.then ((Spares.of_new (S:=fun k=>k=g∨tb=some k) (Below.refl _ W1).drew).then hf2))
 have kB2:=cells8 hBX2.at'
 have HBX2:=hid hBX2
 have HFR:=hid (hf g tb L (d+1) (max m (d+1)) W2 _ hw2 (ExV.mk' he (ha.onW h hF2)) hL (by omega) (by omega) (by omega) (by omega))
 have HF2:=hid hF2
 clear hcW hbW h ha he hw1 hw1d hw2 hf1 hf2 hF2 hBX2 hWW hf
 have hmax:((if m<d+1 then d+1 else m):Int)=max m (d+1):=by omega
 go_enter Tryz.func115,Tryz.ntmps115
 go_wp2_with fail
 go_region
 clear hW hW1 hW2 kW kW1
 go_wp2_with fail
 refine HFR.out.mono ?_
 rintro e w3 ⟨rfl,tb3,hw3,ht3,hf3⟩
 obtain⟨va3,vb3,vc3,k3⟩:=hw3.cells
 have hd2:IntKind.i64.wrap (d+1-1)=d:=by rw[IntKind.wrap_i64];omega
 obtain⟨W4,hW4,hw4,hf4⟩:=hw3.setD d
 have HQ:Hid (Wrote g tb w W4 (L++T) d (max m (d+((D+1:Nat):Int)))):=hid (by
  rw[show max (max m (d+1)) (d+1+(D:Int))=max m (d+((D+1:Nat):Int)) by omega] at hw4
  exact Wrote.then (fun k hk=>.inl hk) HF2.out (Wrote.then ht3 hf3 ⟨tb3,hw4,fun k hk=>.inl hk,hf4⟩))
 clear hw3 ht3 hf3 hw4 hf4 HFR
 go_wp2
 exact bodyPost_end (v:=.tuple #[]) (by simp[results,Tryz.results115,go_sem]) rfl ⟨rfl,HQ.out⟩
theorem atK_pos {l lv:Nat} {T:List Tk} (h:l≤lv):atK l lv T=T:=if_pos h
theorem atK_neg {l lv:Nat} {T:List Tk} (h : ¬l≤lv):atK l lv T=fxT [40]::(T++[fxT [41]]):=if_neg h
theorem atD_pos {l lv d:Nat} (h:l≤lv):atD l lv d=d:=if_pos h
theorem atD_neg {l lv d:Nat} (h : ¬l≤lv):atD l lv d=d+1:=if_neg h
abbrev WrX (t:Tm):Prop:=WrE 21 (fun v g=>#[.pointer (some ⟨g,0,none⟩),v]) t t.tk t.dp
abbrev WrF (l:Int) (t:Tm) (T:List Tk) (D:Nat):Prop:=WrE 113 (fun v g=>#[.pointer (some ⟨g,0,none⟩),.int .i64 l,v]) t T D
abbrev WrD (l:Int) (t:Tm) (T:List Tk) (D:Nat):Prop:=WrE 115 (fun v g=>#[.pointer (some ⟨g,0,none⟩),.int .i64 l,v]) t T D
theorem from_plain (l:Nat) (t:Tm) (hok:t.ok) (hl:l≤t.lv) (hX:WrX t):WrF l t t.tk t.dp:=fun g tb L d m w v h hx hL h0 hdm hd hm=>by
 have hlvl:=hid (fun V (hb:Below w.heap.size w V)=>level_any (fun b=>b<g) t hok v V (h.tab.on hb) (hx.new hb))
 have HXV:=hid hx
 obtain⟨k,op,tbl,nm,vk,vn,vs,ys,aa,nn,cc,he,rfl,ha⟩:=hx
 obtain⟨W,hW,hbW,hzW,hcW⟩:=box8 w (.cells #[.int .i64 k,.int .i64 op,.string (str8 tbl),.string (str8 nm),.int .i64 vk,.int .i64 vn,.string (str8 vs),.slice aa nn cc] 26)
 have k0:=cells8 hcW
 have HLV:=hid (hlvl.out W hbW)
 have HH:=hid h
 have HC:=hid hcW
 have HB:=hid hbW
 have hge:((l:Int)≤(t.lv:Int)):=by omega
 clear hcW hbW ha he h hlvl hok
 generalize hlv:(t.lv:Int)=lv at HLV hge
 clear hlv
 generalize hll:(l:Int)=li at hge ⊢
 clear hll
 go_enter Tryz.func113,Tryz.ntmps113
 go_wp2_with fail
 refine HLV.out.mono ?_
 rintro e w1 ⟨rfl,hb1⟩
 have k1:=cells8 ((hb1.block w.heap.size hzW).trans HC.out)
 have hB1:=HB.out.trans (hb1.mono HB.out.size)
 have HX1:=hid (hX g tb L d m w1 _ (HH.out.below hB1) (HXV.out.new hB1) hL h0 hdm hd hm)
 have HB1:=hid hB1
 clear hb1 hB1 HLV
 go_wp2_with fail
 refine HX1.out.mono ?_
 rintro e w2 ⟨rfl,h2⟩
 go_wp2
 exact bodyPost_ret (v:=.tuple #[]) (by simp[results,Tryz.results113,go_sem]) rfl ⟨rfl,h2.new HB1.out⟩
theorem from_bracket (l:Nat) (t:Tm) (hok:t.ok) (hl : ¬l≤t.lv) (hD:WrD 0 t t.tk (t.dp+1)):WrF l t (fxT [40]::(t.tk++[fxT [41]])) (t.dp+1):=fun g tb L d m w v h hx hL h0 hdm hd hm=>by
 simp only[List.length_cons,List.length_append,List.length_nil] at hL
 have hlvl:=hid (fun V (hb:Below w.heap.size w V)=>level_any (fun b=>b<g) t hok v V (h.tab.on hb) (hx.new hb))
 have HXV:=hid hx
 obtain⟨k,op,tbl,nm,vk,vn,vs,ys,aa,nn,cc,he,rfl,ha⟩:=hx
 obtain⟨W,hW,hbW,hzW,hcW⟩:=box8 w (.cells #[.int .i64 k,.int .i64 op,.string (str8 tbl),.string (str8 nm),.int .i64 vk,.int .i64 vn,.string (str8 vs),.slice aa nn cc] 26)
 have k0:=cells8 hcW
 have HLV:=hid (hlvl.out W hbW)
 have HH:=hid h
 have HBX:=hid (BoxW.mk' h hcW (Nat.le_refl _))
 have HB:=hid hbW
 have hge : ¬((l:Int)≤(t.lv:Int)):=by omega
 clear hcW hbW ha he h hlvl hok
 generalize hlv:(t.lv:Int)=lv at HLV hge
 clear hlv
 generalize hll:(l:Int)=li at hge ⊢
 clear hll
 go_enter Tryz.func113,Tryz.ntmps113
 go_wp2_with fail
 refine HLV.out.mono ?_
 rintro e w1 ⟨rfl,hb1⟩
 have hbx1:=HBX.out.below hb1
 have k1:=cells8 hbx1.at'
 have hB1:=HB.out.trans (hb1.mono HB.out.size)
 have hw1:=HH.out.below hB1
 have HT:Hid (Calls Tryz.prog 68 #[.pointer (some ⟨g,0,none⟩),.slice (some ⟨w1.heap.size,0,none⟩) 1 1] (w1.alloc (.cells #[.string ⟨#[40]⟩] 9)) fun e w'=>e = .returned (.tuple #[])∧Wrote g tb w1 w' (L++wordsK [[40]]) d m):=hid (fixed_new g tb L d m [[40]] w1 hw1 (by decide) (by decide) (by simp;omega))
 have HX1:=hid (HXV.out.new hB1)
 have HW1:=hid hw1
 have HBX1:=hid hbx1
 have HB1:=hid hB1
 clear hb1 hB1 HLV hw1 hbx1
 go_wp2_with fail
 refine HT.out.mono ?_
 rintro e w2 ⟨rfl,tb2,hw2,ht2,hf2⟩
 have hbx2:=HBX1.out.on ht2 hf2
 have k2:=cells8 hbx2.at'
 have HD2:=hid (hD g tb2 (L++wordsK [[40]]) d m w2 _ hw2 (HX1.out.onW HW1.out hf2) (by simp[wordsK];omega) h0 hdm hd hm)
 have HT2:=hid ht2
 have HF2:=hid hf2
 clear hw2 ht2 hf2 hbx2 HT
 go_wp2_with fail
 refine HD2.out.mono ?_
 rintro e w3 ⟨rfl,tb3,hw3,ht3,hf3⟩
 have HE:Hid (Calls Tryz.prog 68 #[.pointer (some ⟨g,0,none⟩),.slice (some ⟨w3.heap.size,0,none⟩) 1 1] (w3.alloc (.cells #[.string ⟨#[41]⟩] 9)) fun e w'=>e = .returned (.tuple #[])∧Wrote g tb3 w3 w' (L++wordsK [[40]]++t.tk++wordsK [[41]]) d (max m (d+((t.dp+1:Nat):Int)))):=hid (fixed_new g tb3 _ d _ [[41]] w3 hw3 (by decide) (by decide) (by simp[wordsK];omega))
 have HT3:=hid ht3
 have HF3:=hid hf3
 clear hw3 ht3 hf3 HD2
 go_wp2_with fail
 refine HE.out.mono ?_
 rintro e w4 ⟨rfl,h4⟩
 have HQ:Hid (Wrote g tb w w4 (L++fxT [40]::(t.tk++[fxT [41]])) d (max m (d+((t.dp+1:Nat):Int)))):=hid (by
  have:=Wrote.new HB1.out (Wrote.then HT2.out HF2.out (Wrote.then HT3.out HF3.out h4))
  simpa [wordsK] using this)
 clear h4 HE
 go_wp2
 exact bodyPost_end (v:=.tuple #[]) (by simp[results,Tryz.results113,go_sem]) rfl ⟨rfl,HQ.out⟩
theorem from_any (l:Nat) (t:Tm) (hok:t.ok) (hX:WrX t):WrF l t (atK l t.lv t.tk) (atD l t.lv t.dp):=by
 by_cases hl:l≤t.lv
 ·rw[atK_pos hl,atD_pos hl]
  exact from_plain l t hok hl hX
 ·rw[atK_neg hl,atD_neg hl]
  exact from_bracket l t hok hl (deeper_of 0 t _ _ (from_plain 0 t hok (Nat.zero_le _) hX))
theorem deeperW_any (l:Nat) (t:Tm) (hok:t.ok) (hX:WrX t):WrD l t (atK l t.lv t.tk) (atD l t.lv t.dp+1):=deeper_of l t _ _ (from_any l t hok hX)
theorem column_w (g:Nat) (tb:Option Nat) (L:List Tk) (d m:Int) (w:World) (h:WrAt w g tb L d m) (tn nm:List UInt8) (k op vk vn:Int) (vs:List UInt8) (aa:Option Addr) (nn cc:Nat) (hL:L.length+(Tm.col tn nm).tk.length≤1000000000) :
  Calls Tryz.prog 49 #[.pointer (some ⟨g,0,none⟩),.agg #[.int .i64 k,.int .i64 op,.string (str8 tn),.string (str8 nm),.int .i64 vk,.int .i64 vn,.string (str8 vs),.slice aa nn cc]] w fun e w'=>e = .returned (.tuple #[])∧Wrote g tb w w' (L++(Tm.col tn nm).tk) d m:=by
 obtain⟨W,hW,hbW,hzW,hcW⟩:=box8 w (.cells #[.int .i64 k,.int .i64 op,.string (str8 tn),.string (str8 nm),.int .i64 vk,.int .i64 vn,.string (str8 vs),.slice aa nn cc] 26)
 have k0:=cells8 hcW
 have hBX:=BoxW.mk' h hcW (Nat.le_refl _)
 have HBD:=hid hbW.drew
 show Calls Tryz.prog 49 _ _ fun e w'=>_∧Wrote g tb w w' (L++(if tn=[] then [nmT nm] else [nmT tn,fxT [46],nmT nm])) d m
 have hL:L.length+(if tn=[] then [nmT nm] else [nmT tn,fxT [46],nmT nm]).length≤1000000000:=hL
 by_cases ht:tn=[]
 ·rw[if_pos ht] at hL ⊢
  have hL:L.length+1≤1000000000:=hL
  have hte:((str8 tn).toList.isEmpty)=true:=by rw[ht,str8_toList];rfl
  have HN:=hid (name_w g tb L d m W.drew (h.below hbW.drew) nm (by omega))
  clear hbW hcW h ht hBX
  generalize str8 tn=tns at hte k0 hW ⊢
  go_enter Tryz.func49,Tryz.ntmps49
  go_wp2_with fail
  go_region_with (first
   | (
     go_at_call 70;refine HN.out.mono ?_
     rintro e w1 ⟨rfl,h1⟩)
   | fail)
  all_goals go_wp2
  all_goals exact bodyPost_end (v:=.tuple #[]) (by simp[results,Tryz.results49,go_sem]) rfl ⟨rfl,h1.new HBD.out⟩
 ·rw[if_neg ht] at hL ⊢
  have hL:L.length+3≤1000000000:=hL
  have hte:((str8 tn).toList.isEmpty)=false:=by
   cases tn with
   | nil=>exact absurd rfl ht
   | cons x l=>rw[str8_toList];rfl
  have HN:=hid (name_w g tb L d m W.drew (h.below hbW.drew) tn (by omega))
  have HBX:=hid (hBX.below (Below.refl _ W).drew)
  clear hbW hcW h ht hBX
  generalize str8 tn=tns at hte k0 hW HN HBX ⊢
  go_enter Tryz.func49,Tryz.ntmps49
  go_wp2_with fail
  go_region_with (first
   | (
     go_at_call 70;refine HN.out.mono ?_
     rintro e w1 ⟨rfl,tb1,hw1,ht1,hf1⟩)
   | fail)
  all_goals
   have HT:Hid (Calls Tryz.prog 68 #[.pointer (some ⟨g,0,none⟩),.slice (some ⟨w1.heap.size,0,none⟩) 1 1] (w1.alloc (.cells #[.string ⟨#[46]⟩] 9)) fun e w'=>e = .returned (.tuple #[])∧Wrote g tb1 w1 w' (L++[nmT tn]++wordsK [[46]]) d m):=hid (fixed_new g tb1 _ d m [[46]] w1 hw1 (by decide) (by decide) (by simp;omega))
   have HBX1:=hid (HBX.out.on ht1 hf1)
   have HT1:=hid ht1
   have HF1:=hid hf1
   clear hw1 ht1 hf1 HN HBX
   go_wp2_with fail
   refine HT.out.mono ?_
   rintro e w2 ⟨rfl,tb2,hw2,ht2,hf2⟩
   have hbx2:=HBX1.out.on ht2 hf2
   have k2:=cells8 hbx2.at'
   have HN2:=hid (name_w g tb2 _ d m w2.drew (hw2.below (Below.refl _ w2).drew) nm (by simp[wordsK];omega))
   have HT2:=hid ht2
   have HF2:=hid hf2
   clear hw2 ht2 hf2 hbx2 HT
   go_wp2_with fail
   go_region_with (first
    | (
      go_at_call 70;refine HN2.out.mono ?_
      rintro e w3 ⟨rfl,h3⟩)
    | fail)
   all_goals go_wp2
   all_goals exact bodyPost_end (v:=.tuple #[]) (by simp[results,Tryz.results49,go_sem]) rfl ⟨rfl,by
    have:=Wrote.new HBD.out (Wrote.then HT1.out HF1.out (Wrote.then HT2.out HF2.out (h3.new (Below.refl _ w2).drew)))
    simpa [wordsK] using this⟩
theorem null_w (a:Tm) (hok:a.ok) (hX:WrX a) (k op vk vn:Int) (tn nm vs:List UInt8) (aa:Option Addr) (nn cc:Nat) (ws:List (List UInt8)) (hws : ∀t∈ws,t≠[]) (hwl:ws.length≤10) (wv:Value)
  (g:Nat) (tb:Option Nat) (L:List Tk) (d m:Int) (w:World) (h:WrAt w g tb L d m) (ha:ArgsAt (fun b=>b<g) w [a.ex] (.slice aa nn cc)) (hwv:StrsW g tb w wv ws) (hL:L.length+((atK 4 a.lv a.tk).length+ws.length)≤1000000000) (h0:0≤d) (hdm:d≤m) (hd:d+(atD 4 a.lv a.dp:Nat)≤1000000000) (hm:m≤1000000000) :
  Calls Tryz.prog 53 #[.pointer (some ⟨g,0,none⟩),.agg #[.int .i64 k,.int .i64 op,.string (str8 tn),.string (str8 nm),.int .i64 vk,.int .i64 vn,.string (str8 vs),.slice aa nn cc],wv] w fun e w'=>e = .returned (.tuple #[])∧Wrote g tb w w' (L++(atK 4 a.lv a.tk++wordsK ws)) d (max m (d+(atD 4 a.lv a.dp:Nat))):=by
 obtain⟨W,hW,hbW,hzW,hcW⟩:=box8 w (.cells #[.int .i64 k,.int .i64 op,.string (str8 tn),.string (str8 nm),.int .i64 vk,.int .i64 vn,.string (str8 vs),.slice aa nn cc] 26)
 have k0:=cells8 hcW
 have HB:=hid hbW
 have hla:=atK_len 4 a.lv a.tk
 have hda:=atD_le 4 a.lv a.dp
 obtain⟨h1,h2,h3,b,off,k1,op1,tb1,nm1,vk1,vn1,vs1,ys1,a1,n1,c1,hxe,rfl,_,h7,h8⟩:=args_get0 (ha.new hbW)
 rw[List.length_nil,Nat.zero_add] at h1
 subst h1
 unfold maxLen at h3
 have HF:=hid (from_any 4 a hok hX g tb L d m W _ (h.below hbW) (ExV.mk' hxe h8) (by omega) h0 hdm (by omega) hm)
 have HWV:=hid (hwv.on (fun k hk=>.inl hk) (Spares.of_new hbW))
 unfold Cells8 at h7
 clear hbW hcW h h8 ha hwv hxe
 generalize atK 4 a.lv a.tk=T at HF hla hL ⊢
 generalize atD 4 a.lv a.dp=D at HF hda hd ⊢
 obtain⟨wa,wc,rfl,_⟩:=id HWV.out
 go_enter Tryz.func53,Tryz.ntmps53
 go_wp2_with fail
 refine HF.out.mono ?_
 rintro e w1 ⟨rfl,tb2,hw1,ht1,hf1⟩
 have HX:=hid (fixed_any g tb2 _ d _ w1 hw1 _ ws (HWV.out.on ht1 hf1) hws (by simp;omega))
 have HT1:=hid ht1
 have HF1:=hid hf1
 clear hw1 ht1 hf1 HF
 go_wp2_with fail
 refine HX.out.mono ?_
 rintro e w2 ⟨rfl,h2⟩
 have HQ:Hid (Wrote g tb w w2 (L++(T++wordsK ws)) d (max m (d+(D:Int)))):=hid (by
  have:=Wrote.new HB.out (Wrote.then HT1.out HF1.out h2)
  rwa [List.append_assoc] at this)
 clear h2
 go_wp2
 exact bodyPost_end (v:=.tuple #[]) (by simp[results,Tryz.results53,go_sem]) rfl ⟨rfl,HQ.out⟩
end Go.Proofs.YtnidnipiihhnaaaGreatDoor
