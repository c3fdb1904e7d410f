/- Packed for the hand-in: WLev WExpr -/
import Derived.Test.YtaaggohjmhifbaaGreatDoorZ17
namespace Go.Proofs.YtaaggohjmhifbaaGreatDoor
open Go.RowKit Go.Shelf
set_option linter.unusedSimpArgs false
set_option linter.unusedVariables false
set_option maxRecDepth 20000
set_option maxHeartbeats 8000000
def Cells8 (w:World) (b off:Nat) (k op:Int) (tb nm:List UInt8) (vk vn:Int) (vs:List UInt8) (a:Value):Prop :=
 w.cell? ⟨b,off,none⟩=some (.int .i64 k)∧w.cell? ⟨b,off+1,none⟩=some (.int .i64 op)∧w.cell? ⟨b,off+2,none⟩=some (.string (aj tb))∧w.cell? ⟨b,off+3,none⟩=some (.string (aj nm)) ∧
  w.cell? ⟨b,off+4,none⟩=some (.int .i64 vk)∧w.cell? ⟨b,off+5,none⟩=some (.int .i64 vn)∧w.cell? ⟨b,off+6,none⟩=some (.string (aj vs))∧w.cell? ⟨b,off+7,none⟩=some a
theorem Cells8.on {w w':World} {b off:Nat} {k op:Int} {tb nm:List UInt8} {vk vn:Int} {vs:List UInt8} {a:Value} (h:Cells8 w b off k op tb nm vk vn vs a) {R:Nat→Prop} (hk:ay R w w') (hb : ¬R b):Cells8 w' b off k op tb nm vk vn vs a:=by
 obtain⟨c0,c1,c2,c3,c4,c5,c6,c7⟩:=h
 exact⟨hk.cell c0 hb,hk.cell c1 hb,hk.cell c2 hb,hk.cell c3 hb,hk.cell c4 hb,hk.cell c5 hb,hk.cell c6 hb,hk.cell c7 hb⟩
theorem Cells8.lt {w:World} {b off:Nat} {k op:Int} {tb nm:List UInt8} {vk vn:Int} {vs:List UInt8} {a:Value} (h:Cells8 w b off k op tb nm vk vn vs a):b<w.heap.size:=World.block_lt_of_cell? w _ h.1
theorem Cells8.new {w w':World} {b off:Nat} {k op:Int} {tb nm:List UInt8} {vk vn:Int} {vs:List UInt8} {a:Value} (h:Cells8 w b off k op tb nm vk vn vs a) (hb:Below w.heap.size w w'):Cells8 w' b off k op tb nm vk vn vs a:=h.on (ay.aI (S:=fun _=>False) hb) id
theorem Au {S:Nat→Prop} {w:World} {xs:List Ex} {aa:Option Addr} {nn cc:Nat} (h:aV S w xs (.slice aa nn cc)) {j:Nat} {x:Ex} (hx:xs[j]?=some x) :
  nn=xs.length∧nn≤cc∧cc≤maxLen∧∃(b off:Nat) (k op:Int) (tb nm:List UInt8) (vk vn:Int) (vs:List UInt8) (ys:List Ex) (a1:Option Addr) (n1 c1:Nat),x = .mk k op tb nm ⟨vk,vn,vs⟩ ys∧aa=some ⟨b,off,none⟩∧S b∧Cells8 w b (off+j*8) k op tb nm vk vn vs (.slice a1 n1 c1)∧aV S w ys (.slice a1 n1 c1):=by
 cases h with
 | nil a c hc=>simp at hx
 |
  cons xs b off c avs hne hS hl hc hcell hrec =>
  obtain⟨k,op,tb,nm,⟨vk,vn,vs⟩,ys⟩:=x
  obtain⟨a1,c1,e,_⟩:=(hrec j k op tb nm vk vn vs ys hx).form
  refine ⟨rfl,hl,hc,b,off,k,op,tb,nm,vk,vn,vs,ys,a1,ys.length,c1,rfl,rfl,hS,?_,e ▸ hrec j k op tb nm vk vn vs ys hx⟩
  have:=hcell j k op tb nm vk vn vs ys hx
  rw[e] at this
  exact this
theorem gF {S:Nat→Prop} {w:World} {x:Ex} {l:List Ex} {aa:Option Addr} {nn cc:Nat} (h:aV S w (x::l) (.slice aa nn cc)) :
  nn=l.length+1∧nn≤cc∧cc≤maxLen∧∃(b off:Nat) (k op:Int) (tb nm:List UInt8) (vk vn:Int) (vs:List UInt8) (ys:List Ex) (a1:Option Addr) (n1 c1:Nat),x = .mk k op tb nm ⟨vk,vn,vs⟩ ys∧aa=some ⟨b,off,none⟩∧S b∧Cells8 w b off k op tb nm vk vn vs (.slice a1 n1 c1)∧aV S w ys (.slice a1 n1 c1):=by
 obtain⟨h1,h2,h3,b,off,k,op,tb,nm,vk,vn,vs,ys,a1,n1,c1,h4,h5,h6,h7,h8⟩:=Au h (j:=0) (x:=x) rfl
 rw[Nat.zero_mul,Nat.add_zero] at h7
 exact⟨h1,h2,h3,b,off,k,op,tb,nm,vk,vn,vs,ys,a1,n1,c1,h4,h5,h6,h7,h8⟩
theorem vo (a:Tm) (h:a.zX=false):qK a.ex≠6:=by
 cases a<;>first | (cases h;done) | (simp[qK,Tm.ex,rM,jK,mJ,fT])
theorem jX (S:Nat→Prop) (x:Ex) (tb nm:List UInt8) (vk vn:Int) (vs:List UInt8) (op:Int) (aa:Option Addr) (nn cc:Nat) (w:World) (ha:aV S w [x] (.slice aa nn cc)) :
  Calls Tryz.prog 248 #[.agg #[.int .i64 4,.int .i64 op,.string (aj tb),.string (aj nm),.int .i64 vk,.int .i64 vn,.string (aj vs),.slice aa nn cc]] w fun e w'=>e = .returned (.bool (qK x==6))∧Below w.heap.size w w':=by
 obtain⟨W,hW,hbW,hzW,hcW⟩:=aQ w (.cells #[.int .i64 4,.int .i64 op,.string (aj tb),.string (aj nm),.int .i64 vk,.int .i64 vn,.string (aj vs),.slice aa nn cc] 130)
 have k0:=aY hcW
 obtain⟨h1,h2,h3,b,off,k1,op1,tb1,nm1,vk1,vn1,vs1,ys1,a1,n1,c1,rfl,rfl,_,h7,_⟩:=gF (ha.new hbW)
 unfold Cells8 at h7
 rw[List.length_nil,Nat.zero_add] at h1
 subst h1
 unfold maxLen at h3
 show Calls Tryz.prog 248 _ _ fun e w'=>e = .returned (.bool (k1==6))∧_
 have HB:=hid hbW
 clear hbW hcW ha
 go_enter Tryz.func248,Tryz.ntmps248
 go_wp2
 go_ret
 exact⟨rfl,HB.out⟩
theorem Dc {w:World} (h:FU w) {o:Int} (h1:1≤o) (h2:o≤13):∃n:Nat,o=(n:Int)∧n≤13∧w.cell? ⟨0,n*2,none⟩=some (.string (aj (lM o)))∧w.cell? ⟨0,n*2+1,none⟩=some (.int .i64 (bY o)) :=
 ⟨o.toNat,by omega,by omega,by have:=h o.toNat (by omega);rw[show ((o.toNat:Nat):Int)=o by omega] at this;exact this⟩
theorem wJ (S:Nat→Prop) (t:Tm) (hok:t.ok) (v:Value) (w:World) (hO:lV w) (hx:jU S w t.ex v) :
  Calls Tryz.prog 269 #[v] w fun e w'=>e = .returned (.int .i64 (t.lv:Int))∧Below w.heap.size w w':=by
 obtain⟨k,op,tb,nm,vk,vn,vs,ys,aa,nn,cc,he,rfl,ha⟩:=hx
 obtain⟨W,hW,hbW,hzW,hcW⟩:=aQ w (.cells #[.int .i64 k,.int .i64 op,.string (aj tb),.string (aj nm),.int .i64 vk,.int .i64 vn,.string (aj vs),.slice aa nn cc] 130)
 have k0:=aY hcW
 have HB:=hid hbW
 have hOW:=(hO.on hbW).ops
 cases t with
 |
  val x =>
  simp only[Tm.ex,rM,Ex.mk.injEq] at he
  obtain⟨rfl,-⟩:=he
  clear hcW hbW ha hO hOW
  go_enter Tryz.func269,Tryz.ntmps269
  go_wp2
  go_ret
  exact⟨rfl,HB.out.alloc HB.out.size _⟩
 |
  col x y =>
  simp only[Tm.ex,jK,Ex.mk.injEq] at he
  obtain⟨rfl,-⟩:=he
  clear hcW hbW ha hO hOW
  go_enter Tryz.func269,Tryz.ntmps269
  go_wp2
  go_ret
  exact⟨rfl,HB.out.alloc HB.out.size _⟩
 |
  op o a b =>
  simp only[Tm.ex,mJ,Ex.mk.injEq] at he
  obtain⟨rfl,rfl,-⟩:=he
  obtain⟨n,hn,hn13,_,hc⟩:=Dc hOW hok.1 hok.2.1
  show Calls Tryz.prog 269 _ _ fun e w'=>e = .returned (.int .i64 (bY o:Int))∧_
  generalize bY o=lv at hc ⊢
  have h1:=hok.1
  subst hn
  have hn14:((n:Int)<14):=by omega
  clear hcW hbW ha hO hOW hok
  go_enter Tryz.func269,Tryz.ntmps269
  go_wp2
  go_ret
  exact⟨rfl,HB.out⟩
 |
  not a =>
  simp only[Tm.ex,fT,Ex.mk.injEq] at he
  obtain⟨rfl,rfl,rfl,rfl,hv,rfl⟩:=he
  have HN:=hid (jX S a.ex [] [] vk vn vs 0 aa nn cc W (ha.new hbW))
  have h6:(qK a.ex==6)=false:=by have:=vo a hok.1;simpa using this
  rw[h6] at HN
  clear hcW hbW ha hO hOW hok hv h6
  go_enter Tryz.func269,Tryz.ntmps269
  go_wp2_with fail
  refine HN.out.mono ?_
  rintro e w1 ⟨rfl,hb1⟩
  have k1:=aY ((hb1.block w.heap.size hzW).trans (by rw[← hW];exact heap_alloc_new _ _))
  have HB1:=hid (HB.out.trans (hb1.mono (Nat.le_of_lt hzW)))
  clear hb1 HN
  go_wp2
  go_ret
  exact⟨rfl,HB1.out⟩
 |
  neg a =>
  simp only[Tm.ex,fT,Ex.mk.injEq] at he
  obtain⟨rfl,-⟩:=he
  clear hcW hbW ha hO hOW
  go_enter Tryz.func269,Tryz.ntmps269
  go_wp2
  go_ret
  exact⟨rfl,HB.out.alloc HB.out.size _⟩
 |
  nul a =>
  simp only[Tm.ex,fT,Ex.mk.injEq] at he
  obtain⟨rfl,-⟩:=he
  clear hcW hbW ha hO hOW
  go_enter Tryz.func269,Tryz.ntmps269
  go_wp2
  go_ret
  exact⟨rfl,HB.out⟩
 |
  nnul a =>
  simp only[Tm.ex,fT,Ex.mk.injEq] at he
  obtain⟨rfl,rfl,rfl,rfl,hv,rfl⟩:=he
  have HN:Hid (Calls Tryz.prog 248 #[.agg #[.int .i64 4,.int .i64 0,.string (aj []),.string (aj []),.int .i64 vk,.int .i64 vn,.string (aj vs),.slice aa nn cc]] W fun e w'=>e = .returned (.bool true)∧Below W.heap.size W w'):=hid (jX S _ [] [] vk vn vs 0 aa nn cc W (ha.new hbW))
  clear hcW hbW ha hO hOW hok hv
  go_enter Tryz.func269,Tryz.ntmps269
  go_wp2_with fail
  refine HN.out.mono ?_
  rintro e w1 ⟨rfl,hb1⟩
  have HB1:=hid (HB.out.trans (hb1.mono (Nat.le_of_lt hzW)))
  clear hb1 HN
  go_wp2
  go_ret
  exact⟨rfl,HB1.out⟩
theorem xA (g:Nat) (tb:Option Nat) (L:List Tk) (d m:Int) (w:World) (h:cB w g tb L d m) (v:Vl) (hv:gG v=true) (hL:L.length+(iy v).length≤1000000000) :
  Calls Tryz.prog 167 #[.pointer (some ⟨g,0,none⟩),.agg #[.int .i64 v.k,.int .i64 v.n,.string (aj v.s)]] w fun e w'=>e = .returned (.tuple #[])∧Wrote g tb w w' (L++iy v) d m:=by
 obtain⟨vk,vn,vs⟩:=v
 dsimp only
 have hl2:=uO ⟨vk,vn,vs⟩
 obtain⟨W,hW,hbW,hzW,hcW⟩:=aQ w (.cells #[.int .i64 vk,.int .i64 vn,.string (aj vs)] 128)
 have k0:=kG hcW
 have HW:=hid (h.below hbW)
 have HWD:=hid (h.below hbW.drew)
 have HB:=hid hbW
 have HBD:=hid hbW.drew
 have HC:=hid hcW
 rcases nW hv with⟨h1,h2,h3⟩ | ⟨h1,h2,h3⟩ | ⟨h1,h2,h3⟩
 ·dsimp only at h1;subst h1
  have HT:=hid (KV g tb L d m W.drew HWD.out vs (by omega))
  clear hbW hcW h hv h2 h3 HC
  go_enter Tryz.func167,Tryz.ntmps167
  go_wp2_with fail
  go_region_with (first
   | (
     go_at_call 211;refine HT.out.mono ?_
     rintro e w1 ⟨rfl,h1⟩)
   | fail)
  all_goals go_wp2
  all_goals exact bodyPost_end (v:=.tuple #[]) (by simp[results,Tryz.results167,go_sem]) rfl ⟨rfl,h1.new HBD.out⟩
 ·dsimp only at h1;subst h1
  have HT:Hid (Calls Tryz.prog 97 #[.pointer (some ⟨g,0,none⟩),.slice (some ⟨W.heap.size,0,none⟩) 1 1] (W.alloc (.cells #[.string ⟨#[78,85,76,76]⟩] 9)) fun e w'=>e = .returned (.tuple #[])∧Wrote g tb W w' (L++ah [[78,85,76,76]]) d m):=hid (aG g tb L d m [[78,85,76,76]] W HW.out (by decide) (by decide) (by simp;omega))
  clear hbW hcW h hv h2 h3 HC
  go_enter Tryz.func167,Tryz.ntmps167
  go_wp2_with fail
  refine HT.out.mono ?_
  rintro e w1 ⟨rfl,h1⟩
  go_wp2
  exact bodyPost_end (v:=.tuple #[]) (by simp[results,Tryz.results167,go_sem]) rfl ⟨rfl,h1.new HB.out⟩
 ·dsimp only at h1 h3;subst h1
  have e:iy ⟨1,vn,vs⟩=if vn<0 then [aH [45],nP (-vn)] else [nP vn]:=rfl
  rw[e] at hL hl2 ⊢
  by_cases hn:vn<0
  ·rw[if_pos hn] at hL hl2 ⊢
   have hL:L.length+2≤1000000000:=hL
   have HT:Hid (Calls Tryz.prog 97 #[.pointer (some ⟨g,0,none⟩),.slice (some ⟨W.heap.size,0,none⟩) 1 1] (W.alloc (.cells #[.string ⟨#[45]⟩] 9)) fun e w'=>e = .returned (.tuple #[])∧Wrote g tb W w' (L++ah [[45]]) d m):=hid (aG g tb L d m [[45]] W HW.out (by decide) (by decide) (by simp;omega))
   have HBX:=hid (fA.mk' h hcW (Nat.le_refl _))
   have hneg:IntKind.i64.wrap (-vn) = -vn:=by rw[IntKind.wrap_i64];omega
   clear hbW hcW h hv h2 HC h3
   go_enter Tryz.func167,Tryz.ntmps167
   go_wp2_with fail
   refine HT.out.mono ?_
   rintro e w1 ⟨rfl,h1⟩
   obtain⟨tb1,hw1,ht1,hf1⟩:=h1
   have hbx:=(HBX.out.on ht1 hf1).at'
   have k1:=kG hbx
   have HN:=hid (mY g tb1 _ d m w1.drew (hw1.below (Below.refl _ w1).drew) (-vn) (by simp[ah];omega))
   have HT1:=hid ht1
   have HF1:=hid hf1
   clear hw1 ht1 hf1 HT hbx
   go_wp2_with fail
   go_region_with (first
    | (
      go_at_call 171;refine HN.out.mono ?_
      rintro e w2 ⟨rfl,h2⟩)
    | fail)
   all_goals go_wp2
   all_goals exact bodyPost_end (v:=.tuple #[]) (by simp[results,Tryz.results167,go_sem]) rfl ⟨rfl,by
    have:=Wrote.new HB.out (Wrote.then HT1.out HF1.out (h2.new (Below.refl _ w1).drew))
    simpa [ah] using this⟩
  ·rw[if_neg hn] at hL hl2 ⊢
   have HN:=hid (mY g tb L d m W.drew HWD.out vn (by omega))
   clear hbW hcW h hv h2 HC
   go_enter Tryz.func167,Tryz.ntmps167
   go_wp2_with fail
   go_region_with (first
    | (
      go_at_call 171;refine HN.out.mono ?_
      rintro e w1 ⟨rfl,h1⟩)
    | fail)
   all_goals go_wp2
   all_goals exact bodyPost_end (v:=.tuple #[]) (by simp[results,Tryz.results167,go_sem]) rfl ⟨rfl,h1.new HBD.out⟩
def La (f:Nat) (args:Value→Nat→Array Value) (t:Tm) (T:List Tk) (D:Nat):Prop :=
 ∀
  (g:Nat) (tb:Option Nat) (L:List Tk) (d m:Int) (w:World) (v:Value),cB w g tb L d m→jU (fun b=>b<g) w t.ex v→L.length+T.length≤1000000000→0≤d→d≤m→d+D≤1000000000→m≤1000000000 →
  Calls Tryz.prog f (args v g) w fun e w'=>e = .returned (.tuple #[])∧Wrote g tb w w' (L++T) d (max m (d+D))
theorem cB.Eh {w:World} {g:Nat} {tb:Option Nat} {L:List Tk} {d m:Int} (h:cB w g tb L d m) (d':Int):∃V,w.setCell ⟨g,1,none⟩ (.int .i64 d')=V∧cB V g tb L d' m∧eO g tb w V:=by
 obtain⟨v,hv,ho,hb⟩:=h.lie
 have hf:eO g tb w (w.setCell ⟨g,1,none⟩ (.int .i64 d')):=ay.setCell (ay.refl _ _) (.inl (.inl rfl)) _
 refine ⟨_,rfl,⟨⟨v,?_,ownsRow_setCell_below ho (Nat.lt_succ_self g) _,hb⟩,h.tab.below (h.yQ hf) h.big,h.big⟩,hf⟩
 rw[setCell_eq_setRow w g 1 _ _ _ _ hv,setRow_heap w g _ _ _ _ hv]
 rfl
theorem cB.LY {w:World} {g:Nat} {tb:Option Nat} {L:List Tk} {d m:Int} (h:cB w g tb L d m) (m':Int):∃V,w.setCell ⟨g,2,none⟩ (.int .i64 m')=V∧cB V g tb L d m'∧eO g tb w V:=by
 obtain⟨v,hv,ho,hb⟩:=h.lie
 have hf:eO g tb w (w.setCell ⟨g,2,none⟩ (.int .i64 m')):=ay.setCell (ay.refl _ _) (.inl (.inl rfl)) _
 refine ⟨_,rfl,⟨⟨v,?_,ownsRow_setCell_below ho (Nat.lt_succ_self g) _,hb⟩,h.tab.below (h.yQ hf) h.big,h.big⟩,hf⟩
 rw[setCell_eq_setRow w g 2 _ _ _ _ hv,setRow_heap w g _ _ _ _ hv]
 rfl
theorem cB.cells {w:World} {g:Nat} {tb:Option Nat} {L:List Tk} {d m:Int} (h:cB w g tb L d m):∃va vb vc,w.cell? ⟨g,0,none⟩=some (.slice va vb vc)∧w.cell? ⟨g,1,none⟩=some (.int .i64 d)∧w.cell? ⟨g,2,none⟩=some (.int .i64 m)∧∀i,w.frozen? ⟨g,i,none⟩=false:=by
 obtain⟨v,hv,ho,_⟩:=h.lie
 obtain⟨va,vb,vc,rfl⟩:∃va vb vc,v = .slice va vb vc:=by
  rcases ho.2 with⟨rfl,_⟩ | ⟨_,_,_,rfl,_⟩
  ·exact⟨_,_,_,rfl⟩
  ·exact⟨_,_,_,rfl⟩
 exact⟨va,vb,vc,kG hv⟩
theorem jU.mk' {S:Nat→Prop} {w:World} {x:Ex} {k op:Int} {tb nm:List UInt8} {vk vn:Int} {vs:List UInt8} {ys:List Ex} {aa:Option Addr} {nn cc:Nat} (he:x = .mk k op tb nm ⟨vk,vn,vs⟩ ys) (ha:aV S w ys (.slice aa nn cc)):jU S w x (.agg #[.int .i64 k,.int .i64 op,.string (aj tb),.string (aj nm),.int .i64 vk,.int .i64 vn,.string (aj vs),.slice aa nn cc]) :=
 ⟨k,op,tb,nm,vk,vn,vs,ys,aa,nn,cc,he,rfl,ha⟩
theorem xq (l:Int) (t:Tm) (T:List Tk) (D:Nat) (hf:La 247 (fun v g=>#[.pointer (some ⟨g,0,none⟩),.int .i64 l,v]) t T D) :
  La 249 (fun v g=>#[.pointer (some ⟨g,0,none⟩),.int .i64 l,v]) t T (D+1):=fun g tb L d m w v h hx hL h0 hdm hd hm=>by
 obtain⟨k,op,tbl,nm,vk,vn,vs,ys,aa,nn,cc,he,rfl,ha⟩:=hx
 obtain⟨W,hW,hbW,hzW,hcW⟩:=aQ w (.cells #[.int .i64 k,.int .i64 op,.string (aj tbl),.string (aj nm),.int .i64 vk,.int .i64 vn,.string (aj vs),.slice aa nn cc] 130)
 have hg:=h.lt
 have hWW:=h.below hbW
 have HBX:=hid (fA.mk' h hcW (Nat.le_refl _))
 obtain⟨va,vb,vc,kW⟩:=hWW.cells
 have hd1:IntKind.i64.wrap (d+1)=d+1:=by rw[IntKind.wrap_i64];omega
 obtain⟨W1,hW1,hw1,hf1⟩:=hWW.Eh (d+1)
 obtain⟨va1,vb1,vc1,kW1⟩:=hw1.cells
 have hw1d:=hw1.below (Below.refl _ W1).drew
 obtain⟨W2,hW2,hw2,hf2⟩:=hw1d.LY (max m (d+1))
 have hF2:eO g tb w W2:=((ay.aI (S:=fun k=>k=g∨tb=some k) hbW).then hf1).then ((ay.aI (S:=fun k=>k=g∨tb=some k) (Below.refl _ W1).drew).then hf2)
 have hBX2:=HBX.out.on (fun k hk=>.inl hk) (hf1.then ((ay.aI (S:=fun k=>k=g∨tb=some k) (Below.refl _ W1).drew).then hf2))
 have kB2:=aY hBX2.at'
 have HBX2:=hid hBX2
 have HFR:=hid (hf g tb L (d+1) (max m (d+1)) W2 _ hw2 (jU.mk' he (ha.wz h hF2)) hL (by omega) (by omega) (by omega) (by omega))
 have HF2:=hid hF2
 clear hcW hbW h ha he hw1 hw1d hw2 hf1 hf2 hF2 hBX2 hWW hf
 have hmax:((if m<d+1 then d+1 else m):Int)=max m (d+1):=by omega
 go_enter Tryz.func249,Tryz.ntmps249
 go_wp2_with fail
 go_region
 clear hW hW1 hW2 kW kW1
 go_wp2_with fail
 refine HFR.out.mono ?_
 rintro e w3 ⟨rfl,tb3,hw3,ht3,hf3⟩
 obtain⟨va3,vb3,vc3,k3⟩:=hw3.cells
 have hd2:IntKind.i64.wrap (d+1-1)=d:=by rw[IntKind.wrap_i64];omega
 obtain⟨W4,hW4,hw4,hf4⟩:=hw3.Eh d
 have HQ:Hid (Wrote g tb w W4 (L++T) d (max m (d+((D+1:Nat):Int)))):=hid (by
  rw[show max (max m (d+1)) (d+1+(D:Int))=max m (d+((D+1:Nat):Int)) by omega] at hw4
  exact Wrote.then (fun k hk=>.inl hk) HF2.out (Wrote.then ht3 hf3 ⟨tb3,hw4,fun k hk=>.inl hk,hf4⟩))
 clear hw3 ht3 hf3 hw4 hf4 HFR
 go_wp2
 exact bodyPost_end (v:=.tuple #[]) (by simp[results,Tryz.results249,go_sem]) rfl ⟨rfl,HQ.out⟩
theorem IE {l lv:Nat} {T:List Tk} (h:l≤lv):fU l lv T=T:=if_pos h
theorem IQ {l lv:Nat} {T:List Tk} (h : ¬l≤lv):fU l lv T=aH [40]::(T++[aH [41]]):=if_neg h
theorem I9 {l lv d:Nat} (h:l≤lv):lX l lv d=d:=if_pos h
theorem Ji {l lv d:Nat} (h : ¬l≤lv):lX l lv d=d+1:=if_neg h
abbrev Io (t:Tm):Prop:=La 168 (fun v g=>#[.pointer (some ⟨g,0,none⟩),v]) t t.tk t.dp
abbrev LX (l:Int) (t:Tm) (T:List Tk) (D:Nat):Prop:=La 247 (fun v g=>#[.pointer (some ⟨g,0,none⟩),.int .i64 l,v]) t T D
abbrev LQ (l:Int) (t:Tm) (T:List Tk) (D:Nat):Prop:=La 249 (fun v g=>#[.pointer (some ⟨g,0,none⟩),.int .i64 l,v]) t T D
theorem vC (l:Nat) (t:Tm) (hok:t.ok) (hl:l≤t.lv) (hX:Io t):LX l t t.tk t.dp:=fun g tb L d m w v h hx hL h0 hdm hd hm=>by
 have hlvl:=hid (fun V (hb:Below w.heap.size w V)=>wJ (fun b=>b<g) t hok v V (h.tab.on hb) (hx.new hb))
 have HXV:=hid hx
 obtain⟨k,op,tbl,nm,vk,vn,vs,ys,aa,nn,cc,he,rfl,ha⟩:=hx
 obtain⟨W,hW,hbW,hzW,hcW⟩:=aQ w (.cells #[.int .i64 k,.int .i64 op,.string (aj tbl),.string (aj nm),.int .i64 vk,.int .i64 vn,.string (aj vs),.slice aa nn cc] 130)
 have k0:=aY hcW
 have HLV:=hid (hlvl.out W hbW)
 have HH:=hid h
 have HC:=hid hcW
 have HB:=hid hbW
 have hge:((l:Int)≤(t.lv:Int)):=by omega
 clear hcW hbW ha he h hlvl hok
 generalize hlv:(t.lv:Int)=lv at HLV hge
 clear hlv
 generalize hll:(l:Int)=li at hge ⊢
 clear hll
 go_enter Tryz.func247,Tryz.ntmps247
 go_wp2_with fail
 refine HLV.out.mono ?_
 rintro e w1 ⟨rfl,hb1⟩
 have k1:=aY ((hb1.block w.heap.size hzW).trans HC.out)
 have hB1:=HB.out.trans (hb1.mono HB.out.size)
 have HX1:=hid (hX g tb L d m w1 _ (HH.out.below hB1) (HXV.out.new hB1) hL h0 hdm hd hm)
 have HB1:=hid hB1
 clear hb1 hB1 HLV
 go_wp2_with fail
 refine HX1.out.mono ?_
 rintro e w2 ⟨rfl,h2⟩
 go_wp2
 exact bodyPost_ret (v:=.tuple #[]) (by simp[results,Tryz.results247,go_sem]) rfl ⟨rfl,h2.new HB1.out⟩
theorem yF (l:Nat) (t:Tm) (hok:t.ok) (hl : ¬l≤t.lv) (hD:LQ 0 t t.tk (t.dp+1)):LX l t (aH [40]::(t.tk++[aH [41]])) (t.dp+1):=fun g tb L d m w v h hx hL h0 hdm hd hm=>by
 simp only[List.length_cons,List.length_append,List.length_nil] at hL
 have hlvl:=hid (fun V (hb:Below w.heap.size w V)=>wJ (fun b=>b<g) t hok v V (h.tab.on hb) (hx.new hb))
 have HXV:=hid hx
 obtain⟨k,op,tbl,nm,vk,vn,vs,ys,aa,nn,cc,he,rfl,ha⟩:=hx
 obtain⟨W,hW,hbW,hzW,hcW⟩:=aQ w (.cells #[.int .i64 k,.int .i64 op,.string (aj tbl),.string (aj nm),.int .i64 vk,.int .i64 vn,.string (aj vs),.slice aa nn cc] 130)
 have k0:=aY hcW
 have HLV:=hid (hlvl.out W hbW)
 have HH:=hid h
 have HBX:=hid (fA.mk' h hcW (Nat.le_refl _))
 have HB:=hid hbW
 have hge : ¬((l:Int)≤(t.lv:Int)):=by omega
 clear hcW hbW ha he h hlvl hok
 generalize hlv:(t.lv:Int)=lv at HLV hge
 clear hlv
 generalize hll:(l:Int)=li at hge ⊢
 clear hll
 go_enter Tryz.func247,Tryz.ntmps247
 go_wp2_with fail
 refine HLV.out.mono ?_
 rintro e w1 ⟨rfl,hb1⟩
 have hbx1:=HBX.out.below hb1
 have k1:=aY hbx1.at'
 have hB1:=HB.out.trans (hb1.mono HB.out.size)
 have hw1:=HH.out.below hB1
 have HT:Hid (Calls Tryz.prog 97 #[.pointer (some ⟨g,0,none⟩),.slice (some ⟨w1.heap.size,0,none⟩) 1 1] (w1.alloc (.cells #[.string ⟨#[40]⟩] 9)) fun e w'=>e = .returned (.tuple #[])∧Wrote g tb w1 w' (L++ah [[40]]) d m):=hid (aG g tb L d m [[40]] w1 hw1 (by decide) (by decide) (by simp;omega))
 have HX1:=hid (HXV.out.new hB1)
 have HW1:=hid hw1
 have HBX1:=hid hbx1
 have HB1:=hid hB1
 clear hb1 hB1 HLV hw1 hbx1
 go_wp2_with fail
 refine HT.out.mono ?_
 rintro e w2 ⟨rfl,tb2,hw2,ht2,hf2⟩
 have hbx2:=HBX1.out.on ht2 hf2
 have k2:=aY hbx2.at'
 have HD2:=hid (hD g tb2 (L++ah [[40]]) d m w2 _ hw2 (HX1.out.wz HW1.out hf2) (by simp[ah];omega) h0 hdm hd hm)
 have HT2:=hid ht2
 have HF2:=hid hf2
 clear hw2 ht2 hf2 hbx2 HT
 go_wp2_with fail
 refine HD2.out.mono ?_
 rintro e w3 ⟨rfl,tb3,hw3,ht3,hf3⟩
 have HE:Hid (Calls Tryz.prog 97 #[.pointer (some ⟨g,0,none⟩),.slice (some ⟨w3.heap.size,0,none⟩) 1 1] (w3.alloc (.cells #[.string ⟨#[41]⟩] 9)) fun e w'=>e = .returned (.tuple #[])∧Wrote g tb3 w3 w' (L++ah [[40]]++t.tk++ah [[41]]) d (max m (d+((t.dp+1:Nat):Int)))):=hid (aG g tb3 _ d _ [[41]] w3 hw3 (by decide) (by decide) (by simp[ah];omega))
 have HT3:=hid ht3
 have HF3:=hid hf3
 clear hw3 ht3 hf3 HD2
 go_wp2_with fail
 refine HE.out.mono ?_
 rintro e w4 ⟨rfl,h4⟩
 have HQ:Hid (Wrote g tb w w4 (L++aH [40]::(t.tk++[aH [41]])) d (max m (d+((t.dp+1:Nat):Int)))):=hid (by
  have:=Wrote.new HB1.out (Wrote.then HT2.out HF2.out (Wrote.then HT3.out HF3.out h4))
  simpa [ah] using this)
 clear h4 HE
 go_wp2
 exact bodyPost_end (v:=.tuple #[]) (by simp[results,Tryz.results247,go_sem]) rfl ⟨rfl,HQ.out⟩
theorem qY (l:Nat) (t:Tm) (hok:t.ok) (hX:Io t):LX l t (fU l t.lv t.tk) (lX l t.lv t.dp):=by
 by_cases hl:l≤t.lv
 ·rw[IE hl,I9 hl]
  exact vC l t hok hl hX
 ·rw[IQ hl,Ji hl]
  exact yF l t hok hl (xq 0 t _ _ (vC 0 t hok (Nat.zero_le _) hX))
theorem tQ (l:Nat) (t:Tm) (hok:t.ok) (hX:Io t):LQ l t (fU l t.lv t.tk) (lX l t.lv t.dp+1):=xq l t _ _ (qY l t hok hX)
theorem Gj (g:Nat) (tb:Option Nat) (L:List Tk) (d m:Int) (w:World) (h:cB w g tb L d m) (tn nm:List UInt8) (k op vk vn:Int) (vs:List UInt8) (aa:Option Addr) (nn cc:Nat) (hL:L.length+(Tm.col tn nm).tk.length≤1000000000) :
  Calls Tryz.prog 212 #[.pointer (some ⟨g,0,none⟩),.agg #[.int .i64 k,.int .i64 op,.string (aj tn),.string (aj nm),.int .i64 vk,.int .i64 vn,.string (aj vs),.slice aa nn cc]] w fun e w'=>e = .returned (.tuple #[])∧Wrote g tb w w' (L++(Tm.col tn nm).tk) d m:=by
 obtain⟨W,hW,hbW,hzW,hcW⟩:=aQ w (.cells #[.int .i64 k,.int .i64 op,.string (aj tn),.string (aj nm),.int .i64 vk,.int .i64 vn,.string (aj vs),.slice aa nn cc] 130)
 have k0:=aY hcW
 have hBX:=fA.mk' h hcW (Nat.le_refl _)
 have HBD:=hid hbW.drew
 show Calls Tryz.prog 212 _ _ fun e w'=>_∧Wrote g tb w w' (L++(if tn=[] then [aR nm] else [aR tn,aH [46],aR nm])) d m
 have hL:L.length+(if tn=[] then [aR nm] else [aR tn,aH [46],aR nm]).length≤1000000000:=hL
 by_cases ht:tn=[]
 ·rw[if_pos ht] at hL ⊢
  have hL:L.length+1≤1000000000:=hL
  have hte:((aj tn).toList.isEmpty)=true:=by rw[ht,dO];rfl
  have HN:=hid (dS g tb L d m W.drew (h.below hbW.drew) nm (by omega))
  clear hbW hcW h ht hBX
  generalize aj tn=tns at hte k0 hW ⊢
  go_enter Tryz.func212,Tryz.ntmps212
  go_wp2_with fail
  go_region_with (first
   | (
     go_at_call 99;refine HN.out.mono ?_
     rintro e w1 ⟨rfl,h1⟩)
   | fail)
  all_goals go_wp2
  all_goals exact bodyPost_end (v:=.tuple #[]) (by simp[results,Tryz.results212,go_sem]) rfl ⟨rfl,h1.new HBD.out⟩
 ·rw[if_neg ht] at hL ⊢
  have hL:L.length+3≤1000000000:=hL
  have hte:((aj tn).toList.isEmpty)=false:=by
   cases tn with
   | nil=>exact absurd rfl ht
   | cons x l=>rw[dO];rfl
  have HN:=hid (dS g tb L d m W.drew (h.below hbW.drew) tn (by omega))
  have HBX:=hid (hBX.below (Below.refl _ W).drew)
  clear hbW hcW h ht hBX
  generalize aj tn=tns at hte k0 hW HN HBX ⊢
  go_enter Tryz.func212,Tryz.ntmps212
  go_wp2_with fail
  go_region_with (first
   | (
     go_at_call 99;refine HN.out.mono ?_
     rintro e w1 ⟨rfl,tb1,hw1,ht1,hf1⟩)
   | fail)
  all_goals
   have HT:Hid (Calls Tryz.prog 97 #[.pointer (some ⟨g,0,none⟩),.slice (some ⟨w1.heap.size,0,none⟩) 1 1] (w1.alloc (.cells #[.string ⟨#[46]⟩] 9)) fun e w'=>e = .returned (.tuple #[])∧Wrote g tb1 w1 w' (L++[aR tn]++ah [[46]]) d m):=hid (aG g tb1 _ d m [[46]] w1 hw1 (by decide) (by decide) (by simp;omega))
   have HBX1:=hid (HBX.out.on ht1 hf1)
   have HT1:=hid ht1
   have HF1:=hid hf1
   clear hw1 ht1 hf1 HN HBX
   go_wp2_with fail
   refine HT.out.mono ?_
   rintro e w2 ⟨rfl,tb2,hw2,ht2,hf2⟩
   have hbx2:=HBX1.out.on ht2 hf2
   have k2:=aY hbx2.at'
   have HN2:=hid (dS g tb2 _ d m w2.drew (hw2.below (Below.refl _ w2).drew) nm (by simp[ah];omega))
   have HT2:=hid ht2
   have HF2:=hid hf2
   clear hw2 ht2 hf2 hbx2 HT
   go_wp2_with fail
   go_region_with (first
    | (
      go_at_call 99;refine HN2.out.mono ?_
      rintro e w3 ⟨rfl,h3⟩)
    | fail)
   all_goals go_wp2
   all_goals exact bodyPost_end (v:=.tuple #[]) (by simp[results,Tryz.results212,go_sem]) rfl ⟨rfl,by
    have:=Wrote.new HBD.out (Wrote.then HT1.out HF1.out (Wrote.then HT2.out HF2.out (h3.new (Below.refl _ w2).drew)))
    simpa [ah] using this⟩
theorem FP (a:Tm) (hok:a.ok) (hX:Io a) (k op vk vn:Int) (tn nm vs:List UInt8) (aa:Option Addr) (nn cc:Nat) (ws:List (List UInt8)) (hws : ∀t∈ws,t≠[]) (hwl:ws.length≤10) (wv:Value)
  (g:Nat) (tb:Option Nat) (L:List Tk) (d m:Int) (w:World) (h:cB w g tb L d m) (ha:aV (fun b=>b<g) w [a.ex] (.slice aa nn cc)) (hwv:wR g tb w wv ws) (hL:L.length+((fU 4 a.lv a.tk).length+ws.length)≤1000000000) (h0:0≤d) (hdm:d≤m) (hd:d+(lX 4 a.lv a.dp:Nat)≤1000000000) (hm:m≤1000000000) :
  Calls Tryz.prog 216 #[.pointer (some ⟨g,0,none⟩),.agg #[.int .i64 k,.int .i64 op,.string (aj tn),.string (aj nm),.int .i64 vk,.int .i64 vn,.string (aj vs),.slice aa nn cc],wv] w fun e w'=>e = .returned (.tuple #[])∧Wrote g tb w w' (L++(fU 4 a.lv a.tk++ah ws)) d (max m (d+(lX 4 a.lv a.dp:Nat))):=by
 obtain⟨W,hW,hbW,hzW,hcW⟩:=aQ w (.cells #[.int .i64 k,.int .i64 op,.string (aj tn),.string (aj nm),.int .i64 vk,.int .i64 vn,.string (aj vs),.slice aa nn cc] 130)
 have k0:=aY hcW
 have HB:=hid hbW
 have hla:=fM 4 a.lv a.tk
 have hda:=lJ 4 a.lv a.dp
 obtain⟨h1,h2,h3,b,off,k1,op1,tb1,nm1,vk1,vn1,vs1,ys1,a1,n1,c1,hxe,rfl,_,h7,h8⟩:=gF (ha.new hbW)
 rw[List.length_nil,Nat.zero_add] at h1
 subst h1
 unfold maxLen at h3
 have HF:=hid (qY 4 a hok hX g tb L d m W _ (h.below hbW) (jU.mk' hxe h8) (by omega) h0 hdm (by omega) hm)
 have HWV:=hid (hwv.on (fun k hk=>.inl hk) (ay.aI hbW))
 unfold Cells8 at h7
 clear hbW hcW h h8 ha hwv hxe
 generalize fU 4 a.lv a.tk=T at HF hla hL ⊢
 generalize lX 4 a.lv a.dp=D at HF hda hd ⊢
 obtain⟨wa,wc,rfl,_⟩:=id HWV.out
 go_enter Tryz.func216,Tryz.ntmps216
 go_wp2_with fail
 refine HF.out.mono ?_
 rintro e w1 ⟨rfl,tb2,hw1,ht1,hf1⟩
 have HX:=hid (sD g tb2 _ d _ w1 hw1 _ ws (HWV.out.on ht1 hf1) hws (by simp;omega))
 have HT1:=hid ht1
 have HF1:=hid hf1
 clear hw1 ht1 hf1 HF
 go_wp2_with fail
 refine HX.out.mono ?_
 rintro e w2 ⟨rfl,h2⟩
 have HQ:Hid (Wrote g tb w w2 (L++(T++ah ws)) d (max m (d+(D:Int)))):=hid (by
  have:=Wrote.new HB.out (Wrote.then HT1.out HF1.out h2)
  rwa [List.append_assoc] at this)
 clear h2
 go_wp2
 exact bodyPost_end (v:=.tuple #[]) (by simp[results,Tryz.results216,go_sem]) rfl ⟨rfl,HQ.out⟩
end Go.Proofs.YtaaggohjmhifbaaGreatDoor
