/- Packed for the hand-in: WLev WHeld -/
import Derived.Test.YtfeglkleoijlaaaGreatDoorZ05
import Derived.Test.YtfeglkleoijlaaaGreatDoorZ01
import Derived.OrdersHeld
import Derived.Deep.Quiet
import Derived.BigQuiet
namespace Go.Proofs.YtfeglkleoijlaaaGreatDoor
open Go.RowKit Go.Shelf
set_option linter.unusedSimpArgs false
set_option linter.unusedVariables false
set_option maxRecDepth 20000
set_option maxHeartbeats 8000000
def Cells8 (w:World) (b off:Nat) (k op:Int) (tb nm:List UInt8) (vk vn:Int) (vs:List UInt8) (a:Value):Prop :=
 w.cell? ⟨b,off,none⟩=some (.int .i64 k)∧w.cell? ⟨b,off+1,none⟩=some (.int .i64 op)∧w.cell? ⟨b,off+2,none⟩=some (.string (aj tb))∧w.cell? ⟨b,off+3,none⟩=some (.string (aj nm)) ∧
  w.cell? ⟨b,off+4,none⟩=some (.int .i64 vk)∧w.cell? ⟨b,off+5,none⟩=some (.int .i64 vn)∧w.cell? ⟨b,off+6,none⟩=some (.string (aj vs))∧w.cell? ⟨b,off+7,none⟩=some a
theorem Cells8.on {w w':World} {b off:Nat} {k op:Int} {tb nm:List UInt8} {vk vn:Int} {vs:List UInt8} {a:Value} (h:Cells8 w b off k op tb nm vk vn vs a) {R:Nat→Prop} (hk:aA R w w') (hb : ¬R b):Cells8 w' b off k op tb nm vk vn vs a:=by
 obtain⟨c0,c1,c2,c3,c4,c5,c6,c7⟩:=h
 exact⟨hk.cell c0 hb,hk.cell c1 hb,hk.cell c2 hb,hk.cell c3 hb,hk.cell c4 hb,hk.cell c5 hb,hk.cell c6 hb,hk.cell c7 hb⟩
theorem Cells8.lt {w:World} {b off:Nat} {k op:Int} {tb nm:List UInt8} {vk vn:Int} {vs:List UInt8} {a:Value} (h:Cells8 w b off k op tb nm vk vn vs a):b<w.heap.size:=World.block_lt_of_cell? w _ h.1
theorem Cells8.new {w w':World} {b off:Nat} {k op:Int} {tb nm:List UInt8} {vk vn:Int} {vs:List UInt8} {a:Value} (h:Cells8 w b off k op tb nm vk vn vs a) (hb:Below w.heap.size w w'):Cells8 w' b off k op tb nm vk vn vs a:=h.on (aA.aC (S:=fun _=>False) hb) id
theorem wz {S:Nat→Prop} {w:World} {xs:List Ex} {aa:Option Addr} {nn cc:Nat} (h:bF S w xs (.slice aa nn cc)) {j:Nat} {x:Ex} (hx:xs[j]?=some x) :
  nn=xs.length∧nn≤cc∧cc≤maxLen∧∃(b off:Nat) (k op:Int) (tb nm:List UInt8) (vk vn:Int) (vs:List UInt8) (ys:List Ex) (a1:Option Addr) (n1 c1:Nat),x = .mk k op tb nm ⟨vk,vn,vs⟩ ys∧aa=some ⟨b,off,none⟩∧S b∧Cells8 w b (off+j*8) k op tb nm vk vn vs (.slice a1 n1 c1)∧bF S w ys (.slice a1 n1 c1):=by
 cases h with
 | nil a c hc=>simp at hx
 |
  cons xs b off c avs hne hS hl hc hcell hrec =>
  obtain⟨k,op,tb,nm,⟨vk,vn,vs⟩,ys⟩:=x
  obtain⟨a1,c1,e,_⟩:=(hrec j k op tb nm vk vn vs ys hx).form
  refine ⟨rfl,hl,hc,b,off,k,op,tb,nm,vk,vn,vs,ys,a1,ys.length,c1,rfl,rfl,hS,?_,e ▸ hrec j k op tb nm vk vn vs ys hx⟩
  have:=hcell j k op tb nm vk vn vs ys hx
  rw[e] at this
  exact this
theorem dI {S:Nat→Prop} {w:World} {x:Ex} {l:List Ex} {aa:Option Addr} {nn cc:Nat} (h:bF S w (x::l) (.slice aa nn cc)) :
  nn=l.length+1∧nn≤cc∧cc≤maxLen∧∃(b off:Nat) (k op:Int) (tb nm:List UInt8) (vk vn:Int) (vs:List UInt8) (ys:List Ex) (a1:Option Addr) (n1 c1:Nat),x = .mk k op tb nm ⟨vk,vn,vs⟩ ys∧aa=some ⟨b,off,none⟩∧S b∧Cells8 w b off k op tb nm vk vn vs (.slice a1 n1 c1)∧bF S w ys (.slice a1 n1 c1):=by
 obtain⟨h1,h2,h3,b,off,k,op,tb,nm,vk,vn,vs,ys,a1,n1,c1,h4,h5,h6,h7,h8⟩:=wz h (j:=0) (x:=x) rfl
 rw[Nat.zero_mul,Nat.add_zero] at h7
 exact⟨h1,h2,h3,b,off,k,op,tb,nm,vk,vn,vs,ys,a1,n1,c1,h4,h5,h6,h7,h8⟩
theorem qM (a:Tm) (h:a.zI=false):jH a.ex≠6:=by
 cases a<;>first | (cases h;done) | (simp[jH,Tm.ex,rU,pQ,yQ,gD])
theorem gy (S:Nat→Prop) (x:Ex) (tb nm:List UInt8) (vk vn:Int) (vs:List UInt8) (op:Int) (aa:Option Addr) (nn cc:Nat) (w:World) (ha:bF S w [x] (.slice aa nn cc)) :
  Calls Tryz.prog 162 #[.agg #[.int .i64 4,.int .i64 op,.string (aj tb),.string (aj nm),.int .i64 vk,.int .i64 vn,.string (aj vs),.slice aa nn cc]] w fun e w'=>e = .returned (.bool (jH x==6))∧Below w.heap.size w w':=by
 obtain⟨W,hW,hbW,hzW,hcW⟩:=aL w (.cells #[.int .i64 4,.int .i64 op,.string (aj tb),.string (aj nm),.int .i64 vk,.int .i64 vn,.string (aj vs),.slice aa nn cc] 48)
 have k0:=aN hcW
 obtain⟨h1,h2,h3,b,off,k1,op1,tb1,nm1,vk1,vn1,vs1,ys1,a1,n1,c1,rfl,rfl,_,h7,_⟩:=dI (ha.new hbW)
 unfold Cells8 at h7
 rw[List.length_nil,Nat.zero_add] at h1
 subst h1
 unfold maxLen at h3
 show Calls Tryz.prog 162 _ _ fun e w'=>e = .returned (.bool (k1==6))∧_
 have HB:=hid hbW
 clear hbW hcW ha
 go_enter Tryz.func162,Tryz.ntmps162
 go_wp2
 go_ret
 exact⟨rfl,HB.out⟩
theorem zC {w:World} (h:sZ w) {o:Int} (h1:1≤o) (h2:o≤13):∃n:Nat,o=(n:Int)∧n≤13∧w.cell? ⟨0,n*2,none⟩=some (.string (aj (oh o)))∧w.cell? ⟨0,n*2+1,none⟩=some (.int .i64 (cZ o)) :=
 ⟨o.toNat,by omega,by omega,by have:=h o.toNat (by omega);rw[show ((o.toNat:Nat):Int)=o by omega] at this;exact this⟩
theorem sW (S:Nat→Prop) (t:Tm) (hok:t.ok) (v:Value) (w:World) (hO:eH w) (hx:fB S w t.ex v) :
  Calls Tryz.prog 173 #[v] w fun e w'=>e = .returned (.int .i64 (t.lv:Int))∧Below w.heap.size w w':=by
 obtain⟨k,op,tb,nm,vk,vn,vs,ys,aa,nn,cc,he,rfl,ha⟩:=hx
 obtain⟨W,hW,hbW,hzW,hcW⟩:=aL w (.cells #[.int .i64 k,.int .i64 op,.string (aj tb),.string (aj nm),.int .i64 vk,.int .i64 vn,.string (aj vs),.slice aa nn cc] 48)
 have k0:=aN hcW
 have HB:=hid hbW
 have hOW:=(hO.on hbW).ops
 cases t with
 |
  val x =>
  simp only[Tm.ex,rU,Ex.mk.injEq] at he
  obtain⟨rfl,-⟩:=he
  clear hcW hbW ha hO hOW
  go_enter Tryz.func173,Tryz.ntmps173
  go_wp2
  go_ret
  exact⟨rfl,HB.out.alloc HB.out.size _⟩
 |
  col x y =>
  simp only[Tm.ex,pQ,Ex.mk.injEq] at he
  obtain⟨rfl,-⟩:=he
  clear hcW hbW ha hO hOW
  go_enter Tryz.func173,Tryz.ntmps173
  go_wp2
  go_ret
  exact⟨rfl,HB.out.alloc HB.out.size _⟩
 |
  op o a b =>
  simp only[Tm.ex,yQ,Ex.mk.injEq] at he
  obtain⟨rfl,rfl,-⟩:=he
  obtain⟨n,hn,hn13,_,hc⟩:=zC hOW hok.1 hok.2.1
  show Calls Tryz.prog 173 _ _ fun e w'=>e = .returned (.int .i64 (cZ o:Int))∧_
  generalize cZ o=lv at hc ⊢
  have h1:=hok.1
  subst hn
  have hn14:((n:Int)<14):=by omega
  clear hcW hbW ha hO hOW hok
  go_enter Tryz.func173,Tryz.ntmps173
  go_wp2
  go_ret
  exact⟨rfl,HB.out⟩
 |
  not a =>
  simp only[Tm.ex,gD,Ex.mk.injEq] at he
  obtain⟨rfl,rfl,rfl,rfl,hv,rfl⟩:=he
  have HN:=hid (gy S a.ex [] [] vk vn vs 0 aa nn cc W (ha.new hbW))
  have h6:(jH a.ex==6)=false:=by have:=qM a hok.1;simpa using this
  rw[h6] at HN
  clear hcW hbW ha hO hOW hok hv h6
  go_enter Tryz.func173,Tryz.ntmps173
  go_wp2_with fail
  refine HN.out.mono ?_
  rintro e w1 ⟨rfl,hb1⟩
  have k1:=aN ((hb1.block w.heap.size hzW).trans (by rw[← hW];exact heap_alloc_new _ _))
  have HB1:=hid (HB.out.trans (hb1.mono (Nat.le_of_lt hzW)))
  clear hb1 HN
  go_wp2
  go_ret
  exact⟨rfl,HB1.out⟩
 |
  neg a =>
  simp only[Tm.ex,gD,Ex.mk.injEq] at he
  obtain⟨rfl,-⟩:=he
  clear hcW hbW ha hO hOW
  go_enter Tryz.func173,Tryz.ntmps173
  go_wp2
  go_ret
  exact⟨rfl,HB.out.alloc HB.out.size _⟩
 |
  nul a =>
  simp only[Tm.ex,gD,Ex.mk.injEq] at he
  obtain⟨rfl,-⟩:=he
  clear hcW hbW ha hO hOW
  go_enter Tryz.func173,Tryz.ntmps173
  go_wp2
  go_ret
  exact⟨rfl,HB.out⟩
 |
  nnul a =>
  simp only[Tm.ex,gD,Ex.mk.injEq] at he
  obtain⟨rfl,rfl,rfl,rfl,hv,rfl⟩:=he
  have HN:Hid (Calls Tryz.prog 162 #[.agg #[.int .i64 4,.int .i64 0,.string (aj []),.string (aj []),.int .i64 vk,.int .i64 vn,.string (aj vs),.slice aa nn cc]] W fun e w'=>e = .returned (.bool true)∧Below W.heap.size W w'):=hid (gy S _ [] [] vk vn vs 0 aa nn cc W (ha.new hbW))
  clear hcW hbW ha hO hOW hok hv
  go_enter Tryz.func173,Tryz.ntmps173
  go_wp2_with fail
  refine HN.out.mono ?_
  rintro e w1 ⟨rfl,hb1⟩
  have HB1:=hid (HB.out.trans (hb1.mono (Nat.le_of_lt hzW)))
  clear hb1 HN
  go_wp2
  go_ret
  exact⟨rfl,HB1.out⟩
theorem tq (g:Nat) (tb:Option Nat) (L:List Tk) (d m:Int) (w:World) (h:bJ w g tb L d m) (v:Vl) (hv:gK v=true) (hL:L.length+(iX v).length≤1000000000) :
  Calls Tryz.prog 131 #[.pointer (some ⟨g,0,none⟩),.agg #[.int .i64 v.k,.int .i64 v.n,.string (aj v.s)]] w fun e w'=>e = .returned (.tuple #[])∧Wrote g tb w w' (L++iX v) d m:=by
 obtain⟨vk,vn,vs⟩:=v
 dsimp only
 have hl2:=pJ ⟨vk,vn,vs⟩
 obtain⟨W,hW,hbW,hzW,hcW⟩:=aL w (.cells #[.int .i64 vk,.int .i64 vn,.string (aj vs)] 46)
 have k0:=gN hcW
 have HW:=hid (h.below hbW)
 have HWD:=hid (h.below hbW.drew)
 have HB:=hid hbW
 have HBD:=hid hbW.drew
 have HC:=hid hcW
 rcases u7 hv with⟨h1,h2,h3⟩ | ⟨h1,h2,h3⟩ | ⟨h1,h2,h3⟩
 ·dsimp only at h1;subst h1
  have HT:=hid (G9 g tb L d m W.drew HWD.out vs (by omega))
  clear hbW hcW h hv h2 h3 HC
  go_enter Tryz.func131,Tryz.ntmps131
  go_wp2_with fail
  go_region_with (first
   | (
     go_at_call 160;refine HT.out.mono ?_
     rintro e w1 ⟨rfl,h1⟩)
   | fail)
  all_goals go_wp2
  all_goals exact bodyPost_end (v:=.tuple #[]) (by simp[results,Tryz.results131,go_sem]) rfl ⟨rfl,h1.new HBD.out⟩
 ·dsimp only at h1;subst h1
  have HT:Hid (Calls Tryz.prog 98 #[.pointer (some ⟨g,0,none⟩),.slice (some ⟨W.heap.size,0,none⟩) 1 1] (W.alloc (.cells #[.string ⟨#[78,85,76,76]⟩] 9)) fun e w'=>e = .returned (.tuple #[])∧Wrote g tb W w' (L++au [[78,85,76,76]]) d m):=hid (aG g tb L d m [[78,85,76,76]] W HW.out (by decide) (by decide) (by simp;omega))
  clear hbW hcW h hv h2 h3 HC
  go_enter Tryz.func131,Tryz.ntmps131
  go_wp2_with fail
  refine HT.out.mono ?_
  rintro e w1 ⟨rfl,h1⟩
  go_wp2
  exact bodyPost_end (v:=.tuple #[]) (by simp[results,Tryz.results131,go_sem]) rfl ⟨rfl,h1.new HB.out⟩
 ·dsimp only at h1 h3;subst h1
  have e:iX ⟨1,vn,vs⟩=if vn<0 then [aK [45],mV (-vn)] else [mV vn]:=rfl
  rw[e] at hL hl2 ⊢
  by_cases hn:vn<0
  ·rw[if_pos hn] at hL hl2 ⊢
   have hL:L.length+2≤1000000000:=hL
   have HT:Hid (Calls Tryz.prog 98 #[.pointer (some ⟨g,0,none⟩),.slice (some ⟨W.heap.size,0,none⟩) 1 1] (W.alloc (.cells #[.string ⟨#[45]⟩] 9)) fun e w'=>e = .returned (.tuple #[])∧Wrote g tb W w' (L++au [[45]]) d m):=hid (aG g tb L d m [[45]] W HW.out (by decide) (by decide) (by simp;omega))
   have HBX:=hid (dn.mk' h hcW (Nat.le_refl _))
   have hneg:IntKind.i64.wrap (-vn) = -vn:=by rw[IntKind.wrap_i64];omega
   clear hbW hcW h hv h2 HC h3
   go_enter Tryz.func131,Tryz.ntmps131
   go_wp2_with fail
   refine HT.out.mono ?_
   rintro e w1 ⟨rfl,h1⟩
   obtain⟨tb1,hw1,ht1,hf1⟩:=h1
   have hbx:=(HBX.out.on ht1 hf1).at'
   have k1:=gN hbx
   have HN:=hid (je g tb1 _ d m w1.drew (hw1.below (Below.refl _ w1).drew) (-vn) (by simp[au];omega))
   have HT1:=hid ht1
   have HF1:=hid hf1
   clear hw1 ht1 hf1 HT hbx
   go_wp2_with fail
   go_region_with (first
    | (
      go_at_call 150;refine HN.out.mono ?_
      rintro e w2 ⟨rfl,h2⟩)
    | fail)
   all_goals go_wp2
   all_goals exact bodyPost_end (v:=.tuple #[]) (by simp[results,Tryz.results131,go_sem]) rfl ⟨rfl,by
    have:=Wrote.new HB.out (Wrote.then HT1.out HF1.out (h2.new (Below.refl _ w1).drew))
    simpa [au] using this⟩
  ·rw[if_neg hn] at hL hl2 ⊢
   have HN:=hid (je g tb L d m W.drew HWD.out vn (by omega))
   clear hbW hcW h hv h2 HC
   go_enter Tryz.func131,Tryz.ntmps131
   go_wp2_with fail
   go_region_with (first
    | (
      go_at_call 150;refine HN.out.mono ?_
      rintro e w1 ⟨rfl,h1⟩)
    | fail)
   all_goals go_wp2
   all_goals exact bodyPost_end (v:=.tuple #[]) (by simp[results,Tryz.results131,go_sem]) rfl ⟨rfl,h1.new HBD.out⟩
end Go.Proofs.YtfeglkleoijlaaaGreatDoor
namespace Go.Proofs.YtfeglkleoijlaaaGreatDoor
open Go.RowKit
set_option linter.unusedSimpArgs false
set_option linter.unusedVariables false
set_option maxRecDepth 20000
set_option maxHeartbeats 8000000
section
variable {P : Program} {md : Region.Mode} {ops : Array Oper} {Q : Exit → Act → World → Prop} {S : World → Prop} {k0 : Nat}
def cO (P:Program) (md:Region.Mode) (ops:Array Oper) (Q:Exit→Act→World→Prop) (S:World→Prop) (k0:Nat):Nat→Array Bool→Act→World→Prop
 | 0,listed,a,w=>Region.ready md ops listed=[]∧Q .normal a w
 |
  fuel+1,listed,a,w =>
  (Region.ready md ops listed=[]→Q .normal a w) ∧
  ∀i∈Region.ready md ops listed,wpOp P ops Q i (fun a' w'=>(S w'∨i=k0)∧cO P md ops Q S k0 fuel (listed.setIfInBounds i true) a' w') a w
theorem oV : ∀(fuel:Nat) (listed:Array Bool) (a:Act) (w:World),cO P md ops Q S k0 fuel listed a w→wpAny P md ops Q fuel listed a w
 | 0,_,_,_,h=>h
 | fuel+1,_,_,_,h=>⟨h.1,fun i hi=>wpOp_mono (fun a' w' h'=>oV fuel _ a' w' h'.2) (h.2 i hi)⟩
def Legal (md:Region.Mode) (ops:Array Oper) (listed:Array Bool):Prop :=
 ∀j oj,ops[j]?=some oj→listed.getD j false=true→∀e∈oj.after,Region.binds md e=true→listed.getD e.on false=true
def uU (md:Region.Mode) (ops:Array Oper) (listed:Array Bool):Bool :=
 (List.range ops.size).all fun j=>!listed.getD j false||((ops[j]?).map (·.after.all fun e=>!Region.binds md e||listed.getD e.on false)).getD true
theorem nU {listed:Array Bool} (h:uU md ops listed=true):Legal md ops listed:=fun j oj hj hl e he hb=>by
 simp only[uU,List.all_eq_true,List.mem_range] at h
 have h1:=h j (Array.getElem?_eq_some_iff.1 hj).1
 simp only[hj,hl,Option.map_some,Option.getD_some,Bool.not_true,Bool.false_or,Array.all_eq_true_iff_forall_mem,Bool.or_eq_true,Bool.not_eq_true'] at h1
 rcases h1 e he with h2 | h2
 ·rw[h2] at hb;cases hb
 ·exact h2
theorem Legal.step {listed:Array Bool} {j:Nat} (h:Legal md ops listed) (hj:j∈Region.ready md ops listed):Legal md ops (listed.setIfInBounds j true):=fun k ok hk hl e he hb=>by
 by_cases hjk:j=k
 ·subst hjk
  obtain⟨_,o,ho,hall⟩:=mem_ready.1 hj
  rw[ho] at hk
  cases hk
  exact getD_set_true (hall e he hb)
 ·rw[getD_set_ne false hjk] at hl
  exact getD_set_true (h k ok hk hl e he hb)
def iM (md:Region.Mode) (ops:Array Oper):Nat→Nat→Nat→Bool
 | 0,_,_=>false
 | f+1,k,i=>((ops[k]?).map (·.after.any fun e=>Region.binds md e&&(e.on==i||iM md ops f e.on i))).getD false
theorem mH {listed:Array Bool} (hL:Legal md ops listed) (i:Nat):∀(f k:Nat),iM md ops f k i=true→listed.getD k false=true→listed.getD i false=true
 | 0,k,h,_=>by cases h
 |
  f+1,k,h,hk=>by
  unfold iM at h
  cases ho:ops[k]? with
  | none=>rw[ho] at h;cases h
  |
   some o =>
   rw[ho] at h
   simp only[Option.map_some,Option.getD_some] at h
   obtain⟨e,he,hb⟩:=Array.any_eq_true'.1 h
   simp only[Bool.and_eq_true,Bool.or_eq_true,beq_iff_eq] at hb
   have h1:=hL k o ho hk e he hb.1
   rcases hb.2 with h2 | h2
   ·rw[h2] at h1;exact h1
   ·exact mH hL i f e.on h2 h1
theorem nP {listed:Array Bool} (hL:Legal md ops listed) {i f:Nat} (h:iM md ops f k0 i=true) (hr:k0∈Region.ready md ops listed):listed.getD i false=true:=by
 have h1:=mH (hL.step hr) i f k0 h (by
  have h0:=(mem_ready.1 hr).1
  have hlt:k0<listed.size:=by
   rcases Nat.lt_or_ge k0 listed.size with h' | h'
   ·exact h'
   ·simp[Array.getElem?_eq_none h'] at h0
  simp[hlt])
 by_cases hik:k0=i
 ·subst hik
  exfalso
  cases f with
  | zero=>cases h
  |
   succ f =>
   have hh : ∀(f k:Nat),iM md ops f k k0=true→(∀o,ops[k]?=some o→∀e∈o.after,Region.binds md e=true→listed.getD e.on false=true)→listed.getD k0 false=true:=by
    intro f
    induction f with
    | zero=>intro k h _;cases h
    |
     succ f ih =>
     intro k h hk
     unfold iM at h
     cases ho:ops[k]? with
     | none=>rw[ho] at h;cases h
     |
      some o =>
      rw[ho] at h
      simp only[Option.map_some,Option.getD_some] at h
      obtain⟨e,he,hb⟩:=Array.any_eq_true'.1 h
      simp only[Bool.and_eq_true,Bool.or_eq_true,beq_iff_eq] at hb
      have h1:=hk o ho e he hb.1
      rcases hb.2 with h2 | h2
      ·rw[h2] at h1;exact h1
      ·exact ih e.on h2 (fun o' ho' e' he' hb'=>hL e.on o' ho' h1 e' he' hb')
   obtain⟨h0,o,ho,hall⟩:=mem_ready.1 hr
   have h2:=hh (f+1) k0 h (fun o' ho'=>by rw[ho] at ho';cases ho';exact hall)
   rcases Nat.lt_or_ge k0 listed.size with h' | h'
   ·simp[h'] at h0 h2;rw[h0] at h2;cases h2
   ·simp[Array.getElem?_eq_none h'] at h2
 ·rw[getD_set_ne false hik] at h1
  exact h1
theorem uO {i:Nat} {oi:Oper} {v:Value} {f:Nat} (hi:ops[i]?=some oi) (hsel : ∀(j:Nat) (o:Oper) cs b,ops[j]?=some o→o.op≠.select cs b) (hlead:iM md ops f k0 i=true)
  (hQ : ∀c a w,Q (.panic c) (a.put oi.dst v) w→Q (.panic c) a w) :
  ∀
   (fuel:Nat) (listed:Array Bool) (a:Act) (w:World),Legal md ops listed →
   (∀j oj,ops[j]?=some oj→j≠i→listed.getD j true=false→(∀e∈oj.after,Region.binds md e=true→e.on≠i)→oi.apart ops oj=true) →
   i∈Region.ready md ops listed→YieldsIf P ops S oi v a→S w →
   cO P md ops Q S k0 fuel (listed.setIfInBounds i true) (a.put oi.dst v) w→cO P md ops Q S k0 (fuel+1) listed a w:=by
 intro fuel
 induction fuel with
 |
  zero =>
  intro listed a w _ _ hr hy hS H
  refine ⟨fun h=>(by rw[h] at hr;cases hr),fun j hj=>?_⟩
  by_cases hji:j=i
  ·subst hji;exact hy.wpOp hi hS ⟨.inl hS,H⟩
  ·have:=ready_mono hj hji
   rw[H.1] at this
   cases this
 |
  succ fuel ih =>
  intro listed a w hleg hfree hr hy hS H
  refine ⟨fun h=>(by rw[h] at hr;cases hr),fun j hj=>?_⟩
  by_cases hji:j=i
  ·subst hji;exact hy.wpOp hi hS ⟨.inl hS,H⟩
  ·have h1:=H.2 j (ready_mono hj hji)
   have hjk:j≠k0:=fun e=>by
    subst e
    have h2:=nP hleg hlead hj
    have h0:=(mem_ready.1 hr).1
    rcases Nat.lt_or_ge i listed.size with h' | h'
    ·simp[h'] at h0 h2;rw[h0] at h2;cases h2
    ·simp[Array.getElem?_eq_none h'] at h2
   obtain⟨hjun,oj,hoj,hall⟩:=mem_ready.1 hj
   have hnot : ∀e∈oj.after,Region.binds md e=true→e.on≠i:=fun e he hb heq=>by
    have h1:=hall e he hb
    have h0:=(mem_ready.1 hr).1
    rw[heq] at h1
    rcases Nat.lt_or_ge i listed.size with h' | h'
    ·simp[h'] at h0 h1;rw[h0] at h1;cases h1
    ·simp[Array.getElem?_eq_none h'] at h1
   have h2:=wpOp_putIf hoj (hfree j oj hoj hji hjun hnot) (fun cs b=>hsel i oi cs b hi) (fun cs b=>hsel j oj cs b hoj) hQ hy h1
   have hfree' : ∀k ok,ops[k]?=some ok→k≠i→(listed.setIfInBounds j true).getD k true=false →
     (∀e∈ok.after,Region.binds md e=true→e.on≠i)→oi.apart ops ok=true:=fun k ok hk hki hun hno=>by
    refine hfree k ok hk hki ?_ hno
    by_cases hjk:j=k
    ·subst hjk;exact hjun
    ·rw[getD_set_ne true hjk] at hun;exact hun
   refine wpOp_mono (fun a' w' h3=>?_) h2
   have hS3:S w':=h3.2.1.resolve_right hjk
   refine ⟨.inl hS3,ih (listed.setIfInBounds j true) a' w' (hleg.step hj) hfree' (ready_mono hr (Ne.symm hji)) h3.1 hS3 ?_⟩
   rw[Array.setIfInBounds_comm _ _ hji]
   exact h3.2.2
theorem aI {i:Nat} {oi:Oper} {v:Value} {fuel:Nat} {listed:Array Bool} {a:Act} {w:World} (hi:ops[i]?=some oi)
  (hs:Region.noSelect ops=true) (hf:Region.free md ops listed i=true) (hr:(Region.ready md ops listed).contains i=true) (hl:uU md ops listed=true) (hlead:iM md ops 40 k0 i=true)
  (hQ : ∀c a w,Q (.panic c) (a.put oi.dst v) w→Q (.panic c) a w) (hy:YieldsIf P ops S oi v a) (hS:S w)
  (h:cO P md ops Q S k0 fuel (listed.setIfInBounds i true) (a.put oi.dst v) w):cO P md ops Q S k0 (fuel+1) listed a w :=
 uO hi (Region.noSelect_spec hs) hlead hQ fuel listed a w (nU hl) (Region.free_spec hi hf) (by simpa using hr) hy hS h
theorem iA {rs:List Nat} {fuel:Nat} {listed:Array Bool} {a:Act} {w:World} (hr:Region.ready md ops listed=rs) (hne:rs≠[])
  (h : ∀i∈rs,wpOp P ops Q i (fun a' w'=>(S w'∨i=k0)∧cO P md ops Q S k0 fuel (listed.setIfInBounds i true) a' w') a w):cO P md ops Q S k0 (fuel+1) listed a w :=
 ⟨fun h0=>absurd (hr ▸ h0) hne,hr ▸ h⟩
theorem fC {listed:Array Bool} {a:Act} {w:World} (hr:Region.ready md ops listed=[]) (h:Q .normal a w) :
  ∀fuel,cO P md ops Q S k0 fuel listed a w
 | 0=>⟨hr,h⟩
 | _+1=>⟨fun _=>h,by rw[hr];simp⟩
end
section
variable {P : Program} {md : Region.Mode} {ops : Array Oper} {Q : Exit → Act → World → Prop} {S : World → Prop} {fuel : Nat} {listed : Array Bool} {a : Act} {w : World} {i k0 : Nat} {oi : Oper}
theorem fZ (hr:Region.ready md ops listed=[i]) (hi:ops[i]?=some oi) (gi:oi.guard=none)
  (h:oi.wp P a w (fun a' w'=>(S w'∨i=k0)∧cO P md ops Q S k0 fuel (listed.setIfInBounds i true) a' w') Q):cO P md ops Q S k0 (fuel+1) listed a w:=by
 refine iA hr (by simp) fun k hk=>?_
 simp only[List.mem_cons,List.not_mem_nil,or_false] at hk
 subst hk
 unfold wpOp
 simp only[hi,show Region.wanted oi (yielded ops a.tmps)=true by simp[Region.wanted,gi],if_true]
 exact .inl h
theorem wQ {v:Value} {w':World} (hr:Region.ready md ops listed=[i]) (hi:ops[i]?=some oi) (gi:oi.guard=none) (hrun:(execOp a.eval oi).run P w = .ok (.value v) w') (hS:S w')
  (h:cO P md ops Q S k0 fuel (listed.setIfInBounds i true) (a.put oi.dst v) w'):cO P md ops Q S k0 (fuel+1) listed a w :=
 fZ hr hi gi (by
  unfold Oper.wp
  rw[hrun]
  exact⟨.inl hS,h⟩)
def Only (Q:Exit→Act→World→Prop):Exit→Act→World→Prop
 | .normal,a,w=>Q .normal a w
 | _,_,_=>False
theorem iE {id:Nat} (S:World→Prop) (k0:Nat) (hm:P.follows .mixedOrders=true) (h:cO P .any ops (Only Q) S k0 ops.size (Array.replicate ops.size false) a w.drew):(Code.region id ops true).wp P Q a w :=
 wp_mono (wp_region_any hm (oV _ _ _ _ h)) (fun e a w h=>by cases e<;>first | exact h | exact h.elim)
theorem qR (hr:Region.ready md ops listed=[i]) (hi:ops[i]?=some oi) (hw:Region.wanted oi (yielded ops a.tmps)=false) (hS:S w)
  (h:cO P md ops Q S k0 fuel (listed.setIfInBounds i true) (a.put oi.dst undef) w):cO P md ops Q S k0 (fuel+1) listed a w:=by
 refine iA hr (by simp) fun k hk=>?_
 simp only[List.mem_cons,List.not_mem_nil,or_false] at hk
 subst hk
 unfold wpOp
 simp only[hi,hw,Bool.false_eq_true,if_false]
 exact⟨.inl hS,h⟩
theorem wL {f:FuncId} {xs:Array Operand} {ts:Array TypeId} (args:Array Value) (R:Value→World→Prop) (hr:Region.ready md ops listed=[i]) (hi:ops[i]?=some oi) (hw:Region.wanted oi (yielded ops a.tmps)=true)
  (ki:oi.op = .call { callee:=.value (.func f),args:=xs,argTypes:=ts }) (ea:xs.map a.eval=args) (ef : ∀args w,(callFunc f args).run P w = .ok (.enter f args) w)
  (hc:Calls P f args w fun e w'=>∃v,e = .returned v∧R v w')
  (h : ∀v w',R v w'→S w'∧cO P md ops Q S k0 fuel (listed.setIfInBounds i true) (a.put oi.dst v) w'):cO P md ops Q S k0 (fuel+1) listed a w:=by
 refine iA hr (by simp) fun k hk=>?_
 simp only[List.mem_cons,List.not_mem_nil,or_false] at hk
 subst hk
 unfold wpOp
 simp only[hi,hw,if_true]
 refine .inl ?_
 unfold Oper.wp execOp
 simp only[ki,resolve,ea,Act.eval,Deferred.ofValue,invoke,Sem.run_bind,Sem.run_pure,Result.andThen_ok,Array.append_empty,Array.empty_append,ef]
 exact hc.mono fun e w' ⟨v,he,hR⟩=>by subst he;exact⟨.inl (h v w' hR).1,(h v w' hR).2⟩
theorem wX {f:FuncId} {x:Operand} {lb:Array Value} {xs:Array Operand} {ts:Array TypeId} (args:Array Value) (R:Value→World→Prop) (hr:Region.ready md ops listed=[i]) (hi:ops[i]?=some oi) (hw:Region.wanted oi (yielded ops a.tmps)=true)
  (ki:oi.op = .call { callee:=.value x,args:=xs,argTypes:=ts }) (ex:a.eval x = .func (.func f) #[] lb) (ea:xs.map a.eval=args) (ef : ∀args w,(callFunc f args).run P w = .ok (.enter f args) w)
  (hc:Calls P f (args++lb) w fun e w'=>∃v,e = .returned v∧R v w')
  (h : ∀v w',R v w'→S w'∧cO P md ops Q S k0 fuel (listed.setIfInBounds i true) (a.put oi.dst v) w'):cO P md ops Q S k0 (fuel+1) listed a w:=by
 refine iA hr (by simp) fun k hk=>?_
 simp only[List.mem_cons,List.not_mem_nil,or_false] at hk
 subst hk
 unfold wpOp
 simp only[hi,hw,if_true]
 refine .inl ?_
 unfold Oper.wp execOp
 simp only[ki,resolve,ea,ex,Deferred.ofValue,invoke,Sem.run_bind,Sem.run_pure,Result.andThen_ok,Array.append_empty,Array.empty_append,ef]
 exact hc.mono fun e w' ⟨v,he,hR⟩=>by subst he;exact⟨.inl (h v w' hR).1,(h v w' hR).2⟩
end
end Go.Proofs.YtfeglkleoijlaaaGreatDoor
