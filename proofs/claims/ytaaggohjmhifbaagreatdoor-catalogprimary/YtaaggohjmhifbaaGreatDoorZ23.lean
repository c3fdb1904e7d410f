/- Packed for the hand-in: WRight WRightE -/
import Derived.Test.YtaaggohjmhifbaaGreatDoorZ22
namespace Go.Proofs.YtaaggohjmhifbaaGreatDoor
open Go.RowKit Go.Shelf
set_option linter.unusedSimpArgs false
set_option linter.unusedVariables false
set_option maxRecDepth 20000
set_option maxHeartbeats 8000000
inductive rT:Ex→Prop
 | mk (k op:Int) (tb nm:List UInt8) (v:Vl) (xs:List Ex) (h1 : -9223372036854775808≤v.n) (h2:v.n≤9223372036854775807) (h3:v.s.length≤9223372036854775807) (h4:tb.length≤9223372036854775807) (h5:nm.length≤9223372036854775807) (hx : ∀x∈xs,rT x):rT (.mk k op tb nm v xs)
theorem iZ (s:List UInt8):(aj s).toList.isEmpty=decide (s=[]):=by
 rw[dO]
 cases s<;>simp
theorem Dw (s:List UInt8) (w:World) (hs:s.length≤9223372036854775807) :
  Calls Tryz.prog 157 #[.string (aj s)] w fun e w'=>e = .returned (.bool (mV s))∧Below w.heap.size w w':=by
 have HN:=hid (kN s w hs)
 have he:=iZ s
 by_cases h0:s=[]
 ·have hd:mV s=true:=by unfold mV;rw[decide_eq_true h0];rfl
  rw[hd]
  rw[decide_eq_true h0] at he
  clear hd h0
  generalize aj s=S at HN he ⊢
  go_enter Tryz.func157,Tryz.ntmps157
  go_wp2
  go_ret
  exact⟨rfl,Below.refl _ _⟩
 ·have hd:mV s=bL s:=by unfold mV;rw[decide_eq_false h0];rfl
  rw[hd]
  rw[decide_eq_false h0] at he
  clear hd h0
  generalize aj s=S at HN he ⊢
  go_enter Tryz.func157,Tryz.ntmps157
  go_wp2_with fail
  refine HN.out.mono ?_
  rintro e w1 ⟨rfl,hb1⟩
  have HB:=hid hb1
  clear hb1 HN
  go_wp2
  go_ret
  exact⟨rfl,HB.out⟩
theorem F5 (o:Int) (w:World):Calls Tryz.prog 158 #[.int .i64 o] w fun e w'=>e = .returned (.bool (decide (1≤o∧o≤13)))∧w'=w:=by
 by_cases h1:1≤o
 ·by_cases h2:o≤13
  ·rw[decide_eq_true ⟨h1,h2⟩]
   have h2':o<14:=by omega
   go_enter Tryz.func158,Tryz.ntmps158
   go_wp2
   go_ret
   exact⟨rfl,rfl⟩
  ·rw[decide_eq_false (fun h=>h2 h.2)]
   have h2' : ¬o<14:=by omega
   clear h2
   go_enter Tryz.func158,Tryz.ntmps158
   go_wp2
   go_ret
   exact⟨rfl,rfl⟩
 ·rw[decide_eq_false (fun h=>h1 h.1)]
  go_enter Tryz.func158,Tryz.ntmps158
  go_wp2
  go_ret
  exact⟨rfl,rfl⟩
theorem oP (k n:Int) (s:List UInt8) (w:World) (h1 : -9223372036854775808≤n) (h2:n≤9223372036854775807) (hs:s.length≤9223372036854775807) :
  Calls Tryz.prog 156 #[.agg #[.int .i64 k,.int .i64 n,.string (aj s)]] w fun e w'=>e = .returned (.bool (gG ⟨k,n,s⟩))∧Below w.heap.size w w':=by
 obtain⟨W,hW,hbW,hzW,hcW⟩:=aQ w (.cells #[.int .i64 k,.int .i64 n,.string (aj s)] 128)
 have k0:=kG hcW
 have HR:=hid (EB k n s W hs)
 have HB:=hid hbW
 have HC:=hid hcW
 have hd:gG ⟨k,n,s⟩=(decide (jc ⟨k,n,s⟩=0)&&decide (n≠-9223372036854775808)):=by
  unfold gG
  dsimp only
  congr 1
  rw[Bool.eq_iff_iff,decide_eq_true_eq,decide_eq_true_eq]
  omega
 rw[hd]
 clear hd hbW hcW
 by_cases h0:jc ⟨k,n,s⟩=0
 ·rw[h0] at HR
  rw[decide_eq_true h0,Bool.true_and]
  clear h0
  by_cases hm:n = -9223372036854775808
  ·have hm':(n != -9223372036854775808)=false:=by rw[hm];rfl
   rw[decide_eq_false (fun h=>h hm)]
   clear hm h1 h2
   go_enter Tryz.func156,Tryz.ntmps156
   go_wp2_with fail
   refine HR.out.mono ?_
   rintro e w1 ⟨rfl,hb1⟩
   have k1:=kG ((hb1.block w.heap.size hzW).trans HC.out)
   have HB1:=hid (HB.out.trans (hb1.mono HB.out.size))
   clear hb1 HR
   go_wp2
   go_ret
   exact⟨rfl,HB1.out⟩
  ·have hm':(n != -9223372036854775808)=true:=by rw[bne_iff_ne];exact hm
   rw[decide_eq_true hm]
   clear hm h1 h2
   go_enter Tryz.func156,Tryz.ntmps156
   go_wp2_with fail
   refine HR.out.mono ?_
   rintro e w1 ⟨rfl,hb1⟩
   have k1:=kG ((hb1.block w.heap.size hzW).trans HC.out)
   have HB1:=hid (HB.out.trans (hb1.mono HB.out.size))
   clear hb1 HR
   go_wp2
   go_ret
   exact⟨rfl,HB1.out⟩
 ·rw[decide_eq_false h0,Bool.false_and]
  have h0':(((jc ⟨k,n,s⟩:Nat):Int)==0)=false:=by rw[beq_eq_false_iff_ne];omega
  generalize ((jc ⟨k,n,s⟩:Nat):Int)=r at HR h0'
  clear h0 h1 h2
  go_enter Tryz.func156,Tryz.ntmps156
  go_wp2_with fail
  refine HR.out.mono ?_
  rintro e w1 ⟨rfl,hb1⟩
  have HB1:=hid (HB.out.trans (hb1.mono HB.out.size))
  clear hb1 HR
  go_wp2
  go_ret
  exact⟨rfl,HB1.out⟩
def BA (op:Int) (tb nm:List UInt8) (v:Vl) (n:Nat):Bool:=decide (op=0)&&(decide (tb=[])&&(decide (nm=[])&&(eqv v zV&&decide (n=0))))
theorem vZ (op:Int) (tb nm:List UInt8) (vk vn:Int) (vs:List UInt8) (aa:Option Addr) (nn cc:Nat) (w:World) :
  Calls Tryz.prog 159 #[.agg #[.int .i64 0,.int .i64 op,.string (aj tb),.string (aj nm),.int .i64 vk,.int .i64 vn,.string (aj vs),.slice aa nn cc]] w fun e w'=>e = .returned (.bool (BA op tb nm ⟨vk,vn,vs⟩ nn))∧Below w.heap.size w w':=by
 have htb:=iZ tb
 have hnm:=iZ nm
 have heq : ∀W,(binOp .eql 128 (.agg #[.int .i64 vk,.int .i64 vn,.string (aj vs)]) (.agg #[.int .i64 0,.int .i64 0,.string ⟨#[]⟩])).run Tryz.prog W = .ok (.bool (eqv ⟨vk,vn,vs⟩ zV)) W:=fun W=>IC ⟨vk,vn,vs⟩ zV W
 have hgd:=Tryz.vT
 unfold BA
 by_cases h1:op=0
 ·rw[decide_eq_true h1,Bool.true_and]
  have g1:(op==0)=true:=by rw[h1];rfl
  by_cases h2:tb=[]
  ·rw[decide_eq_true h2,Bool.true_and]
   rw[decide_eq_true h2] at htb
   by_cases h3:nm=[]
   ·rw[decide_eq_true h3,Bool.true_and]
    rw[decide_eq_true h3] at hnm
    by_cases h4:eqv ⟨vk,vn,vs⟩ zV=true
    ·rw[h4] at heq ⊢
     rw[Bool.true_and]
     by_cases h5:nn=0
     ·rw[decide_eq_true h5]
      have g5:((nn:Int)==0)=true:=by rw[h5];rfl
      clear h1 h2 h3 h4 h5
      obtain⟨W,hW,hbW,hzW,hcW⟩:=aQ w (.cells #[.int .i64 0,.int .i64 op,.string (aj tb),.string (aj nm),.int .i64 vk,.int .i64 vn,.string (aj vs),.slice aa nn cc] 130)
      have k0:=aY hcW
      have HB:=hid hbW
      clear hbW hcW
      go_enter Tryz.func159,Tryz.ntmps159
      go_wp2
      go_ret
      exact⟨rfl,HB.out⟩
     ·rw[decide_eq_false h5]
      have g5:((nn:Int)==0)=false:=by rw[beq_eq_false_iff_ne];omega
      clear h1 h2 h3 h4 h5
      obtain⟨W,hW,hbW,hzW,hcW⟩:=aQ w (.cells #[.int .i64 0,.int .i64 op,.string (aj tb),.string (aj nm),.int .i64 vk,.int .i64 vn,.string (aj vs),.slice aa nn cc] 130)
      have k0:=aY hcW
      have HB:=hid hbW
      clear hbW hcW
      go_enter Tryz.func159,Tryz.ntmps159
      go_wp2
      go_ret
      exact⟨rfl,HB.out⟩
    ·have h4:eqv ⟨vk,vn,vs⟩ zV=false:=by simpa using h4
     rw[h4] at heq ⊢
     rw[Bool.false_and]
     clear h1 h2 h3 h4
     obtain⟨W,hW,hbW,hzW,hcW⟩:=aQ w (.cells #[.int .i64 0,.int .i64 op,.string (aj tb),.string (aj nm),.int .i64 vk,.int .i64 vn,.string (aj vs),.slice aa nn cc] 130)
     have k0:=aY hcW
     have HB:=hid hbW
     clear hbW hcW
     go_enter Tryz.func159,Tryz.ntmps159
     go_wp2
     go_ret
     exact⟨rfl,HB.out⟩
   ·rw[decide_eq_false h3,Bool.false_and]
    rw[decide_eq_false h3] at hnm
    clear h1 h2 h3
    obtain⟨W,hW,hbW,hzW,hcW⟩:=aQ w (.cells #[.int .i64 0,.int .i64 op,.string (aj tb),.string (aj nm),.int .i64 vk,.int .i64 vn,.string (aj vs),.slice aa nn cc] 130)
    have k0:=aY hcW
    have HB:=hid hbW
    clear hbW hcW
    go_enter Tryz.func159,Tryz.ntmps159
    go_wp2
    go_ret
    exact⟨rfl,HB.out⟩
  ·rw[decide_eq_false h2,Bool.false_and]
   rw[decide_eq_false h2] at htb
   clear h1 h2
   obtain⟨W,hW,hbW,hzW,hcW⟩:=aQ w (.cells #[.int .i64 0,.int .i64 op,.string (aj tb),.string (aj nm),.int .i64 vk,.int .i64 vn,.string (aj vs),.slice aa nn cc] 130)
   have k0:=aY hcW
   have HB:=hid hbW
   clear hbW hcW
   go_enter Tryz.func159,Tryz.ntmps159
   go_wp2
   go_ret
   exact⟨rfl,HB.out⟩
 ·rw[decide_eq_false h1,Bool.false_and]
  have g1:(op==0)=false:=by simpa using h1
  clear h1
  obtain⟨W,hW,hbW,hzW,hcW⟩:=aQ w (.cells #[.int .i64 0,.int .i64 op,.string (aj tb),.string (aj nm),.int .i64 vk,.int .i64 vn,.string (aj vs),.slice aa nn cc] 130)
  have k0:=aY hcW
  have HB:=hid hbW
  clear hbW hcW
  go_enter Tryz.func159,Tryz.ntmps159
  go_wp2
  go_ret
  exact⟨rfl,HB.out⟩
theorem Cq (w:World) (k op:Int) (tb nm:List UInt8) (vk vn:Int) (vs:List UInt8) (aa:Option Addr) (nn cc:Nat) :
  ∃W,((w.alloc (.cells #[.int .i64 k,.int .i64 op,.string (aj tb),.string (aj nm),.int .i64 vk,.int .i64 vn,.string (aj vs),.slice aa nn cc] 130)).alloc (.cells #[.int .i64 k,.int .i64 op,.string (aj tb),.string (aj nm),.int .i64 vk,.int .i64 vn,.string (aj vs),.slice aa nn cc] 130)).setCell ⟨w.heap.size+1,0,none⟩ (.int .i64 0)=W∧Below w.heap.size w W∧w.heap.size+1<W.heap.size∧W.heap[w.heap.size]?=some (.cells #[.int .i64 k,.int .i64 op,.string (aj tb),.string (aj nm),.int .i64 vk,.int .i64 vn,.string (aj vs),.slice aa nn cc] 130)∧W.heap[w.heap.size+1]?=some (.cells #[.int .i64 0,.int .i64 op,.string (aj tb),.string (aj nm),.int .i64 vk,.int .i64 vn,.string (aj vs),.slice aa nn cc] 130):=by
 have hb:Below w.heap.size w ((w.alloc (.cells #[.int .i64 k,.int .i64 op,.string (aj tb),.string (aj nm),.int .i64 vk,.int .i64 vn,.string (aj vs),.slice aa nn cc] 130)).alloc (.cells #[.int .i64 k,.int .i64 op,.string (aj tb),.string (aj nm),.int .i64 vk,.int .i64 vn,.string (aj vs),.slice aa nn cc] 130)):=((Below.refl _ w).alloc (Nat.le_refl _) _).alloc (by simp) _
 have h1:((w.alloc (.cells #[.int .i64 k,.int .i64 op,.string (aj tb),.string (aj nm),.int .i64 vk,.int .i64 vn,.string (aj vs),.slice aa nn cc] 130)).alloc (.cells #[.int .i64 k,.int .i64 op,.string (aj tb),.string (aj nm),.int .i64 vk,.int .i64 vn,.string (aj vs),.slice aa nn cc] 130)).heap[w.heap.size+1]?=some (.cells #[.int .i64 k,.int .i64 op,.string (aj tb),.string (aj nm),.int .i64 vk,.int .i64 vn,.string (aj vs),.slice aa nn cc] 130):=heap_alloc2_new w _ _
 have h0:((w.alloc (.cells #[.int .i64 k,.int .i64 op,.string (aj tb),.string (aj nm),.int .i64 vk,.int .i64 vn,.string (aj vs),.slice aa nn cc] 130)).alloc (.cells #[.int .i64 k,.int .i64 op,.string (aj tb),.string (aj nm),.int .i64 vk,.int .i64 vn,.string (aj vs),.slice aa nn cc] 130)).heap[w.heap.size]?=some (.cells #[.int .i64 k,.int .i64 op,.string (aj tb),.string (aj nm),.int .i64 vk,.int .i64 vn,.string (aj vs),.slice aa nn cc] 130):=by
  rw[Below.heap_alloc _ _ _ (by simp)]
  exact heap_alloc_new w _
 generalize (w.alloc (.cells #[.int .i64 k,.int .i64 op,.string (aj tb),.string (aj nm),.int .i64 vk,.int .i64 vn,.string (aj vs),.slice aa nn cc] 130)).alloc (.cells #[.int .i64 k,.int .i64 op,.string (aj tb),.string (aj nm),.int .i64 vk,.int .i64 vn,.string (aj vs),.slice aa nn cc] 130)=V at hb h0 h1
 refine ⟨_,rfl,hb.setCell (by show w.heap.size≤w.heap.size+1;omega) _,?_,?_,?_⟩
 ·have:=World.lt_of_block h1
  simpa [World.setCell] using this
 ·rw[Below.heap_setCell _ _ _ _ (by show w.heap.size≠w.heap.size+1;omega)]
  exact h0
 ·rw[setCell_eq_setRow V (w.heap.size+1) 0 _ _ _ _ h1,setRow_heap V _ _ _ _ _ h1]
  rfl
theorem cO {w:World} {g:Nat} {a b c d e f i j:Value} {t:TypeId} (h:w.heap[g]?=some (.cells #[a,b,c,d,e,f,i,j] t)):(∀i,w.frozen? ⟨g,i,none⟩=false) ∧
 w.cell? ⟨g,0,none⟩=some a∧w.cell? ⟨g,1,none⟩=some b∧w.cell? ⟨g,2,none⟩=some c∧w.cell? ⟨g,3,none⟩=some d∧w.cell? ⟨g,4,none⟩=some e∧w.cell? ⟨g,5,none⟩=some f∧w.cell? ⟨g,6,none⟩=some i∧w.cell? ⟨g,7,none⟩=some j:=dR h
theorem ER (k op:Int) (tb nm:List UInt8) (v:Vl) (xs:List Ex):aP (.mk k op tb nm v xs) =
  if k=1 then gG v&&BA op tb nm zV xs.length
  else if k=2 then (bL nm&&mV tb)&&BA op [] [] v xs.length
  else if k=3 then (decide (1≤op∧op≤13)&&aZ xs 2 2 aP)&&BA 0 tb nm v 0
  else if k=4∨k=5∨k=6 then aZ xs 1 1 aP&&BA op tb nm v 0
  else false:=by
 have e2:decide (2≤xs.length∧xs.length≤2)=decide (xs.length=2):=by rw[Bool.eq_iff_iff,decide_eq_true_eq,decide_eq_true_eq];omega
 have e1:decide (1≤xs.length∧xs.length≤1)=decide (xs.length=1):=by rw[Bool.eq_iff_iff,decide_eq_true_eq,decide_eq_true_eq];omega
 rw[gU]
 unfold BA aZ mV
 rw[e1,e2,rW]
 simp only[decide_true,Bool.true_and,Bool.and_true,Bool.and_assoc]
theorem aW (w:World) (A:Obj) (old cs:Array Value) (t:TypeId):((w.alloc A).alloc (.cells old t)).setRow (w.heap.size+1) cs=(w.alloc A).alloc (.cells cs t):=by
 have e:w.heap.size+1=(w.alloc A).heap.size:=by simp
 rw[e,bF]
theorem wm (S:Nat→Prop):∀(N:Nat) (x:Ex) (v:Value) (w:World),SizeOf.sizeOf x<N→rT x→jU S w x v →
  Calls Tryz.prog 94 #[v] w fun e w'=>e = .returned (.bool (aP x))∧Below w.heap.size w w':=by
 intro N
 induction N with
 | zero=>intro x v w h;exact absurd h (Nat.not_lt_zero _)
 | succ N ih =>
 intro x v w hN hR hx
 obtain⟨k,op,tb,nm,vk,vn,vs,ys,aa,nn,cc,rfl,rfl,ha⟩:=hx
 obtain⟨_,_,_,_,_,_,r1,r2,r3,r4,r5,rx⟩:=hR
 dsimp only at r1 r2 r3
 obtain⟨a',c',hsl,_⟩:=ha.form
 simp only[Value.slice.injEq] at hsl
 obtain⟨rfl,rfl,rfl⟩:=hsl
 rw[ER]
 obtain⟨W,hW,hbW,hzW,hc0,hc1⟩:=Cq w k op tb nm vk vn vs aa ys.length cc
 have q0:=cO hc0
 have q1:=cO hc1
 have HB:=hid hbW
 have HC0:=hid hc0
 have HC1:=hid hc1
 have hz0:w.heap.size<W.heap.size:=by omega
 have HAR:Hid (∀(lo hi:Nat) (V:World),lo≤100→hi≤100→Below w.heap.size w V→Calls Tryz.prog 93 #[.slice aa ys.length cc,.int .i64 lo,.int .i64 hi,.func (.func 94) #[] #[]] V fun e w'=>e = .returned (.bool (aZ ys lo hi aP))∧Below V.heap.size V w'):=hid (fun lo hi V h1 h2 hV =>
  pU S 94 (enters_of Tryz.func94 (by kernel_rfl) rfl) aP ys _ lo hi V h1 h2 (qW (ha.new hV)) (hid (fun y hy U hU cs hcs=>ih y _ U (by have:=List.sizeOf_lt_of_mem hy;simp at hN;omega) (rx y hy) hcs.v)))
 have HEM:=hid (fun op' tb' nm' vk' vn' vs' aa' nn' cc' V=>vZ op' tb' nm' vk' vn' vs' aa' nn' cc' V)
 clear ih rx ha hbW hc0 hc1 hN
 by_cases hk:k=1
 ·rw[if_pos hk]
  subst hk
  have HRV:=hid (oP vk vn vs W r1 r2 r3)
  clear r1 r2 r3 r4 r5 HAR
  cases hv:gG ⟨vk,vn,vs⟩ with
  |
   true =>
   rw[hv] at HRV
   rw[Bool.true_and]
   clear hv
   go_enter Tryz.func94,Tryz.ntmps94
   go_wp2_with (first | (refine wpList_store_row rfl 130 (.tmp 3) (.tmp 5) rfl (w.heap.size+1) #[.int .i64 k,.int .i64 op,.string (aj tb),.string (aj nm),.int .i64 vk,.int .i64 vn,.string (aj vs),.slice aa ys.length cc] rfl rfl 130 #[.int .i64 0,.int .i64 0,.string ⟨#[]⟩,.string ⟨#[]⟩,.int .i64 0,.int .i64 0,.string ⟨#[]⟩,.slice none 0 0] (heap_alloc2_new w _ _) Tryz.gW rfl rfl ?_;rw[aW]) | fail)
   try rw[hW]
   clear hW
   refine HRV.out.mono ?_
   rintro e w1 ⟨rfl,hb1⟩
   have HBL:=hid hb1
   clear hb1 HRV q0 q1
   have q0:=cO ((HBL.out.block w.heap.size hz0).trans HC0.out)
   have q1:=cO ((HBL.out.block (w.heap.size+1) hzW).trans HC1.out)
   have HBX:Hid (Below w.heap.size w w1):=hid (HB.out.trans (HBL.out.mono (by omega)))
   have hle:w.heap.size≤w.heap.size+1:=by omega
   go_wp2_with fail
   refine (HEM.out op tb nm 0 0 [] aa ys.length cc _).mono ?_
   rintro e w9 ⟨rfl,hb9⟩
   have hX:=(((HBX.out.setCell (p:=⟨w.heap.size+1,4,none⟩) hle (.int .i64 0)).setCell (p:=⟨w.heap.size+1,5,none⟩) hle (.int .i64 0)).setCell (p:=⟨w.heap.size+1,6,none⟩) hle (.string ⟨#[]⟩))
   have HB9:=hid (hX.trans (hb9.mono hX.size))
   clear hb9 hX
   go_wp2
   go_ret
   exact⟨rfl,HB9.out⟩
  |
   false =>
   rw[hv] at HRV
   rw[Bool.false_and]
   clear hv
   go_enter Tryz.func94,Tryz.ntmps94
   go_wp2_with (first | (refine wpList_store_row rfl 130 (.tmp 3) (.tmp 5) rfl (w.heap.size+1) #[.int .i64 k,.int .i64 op,.string (aj tb),.string (aj nm),.int .i64 vk,.int .i64 vn,.string (aj vs),.slice aa ys.length cc] rfl rfl 130 #[.int .i64 0,.int .i64 0,.string ⟨#[]⟩,.string ⟨#[]⟩,.int .i64 0,.int .i64 0,.string ⟨#[]⟩,.slice none 0 0] (heap_alloc2_new w _ _) Tryz.gW rfl rfl ?_;rw[aW]) | fail)
   try rw[hW]
   clear hW
   refine HRV.out.mono ?_
   rintro e w1 ⟨rfl,hb1⟩
   have HBL:=hid hb1
   clear hb1 HRV q0 q1
   have q0:=cO ((HBL.out.block w.heap.size hz0).trans HC0.out)
   have q1:=cO ((HBL.out.block (w.heap.size+1) hzW).trans HC1.out)
   have HBX:Hid (Below w.heap.size w w1):=hid (HB.out.trans (HBL.out.mono (by omega)))
   have hle:w.heap.size≤w.heap.size+1:=by omega
   go_wp2
   go_ret
   exact⟨rfl,(((HBX.out.setCell (p:=⟨w.heap.size+1,4,none⟩) hle (.int .i64 0)).setCell (p:=⟨w.heap.size+1,5,none⟩) hle (.int .i64 0)).setCell (p:=⟨w.heap.size+1,6,none⟩) hle (.string ⟨#[]⟩))⟩
 ·rw[if_neg hk]
  have hk1:(k==1)=false:=by simpa using hk
  by_cases hk2:k=2
  ·rw[if_pos hk2]
   subst hk2
   have HNM:=hid (kN nm W r5)
   have HTB:=hid (fun V=>Dw tb V r4)
   clear r1 r2 r3 r4 r5 HAR hk hk1
   cases hv:bL nm with
   |
    true =>
    rw[hv] at HNM
    rw[Bool.true_and]
    clear hv
    cases hv:mV tb with
    |
     true =>
     rw[hv] at HTB
     rw[Bool.true_and]
     clear hv
     go_enter Tryz.func94,Tryz.ntmps94
     go_wp2_with (first | (refine wpList_store_row rfl 130 (.tmp 3) (.tmp 5) rfl (w.heap.size+1) #[.int .i64 k,.int .i64 op,.string (aj tb),.string (aj nm),.int .i64 vk,.int .i64 vn,.string (aj vs),.slice aa ys.length cc] rfl rfl 130 #[.int .i64 0,.int .i64 0,.string ⟨#[]⟩,.string ⟨#[]⟩,.int .i64 0,.int .i64 0,.string ⟨#[]⟩,.slice none 0 0] (heap_alloc2_new w _ _) Tryz.gW rfl rfl ?_;rw[aW]) | fail)
     try rw[hW]
     clear hW
     refine HNM.out.mono ?_
     rintro e w1 ⟨rfl,hb1⟩
     have q01:=cO ((hb1.block w.heap.size hz0).trans HC0.out)
     have HB1:=hid hb1
     clear hb1 HNM
     go_wp2_with fail
     refine (HTB.out w1).mono ?_
     rintro e w2 ⟨rfl,hb2⟩
     have HBL:=hid (HB1.out.trans (hb2.mono HB1.out.size))
     clear hb2 HTB q0 q1 q01 HB1
     have q0:=cO ((HBL.out.block w.heap.size hz0).trans HC0.out)
     have q1:=cO ((HBL.out.block (w.heap.size+1) hzW).trans HC1.out)
     have HBX:Hid (Below w.heap.size w w2):=hid (HB.out.trans (HBL.out.mono (by omega)))
     have hle:w.heap.size≤w.heap.size+1:=by omega
     go_wp2_with fail
     refine (HEM.out op [] [] vk vn vs aa ys.length cc _).mono ?_
     rintro e w9 ⟨rfl,hb9⟩
     have hX:=((HBX.out.setCell (p:=⟨w.heap.size+1,3,none⟩) hle (.string ⟨#[]⟩)).setCell (p:=⟨w.heap.size+1,2,none⟩) hle (.string ⟨#[]⟩))
     have HB9:=hid (hX.trans (hb9.mono hX.size))
     clear hb9 hX
     go_wp2
     go_ret
     exact⟨rfl,HB9.out⟩
    |
     false =>
     rw[hv] at HTB
     rw[Bool.false_and]
     clear hv
     go_enter Tryz.func94,Tryz.ntmps94
     go_wp2_with (first | (refine wpList_store_row rfl 130 (.tmp 3) (.tmp 5) rfl (w.heap.size+1) #[.int .i64 k,.int .i64 op,.string (aj tb),.string (aj nm),.int .i64 vk,.int .i64 vn,.string (aj vs),.slice aa ys.length cc] rfl rfl 130 #[.int .i64 0,.int .i64 0,.string ⟨#[]⟩,.string ⟨#[]⟩,.int .i64 0,.int .i64 0,.string ⟨#[]⟩,.slice none 0 0] (heap_alloc2_new w _ _) Tryz.gW rfl rfl ?_;rw[aW]) | fail)
     try rw[hW]
     clear hW
     refine HNM.out.mono ?_
     rintro e w1 ⟨rfl,hb1⟩
     have q01:=cO ((hb1.block w.heap.size hz0).trans HC0.out)
     have HB1:=hid hb1
     clear hb1 HNM
     go_wp2_with fail
     refine (HTB.out w1).mono ?_
     rintro e w2 ⟨rfl,hb2⟩
     have HBL:=hid (HB1.out.trans (hb2.mono HB1.out.size))
     clear hb2 HTB q0 q1 q01 HB1
     have q0:=cO ((HBL.out.block w.heap.size hz0).trans HC0.out)
     have q1:=cO ((HBL.out.block (w.heap.size+1) hzW).trans HC1.out)
     have HBX:Hid (Below w.heap.size w w2):=hid (HB.out.trans (HBL.out.mono (by omega)))
     have hle:w.heap.size≤w.heap.size+1:=by omega
     go_wp2
     go_ret
     exact⟨rfl,((HBX.out.setCell (p:=⟨w.heap.size+1,3,none⟩) hle (.string ⟨#[]⟩)).setCell (p:=⟨w.heap.size+1,2,none⟩) hle (.string ⟨#[]⟩))⟩
   |
    false =>
    rw[hv] at HNM
    rw[Bool.false_and,Bool.false_and]
    clear hv
    go_enter Tryz.func94,Tryz.ntmps94
    go_wp2_with (first | (refine wpList_store_row rfl 130 (.tmp 3) (.tmp 5) rfl (w.heap.size+1) #[.int .i64 k,.int .i64 op,.string (aj tb),.string (aj nm),.int .i64 vk,.int .i64 vn,.string (aj vs),.slice aa ys.length cc] rfl rfl 130 #[.int .i64 0,.int .i64 0,.string ⟨#[]⟩,.string ⟨#[]⟩,.int .i64 0,.int .i64 0,.string ⟨#[]⟩,.slice none 0 0] (heap_alloc2_new w _ _) Tryz.gW rfl rfl ?_;rw[aW]) | fail)
    try rw[hW]
    clear hW
    refine HNM.out.mono ?_
    rintro e w1 ⟨rfl,hb1⟩
    have HBL:=hid hb1
    clear hb1 HNM HTB q0 q1
    have q0:=cO ((HBL.out.block w.heap.size hz0).trans HC0.out)
    have q1:=cO ((HBL.out.block (w.heap.size+1) hzW).trans HC1.out)
    have HBX:Hid (Below w.heap.size w w1):=hid (HB.out.trans (HBL.out.mono (by omega)))
    have hle:w.heap.size≤w.heap.size+1:=by omega
    go_wp2
    go_ret
    exact⟨rfl,((HBX.out.setCell (p:=⟨w.heap.size+1,3,none⟩) hle (.string ⟨#[]⟩)).setCell (p:=⟨w.heap.size+1,2,none⟩) hle (.string ⟨#[]⟩))⟩
  ·rw[if_neg hk2]
   have hk2':(k==2)=false:=by simpa using hk2
   by_cases hk3:k=3
   ·rw[if_pos hk3]
    subst hk3
    have HOP:=hid (F5 op W)
    have HAE:=hid (HAR.out 2 2 W (by omega) (by omega) HB.out)
    clear r1 r2 r3 r4 r5 HAR hk hk1 hk2 hk2'
    cases hv:decide (1≤op∧op≤13) with
    |
     true =>
     rw[hv] at HOP
     rw[Bool.true_and]
     clear hv
     cases hv:aZ ys 2 2 aP with
     |
      true =>
      rw[hv] at HAE
      rw[Bool.true_and]
      clear hv
      go_enter Tryz.func94,Tryz.ntmps94
      go_wp2_with (first | (refine wpList_store_row rfl 130 (.tmp 3) (.tmp 5) rfl (w.heap.size+1) #[.int .i64 k,.int .i64 op,.string (aj tb),.string (aj nm),.int .i64 vk,.int .i64 vn,.string (aj vs),.slice aa ys.length cc] rfl rfl 130 #[.int .i64 0,.int .i64 0,.string ⟨#[]⟩,.string ⟨#[]⟩,.int .i64 0,.int .i64 0,.string ⟨#[]⟩,.slice none 0 0] (heap_alloc2_new w _ _) Tryz.gW rfl rfl ?_;rw[aW]) | fail)
      try rw[hW]
      clear hW
      refine HOP.out.mono ?_
      rintro e w1 ⟨rfl,hw1⟩
      obtain rfl:W=w1:=hw1.symm
      clear hw1 HOP
      go_wp2_with fail
      refine HAE.out.mono ?_
      rintro e w2 ⟨rfl,hb2⟩
      have HBL:=hid hb2
      clear hb2 HAE q0 q1
      have q0:=cO ((HBL.out.block w.heap.size hz0).trans HC0.out)
      have q1:=cO ((HBL.out.block (w.heap.size+1) hzW).trans HC1.out)
      have HBX:Hid (Below w.heap.size w w2):=hid (HB.out.trans (HBL.out.mono (by omega)))
      have hle:w.heap.size≤w.heap.size+1:=by omega
      go_wp2_with fail
      refine (HEM.out 0 tb nm vk vn vs none 0 0 _).mono ?_
      rintro e w9 ⟨rfl,hb9⟩
      have hX:=((HBX.out.setCell (p:=⟨w.heap.size+1,1,none⟩) hle (.int .i64 0)).setCell (p:=⟨w.heap.size+1,7,none⟩) hle (.slice none 0 0))
      have HB9:=hid (hX.trans (hb9.mono hX.size))
      clear hb9 hX
      go_wp2
      go_ret
      exact⟨rfl,HB9.out⟩
     |
      false =>
      rw[hv] at HAE
      rw[Bool.false_and]
      clear hv
      go_enter Tryz.func94,Tryz.ntmps94
      go_wp2_with (first | (refine wpList_store_row rfl 130 (.tmp 3) (.tmp 5) rfl (w.heap.size+1) #[.int .i64 k,.int .i64 op,.string (aj tb),.string (aj nm),.int .i64 vk,.int .i64 vn,.string (aj vs),.slice aa ys.length cc] rfl rfl 130 #[.int .i64 0,.int .i64 0,.string ⟨#[]⟩,.string ⟨#[]⟩,.int .i64 0,.int .i64 0,.string ⟨#[]⟩,.slice none 0 0] (heap_alloc2_new w _ _) Tryz.gW rfl rfl ?_;rw[aW]) | fail)
      try rw[hW]
      clear hW
      refine HOP.out.mono ?_
      rintro e w1 ⟨rfl,hw1⟩
      obtain rfl:W=w1:=hw1.symm
      clear hw1 HOP
      go_wp2_with fail
      refine HAE.out.mono ?_
      rintro e w2 ⟨rfl,hb2⟩
      have HBL:=hid hb2
      clear hb2 HAE q0 q1
      have q0:=cO ((HBL.out.block w.heap.size hz0).trans HC0.out)
      have q1:=cO ((HBL.out.block (w.heap.size+1) hzW).trans HC1.out)
      have HBX:Hid (Below w.heap.size w w2):=hid (HB.out.trans (HBL.out.mono (by omega)))
      have hle:w.heap.size≤w.heap.size+1:=by omega
      go_wp2
      go_ret
      exact⟨rfl,((HBX.out.setCell (p:=⟨w.heap.size+1,1,none⟩) hle (.int .i64 0)).setCell (p:=⟨w.heap.size+1,7,none⟩) hle (.slice none 0 0))⟩
    |
     false =>
     rw[hv] at HOP
     rw[Bool.false_and,Bool.false_and]
     clear hv
     go_enter Tryz.func94,Tryz.ntmps94
     go_wp2_with (first | (refine wpList_store_row rfl 130 (.tmp 3) (.tmp 5) rfl (w.heap.size+1) #[.int .i64 k,.int .i64 op,.string (aj tb),.string (aj nm),.int .i64 vk,.int .i64 vn,.string (aj vs),.slice aa ys.length cc] rfl rfl 130 #[.int .i64 0,.int .i64 0,.string ⟨#[]⟩,.string ⟨#[]⟩,.int .i64 0,.int .i64 0,.string ⟨#[]⟩,.slice none 0 0] (heap_alloc2_new w _ _) Tryz.gW rfl rfl ?_;rw[aW]) | fail)
     try rw[hW]
     clear hW
     refine HOP.out.mono ?_
     rintro e w1 ⟨rfl,hw1⟩
     obtain rfl:W=w1:=hw1.symm
     have HBL:=hid (Below.refl W.heap.size W)
     clear hw1 HOP HAE q0 q1
     have q0:=cO ((HBL.out.block w.heap.size hz0).trans HC0.out)
     have q1:=cO ((HBL.out.block (w.heap.size+1) hzW).trans HC1.out)
     have HBX:Hid (Below w.heap.size w W):=hid (HB.out.trans (HBL.out.mono (by omega)))
     have hle:w.heap.size≤w.heap.size+1:=by omega
     go_wp2
     go_ret
     exact⟨rfl,((HBX.out.setCell (p:=⟨w.heap.size+1,1,none⟩) hle (.int .i64 0)).setCell (p:=⟨w.heap.size+1,7,none⟩) hle (.slice none 0 0))⟩
   ·rw[if_neg hk3]
    have hk3':(k==3)=false:=by simpa using hk3
    by_cases hk4:k=4∨k=5∨k=6
    ·rw[if_pos hk4]
     have HAE:=hid (HAR.out 1 1 W (by omega) (by omega) HB.out)
     clear r1 r2 r3 r4 r5 HAR hk hk1 hk2 hk2' hk3 hk3'
     cases hv:aZ ys 1 1 aP with
     |
      true =>
      rw[hv] at HAE
      rw[Bool.true_and]
      clear hv
      rcases hk4 with rfl | rfl | rfl
      ·go_enter Tryz.func94,Tryz.ntmps94
       go_wp2_with (first | (refine wpList_store_row rfl 130 (.tmp 3) (.tmp 5) rfl (w.heap.size+1) #[.int .i64 k,.int .i64 op,.string (aj tb),.string (aj nm),.int .i64 vk,.int .i64 vn,.string (aj vs),.slice aa ys.length cc] rfl rfl 130 #[.int .i64 0,.int .i64 0,.string ⟨#[]⟩,.string ⟨#[]⟩,.int .i64 0,.int .i64 0,.string ⟨#[]⟩,.slice none 0 0] (heap_alloc2_new w _ _) Tryz.gW rfl rfl ?_;rw[aW]) | fail)
       try rw[hW]
       clear hW
       refine HAE.out.mono ?_
       rintro e w2 ⟨rfl,hb2⟩
       have HBL:=hid hb2
       clear hb2 HAE q0 q1
       have q0:=cO ((HBL.out.block w.heap.size hz0).trans HC0.out)
       have q1:=cO ((HBL.out.block (w.heap.size+1) hzW).trans HC1.out)
       have HBX:Hid (Below w.heap.size w w2):=hid (HB.out.trans (HBL.out.mono (by omega)))
       have hle:w.heap.size≤w.heap.size+1:=by omega
       go_wp2_with fail
       refine (HEM.out op tb nm vk vn vs none 0 0 _).mono ?_
       rintro e w9 ⟨rfl,hb9⟩
       have hX:=(HBX.out.setCell (p:=⟨w.heap.size+1,7,none⟩) hle (.slice none 0 0))
       have HB9:=hid (hX.trans (hb9.mono hX.size))
       clear hb9 hX
       go_wp2
       go_ret
       exact⟨rfl,HB9.out⟩
      ·go_enter Tryz.func94,Tryz.ntmps94
       go_wp2_with (first | (refine wpList_store_row rfl 130 (.tmp 3) (.tmp 5) rfl (w.heap.size+1) #[.int .i64 k,.int .i64 op,.string (aj tb),.string (aj nm),.int .i64 vk,.int .i64 vn,.string (aj vs),.slice aa ys.length cc] rfl rfl 130 #[.int .i64 0,.int .i64 0,.string ⟨#[]⟩,.string ⟨#[]⟩,.int .i64 0,.int .i64 0,.string ⟨#[]⟩,.slice none 0 0] (heap_alloc2_new w _ _) Tryz.gW rfl rfl ?_;rw[aW]) | fail)
       try rw[hW]
       clear hW
       refine HAE.out.mono ?_
       rintro e w2 ⟨rfl,hb2⟩
       have HBL:=hid hb2
       clear hb2 HAE q0 q1
       have q0:=cO ((HBL.out.block w.heap.size hz0).trans HC0.out)
       have q1:=cO ((HBL.out.block (w.heap.size+1) hzW).trans HC1.out)
       have HBX:Hid (Below w.heap.size w w2):=hid (HB.out.trans (HBL.out.mono (by omega)))
       have hle:w.heap.size≤w.heap.size+1:=by omega
       go_wp2_with fail
       refine (HEM.out op tb nm vk vn vs none 0 0 _).mono ?_
       rintro e w9 ⟨rfl,hb9⟩
       have hX:=(HBX.out.setCell (p:=⟨w.heap.size+1,7,none⟩) hle (.slice none 0 0))
       have HB9:=hid (hX.trans (hb9.mono hX.size))
       clear hb9 hX
       go_wp2
       go_ret
       exact⟨rfl,HB9.out⟩
      ·go_enter Tryz.func94,Tryz.ntmps94
       go_wp2_with (first | (refine wpList_store_row rfl 130 (.tmp 3) (.tmp 5) rfl (w.heap.size+1) #[.int .i64 k,.int .i64 op,.string (aj tb),.string (aj nm),.int .i64 vk,.int .i64 vn,.string (aj vs),.slice aa ys.length cc] rfl rfl 130 #[.int .i64 0,.int .i64 0,.string ⟨#[]⟩,.string ⟨#[]⟩,.int .i64 0,.int .i64 0,.string ⟨#[]⟩,.slice none 0 0] (heap_alloc2_new w _ _) Tryz.gW rfl rfl ?_;rw[aW]) | fail)
       try rw[hW]
       clear hW
       refine HAE.out.mono ?_
       rintro e w2 ⟨rfl,hb2⟩
       have HBL:=hid hb2
       clear hb2 HAE q0 q1
       have q0:=cO ((HBL.out.block w.heap.size hz0).trans HC0.out)
       have q1:=cO ((HBL.out.block (w.heap.size+1) hzW).trans HC1.out)
       have HBX:Hid (Below w.heap.size w w2):=hid (HB.out.trans (HBL.out.mono (by omega)))
       have hle:w.heap.size≤w.heap.size+1:=by omega
       go_wp2_with fail
       refine (HEM.out op tb nm vk vn vs none 0 0 _).mono ?_
       rintro e w9 ⟨rfl,hb9⟩
       have hX:=(HBX.out.setCell (p:=⟨w.heap.size+1,7,none⟩) hle (.slice none 0 0))
       have HB9:=hid (hX.trans (hb9.mono hX.size))
       clear hb9 hX
       go_wp2
       go_ret
       exact⟨rfl,HB9.out⟩
     |
      false =>
      rw[hv] at HAE
      rw[Bool.false_and]
      clear hv
      rcases hk4 with rfl | rfl | rfl
      ·go_enter Tryz.func94,Tryz.ntmps94
       go_wp2_with (first | (refine wpList_store_row rfl 130 (.tmp 3) (.tmp 5) rfl (w.heap.size+1) #[.int .i64 k,.int .i64 op,.string (aj tb),.string (aj nm),.int .i64 vk,.int .i64 vn,.string (aj vs),.slice aa ys.length cc] rfl rfl 130 #[.int .i64 0,.int .i64 0,.string ⟨#[]⟩,.string ⟨#[]⟩,.int .i64 0,.int .i64 0,.string ⟨#[]⟩,.slice none 0 0] (heap_alloc2_new w _ _) Tryz.gW rfl rfl ?_;rw[aW]) | fail)
       try rw[hW]
       clear hW
       refine HAE.out.mono ?_
       rintro e w2 ⟨rfl,hb2⟩
       have HBL:=hid hb2
       clear hb2 HAE q0 q1
       have q0:=cO ((HBL.out.block w.heap.size hz0).trans HC0.out)
       have q1:=cO ((HBL.out.block (w.heap.size+1) hzW).trans HC1.out)
       have HBX:Hid (Below w.heap.size w w2):=hid (HB.out.trans (HBL.out.mono (by omega)))
       have hle:w.heap.size≤w.heap.size+1:=by omega
       go_wp2
       go_ret
       exact⟨rfl,(HBX.out.setCell (p:=⟨w.heap.size+1,7,none⟩) hle (.slice none 0 0))⟩
      ·go_enter Tryz.func94,Tryz.ntmps94
       go_wp2_with (first | (refine wpList_store_row rfl 130 (.tmp 3) (.tmp 5) rfl (w.heap.size+1) #[.int .i64 k,.int .i64 op,.string (aj tb),.string (aj nm),.int .i64 vk,.int .i64 vn,.string (aj vs),.slice aa ys.length cc] rfl rfl 130 #[.int .i64 0,.int .i64 0,.string ⟨#[]⟩,.string ⟨#[]⟩,.int .i64 0,.int .i64 0,.string ⟨#[]⟩,.slice none 0 0] (heap_alloc2_new w _ _) Tryz.gW rfl rfl ?_;rw[aW]) | fail)
       try rw[hW]
       clear hW
       refine HAE.out.mono ?_
       rintro e w2 ⟨rfl,hb2⟩
       have HBL:=hid hb2
       clear hb2 HAE q0 q1
       have q0:=cO ((HBL.out.block w.heap.size hz0).trans HC0.out)
       have q1:=cO ((HBL.out.block (w.heap.size+1) hzW).trans HC1.out)
       have HBX:Hid (Below w.heap.size w w2):=hid (HB.out.trans (HBL.out.mono (by omega)))
       have hle:w.heap.size≤w.heap.size+1:=by omega
       go_wp2
       go_ret
       exact⟨rfl,(HBX.out.setCell (p:=⟨w.heap.size+1,7,none⟩) hle (.slice none 0 0))⟩
      ·go_enter Tryz.func94,Tryz.ntmps94
       go_wp2_with (first | (refine wpList_store_row rfl 130 (.tmp 3) (.tmp 5) rfl (w.heap.size+1) #[.int .i64 k,.int .i64 op,.string (aj tb),.string (aj nm),.int .i64 vk,.int .i64 vn,.string (aj vs),.slice aa ys.length cc] rfl rfl 130 #[.int .i64 0,.int .i64 0,.string ⟨#[]⟩,.string ⟨#[]⟩,.int .i64 0,.int .i64 0,.string ⟨#[]⟩,.slice none 0 0] (heap_alloc2_new w _ _) Tryz.gW rfl rfl ?_;rw[aW]) | fail)
       try rw[hW]
       clear hW
       refine HAE.out.mono ?_
       rintro e w2 ⟨rfl,hb2⟩
       have HBL:=hid hb2
       clear hb2 HAE q0 q1
       have q0:=cO ((HBL.out.block w.heap.size hz0).trans HC0.out)
       have q1:=cO ((HBL.out.block (w.heap.size+1) hzW).trans HC1.out)
       have HBX:Hid (Below w.heap.size w w2):=hid (HB.out.trans (HBL.out.mono (by omega)))
       have hle:w.heap.size≤w.heap.size+1:=by omega
       go_wp2
       go_ret
       exact⟨rfl,(HBX.out.setCell (p:=⟨w.heap.size+1,7,none⟩) hle (.slice none 0 0))⟩
    ·rw[if_neg hk4]
     have g4:(k==4)=false:=by rw[beq_eq_false_iff_ne];exact fun e=>hk4 (.inl e)
     have g5:(k==5)=false:=by rw[beq_eq_false_iff_ne];exact fun e=>hk4 (.inr (.inl e))
     have g6:(k==6)=false:=by rw[beq_eq_false_iff_ne];exact fun e=>hk4 (.inr (.inr e))
     clear r1 r2 r3 r4 r5 HAR hk hk2 hk3 hk4
     go_enter Tryz.func94,Tryz.ntmps94
     go_wp2_with (first | (refine wpList_store_row rfl 130 (.tmp 3) (.tmp 5) rfl (w.heap.size+1) #[.int .i64 k,.int .i64 op,.string (aj tb),.string (aj nm),.int .i64 vk,.int .i64 vn,.string (aj vs),.slice aa ys.length cc] rfl rfl 130 #[.int .i64 0,.int .i64 0,.string ⟨#[]⟩,.string ⟨#[]⟩,.int .i64 0,.int .i64 0,.string ⟨#[]⟩,.slice none 0 0] (heap_alloc2_new w _ _) Tryz.gW rfl rfl ?_;rw[aW]) | fail)
     go_ret
     exact⟨rfl,HB.out⟩
end Go.Proofs.YtaaggohjmhifbaaGreatDoor
