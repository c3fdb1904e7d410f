/- Packed for the hand-in: CRMake -/
import Derived.Test.YtfeglkleoijlaaaGreatDoorZ28
import Derived.Test.YtfeglkleoijlaaaGreatDoorZ31
import Derived.Test.YtfeglkleoijlaaaGreatDoorZ29
namespace Go.Proofs.YtfeglkleoijlaaaGreatDoor
open Go.RowKit Go.Shelf Go.Lib
set_option linter.unusedSimpArgs false
set_option linter.unusedVariables false
set_option maxRecDepth 20000
set_option maxHeartbeats 8000000
def BF (l:List Co) (prim:List UInt8) (i:Nat):Int:=if bO l prim<i then (bO l prim:Nat) else -1
section
variable {P : Program} {md : Region.Mode} {ops : Array Oper} {Q : Exit → Act → World → Prop} {S : World → Prop} {fuel : Nat} {listed : Array Bool} {a : Act} {w : World} {i j k0 : Nat} {oi oj : Oper}
theorem qp (hr:Region.ready md ops listed=[i,j]) (hi:ops[i]?=some oi) (hj:ops[j]?=some oj) (gi:oi.guard=none) (gj:oj.guard=none)
  (h1:oi.wp P a w (fun a' w'=>(S w'∨i=k0)∧cO P md ops Q S k0 fuel (listed.setIfInBounds i true) a' w') Q)
  (h2:oj.wp P a w (fun a' w'=>(S w'∨j=k0)∧cO P md ops Q S k0 fuel (listed.setIfInBounds j true) a' w') Q):cO P md ops Q S k0 (fuel+1) listed a w:=by
 refine iA hr (by simp) fun k hk=>?_
 simp only[List.mem_cons,List.not_mem_nil,or_false] at hk
 rcases hk with rfl | rfl
 ·unfold wpOp
  simp only[hi,show Region.wanted oi (yielded ops a.tmps)=true by simp[Region.wanted,gi],if_true]
  exact .inl h1
 ·unfold wpOp
  simp only[hj,show Region.wanted oj (yielded ops a.tmps)=true by simp[Region.wanted,gj],if_true]
  exact .inl h2
theorem aT {K:Act→World→Prop} {v:Value} {w':World} (hrun:(execOp a.eval oi).run P w = .ok (.value v) w') (h:K (a.put oi.dst v) w'):oi.wp P a w K Q:=by
 unfold Oper.wp
 rw[hrun]
 exact h
theorem cK {s x:Operand} {t:TypeId} (ki:oi.op = .call { callee:=.builtin .append,args:=#[s,x],argTypes:=#[t,t] }) {v u v':Value} {w':World} (hs:a.eval s=v) (hx:a.eval x=u) (hr:(Builtin.append_ #[t,t] oi.type #[v,u]).run P w = .ok v' w') :
  (execOp a.eval oi).run P w = .ok (.value v') w':=by
 unfold execOp
 simp only[ki,resolve,invoke,builtin,Sem.run_bind,Sem.run_pure,Result.andThen_ok,List.map_toArray,List.map_cons,List.map_nil,hs,hx,hr]
end
theorem uZ (a:Act) (oi:Oper) (ki:oi.op = .buildSlice 23 0 #[]) (V:World):(execOp a.eval oi).run Tryz.prog V = .ok (.value (.slice (some ⟨V.heap.size,0,none⟩) 0 0)) (V.alloc (.cells #[] 60)):=by
 have u:=Tryz.underlying23
 unfold execOp
 simp only[ki]
 go_simp
theorem qL (a:Act) (oi:Oper) (ki:oi.op = .alloc 42) (V:World):(execOp a.eval oi).run Tryz.prog V = .ok (.value (.pointer (some ⟨V.heap.size,0,none⟩))) (V.alloc (.cells #[.string ⟨#[]⟩,.slice none 0 0,.int .i64 0] 42)):=by
 unfold execOp
 simp only[ki]
 go_simp
theorem own_ne {w:World} {base n B:Nat} {v:Value} {xs:List Value} {cs:Array Value} (h:w.ownsRow base 60 4 v n xs) (hc:w.heap[B]?=some (.cells cs 42)):v.ownBlock≠some B:=fun e=>by
 rcases h.2 with⟨rfl,_⟩ | ⟨g,cap,cur,rfl,_,hg,_⟩
 ·cases e
 ·simp only[Value.ownBlock,Option.some.injEq] at e
  subst e
  rw[hg] at hc
  injection hc with hc
  injection hc with h1 h2
  exact absurd h2 (by decide)
theorem Et {w1 Z:World} {B base:Nat} {x:Option Addr} {m d:Nat} {tb:List UInt8} {l:List Co} {cs:Array Value} (hB:w1.heap.size≤B) (hc:Z.heap[B]?=some (.cells cs 42)) (hb:w1.heap.size≤base) (ho:Z.ownsRow base 60 4 (.slice x m d) l.length (dx l)) (hbel:Below w1.heap.size w1 Z) :
  ∃(B':Nat) (x2:Option Addr) (m2 d2:Nat),Value.pointer (some ⟨B,0,none⟩) = .pointer (some ⟨B',0,none⟩)∧w1.heap.size≤B'∧(Z.setRow B #[.string (aj tb),.slice x m d,.int .i64 (-1)]).heap[B']?=some (.cells #[.string (aj tb),.slice x2 m2 d2,.int .i64 (-1)] 42)∧(Z.setRow B #[.string (aj tb),.slice x m d,.int .i64 (-1)]).ownsRow w1.heap.size 60 4 (.slice x2 m2 d2) l.length (dx l)∧(Value.slice x2 m2 d2).ownBlock≠some B'∧Below w1.heap.size w1 (Z.setRow B #[.string (aj tb),.slice x m d,.int .i64 (-1)]):=by
 have hne:=own_ne ho hc
 have hSp:aA (fun k=>k=B) Z (Z.setRow B #[.string (aj tb),.slice x m d,.int .i64 (-1)]):=aA.setRow (S:=fun k=>k=B) (aA.refl _ Z) (p:=B) (.inl rfl) _
 exact⟨B,x,m,d,rfl,hB,setRow_heap Z B _ _ _ _ hc,dP (hSp.row ho (fun g hg=>by rintro rfl;exact hne hg)) (fun g hg=>Nat.le_trans hb (ho.lt g hg).1),hne,hbel.trans (hSp.below (fun i hi=>by omega) hbel.size)⟩
theorem zA (s:ByteArray) (aa:Option Addr) (nn cc:Nat) (n:Int):(#[.string s,.slice aa nn cc,.int .i64 n]:Array Value).all (·.oneCell')=true:=by simp[Value.oneCell']
theorem Tryz.tV:(Tryz.prog.info? 42).map (·.size)=some 3:=by kernel_rfl
theorem oM {w:World} {b:Nat} {a0 a1 a2:Value} {t:TypeId} (h:w.heap[b]?=some (.cells #[a0,a1,a2] t)) (v:Value) :
  ∃X,w.setCell ⟨b,2,none⟩ v=X∧X.heap[b]?=some (.cells #[a0,a1,v] t)∧aA (fun k=>k=b) w X:=by
 refine ⟨_,rfl,?_,(aA.refl (fun k=>k=b) w).own _ _⟩
 rw[setCell_eq_setRow w b 2 _ t _ v h,setRow_heap w b _ _ t _ h]
 simp only[List.setIfInBounds_toArray,List.set_cons_zero,List.set_cons_succ]
theorem FH {l:List Co} {prim:List UInt8} {j:Nat} (h:bO l prim=j):BF l prim (j+1)=(j:Int):=by unfold BF;rw[if_pos (by omega),h]
theorem Gi {l:List Co} {prim:List UInt8} {j:Nat} (h:bO l prim≠j):BF l prim (j+1)=BF l prim j:=by
 unfold BF
 by_cases h1:bO l prim<j
 ·rw[if_pos h1,if_pos (by omega)]
 ·rw[if_neg h1,if_neg (by omega)]
theorem zm (a b:List UInt8):((aj a).toList==(aj b).toList)=decide (a=b):=by
 rw[bg,bg]
 by_cases h:a=b<;>simp[h]
theorem CZ (S:Nat→Prop) (s:St) (cs:List Value) (w:World) (hfit : ∀V,Below w.heap.size w V→Calls Tryz.prog 26 #[.agg cs.toArray] V fun e w'=>e = .returned (.bool (aZ s))∧Below V.heap.size V w') (hx:eZ S w s cs) :
  Calls Tryz.prog 28 #[.agg cs.toArray] w fun e w'=>∃ds:List Value,e = .returned (.tuple #[.agg ds.toArray,.int .i64 (bP s).2])∧yR w.heap.size w' (bP s).1 ds∧Below w.heap.size w w':=by
 obtain⟨a1,a2,a3,a4,a5,a6,a7,a8,n1,n2,n3,n4,n5,n6,n7,n8,c1,c2,c3,c4,c5,c6,c7,c8,rfl,hsl,_⟩:=hx
 obtain⟨W,hW,hbW,hzW,hcA,hcB⟩:=two w (.cells #[.int .i64 s.k,.string (aj s.tb),.slice a1 n1 c1,.string (aj s.prim),.slice a2 n2 c2,.slice a3 n3 c3,.slice a4 n4 c4,.string (aj s.jn),.slice a5 n5 c5,.slice a6 n6 c6,.slice a7 n7 c7,.slice a8 n8 c8,.bool s.desc,.int .i64 s.lim] 29) (.cells #[.string ⟨#[]⟩,.slice none 0 0,.int .i64 0] 42)
 have k0:=ay hcA
 have HRC:=hid (hfit W hbW)
 have HB:=hid hbW
 have HCA:=hid hcA
 have HCB:=hid hcB
 have hmb:(decide (s.k=1)&&aZ s)=false→bP s=(yH,4):=xA
 have hmk:s.k=1→aZ s=true→Gz s.cols s.prim s.tb (bP s)∧(∀p,ShT ⟨s.tb,s.cols,p⟩)∧s.cols≠[]:=fun h1 h2=>⟨Gb h1 h2,fun p=>(gF h1 h2 p).1,(gF h1 h2 0).2⟩
 clear hbW hcA hcB hfit
 generalize bP s=M at hmb hmk ⊢
 generalize aZ s=ok at HRC hmb hmk
 obtain⟨k,tb,l,prim,rows,sets,items,jn,on,wh,gr,od,desc,lim⟩:=s
 dsimp only at hW k0 HRC HCA hmb hmk hsl
 by_cases hok:k=1∧ok=true
 ·obtain⟨rfl,rfl⟩:=hok
  obtain⟨hmk,hsh,hne⟩:=hmk rfl rfl
  have h8:=(hsh 0).2.1
  dsimp only at h8
  obtain⟨b,off,c,hv,hlc,hcm,hS,hlt0,hel⟩:=fq hsl hne
  simp only[Value.slice.injEq] at hv
  obtain⟨rfl,rfl,rfl⟩:=hv
  unfold maxLen at hcm
  have HSL:=hid hsl
  have HNE:=hid hne
  have HMK:=hid hmk
  clear hmb hmk hsh hsl hel
  go_enter Tryz.func28,Tryz.ntmps28
  go_wp2_with fail
  try rw[hW]
  refine HRC.out.mono ?_
  rintro e w1 ⟨rfl,hb1⟩
  have hs1:=hb1.size
  have hA1:=(hb1.block w.heap.size (by omega)).trans HCA.out
  have hZ1:=(hb1.block (w.heap.size+1) (by omega)).trans HCB.out
  have k1:=ay hA1
  have HA1:=hid hA1
  have HZ1:=hid hZ1
  have hB1:=HB.out.trans (hb1.mono HB.out.size)
  have HB1:=hid hB1
  have hz1:w.heap.size+1<w1.heap.size:=by omega
  have HAPP:Hid (∀(Z:World) (g:Nat),Below w1.heap.size w1 Z→w1.heap.size≤g→Z.heap[g]?=some (.cells #[] 60)→∃a2 n2 c2 w',(Builtin.append_ #[23,23] 23 #[.slice (some ⟨g,0,none⟩) 0 0,.slice (some ⟨b,off,none⟩) l.length c1]).run Tryz.prog Z = .ok (.slice a2 n2 c2) w'∧w'.ownsRow g 60 4 (.slice a2 n2 c2) l.length (dx l)∧aA (fun k=>k=g) Z w'):=hid (fun Z g hZ hg hc=>nK (HSL.out.to (T:=S) (by decide) (R:=fun _=>False) (aA.aC (hB1.trans (hZ.mono hB1.size))) (fun b hb _=>⟨id,hb⟩) (fun _ _ e=>e)) (by omega) hc g (Nat.le_refl _) 23)
  clear hb1 HRC hW k0 HCA HCB HB hzW hA1 hZ1 hB1
  go_upto_region 4 with fail
  go_cut [5] (fun u5 wx=>∃(B:Nat) (x2:Option Addr) (m2 d2:Nat),u5 = .pointer (some ⟨B,0,none⟩)∧w1.heap.size≤B∧wx.heap[B]?=some (.cells #[.string (aj tb),.slice x2 m2 d2,.int .i64 (-1)] 42)∧wx.ownsRow w1.heap.size 60 4 (.slice x2 m2 d2) l.length (dx l)∧(Value.slice x2 m2 d2).ownBlock≠some B∧Below w1.heap.size w1 wx)
  case first =>
   obtain⟨E1,hE1,hbE1,hzE1,hcE1⟩:=aL w1.drew (.cells #[] 60)
   obtain⟨E2,hE2,hbE2,hzE2,hcE2⟩:=aL E1 (.cells #[.string ⟨#[]⟩,.slice none 0 0,.int .i64 0] 42)
   obtain⟨T1,hT1,hbT1,hzT1,hcT1⟩:=aL w1.drew (.cells #[.string ⟨#[]⟩,.slice none 0 0,.int .i64 0] 42)
   obtain⟨T2,hT2,hbT2,hzT2,hcT2⟩:=aL T1 (.cells #[] 60)
   have hd:Below w1.heap.size w1 w1.drew:=(Below.refl _ w1).drew
   have hdE1:Below w1.heap.size w1 E1:=hd.trans hbE1
   have hdE2:Below w1.heap.size w1 E2:=hdE1.trans (hbE2.mono hdE1.size)
   have hdT1:Below w1.heap.size w1 T1:=hd.trans hbT1
   have hdT2:Below w1.heap.size w1 T2:=hdT1.trans (hbT2.mono hdT1.size)
   obtain⟨x1,m1,d1,y1,hr1,ho1,hy1⟩:=HAPP.out E1 w1.heap.size hdE1 (Nat.le_refl _) hcE1
   obtain⟨x2,m2,d2,y2,hr2,ho2,hy2⟩:=HAPP.out E2 w1.heap.size hdE2 (Nat.le_refl _) ((hbE2.block w1.heap.size hzE1).trans hcE1)
   obtain⟨x3,m3,d3,y3,hr3,ho3,hy3⟩:=HAPP.out T2 T1.heap.size hdT2 (Nat.le_of_lt hzT1) hcT2
   have HS:Hid (∀V,Below w1.heap.size w1 V→V.cell? ⟨w.heap.size,1,none⟩=some (.string (aj tb))∧V.cell? ⟨w.heap.size,2,none⟩=some (.slice (some ⟨b,off,none⟩) l.length c1)∧True):=hid (fun V hV=>by
    have q:=ay ((hV.block w.heap.size (by omega)).trans HA1.out)
    exact⟨q.2.1,q.2.2.1,trivial⟩)
   have hS0:=HS.out _ hd
   have hS1:=HS.out _ hdE1
   have hS2:=HS.out _ hdE2
   have hS3:=HS.out _ hdT1
   have hS4:=HS.out _ hdT2
   have hB1:Below w1.heap.size w1 y1:=hdE1.trans (hy1.below (fun i hi=>by omega) hdE1.size)
   have hB2:Below w1.heap.size w1 y2:=hdE2.trans (hy2.below (fun i hi=>by omega) hdE2.size)
   have hB3:Below w1.heap.size w1 y3:=hdT2.trans (hy3.below (fun i hi=>by have:w1.heap.size<T1.heap.size:=hzT1;omega) hdT2.size)
   have hS5:=HS.out _ hB1
   have hS6:=HS.out _ hB2
   have hS7:=HS.out _ hB3
   obtain⟨F1,hF1,hbF1,hzF1,hcF1⟩:=aL y1 (.cells #[.string ⟨#[]⟩,.slice none 0 0,.int .i64 0] 42)
   have hBF1:Below w1.heap.size w1 F1:=hB1.trans (hbF1.mono hB1.size)
   have hS8:=HS.out _ hBF1
   refine iE (fun V:World=>V.cell? ⟨w.heap.size,1,none⟩=some (.string (aj tb))∧V.cell? ⟨w.heap.size,2,none⟩=some (.slice (some ⟨b,off,none⟩) l.length c1)∧True) 8 (by kernel_rfl) ?_
   refine aI (i:=0) (v:=?_) rfl (by kernel_rfl) (by kernel_rfl) (by kernel_rfl) (by kernel_rfl) (by kernel_rfl) (fun _ _ _ h=>h) (Or.inl ⟨by rfl,?_⟩) (by assumption) ?_;rotate_left;(focus (intro w hSw;(try dsimp only at hSw);(try obtain⟨hSw1,hSw2,hSw3⟩:=hSw);go_simp<;>with_reducible rfl));(try simp only[Act.put,List.getElem_toArray,List.getElem_cons_zero,List.getElem_cons_succ,List.setIfInBounds_toArray,List.set_cons_zero,List.set_cons_succ])
   refine aI (i:=1) (v:=?_) rfl (by kernel_rfl) (by kernel_rfl) (by kernel_rfl) (by kernel_rfl) (by kernel_rfl) (fun _ _ _ h=>h) (Or.inl ⟨by rfl,?_⟩) (by assumption) ?_;rotate_left;(focus (intro w hSw;(try dsimp only at hSw);(try obtain⟨hSw1,hSw2,hSw3⟩:=hSw);go_simp<;>with_reducible rfl));(try simp only[Act.put,List.getElem_toArray,List.getElem_cons_zero,List.getElem_cons_succ,List.setIfInBounds_toArray,List.set_cons_zero,List.set_cons_succ])
   refine aI (i:=3) (v:=?_) rfl (by kernel_rfl) (by kernel_rfl) (by kernel_rfl) (by kernel_rfl) (by kernel_rfl) (fun _ _ _ h=>h) (Or.inl ⟨by rfl,?_⟩) (by assumption) ?_;rotate_left;(focus (intro w hSw;(try dsimp only at hSw);(try obtain⟨hSw1,hSw2,hSw3⟩:=hSw);go_simp<;>with_reducible rfl));(try simp only[Act.put,List.getElem_toArray,List.getElem_cons_zero,List.getElem_cons_succ,List.setIfInBounds_toArray,List.set_cons_zero,List.set_cons_succ])
   refine aI (i:=4) (v:=?_) rfl (by kernel_rfl) (by kernel_rfl) (by kernel_rfl) (by kernel_rfl) (by kernel_rfl) (fun _ _ _ h=>h) (Or.inl ⟨by rfl,?_⟩) (by assumption) ?_;rotate_left;(focus (intro w hSw;(try dsimp only at hSw);(try obtain⟨hSw1,hSw2,hSw3⟩:=hSw);go_simp<;>with_reducible rfl));(try simp only[Act.put,List.getElem_toArray,List.getElem_cons_zero,List.getElem_cons_succ,List.setIfInBounds_toArray,List.set_cons_zero,List.set_cons_succ])
   refine qp (i:=2) (j:=7) (by kernel_rfl) rfl rfl rfl rfl ?_ ?_
   ·refine aT (uZ _ _ rfl _) ?_
    rw[hE1]
    refine ⟨.inl hS1,?_⟩
    simp only[Act.put,List.getElem_toArray,List.getElem_cons_zero,List.getElem_cons_succ,List.setIfInBounds_toArray,List.set_cons_zero,List.set_cons_succ]
    refine qp (i:=5) (j:=7) (by kernel_rfl) rfl rfl rfl rfl ?_ ?_
    ·refine aT (cK rfl (by rfl) (by rfl) hr1) ⟨.inl hS5,?_⟩
     simp only[Act.put,List.getElem_toArray,List.getElem_cons_zero,List.getElem_cons_succ,List.setIfInBounds_toArray,List.set_cons_zero,List.set_cons_succ]
     refine aI (i:=6) (v:=?_) rfl (by kernel_rfl) (by kernel_rfl) (by kernel_rfl) (by kernel_rfl) (by kernel_rfl) (fun _ _ _ h=>h) (Or.inl ⟨by rfl,?_⟩) (by assumption) ?_;rotate_left;(focus (intro w hSw;(try dsimp only at hSw);(try obtain⟨hSw1,hSw2,hSw3⟩:=hSw);go_simp<;>with_reducible rfl));(try simp only[Act.put,List.getElem_toArray,List.getElem_cons_zero,List.getElem_cons_succ,List.setIfInBounds_toArray,List.set_cons_zero,List.set_cons_succ])
     refine fZ (i:=7) (by kernel_rfl) rfl rfl (aT (qL _ _ rfl _) ?_)
     rw[hF1]
     refine ⟨.inl hS8,?_⟩
     simp only[Act.put,List.getElem_toArray,List.getElem_cons_zero,List.getElem_cons_succ,List.setIfInBounds_toArray,List.set_cons_zero,List.set_cons_succ]
     refine dU (i:=8) (by kernel_rfl) rfl rfl 42 (.tmp 5) (.tmp 24) rfl y1.heap.size #[.string (aj tb),.slice x1 m1 d1,.int .i64 (-1)] (by rfl) (by rfl) 42 _ hcF1 Tryz.tV rfl (zA _ _ _ _ _) (.inr rfl) ?_
     refine fC (by kernel_rfl) ?_ _
     show Only _ .normal _ _
     unfold Only
     go_wp2_with fail
     go_meet
     exact Et hB1.size hcF1 (Nat.le_refl _) (aA.row (aA.aC (S:=fun _=>False) hbF1) ho1 (fun _ _=>id)) hBF1
    ·refine aT (qL _ _ rfl _) ?_
     rw[hE2]
     refine ⟨.inl hS2,?_⟩
     simp only[Act.put,List.getElem_toArray,List.getElem_cons_zero,List.getElem_cons_succ,List.setIfInBounds_toArray,List.set_cons_zero,List.set_cons_succ]
     refine fZ (i:=5) (by kernel_rfl) rfl rfl (aT (cK rfl (by rfl) (by rfl) hr2) ⟨.inl hS6,?_⟩)
     simp only[Act.put,List.getElem_toArray,List.getElem_cons_zero,List.getElem_cons_succ,List.setIfInBounds_toArray,List.set_cons_zero,List.set_cons_succ]
     refine aI (i:=6) (v:=?_) rfl (by kernel_rfl) (by kernel_rfl) (by kernel_rfl) (by kernel_rfl) (by kernel_rfl) (fun _ _ _ h=>h) (Or.inl ⟨by rfl,?_⟩) (by assumption) ?_;rotate_left;(focus (intro w hSw;(try dsimp only at hSw);(try obtain⟨hSw1,hSw2,hSw3⟩:=hSw);go_simp<;>with_reducible rfl));(try simp only[Act.put,List.getElem_toArray,List.getElem_cons_zero,List.getElem_cons_succ,List.setIfInBounds_toArray,List.set_cons_zero,List.set_cons_succ])
     have hcy:y2.heap[E1.heap.size]?=some (.cells #[.string ⟨#[]⟩,.slice none 0 0,.int .i64 0] 42):=(hy2.block E1.heap.size hzE2 (by have:w1.heap.size<E1.heap.size:=hzE1;omega)).trans hcE2
     refine dU (i:=8) (by kernel_rfl) rfl rfl 42 (.tmp 5) (.tmp 24) rfl E1.heap.size #[.string (aj tb),.slice x2 m2 d2,.int .i64 (-1)] (by rfl) (by rfl) 42 _ hcy Tryz.tV rfl (zA _ _ _ _ _) (.inr rfl) ?_
     refine fC (by kernel_rfl) ?_ _
     show Only _ .normal _ _
     unfold Only
     go_wp2_with fail
     go_meet
     exact Et hdE1.size hcy (Nat.le_refl _) ho2 hB2
   ·refine aT (qL _ _ rfl _) ?_
    rw[hT1]
    refine ⟨.inl hS3,?_⟩
    simp only[Act.put,List.getElem_toArray,List.getElem_cons_zero,List.getElem_cons_succ,List.setIfInBounds_toArray,List.set_cons_zero,List.set_cons_succ]
    refine fZ (i:=2) (by kernel_rfl) rfl rfl (aT (uZ _ _ rfl _) ?_)
    rw[hT2]
    refine ⟨.inl hS4,?_⟩
    simp only[Act.put,List.getElem_toArray,List.getElem_cons_zero,List.getElem_cons_succ,List.setIfInBounds_toArray,List.set_cons_zero,List.set_cons_succ]
    refine fZ (i:=5) (by kernel_rfl) rfl rfl (aT (cK rfl (by rfl) (by rfl) hr3) ⟨.inl hS7,?_⟩)
    simp only[Act.put,List.getElem_toArray,List.getElem_cons_zero,List.getElem_cons_succ,List.setIfInBounds_toArray,List.set_cons_zero,List.set_cons_succ]
    refine aI (i:=6) (v:=?_) rfl (by kernel_rfl) (by kernel_rfl) (by kernel_rfl) (by kernel_rfl) (by kernel_rfl) (fun _ _ _ h=>h) (Or.inl ⟨by rfl,?_⟩) (by assumption) ?_;rotate_left;(focus (intro w hSw;(try dsimp only at hSw);(try obtain⟨hSw1,hSw2,hSw3⟩:=hSw);go_simp<;>with_reducible rfl));(try simp only[Act.put,List.getElem_toArray,List.getElem_cons_zero,List.getElem_cons_succ,List.setIfInBounds_toArray,List.set_cons_zero,List.set_cons_succ])
    have hcy:y3.heap[w1.heap.size]?=some (.cells #[.string ⟨#[]⟩,.slice none 0 0,.int .i64 0] 42):=(hy3.block w1.heap.size (by have:w1.heap.size<T1.heap.size:=hzT1;omega) (by have:w1.heap.size<T1.heap.size:=hzT1;omega)).trans ((hbT2.block w1.heap.size hzT1).trans hcT1)
    refine dU (i:=8) (by kernel_rfl) rfl rfl 42 (.tmp 5) (.tmp 24) rfl w1.heap.size #[.string (aj tb),.slice x3 m3 d3,.int .i64 (-1)] (by rfl) (by rfl) 42 _ hcy Tryz.tV rfl (zA _ _ _ _ _) (.inr rfl) ?_
    refine fC (by kernel_rfl) ?_ _
    show Only _ .normal _ _
    unfold Only
    go_wp2_with fail
    go_meet
    exact Et (Nat.le_refl _) hcy (Nat.le_of_lt hzT1) ho3 hB3
  case rest =>
   obtain⟨B,x2,m2,d2,rfl,hB,hcB,hown,hneB,hbc⟩:=hcut
   obtain⟨g,cg,hvg,hg1,hg2,hlcg,_⟩:=gZ hown HNE.out
   simp only[Value.slice.injEq] at hvg
   obtain⟨rfl,rfl,rfl⟩:=hvg
   have hgB:g≠B:=fun e=>hneB (by rw[e];rfl)
   have hBc:B<wc.heap.size:=World.lt_of_block hcB
   have HOW:=hid hown
   have HBC:=hid hbc
   have HAC:=hid ((hbc.block w.heap.size (by omega)).trans HA1.out)
   have HZC:=hid ((hbc.block (w.heap.size+1) (by omega)).trans HZ1.out)
   have hcB0:wc.heap[B]?=some (.cells #[.string (aj tb),.slice (some ⟨g,0,none⟩) l.length d2,.int .i64 (BF l prim 0)] 42):=by rw[hcB];unfold BF;rw[if_neg (Nat.not_lt_zero _)]
   clear hown hbc hcB hneB HAPP HA1 HZ1 k1
   go_wp2_with fail
   go_loopw [6] (fun i wr=>∃j:Nat,j≤l.length∧i = .int .i64 j∧aA (fun k=>k=B) wc wr∧wr.heap[B]?=some (.cells #[.string (aj tb),.slice (some ⟨g,0,none⟩) l.length d2,.int .i64 (BF l prim j)] 42)∧Hid (∀(m:Nat) (x:Co),m<j→l[m]?=some x→bO l x.nm=m)) (fun i _=>l.length-(intOf i).toNat)
   case atStart=>exact⟨0,Nat.zero_le _,rfl,aA.refl _ _,hcB0,hid (fun m x h=>absurd h (Nat.not_lt_zero _))⟩
   case round =>
    clear hcB0
    obtain⟨j,hj,rfl,hsr,hcr,HFI⟩:=hrel
    obtain⟨wo,rfl⟩:∃wo,wo=wr:=⟨_,rfl⟩
    have hzr:=hsr.size
    have hor:=hsr.row HOW.out (fun b hb=>by
           have:b=g:=by simpa [Value.ownBlock] using hb.symm
           show ¬b=B;omega)
    have hAr:=(hsr.block w.heap.size (by omega) (by omega)).trans HAC.out
    have hZr:=(hsr.block (w.heap.size+1) (by omega) (by omega)).trans HZC.out
    have hBr:Below w.heap.size w wo:=(HB1.out.trans (HBC.out.mono HB1.out.size)).trans (hsr.below (fun i hi=>by omega) (HB1.out.trans (HBC.out.mono HB1.out.size)).size)
    obtain⟨g',cg',e',_,_,_,hgc⟩:=gZ hor HNE.out
    simp only[Value.slice.injEq,Option.some.injEq,Addr.mk.injEq,and_true,true_and] at e'
    obtain⟨rfl,rfl⟩:=e'
    have HGC:=hid hgc
    have HOR:=hid hor
    have HAR:=hid hAr
    have HZR:=hid hZr
    have HBR:=hid hBr
    have HSR:=hid hsr
    have HCR:=hid hcr
    have kr:=aH hcr
    clear hgc hor hAr hZr hBr hsr hcr
    by_cases hlt:j<l.length
    ·obtain⟨x,hx⟩:∃x,l[j]?=some x:=⟨_,List.getElem?_eq_getElem hlt⟩
     have hlt':(j:Int)<(l.length:Int):=by omega
     have HX:=hid hx
     have hxj:=List.getElem?_eq_some_iff.1 hx
     have HTWO:Hid (∀m y,m<j→l[m]?=some y→y.nm=x.nm→M=(yH,13)):=hid (fun m y hm hy e=>HMK.out.two j x hx (fun h=>by
      have:=oN (l:=l) (nm:=x.nm) (List.getElem?_eq_some_iff.1 hy).1 (by rw[(List.getElem?_eq_some_iff.1 hy).2];exact e)
      omega))
     have HIDX:Hid ((∀m y,m<j→l[m]?=some y→y.nm≠x.nm)→bO l x.nm=j):=hid (fun h=>by
      have h1:=oN (l:=l) (nm:=x.nm) hxj.1 (by rw[hxj.2])
      rcases Nat.lt_or_ge (bO l x.nm) j with h2 | h2
      ·exact absurd (kC (l:=l) (nm:=x.nm) (by omega)) (h _ _ h2 (List.getElem?_eq_getElem (by omega)))
      ·omega)
     clear hx hxj
     go_wp2_with fail
     go_loopw [7] (fun kk wr=>∃m:Nat,m≤j∧kk = .int .i64 m∧Below wo.heap.size wo wr∧Hid (∀(q:Nat) (y:Co),q<m→l[q]?=some y→y.nm≠x.nm)) (fun kk _=>j-(intOf kk).toNat)
     case atStart=>exact⟨0,Nat.zero_le _,rfl,Below.refl _ _,hid (fun q y h=>absurd h (Nat.not_lt_zero _))⟩
     case round =>
      obtain⟨m,hm,rfl,hbi,HNQ⟩:=hrel
      have hsi:=hbi.size
      have kB:=aH ((hbi.block B (by have:=World.lt_of_block HCR.out;omega)).trans HCR.out)
      have p0:=(HGC.out wr hbi).1 j x HX.out 0 _ rfl
      rw[Nat.add_zero] at p0
      have HBI:=hid hbi
      by_cases hmj:m<j
      ·have hmj':(m:Int)<(j:Int):=by omega
       obtain⟨y,hy⟩:∃y,l[m]?=some y:=⟨_,List.getElem?_eq_getElem (by omega)⟩
       have q0:=(HGC.out wr hbi).1 m y hy 0 _ rfl
       rw[Nat.add_zero] at q0
       have hml:(m:Int)<(l.length:Int):=by omega
       have HT2:=hid (HTWO.out m y hmj hy)
       have HN2:Hid (y.nm≠x.nm→∀(q:Nat) (z:Co),q<m+1→l[q]?=some z→z.nm≠x.nm):=hid (fun h q z hq hz=>by
        rcases Nat.lt_or_ge q m with h1 | h1
        ·exact HNQ.out q z h1 hz
        ·obtain rfl:q=m:=by omega
         rw[hy] at hz
         injection hz with hz
         rw[← hz]
         exact h)
       have kz:=aH ((hbi.block (w.heap.size+1) (by omega)).trans HZR.out)
       have HS0:=hid (aM kz.1)
       have hse:=zm x.nm y.nm
       clear hy HNQ hbi
       by_cases hxy:x.nm=y.nm
       ·rw[decide_eq_true hxy] at hse
        obtain rfl:=HT2.out hxy.symm
        clear hxy HT2 HN2
        go_wp2_with fail
        go_quiet (fail)
        obtain⟨wq,hwq⟩:∃wq,wr.drewN nq=wq:=⟨_,rfl⟩
        have hbq:Below wo.heap.size wo wq:=by rw[← hwq];exact below_drewN HBI.out nq
        have kq:=aH ((hbq.block (w.heap.size+1) (by omega)).trans HZR.out)
        have HQ0:=hid (aM kq.1)
        have HQ1:=hid (aM kq.2.1)
        have HQ2:=hid (aM kq.2.2.1)
        have HBQ:=hid (HBR.out.trans (hbq.mono HBR.out.size))
        rw[hwq]
        clear hbq HS0 kz
        go_wp2
        rw[HQ0.out,HQ1.out,HQ2.out]
        exact bodyPost_ret (v:=.tuple #[.agg #[.string ⟨#[]⟩,.slice none 0 0,.int .i64 0],.int .i64 13]) (by simp[results,Tryz.results28,go_sem,kq]) rfl ⟨_,rfl,iI _ _ HBQ.out.size,HBQ.out⟩
       ·rw[decide_eq_false hxy] at hse
        have HN3:=hid (HN2.out (fun e=>hxy e.symm))
        clear hxy HT2 HN2
        go_wp2_with fail
        go_quiet (fail)
        go_wp2
        go_roundw
        case rel=>exact⟨m+1,by omega,by go_num,by first | exact below_drewN HBI.out nq | exact HBI.out,HN3⟩
        case measure=>simp[intOf];omega
      ·have hmj' : ¬(m:Int)<(j:Int):=by omega
       have hix:=HIDX.out (fun q y hq hy=>HNQ.out q y (by omega) hy)
       have kS:=ay ((hbi.block w.heap.size (by omega)).trans HAR.out)
       have HFX:Hid (∀(q:Nat) (y:Co),q<j+1→l[q]?=some y→bO l y.nm=q):=hid (fun q y hq hy=>by
        rcases Nat.lt_or_ge q j with h1 | h1
        ·exact HFI.out q y h1 hy
        ·obtain rfl:q=j:=by omega
         have:=HX.out
         rw[hy] at this
         injection this with this
         rw[this]
         exact hix)
       have hse:=zm x.nm prim
       clear HNQ hbi HTWO HIDX
       by_cases hxp:x.nm=prim
       ·rw[decide_eq_true hxp] at hse
        have HPV:=hid (FH (l:=l) (prim:=prim) (j:=j) (by rw[← hxp];exact hix))
        clear hxp hix
        go_wp2_with fail
        go_quiet (fail)
        obtain⟨wq,hwq⟩:∃wq,wr.drewN nq=wq:=⟨_,rfl⟩
        have hbq:Below wo.heap.size wo wq:=by rw[← hwq];exact below_drewN HBI.out nq
        have hBlt:=World.lt_of_block HCR.out
        have hcq:=(hbq.block B hBlt).trans HCR.out
        have kq:=aH hcq
        obtain⟨X,hX,hcX,hspX⟩:=oM hcq (.int .i64 j)
        rw[← HPV.out] at hcX
        have HCX:=hid hcX
        have HSX:Hid (aA (fun k=>k=B) wc X):=hid ((HSR.out.andThen (aA.aC (S:=fun k=>k=B) hbq) (fun i hi=>.inl hi)).andThen hspX (fun i hi=>.inl hi))
        rw[hwq]
        clear hbq hcq hspX hcX kB
        go_wp2
        go_roundw
        case rel=>exact⟨j+1,by omega,by go_num,HSX.out,HCX.out,HFX⟩
        case measure=>simp[intOf];omega
       ·rw[decide_eq_false hxp] at hse
        have HPV:=hid (Gi (l:=l) (prim:=prim) (j:=j) (fun e=>hxp (by
         have h1:=kC (l:=l) (nm:=prim) (by omega)
         have h2:=HX.out
         rw[← e,List.getElem?_eq_getElem (by omega)] at h2
         injection h2 with h2
         rw[← h2]
         exact h1)))
        clear hxp hix
        go_wp2_with fail
        go_quiet (fail)
        go_wp2
        go_roundw
        case rel =>
         have hbq:Below wo.heap.size wo (wr.drewN nq):=below_drewN HBI.out nq
         refine ⟨j+1,by omega,by go_num,?_,?_,HFX⟩
         ·exact HSR.out.andThen (aA.aC (S:=fun k=>k=B) hbq) (fun i hi=>.inl hi)
         ·rw[HPV.out]
          exact (hbq.block B (World.lt_of_block HCR.out)).trans HCR.out
        case measure=>simp[intOf];omega
    ·have hlt' : ¬(j:Int)<(l.length:Int):=by omega
     have hM:=HMK.out.fin (fun m x hx=>HFI.out m x (by have:=(List.getElem?_eq_some_iff.1 hx).1;omega) hx)
     obtain rfl:j=l.length:=by omega
     have hBlt:=World.lt_of_block HCR.out
     by_cases hp:bO l prim<l.length
     ·rw[if_pos hp] at hM
      have hpv:BF l prim l.length=(bO l prim:Nat):=by unfold BF;rw[if_pos hp]
      rw[hpv] at HCR kr
      generalize bO l prim=p at hM hp HCR kr
      obtain⟨x,hx⟩:∃x,l[p]?=some x:=⟨_,List.getElem?_eq_getElem hp⟩
      have HX:=hid hx
      have hp' : ¬(p:Int)<0:=by omega
      have hp'':(p:Int)<(l.length:Int):=by omega
      subst hM
      have hq:=(HGC.out wo (Below.refl _ _)).1 p x hx
      have q2:=hq 2 _ rfl
      have q3:=hq 3 _ rfl
      have qf:=(HGC.out wo (Below.refl _ _)).2
      obtain⟨X,hX⟩:∃X,wo.setCell ⟨g,p*4+2,none⟩ (.bool true)=X:=⟨_,rfl⟩
      obtain⟨Y,hY⟩:∃Y,X.setCell ⟨g,p*4+3,none⟩ (.bool true)=Y:=⟨_,rfl⟩
      have hoX:=HOR.out.stored (p*4+2) (.bool true)
      rw[hX] at hoX
      have hoY:=hoX.1.stored (p*4+3) (.bool true)
      rw[hY] at hoY
      have hsX:aA (fun k=>k=g) wo X:=aA.dZ hoX.2 (fun k e=>by injection e with e;exact e.symm)
      have hsY:aA (fun k=>k=g) X Y:=aA.dZ hoY.2 (fun k e=>by injection e with e;exact e.symm)
      have hzX:=hsX.size
      have hzY:=hsY.size
      have hcX:=(hsX.block B hBlt (fun e=>hgB e.symm)).trans HCR.out
      have hcY:=(hsY.block B (by omega) (fun e=>hgB e.symm)).trans hcX
      have kX:=aH hcX
      have kY:=aH hcY
      have hZY:=(hsY.block (w.heap.size+1) (by omega) (by omega)).trans ((hsX.block (w.heap.size+1) (by omega) (by omega)).trans HZR.out)
      have kZ:=aH hZY
      have HOY:=hid hoY.1
      have xf : ∀i,X.frozen? ⟨g,i,none⟩=false:=fun i=>hoX.1.frozenAt i
      have x3:X.cell? ⟨g,p*4+3,none⟩=some (.bool x.uq):=by rw[← hX,World.cell?_setCell_other _ _ _ _ (by simp)];exact q3
      have HBY:Hid (Below w.heap.size w Y):=hid (HBR.out.trans ((hsX.andThen hsY (fun i hi=>.inl hi)).below (fun i hi=>by omega) HBR.out.size))
      clear hq hx hoX hoY hsX hsY hcX hcY hZY HFI hpv
      go_wp2
      have hSp:aA (fun k=>k=w.heap.size+1) Y (((Y.setCell ⟨w.heap.size+1,0,none⟩ (.string (aj tb))).setCell ⟨w.heap.size+1,1,none⟩ (.slice (some ⟨g,0,none⟩) l.length d2)).setCell ⟨w.heap.size+1,2,none⟩ (.int .i64 p)):=(((aA.refl (fun k=>k=w.heap.size+1) Y).own _ _).own _ _).own _ _
      have hBF:Below w.heap.size w (((Y.setCell ⟨w.heap.size+1,0,none⟩ (.string (aj tb))).setCell ⟨w.heap.size+1,1,none⟩ (.slice (some ⟨g,0,none⟩) l.length d2)).setCell ⟨w.heap.size+1,2,none⟩ (.int .i64 p)):=HBY.out.trans (hSp.below (fun i hi=>by omega) HBY.out.size)
      refine bodyPost_ret (v:=.tuple #[.agg #[.string (aj tb),.slice (some ⟨g,0,none⟩) l.length d2,.int .i64 p],.int .i64 0]) (by simp[results,Tryz.results28,go_sem,kZ]) rfl ⟨_,rfl,⟨_,_,_,rfl,?_⟩,hBF⟩
      dsimp only
      rw[fE,nV l p x HX.out]
      exact dP (hSp.row HOY.out (fun b hb=>by
       have:b=g:=by simpa [Value.ownBlock] using hb.symm
       omega)) (fun b hb=>by
       have:b=g:=by simpa [Value.ownBlock] using hb.symm
       omega)
     ·rw[if_neg hp] at hM
      have hpv:BF l prim l.length = -1:=by unfold BF;rw[if_neg hp]
      rw[hpv] at HCR kr
      subst hM
      have kz:=aH HZR.out
      have HS0:=hid (aM kz.1)
      have HS1:=hid (aM kz.2.1)
      have HS2:=hid (aM kz.2.2.1)
      clear hp hpv HFI
      go_wp2
      rw[HS0.out,HS1.out,HS2.out]
      exact bodyPost_ret (v:=.tuple #[.agg #[.string ⟨#[]⟩,.slice none 0 0,.int .i64 0],.int .i64 12]) (by simp[results,Tryz.results28,go_sem,kz]) rfl ⟨_,rfl,iI _ _ HBR.out.size,HBR.out⟩
 ·have hM:M=(yH,4):=hmb (by
   cases ok with
   | false=>rw[Bool.and_false]
   | true=>rw[Bool.and_true];exact decide_eq_false (fun h=>hok ⟨h,rfl⟩))
  subst hM
  clear hmb hmk hsl
  have hbad:ok=false∨(ok=true∧(k != 1)=true):=by
   cases ok with
   | false=>exact .inl rfl
   | true=>exact .inr ⟨rfl,by simpa using fun h=>hok ⟨h,rfl⟩⟩
  clear hok
  go_enter Tryz.func28,Tryz.ntmps28
  go_wp2_with fail
  try rw[hW]
  refine HRC.out.mono ?_
  rintro e w1 ⟨rfl,hb1⟩
  have hs1:=hb1.size
  have k1:=ay ((hb1.block w.heap.size (by omega)).trans HCA.out)
  have kz:=aH ((hb1.block (w.heap.size+1) (by omega)).trans HCB.out)
  have HS0:=hid (aM kz.1)
  have HS1:=hid (aM kz.2.1)
  have HS2:=hid (aM kz.2.2.1)
  have HB1:=hid (HB.out.trans (hb1.mono HB.out.size))
  clear hb1 HRC
  rcases hbad with rfl | ⟨rfl,hk⟩
  ·go_wp2
   rw[HS0.out,HS1.out,HS2.out]
   exact bodyPost_ret (v:=.tuple #[.agg #[.string ⟨#[]⟩,.slice none 0 0,.int .i64 0],.int .i64 4]) (by simp[results,Tryz.results28,go_sem,kz]) rfl ⟨_,rfl,iI _ _ HB1.out.size,HB1.out⟩
  ·go_wp2
   rw[HS0.out,HS1.out,HS2.out]
   exact bodyPost_ret (v:=.tuple #[.agg #[.string ⟨#[]⟩,.slice none 0 0,.int .i64 0],.int .i64 4]) (by simp[results,Tryz.results28,go_sem,kz]) rfl ⟨_,rfl,iI _ _ HB1.out.size,HB1.out⟩
end Go.Proofs.YtfeglkleoijlaaaGreatDoor
