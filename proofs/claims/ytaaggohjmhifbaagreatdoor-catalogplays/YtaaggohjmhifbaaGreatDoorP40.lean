/- Packed for the hand-in: CRMake -/
import Derived.Test.YtaaggohjmhifbaaGreatDoorP35
import Derived.Test.YtaaggohjmhifbaaGreatDoorP39
import Derived.Test.YtaaggohjmhifbaaGreatDoorP36
namespace Go.Proofs.YtaaggohjmhifbaaGreatDoor
open Go.RowKit Go.Shelf Go.Lib
set_option linter.unusedSimpArgs false
set_option linter.unusedVariables false
set_option maxRecDepth 20000
set_option maxHeartbeats 8000000
def pvN (l:List Co) (prim:List UInt8) (i:Nat):Int:=if idxN l prim<i then (idxN l prim:Nat) else -1
section
variable {P : Program} {md : Region.Mode} {ops : Array Oper} {Q : Exit → Act → World → Prop} {S : World → Prop} {fuel : Nat} {listed : Array Bool} {a : Act} {w : World} {i j k0 : Nat} {oi oj : Oper}
theorem takeE_twoC (hr:Region.ready md ops listed=[i,j]) (hi:ops[i]?=some oi) (hj:ops[j]?=some oj) (gi:oi.guard=none) (gj:oj.guard=none)
  (h1:oi.wp P a w (fun a' w'=>(S w'∨i=k0)∧wpAnyE P md ops Q S k0 fuel (listed.setIfInBounds i true) a' w') Q)
  (h2:oj.wp P a w (fun a' w'=>(S w'∨j=k0)∧wpAnyE P md ops Q S k0 fuel (listed.setIfInBounds j true) a' w') Q):wpAnyE P md ops Q S k0 (fuel+1) listed a w:=by
 refine wpAnyE_all hr (by simp) fun k hk=>?_
 simp only[List.mem_cons,List.not_mem_nil,or_false] at hk
 rcases hk with rfl | rfl
 ·unfold wpOp
  simp only[hi,show Region.wanted oi (yielded ops a.tmps)=true by simp[Region.wanted,gi],if_true]
  exact .inl h1
 ·unfold wpOp
  simp only[hj,show Region.wanted oj (yielded ops a.tmps)=true by simp[Region.wanted,gj],if_true]
  exact .inl h2
theorem wp_valueC {K:Act→World→Prop} {v:Value} {w':World} (hrun:(execOp a.eval oi).run P w = .ok (.value v) w') (h:K (a.put oi.dst v) w'):oi.wp P a w K Q:=by
 unfold Oper.wp
 rw[hrun]
 exact h
theorem exec_appC {s x:Operand} {t:TypeId} (ki:oi.op = .call { callee:=.builtin .append,args:=#[s,x],argTypes:=#[t,t] }) {v u v':Value} {w':World} (hs:a.eval s=v) (hx:a.eval x=u) (hr:(Builtin.append_ #[t,t] oi.type #[v,u]).run P w = .ok v' w') :
  (execOp a.eval oi).run P w = .ok (.value v') w':=by
 unfold execOp
 simp only[ki,resolve,invoke,builtin,Sem.run_bind,Sem.run_pure,Result.andThen_ok,List.map_toArray,List.map_cons,List.map_nil,hs,hx,hr]
end
theorem exec_bs0 (a:Act) (oi:Oper) (ki:oi.op = .buildSlice 22 0 #[]) (V:World):(execOp a.eval oi).run Tryz.prog V = .ok (.value (.slice (some ⟨V.heap.size,0,none⟩) 0 0)) (V.alloc (.cells #[] 37)):=by
 have u:=Tryz.underlying22
 unfold execOp
 simp only[ki]
 go_simp
theorem exec_alT (a:Act) (oi:Oper) (ki:oi.op = .alloc 31) (V:World):(execOp a.eval oi).run Tryz.prog V = .ok (.value (.pointer (some ⟨V.heap.size,0,none⟩))) (V.alloc (.cells #[.string ⟨#[]⟩,.slice none 0 0,.int .i64 0] 31)):=by
 unfold execOp
 simp only[ki]
 go_simp
theorem own_ne {w:World} {base n B:Nat} {v:Value} {xs:List Value} {cs:Array Value} (h:w.ownsRow base 37 4 v n xs) (hc:w.heap[B]?=some (.cells cs 31)):v.ownBlock≠some B:=fun e=>by
 rcases h.2 with⟨rfl,_⟩ | ⟨g,cap,cur,rfl,_,hg,_⟩
 ·cases e
 ·simp only[Value.ownBlock,Option.some.injEq] at e
  subst e
  rw[hg] at hc
  injection hc with hc
  injection hc with h1 h2
  exact absurd h2 (by decide)
theorem leafT {w1 Z:World} {B base:Nat} {x:Option Addr} {m d:Nat} {tb:List UInt8} {l:List Co} {cs:Array Value} (hB:w1.heap.size≤B) (hc:Z.heap[B]?=some (.cells cs 31)) (hb:w1.heap.size≤base) (ho:Z.ownsRow base 37 4 (.slice x m d) l.length (colsC l)) (hbel:Below w1.heap.size w1 Z) :
  ∃(B':Nat) (x2:Option Addr) (m2 d2:Nat),Value.pointer (some ⟨B,0,none⟩) = .pointer (some ⟨B',0,none⟩)∧w1.heap.size≤B'∧(Z.setRow B #[.string (str8 tb),.slice x m d,.int .i64 (-1)]).heap[B']?=some (.cells #[.string (str8 tb),.slice x2 m2 d2,.int .i64 (-1)] 31)∧(Z.setRow B #[.string (str8 tb),.slice x m d,.int .i64 (-1)]).ownsRow w1.heap.size 37 4 (.slice x2 m2 d2) l.length (colsC l)∧(Value.slice x2 m2 d2).ownBlock≠some B'∧Below w1.heap.size w1 (Z.setRow B #[.string (str8 tb),.slice x m d,.int .i64 (-1)]):=by
 have hne:=own_ne ho hc
 have hSp:Spares (fun k=>k=B) Z (Z.setRow B #[.string (str8 tb),.slice x m d,.int .i64 (-1)]):=Spares.setRow (S:=fun k=>k=B) (Spares.refl _ Z) (p:=B) (.inl rfl) _
 exact⟨B,x,m,d,rfl,hB,setRow_heap Z B _ _ _ _ hc,owns_lower (hSp.row ho (fun g hg=>by rintro rfl;exact hne hg)) (fun g hg=>Nat.le_trans hb (ho.lt g hg).1),hne,hbel.trans (hSp.below (fun i hi=>by omega) hbel.size)⟩
theorem oneTb (s:ByteArray) (aa:Option Addr) (nn cc:Nat) (n:Int):(#[.string s,.slice aa nn cc,.int .i64 n]:Array Value).all (·.oneCell')=true:=by simp[Value.oneCell']
theorem Tryz.infoTab:(Tryz.prog.info? 31).map (·.size)=some 3:=by kernel_rfl
theorem set2of3 {w:World} {b:Nat} {a0 a1 a2:Value} {t:TypeId} (h:w.heap[b]?=some (.cells #[a0,a1,a2] t)) (v:Value) :
  ∃X,w.setCell ⟨b,2,none⟩ v=X∧X.heap[b]?=some (.cells #[a0,a1,v] t)∧Spares (fun k=>k=b) w X:=by
 refine ⟨_,rfl,?_,(Spares.refl (fun k=>k=b) w).own _ _⟩
 rw[setCell_eq_setRow w b 2 _ t _ v h,setRow_heap w b _ _ t _ h]
 simp only[List.setIfInBounds_toArray,List.set_cons_zero,List.set_cons_succ]
theorem pvN_yes {l:List Co} {prim:List UInt8} {j:Nat} (h:idxN l prim=j):pvN l prim (j+1)=(j:Int):=by unfold pvN;rw[if_pos (by omega),h]
theorem pvN_no {l:List Co} {prim:List UInt8} {j:Nat} (h:idxN l prim≠j):pvN l prim (j+1)=pvN l prim j:=by
 unfold pvN
 by_cases h1:idxN l prim<j
 ·rw[if_pos h1,if_pos (by omega)]
 ·rw[if_neg h1,if_neg (by omega)]
theorem str_eqB (a b:List UInt8):((str8 a).toList==(str8 b).toList)=decide (a=b):=by
 rw[str8_toList,str8_toList]
 by_cases h:a=b<;>simp[h]
theorem rmake_of (S:Nat→Prop) (s:St) (cs:List Value) (w:World) (hfit : ∀V,Below w.heap.size w V→Calls Tryz.prog 32 #[.agg cs.toArray] V fun e w'=>e = .returned (.bool (rightS s))∧Below V.heap.size V w') (hx:StE S w s cs) :
  Calls Tryz.prog 11 #[.agg cs.toArray] w fun e w'=>∃ds:List Value,e = .returned (.tuple #[.agg ds.toArray,.int .i64 (makeA s).2])∧TbO w.heap.size w' (makeA s).1 ds∧Below w.heap.size w w':=by
 obtain⟨a1,a2,a3,a4,a5,a6,a7,a8,n1,n2,n3,n4,n5,n6,n7,n8,c1,c2,c3,c4,c5,c6,c7,c8,rfl,hsl,_⟩:=hx
 obtain⟨W,hW,hbW,hzW,hcA,hcB⟩:=two w (.cells #[.int .i64 s.k,.string (str8 s.tb),.slice a1 n1 c1,.string (str8 s.prim),.slice a2 n2 c2,.slice a3 n3 c3,.slice a4 n4 c4,.string (str8 s.jn),.slice a5 n5 c5,.slice a6 n6 c6,.slice a7 n7 c7,.slice a8 n8 c8,.bool s.desc,.int .i64 s.lim] 28) (.cells #[.string ⟨#[]⟩,.slice none 0 0,.int .i64 0] 31)
 have k0:=cells14 hcA
 have HRC:=hid (hfit W hbW)
 have HB:=hid hbW
 have HCA:=hid hcA
 have HCB:=hid hcB
 have hmb:(decide (s.k=1)&&rightS s)=false→makeA s=(zTb,4):=make_bad
 have hmk:s.k=1→rightS s=true→MkOf s.cols s.prim s.tb (makeA s)∧(∀p,ShT ⟨s.tb,s.cols,p⟩)∧s.cols≠[]:=fun h1 h2=>⟨mk_of h1 h2,fun p=>(right_short h1 h2 p).1,(right_short h1 h2 0).2⟩
 clear hbW hcA hcB hfit
 generalize makeA s=M at hmb hmk ⊢
 generalize rightS s=ok at HRC hmb hmk
 obtain⟨k,tb,l,prim,rows,sets,items,jn,on,wh,gr,od,desc,lim⟩:=s
 dsimp only at hW k0 HRC HCA hmb hmk hsl
 by_cases hok:k=1∧ok=true
 ·obtain⟨rfl,rfl⟩:=hok
  obtain⟨hmk,hsh,hne⟩:=hmk rfl rfl
  have h8:=(hsh 0).2.1
  dsimp only at h8
  obtain⟨b,off,c,hv,hlc,hcm,hS,hlt0,hel⟩:=cols_at hsl hne
  simp only[Value.slice.injEq] at hv
  obtain⟨rfl,rfl,rfl⟩:=hv
  unfold maxLen at hcm
  have HSL:=hid hsl
  have HNE:=hid hne
  have HMK:=hid hmk
  clear hmb hmk hsh hsl hel
  go_enter Tryz.func11,Tryz.ntmps11
  go_wp2_with fail
  try rw[hW]
  refine HRC.out.mono ?_
  rintro e w1 ⟨rfl,hb1⟩
  have hs1:=hb1.size
  have hA1:=(hb1.block w.heap.size (by omega)).trans HCA.out
  have hZ1:=(hb1.block (w.heap.size+1) (by omega)).trans HCB.out
  have k1:=cells14 hA1
  have HA1:=hid hA1
  have HZ1:=hid hZ1
  have hB1:=HB.out.trans (hb1.mono HB.out.size)
  have HB1:=hid hB1
  have hz1:w.heap.size+1<w1.heap.size:=by omega
  have HAPP:Hid (∀(Z:World) (g:Nat),Below w1.heap.size w1 Z→w1.heap.size≤g→Z.heap[g]?=some (.cells #[] 37)→∃a2 n2 c2 w',(Builtin.append_ #[22,22] 22 #[.slice (some ⟨g,0,none⟩) 0 0,.slice (some ⟨b,off,none⟩) l.length c1]).run Tryz.prog Z = .ok (.slice a2 n2 c2) w'∧w'.ownsRow g 37 4 (.slice a2 n2 c2) l.length (colsC l)∧Spares (fun k=>k=g) Z w'):=hid (fun Z g hZ hg hc=>append_cols (HSL.out.to (T:=S) (by decide) (R:=fun _=>False) (Spares.of_new (hB1.trans (hZ.mono hB1.size))) (fun b hb _=>⟨id,hb⟩) (fun _ _ e=>e)) (by omega) hc g (Nat.le_refl _) 22)
  clear hb1 HRC hW k0 HCA HCB HB hzW hA1 hZ1 hB1
  go_upto_region 4 with fail
  go_cut [5] (fun u5 wx=>∃(B:Nat) (x2:Option Addr) (m2 d2:Nat),u5 = .pointer (some ⟨B,0,none⟩)∧w1.heap.size≤B∧wx.heap[B]?=some (.cells #[.string (str8 tb),.slice x2 m2 d2,.int .i64 (-1)] 31)∧wx.ownsRow w1.heap.size 37 4 (.slice x2 m2 d2) l.length (colsC l)∧(Value.slice x2 m2 d2).ownBlock≠some B∧Below w1.heap.size w1 wx)
  case first =>
   obtain⟨E1,hE1,hbE1,hzE1,hcE1⟩:=box8 w1.drew (.cells #[] 37)
   obtain⟨E2,hE2,hbE2,hzE2,hcE2⟩:=box8 E1 (.cells #[.string ⟨#[]⟩,.slice none 0 0,.int .i64 0] 31)
   obtain⟨T1,hT1,hbT1,hzT1,hcT1⟩:=box8 w1.drew (.cells #[.string ⟨#[]⟩,.slice none 0 0,.int .i64 0] 31)
   obtain⟨T2,hT2,hbT2,hzT2,hcT2⟩:=box8 T1 (.cells #[] 37)
   have hd:Below w1.heap.size w1 w1.drew:=(Below.refl _ w1).drew
   have hdE1:Below w1.heap.size w1 E1:=hd.trans hbE1
   have hdE2:Below w1.heap.size w1 E2:=hdE1.trans (hbE2.mono hdE1.size)
   have hdT1:Below w1.heap.size w1 T1:=hd.trans hbT1
   have hdT2:Below w1.heap.size w1 T2:=hdT1.trans (hbT2.mono hdT1.size)
   obtain⟨x1,m1,d1,y1,hr1,ho1,hy1⟩:=HAPP.out E1 w1.heap.size hdE1 (Nat.le_refl _) hcE1
   obtain⟨x2,m2,d2,y2,hr2,ho2,hy2⟩:=HAPP.out E2 w1.heap.size hdE2 (Nat.le_refl _) ((hbE2.block w1.heap.size hzE1).trans hcE1)
   obtain⟨x3,m3,d3,y3,hr3,ho3,hy3⟩:=HAPP.out T2 T1.heap.size hdT2 (Nat.le_of_lt hzT1) hcT2
   have HS:Hid (∀V,Below w1.heap.size w1 V→V.cell? ⟨w.heap.size,1,none⟩=some (.string (str8 tb))∧V.cell? ⟨w.heap.size,2,none⟩=some (.slice (some ⟨b,off,none⟩) l.length c1)∧True):=hid (fun V hV=>by
    have q:=cells14 ((hV.block w.heap.size (by omega)).trans HA1.out)
    exact⟨q.2.1,q.2.2.1,trivial⟩)
   have hS0:=HS.out _ hd
   have hS1:=HS.out _ hdE1
   have hS2:=HS.out _ hdE2
   have hS3:=HS.out _ hdT1
   have hS4:=HS.out _ hdT2
   have hB1:Below w1.heap.size w1 y1:=hdE1.trans (hy1.below (fun i hi=>by omega) hdE1.size)
   have hB2:Below w1.heap.size w1 y2:=hdE2.trans (hy2.below (fun i hi=>by omega) hdE2.size)
   have hB3:Below w1.heap.size w1 y3:=hdT2.trans (hy3.below (fun i hi=>by have:w1.heap.size<T1.heap.size:=hzT1;omega) hdT2.size)
   have hS5:=HS.out _ hB1
   have hS6:=HS.out _ hB2
   have hS7:=HS.out _ hB3
   obtain⟨F1,hF1,hbF1,hzF1,hcF1⟩:=box8 y1 (.cells #[.string ⟨#[]⟩,.slice none 0 0,.int .i64 0] 31)
   have hBF1:Below w1.heap.size w1 F1:=hB1.trans (hbF1.mono hB1.size)
   have hS8:=HS.out _ hBF1
   refine last_region (fun V:World=>V.cell? ⟨w.heap.size,1,none⟩=some (.string (str8 tb))∧V.cell? ⟨w.heap.size,2,none⟩=some (.slice (some ⟨b,off,none⟩) l.length c1)∧True) 8 (by kernel_rfl) ?_
   refine wpAnyE_take (i:=0) (v:=?_) rfl (by kernel_rfl) (by kernel_rfl) (by kernel_rfl) (by kernel_rfl) (by kernel_rfl) (fun _ _ _ h=>h) (Or.inl ⟨by rfl,?_⟩) (by assumption) ?_;rotate_left;(focus (intro w hSw;(try dsimp only at hSw);(try obtain⟨hSw1,hSw2,hSw3⟩:=hSw);go_simp<;>with_reducible rfl));(try simp only[Act.put,List.getElem_toArray,List.getElem_cons_zero,List.getElem_cons_succ,List.setIfInBounds_toArray,List.set_cons_zero,List.set_cons_succ])
   refine wpAnyE_take (i:=1) (v:=?_) rfl (by kernel_rfl) (by kernel_rfl) (by kernel_rfl) (by kernel_rfl) (by kernel_rfl) (fun _ _ _ h=>h) (Or.inl ⟨by rfl,?_⟩) (by assumption) ?_;rotate_left;(focus (intro w hSw;(try dsimp only at hSw);(try obtain⟨hSw1,hSw2,hSw3⟩:=hSw);go_simp<;>with_reducible rfl));(try simp only[Act.put,List.getElem_toArray,List.getElem_cons_zero,List.getElem_cons_succ,List.setIfInBounds_toArray,List.set_cons_zero,List.set_cons_succ])
   refine wpAnyE_take (i:=3) (v:=?_) rfl (by kernel_rfl) (by kernel_rfl) (by kernel_rfl) (by kernel_rfl) (by kernel_rfl) (fun _ _ _ h=>h) (Or.inl ⟨by rfl,?_⟩) (by assumption) ?_;rotate_left;(focus (intro w hSw;(try dsimp only at hSw);(try obtain⟨hSw1,hSw2,hSw3⟩:=hSw);go_simp<;>with_reducible rfl));(try simp only[Act.put,List.getElem_toArray,List.getElem_cons_zero,List.getElem_cons_succ,List.setIfInBounds_toArray,List.set_cons_zero,List.set_cons_succ])
   refine wpAnyE_take (i:=4) (v:=?_) rfl (by kernel_rfl) (by kernel_rfl) (by kernel_rfl) (by kernel_rfl) (by kernel_rfl) (fun _ _ _ h=>h) (Or.inl ⟨by rfl,?_⟩) (by assumption) ?_;rotate_left;(focus (intro w hSw;(try dsimp only at hSw);(try obtain⟨hSw1,hSw2,hSw3⟩:=hSw);go_simp<;>with_reducible rfl));(try simp only[Act.put,List.getElem_toArray,List.getElem_cons_zero,List.getElem_cons_succ,List.setIfInBounds_toArray,List.set_cons_zero,List.set_cons_succ])
   refine takeE_twoC (i:=2) (j:=7) (by kernel_rfl) rfl rfl rfl rfl ?_ ?_
   ·refine wp_valueC (exec_bs0 _ _ rfl _) ?_
    rw[hE1]
    refine ⟨.inl hS1,?_⟩
    simp only[Act.put,List.getElem_toArray,List.getElem_cons_zero,List.getElem_cons_succ,List.setIfInBounds_toArray,List.set_cons_zero,List.set_cons_succ]
    refine takeE_twoC (i:=5) (j:=7) (by kernel_rfl) rfl rfl rfl rfl ?_ ?_
    ·refine wp_valueC (exec_appC rfl (by rfl) (by rfl) hr1) ⟨.inl hS5,?_⟩
     simp only[Act.put,List.getElem_toArray,List.getElem_cons_zero,List.getElem_cons_succ,List.setIfInBounds_toArray,List.set_cons_zero,List.set_cons_succ]
     refine wpAnyE_take (i:=6) (v:=?_) rfl (by kernel_rfl) (by kernel_rfl) (by kernel_rfl) (by kernel_rfl) (by kernel_rfl) (fun _ _ _ h=>h) (Or.inl ⟨by rfl,?_⟩) (by assumption) ?_;rotate_left;(focus (intro w hSw;(try dsimp only at hSw);(try obtain⟨hSw1,hSw2,hSw3⟩:=hSw);go_simp<;>with_reducible rfl));(try simp only[Act.put,List.getElem_toArray,List.getElem_cons_zero,List.getElem_cons_succ,List.setIfInBounds_toArray,List.set_cons_zero,List.set_cons_succ])
     refine takeE_one (i:=7) (by kernel_rfl) rfl rfl (wp_valueC (exec_alT _ _ rfl _) ?_)
     rw[hF1]
     refine ⟨.inl hS8,?_⟩
     simp only[Act.put,List.getElem_toArray,List.getElem_cons_zero,List.getElem_cons_succ,List.setIfInBounds_toArray,List.set_cons_zero,List.set_cons_succ]
     refine takeE_storerowC (i:=8) (by kernel_rfl) rfl rfl 31 (.tmp 5) (.tmp 24) rfl y1.heap.size #[.string (str8 tb),.slice x1 m1 d1,.int .i64 (-1)] (by rfl) (by rfl) 31 _ hcF1 Tryz.infoTab rfl (oneTb _ _ _ _ _) (.inr rfl) ?_
     refine wpAnyE_done (by kernel_rfl) ?_ _
     show Only _ .normal _ _
     unfold Only
     go_wp2_with fail
     go_meet
     exact leafT hB1.size hcF1 (Nat.le_refl _) (Spares.row (Spares.of_new (S:=fun _=>False) hbF1) ho1 (fun _ _=>id)) hBF1
    ·refine wp_valueC (exec_alT _ _ rfl _) ?_
     rw[hE2]
     refine ⟨.inl hS2,?_⟩
     simp only[Act.put,List.getElem_toArray,List.getElem_cons_zero,List.getElem_cons_succ,List.setIfInBounds_toArray,List.set_cons_zero,List.set_cons_succ]
     refine takeE_one (i:=5) (by kernel_rfl) rfl rfl (wp_valueC (exec_appC rfl (by rfl) (by rfl) hr2) ⟨.inl hS6,?_⟩)
     simp only[Act.put,List.getElem_toArray,List.getElem_cons_zero,List.getElem_cons_succ,List.setIfInBounds_toArray,List.set_cons_zero,List.set_cons_succ]
     refine wpAnyE_take (i:=6) (v:=?_) rfl (by kernel_rfl) (by kernel_rfl) (by kernel_rfl) (by kernel_rfl) (by kernel_rfl) (fun _ _ _ h=>h) (Or.inl ⟨by rfl,?_⟩) (by assumption) ?_;rotate_left;(focus (intro w hSw;(try dsimp only at hSw);(try obtain⟨hSw1,hSw2,hSw3⟩:=hSw);go_simp<;>with_reducible rfl));(try simp only[Act.put,List.getElem_toArray,List.getElem_cons_zero,List.getElem_cons_succ,List.setIfInBounds_toArray,List.set_cons_zero,List.set_cons_succ])
     have hcy:y2.heap[E1.heap.size]?=some (.cells #[.string ⟨#[]⟩,.slice none 0 0,.int .i64 0] 31):=(hy2.block E1.heap.size hzE2 (by have:w1.heap.size<E1.heap.size:=hzE1;omega)).trans hcE2
     refine takeE_storerowC (i:=8) (by kernel_rfl) rfl rfl 31 (.tmp 5) (.tmp 24) rfl E1.heap.size #[.string (str8 tb),.slice x2 m2 d2,.int .i64 (-1)] (by rfl) (by rfl) 31 _ hcy Tryz.infoTab rfl (oneTb _ _ _ _ _) (.inr rfl) ?_
     refine wpAnyE_done (by kernel_rfl) ?_ _
     show Only _ .normal _ _
     unfold Only
     go_wp2_with fail
     go_meet
     exact leafT hdE1.size hcy (Nat.le_refl _) ho2 hB2
   ·refine wp_valueC (exec_alT _ _ rfl _) ?_
    rw[hT1]
    refine ⟨.inl hS3,?_⟩
    simp only[Act.put,List.getElem_toArray,List.getElem_cons_zero,List.getElem_cons_succ,List.setIfInBounds_toArray,List.set_cons_zero,List.set_cons_succ]
    refine takeE_one (i:=2) (by kernel_rfl) rfl rfl (wp_valueC (exec_bs0 _ _ rfl _) ?_)
    rw[hT2]
    refine ⟨.inl hS4,?_⟩
    simp only[Act.put,List.getElem_toArray,List.getElem_cons_zero,List.getElem_cons_succ,List.setIfInBounds_toArray,List.set_cons_zero,List.set_cons_succ]
    refine takeE_one (i:=5) (by kernel_rfl) rfl rfl (wp_valueC (exec_appC rfl (by rfl) (by rfl) hr3) ⟨.inl hS7,?_⟩)
    simp only[Act.put,List.getElem_toArray,List.getElem_cons_zero,List.getElem_cons_succ,List.setIfInBounds_toArray,List.set_cons_zero,List.set_cons_succ]
    refine wpAnyE_take (i:=6) (v:=?_) rfl (by kernel_rfl) (by kernel_rfl) (by kernel_rfl) (by kernel_rfl) (by kernel_rfl) (fun _ _ _ h=>h) (Or.inl ⟨by rfl,?_⟩) (by assumption) ?_;rotate_left;(focus (intro w hSw;(try dsimp only at hSw);(try obtain⟨hSw1,hSw2,hSw3⟩:=hSw);go_simp<;>with_reducible rfl));(try simp only[Act.put,List.getElem_toArray,List.getElem_cons_zero,List.getElem_cons_succ,List.setIfInBounds_toArray,List.set_cons_zero,List.set_cons_succ])
    have hcy:y3.heap[w1.heap.size]?=some (.cells #[.string ⟨#[]⟩,.slice none 0 0,.int .i64 0] 31):=(hy3.block w1.heap.size (by have:w1.heap.size<T1.heap.size:=hzT1;omega) (by have:w1.heap.size<T1.heap.size:=hzT1;omega)).trans ((hbT2.block w1.heap.size hzT1).trans hcT1)
    refine takeE_storerowC (i:=8) (by kernel_rfl) rfl rfl 31 (.tmp 5) (.tmp 24) rfl w1.heap.size #[.string (str8 tb),.slice x3 m3 d3,.int .i64 (-1)] (by rfl) (by rfl) 31 _ hcy Tryz.infoTab rfl (oneTb _ _ _ _ _) (.inr rfl) ?_
    refine wpAnyE_done (by kernel_rfl) ?_ _
    show Only _ .normal _ _
    unfold Only
    go_wp2_with fail
    go_meet
    exact leafT (Nat.le_refl _) hcy (Nat.le_of_lt hzT1) ho3 hB3
  case rest =>
   obtain⟨B,x2,m2,d2,rfl,hB,hcB,hown,hneB,hbc⟩:=hcut
   obtain⟨g,cg,hvg,hg1,hg2,hlcg,_⟩:=owned_form hown HNE.out
   simp only[Value.slice.injEq] at hvg
   obtain⟨rfl,rfl,rfl⟩:=hvg
   have hgB:g≠B:=fun e=>hneB (by rw[e];rfl)
   have hBc:B<wc.heap.size:=World.lt_of_block hcB
   have HOW:=hid hown
   have HBC:=hid hbc
   have HAC:=hid ((hbc.block w.heap.size (by omega)).trans HA1.out)
   have HZC:=hid ((hbc.block (w.heap.size+1) (by omega)).trans HZ1.out)
   have hcB0:wc.heap[B]?=some (.cells #[.string (str8 tb),.slice (some ⟨g,0,none⟩) l.length d2,.int .i64 (pvN l prim 0)] 31):=by rw[hcB];unfold pvN;rw[if_neg (Nat.not_lt_zero _)]
   clear hown hbc hcB hneB HAPP HA1 HZ1 k1
   go_wp2_with fail
   go_loopw [6] (fun i wr=>∃j:Nat,j≤l.length∧i = .int .i64 j∧Spares (fun k=>k=B) wc wr∧wr.heap[B]?=some (.cells #[.string (str8 tb),.slice (some ⟨g,0,none⟩) l.length d2,.int .i64 (pvN l prim j)] 31)∧Hid (∀(m:Nat) (x:Co),m<j→l[m]?=some x→idxN l x.nm=m)) (fun i _=>l.length-(intOf i).toNat)
   case atStart=>exact⟨0,Nat.zero_le _,rfl,Spares.refl _ _,hcB0,hid (fun m x h=>absurd h (Nat.not_lt_zero _))⟩
   case round =>
    clear hcB0
    obtain⟨j,hj,rfl,hsr,hcr,HFI⟩:=hrel
    obtain⟨wo,rfl⟩:∃wo,wo=wr:=⟨_,rfl⟩
    have hzr:=hsr.size
    have hor:=hsr.row HOW.out (fun b hb=>by
           have:b=g:=by simpa [Value.ownBlock] using hb.symm
           show ¬b=B;omega)
    have hAr:=(hsr.block w.heap.size (by omega) (by omega)).trans HAC.out
    have hZr:=(hsr.block (w.heap.size+1) (by omega) (by omega)).trans HZC.out
    have hBr:Below w.heap.size w wo:=(HB1.out.trans (HBC.out.mono HB1.out.size)).trans (hsr.below (fun i hi=>by omega) (HB1.out.trans (HBC.out.mono HB1.out.size)).size)
    obtain⟨g',cg',e',_,_,_,hgc⟩:=owned_form hor HNE.out
    simp only[Value.slice.injEq,Option.some.injEq,Addr.mk.injEq,and_true,true_and] at e'
    obtain⟨rfl,rfl⟩:=e'
    have HGC:=hid hgc
    have HOR:=hid hor
    have HAR:=hid hAr
    have HZR:=hid hZr
    have HBR:=hid hBr
    have HSR:=hid hsr
    have HCR:=hid hcr
    have kr:=cells3f hcr
    clear hgc hor hAr hZr hBr hsr hcr
    by_cases hlt:j<l.length
    ·obtain⟨x,hx⟩:∃x,l[j]?=some x:=⟨_,List.getElem?_eq_getElem hlt⟩
     have hlt':(j:Int)<(l.length:Int):=by omega
     have HX:=hid hx
     have hxj:=List.getElem?_eq_some_iff.1 hx
     have HTWO:Hid (∀m y,m<j→l[m]?=some y→y.nm=x.nm→M=(zTb,13)):=hid (fun m y hm hy e=>HMK.out.two j x hx (fun h=>by
      have:=idxN_lt (l:=l) (nm:=x.nm) (List.getElem?_eq_some_iff.1 hy).1 (by rw[(List.getElem?_eq_some_iff.1 hy).2];exact e)
      omega))
     have HIDX:Hid ((∀m y,m<j→l[m]?=some y→y.nm≠x.nm)→idxN l x.nm=j):=hid (fun h=>by
      have h1:=idxN_lt (l:=l) (nm:=x.nm) hxj.1 (by rw[hxj.2])
      rcases Nat.lt_or_ge (idxN l x.nm) j with h2 | h2
      ·exact absurd (idxN_at (l:=l) (nm:=x.nm) (by omega)) (h _ _ h2 (List.getElem?_eq_getElem (by omega)))
      ·omega)
     clear hx hxj
     go_wp2_with fail
     go_loopw [7] (fun kk wr=>∃m:Nat,m≤j∧kk = .int .i64 m∧Below wo.heap.size wo wr∧Hid (∀(q:Nat) (y:Co),q<m→l[q]?=some y→y.nm≠x.nm)) (fun kk _=>j-(intOf kk).toNat)
     case atStart=>exact⟨0,Nat.zero_le _,rfl,Below.refl _ _,hid (fun q y h=>absurd h (Nat.not_lt_zero _))⟩
     case round =>
      obtain⟨m,hm,rfl,hbi,HNQ⟩:=hrel
      have hsi:=hbi.size
      have kB:=cells3f ((hbi.block B (by have:=World.lt_of_block HCR.out;omega)).trans HCR.out)
      have p0:=(HGC.out wr hbi).1 j x HX.out 0 _ rfl
      rw[Nat.add_zero] at p0
      have HBI:=hid hbi
      by_cases hmj:m<j
      ·have hmj':(m:Int)<(j:Int):=by omega
       obtain⟨y,hy⟩:∃y,l[m]?=some y:=⟨_,List.getElem?_eq_getElem (by omega)⟩
       have q0:=(HGC.out wr hbi).1 m y hy 0 _ rfl
       rw[Nat.add_zero] at q0
       have hml:(m:Int)<(l.length:Int):=by omega
       have HT2:=hid (HTWO.out m y hmj hy)
       have HN2:Hid (y.nm≠x.nm→∀(q:Nat) (z:Co),q<m+1→l[q]?=some z→z.nm≠x.nm):=hid (fun h q z hq hz=>by
        rcases Nat.lt_or_ge q m with h1 | h1
        ·exact HNQ.out q z h1 hz
        ·obtain rfl:q=m:=by omega
         rw[hy] at hz
         injection hz with hz
         rw[← hz]
         exact h)
       have kz:=cells3f ((hbi.block (w.heap.size+1) (by omega)).trans HZR.out)
       have HS0:=hid (setCell_same kz.1)
       have hse:=str_eqB x.nm y.nm
       clear hy HNQ hbi
       by_cases hxy:x.nm=y.nm
       ·rw[decide_eq_true hxy] at hse
        obtain rfl:=HT2.out hxy.symm
        clear hxy HT2 HN2
        go_wp2_with fail
        go_quiet (fail)
        obtain⟨wq,hwq⟩:∃wq,wr.drewN nq=wq:=⟨_,rfl⟩
        have hbq:Below wo.heap.size wo wq:=by rw[← hwq];exact below_drewN HBI.out nq
        have kq:=cells3f ((hbq.block (w.heap.size+1) (by omega)).trans HZR.out)
        have HQ0:=hid (setCell_same kq.1)
        have HQ1:=hid (setCell_same kq.2.1)
        have HQ2:=hid (setCell_same kq.2.2.1)
        have HBQ:=hid (HBR.out.trans (hbq.mono HBR.out.size))
        rw[hwq]
        clear hbq HS0 kz
        go_wp2
        rw[HQ0.out,HQ1.out,HQ2.out]
        exact bodyPost_ret (v:=.tuple #[.agg #[.string ⟨#[]⟩,.slice none 0 0,.int .i64 0],.int .i64 13]) (by simp[results,Tryz.results11,go_sem,kq]) rfl ⟨_,rfl,zTb_own _ _ HBQ.out.size,HBQ.out⟩
       ·rw[decide_eq_false hxy] at hse
        have HN3:=hid (HN2.out (fun e=>hxy e.symm))
        clear hxy HT2 HN2
        go_wp2_with fail
        go_quiet (fail)
        go_wp2
        go_roundw
        case rel=>exact⟨m+1,by omega,by go_num,by first | exact below_drewN HBI.out nq | exact HBI.out,HN3⟩
        case measure=>simp[intOf];omega
      ·have hmj' : ¬(m:Int)<(j:Int):=by omega
       have hix:=HIDX.out (fun q y hq hy=>HNQ.out q y (by omega) hy)
       have kS:=cells14 ((hbi.block w.heap.size (by omega)).trans HAR.out)
       have HFX:Hid (∀(q:Nat) (y:Co),q<j+1→l[q]?=some y→idxN l y.nm=q):=hid (fun q y hq hy=>by
        rcases Nat.lt_or_ge q j with h1 | h1
        ·exact HFI.out q y h1 hy
        ·obtain rfl:q=j:=by omega
         have:=HX.out
         rw[hy] at this
         injection this with this
         rw[this]
         exact hix)
       have hse:=str_eqB x.nm prim
       clear HNQ hbi HTWO HIDX
       by_cases hxp:x.nm=prim
       ·rw[decide_eq_true hxp] at hse
        have HPV:=hid (pvN_yes (l:=l) (prim:=prim) (j:=j) (by rw[← hxp];exact hix))
        clear hxp hix
        go_wp2_with fail
        go_quiet (fail)
        obtain⟨wq,hwq⟩:∃wq,wr.drewN nq=wq:=⟨_,rfl⟩
        have hbq:Below wo.heap.size wo wq:=by rw[← hwq];exact below_drewN HBI.out nq
        have hBlt:=World.lt_of_block HCR.out
        have hcq:=(hbq.block B hBlt).trans HCR.out
        have kq:=cells3f hcq
        obtain⟨X,hX,hcX,hspX⟩:=set2of3 hcq (.int .i64 j)
        rw[← HPV.out] at hcX
        have HCX:=hid hcX
        have HSX:Hid (Spares (fun k=>k=B) wc X):=hid ((HSR.out.andThen (Spares.of_new (S:=fun k=>k=B) hbq) (fun i hi=>.inl hi)).andThen hspX (fun i hi=>.inl hi))
        rw[hwq]
        clear hbq hcq hspX hcX kB
        go_wp2
        go_roundw
        case rel=>exact⟨j+1,by omega,by go_num,HSX.out,HCX.out,HFX⟩
        case measure=>simp[intOf];omega
       ·rw[decide_eq_false hxp] at hse
        have HPV:=hid (pvN_no (l:=l) (prim:=prim) (j:=j) (fun e=>hxp (by
         have h1:=idxN_at (l:=l) (nm:=prim) (by omega)
         have h2:=HX.out
         rw[← e,List.getElem?_eq_getElem (by omega)] at h2
         injection h2 with h2
         rw[← h2]
         exact h1)))
        clear hxp hix
        go_wp2_with fail
        go_quiet (fail)
        go_wp2
        go_roundw
        case rel =>
         have hbq:Below wo.heap.size wo (wr.drewN nq):=below_drewN HBI.out nq
         refine ⟨j+1,by omega,by go_num,?_,?_,HFX⟩
         ·exact HSR.out.andThen (Spares.of_new (S:=fun k=>k=B) hbq) (fun i hi=>.inl hi)
         ·rw[HPV.out]
          exact (hbq.block B (World.lt_of_block HCR.out)).trans HCR.out
        case measure=>simp[intOf];omega
    ·have hlt' : ¬(j:Int)<(l.length:Int):=by omega
     have hM:=HMK.out.fin (fun m x hx=>HFI.out m x (by have:=(List.getElem?_eq_some_iff.1 hx).1;omega) hx)
     obtain rfl:j=l.length:=by omega
     have hBlt:=World.lt_of_block HCR.out
     by_cases hp:idxN l prim<l.length
     ·rw[if_pos hp] at hM
      have hpv:pvN l prim l.length=(idxN l prim:Nat):=by unfold pvN;rw[if_pos hp]
      rw[hpv] at HCR kr
      generalize idxN l prim=p at hM hp HCR kr
      obtain⟨x,hx⟩:∃x,l[p]?=some x:=⟨_,List.getElem?_eq_getElem hp⟩
      have HX:=hid hx
      have hp' : ¬(p:Int)<0:=by omega
      have hp'':(p:Int)<(l.length:Int):=by omega
      subst hM
      have hq:=(HGC.out wo (Below.refl _ _)).1 p x hx
      have q2:=hq 2 _ rfl
      have q3:=hq 3 _ rfl
      have qf:=(HGC.out wo (Below.refl _ _)).2
      obtain⟨X,hX⟩:∃X,wo.setCell ⟨g,p*4+2,none⟩ (.bool true)=X:=⟨_,rfl⟩
      obtain⟨Y,hY⟩:∃Y,X.setCell ⟨g,p*4+3,none⟩ (.bool true)=Y:=⟨_,rfl⟩
      have hoX:=HOR.out.stored (p*4+2) (.bool true)
      rw[hX] at hoX
      have hoY:=hoX.1.stored (p*4+3) (.bool true)
      rw[hY] at hoY
      have hsX:Spares (fun k=>k=g) wo X:=Spares.of_grown hoX.2 (fun k e=>by injection e with e;exact e.symm)
      have hsY:Spares (fun k=>k=g) X Y:=Spares.of_grown hoY.2 (fun k e=>by injection e with e;exact e.symm)
      have hzX:=hsX.size
      have hzY:=hsY.size
      have hcX:=(hsX.block B hBlt (fun e=>hgB e.symm)).trans HCR.out
      have hcY:=(hsY.block B (by omega) (fun e=>hgB e.symm)).trans hcX
      have kX:=cells3f hcX
      have kY:=cells3f hcY
      have hZY:=(hsY.block (w.heap.size+1) (by omega) (by omega)).trans ((hsX.block (w.heap.size+1) (by omega) (by omega)).trans HZR.out)
      have kZ:=cells3f hZY
      have HOY:=hid hoY.1
      have xf : ∀i,X.frozen? ⟨g,i,none⟩=false:=fun i=>hoX.1.frozenAt i
      have x3:X.cell? ⟨g,p*4+3,none⟩=some (.bool x.uq):=by rw[← hX,World.cell?_setCell_other _ _ _ _ (by simp)];exact q3
      have HBY:Hid (Below w.heap.size w Y):=hid (HBR.out.trans ((hsX.andThen hsY (fun i hi=>.inl hi)).below (fun i hi=>by omega) HBR.out.size))
      clear hq hx hoX hoY hsX hsY hcX hcY hZY HFI hpv
      go_wp2
      have hSp:Spares (fun k=>k=w.heap.size+1) Y (((Y.setCell ⟨w.heap.size+1,0,none⟩ (.string (str8 tb))).setCell ⟨w.heap.size+1,1,none⟩ (.slice (some ⟨g,0,none⟩) l.length d2)).setCell ⟨w.heap.size+1,2,none⟩ (.int .i64 p)):=(((Spares.refl (fun k=>k=w.heap.size+1) Y).own _ _).own _ _).own _ _
      have hBF:Below w.heap.size w (((Y.setCell ⟨w.heap.size+1,0,none⟩ (.string (str8 tb))).setCell ⟨w.heap.size+1,1,none⟩ (.slice (some ⟨g,0,none⟩) l.length d2)).setCell ⟨w.heap.size+1,2,none⟩ (.int .i64 p)):=HBY.out.trans (hSp.below (fun i hi=>by omega) HBY.out.size)
      refine bodyPost_ret (v:=.tuple #[.agg #[.string (str8 tb),.slice (some ⟨g,0,none⟩) l.length d2,.int .i64 p],.int .i64 0]) (by simp[results,Tryz.results11,go_sem,kZ]) rfl ⟨_,rfl,⟨_,_,_,rfl,?_⟩,hBF⟩
      dsimp only
      rw[keyed_len,colsC_split l p x HX.out]
      exact owns_lower (hSp.row HOY.out (fun b hb=>by
       have:b=g:=by simpa [Value.ownBlock] using hb.symm
       omega)) (fun b hb=>by
       have:b=g:=by simpa [Value.ownBlock] using hb.symm
       omega)
     ·rw[if_neg hp] at hM
      have hpv:pvN l prim l.length = -1:=by unfold pvN;rw[if_neg hp]
      rw[hpv] at HCR kr
      subst hM
      have kz:=cells3f HZR.out
      have HS0:=hid (setCell_same kz.1)
      have HS1:=hid (setCell_same kz.2.1)
      have HS2:=hid (setCell_same kz.2.2.1)
      clear hp hpv HFI
      go_wp2
      rw[HS0.out,HS1.out,HS2.out]
      exact bodyPost_ret (v:=.tuple #[.agg #[.string ⟨#[]⟩,.slice none 0 0,.int .i64 0],.int .i64 12]) (by simp[results,Tryz.results11,go_sem,kz]) rfl ⟨_,rfl,zTb_own _ _ HBR.out.size,HBR.out⟩
 ·have hM:M=(zTb,4):=hmb (by
   cases ok with
   | false=>rw[Bool.and_false]
   | true=>rw[Bool.and_true];exact decide_eq_false (fun h=>hok ⟨h,rfl⟩))
  subst hM
  clear hmb hmk hsl
  have hbad:ok=false∨(ok=true∧(k != 1)=true):=by
   cases ok with
   | false=>exact .inl rfl
   | true=>exact .inr ⟨rfl,by simpa using fun h=>hok ⟨h,rfl⟩⟩
  clear hok
  go_enter Tryz.func11,Tryz.ntmps11
  go_wp2_with fail
  try rw[hW]
  refine HRC.out.mono ?_
  rintro e w1 ⟨rfl,hb1⟩
  have hs1:=hb1.size
  have k1:=cells14 ((hb1.block w.heap.size (by omega)).trans HCA.out)
  have kz:=cells3f ((hb1.block (w.heap.size+1) (by omega)).trans HCB.out)
  have HS0:=hid (setCell_same kz.1)
  have HS1:=hid (setCell_same kz.2.1)
  have HS2:=hid (setCell_same kz.2.2.1)
  have HB1:=hid (HB.out.trans (hb1.mono HB.out.size))
  clear hb1 HRC
  rcases hbad with rfl | ⟨rfl,hk⟩
  ·go_wp2
   rw[HS0.out,HS1.out,HS2.out]
   exact bodyPost_ret (v:=.tuple #[.agg #[.string ⟨#[]⟩,.slice none 0 0,.int .i64 0],.int .i64 4]) (by simp[results,Tryz.results11,go_sem,kz]) rfl ⟨_,rfl,zTb_own _ _ HB1.out.size,HB1.out⟩
  ·go_wp2
   rw[HS0.out,HS1.out,HS2.out]
   exact bodyPost_ret (v:=.tuple #[.agg #[.string ⟨#[]⟩,.slice none 0 0,.int .i64 0],.int .i64 4]) (by simp[results,Tryz.results11,go_sem,kz]) rfl ⟨_,rfl,zTb_own _ _ HB1.out.size,HB1.out⟩
end Go.Proofs.YtaaggohjmhifbaaGreatDoor
