import Derived.Test.YtfeglkleoijlaaaGreatDoorY23
import Derived.Test.YtfeglkleoijlaaaGreatDoorY25
import Derived.Test.YtfeglkleoijlaaaGreatDoorY24
namespace Go.Proofs.YtfeglkleoijlaaaGreatDoor
open Go.RowKit Go.Shelf Go.Lib
set_option linter.unusedSimpArgs false
set_option linter.unusedVariables false
set_option maxRecDepth 20000
set_option maxHeartbeats 8000000
def KU (l:List Co) (aD:List UInt8) (i:Nat):Int:=if bF l aD<i then (bF l aD:Nat) else -1
section
variable {P : Program} {md : Region.Mode} {ops : Array Oper} {Q : Exit → Act → World → Prop} {S : World → Prop} {fuel : Nat} {listed : Array Bool} {a : Act} {w : World} {i j k0 : Nat} {oi oj : Oper}
theorem xB (hr:Region.ready md ops listed=[i,j]) (hi:ops[i]?=some oi) (hj:ops[j]?=some oj) (gi:oi.guard=none) (gj:oj.guard=none)
  (h1:oi.wp P a w (fun a' w'=>(S w'∨i=k0)∧dK P md ops Q S k0 fuel (listed.setIfInBounds i true) a' w') Q)
  (h2:oj.wp P a w (fun a' w'=>(S w'∨j=k0)∧dK P md ops Q S k0 fuel (listed.setIfInBounds j true) a' w') Q):dK P md ops Q S k0 (fuel+1) listed a w:=by
 refine l7 hr (by simp) fun k hk=>?_
 simp only[abg,List.not_mem_nil,or_false] at hk
 rcases hk with rfl | rfl
 ·unfold wpOp
  simp only[hi,show Region.wanted oi (yielded ops a.tmps)=true by simp[Region.wanted,gi],if_true]
  exact .inl h1
 ·unfold wpOp
  simp only[hj,show Region.wanted oj (yielded ops a.tmps)=true by simp[Region.wanted,gj],if_true]
  exact .inl h2
theorem aW {K:Act→World→Prop} {v:Value} {w':World} (hrun:(execOp a.eval oi).run P w = .ok (.value v) w') (h:K (a.put oi.dst v) w'):oi.wp P a w K Q:=by
 unfold Oper.wp
 rw[hrun]
 exact h
theorem dX {s x:Operand} {t:TypeId} (ki:oi.op = .call { callee:=.builtin .append,args:=#[s,x],argTypes:=#[t,t] }) {v u v':Value} {w':World} (hs:a.eval s=v) (hx:a.eval x=u) (hr:(Builtin.append_ #[t,t] oi.type #[v,u]).run P w = .ok v' w') :
  (execOp a.eval oi).run P w = .ok (.value v') w':=by
 unfold execOp
 simp only[ki,resolve,invoke,builtin,Sem.run_bind,Sem.run_pure,Result.andThen_ok,List.map_toArray,List.map_cons,List.map_nil,hs,hx,hr]
end
theorem CG (a:Act) (oi:Oper) (ki:oi.op = .buildSlice 23 0 #[]) (V:World):(execOp a.eval oi).run Tryz.prog V = .ok (.value (.slice (some ⟨V.heap.size,0,none⟩) 0 0)) (V.alloc (.cells #[] 60)):=by
 have u:=Tryz.underlying23
 unfold execOp
 simp only[ki]
 go_simp
theorem xG (a:Act) (oi:Oper) (ki:oi.op = .alloc 42) (V:World):(execOp a.eval oi).run Tryz.prog V = .ok (.value (.pointer (some ⟨V.heap.size,0,none⟩))) (V.alloc (.cells #[.string ⟨#[]⟩,.slice none 0 0,.int .i64 0] 42)):=by
 unfold execOp
 simp only[ki]
 go_simp
theorem own_ne {w:World} {base n B:Nat} {v:Value} {xs:List Value} {cs:Array Value} (h:w.ownsRow base 60 4 v n xs) (hc:w.heap[B]?=some (.cells cs 42)):v.ownBlock≠some B:=fun e=>by
 rcases h.2 with⟨rfl,_⟩ | ⟨g,cap,cur,rfl,_,hg,_⟩
 ·cases e
 ·simp only[Value.ownBlock,abf] at e
  subst e
  rw[hg] at hc
  injection hc with hc
  injection hc with h1 h2
  exact absurd h2 (by decide)
theorem Ou {w1 Z:World} {B base:Nat} {x:Option Addr} {m d:Nat} {tb:List UInt8} {l:List Co} {cs:Array Value} (hB:w1.heap.size≤B) (hc:Z.heap[B]?=some (.cells cs 42)) (hb:w1.heap.size≤base) (ho:Z.ownsRow base 60 4 (.slice x m d) l.length (fO l)) (hbel:Below w1.heap.size w1 Z) :
  ∃(B':Nat) (x2:Option Addr) (m2 d2:Nat),Value.pointer (some ⟨B,0,none⟩) = .pointer (some ⟨B',0,none⟩)∧w1.heap.size≤B'∧(Z.setRow B #[.string (aj tb),.slice x m d,.int .i64 (-1)]).heap[B']?=some (.cells #[.string (aj tb),.slice x2 m2 d2,.int .i64 (-1)] 42)∧(Z.setRow B #[.string (aj tb),.slice x m d,.int .i64 (-1)]).ownsRow w1.heap.size 60 4 (.slice x2 m2 d2) l.length (fO l)∧(Value.slice x2 m2 d2).ownBlock≠some B'∧Below w1.heap.size w1 (Z.setRow B #[.string (aj tb),.slice x m d,.int .i64 (-1)]):=by
 have hne:=own_ne ho hc
 have hSp:ak (fun k=>k=B) Z (Z.setRow B #[.string (aj tb),.slice x m d,.int .i64 (-1)]):=ak.setRow (S:=fun k=>k=B) (ak.refl _ Z) (p:=B) (.inl rfl) _
 exact⟨B,x,m,d,rfl,hB,setRow_heap Z B _ _ _ _ hc,gM (hSp.row ho (fun g hg=>by rintro rfl;exact hne hg)) (fun g hg=>Nat.le_trans hb (ho.lt g hg).1),hne,hbel.trans (hSp.below (fun i hi=>by omega) hbel.size)⟩
theorem LP (s:ByteArray) (aa:Option Addr) (nn cc:Nat) (n:Int):(#[.string s,.slice aa nn cc,.int .i64 n]:Array Value).all (·.oneCell')=true:=by simp[Value.oneCell']
theorem Tryz.Ba:(Tryz.prog.info? 42).map (·.size)=some 3:=by kernel_rfl
theorem wE {w:World} {b:Nat} {a0 a1 a2:Value} {t:TypeId} (h:w.heap[b]?=some (.cells #[a0,a1,a2] t)) (v:Value) :
  ∃X,w.setCell ⟨b,2,none⟩ v=X∧X.heap[b]?=some (.cells #[a0,a1,v] t)∧ak (fun k=>k=b) w X:=by
 refine ⟨_,rfl,?_,(ak.refl (fun k=>k=b) w).own _ _⟩
 rw[setCell_eq_setRow w b 2 _ t _ v h,setRow_heap w b _ _ t _ h]
 simp only[aag,aaw,aay]
theorem Qu {l:List Co} {aD:List UInt8} {j:Nat} (h:bF l aD=j):KU l aD (j+1)=(j:Int):=by unfold KU;rw[if_pos (by omega),h]
theorem SB {l:List Co} {aD:List UInt8} {j:Nat} (h:bF l aD≠j):KU l aD (j+1)=KU l aD j:=by
 unfold KU
 by_cases h1:bF l aD<j
 ·rw[if_pos h1,if_pos (by omega)]
 ·rw[if_neg h1,if_neg (by omega)]
theorem Ik (a b:List UInt8):((aj a).toList==(aj b).toList)=decide (a=b):=by
 rw[aS,aS]
 by_cases h:a=b<;>simp[h]
theorem EG (S:Nat→Prop) (s:St) (cs:List Value) (w:World) (hfit : ∀V,Below w.heap.size w V→Calls Tryz.prog 26 #[.agg cs.toArray] V fun e w'=>e = .returned (.bool (aQ s))∧Below V.heap.size V w') (hx:fD S w s cs) :
  Calls Tryz.prog 28 #[.agg cs.toArray] w fun e w'=>∃ds:List Value,e = .returned (.tuple #[.agg ds.toArray,.int .i64 (bU s).2])∧Mf w.heap.size w' (bU s).1 ds∧Below w.heap.size w w':=by
 obtain⟨a1,a2,a3,a4,a5,a6,a7,a8,n1,n2,n3,n4,n5,n6,n7,n8,c1,c2,c3,c4,c5,c6,c7,c8,rfl,hsl,_⟩:=hx
 obtain⟨W,hW,hbW,aJ,hcA,hcB⟩:=two w (.cells #[.int .i64 s.k,.string (aj s.tb),.slice a1 n1 c1,.string (aj s.aD),.slice a2 n2 c2,.slice a3 n3 c3,.slice a4 n4 c4,.string (aj s.jn),.slice a5 n5 c5,.slice a6 n6 c6,.slice a7 n7 c7,.slice a8 n8 c8,.bool s.desc,.int .i64 s.lim] 29) (.cells #[.string ⟨#[]⟩,.slice none 0 0,.int .i64 0] 42)
 have k0:=au hcA
 have Km:=hid (hfit W hbW)
 have HB:=hid hbW
 have dw:=hid hcA
 have nP:=hid hcB
 have hmb:(decide (s.k=1)&&aQ s)=false→bU s=(GN,4):=Du
 have hmk:s.k=1→aQ s=true→Uq s.aC s.aD s.tb (bU s)∧(∀p,ShT ⟨s.tb,s.aC,p⟩)∧s.aC≠[]:=fun h1 h2=>⟨Ru h1 h2,fun p=>(ko h1 h2 p).1,(ko h1 h2 0).2⟩
 clear hbW hcA hcB hfit
 generalize bU s=M at hmb hmk ⊢
 generalize aQ s=ok at Km hmb hmk
 obtain⟨k,tb,l,aD,rows,sets,items,jn,on,wh,gr,od,desc,lim⟩:=s
 dsimp only at hW k0 Km dw hmb hmk hsl
 by_cases hok:k=1∧ok=true
 ·obtain⟨rfl,rfl⟩:=hok
  obtain⟨hmk,hsh,hne⟩:=hmk rfl rfl
  have h8:=(hsh 0).2.1
  dsimp only at h8
  obtain⟨b,off,c,hv,hlc,hcm,hS,Tn,hel⟩:=iX hsl hne
  simp only[aah] at hv
  obtain⟨rfl,rfl,rfl⟩:=hv
  unfold maxLen at hcm
  have HSL:=hid hsl
  have Pj:=hid hne
  have FX:=hid hmk
  clear hmb hmk hsh hsl hel
  go_enter Tryz.func28,Tryz.ntmps28
  go_wp2_with fail
  try rw[hW]
  refine Km.out.mono ?_
  rintro e w1 ⟨rfl,hb1⟩
  have hs1:=hb1.size
  have hA1:=(hb1.block w.heap.size (by omega)).trans dw.out
  have hZ1:=(hb1.block (w.heap.size+1) (by omega)).trans nP.out
  have k1:=au hA1
  have HA1:=hid hA1
  have HZ1:=hid hZ1
  have hB1:=HB.out.trans (hb1.mono HB.out.size)
  have HB1:=hid hB1
  have hz1:w.heap.size+1<w1.heap.size:=by omega
  have P8:Hid (∀(Z:World) (g:Nat),Below w1.heap.size w1 Z→w1.heap.size≤g→Z.heap[g]?=some (.cells #[] 60)→∃a2 n2 c2 w',(Builtin.append_ #[23,23] 23 #[.slice (some ⟨g,0,none⟩) 0 0,.slice (some ⟨b,off,none⟩) l.length c1]).run Tryz.prog Z = .ok (.slice a2 n2 c2) w'∧w'.ownsRow g 60 4 (.slice a2 n2 c2) l.length (fO l)∧ak (fun k=>k=g) Z w'):=hid (fun Z g hZ hg hc=>vK (HSL.out.to (T:=S) (by decide) (R:=fun _=>False) (ak.aA (hB1.trans (hZ.mono hB1.size))) (fun b hb _=>⟨id,hb⟩) (fun _ _ e=>e)) (by omega) hc g (aaF _) 23)
  clear hb1 Km hW k0 dw nP HB aJ hA1 hZ1 hB1
  go_upto_region 4 with fail
  go_cut [5] (fun u5 wx=>∃(B:Nat) (x2:Option Addr) (m2 d2:Nat),u5 = .pointer (some ⟨B,0,none⟩)∧w1.heap.size≤B∧wx.heap[B]?=some (.cells #[.string (aj tb),.slice x2 m2 d2,.int .i64 (-1)] 42)∧wx.ownsRow w1.heap.size 60 4 (.slice x2 m2 d2) l.length (fO l)∧(Value.slice x2 m2 d2).ownBlock≠some B∧Below w1.heap.size w1 wx)
  case first =>
   obtain⟨E1,hE1,aaK,X7,Yu⟩:=aK w1.drew (.cells #[] 60)
   obtain⟨E2,hE2,XP,aan,abC⟩:=aK E1 (.cells #[.string ⟨#[]⟩,.slice none 0 0,.int .i64 0] 42)
   obtain⟨T1,hT1,aaL,Ky,ace⟩:=aK w1.drew (.cells #[.string ⟨#[]⟩,.slice none 0 0,.int .i64 0] 42)
   obtain⟨T2,hT2,Wo,afL,acL⟩:=aK T1 (.cells #[] 60)
   have hd:Below w1.heap.size w1 w1.drew:=(Below.refl _ w1).drew
   have FU:Below w1.heap.size w1 E1:=hd.trans aaK
   have Qz:Below w1.heap.size w1 E2:=FU.trans (XP.mono FU.size)
   have Ue:Below w1.heap.size w1 T1:=hd.trans aaL
   have Pv:Below w1.heap.size w1 T2:=Ue.trans (Wo.mono Ue.size)
   obtain⟨x1,m1,d1,y1,hr1,ho1,hy1⟩:=P8.out E1 w1.heap.size FU (aaF _) Yu
   obtain⟨x2,m2,d2,y2,hr2,ho2,hy2⟩:=P8.out E2 w1.heap.size Qz (aaF _) ((XP.block w1.heap.size X7).trans Yu)
   obtain⟨x3,m3,d3,y3,hr3,ho3,hy3⟩:=P8.out T2 T1.heap.size Pv (Nat.le_of_lt Ky) acL
   have HS:Hid (∀V,Below w1.heap.size w1 V→V.cell? ⟨w.heap.size,1,none⟩=some (.string (aj tb))∧V.cell? ⟨w.heap.size,2,none⟩=some (.slice (some ⟨b,off,none⟩) l.length c1)∧True):=hid (fun V hV=>by
    have q:=au ((hV.block w.heap.size (by omega)).trans HA1.out)
    exact⟨q.2.1,q.2.2.1,trivial⟩)
   have hS0:=HS.out _ hd
   have hS1:=HS.out _ FU
   have hS2:=HS.out _ Qz
   have JE:=HS.out _ Ue
   have hS4:=HS.out _ Pv
   have hB1:Below w1.heap.size w1 y1:=FU.trans (hy1.below (fun i hi=>by omega) FU.size)
   have hB2:Below w1.heap.size w1 y2:=Qz.trans (hy2.below (fun i hi=>by omega) Qz.size)
   have hB3:Below w1.heap.size w1 y3:=Pv.trans (hy3.below (fun i hi=>by have:w1.heap.size<T1.heap.size:=Ky;omega) Pv.size)
   have hS5:=HS.out _ hB1
   have hS6:=HS.out _ hB2
   have hS7:=HS.out _ hB3
   obtain⟨F1,hF1,zF,ahO,Yr⟩:=aK y1 (.cells #[.string ⟨#[]⟩,.slice none 0 0,.int .i64 0] 42)
   have Xb:Below w1.heap.size w1 F1:=hB1.trans (zF.mono hB1.size)
   have ZW:=HS.out _ Xb
   refine mW (fun V:World=>V.cell? ⟨w.heap.size,1,none⟩=some (.string (aj tb))∧V.cell? ⟨w.heap.size,2,none⟩=some (.slice (some ⟨b,off,none⟩) l.length c1)∧True) 8 (by kernel_rfl) ?_
   refine rH (i:=0) rfl (by assumption) ?_
   refine rH (i:=1) rfl (by assumption) ?_
   refine rH (i:=3) rfl (by assumption) ?_
   refine rH (i:=4) rfl (by assumption) ?_
   refine xB (i:=2) (j:=7) (by kernel_rfl) rfl rfl rfl rfl ?_ ?_
   ·refine aW (CG _ _ rfl _) ?_
    rw[hE1]
    refine ⟨.inl hS1,?_⟩
    simp only[Act.put,aas,aap,aaq,aag,aaw,aay]
    refine xB (i:=5) (j:=7) (by kernel_rfl) rfl rfl rfl rfl ?_ ?_
    ·refine aW (dX rfl (by rfl) (by rfl) hr1) ⟨.inl hS5,?_⟩
     simp only[Act.put,aas,aap,aaq,aag,aaw,aay]
     refine rH (i:=6) rfl (by assumption) ?_
     refine jQ (i:=7) (by kernel_rfl) rfl rfl (aW (xG _ _ rfl _) ?_)
     rw[hF1]
     refine ⟨.inl ZW,?_⟩
     simp only[Act.put,aas,aap,aaq,aag,aaw,aay]
     refine gQ (i:=8) (by kernel_rfl) rfl rfl 42 (.tmp 5) (.tmp 24) rfl y1.heap.size #[.string (aj tb),.slice x1 m1 d1,.int .i64 (-1)] (by rfl) (by rfl) 42 _ Yr Tryz.Ba rfl (LP _ _ _ _ _) (.inr rfl) ?_
     refine jg (by kernel_rfl) ?_ _
     show Only _ .normal _ _
     unfold Only
     go_wp2_with fail
     go_meet
     exact Ou hB1.size Yr (aaF _) (ak.row (ak.aA (S:=fun _=>False) zF) ho1 (fun _ _=>id)) Xb
    ·refine aW (xG _ _ rfl _) ?_
     rw[hE2]
     refine ⟨.inl hS2,?_⟩
     simp only[Act.put,aas,aap,aaq,aag,aaw,aay]
     refine jQ (i:=5) (by kernel_rfl) rfl rfl (aW (dX rfl (by rfl) (by rfl) hr2) ⟨.inl hS6,?_⟩)
     simp only[Act.put,aas,aap,aaq,aag,aaw,aay]
     refine rH (i:=6) rfl (by assumption) ?_
     have hcy:y2.heap[E1.heap.size]?=some (.cells #[.string ⟨#[]⟩,.slice none 0 0,.int .i64 0] 42):=(hy2.block E1.heap.size aan (by have:w1.heap.size<E1.heap.size:=X7;omega)).trans abC
     refine gQ (i:=8) (by kernel_rfl) rfl rfl 42 (.tmp 5) (.tmp 24) rfl E1.heap.size #[.string (aj tb),.slice x2 m2 d2,.int .i64 (-1)] (by rfl) (by rfl) 42 _ hcy Tryz.Ba rfl (LP _ _ _ _ _) (.inr rfl) ?_
     refine jg (by kernel_rfl) ?_ _
     show Only _ .normal _ _
     unfold Only
     go_wp2_with fail
     go_meet
     exact Ou FU.size hcy (aaF _) ho2 hB2
   ·refine aW (xG _ _ rfl _) ?_
    rw[hT1]
    refine ⟨.inl JE,?_⟩
    simp only[Act.put,aas,aap,aaq,aag,aaw,aay]
    refine jQ (i:=2) (by kernel_rfl) rfl rfl (aW (CG _ _ rfl _) ?_)
    rw[hT2]
    refine ⟨.inl hS4,?_⟩
    simp only[Act.put,aas,aap,aaq,aag,aaw,aay]
    refine jQ (i:=5) (by kernel_rfl) rfl rfl (aW (dX rfl (by rfl) (by rfl) hr3) ⟨.inl hS7,?_⟩)
    simp only[Act.put,aas,aap,aaq,aag,aaw,aay]
    refine rH (i:=6) rfl (by assumption) ?_
    have hcy:y3.heap[w1.heap.size]?=some (.cells #[.string ⟨#[]⟩,.slice none 0 0,.int .i64 0] 42):=(hy3.block w1.heap.size (by have:w1.heap.size<T1.heap.size:=Ky;omega) (by have:w1.heap.size<T1.heap.size:=Ky;omega)).trans ((Wo.block w1.heap.size Ky).trans ace)
    refine gQ (i:=8) (by kernel_rfl) rfl rfl 42 (.tmp 5) (.tmp 24) rfl w1.heap.size #[.string (aj tb),.slice x3 m3 d3,.int .i64 (-1)] (by rfl) (by rfl) 42 _ hcy Tryz.Ba rfl (LP _ _ _ _ _) (.inr rfl) ?_
    refine jg (by kernel_rfl) ?_ _
    show Only _ .normal _ _
    unfold Only
    go_wp2_with fail
    go_meet
    exact Ou (aaF _) hcy (Nat.le_of_lt Ky) ho3 hB3
  case rest =>
   obtain⟨B,x2,m2,d2,rfl,hB,hcB,hown,Yd,hbc⟩:=hcut
   obtain⟨g,cg,Wm,hg1,hg2,abv,_⟩:=mq hown Pj.out
   simp only[aah] at Wm
   obtain⟨rfl,rfl,rfl⟩:=Wm
   have hgB:g≠B:=fun e=>Yd (by rw[e];rfl)
   have Vk:B<wc.heap.size:=World.lt_of_block hcB
   have HOW:=hid hown
   have VJ:=hid hbc
   have HAC:=hid ((hbc.block w.heap.size (by omega)).trans HA1.out)
   have HZC:=hid ((hbc.block (w.heap.size+1) (by omega)).trans HZ1.out)
   have WU:wc.heap[B]?=some (.cells #[.string (aj tb),.slice (some ⟨g,0,none⟩) l.length d2,.int .i64 (KU l aD 0)] 42):=by rw[hcB];unfold KU;rw[if_neg (Nat.not_lt_zero _)]
   clear hown hbc hcB Yd P8 HA1 HZ1 k1
   go_wp2_with fail
   go_loopw [6] (fun i wr=>∃j:Nat,j≤l.length∧i = .int .i64 j∧ak (fun k=>k=B) wc wr∧wr.heap[B]?=some (.cells #[.string (aj tb),.slice (some ⟨g,0,none⟩) l.length d2,.int .i64 (KU l aD j)] 42)∧Hid (∀(m:Nat) (x:Co),m<j→l[m]?=some x→bF l x.nm=m)) (fun i _=>l.length-(intOf i).toNat)
   case atStart=>exact⟨0,aaV _,rfl,ak.refl _ _,WU,hid (fun m x h=>absurd h (Nat.not_lt_zero _))⟩
   case round =>
    clear WU
    obtain⟨j,hj,rfl,hsr,hcr,OT⟩:=hrel
    obtain⟨wo,rfl⟩:∃wo,wo=wr:=⟨_,rfl⟩
    have Fv:=hsr.size
    have hor:=hsr.row HOW.out (fun b hb=>by
           have:b=g:=by simpa [Value.ownBlock] using hb.symm
           show ¬b=B;omega)
    have hAr:=(hsr.block w.heap.size (by omega) (by omega)).trans HAC.out
    have QK:=(hsr.block (w.heap.size+1) (by omega) (by omega)).trans HZC.out
    have hBr:Below w.heap.size w wo:=(HB1.out.trans (VJ.out.mono HB1.out.size)).trans (hsr.below (fun i hi=>by omega) (HB1.out.trans (VJ.out.mono HB1.out.size)).size)
    obtain⟨g',cg',e',_,_,_,hgc⟩:=mq hor Pj.out
    simp only[aah,abf,Addr.mk.injEq,and_true,true_and] at e'
    obtain⟨rfl,rfl⟩:=e'
    have ZP:=hid hgc
    have HOR:=hid hor
    have Fq:=hid hAr
    have yE:=hid QK
    have nZ:=hid hBr
    have HSR:=hid hsr
    have p9:=hid hcr
    have kr:=aH hcr
    clear hgc hor hAr QK hBr hsr hcr
    by_cases hlt:j<l.length
    ·obtain⟨x,hx⟩:∃x,l[j]?=some x:=⟨_,aaf hlt⟩
     have hlt':(j:Int)<(l.length:Int):=by omega
     have HX:=hid hx
     have hxj:=aam.1 hx
     have Nq:Hid (∀m y,m<j→l[m]?=some y→y.nm=x.nm→M=(GN,13)):=hid (fun m y hm hy e=>FX.out.two j x hx (fun h=>by
      have:=su (l:=l) (nm:=x.nm) (aam.1 hy).1 (by rw[(aam.1 hy).2];exact e)
      omega))
     have Yx:Hid ((∀m y,m<j→l[m]?=some y→y.nm≠x.nm)→bF l x.nm=j):=hid (fun h=>by
      have h1:=su (l:=l) (nm:=x.nm) hxj.1 (by rw[hxj.2])
      rcases Nat.lt_or_ge (bF l x.nm) j with h2 | h2
      ·exact absurd (ou (l:=l) (nm:=x.nm) (by omega)) (h _ _ h2 (aaf (by omega)))
      ·omega)
     clear hx hxj
     go_wp2_with fail
     go_loopw [7] (fun kk wr=>∃m:Nat,m≤j∧kk = .int .i64 m∧Below wo.heap.size wo wr∧Hid (∀(q:Nat) (y:Co),q<m→l[q]?=some y→y.nm≠x.nm)) (fun kk _=>j-(intOf kk).toNat)
     case atStart=>exact⟨0,aaV _,rfl,Below.refl _ _,hid (fun q y h=>absurd h (Nat.not_lt_zero _))⟩
     case round =>
      obtain⟨m,hm,rfl,hbi,Zz⟩:=hrel
      have hsi:=hbi.size
      have kB:=aH ((hbi.block B (by have:=World.lt_of_block p9.out;omega)).trans p9.out)
      have p0:=(ZP.out wr hbi).1 j x HX.out 0 _ rfl
      rw[aa2] at p0
      have kJ:=hid hbi
      by_cases hmj:m<j
      ·have aaW:(m:Int)<(j:Int):=by omega
       obtain⟨y,hy⟩:∃y,l[m]?=some y:=⟨_,aaf (by omega)⟩
       have q0:=(ZP.out wr hbi).1 m y hy 0 _ rfl
       rw[aa2] at q0
       have hml:(m:Int)<(l.length:Int):=by omega
       have HT2:=hid (Nq.out m y hmj hy)
       have Ud:Hid (y.nm≠x.nm→∀(q:Nat) (z:Co),q<m+1→l[q]?=some z→z.nm≠x.nm):=hid (fun h q z hq hz=>by
        rcases Nat.lt_or_ge q m with h1 | h1
        ·exact Zz.out q z h1 hz
        ·obtain rfl:q=m:=by omega
         rw[hy] at hz
         injection hz with hz
         rw[← hz]
         exact h)
       have kz:=aH ((hbi.block (w.heap.size+1) (by omega)).trans yE.out)
       have jJ:=hid (aN kz.1)
       have hse:=Ik x.nm y.nm
       clear hy Zz hbi
       by_cases hxy:x.nm=y.nm
       ·rw[aar hxy] at hse
        obtain rfl:=HT2.out hxy.symm
        clear hxy HT2 Ud
        go_wp2_with fail
        go_quiet (fail)
        obtain⟨wq,hwq⟩:∃wq,wr.drewN nq=wq:=⟨_,rfl⟩
        have hbq:Below wo.heap.size wo wq:=by rw[← hwq];exact below_drewN kJ.out nq
        have kq:=aH ((hbq.block (w.heap.size+1) (by omega)).trans yE.out)
        have dn:=hid (aN kq.1)
        have cZ:=hid (aN kq.2.1)
        have dA:=hid (aN kq.2.2.1)
        have xC:=htr nZ hbq
        rw[hwq]
        clear hbq jJ kz
        go_wp2
        rw[dn.out,cZ.out,dA.out]
        exact bodyPost_ret (v:=.tuple #[.agg #[.string ⟨#[]⟩,.slice none 0 0,.int .i64 0],.int .i64 13]) (by simp[results,Tryz.results28,go_sem,kq]) rfl ⟨_,rfl,j3 _ _ xC.out.size,xC.out⟩
       ·rw[aaj hxy] at hse
        have HN3:=hid (Ud.out (fun e=>hxy e.symm))
        clear hxy HT2 Ud
        go_wp2_with fail
        go_quiet (fail)
        go_wp2
        go_roundw
        case rel=>exact⟨m+1,by omega,by go_num,by first | exact below_drewN kJ.out nq | exact kJ.out,HN3⟩
        case measure=>simp[intOf];omega
      ·have aaW : ¬(m:Int)<(j:Int):=by omega
       have hix:=Yx.out (fun q y hq hy=>Zz.out q y (by omega) hy)
       have kS:=au ((hbi.block w.heap.size (by omega)).trans Fq.out)
       have RU:Hid (∀(q:Nat) (y:Co),q<j+1→l[q]?=some y→bF l y.nm=q):=hid (fun q y hq hy=>by
        rcases Nat.lt_or_ge q j with h1 | h1
        ·exact OT.out q y h1 hy
        ·obtain rfl:q=j:=by omega
         have:=HX.out
         rw[hy] at this
         injection this with this
         rw[this]
         exact hix)
       have hse:=Ik x.nm aD
       clear Zz hbi Nq Yx
       by_cases hxp:x.nm=aD
       ·rw[aar hxp] at hse
        have HPV:=hid (Qu (l:=l) (aD:=aD) (j:=j) (by rw[← hxp];exact hix))
        clear hxp hix
        go_wp2_with fail
        go_quiet (fail)
        obtain⟨wq,hwq⟩:∃wq,wr.drewN nq=wq:=⟨_,rfl⟩
        have hbq:Below wo.heap.size wo wq:=by rw[← hwq];exact below_drewN kJ.out nq
        have hBlt:=World.lt_of_block p9.out
        have hcq:=(hbq.block B hBlt).trans p9.out
        have kq:=aH hcq
        obtain⟨X,hX,vC,DY⟩:=wE hcq (.int .i64 j)
        rw[← HPV.out] at vC
        have rO:=hid vC
        have SV:Hid (ak (fun k=>k=B) wc X):=hid ((HSR.out.andThen (ak.aA (S:=fun k=>k=B) hbq) (fun i hi=>.inl hi)).andThen DY (fun i hi=>.inl hi))
        rw[hwq]
        clear hbq hcq DY vC kB
        go_wp2
        go_roundw
        case rel=>exact⟨j+1,by omega,by go_num,SV.out,rO.out,RU⟩
        case measure=>simp[intOf];omega
       ·rw[aaj hxp] at hse
        have HPV:=hid (SB (l:=l) (aD:=aD) (j:=j) (fun e=>hxp (by
         have h1:=ou (l:=l) (nm:=aD) (by omega)
         have h2:=HX.out
         rw[← e,aaf (by omega)] at h2
         injection h2 with h2
         rw[← h2]
         exact h1)))
        clear hxp hix
        go_wp2_with fail
        go_quiet (fail)
        go_wp2
        go_roundw
        case rel =>
         have hbq:Below wo.heap.size wo (wr.drewN nq):=below_drewN kJ.out nq
         refine ⟨j+1,by omega,by go_num,?_,?_,RU⟩
         ·exact HSR.out.andThen (ak.aA (S:=fun k=>k=B) hbq) (fun i hi=>.inl hi)
         ·rw[HPV.out]
          exact (hbq.block B (World.lt_of_block p9.out)).trans p9.out
        case measure=>simp[intOf];omega
    ·have hlt' : ¬(j:Int)<(l.length:Int):=by omega
     have hM:=FX.out.fin (fun m x hx=>OT.out m x (by have:=(aam.1 hx).1;omega) hx)
     obtain rfl:j=l.length:=by omega
     have hBlt:=World.lt_of_block p9.out
     by_cases hp:bF l aD<l.length
     ·rw[if_pos hp] at hM
      have hpv:KU l aD l.length=(bF l aD:Nat):=by unfold KU;rw[if_pos hp]
      rw[hpv] at p9 kr
      generalize bF l aD=p at hM hp p9 kr
      obtain⟨x,hx⟩:∃x,l[p]?=some x:=⟨_,aaf hp⟩
      have HX:=hid hx
      have hp' : ¬(p:Int)<0:=by omega
      have hp'':(p:Int)<(l.length:Int):=by omega
      subst hM
      have hq:=(ZP.out wo (Below.refl _ _)).1 p x hx
      have q2:=hq 2 _ rfl
      have q3:=hq 3 _ rfl
      have qf:=(ZP.out wo (Below.refl _ _)).2
      obtain⟨X,hX⟩:∃X,wo.setCell ⟨g,p*4+2,none⟩ (.bool true)=X:=⟨_,rfl⟩
      obtain⟨Y,hY⟩:∃Y,X.setCell ⟨g,p*4+3,none⟩ (.bool true)=Y:=⟨_,rfl⟩
      have MO:=HOR.out.stored (p*4+2) (.bool true)
      rw[hX] at MO
      have Q9:=MO.1.stored (p*4+3) (.bool true)
      rw[hY] at Q9
      have Fg:ak (fun k=>k=g) wo X:=ak.gU MO.2 (fun k e=>by injection e with e;exact e.symm)
      have NH:ak (fun k=>k=g) X Y:=ak.gU Q9.2 (fun k e=>by injection e with e;exact e.symm)
      have ZR:=Fg.size
      have kL:=NH.size
      have vC:=(Fg.block B hBlt (fun e=>hgB e.symm)).trans p9.out
      have dJ:=(NH.block B (by omega) (fun e=>hgB e.symm)).trans vC
      have kX:=aH vC
      have kY:=aH dJ
      have X5:=(NH.block (w.heap.size+1) (by omega) (by omega)).trans ((Fg.block (w.heap.size+1) (by omega) (by omega)).trans yE.out)
      have kZ:=aH X5
      have HOY:=hid Q9.1
      have xf : ∀i,X.frozen? ⟨g,i,none⟩=false:=fun i=>MO.1.frozenAt i
      have x3:X.cell? ⟨g,p*4+3,none⟩=some (.bool x.uq):=by rw[← hX,World.cell?_setCell_other _ _ _ _ (by simp)];exact q3
      have bZ:Hid (Below w.heap.size w Y):=hid (nZ.out.trans ((Fg.andThen NH (fun i hi=>.inl hi)).below (fun i hi=>by omega) nZ.out.size))
      clear hq hx MO Q9 Fg NH vC dJ X5 OT hpv
      go_wp2
      have hSp:ak (fun k=>k=w.heap.size+1) Y (((Y.setCell ⟨w.heap.size+1,0,none⟩ (.string (aj tb))).setCell ⟨w.heap.size+1,1,none⟩ (.slice (some ⟨g,0,none⟩) l.length d2)).setCell ⟨w.heap.size+1,2,none⟩ (.int .i64 p)):=(((ak.refl (fun k=>k=w.heap.size+1) Y).own _ _).own _ _).own _ _
      have hBF:Below w.heap.size w (((Y.setCell ⟨w.heap.size+1,0,none⟩ (.string (aj tb))).setCell ⟨w.heap.size+1,1,none⟩ (.slice (some ⟨g,0,none⟩) l.length d2)).setCell ⟨w.heap.size+1,2,none⟩ (.int .i64 p)):=bZ.out.trans (hSp.below (fun i hi=>by omega) bZ.out.size)
      refine bodyPost_ret (v:=.tuple #[.agg #[.string (aj tb),.slice (some ⟨g,0,none⟩) l.length d2,.int .i64 p],.int .i64 0]) (by simp[results,Tryz.results28,go_sem,kZ]) rfl ⟨_,rfl,⟨_,_,_,rfl,?_⟩,hBF⟩
      dsimp only
      rw[jh,vB l p x HX.out]
      exact gM (hSp.row HOY.out (fun b hb=>by
       have:b=g:=by simpa [Value.ownBlock] using hb.symm
       omega)) (fun b hb=>by
       have:b=g:=by simpa [Value.ownBlock] using hb.symm
       omega)
     ·rw[if_neg hp] at hM
      have hpv:KU l aD l.length = -1:=by unfold KU;rw[if_neg hp]
      rw[hpv] at p9 kr
      subst hM
      have kz:=aH yE.out
      have jJ:=hid (aN kz.1)
      have iY:=hid (aN kz.2.1)
      have HS2:=hid (aN kz.2.2.1)
      clear hp hpv OT
      go_wp2
      rw[jJ.out,iY.out,HS2.out]
      exact bodyPost_ret (v:=.tuple #[.agg #[.string ⟨#[]⟩,.slice none 0 0,.int .i64 0],.int .i64 12]) (by simp[results,Tryz.results28,go_sem,kz]) rfl ⟨_,rfl,j3 _ _ nZ.out.size,nZ.out⟩
 ·have hM:M=(GN,4):=hmb (by
   cases ok with
   | false=>rw[Bool.and_false]
   | true=>rw[Bool.and_true];exact aaj (fun h=>hok ⟨h,rfl⟩))
  subst hM
  clear hmb hmk hsl
  have hbad:ok=false∨(ok=true∧(k != 1)=true):=by
   cases ok with
   | false=>exact .inl rfl
   | true=>exact .inr ⟨rfl,by simpa using fun h=>hok ⟨h,rfl⟩⟩
  clear hok
  go_enter Tryz.func28,Tryz.ntmps28
  go_wp2_with fail
  try rw[hW]
  refine Km.out.mono ?_
  rintro e w1 ⟨rfl,hb1⟩
  have hs1:=hb1.size
  have k1:=au ((hb1.block w.heap.size (by omega)).trans dw.out)
  have kz:=aH ((hb1.block (w.heap.size+1) (by omega)).trans nP.out)
  have jJ:=hid (aN kz.1)
  have iY:=hid (aN kz.2.1)
  have HS2:=hid (aN kz.2.2.1)
  have HB1:=htr HB hb1
  clear hb1 Km
  rcases hbad with rfl | ⟨rfl,hk⟩
  ·go_wp2
   rw[jJ.out,iY.out,HS2.out]
   exact bodyPost_ret (v:=.tuple #[.agg #[.string ⟨#[]⟩,.slice none 0 0,.int .i64 0],.int .i64 4]) (by simp[results,Tryz.results28,go_sem,kz]) rfl ⟨_,rfl,j3 _ _ HB1.out.size,HB1.out⟩
  ·go_wp2
   rw[jJ.out,iY.out,HS2.out]
   exact bodyPost_ret (v:=.tuple #[.agg #[.string ⟨#[]⟩,.slice none 0 0,.int .i64 0],.int .i64 4]) (by simp[results,Tryz.results28,go_sem,kz]) rfl ⟨_,rfl,j3 _ _ HB1.out.size,HB1.out⟩
end Go.Proofs.YtfeglkleoijlaaaGreatDoor
