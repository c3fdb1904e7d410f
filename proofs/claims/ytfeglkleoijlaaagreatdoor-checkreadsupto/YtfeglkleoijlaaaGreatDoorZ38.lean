/- Packed for the hand-in: KUpd KUpdA -/
import Derived.Test.YtfeglkleoijlaaaGreatDoorZ37
namespace Go.Proofs.YtfeglkleoijlaaaGreatDoor
open Go.RowKit Go.Shelf
set_option linter.unusedSimpArgs false
set_option linter.unusedVariables false
set_option maxRecDepth 20000
set_option maxHeartbeats 8000000
theorem dL {P:Program} {md:Region.Mode} {ops:Array Oper} {Q:Exit→Act→World→Prop} {S:World→Prop} {fuel:Nat} {listed:Array Bool} {a:Act} {w:World} {i:Nat} {ks:List Nat} {oi:Oper} {f:FuncId} {xs:Array Operand} {ts:Array TypeId} (args:Array Value) (R:Value→World→Prop) (hr:Region.ready md ops listed=[i]) (hi:ops[i]?=some oi) (gi:oi.guard=none)
  (ki:oi.op = .call { callee:=.value (.func f),args:=xs,argTypes:=ts }) (ea:xs.map a.eval=args) (ef : ∀args w,(callFunc f args).run P w = .ok (.enter f args) w)
  (hc:Calls P f args w fun e w'=>∃v,e = .returned v∧R v w')
  (h : ∀v w',R v w'→S w'∧dw P md ops Q S ks fuel (listed.setIfInBounds i true) (a.put oi.dst v) w'):dw P md ops Q S ks (fuel+1) listed a w :=
 bD hr hi gi (by
  unfold Oper.wp execOp
  simp only[ki,resolve,ea,Act.eval,Deferred.ofValue,invoke,Sem.run_bind,Sem.run_pure,Result.andThen_ok,Array.append_empty,Array.empty_append,ef]
  exact hc.mono fun e w' ⟨v,he,hR⟩=>by subst he;exact⟨.inl (h v w' hR).1,(h v w' hR).2⟩)
def gP (B0 gb:Nat) (V:World) (is:List Int):Prop:=∃vg,V.heap[gb]?=some (.cells #[vg] 87)∧V.ownsRow B0 3 1 vg is.length (is.map fun x=>.int .i64 x)∧vg.ownBlock≠some gb
theorem gP.CS {B0 gb:Nat} {V U:World} {is:List Int} (h:gP B0 gb V is) (hb:Below V.heap.size V U):gP B0 gb U is:=by
 obtain⟨vg,h1,h2,h3⟩:=h
 exact⟨vg,(hb.block _ (World.lt_of_block h1)).trans h1,aA.row (aA.aC (S:=fun _=>False) hb) h2 (fun _ _=>id),h3⟩
theorem yJ {B0:Nat} {V:World} {vg:Value} {is:List Int} (h:V.ownsRow B0 3 1 vg is.length (is.map fun x=>.int .i64 x)):aQ 1 qb (fun b=>B0≤b) V is vg:=by
 have hf:(is.map fun x=>([.int .i64 x]:List Value)).flatten=is.map fun x=>.int .i64 x:=by
  clear h
  induction is with
  | nil=>rfl
  | cons k ks ih=>rw[List.map_cons,List.flatten_cons,List.map_cons];simp;exact ih
 refine aQ.dW (css:=is.map fun x=>[.int .i64 x]) (by decide) (by rw[hf];exact h) ⟨by simp,fun j x cs hx hc=>?_⟩ (fun b hb=>(h.lt b hb).1)
 rw[List.getElem?_map,hx,Option.map_some,Option.some.injEq] at hc
 subst hc
 exact⟨rfl,rfl⟩
theorem AY {B0 gb:Nat} {V:World} {is:List Int} {vg:Value} (hg:V.heap[gb]?=some (.cells #[vg] 87)) (ho:V.ownsRow B0 3 1 vg is.length (is.map fun x=>.int .i64 x)) (hne:vg.ownBlock≠some gb) (hB:B0≤V.heap.size) (hgB:gb<B0) (p:Int) (hn:is.length≤1000000) :
  ∃
   vg' U,(Builtin.append_ #[87,87] 87 #[vg,.slice (some ⟨V.heap.size,0,none⟩) 1 1]).run Tryz.prog (V.alloc (.cells #[.int .i64 p] 3)) = .ok vg' U∧vg'.oneCell'=true ∧
   gP B0 gb (U.setRow gb #[vg']) (is++[p])∧U.heap[gb]?=some (.cells #[vg] 87)∧aA (fun b=>vg.ownBlock=some b∨b=gb) V (U.setRow gb #[vg']):=by
 obtain⟨i0,hi,hy0,hy1,hy2⟩:=info_parts Tryz.wJ
 have hbA:Below V.heap.size V (V.alloc (.cells #[.int .i64 p] 3)):=(Below.refl _ V).alloc (Nat.le_refl _) _
 have ho1:=aA.row (aA.aC (S:=fun _=>False) hbA) ho (fun _ _=>id)
 obtain⟨vg',U,hr,ho',hgr,hob⟩:=eO (P:=Tryz.prog) (V.alloc (.cells #[.int .i64 p] 3)) B0 87 87 3 i0 _ 1 8 Tryz.underlying87 hi hy0 hy1 hy2 rfl (by decide) vg is.length _ ho1 ⟨V.heap.size,0,none⟩ 1 [.int .i64 p] rfl (fun j u hu=>by
  rw[Addr.add_lit,Nat.zero_add,cell_of_row _ _ _ _ _ _ (heap_alloc_new V _)]
  simpa using hu) (by intro u hu;simp only[List.mem_singleton] at hu;rw[hu];rfl) (by unfold maxLen;omega) (by omega) (by simp;omega)
 have hsp:=fH hgr
 have hgV:=World.lt_of_block hg
 have hsz:(V.alloc (.cells #[.int .i64 p] 3)).heap.size=V.heap.size+1:=by simp
 have hgU:U.heap[gb]?=some (.cells #[vg] 87):=(hsp.block gb (by omega) hne).trans ((hbA.block gb hgV).trans hg)
 have hne':vg'.ownBlock≠some gb:=fun e=>by
  rcases hob with h | h
  ·exact hne (h ▸ e)
  ·rw[h] at e
   injection e with e
   omega
 have hset:aA (fun k=>k=gb) U (U.setRow gb #[vg']):=aA.setRow (S:=fun k=>k=gb) (aA.refl _ U) (p:=gb) (.inl rfl) _
 refine ⟨vg',U,hr,qJ ho',⟨vg',setRow_heap U gb _ _ _ _ hgU,?_,hne'⟩,hgU,?_⟩
 ·have:=hset.row ho' (fun b hb e=>hne' (e ▸ hb))
  rw[List.length_append,List.map_append]
  exact this
 ·have h1:aA (fun b=>vg.ownBlock=some b∨b=gb) V (V.alloc (.cells #[.int .i64 p] 3)):=aA.aC hbA
  have h2:aA (fun b=>vg.ownBlock=some b∨b=gb) V U:=h1.andThen hsp (fun i hi=>.inl (.inl hi))
  exact h2.andThen hset (fun i hi=>.inl (.inr hi))
theorem Ep {l:List Co} {a b:List UInt8} (ha:bO l a<l.length):bO l a=bO l b↔a=b:=by
 constructor
 ·intro h
  have h1:=kC ha
  have h2:=kC (l:=l) (nm:=b) (by omega)
  simp only[h] at h1
  exact h1.symm.trans h2
 ·rintro rfl;rfl
theorem oD {S:Nat→Prop} {W:World} {t:Tb} {cs:List Value} {g:Nat} (hg:W.heap[g]?=some (.cells cs.toArray 42)) (ht:dK S W t cs):aQ 3 dK (fun b=>S b∨b=g) W [t] (.slice (some ⟨g,0,none⟩) 1 1):=by
 have hl:cs.length=3:=by obtain⟨_,_,_,rfl,_⟩:=ht;rfl
 refine ⟨_,1,[cs],rfl,Nat.le_refl _,by unfold maxLen;omega,⟨rfl,fun j x ds hx hd=>?_⟩,fun _=>⟨g,0,rfl,.inr rfl,fun j ds hd i u hu=>?_⟩⟩
 ·cases j with
  |
   zero =>
   simp only[List.getElem?_cons_zero,Option.some.injEq] at hx hd
   subst hx hd
   exact⟨hl,ht.to (R:=fun _=>False) (aA.refl _ W) (fun b hb _=>⟨id,.inl hb⟩)⟩
  | succ j=>simp at hx
 ·cases j with
  |
   zero =>
   simp only[List.getElem?_cons_zero,Option.some.injEq] at hd
   subst hd
   simp only[Nat.zero_mul,Nat.zero_add]
   rw[cell_of_row _ _ _ _ _ _ hg]
   simpa using hu
  | succ j=>simp at hd
theorem dK.IL {S:Nat→Prop} {w:World} {t:Tb} {a:ByteArray} {b:Option Addr} {c d:Nat} {e:Int} (h:dK S w t [.string a,.slice b c d,.int .i64 e]):aQ 4 gH S w t.cols (.slice b c d):=by
 obtain⟨aa,nn,cc,he,hsl⟩:=h
 simp only[List.cons.injEq,Value.slice.injEq,and_true] at he
 obtain⟨_,⟨rfl,rfl,rfl⟩,_⟩:=he
 exact hsl
theorem zQ {w:World} {g:Nat} {a b c d e f i j k:Value} {t:TypeId} {fr:Nat × Nat} (h:w.heap[g]?=some (.cells #[a,b,c,d,e,f,i,j,k] t fr)) :
  w.cell? ⟨g,0,none⟩=some a∧w.cell? ⟨g,1,none⟩=some b∧w.cell? ⟨g,2,none⟩=some c∧w.cell? ⟨g,3,none⟩=some d∧w.cell? ⟨g,4,none⟩=some e∧w.cell? ⟨g,5,none⟩=some f∧w.cell? ⟨g,6,none⟩=some i∧w.cell? ⟨g,7,none⟩=some j∧w.cell? ⟨g,8,none⟩=some k :=
 ⟨by rw[aD _ _ _ _ _ _ h];rfl,by rw[aD _ _ _ _ _ _ h];rfl,by rw[aD _ _ _ _ _ _ h];rfl,by rw[aD _ _ _ _ _ _ h];rfl,by rw[aD _ _ _ _ _ _ h];rfl,by rw[aD _ _ _ _ _ _ h];rfl,by rw[aD _ _ _ _ _ _ h];rfl,by rw[aD _ _ _ _ _ _ h];rfl,by rw[aD _ _ _ _ _ _ h];rfl⟩
theorem AA {l:List Co} {ahead:List Se} {nm:List UInt8} (ha : ∀x∈ahead,bO l x.nm<l.length):((ahead.map fun x=>((bO l x.nm:Nat):Int)).any fun y=>decide (((bO l nm:Nat):Int)=y))=ahead.any fun x=>decide (x.nm=nm):=by
 rw[List.any_map,Bool.eq_iff_iff,List.any_eq_true,List.any_eq_true]
 constructor
 ·rintro⟨x,hx,h⟩
  simp only[Function.comp,decide_eq_true_eq] at h
  exact⟨x,hx,decide_eq_true ((Ep (ha x hx)).1 (by omega))⟩
 ·rintro⟨x,hx,h⟩
  simp only[decide_eq_true_eq] at h
  exact⟨x,hx,by simp only[Function.comp,decide_eq_true_eq];rw[h]⟩
theorem Eh (t:Tb) (s:Se) (ahead:List Se) (ds cs:List Value) (n0 tb gb B0:Nat) (w:World) (hW:eH w) (hs:yx (fun b=>b<n0) w s ds) (hg:dS s.e) (htb:w.heap[tb]?=some (.cells cs.toArray 42)) (ht:dK (fun b=>b<n0) w t cs) (hK:oo t)
  (hG:gP B0 gb w (ahead.map fun x=>((bO t.cols x.nm:Nat):Int))) (ha : ∀x∈ahead,bO t.cols x.nm<t.cols.length) (hn:ahead.length≤1000) (h10:10<n0) (hlo:n0≤tb∧n0≤gb∧tb<B0∧gb<B0) (hne:tb≠gb) (hB:B0≤w.heap.size) :
  Calls Tryz.prog 55 #[.agg ds.toArray,.pointer (some ⟨tb,0,none⟩),.pointer (some ⟨gb,0,none⟩)] w fun e w'=>e = .returned (.int .i64 (Bg t ahead s))∧Below n0 w w'∧(∀b,b<B0→b≠gb→w'.heap[b]?=w.heap[b]?)∧w.heap.size≤w'.heap.size ∧
   (Bg t ahead s=0→bO t.cols s.nm<t.cols.length∧gP B0 gb w' ((ahead++[s]).map fun x=>((bO t.cols x.nm:Nat):Int))):=by
 obtain⟨k1,op1,tb1,nm1,vk1,vn1,vs1,ys1,aa1,nn1,cc1,hse,rfl,hsa⟩:=hs
 have ht0:=ht
 obtain⟨a2,n2,c2,rfl,hsl⟩:=ht
 have hn2:n2=t.cols.length:=by obtain⟨_,_,hf⟩:=hsl.form;simp only[Value.slice.injEq] at hf;exact hf.2.1
 subst hn2
 obtain⟨vg,hgb,hgo,hgn⟩:=hG
 obtain⟨sn,se⟩:=s
 dsimp only at hse hg ⊢
 obtain⟨U,hU,hbU,hzU,hcU⟩:=aL w (.cells #[.string (aj sn),.int .i64 k1,.int .i64 op1,.string (aj tb1),.string (aj nm1),.int .i64 vk1,.int .i64 vn1,.string (aj vs1),.slice aa1 nn1 cc1] 53)
 have k0:=zQ hcU
 have htw:=World.lt_of_block htb
 have hgw:=World.lt_of_block hgb
 have htU:=(hbU.block tb htw).trans htb
 have hgU:=(hbU.block gb hgw).trans hgb
 have kT:=aH htU
 have kG:U.cell? ⟨gb,0,none⟩=some vg:=by rw[aD _ _ _ _ _ _ hgU];rfl
 have HP:=hid (pX (fun b=>b<n0) t _ sn U (ht0.on hbU) hK.2.2.1)
 have HTB:=hid htU
 have HLT:Hid (tb<U.heap.size∧gb<U.heap.size):=hid ⟨by omega,by omega⟩
 have hgoU:=aA.row (aA.aC (S:=fun _=>False) hbU) hgo (fun _ _=>id)
 have HIS:=hid (yJ hgoU)
 have HB:=hid hbU
 have HTBE:=hid (ht0.on hbU)
 have HSX:Hid (fB (fun b=>b<n0) U se (.agg #[.int .i64 k1,.int .i64 op1,.string (aj tb1),.string (aj nm1),.int .i64 vk1,.int .i64 vn1,.string (aj vs1),.slice aa1 nn1 cc1])):=hid ⟨_,_,_,_,_,_,_,_,_,_,_,hse,rfl,hsa.to (R:=fun _=>False) (aA.aC hbU) (fun b hb _=>⟨id,hb⟩)⟩
 have HGU:=hid hgU
 have HNW:Hid (∀b,vg.ownBlock=some b→b<w.heap.size):=hid (fun b hb=>(hgo.lt b hb).2)
 have HGO:=hid hgoU
 have HWU:=hid (hW.on hbU)
 have HCU:=hid hcU
 have HTW:Hid (U.heap[tb]?=w.heap[tb]?):=hid (hbU.block tb htw)
 have hgiv:=AA (nm:=sn) ha
 have hB2:B0≤U.heap.size:=by omega
 have hzw:w.heap.size<U.heap.size:=by omega
 unfold Bg
 dsimp only
 obtain⟨p,hp⟩:∃p,bO t.cols sn=p:=⟨_,rfl⟩
 rw[hp] at hgiv ⊢
 clear hbU hcU htU hgU hgo hgoU hsl hse hsa ht0 hW htb hgb
 by_cases hf:t.cols.length≤p
 ·rw[if_pos hf]
  have hpc:dJ t.cols sn = -1:=sM (by omega)
  rw[hpc] at HP
  clear hgiv hf
  go_enter Tryz.func55,Tryz.ntmps55
  go_wp2_with fail
  try rw[hU]
  refine HP.out.mono ?_
  rintro e w1 ⟨rfl,hb1⟩
  have HF:Hid (Below n0 w w1∧(∀b,b<B0→b≠gb→w1.heap[b]?=w.heap[b]?)∧w.heap.size≤w1.heap.size):=hid ⟨(HB.out.mono (by omega)).trans (hb1.mono (by omega)),fun b h1 _=>(hb1.block b (by omega)).trans (HB.out.block b (by omega)),by have:=hb1.size;omega⟩
  clear hb1 HP kT kG k0
  go_wp2_with fail
  go_ret
  exact⟨rfl,HF.out.1,HF.out.2.1,HF.out.2.2,fun h=>absurd h (by decide)⟩
 ·rw[if_neg hf]
  have hpc:dJ t.cols sn=(p:Int):=by rw[rG (by omega),hp]
  rw[hpc] at HP
  have hge : ¬((p:Int)<0):=by omega
  have HGIV:=hid hgiv
  obtain⟨dup,hdup⟩:∃dup,(ahead.any fun x=>decide (x.nm=sn))=dup:=⟨_,rfl⟩
  rw[hdup]
  have HDUP:=hid hdup
  clear hgiv hdup
  cases dup with
  |
   true =>
   rw[if_pos rfl]
   go_enter Tryz.func55,Tryz.ntmps55
   go_wp2_with fail
   try rw[hU]
   refine HP.out.mono ?_
   rintro e w1 ⟨rfl,hb1⟩
   have HB1:=hid hb1
   have kT1:=aH ((hb1.block tb HLT.out.1).trans HTB.out)
   have kG1:=(hb1.cell (p:=⟨gb,0,none⟩) HLT.out.2).trans kG
   have HCO:=hid (iO (fun b=>B0≤b) _ vg (p:Int) w1 (tT (T:=fun b=>B0≤b) HIS.out (aA.aC (S:=fun _=>False) hb1) (fun b hb _=>⟨id,hb⟩)))
   clear hb1 HP kT kG k0
   go_wp2_with fail
   refine HCO.out.mono ?_
   rintro e w2 ⟨rfl,hw⟩
   obtain rfl:w1=w2:=hw.symm
   have HF:Hid (Below n0 w w1∧(∀b,b<B0→b≠gb→w1.heap[b]?=w.heap[b]?)∧w.heap.size≤w1.heap.size):=hid ⟨(HB.out.mono (by omega)).trans (HB1.out.mono (by omega)),fun b h1 _=>(HB1.out.block b (by omega)).trans (HB.out.block b (by omega)),by have:=HB1.out.size;omega⟩
   rw[HGIV.out,HDUP.out]
   go_wp2_with fail
   go_ret
   exact⟨rfl,HF.out.1,HF.out.2.1,HF.out.2.2,fun h=>absurd h (by decide)⟩
  |
   false =>
   rw[if_neg (by simp)]
   obtain⟨y,hy⟩:∃y,t.cols[p]?=some y:=⟨_,List.getElem?_eq_getElem (by omega)⟩
   have hky:Ho t.cols p=y.k:=by unfold Ho;rw[hy];rfl
   rw[hky]
   have HY:=hid hy
   obtain⟨R,hR⟩:∃R,aR [t] se=R:=⟨_,rfl⟩
   rw[hR]
   have HR:Hid (eX [t] se=R):=hid (by unfold eX;rw[if_pos hg.1,hR])
   have hpl:((p:Int)<(t.cols.length:Int)):=by omega
   have hpl0:(0:Int)≤(p:Int):=by omega
   have HPI:=hid hp
   obtain⟨X,kk,c⟩:=R
   dsimp only
   obtain⟨r,hr⟩:∃r,(if c=0∧kk≠0∧kk≠y.k then (9:Int) else c)=r:=⟨_,rfl⟩
   rw[hr]
   have HRES:=hid hr
   clear hy hky hR hf hp hr
   go_enter Tryz.func55,Tryz.ntmps55
   go_wp2_with fail
   try rw[hU]
   refine HP.out.mono ?_
   rintro e w1 ⟨rfl,hb1⟩
   have HB1:=hid hb1
   have kT1:=aH ((hb1.block tb HLT.out.1).trans HTB.out)
   have kG1:=(hb1.cell (p:=⟨gb,0,none⟩) HLT.out.2).trans kG
   have HCO:=hid (iO (fun b=>B0≤b) _ vg (p:Int) w1 (tT (T:=fun b=>B0≤b) HIS.out (aA.aC (S:=fun _=>False) hb1) (fun b hb _=>⟨id,hb⟩)))
   clear hb1 HP kT kG k0
   go_wp2_with fail
   refine HCO.out.mono ?_
   rintro e w2 ⟨rfl,hw⟩
   obtain rfl:w1=w2:=hw.symm
   rw[HGIV.out,HDUP.out]
   have hs1:=HB1.out.size
   have hg1:=(HB1.out.block gb HLT.out.2).trans HGU.out
   have ho1:=aA.row (aA.aC (S:=fun _=>False) HB1.out) HGO.out (fun _ _=>id)
   obtain⟨vg2,V,hrun,hone,hgiv2,hgV,hspV⟩:=AY hg1 ho1 hgn (by omega) hlo.2.2.2 (p:Int) (by simp;omega)
   obtain⟨Y,hY,hbY,hzY,hcY⟩:=aL w1 (.cells #[.int .i64 (p:Int)] 3)
   rw[hY] at hrun
   have HRUN:=hid hrun
   obtain⟨Z,hZ⟩:∃Z,V.setRow gb #[vg2]=Z:=⟨_,rfl⟩
   rw[hZ] at hgiv2 hspV
   have hown : ∀b,vg.ownBlock=some b→B0≤b:=fun b hb=>(HGO.out.lt b hb).1
   have hbZ:Below n0 w1 Z:=hspV.below (fun i hi=>by
    rcases hi with e | rfl
    ·have:=hown i e;omega
    ·omega) (by omega)
   have hsZ:=hspV.size
   have hnotS : ∀b,b<B0→b≠gb→¬(vg.ownBlock=some b∨b=gb):=fun b h1 h2 e=>by
    rcases e with e | e
    ·have:=hown b e;omega
    ·exact h2 e
   have htZ:Z.heap[tb]?=some (.cells #[.string (aj t.nm),.slice a2 t.cols.length c2,.int .i64 t.pr] 42):=(hspV.block tb (by omega) (hnotS tb hlo.2.2.1 hne)).trans ((HB1.out.block tb HLT.out.1).trans HTB.out)
   have hbx:w.heap.size<w1.heap.size:=by omega
   have hsetZ:Z.heap[w.heap.size]?=some (.cells #[.string (aj sn),.int .i64 k1,.int .i64 op1,.string (aj tb1),.string (aj nm1),.int .i64 vk1,.int .i64 vn1,.string (aj vs1),.slice aa1 nn1 cc1] 53):=(hspV.block w.heap.size hbx (fun e=>by
    rcases e with e | e
    ·have:=HNW.out _ e
     omega
    ·omega)).trans ((HB1.out.block _ hzw).trans HCU.out)
   obtain⟨Q,hQ,hbQ,hzQ,hcQ⟩:=aL Z (.cells #[.string (aj t.nm),.slice a2 t.cols.length c2,.int .i64 t.pr] 42)
   have kTZ:=aH htZ
   have kSQ:=zQ ((hbQ.block w.heap.size (by omega)).trans hsetZ)
   have hbwZ:Below n0 w Z:=((HB.out.mono (by omega)).trans (HB1.out.mono (by omega))).trans hbZ
   have hbUQ:Below n0 U Q:=((HB1.out.mono (by omega)).trans hbZ).trans (hbQ.mono (by omega))
   have hSQ:aA (fun k=>n0≤k) U Q:=aA.of_below hbUQ (fun k h1 h2=>h1)
   have hTBQ:dK (fun b=>b<n0) Q t [.string (aj t.nm),.slice a2 t.cols.length c2,.int .i64 t.pr]:=HTBE.out.to hSQ (fun b hb _=>⟨by show ¬n0≤b;have:b<n0:=hb;omega,hb⟩)
   have HBI:=hid (fM (fun b=>b<n0∨b=Z.heap.size) (fun b=>b<n0) [t] se (.slice (some ⟨Z.heap.size,0,none⟩) 1 1) (.agg #[.int .i64 k1,.int .i64 op1,.string (aj tb1),.string (aj nm1),.int .i64 vk1,.int .i64 vn1,.string (aj vs1),.slice aa1 nn1 cc1]) Q (HWU.out.below hbUQ h10) hg.2.1 (HSX.out.to hSQ (fun b hb _=>⟨by show ¬n0≤b;have:b<n0:=hb;omega,hb⟩)) (oD hcQ hTBQ) (fun t' ht'=>by simp only[List.mem_singleton] at ht';rw[ht'];exact hK) (by simp) (fun _=>hg.2.2))
   rw[HR.out] at HBI
   dsimp only at HBI
   have HONE:=hid hone
   have HGV:=hid hgV
   have HGIV2:=hid hgiv2
   have HBWZ:=hid hbwZ
   have HBQ:=hid hbQ
   have htQ:=(hbQ.block tb (by omega)).trans htZ
   have HTQ:=hid htQ
   have HTBQ:=hid hTBQ
   have htw2:=HTW.out
   have HTZW:Hid (∀b,b<B0→b≠gb→b<Q.heap.size∧Q.heap[b]?=w.heap[b]?):=hid (fun b h1 h2=>⟨by have:=hbQ.size;omega,(hbQ.block b (by omega)).trans ((hspV.block b (by omega) (hnotS b h1 h2)).trans ((HB1.out.block b (by omega)).trans (HB.out.block b (by omega))))⟩)
   have hsQ:=hbQ.size
   have htlt:tb<Q.heap.size:=World.lt_of_block htQ
   have HFIN:Hid (∀wF,Below Q.heap.size Q wF→Below n0 w wF∧(∀b,b<B0→b≠gb→wF.heap[b]?=w.heap[b]?)∧w.heap.size≤wF.heap.size∧p<t.cols.length∧gP B0 gb wF ((ahead++[(⟨sn,se⟩:Se)]).map fun x=>((bO t.cols x.nm:Nat):Int))):=hid (fun wF hb=>by
    refine ⟨HBWZ.out.trans ((HBQ.out.mono (by omega)).trans (hb.mono (by omega))),fun b h1 h2=>(hb.block b (HTZW.out b h1 h2).1).trans (HTZW.out b h1 h2).2,by have:=hb.size;omega,by omega,?_⟩
    rw[List.map_append]
    show gP B0 gb wF (_++[((bO t.cols sn:Nat):Int)])
    rw[HPI.out]
    exact HGIV2.out.CS (HBQ.out.trans (hb.mono HBQ.out.size)))
   clear hrun hone hgiv2 hgV hspV hbZ hnotS htZ hsetZ hbQ hbwZ hbUQ hSQ hTBQ hcQ hg1 ho1 htQ htw2 hbY hcY hown HCO kT1 HGIV HDUP
   go_wp2_with (first
    | (at_builtin;(try rw[hY]);refine wpList_append_run _ rfl (.tmp 18) (.tmp 20) 87 rfl _ _ _ _ rfl rfl HRUN.out ?_)
    | (refine wpList_store_oneTo rfl 87 (.tmp 2) (.tmp 21) rfl rfl gb vg2 rfl rfl HONE.out 87 vg HGV.out Tryz.kJ ?_;rw[hZ])
    | fail)
   try rw[hQ]
   refine HBI.out.mono ?_
   rintro e w3 ⟨u,rfl,hxu,hb3⟩
   obtain⟨k2,op2,tb2,nm2,vk2,vn2,vs2,ys2,aa2,nn2,cc2,_,rfl,_⟩:=hxu
   obtain⟨Y2,hY2,hbY2,hzY2,hcY2⟩:=aL w3 (.cells #[.int .i64 k2,.int .i64 op2,.string (aj tb2),.string (aj nm2),.int .i64 vk2,.int .i64 vn2,.string (aj vs2),.slice aa2 nn2 cc2] 48)
   have hbF:=hb3.trans (hbY2.mono hb3.size)
   have hfin:=HFIN.out Y2 hbF
   have kTF:=aH ((hbF.block tb htlt).trans HTQ.out)
   obtain⟨_,_,_,b2,off2,ds2,rfl,_,hx2,hcell2⟩:=bN ((HTBQ.out.on hbF).IL) HY.out
   obtain rfl:ds2=[.string (aj y.nm),.int .i64 y.k,.bool y.nn,.bool y.uq]:=hx2
   have c1:=hcell2 1 _ rfl
   clear hb3 hbY2 hcY2 hbF HBI kTZ kSQ hcell2 kG1
   by_cases hc:c=0
   ·subst hc
    by_cases hk0:kk=0
    ·subst hk0
     have HE:Hid (r=0):=hid (by rw[← HRES.out,if_neg (fun h=>h.2.1 rfl)])
     go_wp2_with (first | (refine wpList_store_row rfl 48 (.tmp 6) (.tmp 28) rfl w3.heap.size #[.int .i64 k2,.int .i64 op2,.string (aj tb2),.string (aj nm2),.int .i64 vk2,.int .i64 vn2,.string (aj vs2),.slice aa2 nn2 cc2] rfl rfl 48 bS (heap_alloc_new w3 _) Tryz.bA rfl (bE _ _ _ _ _ _ _ _ _ _) ?_;rw[aB,hY2];clear hY2) | fail)
     go_ret
     exact⟨by rw[HE.out];rfl,hfin.1,hfin.2.1,hfin.2.2.1,fun _=>hfin.2.2.2⟩
    ·have hk1:(kk != 0)=true:=by simpa using hk0
     have hk2:(kk==0)=false:=by simpa using hk0
     by_cases hky:kk=y.k
     ·have HE:Hid (r=0):=hid (by rw[← HRES.out,if_neg (fun h=>h.2.2 hky)])
      have hk3:(kk != y.k)=false:=by simp[hky]
      have hk4:(kk==y.k)=true:=by simp[hky]
      clear hky hk0
      go_wp2_with (first | (refine wpList_store_row rfl 48 (.tmp 6) (.tmp 28) rfl w3.heap.size #[.int .i64 k2,.int .i64 op2,.string (aj tb2),.string (aj nm2),.int .i64 vk2,.int .i64 vn2,.string (aj vs2),.slice aa2 nn2 cc2] rfl rfl 48 bS (heap_alloc_new w3 _) Tryz.bA rfl (bE _ _ _ _ _ _ _ _ _ _) ?_;rw[aB,hY2];clear hY2) | fail)
      go_ret
      exact⟨by rw[HE.out];rfl,hfin.1,hfin.2.1,hfin.2.2.1,fun _=>hfin.2.2.2⟩
     ·have HE:Hid (r=9):=hid (by rw[← HRES.out,if_pos ⟨rfl,hk0,hky⟩])
      have hk3:(kk != y.k)=true:=by simpa using hky
      have hk4:(kk==y.k)=false:=by simpa using hky
      clear hky hk0
      go_wp2_with (first | (refine wpList_store_row rfl 48 (.tmp 6) (.tmp 28) rfl w3.heap.size #[.int .i64 k2,.int .i64 op2,.string (aj tb2),.string (aj nm2),.int .i64 vk2,.int .i64 vn2,.string (aj vs2),.slice aa2 nn2 cc2] rfl rfl 48 bS (heap_alloc_new w3 _) Tryz.bA rfl (bE _ _ _ _ _ _ _ _ _ _) ?_;rw[aB,hY2];clear hY2) | fail)
      go_ret
      exact⟨by rw[HE.out];rfl,hfin.1,hfin.2.1,hfin.2.2.1,fun h=>absurd (HE.out.symm.trans h) (by decide)⟩
   ·have HE:Hid (r=c):=hid (by rw[← HRES.out,if_neg (fun h=>hc h.1)])
    have hc1:(c==0)=false:=by rw[beq_eq_false_iff_ne];exact hc
    have HCC:=hid hc
    clear hc
    go_wp2_with (first | (refine wpList_store_row rfl 48 (.tmp 6) (.tmp 28) rfl w3.heap.size #[.int .i64 k2,.int .i64 op2,.string (aj tb2),.string (aj nm2),.int .i64 vk2,.int .i64 vn2,.string (aj vs2),.slice aa2 nn2 cc2] rfl rfl 48 bS (heap_alloc_new w3 _) Tryz.bA rfl (bE _ _ _ _ _ _ _ _ _ _) ?_;rw[aB,hY2];clear hY2) | fail)
    go_ret
    exact⟨by rw[HE.out];rfl,hfin.1,hfin.2.1,hfin.2.2.1,fun h=>absurd (HE.out.symm.trans h) HCC.out⟩
end Go.Proofs.YtfeglkleoijlaaaGreatDoor
