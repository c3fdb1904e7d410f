import Derived.Test.YtfeglkleoijlaaaGreatDoorY29
namespace Go.Proofs.YtfeglkleoijlaaaGreatDoor
open Go.RowKit Go.Shelf
set_option linter.unusedSimpArgs false
set_option linter.unusedVariables false
set_option maxRecDepth 20000
set_option maxHeartbeats 8000000
theorem dM {P:Program} {md:Region.Mode} {ops:Array Oper} {Q:Exit→Act→World→Prop} {S:World→Prop} {fuel:Nat} {listed:Array Bool} {a:Act} {w:World} {i:Nat} {ks:List Nat} {oi:Oper} {f:FuncId} {xs:Array Operand} {ts:Array TypeId} (args:Array Value) (R:Value→World→Prop) (hr:Region.ready md ops listed=[i]) (hi:ops[i]?=some oi) (gi:oi.guard=none)
  (ki:oi.op = .call { callee:=.value (.func f),args:=xs,argTypes:=ts }) (ea:xs.map a.eval=args) (ef : ∀args w,(callFunc f args).run P w = .ok (.enter f args) w)
  (hc:Calls P f args w fun e w'=>∃v,e = .returned v∧R v w')
  (h : ∀v w',R v w'→S w'∧eG P md ops Q S ks fuel (listed.setIfInBounds i true) (a.put oi.dst v) w'):eG P md ops Q S ks (fuel+1) listed a w :=
 bH hr hi gi (by
  unfold Oper.wp execOp
  simp only[ki,resolve,ea,Act.eval,Deferred.ofValue,invoke,Sem.run_bind,Sem.run_pure,Result.andThen_ok,Array.append_empty,Array.empty_append,ef]
  exact hc.mono fun e w' ⟨v,he,hR⟩=>by subst he;exact⟨.inl (h v w' hR).1,(h v w' hR).2⟩)
def lG (B0 gb:Nat) (V:World) (is:List Int):Prop:=∃vg,V.heap[gb]?=some (.cells #[vg] 87)∧V.ownsRow B0 3 1 vg is.length (is.map fun x=>.int .i64 x)∧vg.ownBlock≠some gb
theorem lG.L6 {B0 gb:Nat} {V U:World} {is:List Int} (h:lG B0 gb V is) (hb:Below V.heap.size V U):lG B0 gb U is:=by
 obtain⟨vg,h1,h2,h3⟩:=h
 exact⟨vg,(hb.block _ (World.lt_of_block h1)).trans h1,ak.row (ak.aA (S:=fun _=>False) hb) h2 (fun _ _=>id),h3⟩
theorem F9 {B0:Nat} {V:World} {vg:Value} {is:List Int} (h:V.ownsRow B0 3 1 vg is.length (is.map fun x=>.int .i64 x)):aM 1 uj (fun b=>B0≤b) V is vg:=by
 have hf:(is.map fun x=>([.int .i64 x]:List Value)).flatten=is.map fun x=>.int .i64 x:=by
  clear h
  induction is with
  | nil=>rfl
  | cons k ks ih=>rw[List.map_cons,List.flatten_cons,List.map_cons];simp;exact ih
 refine aM.iM (css:=is.map fun x=>[.int .i64 x]) (by decide) (by rw[hf];exact h) ⟨by simp,fun j x cs hx hc=>?_⟩ (fun b hb=>(h.lt b hb).1)
 rw[List.getElem?_map,hx,Option.map_some,abf] at hc
 subst hc
 exact⟨rfl,rfl⟩
theorem KQ {B0 gb:Nat} {V:World} {is:List Int} {vg:Value} (hg:V.heap[gb]?=some (.cells #[vg] 87)) (ho:V.ownsRow B0 3 1 vg is.length (is.map fun x=>.int .i64 x)) (hne:vg.ownBlock≠some gb) (hB:B0≤V.heap.size) (hgB:gb<B0) (p:Int) (hn:is.length≤1000000) :
  ∃
   Q7 U,(Builtin.append_ #[87,87] 87 #[vg,.slice (some ⟨V.heap.size,0,none⟩) 1 1]).run Tryz.prog (V.alloc (.cells #[.int .i64 p] 3)) = .ok Q7 U∧Q7.oneCell'=true ∧
   lG B0 gb (U.setRow gb #[Q7]) (is++[p])∧U.heap[gb]?=some (.cells #[vg] 87)∧ak (fun b=>vg.ownBlock=some b∨b=gb) V (U.setRow gb #[Q7]):=by
 obtain⟨i0,hi,hy0,hy1,hy2⟩:=info_parts Tryz.ER
 have Qt:Below V.heap.size V (V.alloc (.cells #[.int .i64 p] 3)):=(Below.refl _ V).alloc (aaF _) _
 have ho1:=ak.row (ak.aA (S:=fun _=>False) Qt) ho (fun _ _=>id)
 obtain⟨Q7,U,hr,ho',hgr,K3⟩:=iH (P:=Tryz.prog) (V.alloc (.cells #[.int .i64 p] 3)) B0 87 87 3 i0 _ 1 8 Tryz.underlying87 hi hy0 hy1 hy2 rfl (by decide) vg is.length _ ho1 ⟨V.heap.size,0,none⟩ 1 [.int .i64 p] rfl (fun j u hu=>by
  rw[Addr.add_lit,Nat.zero_add,cell_of_row _ _ _ _ _ _ (heap_alloc_new V _)]
  simpa using hu) (by intro u hu;simp only[List.mem_singleton] at hu;rw[hu];rfl) (by unfold maxLen;omega) (by omega) (by simp;omega)
 have hsp:=jD hgr
 have VQ:=World.lt_of_block hg
 have hsz:(V.alloc (.cells #[.int .i64 p] 3)).heap.size=V.heap.size+1:=by simp
 have VK:U.heap[gb]?=some (.cells #[vg] 87):=(hsp.block gb (by omega) hne).trans ((Qt.block gb VQ).trans hg)
 have hne':Q7.ownBlock≠some gb:=fun e=>by
  rcases K3 with h | h
  ·exact hne (h ▸ e)
  ·rw[h] at e
   injection e with e
   omega
 have hset:ak (fun k=>k=gb) U (U.setRow gb #[Q7]):=ak.setRow (S:=fun k=>k=gb) (ak.refl _ U) (p:=gb) (.inl rfl) _
 refine ⟨Q7,U,hr,xg ho',⟨Q7,setRow_heap U gb _ _ _ _ VK,?_,hne'⟩,VK,?_⟩
 ·have:=hset.row ho' (fun b hb e=>hne' (e ▸ hb))
  rw[aaN,List.map_append]
  exact this
 ·have h1:ak (fun b=>vg.ownBlock=some b∨b=gb) V (V.alloc (.cells #[.int .i64 p] 3)):=ak.aA Qt
  have h2:ak (fun b=>vg.ownBlock=some b∨b=gb) V U:=h1.andThen hsp (fun i hi=>.inl (.inl hi))
  exact h2.andThen hset (fun i hi=>.inl (.inr hi))
theorem Nb {l:List Co} {a b:List UInt8} (ha:bF l a<l.length):bF l a=bF l b↔a=b:=by
 constructor
 ·intro h
  have h1:=ou ha
  have h2:=ou (l:=l) (nm:=b) (by omega)
  simp only[h] at h1
  exact h1.symm.trans h2
 ·rintro rfl;rfl
theorem mX {S:Nat→Prop} {W:World} {t:Tb} {cs:List Value} {g:Nat} (hg:W.heap[g]?=some (.cells cs.toArray 42)) (ht:fG S W t cs):aM 3 fG (fun b=>S b∨b=g) W [t] (.slice (some ⟨g,0,none⟩) 1 1):=by
 have hl:cs.length=3:=by obtain⟨_,_,_,rfl,_⟩:=ht;rfl
 refine ⟨_,1,[cs],rfl,aaF _,by unfold maxLen;omega,⟨rfl,fun j x ds hx hd=>?_⟩,fun _=>⟨g,0,rfl,.inr rfl,fun j ds hd i u hu=>?_⟩⟩
 ·cases j with
  |
   zero =>
   simp only[List.getElem?_cons_zero,abf] at hx hd
   subst hx hd
   exact⟨hl,ht.to (R:=fun _=>False) (ak.refl _ W) (fun b hb _=>⟨id,.inl hb⟩)⟩
  | succ j=>simp at hx
 ·cases j with
  |
   zero =>
   simp only[List.getElem?_cons_zero,abf] at hd
   subst hd
   simp only[Nat.zero_mul,Nat.zero_add]
   rw[cell_of_row _ _ _ _ _ _ hg]
   simpa using hu
  | succ j=>simp at hd
theorem fG.Zb {S:Nat→Prop} {w:World} {t:Tb} {a:ByteArray} {b:Option Addr} {c d:Nat} {e:Int} (h:fG S w t [.string a,.slice b c d,.int .i64 e]):aM 4 ku S w t.aC (.slice b c d):=by
 obtain⟨aa,nn,cc,he,hsl⟩:=h
 simp only[List.cons.injEq,aah,and_true] at he
 obtain⟨_,⟨rfl,rfl,rfl⟩,_⟩:=he
 exact hsl
theorem IL {w:World} {g:Nat} {a b c d e f i j k:Value} {t:TypeId} {fr:Nat × Nat} (h:w.heap[g]?=some (.cells #[a,b,c,d,e,f,i,j,k] t fr)) :
  w.cell? ⟨g,0,none⟩=some a∧w.cell? ⟨g,1,none⟩=some b∧w.cell? ⟨g,2,none⟩=some c∧w.cell? ⟨g,3,none⟩=some d∧w.cell? ⟨g,4,none⟩=some e∧w.cell? ⟨g,5,none⟩=some f∧w.cell? ⟨g,6,none⟩=some i∧w.cell? ⟨g,7,none⟩=some j∧w.cell? ⟨g,8,none⟩=some k :=
 ⟨by rw[aB _ _ _ _ _ _ h];rfl,by rw[aB _ _ _ _ _ _ h];rfl,by rw[aB _ _ _ _ _ _ h];rfl,by rw[aB _ _ _ _ _ _ h];rfl,by rw[aB _ _ _ _ _ _ h];rfl,by rw[aB _ _ _ _ _ _ h];rfl,by rw[aB _ _ _ _ _ _ h];rfl,by rw[aB _ _ _ _ _ _ h];rfl,by rw[aB _ _ _ _ _ _ h];rfl⟩
theorem KM {l:List Co} {ahead:List Se} {nm:List UInt8} (ha : ∀x∈ahead,bF l x.nm<l.length):((ahead.map fun x=>((bF l x.nm:Nat):Int)).any fun y=>decide (((bF l nm:Nat):Int)=y))=ahead.any fun x=>decide (x.nm=nm):=by
 rw[List.any_map,Bool.eq_iff_iff,List.any_eq_true,List.any_eq_true]
 constructor
 ·rintro⟨x,hx,h⟩
  simp only[Function.comp,aaI] at h
  exact⟨x,hx,aar ((Nb (ha x hx)).1 (by omega))⟩
 ·rintro⟨x,hx,h⟩
  simp only[aaI] at h
  exact⟨x,hx,by simp only[Function.comp,aaI];rw[h]⟩
theorem MC (t:Tb) (s:Se) (ahead:List Se) (ds cs:List Value) (n0 tb gb B0:Nat) (w:World) (hW:iL w) (hs:BM (fun b=>b<n0) w s ds) (hg:gW s.e) (htb:w.heap[tb]?=some (.cells cs.toArray 42)) (ht:fG (fun b=>b<n0) w t cs) (hK:mR t)
  (hG:lG B0 gb w (ahead.map fun x=>((bF t.aC x.nm:Nat):Int))) (ha : ∀x∈ahead,bF t.aC x.nm<t.aC.length) (hn:ahead.length≤1000) (h10:10<n0) (hlo:n0≤tb∧n0≤gb∧tb<B0∧gb<B0) (hne:tb≠gb) (hB:B0≤w.heap.size) :
  Calls Tryz.prog 55 #[.agg ds.toArray,.pointer (some ⟨tb,0,none⟩),.pointer (some ⟨gb,0,none⟩)] w fun e w'=>e = .returned (.int .i64 (qI t ahead s))∧Below n0 w w'∧(∀b,b<B0→b≠gb→w'.heap[b]?=w.heap[b]?)∧w.heap.size≤w'.heap.size ∧
   (qI t ahead s=0→bF t.aC s.nm<t.aC.length∧lG B0 gb w' ((ahead++[s]).map fun x=>((bF t.aC x.nm:Nat):Int))):=by
 obtain⟨k1,op1,dN,fU,fJ,fI,vs1,ys1,eD,dF,eB,hse,rfl,hsa⟩:=hs
 have ht0:=ht
 obtain⟨a2,n2,c2,rfl,hsl⟩:=ht
 have hn2:n2=t.aC.length:=by obtain⟨_,_,hf⟩:=hsl.form;simp only[aah] at hf;exact hf.2.1
 subst hn2
 obtain⟨vg,hgb,hgo,hgn⟩:=hG
 obtain⟨sn,se⟩:=s
 dsimp only at hse hg ⊢
 obtain⟨U,hU,bB,jc,eU⟩:=aK w (.cells #[.string (aj sn),.int .i64 k1,.int .i64 op1,.string (aj dN),.string (aj fU),.int .i64 fJ,.int .i64 fI,.string (aj vs1),.slice eD dF eB] 53)
 have k0:=IL eU
 have htw:=World.lt_of_block htb
 have hgw:=World.lt_of_block hgb
 have htU:=(bB.block tb htw).trans htb
 have VK:=(bB.block gb hgw).trans hgb
 have kT:=aH htU
 have kG:U.cell? ⟨gb,0,none⟩=some vg:=by rw[aB _ _ _ _ _ _ VK];rfl
 have HP:=hid (xX (fun b=>b<n0) t _ sn U (ht0.on bB) hK.2.2.1)
 have mI:=hid htU
 have Vh:Hid (tb<U.heap.size∧gb<U.heap.size):=hid ⟨by omega,by omega⟩
 have TU:=ak.row (ak.aA (S:=fun _=>False) bB) hgo (fun _ _=>id)
 have HIS:=hid (F9 TU)
 have HB:=hid bB
 have Z5:=hid (ht0.on bB)
 have SV:Hid (gH (fun b=>b<n0) U se (.agg #[.int .i64 k1,.int .i64 op1,.string (aj dN),.string (aj fU),.int .i64 fJ,.int .i64 fI,.string (aj vs1),.slice eD dF eB])):=hid ⟨_,_,_,_,_,_,_,_,_,_,_,hse,rfl,hsa.to (R:=fun _=>False) (ak.aA bB) (fun b hb _=>⟨id,hb⟩)⟩
 have HGU:=hid VK
 have HNW:Hid (∀b,vg.ownBlock=some b→b<w.heap.size):=hid (fun b hb=>(hgo.lt b hb).2)
 have qY:=hid TU
 have Gs:=hid (hW.on bB)
 have Rx:=hid eU
 have QV:Hid (U.heap[tb]?=w.heap[tb]?):=hid (bB.block tb htw)
 have Qx:=KM (nm:=sn) ha
 have hB2:B0≤U.heap.size:=by omega
 have hzw:w.heap.size<U.heap.size:=by omega
 unfold qI
 dsimp only
 obtain⟨p,hp⟩:∃p,bF t.aC sn=p:=⟨_,rfl⟩
 rw[hp] at Qx ⊢
 clear bB eU htU VK hgo TU hsl hse hsa ht0 hW htb hgb
 by_cases hf:t.aC.length≤p
 ·rw[if_pos hf]
  have hpc:gG t.aC sn = -1:=AA (by omega)
  rw[hpc] at HP
  clear Qx hf
  go_enter Tryz.func55,Tryz.ntmps55
  go_wp2_with fail
  try rw[hU]
  refine HP.out.mono ?_
  rintro e w1 ⟨rfl,hb1⟩
  have HF:Hid (Below n0 w w1∧(∀b,b<B0→b≠gb→w1.heap[b]?=w.heap[b]?)∧w.heap.size≤w1.heap.size):=hid ⟨(HB.out.mono (by omega)).trans (hb1.mono (by omega)),fun b h1 _=>(hb1.block b (by omega)).trans (HB.out.block b (by omega)),by have:=hb1.size;omega⟩
  clear hb1 HP kT kG k0
  go_wp2_with fail
  go_ret
  exact⟨rfl,HF.out.1,HF.out.2.1,HF.out.2.2,fun h=>absurd h (by decide)⟩
 ·rw[if_neg hf]
  have hpc:gG t.aC sn=(p:Int):=by rw[Aj (by omega),hp]
  rw[hpc] at HP
  have hge : ¬((p:Int)<0):=by omega
  have Td:=hid Qx
  obtain⟨dup,hdup⟩:∃dup,(ahead.any fun x=>decide (x.nm=sn))=dup:=⟨_,rfl⟩
  rw[hdup]
  have Tv:=hid hdup
  clear Qx hdup
  cases dup with
  |
   true =>
   rw[if_pos rfl]
   go_enter Tryz.func55,Tryz.ntmps55
   go_wp2_with fail
   try rw[hU]
   refine HP.out.mono ?_
   rintro e w1 ⟨rfl,hb1⟩
   have HB1:=hid hb1
   have kT1:=aH ((hb1.block tb Vh.out.1).trans mI.out)
   have kG1:=(hb1.cell (p:=⟨gb,0,none⟩) Vh.out.2).trans kG
   have zq:=hid (mZ (fun b=>B0≤b) _ vg (p:Int) w1 (wS (T:=fun b=>B0≤b) HIS.out (ak.aA (S:=fun _=>False) hb1) (fun b hb _=>⟨id,hb⟩)))
   clear hb1 HP kT kG k0
   go_wp2_with fail
   refine zq.out.mono ?_
   rintro e w2 ⟨rfl,hw⟩
   obtain rfl:w1=w2:=hw.symm
   have HF:Hid (Below n0 w w1∧(∀b,b<B0→b≠gb→w1.heap[b]?=w.heap[b]?)∧w.heap.size≤w1.heap.size):=hid ⟨(HB.out.mono (by omega)).trans (HB1.out.mono (by omega)),fun b h1 _=>(HB1.out.block b (by omega)).trans (HB.out.block b (by omega)),by have:=HB1.out.size;omega⟩
   rw[Td.out,Tv.out]
   go_wp2_with fail
   go_ret
   exact⟨rfl,HF.out.1,HF.out.2.1,HF.out.2.2,fun h=>absurd h (by decide)⟩
  |
   false =>
   rw[if_neg (by simp)]
   obtain⟨y,hy⟩:∃y,t.aC[p]?=some y:=⟨_,aaf (by omega)⟩
   have hky:Af t.aC p=y.k:=by unfold Af;rw[hy];rfl
   rw[hky]
   have HY:=hid hy
   obtain⟨R,hR⟩:∃R,aI [t] se=R:=⟨_,rfl⟩
   rw[hR]
   have HR:Hid (iP [t] se=R):=hid (by unfold iP;rw[if_pos hg.1,hR])
   have hpl:((p:Int)<(t.aC.length:Int)):=by omega
   have ahq:(0:Int)≤(p:Int):=by omega
   have HPI:=hid hp
   obtain⟨X,kk,c⟩:=R
   dsimp only
   obtain⟨r,hr⟩:∃r,(if c=0∧kk≠0∧kk≠y.k then (9:Int) else c)=r:=⟨_,rfl⟩
   rw[hr]
   have QH:=hid hr
   clear hy hky hR hf hp hr
   go_enter Tryz.func55,Tryz.ntmps55
   go_wp2_with fail
   try rw[hU]
   refine HP.out.mono ?_
   rintro e w1 ⟨rfl,hb1⟩
   have HB1:=hid hb1
   have kT1:=aH ((hb1.block tb Vh.out.1).trans mI.out)
   have kG1:=(hb1.cell (p:=⟨gb,0,none⟩) Vh.out.2).trans kG
   have zq:=hid (mZ (fun b=>B0≤b) _ vg (p:Int) w1 (wS (T:=fun b=>B0≤b) HIS.out (ak.aA (S:=fun _=>False) hb1) (fun b hb _=>⟨id,hb⟩)))
   clear hb1 HP kT kG k0
   go_wp2_with fail
   refine zq.out.mono ?_
   rintro e w2 ⟨rfl,hw⟩
   obtain rfl:w1=w2:=hw.symm
   rw[Td.out,Tv.out]
   have hs1:=HB1.out.size
   have hg1:=(HB1.out.block gb Vh.out.2).trans HGU.out
   have ho1:=ak.row (ak.aA (S:=fun _=>False) HB1.out) qY.out (fun _ _=>id)
   obtain⟨vg2,V,hrun,hone,Od,VQ,uy⟩:=KQ hg1 ho1 hgn (by omega) hlo.2.2.2 (p:Int) (by simp;omega)
   obtain⟨Y,hY,bV,kL,dJ⟩:=aK w1 (.cells #[.int .i64 (p:Int)] 3)
   rw[hY] at hrun
   have rQ:=hid hrun
   obtain⟨Z,hZ⟩:∃Z,V.setRow gb #[vg2]=Z:=⟨_,rfl⟩
   rw[hZ] at Od uy
   have hown : ∀b,vg.ownBlock=some b→B0≤b:=fun b hb=>(qY.out.lt b hb).1
   have o8:Below n0 w1 Z:=uy.below (fun i hi=>by
    rcases hi with e | rfl
    ·have:=hown i e;omega
    ·omega) (by omega)
   have hsZ:=uy.size
   have ML : ∀b,b<B0→b≠gb→¬(vg.ownBlock=some b∨b=gb):=fun b h1 h2 e=>by
    rcases e with e | e
    ·have:=hown b e;omega
    ·exact h2 e
   have htZ:Z.heap[tb]?=some (.cells #[.string (aj t.nm),.slice a2 t.aC.length c2,.int .i64 t.pr] 42):=(uy.block tb (by omega) (ML tb hlo.2.2.1 hne)).trans ((HB1.out.block tb Vh.out.1).trans mI.out)
   have hbx:w.heap.size<w1.heap.size:=by omega
   have Rk:Z.heap[w.heap.size]?=some (.cells #[.string (aj sn),.int .i64 k1,.int .i64 op1,.string (aj dN),.string (aj fU),.int .i64 fJ,.int .i64 fI,.string (aj vs1),.slice eD dF eB] 53):=(uy.block w.heap.size hbx (fun e=>by
    rcases e with e | e
    ·have:=HNW.out _ e
     omega
    ·omega)).trans ((HB1.out.block _ hzw).trans Rx.out)
   obtain⟨Q,hQ,BK,hzQ,Pb⟩:=aK Z (.cells #[.string (aj t.nm),.slice a2 t.aC.length c2,.int .i64 t.pr] 42)
   have kTZ:=aH htZ
   have kSQ:=IL ((BK.block w.heap.size (by omega)).trans Rk)
   have WT:Below n0 w Z:=((HB.out.mono (by omega)).trans (HB1.out.mono (by omega))).trans o8
   have Sj:Below n0 U Q:=((HB1.out.mono (by omega)).trans o8).trans (BK.mono (by omega))
   have hSQ:ak (fun k=>n0≤k) U Q:=ak.of_below Sj (fun k h1 h2=>h1)
   have TH:fG (fun b=>b<n0) Q t [.string (aj t.nm),.slice a2 t.aC.length c2,.int .i64 t.pr]:=Z5.out.to hSQ (fun b hb _=>⟨by show ¬n0≤b;have:b<n0:=hb;omega,hb⟩)
   have kJ:=hid (jH (fun b=>b<n0∨b=Z.heap.size) (fun b=>b<n0) [t] se (.slice (some ⟨Z.heap.size,0,none⟩) 1 1) (.agg #[.int .i64 k1,.int .i64 op1,.string (aj dN),.string (aj fU),.int .i64 fJ,.int .i64 fI,.string (aj vs1),.slice eD dF eB]) Q (Gs.out.below Sj h10) hg.2.1 (SV.out.to hSQ (fun b hb _=>⟨by show ¬n0≤b;have:b<n0:=hb;omega,hb⟩)) (mX Pb TH) (fun t' ht'=>by simp only[List.mem_singleton] at ht';rw[ht'];exact hK) (by simp) (fun _=>hg.2.2))
   rw[HR.out] at kJ
   dsimp only at kJ
   have ab0:=hid hone
   have HGV:=hid VQ
   have YO:=hid Od
   have ac4:=hid WT
   have xC:=hid BK
   have htQ:=(BK.block tb (by omega)).trans htZ
   have HTQ:=hid htQ
   have ab5:=hid TH
   have aaM:=QV.out
   have Xo:Hid (∀b,b<B0→b≠gb→b<Q.heap.size∧Q.heap[b]?=w.heap[b]?):=hid (fun b h1 h2=>⟨by have:=BK.size;omega,(BK.block b (by omega)).trans ((uy.block b (by omega) (ML b h1 h2)).trans ((HB1.out.block b (by omega)).trans (HB.out.block b (by omega))))⟩)
   have hsQ:=BK.size
   have htlt:tb<Q.heap.size:=World.lt_of_block htQ
   have zD:Hid (∀wF,Below Q.heap.size Q wF→Below n0 w wF∧(∀b,b<B0→b≠gb→wF.heap[b]?=w.heap[b]?)∧w.heap.size≤wF.heap.size∧p<t.aC.length∧lG B0 gb wF ((ahead++[(⟨sn,se⟩:Se)]).map fun x=>((bF t.aC x.nm:Nat):Int))):=hid (fun wF hb=>by
    refine ⟨ac4.out.trans ((xC.out.mono (by omega)).trans (hb.mono (by omega))),fun b h1 h2=>(hb.block b (Xo.out b h1 h2).1).trans (Xo.out b h1 h2).2,by have:=hb.size;omega,by omega,?_⟩
    rw[List.map_append]
    show lG B0 gb wF (_++[((bF t.aC sn:Nat):Int)])
    rw[HPI.out]
    exact YO.out.L6 (xC.out.trans (hb.mono xC.out.size)))
   clear hrun hone Od VQ uy o8 ML htZ Rk BK WT Sj hSQ TH Pb hg1 ho1 htQ aaM bV dJ hown zq kT1 Td Tv
   go_wp2_with (first
    | (at_builtin;(try rw[hY]);refine wpList_append_run _ rfl (.tmp 18) (.tmp 20) 87 rfl _ _ _ _ rfl rfl rQ.out ?_)
    | (refine wpList_store_oneTo rfl 87 (.tmp 2) (.tmp 21) rfl rfl gb vg2 rfl rfl ab0.out 87 vg HGV.out Tryz.sizeIntsK ?_;rw[hZ])
    | fail)
   try rw[hQ]
   refine kJ.out.mono ?_
   rintro e w3 ⟨u,rfl,hxu,hb3⟩
   obtain⟨k2,op2,bX,eH,dS,dU,vs2,ys2,dR,dY,dP,_,rfl,_⟩:=hxu
   obtain⟨Y2,hY2,Xh,aao,ab4⟩:=aK w3 (.cells #[.int .i64 k2,.int .i64 op2,.string (aj bX),.string (aj eH),.int .i64 dS,.int .i64 dU,.string (aj vs2),.slice dR dY dP] 48)
   have RD:=hb3.trans (Xh.mono hb3.size)
   have hfin:=zD.out Y2 RD
   have kTF:=aH ((RD.block tb htlt).trans HTQ.out)
   obtain⟨_,_,_,b2,off2,Ro,rfl,_,hx2,hcell2⟩:=bC ((ab5.out.on RD).Zb) HY.out
   obtain rfl:Ro=[.string (aj y.nm),.int .i64 y.k,.bool y.nn,.bool y.uq]:=hx2
   have c1:=hcell2 1 _ rfl
   clear hb3 Xh ab4 RD kJ kTZ kSQ hcell2 kG1
   by_cases hc:c=0
   ·subst hc
    by_cases hk0:kk=0
    ·subst hk0
     have HE:Hid (r=0):=hid (by rw[← QH.out,if_neg (fun h=>h.2.1 rfl)])
     go_wp2_with (first | (refine eX hY2 ?_;clear hY2) | fail)
     go_ret
     exact⟨by rw[HE.out];rfl,hfin.1,hfin.2.1,hfin.2.2.1,fun _=>hfin.2.2.2⟩
    ·have hk1:(kk != 0)=true:=by simpa using hk0
     have hk2:(kk==0)=false:=by simpa using hk0
     by_cases hky:kk=y.k
     ·have HE:Hid (r=0):=hid (by rw[← QH.out,if_neg (fun h=>h.2.2 hky)])
      have hk3:(kk != y.k)=false:=by simp[hky]
      have hk4:(kk==y.k)=true:=by simp[hky]
      clear hky hk0
      go_wp2_with (first | (refine eX hY2 ?_;clear hY2) | fail)
      go_ret
      exact⟨by rw[HE.out];rfl,hfin.1,hfin.2.1,hfin.2.2.1,fun _=>hfin.2.2.2⟩
     ·have HE:Hid (r=9):=hid (by rw[← QH.out,if_pos ⟨rfl,hk0,hky⟩])
      have hk3:(kk != y.k)=true:=by simpa using hky
      have hk4:(kk==y.k)=false:=by simpa using hky
      clear hky hk0
      go_wp2_with (first | (refine eX hY2 ?_;clear hY2) | fail)
      go_ret
      exact⟨by rw[HE.out];rfl,hfin.1,hfin.2.1,hfin.2.2.1,fun h=>absurd (HE.out.symm.trans h) (by decide)⟩
   ·have HE:Hid (r=c):=hid (by rw[← QH.out,if_neg (fun h=>hc h.1)])
    have hc1:(c==0)=false:=by rw[aai];exact hc
    have HCC:=hid hc
    clear hc
    go_wp2_with (first | (refine eX hY2 ?_;clear hY2) | fail)
    go_ret
    exact⟨by rw[HE.out];rfl,hfin.1,hfin.2.1,hfin.2.2.1,fun h=>absurd (HE.out.symm.trans h) HCC.out⟩
end Go.Proofs.YtfeglkleoijlaaaGreatDoor
