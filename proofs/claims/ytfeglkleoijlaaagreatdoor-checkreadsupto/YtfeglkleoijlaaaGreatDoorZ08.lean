/- Packed for the hand-in: WAre -/
import Derived.Test.YtfeglkleoijlaaaGreatDoorZ07
namespace Go.Proofs.YtfeglkleoijlaaaGreatDoor
open Go.RowKit Go.Shelf
set_option linter.unusedSimpArgs false
set_option linter.unusedVariables false
set_option maxRecDepth 20000
set_option maxHeartbeats 8000000
theorem bN {α:Type} {z:Nat} {El:(Nat→Prop)→World→α→List Value→Prop} {S:Nat→Prop} {w:World} {xs:List α} {aa:Option Addr} {nn cc:Nat} (h:aQ z El S w xs (.slice aa nn cc)) {j:Nat} {x:α} (hx:xs[j]?=some x) :
  nn=xs.length∧nn≤cc∧cc≤maxLen∧∃(b off:Nat) (cs:List Value),aa=some ⟨b,off,none⟩∧S b∧El S w x cs∧∀(i:Nat) (u:Value),cs[i]?=some u→w.cell? ⟨b,off+j*z+i,none⟩=some u:=by
 obtain⟨a,c,css,hv,h1,h2,h3,h4⟩:=h
 simp only[Value.slice.injEq] at hv
 obtain⟨rfl,rfl,rfl⟩:=hv
 have hj:j<xs.length:=(List.getElem?_eq_some_iff.1 hx).1
 obtain⟨b,off,rfl,hS,hc⟩:=h4 (fun e=>by rw[e] at hj;simp at hj)
 obtain⟨cs,hcs⟩:∃cs,css[j]?=some cs:=⟨_,List.getElem?_eq_getElem (by rw[h3.1];exact hj)⟩
 exact⟨rfl,h1,h2,b,off,cs,rfl,hS,(h3.2 j x cs hx hcs).2,fun i u hu=>hc j cs hcs i u hu⟩
def gu (S:Nat→Prop) (w:World) (x:Ex) (cs:List Value):Prop :=
 ∃(k op:Int) (tb nm:List UInt8) (vk vn:Int) (vs:List UInt8) (ys:List Ex) (aa:Option Addr) (nn cc:Nat),x = .mk k op tb nm ⟨vk,vn,vs⟩ ys∧cs=[.int .i64 k,.int .i64 op,.string (aj tb),.string (aj nm),.int .i64 vk,.int .i64 vn,.string (aj vs),.slice aa nn cc]∧bF S w ys (.slice aa nn cc)
theorem gu.to {S R T:Nat→Prop} {w w':World} {x:Ex} {cs:List Value} (h:gu S w x cs) (hk:aA R w w') (hS : ∀b,S b→b<w.heap.size→¬R b∧T b):gu T w' x cs:=by
 obtain⟨k,op,tb,nm,vk,vn,vs,ys,aa,nn,cc,h1,h2,h3⟩:=h
 exact⟨k,op,tb,nm,vk,vn,vs,ys,aa,nn,cc,h1,h2,h3.to hk hS⟩
theorem gu.v {S:Nat→Prop} {w:World} {x:Ex} {cs:List Value} (h:gu S w x cs):fB S w x (.agg cs.toArray):=by
 obtain⟨k,op,tb,nm,vk,vn,vs,ys,aa,nn,cc,h1,h2,h3⟩:=h
 exact⟨k,op,tb,nm,vk,vn,vs,ys,aa,nn,cc,h1,by rw[h2],h3⟩
theorem dN {S:Nat→Prop} {w:World} {xs:List Ex} {v:Value} (h:bF S w xs v):aQ 8 gu S w xs v:=by
 cases h with
 | nil a c hc=>exact⟨a,c,[],rfl,Nat.zero_le _,hc,gJ.nil,fun e=>absurd rfl e⟩
 |
  cons xs b off c avs hne hS hl hc hcell hrec =>
  have hall : ∀(j:Nat) (x:Ex),xs[j]?=some x→∃cs,gu S w x cs∧cs.length=8∧∀(i:Nat) (u:Value),cs[i]?=some u→w.cell? ⟨b,off+j*8+i,none⟩=some u:=fun j x hx=>by
   obtain⟨k,op,tb,nm,⟨vk,vn,vs⟩,ys⟩:=x
   obtain⟨c0,c1,c2,c3,c4,c5,c6,c7⟩:=hcell j k op tb nm vk vn vs ys hx
   obtain⟨a1,c1',e,_⟩:=(hrec j k op tb nm vk vn vs ys hx).form
   refine ⟨[.int .i64 k,.int .i64 op,.string (aj tb),.string (aj nm),.int .i64 vk,.int .i64 vn,.string (aj vs),avs j],⟨k,op,tb,nm,vk,vn,vs,ys,a1,ys.length,c1',rfl,by rw[e],e ▸ hrec j k op tb nm vk vn vs ys hx⟩,rfl,fun i u hu=>?_⟩
   match i,hu with
   | 0,hu=>cases hu;exact c0
   | 1,hu=>cases hu;exact c1
   | 2,hu=>cases hu;exact c2
   | 3,hu=>cases hu;exact c3
   | 4,hu=>cases hu;exact c4
   | 5,hu=>cases hu;exact c5
   | 6,hu=>cases hu;exact c6
   | 7,hu=>cases hu;exact c7
  have hcs : ∃css:List (List Value),css.length=xs.length∧∀(j:Nat) (x:Ex) (cs:List Value),xs[j]?=some x→css[j]?=some cs→(gu S w x cs∧cs.length=8∧∀(i:Nat) (u:Value),cs[i]?=some u→w.cell? ⟨b,off+j*8+i,none⟩=some u):=by
   have:=fun (j:Fin xs.length)=>hall j.1 xs[j.1] (List.getElem?_eq_getElem j.2)
   refine ⟨List.ofFn fun j=>Classical.choose (this j),by simp,fun j x cs hx hc=>?_⟩
   obtain⟨hj,rfl⟩:=List.getElem?_eq_some_iff.1 hx
   have hc2:cs=Classical.choose (this ⟨j,hj⟩):=by
    rw[List.getElem?_ofFn] at hc
    simp[hj] at hc
    exact hc.symm
   rw[hc2]
   exact Classical.choose_spec (this ⟨j,hj⟩)
  obtain⟨css,h1,h2⟩:=hcs
  refine ⟨some ⟨b,off,none⟩,c,css,rfl,hl,hc,⟨h1,fun j x cs hx hc=>⟨(h2 j x cs hx hc).2.1,(h2 j x cs hx hc).1⟩⟩,fun _=>⟨b,off,rfl,hS,fun j cs hc i u hu=>?_⟩⟩
  obtain⟨x,hx⟩:∃x,xs[j]?=some x:=⟨_,List.getElem?_eq_getElem (by rw[← h1];exact (List.getElem?_eq_some_iff.1 hc).1)⟩
  exact (h2 j x cs hx hc).2.2 i u hu
theorem aB (w:World) (old cs:Array Value) (t:TypeId):(w.alloc (.cells old t)).setRow w.heap.size cs=w.alloc (.cells cs t):=by
 have hh:((w.alloc (.cells old t)).setRow w.heap.size cs).heap=(w.alloc (.cells cs t)).heap:=by
  apply Array.ext_getElem?
  intro i
  by_cases e:i=w.heap.size
  ·subst e
   rw[setRow_heap _ _ _ _ _ _ (heap_alloc_new w _),heap_alloc_new]
  ·rw[setRow_other _ _ _ _ e]
   unfold World.alloc
   simp[Array.getElem?_push,e]
 have:(w.alloc (.cells old t)).setRow w.heap.size cs = { (w.alloc (.cells old t)).setRow w.heap.size cs with heap:=((w.alloc (.cells old t)).setRow w.heap.size cs).heap }:=rfl
 rw[this,hh]
 rfl
theorem Tryz.bA:(Tryz.prog.info? 48).map (·.size)=some 8:=by kernel_rfl
theorem kg (S:Nat→Prop) (fr:Nat) (eg : ∀args w,(callFunc fr args).run Tryz.prog w = .ok (.enter fr args) w) (p:Ex→Bool) (xs:List (Ex)) (v:Value) (lo hi:Nat) (w:World) (hlo:lo≤100) (hhi:hi≤100) (hv:aQ 8 gu S w xs v)
  (HF:Hid (∀x∈xs,∀V,Below w.heap.size w V→∀cs,gu S V x cs→Calls Tryz.prog fr #[.agg cs.toArray] V fun e w'=>e = .returned (.bool (p x))∧Below V.heap.size V w')) :
  Calls Tryz.prog 95 #[v,.int .i64 lo,.int .i64 hi,.func (.func fr) #[] #[]] w fun e w'=>e = .returned (.bool (bf xs lo hi p))∧Below w.heap.size w w':=by
 have HV:=hid hv
 obtain⟨aa,cc,css,rfl,h1,h2,_⟩:=hv
 unfold maxLen at h2
 by_cases hl:lo≤xs.length∧xs.length≤hi
 ·have hA:bf xs lo hi p=xs.all p:=by unfold bf;rw[decide_eq_true hl,Bool.true_and]
  rw[hA]
  have hl1 : ¬((xs.length:Int)<(lo:Int)):=by omega
  have hl2 : ¬((hi:Int)<(xs.length:Int)):=by omega
  clear hA hl
  obtain⟨X,hX⟩:∃X,xs.all p=X:=⟨_,rfl⟩
  rw[hX]
  have HX:=hid hX
  clear hX
  generalize (lo:Int)=lo' at hl1 ⊢
  generalize (hi:Int)=hi' at hl2 ⊢
  go_enter Tryz.func95,Tryz.ntmps95
  go_wp2_with fail
  go_loopw [8,10,23] (fun _ _ i wr=>∃(k:Nat),k≤xs.length∧i = .int .i64 k∧Below w.heap.size w wr∧Hid ((xs.take k).all p=true)) (fun _ _ i _=>xs.length-(intOf i).toNat)
  case atStart=>exact⟨0,Nat.zero_le _,rfl,Below.refl _ _,hid rfl⟩
  case round =>
   obtain⟨k,hk,rfl,hbel,HK⟩:=hrel
   have hszr:=hbel.size
   by_cases hlt:k<xs.length
   ·obtain⟨x,hx⟩:∃x,xs[k]?=some x:=⟨_,List.getElem?_eq_getElem hlt⟩
    have hlt':((k:Int)<(xs.length:Int)):=by omega
    obtain⟨_,_,_,b,off,cs,rfl,_,hel,hcell⟩:=bN (HV.out.to (T:=S) (by decide) (R:=fun _=>False) (aA.of_below hbel (fun k h1 h2=>by omega)) (fun b hb _=>⟨id,hb⟩) (fun _ _ e=>e.to (R:=fun _=>False) (aA.of_below hbel (fun k h1 h2=>by omega)) (fun b hb _=>⟨id,hb⟩))) hx
    have htk:(xs.take (k+1)).all p=((xs.take k).all p&&p x):=by
     obtain⟨h1,h2⟩:=List.getElem?_eq_some_iff.1 hx
     rw[List.take_succ_eq_append_getElem h1,h2,List.all_append]
     simp
    have HT:=hid htk
    have hxm:=List.mem_of_getElem? hx
    have hel0:=hel
    obtain⟨k1,op1,tb1,nm1,vk1,vn1,vs1,ys1,aa1,nn1,cc1,_,rfl,_⟩:=hel
    have q0:=hcell 0 _ rfl
    have q1:=hcell 1 _ rfl
    have q2:=hcell 2 _ rfl
    have q3:=hcell 3 _ rfl
    have q4:=hcell 4 _ rfl
    have q5:=hcell 5 _ rfl
    have q6:=hcell 6 _ rfl
    have q7:=hcell 7 _ rfl
    simp only[Nat.add_zero] at q0
    obtain⟨U,hU,hbU,hzU,hcU⟩:=aL wr (.cells #[.int .i64 k1,.int .i64 op1,.string (aj tb1),.string (aj nm1),.int .i64 vk1,.int .i64 vn1,.string (aj vs1),.slice aa1 nn1 cc1] 48)
    have kU:=fun i=>aD U wr.heap.size _ _ _ i hcU
    have kU':U.cell? ⟨wr.heap.size,0,none⟩=some (.int .i64 k1)∧U.cell? ⟨wr.heap.size,1,none⟩=some (.int .i64 op1)∧U.cell? ⟨wr.heap.size,2,none⟩=some (.string (aj tb1))∧U.cell? ⟨wr.heap.size,3,none⟩=some (.string (aj nm1))∧U.cell? ⟨wr.heap.size,4,none⟩=some (.int .i64 vk1)∧U.cell? ⟨wr.heap.size,5,none⟩=some (.int .i64 vn1)∧U.cell? ⟨wr.heap.size,6,none⟩=some (.string (aj vs1))∧U.cell? ⟨wr.heap.size,7,none⟩=some (.slice aa1 nn1 cc1):=⟨(kU 0).trans rfl,(kU 1).trans rfl,(kU 2).trans rfl,(kU 3).trans rfl,(kU 4).trans rfl,(kU 5).trans rfl,(kU 6).trans rfl,(kU 7).trans rfl⟩
    clear kU
    have hBU:=hbel.trans (hbU.mono hszr)
    have HC:=hid (HF.out x hxm U hBU _ (hel0.to (R:=fun _=>False) (aA.aC hbU) (fun b hb _=>⟨id,hb⟩)))
    have HM:=hid hxm
    have HBU:=hid hBU
    clear hBU hbU hcU hbel
    clear hcell hx htk hel0 hxm
    cases hp:p x with
    |
     true =>
     rw[hp] at HC
     have HK2:Hid ((xs.take (k+1)).all p=true):=hid (by rw[HT.out,HK.out,hp];rfl)
     clear HK hp HT
     go_wp2_with (first | (refine wpList_store_row rfl 48 (.tmp 10) (.tmp 26) rfl wr.heap.size #[.int .i64 k1,.int .i64 op1,.string (aj tb1),.string (aj nm1),.int .i64 vk1,.int .i64 vn1,.string (aj vs1),.slice aa1 nn1 cc1] rfl rfl 48 #[.int .i64 0,.int .i64 0,.string ⟨#[]⟩,.string ⟨#[]⟩,.int .i64 0,.int .i64 0,.string ⟨#[]⟩,.slice none 0 0] (heap_alloc_new wr _) Tryz.bA rfl rfl ?_;rw[aB,hU];clear hU) | fail)
     refine HC.out.mono ?_
     rintro e w2 ⟨rfl,hb2⟩
     have HB2:=hid (HBU.out.trans (hb2.mono HBU.out.size))
     clear hb2 HC
     go_wp2
     go_roundw
     case rel=>exact⟨k+1,by omega,by go_num,HB2.out,HK2⟩
     case measure=>simp[intOf];omega
    |
     false =>
     rw[hp] at HC
     have HXF:Hid (X=false):=hid (by
      rw[← HX.out,Bool.eq_false_iff]
      intro h
      have:=List.all_eq_true.1 h x HM.out
      rw[hp] at this
      cases this)
     clear HK hp HT
     go_wp2_with (first | (refine wpList_store_row rfl 48 (.tmp 10) (.tmp 26) rfl wr.heap.size #[.int .i64 k1,.int .i64 op1,.string (aj tb1),.string (aj nm1),.int .i64 vk1,.int .i64 vn1,.string (aj vs1),.slice aa1 nn1 cc1] rfl rfl 48 #[.int .i64 0,.int .i64 0,.string ⟨#[]⟩,.string ⟨#[]⟩,.int .i64 0,.int .i64 0,.string ⟨#[]⟩,.slice none 0 0] (heap_alloc_new wr _) Tryz.bA rfl rfl ?_;rw[aB,hU];clear hU) | fail)
     refine HC.out.mono ?_
     rintro e w2 ⟨rfl,hb2⟩
     have HB2:=hid (HBU.out.trans (hb2.mono HBU.out.size))
     clear hb2 HC
     go_wp2
     go_ret
     exact⟨by rw[HXF.out];rfl,HB2.out⟩
   ·have hlt' : ¬((k:Int)<(xs.length:Int)):=by omega
    have HXT:Hid (X=true):=hid (by rw[← HX.out];have:=HK.out;rw[List.take_of_length_le (by omega)] at this;exact this)
    have HB2:=hid hbel
    clear hbel HK
    go_wp2
    go_ret
    exact⟨by rw[HXT.out];rfl,HB2.out⟩
 ·have hA:bf xs lo hi p=false:=by unfold bf;rw[decide_eq_false hl,Bool.false_and]
  rw[hA]
  clear hA
  by_cases hl1:xs.length<lo
  ·have hl1':((xs.length:Int)<(lo:Int)):=by omega
   clear hl hl1
   generalize (lo:Int)=lo' at hl1' ⊢
   go_enter Tryz.func95,Tryz.ntmps95
   go_wp2
   go_ret
   exact⟨rfl,Below.refl _ _⟩
  ·have hl1' : ¬((xs.length:Int)<(lo:Int)):=by omega
   have hl2':((hi:Int)<(xs.length:Int)):=by omega
   clear hl hl1
   generalize (lo:Int)=lo' at hl1' ⊢
   generalize (hi:Int)=hi' at hl2' ⊢
   go_enter Tryz.func95,Tryz.ntmps95
   go_wp2
   go_ret
   exact⟨rfl,Below.refl _ _⟩
theorem Tryz.uo:(Tryz.prog.info? 60).map (·.size)=some 4:=by kernel_rfl
theorem rM (S:Nat→Prop) (fr:Nat) (eg : ∀args w,(callFunc fr args).run Tryz.prog w = .ok (.enter fr args) w) (p:Co→Bool) (xs:List (Co)) (v:Value) (lo hi:Nat) (w:World) (hlo:lo≤100) (hhi:hi≤100) (hv:aQ 4 gH S w xs v)
  (HF:Hid (∀x∈xs,∀V,Below w.heap.size w V→∀cs,gH S V x cs→Calls Tryz.prog fr #[.agg cs.toArray] V fun e w'=>e = .returned (.bool (p x))∧Below V.heap.size V w')) :
  Calls Tryz.prog 88 #[v,.int .i64 lo,.int .i64 hi,.func (.func fr) #[] #[]] w fun e w'=>e = .returned (.bool (bf xs lo hi p))∧Below w.heap.size w w':=by
 have HV:=hid hv
 obtain⟨aa,cc,css,rfl,h1,h2,_⟩:=hv
 unfold maxLen at h2
 by_cases hl:lo≤xs.length∧xs.length≤hi
 ·have hA:bf xs lo hi p=xs.all p:=by unfold bf;rw[decide_eq_true hl,Bool.true_and]
  rw[hA]
  have hl1 : ¬((xs.length:Int)<(lo:Int)):=by omega
  have hl2 : ¬((hi:Int)<(xs.length:Int)):=by omega
  clear hA hl
  obtain⟨X,hX⟩:∃X,xs.all p=X:=⟨_,rfl⟩
  rw[hX]
  have HX:=hid hX
  clear hX
  generalize (lo:Int)=lo' at hl1 ⊢
  generalize (hi:Int)=hi' at hl2 ⊢
  go_enter Tryz.func88,Tryz.ntmps88
  go_wp2_with fail
  go_loopw [8,10,23] (fun _ _ i wr=>∃(k:Nat),k≤xs.length∧i = .int .i64 k∧Below w.heap.size w wr∧Hid ((xs.take k).all p=true)) (fun _ _ i _=>xs.length-(intOf i).toNat)
  case atStart=>exact⟨0,Nat.zero_le _,rfl,Below.refl _ _,hid rfl⟩
  case round =>
   obtain⟨k,hk,rfl,hbel,HK⟩:=hrel
   have hszr:=hbel.size
   by_cases hlt:k<xs.length
   ·obtain⟨x,hx⟩:∃x,xs[k]?=some x:=⟨_,List.getElem?_eq_getElem hlt⟩
    have hlt':((k:Int)<(xs.length:Int)):=by omega
    obtain⟨_,_,_,b,off,cs,rfl,_,hel,hcell⟩:=bN (HV.out.to (T:=S) (by decide) (R:=fun _=>False) (aA.of_below hbel (fun k h1 h2=>by omega)) (fun b hb _=>⟨id,hb⟩) (fun _ _ e=>e.to (R:=fun _=>False) (aA.of_below hbel (fun k h1 h2=>by omega)) (fun b hb _=>⟨id,hb⟩))) hx
    have htk:(xs.take (k+1)).all p=((xs.take k).all p&&p x):=by
     obtain⟨h1,h2⟩:=List.getElem?_eq_some_iff.1 hx
     rw[List.take_succ_eq_append_getElem h1,h2,List.all_append]
     simp
    have HT:=hid htk
    have hxm:=List.mem_of_getElem? hx
    have hel0:=hel
    obtain rfl:=hel
    have q0:=hcell 0 _ rfl
    have q1:=hcell 1 _ rfl
    have q2:=hcell 2 _ rfl
    have q3:=hcell 3 _ rfl
    simp only[Nat.add_zero] at q0
    obtain⟨U,hU,hbU,hzU,hcU⟩:=aL wr (.cells #[.string (aj x.nm),.int .i64 x.k,.bool x.nn,.bool x.uq] 60)
    have kU:=fun i=>aD U wr.heap.size _ _ _ i hcU
    have kU':U.cell? ⟨wr.heap.size,0,none⟩=some (.string (aj x.nm))∧U.cell? ⟨wr.heap.size,1,none⟩=some (.int .i64 x.k)∧U.cell? ⟨wr.heap.size,2,none⟩=some (.bool x.nn)∧U.cell? ⟨wr.heap.size,3,none⟩=some (.bool x.uq):=⟨(kU 0).trans rfl,(kU 1).trans rfl,(kU 2).trans rfl,(kU 3).trans rfl⟩
    clear kU
    have hBU:=hbel.trans (hbU.mono hszr)
    have HC:=hid (HF.out x hxm U hBU _ (hel0.to (R:=fun _=>False) (aA.aC hbU) (fun b hb _=>⟨id,hb⟩)))
    have HM:=hid hxm
    have HBU:=hid hBU
    clear hBU hbU hcU hbel
    clear hcell hx htk hel0 hxm
    cases hp:p x with
    |
     true =>
     rw[hp] at HC
     have HK2:Hid ((xs.take (k+1)).all p=true):=hid (by rw[HT.out,HK.out,hp];rfl)
     clear HK hp HT
     go_wp2_with (first | (refine wpList_store_row rfl 60 (.tmp 10) (.tmp 26) rfl wr.heap.size #[.string (aj x.nm),.int .i64 x.k,.bool x.nn,.bool x.uq] rfl rfl 60 #[.string ⟨#[]⟩,.int .i64 0,.bool false,.bool false] (heap_alloc_new wr _) Tryz.uo rfl rfl ?_;rw[aB,hU];clear hU) | fail)
     refine HC.out.mono ?_
     rintro e w2 ⟨rfl,hb2⟩
     have HB2:=hid (HBU.out.trans (hb2.mono HBU.out.size))
     clear hb2 HC
     go_wp2
     go_roundw
     case rel=>exact⟨k+1,by omega,by go_num,HB2.out,HK2⟩
     case measure=>simp[intOf];omega
    |
     false =>
     rw[hp] at HC
     have HXF:Hid (X=false):=hid (by
      rw[← HX.out,Bool.eq_false_iff]
      intro h
      have:=List.all_eq_true.1 h x HM.out
      rw[hp] at this
      cases this)
     clear HK hp HT
     go_wp2_with (first | (refine wpList_store_row rfl 60 (.tmp 10) (.tmp 26) rfl wr.heap.size #[.string (aj x.nm),.int .i64 x.k,.bool x.nn,.bool x.uq] rfl rfl 60 #[.string ⟨#[]⟩,.int .i64 0,.bool false,.bool false] (heap_alloc_new wr _) Tryz.uo rfl rfl ?_;rw[aB,hU];clear hU) | fail)
     refine HC.out.mono ?_
     rintro e w2 ⟨rfl,hb2⟩
     have HB2:=hid (HBU.out.trans (hb2.mono HBU.out.size))
     clear hb2 HC
     go_wp2
     go_ret
     exact⟨by rw[HXF.out];rfl,HB2.out⟩
   ·have hlt' : ¬((k:Int)<(xs.length:Int)):=by omega
    have HXT:Hid (X=true):=hid (by rw[← HX.out];have:=HK.out;rw[List.take_of_length_le (by omega)] at this;exact this)
    have HB2:=hid hbel
    clear hbel HK
    go_wp2
    go_ret
    exact⟨by rw[HXT.out];rfl,HB2.out⟩
 ·have hA:bf xs lo hi p=false:=by unfold bf;rw[decide_eq_false hl,Bool.false_and]
  rw[hA]
  clear hA
  by_cases hl1:xs.length<lo
  ·have hl1':((xs.length:Int)<(lo:Int)):=by omega
   clear hl hl1
   generalize (lo:Int)=lo' at hl1' ⊢
   go_enter Tryz.func88,Tryz.ntmps88
   go_wp2
   go_ret
   exact⟨rfl,Below.refl _ _⟩
  ·have hl1' : ¬((xs.length:Int)<(lo:Int)):=by omega
   have hl2':((hi:Int)<(xs.length:Int)):=by omega
   clear hl hl1
   generalize (lo:Int)=lo' at hl1' ⊢
   generalize (hi:Int)=hi' at hl2' ⊢
   go_enter Tryz.func88,Tryz.ntmps88
   go_wp2
   go_ret
   exact⟨rfl,Below.refl _ _⟩
theorem Tryz.tK:(Tryz.prog.info? 46).map (·.size)=some 3:=by kernel_rfl
theorem Bz (S:Nat→Prop) (fr:Nat) (eg : ∀args w,(callFunc fr args).run Tryz.prog w = .ok (.enter fr args) w) (p:Vl→Bool) (xs:List (Vl)) (v:Value) (lo hi:Nat) (w:World) (hlo:lo≤100) (hhi:hi≤100) (hv:aQ 3 Aq S w xs v)
  (HF:Hid (∀x∈xs,∀V,Below w.heap.size w V→∀cs,Aq S V x cs→Calls Tryz.prog fr #[.agg cs.toArray] V fun e w'=>e = .returned (.bool (p x))∧Below V.heap.size V w')) :
  Calls Tryz.prog 140 #[v,.int .i64 lo,.int .i64 hi,.func (.func fr) #[] #[]] w fun e w'=>e = .returned (.bool (bf xs lo hi p))∧Below w.heap.size w w':=by
 have HV:=hid hv
 obtain⟨aa,cc,css,rfl,h1,h2,_⟩:=hv
 unfold maxLen at h2
 by_cases hl:lo≤xs.length∧xs.length≤hi
 ·have hA:bf xs lo hi p=xs.all p:=by unfold bf;rw[decide_eq_true hl,Bool.true_and]
  rw[hA]
  have hl1 : ¬((xs.length:Int)<(lo:Int)):=by omega
  have hl2 : ¬((hi:Int)<(xs.length:Int)):=by omega
  clear hA hl
  obtain⟨X,hX⟩:∃X,xs.all p=X:=⟨_,rfl⟩
  rw[hX]
  have HX:=hid hX
  clear hX
  generalize (lo:Int)=lo' at hl1 ⊢
  generalize (hi:Int)=hi' at hl2 ⊢
  go_enter Tryz.func140,Tryz.ntmps140
  go_wp2_with fail
  go_loopw [8,10,23] (fun _ _ i wr=>∃(k:Nat),k≤xs.length∧i = .int .i64 k∧Below w.heap.size w wr∧Hid ((xs.take k).all p=true)) (fun _ _ i _=>xs.length-(intOf i).toNat)
  case atStart=>exact⟨0,Nat.zero_le _,rfl,Below.refl _ _,hid rfl⟩
  case round =>
   obtain⟨k,hk,rfl,hbel,HK⟩:=hrel
   have hszr:=hbel.size
   by_cases hlt:k<xs.length
   ·obtain⟨x,hx⟩:∃x,xs[k]?=some x:=⟨_,List.getElem?_eq_getElem hlt⟩
    have hlt':((k:Int)<(xs.length:Int)):=by omega
    obtain⟨_,_,_,b,off,cs,rfl,_,hel,hcell⟩:=bN (HV.out.to (T:=S) (by decide) (R:=fun _=>False) (aA.of_below hbel (fun k h1 h2=>by omega)) (fun b hb _=>⟨id,hb⟩) (fun _ _ e=>e.to (R:=fun _=>False) (aA.of_below hbel (fun k h1 h2=>by omega)) (fun b hb _=>⟨id,hb⟩))) hx
    have htk:(xs.take (k+1)).all p=((xs.take k).all p&&p x):=by
     obtain⟨h1,h2⟩:=List.getElem?_eq_some_iff.1 hx
     rw[List.take_succ_eq_append_getElem h1,h2,List.all_append]
     simp
    have HT:=hid htk
    have hxm:=List.mem_of_getElem? hx
    have hel0:=hel
    obtain rfl:=hel
    have q0:=hcell 0 _ rfl
    have q1:=hcell 1 _ rfl
    have q2:=hcell 2 _ rfl
    simp only[Nat.add_zero] at q0
    obtain⟨U,hU,hbU,hzU,hcU⟩:=aL wr (.cells #[.int .i64 x.k,.int .i64 x.n,.string (aj x.s)] 46)
    have kU:=fun i=>aD U wr.heap.size _ _ _ i hcU
    have kU':U.cell? ⟨wr.heap.size,0,none⟩=some (.int .i64 x.k)∧U.cell? ⟨wr.heap.size,1,none⟩=some (.int .i64 x.n)∧U.cell? ⟨wr.heap.size,2,none⟩=some (.string (aj x.s)):=⟨(kU 0).trans rfl,(kU 1).trans rfl,(kU 2).trans rfl⟩
    clear kU
    have hBU:=hbel.trans (hbU.mono hszr)
    have HC:=hid (HF.out x hxm U hBU _ (hel0.to (R:=fun _=>False) (aA.aC hbU) (fun b hb _=>⟨id,hb⟩)))
    have HM:=hid hxm
    have HBU:=hid hBU
    clear hBU hbU hcU hbel
    clear hcell hx htk hel0 hxm
    cases hp:p x with
    |
     true =>
     rw[hp] at HC
     have HK2:Hid ((xs.take (k+1)).all p=true):=hid (by rw[HT.out,HK.out,hp];rfl)
     clear HK hp HT
     go_wp2_with (first | (refine wpList_store_row rfl 46 (.tmp 10) (.tmp 26) rfl wr.heap.size #[.int .i64 x.k,.int .i64 x.n,.string (aj x.s)] rfl rfl 46 #[.int .i64 0,.int .i64 0,.string ⟨#[]⟩] (heap_alloc_new wr _) Tryz.tK rfl rfl ?_;rw[aB,hU];clear hU) | fail)
     refine HC.out.mono ?_
     rintro e w2 ⟨rfl,hb2⟩
     have HB2:=hid (HBU.out.trans (hb2.mono HBU.out.size))
     clear hb2 HC
     go_wp2
     go_roundw
     case rel=>exact⟨k+1,by omega,by go_num,HB2.out,HK2⟩
     case measure=>simp[intOf];omega
    |
     false =>
     rw[hp] at HC
     have HXF:Hid (X=false):=hid (by
      rw[← HX.out,Bool.eq_false_iff]
      intro h
      have:=List.all_eq_true.1 h x HM.out
      rw[hp] at this
      cases this)
     clear HK hp HT
     go_wp2_with (first | (refine wpList_store_row rfl 46 (.tmp 10) (.tmp 26) rfl wr.heap.size #[.int .i64 x.k,.int .i64 x.n,.string (aj x.s)] rfl rfl 46 #[.int .i64 0,.int .i64 0,.string ⟨#[]⟩] (heap_alloc_new wr _) Tryz.tK rfl rfl ?_;rw[aB,hU];clear hU) | fail)
     refine HC.out.mono ?_
     rintro e w2 ⟨rfl,hb2⟩
     have HB2:=hid (HBU.out.trans (hb2.mono HBU.out.size))
     clear hb2 HC
     go_wp2
     go_ret
     exact⟨by rw[HXF.out];rfl,HB2.out⟩
   ·have hlt' : ¬((k:Int)<(xs.length:Int)):=by omega
    have HXT:Hid (X=true):=hid (by rw[← HX.out];have:=HK.out;rw[List.take_of_length_le (by omega)] at this;exact this)
    have HB2:=hid hbel
    clear hbel HK
    go_wp2
    go_ret
    exact⟨by rw[HXT.out];rfl,HB2.out⟩
 ·have hA:bf xs lo hi p=false:=by unfold bf;rw[decide_eq_false hl,Bool.false_and]
  rw[hA]
  clear hA
  by_cases hl1:xs.length<lo
  ·have hl1':((xs.length:Int)<(lo:Int)):=by omega
   clear hl hl1
   generalize (lo:Int)=lo' at hl1' ⊢
   go_enter Tryz.func140,Tryz.ntmps140
   go_wp2
   go_ret
   exact⟨rfl,Below.refl _ _⟩
  ·have hl1' : ¬((xs.length:Int)<(lo:Int)):=by omega
   have hl2':((hi:Int)<(xs.length:Int)):=by omega
   clear hl hl1
   generalize (lo:Int)=lo' at hl1' ⊢
   generalize (hi:Int)=hi' at hl2' ⊢
   go_enter Tryz.func140,Tryz.ntmps140
   go_wp2
   go_ret
   exact⟨rfl,Below.refl _ _⟩
theorem Tryz.tF:(Tryz.prog.info? 53).map (·.size)=some 9:=by kernel_rfl
theorem Bv (S:Nat→Prop) (fr:Nat) (eg : ∀args w,(callFunc fr args).run Tryz.prog w = .ok (.enter fr args) w) (p:Se→Bool) (xs:List (Se)) (v:Value) (lo hi:Nat) (w:World) (hlo:lo≤100) (hhi:hi≤100) (hv:aQ 9 yx S w xs v)
  (HF:Hid (∀x∈xs,∀V,Below w.heap.size w V→∀cs,yx S V x cs→Calls Tryz.prog fr #[.agg cs.toArray] V fun e w'=>e = .returned (.bool (p x))∧Below V.heap.size V w')) :
  Calls Tryz.prog 93 #[v,.int .i64 lo,.int .i64 hi,.func (.func fr) #[] #[]] w fun e w'=>e = .returned (.bool (bf xs lo hi p))∧Below w.heap.size w w':=by
 have HV:=hid hv
 obtain⟨aa,cc,css,rfl,h1,h2,_⟩:=hv
 unfold maxLen at h2
 by_cases hl:lo≤xs.length∧xs.length≤hi
 ·have hA:bf xs lo hi p=xs.all p:=by unfold bf;rw[decide_eq_true hl,Bool.true_and]
  rw[hA]
  have hl1 : ¬((xs.length:Int)<(lo:Int)):=by omega
  have hl2 : ¬((hi:Int)<(xs.length:Int)):=by omega
  clear hA hl
  obtain⟨X,hX⟩:∃X,xs.all p=X:=⟨_,rfl⟩
  rw[hX]
  have HX:=hid hX
  clear hX
  generalize (lo:Int)=lo' at hl1 ⊢
  generalize (hi:Int)=hi' at hl2 ⊢
  go_enter Tryz.func93,Tryz.ntmps93
  go_wp2_with fail
  go_loopw [8,10,23] (fun _ _ i wr=>∃(k:Nat),k≤xs.length∧i = .int .i64 k∧Below w.heap.size w wr∧Hid ((xs.take k).all p=true)) (fun _ _ i _=>xs.length-(intOf i).toNat)
  case atStart=>exact⟨0,Nat.zero_le _,rfl,Below.refl _ _,hid rfl⟩
  case round =>
   obtain⟨k,hk,rfl,hbel,HK⟩:=hrel
   have hszr:=hbel.size
   by_cases hlt:k<xs.length
   ·obtain⟨x,hx⟩:∃x,xs[k]?=some x:=⟨_,List.getElem?_eq_getElem hlt⟩
    have hlt':((k:Int)<(xs.length:Int)):=by omega
    obtain⟨_,_,_,b,off,cs,rfl,_,hel,hcell⟩:=bN (HV.out.to (T:=S) (by decide) (R:=fun _=>False) (aA.of_below hbel (fun k h1 h2=>by omega)) (fun b hb _=>⟨id,hb⟩) (fun _ _ e=>e.to (R:=fun _=>False) (aA.of_below hbel (fun k h1 h2=>by omega)) (fun b hb _=>⟨id,hb⟩))) hx
    have htk:(xs.take (k+1)).all p=((xs.take k).all p&&p x):=by
     obtain⟨h1,h2⟩:=List.getElem?_eq_some_iff.1 hx
     rw[List.take_succ_eq_append_getElem h1,h2,List.all_append]
     simp
    have HT:=hid htk
    have hxm:=List.mem_of_getElem? hx
    have hel0:=hel
    obtain⟨k1,op1,tb1,nm1,vk1,vn1,vs1,ys1,aa1,nn1,cc1,_,rfl,_⟩:=hel
    have q0:=hcell 0 _ rfl
    have q1:=hcell 1 _ rfl
    have q2:=hcell 2 _ rfl
    have q3:=hcell 3 _ rfl
    have q4:=hcell 4 _ rfl
    have q5:=hcell 5 _ rfl
    have q6:=hcell 6 _ rfl
    have q7:=hcell 7 _ rfl
    have q8:=hcell 8 _ rfl
    simp only[Nat.add_zero] at q0
    obtain⟨U,hU,hbU,hzU,hcU⟩:=aL wr (.cells #[.string (aj x.nm),.int .i64 k1,.int .i64 op1,.string (aj tb1),.string (aj nm1),.int .i64 vk1,.int .i64 vn1,.string (aj vs1),.slice aa1 nn1 cc1] 53)
    have kU:=fun i=>aD U wr.heap.size _ _ _ i hcU
    have kU':U.cell? ⟨wr.heap.size,0,none⟩=some (.string (aj x.nm))∧U.cell? ⟨wr.heap.size,1,none⟩=some (.int .i64 k1)∧U.cell? ⟨wr.heap.size,2,none⟩=some (.int .i64 op1)∧U.cell? ⟨wr.heap.size,3,none⟩=some (.string (aj tb1))∧U.cell? ⟨wr.heap.size,4,none⟩=some (.string (aj nm1))∧U.cell? ⟨wr.heap.size,5,none⟩=some (.int .i64 vk1)∧U.cell? ⟨wr.heap.size,6,none⟩=some (.int .i64 vn1)∧U.cell? ⟨wr.heap.size,7,none⟩=some (.string (aj vs1))∧U.cell? ⟨wr.heap.size,8,none⟩=some (.slice aa1 nn1 cc1):=⟨(kU 0).trans rfl,(kU 1).trans rfl,(kU 2).trans rfl,(kU 3).trans rfl,(kU 4).trans rfl,(kU 5).trans rfl,(kU 6).trans rfl,(kU 7).trans rfl,(kU 8).trans rfl⟩
    clear kU
    have hBU:=hbel.trans (hbU.mono hszr)
    have HC:=hid (HF.out x hxm U hBU _ (hel0.to (R:=fun _=>False) (aA.aC hbU) (fun b hb _=>⟨id,hb⟩)))
    have HM:=hid hxm
    have HBU:=hid hBU
    clear hBU hbU hcU hbel
    clear hcell hx htk hel0 hxm
    cases hp:p x with
    |
     true =>
     rw[hp] at HC
     have HK2:Hid ((xs.take (k+1)).all p=true):=hid (by rw[HT.out,HK.out,hp];rfl)
     clear HK hp HT
     go_wp2_with (first | (refine wpList_store_row rfl 53 (.tmp 10) (.tmp 26) rfl wr.heap.size #[.string (aj x.nm),.int .i64 k1,.int .i64 op1,.string (aj tb1),.string (aj nm1),.int .i64 vk1,.int .i64 vn1,.string (aj vs1),.slice aa1 nn1 cc1] rfl rfl 53 #[.string ⟨#[]⟩,.int .i64 0,.int .i64 0,.string ⟨#[]⟩,.string ⟨#[]⟩,.int .i64 0,.int .i64 0,.string ⟨#[]⟩,.slice none 0 0] (heap_alloc_new wr _) Tryz.tF rfl rfl ?_;rw[aB,hU];clear hU) | fail)
     refine HC.out.mono ?_
     rintro e w2 ⟨rfl,hb2⟩
     have HB2:=hid (HBU.out.trans (hb2.mono HBU.out.size))
     clear hb2 HC
     go_wp2
     go_roundw
     case rel=>exact⟨k+1,by omega,by go_num,HB2.out,HK2⟩
     case measure=>simp[intOf];omega
    |
     false =>
     rw[hp] at HC
     have HXF:Hid (X=false):=hid (by
      rw[← HX.out,Bool.eq_false_iff]
      intro h
      have:=List.all_eq_true.1 h x HM.out
      rw[hp] at this
      cases this)
     clear HK hp HT
     go_wp2_with (first | (refine wpList_store_row rfl 53 (.tmp 10) (.tmp 26) rfl wr.heap.size #[.string (aj x.nm),.int .i64 k1,.int .i64 op1,.string (aj tb1),.string (aj nm1),.int .i64 vk1,.int .i64 vn1,.string (aj vs1),.slice aa1 nn1 cc1] rfl rfl 53 #[.string ⟨#[]⟩,.int .i64 0,.int .i64 0,.string ⟨#[]⟩,.string ⟨#[]⟩,.int .i64 0,.int .i64 0,.string ⟨#[]⟩,.slice none 0 0] (heap_alloc_new wr _) Tryz.tF rfl rfl ?_;rw[aB,hU];clear hU) | fail)
     refine HC.out.mono ?_
     rintro e w2 ⟨rfl,hb2⟩
     have HB2:=hid (HBU.out.trans (hb2.mono HBU.out.size))
     clear hb2 HC
     go_wp2
     go_ret
     exact⟨by rw[HXF.out];rfl,HB2.out⟩
   ·have hlt' : ¬((k:Int)<(xs.length:Int)):=by omega
    have HXT:Hid (X=true):=hid (by rw[← HX.out];have:=HK.out;rw[List.take_of_length_le (by omega)] at this;exact this)
    have HB2:=hid hbel
    clear hbel HK
    go_wp2
    go_ret
    exact⟨by rw[HXT.out];rfl,HB2.out⟩
 ·have hA:bf xs lo hi p=false:=by unfold bf;rw[decide_eq_false hl,Bool.false_and]
  rw[hA]
  clear hA
  by_cases hl1:xs.length<lo
  ·have hl1':((xs.length:Int)<(lo:Int)):=by omega
   clear hl hl1
   generalize (lo:Int)=lo' at hl1' ⊢
   go_enter Tryz.func93,Tryz.ntmps93
   go_wp2
   go_ret
   exact⟨rfl,Below.refl _ _⟩
  ·have hl1' : ¬((xs.length:Int)<(lo:Int)):=by omega
   have hl2':((hi:Int)<(xs.length:Int)):=by omega
   clear hl hl1
   generalize (lo:Int)=lo' at hl1' ⊢
   generalize (hi:Int)=hi' at hl2' ⊢
   go_enter Tryz.func93,Tryz.ntmps93
   go_wp2
   go_ret
   exact⟨rfl,Below.refl _ _⟩
theorem Tryz.uH:(Tryz.prog.info? 55).map (·.size)=some 2:=by kernel_rfl
theorem AP (S:Nat→Prop) (fr:Nat) (eg : ∀args w,(callFunc fr args).run Tryz.prog w = .ok (.enter fr args) w) (p:It→Bool) (xs:List (It)) (v:Value) (lo hi:Nat) (w:World) (hlo:lo≤100) (hhi:hi≤100) (hv:aQ 2 qo S w xs v)
  (HF:Hid (∀x∈xs,∀V,Below w.heap.size w V→∀cs,qo S V x cs→Calls Tryz.prog fr #[.agg cs.toArray] V fun e w'=>e = .returned (.bool (p x))∧Below V.heap.size V w')) :
  Calls Tryz.prog 141 #[v,.int .i64 lo,.int .i64 hi,.func (.func fr) #[] #[]] w fun e w'=>e = .returned (.bool (bf xs lo hi p))∧Below w.heap.size w w':=by
 have HV:=hid hv
 obtain⟨aa,cc,css,rfl,h1,h2,_⟩:=hv
 unfold maxLen at h2
 by_cases hl:lo≤xs.length∧xs.length≤hi
 ·have hA:bf xs lo hi p=xs.all p:=by unfold bf;rw[decide_eq_true hl,Bool.true_and]
  rw[hA]
  have hl1 : ¬((xs.length:Int)<(lo:Int)):=by omega
  have hl2 : ¬((hi:Int)<(xs.length:Int)):=by omega
  clear hA hl
  obtain⟨X,hX⟩:∃X,xs.all p=X:=⟨_,rfl⟩
  rw[hX]
  have HX:=hid hX
  clear hX
  generalize (lo:Int)=lo' at hl1 ⊢
  generalize (hi:Int)=hi' at hl2 ⊢
  go_enter Tryz.func141,Tryz.ntmps141
  go_wp2_with fail
  go_loopw [8,10,23] (fun _ _ i wr=>∃(k:Nat),k≤xs.length∧i = .int .i64 k∧Below w.heap.size w wr∧Hid ((xs.take k).all p=true)) (fun _ _ i _=>xs.length-(intOf i).toNat)
  case atStart=>exact⟨0,Nat.zero_le _,rfl,Below.refl _ _,hid rfl⟩
  case round =>
   obtain⟨k,hk,rfl,hbel,HK⟩:=hrel
   have hszr:=hbel.size
   by_cases hlt:k<xs.length
   ·obtain⟨x,hx⟩:∃x,xs[k]?=some x:=⟨_,List.getElem?_eq_getElem hlt⟩
    have hlt':((k:Int)<(xs.length:Int)):=by omega
    obtain⟨_,_,_,b,off,cs,rfl,_,hel,hcell⟩:=bN (HV.out.to (T:=S) (by decide) (R:=fun _=>False) (aA.of_below hbel (fun k h1 h2=>by omega)) (fun b hb _=>⟨id,hb⟩) (fun _ _ e=>e.to (R:=fun _=>False) (aA.of_below hbel (fun k h1 h2=>by omega)) (fun b hb _=>⟨id,hb⟩))) hx
    have htk:(xs.take (k+1)).all p=((xs.take k).all p&&p x):=by
     obtain⟨h1,h2⟩:=List.getElem?_eq_some_iff.1 hx
     rw[List.take_succ_eq_append_getElem h1,h2,List.all_append]
     simp
    have HT:=hid htk
    have hxm:=List.mem_of_getElem? hx
    have hel0:=hel
    obtain⟨aa1,nn1,cc1,rfl,_⟩:=hel
    have q0:=hcell 0 _ rfl
    have q1:=hcell 1 _ rfl
    simp only[Nat.add_zero] at q0
    obtain⟨U,hU,hbU,hzU,hcU⟩:=aL wr (.cells #[.int .i64 x.k,.slice aa1 nn1 cc1] 55)
    have kU:=fun i=>aD U wr.heap.size _ _ _ i hcU
    have kU':U.cell? ⟨wr.heap.size,0,none⟩=some (.int .i64 x.k)∧U.cell? ⟨wr.heap.size,1,none⟩=some (.slice aa1 nn1 cc1):=⟨(kU 0).trans rfl,(kU 1).trans rfl⟩
    clear kU
    have hBU:=hbel.trans (hbU.mono hszr)
    have HC:=hid (HF.out x hxm U hBU _ (hel0.to (R:=fun _=>False) (aA.aC hbU) (fun b hb _=>⟨id,hb⟩)))
    have HM:=hid hxm
    have HBU:=hid hBU
    clear hBU hbU hcU hbel
    clear hcell hx htk hel0 hxm
    cases hp:p x with
    |
     true =>
     rw[hp] at HC
     have HK2:Hid ((xs.take (k+1)).all p=true):=hid (by rw[HT.out,HK.out,hp];rfl)
     clear HK hp HT
     go_wp2_with (first | (refine wpList_store_row rfl 55 (.tmp 10) (.tmp 26) rfl wr.heap.size #[.int .i64 x.k,.slice aa1 nn1 cc1] rfl rfl 55 #[.int .i64 0,.slice none 0 0] (heap_alloc_new wr _) Tryz.uH rfl rfl ?_;rw[aB,hU];clear hU) | fail)
     refine HC.out.mono ?_
     rintro e w2 ⟨rfl,hb2⟩
     have HB2:=hid (HBU.out.trans (hb2.mono HBU.out.size))
     clear hb2 HC
     go_wp2
     go_roundw
     case rel=>exact⟨k+1,by omega,by go_num,HB2.out,HK2⟩
     case measure=>simp[intOf];omega
    |
     false =>
     rw[hp] at HC
     have HXF:Hid (X=false):=hid (by
      rw[← HX.out,Bool.eq_false_iff]
      intro h
      have:=List.all_eq_true.1 h x HM.out
      rw[hp] at this
      cases this)
     clear HK hp HT
     go_wp2_with (first | (refine wpList_store_row rfl 55 (.tmp 10) (.tmp 26) rfl wr.heap.size #[.int .i64 x.k,.slice aa1 nn1 cc1] rfl rfl 55 #[.int .i64 0,.slice none 0 0] (heap_alloc_new wr _) Tryz.uH rfl rfl ?_;rw[aB,hU];clear hU) | fail)
     refine HC.out.mono ?_
     rintro e w2 ⟨rfl,hb2⟩
     have HB2:=hid (HBU.out.trans (hb2.mono HBU.out.size))
     clear hb2 HC
     go_wp2
     go_ret
     exact⟨by rw[HXF.out];rfl,HB2.out⟩
   ·have hlt' : ¬((k:Int)<(xs.length:Int)):=by omega
    have HXT:Hid (X=true):=hid (by rw[← HX.out];have:=HK.out;rw[List.take_of_length_le (by omega)] at this;exact this)
    have HB2:=hid hbel
    clear hbel HK
    go_wp2
    go_ret
    exact⟨by rw[HXT.out];rfl,HB2.out⟩
 ·have hA:bf xs lo hi p=false:=by unfold bf;rw[decide_eq_false hl,Bool.false_and]
  rw[hA]
  clear hA
  by_cases hl1:xs.length<lo
  ·have hl1':((xs.length:Int)<(lo:Int)):=by omega
   clear hl hl1
   generalize (lo:Int)=lo' at hl1' ⊢
   go_enter Tryz.func141,Tryz.ntmps141
   go_wp2
   go_ret
   exact⟨rfl,Below.refl _ _⟩
  ·have hl1' : ¬((xs.length:Int)<(lo:Int)):=by omega
   have hl2':((hi:Int)<(xs.length:Int)):=by omega
   clear hl hl1
   generalize (lo:Int)=lo' at hl1' ⊢
   generalize (hi:Int)=hi' at hl2' ⊢
   go_enter Tryz.func141,Tryz.ntmps141
   go_wp2
   go_ret
   exact⟨rfl,Below.refl _ _⟩
theorem Bh (S:Nat→Prop) (fr:Nat) (eg : ∀args w,(callFunc fr args).run Tryz.prog w = .ok (.enter fr args) w) (p:List Vl→Bool) (xs:List (List Vl)) (v:Value) (lo hi:Nat) (w:World) (hlo:lo≤100) (hhi:hi≤100) (hv:aQ 1 yV S w xs v)
  (HF:Hid (∀x∈xs,∀V,Below w.heap.size w V→∀cs,yV S V x cs→Calls Tryz.prog fr #[(cs.headD undef)] V fun e w'=>e = .returned (.bool (p x))∧Below V.heap.size V w')) :
  Calls Tryz.prog 91 #[v,.int .i64 lo,.int .i64 hi,.func (.func fr) #[] #[]] w fun e w'=>e = .returned (.bool (bf xs lo hi p))∧Below w.heap.size w w':=by
 have HV:=hid hv
 obtain⟨aa,cc,css,rfl,h1,h2,_⟩:=hv
 unfold maxLen at h2
 by_cases hl:lo≤xs.length∧xs.length≤hi
 ·have hA:bf xs lo hi p=xs.all p:=by unfold bf;rw[decide_eq_true hl,Bool.true_and]
  rw[hA]
  have hl1 : ¬((xs.length:Int)<(lo:Int)):=by omega
  have hl2 : ¬((hi:Int)<(xs.length:Int)):=by omega
  clear hA hl
  obtain⟨X,hX⟩:∃X,xs.all p=X:=⟨_,rfl⟩
  rw[hX]
  have HX:=hid hX
  clear hX
  generalize (lo:Int)=lo' at hl1 ⊢
  generalize (hi:Int)=hi' at hl2 ⊢
  go_enter Tryz.func91,Tryz.ntmps91
  go_wp2_with fail
  go_loopw [8,10,23] (fun _ _ i wr=>∃(k:Nat),k≤xs.length∧i = .int .i64 k∧Below w.heap.size w wr∧Hid ((xs.take k).all p=true)) (fun _ _ i _=>xs.length-(intOf i).toNat)
  case atStart=>exact⟨0,Nat.zero_le _,rfl,Below.refl _ _,hid rfl⟩
  case round =>
   obtain⟨k,hk,rfl,hbel,HK⟩:=hrel
   have hszr:=hbel.size
   by_cases hlt:k<xs.length
   ·obtain⟨x,hx⟩:∃x,xs[k]?=some x:=⟨_,List.getElem?_eq_getElem hlt⟩
    have hlt':((k:Int)<(xs.length:Int)):=by omega
    obtain⟨_,_,_,b,off,cs,rfl,_,hel,hcell⟩:=bN (HV.out.to (T:=S) (by decide) (R:=fun _=>False) (aA.of_below hbel (fun k h1 h2=>by omega)) (fun b hb _=>⟨id,hb⟩) (fun _ _ e=>e.to (R:=fun _=>False) (aA.of_below hbel (fun k h1 h2=>by omega)) (fun b hb _=>⟨id,hb⟩))) hx
    have htk:(xs.take (k+1)).all p=((xs.take k).all p&&p x):=by
     obtain⟨h1,h2⟩:=List.getElem?_eq_some_iff.1 hx
     rw[List.take_succ_eq_append_getElem h1,h2,List.all_append]
     simp
    have HT:=hid htk
    have hxm:=List.mem_of_getElem? hx
    have hel0:=hel
    obtain⟨aa1,nn1,cc1,rfl,_⟩:=hel
    have q0:=hcell 0 _ rfl
    simp only[Nat.add_zero,Nat.mul_one] at q0
    have HC:Hid (Calls Tryz.prog fr #[.slice aa1 nn1 cc1] wr fun e w'=>e = .returned (.bool (p x))∧Below wr.heap.size wr w'):=hid (HF.out x hxm wr hbel _ hel0)
    have HM:=hid hxm
    have HBU:=hid hbel
    clear hbel
    clear hcell hx htk hel0 hxm
    cases hp:p x with
    |
     true =>
     rw[hp] at HC
     have HK2:Hid ((xs.take (k+1)).all p=true):=hid (by rw[HT.out,HK.out,hp];rfl)
     clear HK hp HT
     go_wp2_with fail
     refine HC.out.mono ?_
     rintro e w2 ⟨rfl,hb2⟩
     have HB2:=hid (HBU.out.trans (hb2.mono HBU.out.size))
     clear hb2 HC
     go_wp2
     go_roundw
     case rel=>exact⟨k+1,by omega,by go_num,HB2.out,HK2⟩
     case measure=>simp[intOf];omega
    |
     false =>
     rw[hp] at HC
     have HXF:Hid (X=false):=hid (by
      rw[← HX.out,Bool.eq_false_iff]
      intro h
      have:=List.all_eq_true.1 h x HM.out
      rw[hp] at this
      cases this)
     clear HK hp HT
     go_wp2_with fail
     refine HC.out.mono ?_
     rintro e w2 ⟨rfl,hb2⟩
     have HB2:=hid (HBU.out.trans (hb2.mono HBU.out.size))
     clear hb2 HC
     go_wp2
     go_ret
     exact⟨by rw[HXF.out];rfl,HB2.out⟩
   ·have hlt' : ¬((k:Int)<(xs.length:Int)):=by omega
    have HXT:Hid (X=true):=hid (by rw[← HX.out];have:=HK.out;rw[List.take_of_length_le (by omega)] at this;exact this)
    have HB2:=hid hbel
    clear hbel HK
    go_wp2
    go_ret
    exact⟨by rw[HXT.out];rfl,HB2.out⟩
 ·have hA:bf xs lo hi p=false:=by unfold bf;rw[decide_eq_false hl,Bool.false_and]
  rw[hA]
  clear hA
  by_cases hl1:xs.length<lo
  ·have hl1':((xs.length:Int)<(lo:Int)):=by omega
   clear hl hl1
   generalize (lo:Int)=lo' at hl1' ⊢
   go_enter Tryz.func91,Tryz.ntmps91
   go_wp2
   go_ret
   exact⟨rfl,Below.refl _ _⟩
  ·have hl1' : ¬((xs.length:Int)<(lo:Int)):=by omega
   have hl2':((hi:Int)<(xs.length:Int)):=by omega
   clear hl hl1
   generalize (lo:Int)=lo' at hl1' ⊢
   generalize (hi:Int)=hi' at hl2' ⊢
   go_enter Tryz.func91,Tryz.ntmps91
   go_wp2
   go_ret
   exact⟨rfl,Below.refl _ _⟩
end Go.Proofs.YtfeglkleoijlaaaGreatDoor
