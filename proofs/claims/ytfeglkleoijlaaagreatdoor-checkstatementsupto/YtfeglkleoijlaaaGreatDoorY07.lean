import Derived.Test.YtfeglkleoijlaaaGreatDoorY06
namespace Go.Proofs.YtfeglkleoijlaaaGreatDoor
open Go.RowKit Go.Shelf
set_option linter.unusedSimpArgs false
set_option linter.unusedVariables false
set_option maxRecDepth 20000
set_option maxHeartbeats 8000000
theorem bC {α:Type} {z:Nat} {El:(Nat→Prop)→World→α→List Value→Prop} {S:Nat→Prop} {w:World} {xs:List α} {aa:Option Addr} {nn cc:Nat} (h:aM z El S w xs (.slice aa nn cc)) {j:Nat} {x:α} (hx:xs[j]?=some x) :
  nn=xs.length∧nn≤cc∧cc≤maxLen∧∃(b off:Nat) (cs:List Value),aa=some ⟨b,off,none⟩∧S b∧El S w x cs∧∀(i:Nat) (u:Value),cs[i]?=some u→w.cell? ⟨b,off+j*z+i,none⟩=some u:=by
 obtain⟨a,c,css,hv,h1,h2,h3,h4⟩:=h
 simp only[aah] at hv
 obtain⟨rfl,rfl,rfl⟩:=hv
 have hj:j<xs.length:=(aam.1 hx).1
 obtain⟨b,off,rfl,hS,hc⟩:=h4 (fun e=>by rw[e] at hj;simp at hj)
 obtain⟨cs,hcs⟩:∃cs,css[j]?=some cs:=⟨_,aaf (by rw[h3.1];exact hj)⟩
 exact⟨rfl,h1,h2,b,off,cs,rfl,hS,(h3.2 j x cs hx hcs).2,fun i u hu=>hc j cs hcs i u hu⟩
def jl (S:Nat→Prop) (w:World) (x:Ex) (cs:List Value):Prop :=
 ∃(k op:Int) (tb nm:List UInt8) (vk vn:Int) (vs:List UInt8) (ys:List Ex) (aa:Option Addr) (nn cc:Nat),x = .mk k op tb nm ⟨vk,vn,vs⟩ ys∧cs=[.int .i64 k,.int .i64 op,.string (aj tb),.string (aj nm),.int .i64 vk,.int .i64 vn,.string (aj vs),.slice aa nn cc]∧bA S w ys (.slice aa nn cc)
theorem jl.to {S R T:Nat→Prop} {w w':World} {x:Ex} {cs:List Value} (h:jl S w x cs) (hk:ak R w w') (hS : ∀b,S b→b<w.heap.size→¬R b∧T b):jl T w' x cs:=by
 obtain⟨k,op,tb,nm,vk,vn,vs,ys,aa,nn,cc,h1,h2,h3⟩:=h
 exact⟨k,op,tb,nm,vk,vn,vs,ys,aa,nn,cc,h1,h2,h3.to hk hS⟩
theorem jl.v {S:Nat→Prop} {w:World} {x:Ex} {cs:List Value} (h:jl S w x cs):gH S w x (.agg cs.toArray):=by
 obtain⟨k,op,tb,nm,vk,vn,vs,ys,aa,nn,cc,h1,h2,h3⟩:=h
 exact⟨k,op,tb,nm,vk,vn,vs,ys,aa,nn,cc,h1,by rw[h2],h3⟩
theorem eZ {S:Nat→Prop} {w:World} {xs:List Ex} {v:Value} (h:bA S w xs v):aM 8 jl S w xs v:=by
 cases h with
 | nil a c hc=>exact⟨a,c,[],rfl,aaV _,hc,lH.nil,fun e=>absurd rfl e⟩
 |
  cons xs b off c Oj hne hS hl hc hcell hrec =>
  have hall : ∀(j:Nat) (x:Ex),xs[j]?=some x→∃cs,jl S w x cs∧cs.length=8∧∀(i:Nat) (u:Value),cs[i]?=some u→w.cell? ⟨b,off+j*8+i,none⟩=some u:=fun j x hx=>by
   obtain⟨k,op,tb,nm,⟨vk,vn,vs⟩,ys⟩:=x
   obtain⟨c0,c1,c2,c3,c4,c5,c6,c7⟩:=hcell j k op tb nm vk vn vs ys hx
   obtain⟨a1,c1',e,_⟩:=(hrec j k op tb nm vk vn vs ys hx).form
   refine ⟨[.int .i64 k,.int .i64 op,.string (aj tb),.string (aj nm),.int .i64 vk,.int .i64 vn,.string (aj vs),Oj j],⟨k,op,tb,nm,vk,vn,vs,ys,a1,ys.length,c1',rfl,by rw[e],e ▸ hrec j k op tb nm vk vn vs ys hx⟩,rfl,fun i u hu=>?_⟩
   match i,hu with
   | 0,hu=>cases hu;exact c0
   | 1,hu=>cases hu;exact c1
   | 2,hu=>cases hu;exact c2
   | 3,hu=>cases hu;exact c3
   | 4,hu=>cases hu;exact c4
   | 5,hu=>cases hu;exact c5
   | 6,hu=>cases hu;exact c6
   | 7,hu=>cases hu;exact c7
  have hcs : ∃css:List (List Value),css.length=xs.length∧∀(j:Nat) (x:Ex) (cs:List Value),xs[j]?=some x→css[j]?=some cs→(jl S w x cs∧cs.length=8∧∀(i:Nat) (u:Value),cs[i]?=some u→w.cell? ⟨b,off+j*8+i,none⟩=some u):=by
   have:=fun (j:Fin xs.length)=>hall j.1 xs[j.1] (aaf j.2)
   refine ⟨List.ofFn fun j=>Classical.choose (this j),by simp,fun j x cs hx hc=>?_⟩
   obtain⟨hj,rfl⟩:=aam.1 hx
   have hc2:cs=Classical.choose (this ⟨j,hj⟩):=by
    rw[List.getElem?_ofFn] at hc
    simp[hj] at hc
    exact hc.symm
   rw[hc2]
   exact Classical.choose_spec (this ⟨j,hj⟩)
  obtain⟨css,h1,h2⟩:=hcs
  refine ⟨some ⟨b,off,none⟩,c,css,rfl,hl,hc,⟨h1,fun j x cs hx hc=>⟨(h2 j x cs hx hc).2.1,(h2 j x cs hx hc).1⟩⟩,fun _=>⟨b,off,rfl,hS,fun j cs hc i u hu=>?_⟩⟩
  obtain⟨x,hx⟩:∃x,xs[j]?=some x:=⟨_,aaf (by rw[← h1];exact (aam.1 hc).1)⟩
  exact (h2 j x cs hx hc).2.2 i u hu
theorem bW (w:World) (old cs:Array Value) (t:TypeId):(w.alloc (.cells old t)).setRow w.heap.size cs=w.alloc (.cells cs t):=by
 have hh:((w.alloc (.cells old t)).setRow w.heap.size cs).heap=(w.alloc (.cells cs t)).heap:=by
  apply Array.ext_getElem?
  intro i
  by_cases e:i=w.heap.size
  ·subst e
   rw[setRow_heap _ _ _ _ _ _ (heap_alloc_new w _),heap_alloc_new]
  ·rw[setRow_other _ _ _ _ e]
   unfold World.alloc
   simp[Array.getElem?_push,e]
 have:(w.alloc (.cells old t)).setRow w.heap.size cs = { (w.alloc (.cells old t)).setRow w.heap.size cs with heap:=((w.alloc (.cells old t)).setRow w.heap.size cs).heap }:=rfl
 rw[this,hh]
 rfl
section
variable {P : Program} {ops : Array Oper} {rest : List Oper} {o : Oper} {a : Act} {Q : Exit → Act → World → Prop} {ty : TypeId} {x y : Operand}
theorem lC {w:World} {g:Nat} {t:TypeId} {old cells:Array Value} (hg:w.heap[g]?=some (.cells old t)) (h:wpList P ops Q rest (a.put o.dst undef) (w.setRow g cells))
  (hgd:o.guard=none:=by rfl) (ho:o.op = .store ty x y:=by rfl) (hx:a.eval x = .pointer (some ⟨g,0,none⟩):=by rfl) (hy:a.eval y = .agg cells:=by rfl) (hi:(P.info? ty).map (·.size)=some cells.size:=by kernel_rfl) (hold:old.size=cells.size:=by rfl) (h1:cells.all (·.oneCell')=true:=by simp[Value.oneCell']):wpList P ops Q (o::rest) a w :=
 wpList_store_row hgd ty x y ho g cells hx hy t old hg hi hold h1 h
theorem eX {w Z:World} {t:TypeId} {old cells:Array Value} (hZ:w.alloc (.cells cells t)=Z) (h:wpList P ops Q rest (a.put o.dst undef) Z)
  (hgd:o.guard=none:=by rfl) (ho:o.op = .store ty x y:=by rfl) (hx:a.eval x = .pointer (some ⟨w.heap.size,0,none⟩):=by rfl) (hy:a.eval y = .agg cells:=by rfl) (hi:(P.info? ty).map (·.size)=some cells.size:=by kernel_rfl) (hold:old.size=cells.size:=by rfl) (h1:cells.all (·.oneCell')=true:=by simp[Value.oneCell']):wpList P ops Q (o::rest) a (w.alloc (.cells old t)) :=
 wpList_store_row hgd ty x y ho w.heap.size cells hx hy t old (heap_alloc_new w _) hi hold h1 (by rw[bW,hZ];exact h)
end
theorem Tryz.sizeEx:(Tryz.prog.info? 48).map (·.size)=some 8:=by kernel_rfl
theorem qB (S:Nat→Prop) (fr:Nat) (eg : ∀args w,(callFunc fr args).run Tryz.prog w = .ok (.enter fr args) w) (p:Ex→Bool) (xs:List (Ex)) (v:Value) (lo hi:Nat) (w:World) (hlo:lo≤100) (hhi:hi≤100) (hv:aM 8 jl S w xs v)
  (HF:Hid (∀x∈xs,∀V,Below w.heap.size w V→∀cs,jl S V x cs→Calls Tryz.prog fr #[.agg cs.toArray] V fun e w'=>e = .returned (.bool (p x))∧Below V.heap.size V w')) :
  Calls Tryz.prog 95 #[v,.int .i64 lo,.int .i64 hi,.func (.func fr) #[] #[]] w fun e w'=>e = .returned (.bool (aR xs lo hi p))∧Below w.heap.size w w':=by
 have HV:=hid hv
 obtain⟨aa,cc,css,rfl,h1,h2,_⟩:=hv
 unfold maxLen at h2
 by_cases hl:lo≤xs.length∧xs.length≤hi
 ·have hA:aR xs lo hi p=xs.all p:=by unfold aR;rw[aar hl,aaA]
  rw[hA]
  have hl1 : ¬((xs.length:Int)<(lo:Int)):=by omega
  have hl2 : ¬((hi:Int)<(xs.length:Int)):=by omega
  clear hA hl
  obtain⟨X,hX⟩:∃X,xs.all p=X:=⟨_,rfl⟩
  rw[hX]
  have HX:=hid hX
  clear hX
  generalize (lo:Int)=lo' at hl1 ⊢
  generalize (hi:Int)=hi' at hl2 ⊢
  go_enter Tryz.func95,Tryz.ntmps95
  go_wp2_with fail
  go_loopw [8,10,23] (fun _ _ i wr=>∃(k:Nat),k≤xs.length∧i = .int .i64 k∧Below w.heap.size w wr∧Hid ((xs.take k).all p=true)) (fun _ _ i _=>xs.length-(intOf i).toNat)
  case atStart=>exact⟨0,aaV _,rfl,Below.refl _ _,hid rfl⟩
  case round =>
   obtain⟨k,hk,rfl,hbel,HK⟩:=hrel
   have qH:=hbel.size
   by_cases hlt:k<xs.length
   ·obtain⟨x,hx⟩:∃x,xs[k]?=some x:=⟨_,aaf hlt⟩
    have hlt':((k:Int)<(xs.length:Int)):=by omega
    obtain⟨_,_,_,b,off,cs,rfl,_,hel,hcell⟩:=bC (HV.out.to (T:=S) (by decide) (R:=fun _=>False) (ak.of_below hbel (fun k h1 h2=>by omega)) (fun b hb _=>⟨id,hb⟩) (fun _ _ e=>e.to (R:=fun _=>False) (ak.of_below hbel (fun k h1 h2=>by omega)) (fun b hb _=>⟨id,hb⟩))) hx
    have htk:(xs.take (k+1)).all p=((xs.take k).all p&&p x):=by
     obtain⟨h1,h2⟩:=aam.1 hx
     rw[aaJ h1,h2,List.all_append]
     simp
    have HT:=hid htk
    have hxm:=aaP hx
    have eO:=hel
    obtain⟨k1,op1,dN,fU,fJ,fI,vs1,ys1,eD,dF,eB,_,rfl,_⟩:=hel
    have q0:=hcell 0 _ rfl
    have q1:=hcell 1 _ rfl
    have q2:=hcell 2 _ rfl
    have q3:=hcell 3 _ rfl
    have q4:=hcell 4 _ rfl
    have q5:=hcell 5 _ rfl
    have q6:=hcell 6 _ rfl
    have q7:=hcell 7 _ rfl
    simp only[aa2] at q0
    obtain⟨U,hU,bB,jc,eU⟩:=aK wr (.cells #[.int .i64 k1,.int .i64 op1,.string (aj dN),.string (aj fU),.int .i64 fJ,.int .i64 fI,.string (aj vs1),.slice eD dF eB] 48)
    have kU:=fun i=>aB U wr.heap.size _ _ _ i eU
    have JZ:U.cell? ⟨wr.heap.size,0,none⟩=some (.int .i64 k1)∧U.cell? ⟨wr.heap.size,1,none⟩=some (.int .i64 op1)∧U.cell? ⟨wr.heap.size,2,none⟩=some (.string (aj dN))∧U.cell? ⟨wr.heap.size,3,none⟩=some (.string (aj fU))∧U.cell? ⟨wr.heap.size,4,none⟩=some (.int .i64 fJ)∧U.cell? ⟨wr.heap.size,5,none⟩=some (.int .i64 fI)∧U.cell? ⟨wr.heap.size,6,none⟩=some (.string (aj vs1))∧U.cell? ⟨wr.heap.size,7,none⟩=some (.slice eD dF eB):=⟨(kU 0).trans rfl,(kU 1).trans rfl,(kU 2).trans rfl,(kU 3).trans rfl,(kU 4).trans rfl,(kU 5).trans rfl,(kU 6).trans rfl,(kU 7).trans rfl⟩
    clear kU
    have jm:=hbel.trans (bB.mono qH)
    have HC:=hid (HF.out x hxm U jm _ (eO.to (R:=fun _=>False) (ak.aA bB) (fun b hb _=>⟨id,hb⟩)))
    have HM:=hid hxm
    have bS:=hid jm
    clear jm bB eU hbel
    clear hcell hx htk eO hxm
    cases hp:p x with
    |
     true =>
     rw[hp] at HC
     have mE:Hid ((xs.take (k+1)).all p=true):=hid (by rw[HT.out,HK.out,hp];rfl)
     clear HK hp HT
     go_wp2_with (first | (refine wpList_store_row rfl 48 (.tmp 10) (.tmp 26) rfl wr.heap.size #[.int .i64 k1,.int .i64 op1,.string (aj dN),.string (aj fU),.int .i64 fJ,.int .i64 fI,.string (aj vs1),.slice eD dF eB] rfl rfl 48 #[.int .i64 0,.int .i64 0,.string ⟨#[]⟩,.string ⟨#[]⟩,.int .i64 0,.int .i64 0,.string ⟨#[]⟩,.slice none 0 0] (heap_alloc_new wr _) Tryz.sizeEx rfl rfl ?_;rw[bW,hU];clear hU) | fail)
     refine HC.out.mono ?_
     rintro e w2 ⟨rfl,hb2⟩
     have HB2:=htr bS hb2
     clear hb2 HC
     go_wp2
     go_roundw
     case rel=>exact⟨k+1,by omega,by go_num,HB2.out,mE⟩
     case measure=>simp[intOf];omega
    |
     false =>
     rw[hp] at HC
     have bE:Hid (X=false):=hid (by
      rw[← HX.out,Bool.eq_false_iff]
      intro h
      have:=List.all_eq_true.1 h x HM.out
      rw[hp] at this
      cases this)
     clear HK hp HT
     go_wp2_with (first | (refine wpList_store_row rfl 48 (.tmp 10) (.tmp 26) rfl wr.heap.size #[.int .i64 k1,.int .i64 op1,.string (aj dN),.string (aj fU),.int .i64 fJ,.int .i64 fI,.string (aj vs1),.slice eD dF eB] rfl rfl 48 #[.int .i64 0,.int .i64 0,.string ⟨#[]⟩,.string ⟨#[]⟩,.int .i64 0,.int .i64 0,.string ⟨#[]⟩,.slice none 0 0] (heap_alloc_new wr _) Tryz.sizeEx rfl rfl ?_;rw[bW,hU];clear hU) | fail)
     refine HC.out.mono ?_
     rintro e w2 ⟨rfl,hb2⟩
     have HB2:=htr bS hb2
     clear hb2 HC
     go_wp2
     go_ret
     exact⟨by rw[bE.out];rfl,HB2.out⟩
   ·have hlt' : ¬((k:Int)<(xs.length:Int)):=by omega
    have dz:Hid (X=true):=hid (by rw[← HX.out];have:=HK.out;rw[aaU (by omega)] at this;exact this)
    have HB2:=hid hbel
    clear hbel HK
    go_wp2
    go_ret
    exact⟨by rw[dz.out];rfl,HB2.out⟩
 ·have hA:aR xs lo hi p=false:=by unfold aR;rw[aaj hl,aaz]
  rw[hA]
  clear hA
  by_cases hl1:xs.length<lo
  ·have jN:((xs.length:Int)<(lo:Int)):=by omega
   clear hl hl1
   generalize (lo:Int)=lo' at jN ⊢
   go_enter Tryz.func95,Tryz.ntmps95
   go_wp2
   go_ret
   exact⟨rfl,Below.refl _ _⟩
  ·have jN : ¬((xs.length:Int)<(lo:Int)):=by omega
   have uJ:((hi:Int)<(xs.length:Int)):=by omega
   clear hl hl1
   generalize (lo:Int)=lo' at jN ⊢
   generalize (hi:Int)=hi' at uJ ⊢
   go_enter Tryz.func95,Tryz.ntmps95
   go_wp2
   go_ret
   exact⟨rfl,Below.refl _ _⟩
theorem Ai (S:Nat→Prop) (fr:Nat) (eg : ∀args w,(callFunc fr args).run Tryz.prog w = .ok (.enter fr args) w) (p:Co→Bool) (xs:List (Co)) (v:Value) (lo hi:Nat) (w:World) (hlo:lo≤100) (hhi:hi≤100) (hv:aM 4 ku S w xs v)
  (HF:Hid (∀x∈xs,∀V,Below w.heap.size w V→∀cs,ku S V x cs→Calls Tryz.prog fr #[.agg cs.toArray] V fun e w'=>e = .returned (.bool (p x))∧Below V.heap.size V w')) :
  Calls Tryz.prog 88 #[v,.int .i64 lo,.int .i64 hi,.func (.func fr) #[] #[]] w fun e w'=>e = .returned (.bool (aR xs lo hi p))∧Below w.heap.size w w':=by
 have HV:=hid hv
 obtain⟨aa,cc,css,rfl,h1,h2,_⟩:=hv
 unfold maxLen at h2
 by_cases hl:lo≤xs.length∧xs.length≤hi
 ·have hA:aR xs lo hi p=xs.all p:=by unfold aR;rw[aar hl,aaA]
  rw[hA]
  have hl1 : ¬((xs.length:Int)<(lo:Int)):=by omega
  have hl2 : ¬((hi:Int)<(xs.length:Int)):=by omega
  clear hA hl
  obtain⟨X,hX⟩:∃X,xs.all p=X:=⟨_,rfl⟩
  rw[hX]
  have HX:=hid hX
  clear hX
  generalize (lo:Int)=lo' at hl1 ⊢
  generalize (hi:Int)=hi' at hl2 ⊢
  go_enter Tryz.func88,Tryz.ntmps88
  go_wp2_with fail
  go_loopw [8,10,23] (fun _ _ i wr=>∃(k:Nat),k≤xs.length∧i = .int .i64 k∧Below w.heap.size w wr∧Hid ((xs.take k).all p=true)) (fun _ _ i _=>xs.length-(intOf i).toNat)
  case atStart=>exact⟨0,aaV _,rfl,Below.refl _ _,hid rfl⟩
  case round =>
   obtain⟨k,hk,rfl,hbel,HK⟩:=hrel
   have qH:=hbel.size
   by_cases hlt:k<xs.length
   ·obtain⟨x,hx⟩:∃x,xs[k]?=some x:=⟨_,aaf hlt⟩
    have hlt':((k:Int)<(xs.length:Int)):=by omega
    obtain⟨_,_,_,b,off,cs,rfl,_,hel,hcell⟩:=bC (HV.out.to (T:=S) (by decide) (R:=fun _=>False) (ak.of_below hbel (fun k h1 h2=>by omega)) (fun b hb _=>⟨id,hb⟩) (fun _ _ e=>e.to (R:=fun _=>False) (ak.of_below hbel (fun k h1 h2=>by omega)) (fun b hb _=>⟨id,hb⟩))) hx
    have htk:(xs.take (k+1)).all p=((xs.take k).all p&&p x):=by
     obtain⟨h1,h2⟩:=aam.1 hx
     rw[aaJ h1,h2,List.all_append]
     simp
    have HT:=hid htk
    have hxm:=aaP hx
    have eO:=hel
    obtain rfl:=hel
    have q0:=hcell 0 _ rfl
    have q1:=hcell 1 _ rfl
    have q2:=hcell 2 _ rfl
    have q3:=hcell 3 _ rfl
    simp only[aa2] at q0
    obtain⟨U,hU,bB,jc,eU⟩:=aK wr (.cells #[.string (aj x.nm),.int .i64 x.k,.bool x.nn,.bool x.uq] 60)
    have kU:=fun i=>aB U wr.heap.size _ _ _ i eU
    have JZ:U.cell? ⟨wr.heap.size,0,none⟩=some (.string (aj x.nm))∧U.cell? ⟨wr.heap.size,1,none⟩=some (.int .i64 x.k)∧U.cell? ⟨wr.heap.size,2,none⟩=some (.bool x.nn)∧U.cell? ⟨wr.heap.size,3,none⟩=some (.bool x.uq):=⟨(kU 0).trans rfl,(kU 1).trans rfl,(kU 2).trans rfl,(kU 3).trans rfl⟩
    clear kU
    have jm:=hbel.trans (bB.mono qH)
    have HC:=hid (HF.out x hxm U jm _ (eO.to (R:=fun _=>False) (ak.aA bB) (fun b hb _=>⟨id,hb⟩)))
    have HM:=hid hxm
    have bS:=hid jm
    clear jm bB eU hbel
    clear hcell hx htk eO hxm
    cases hp:p x with
    |
     true =>
     rw[hp] at HC
     have mE:Hid ((xs.take (k+1)).all p=true):=hid (by rw[HT.out,HK.out,hp];rfl)
     clear HK hp HT
     go_wp2_with (first | (refine wpList_store_row rfl 60 (.tmp 10) (.tmp 26) rfl wr.heap.size #[.string (aj x.nm),.int .i64 x.k,.bool x.nn,.bool x.uq] rfl rfl 60 #[.string ⟨#[]⟩,.int .i64 0,.bool false,.bool false] (heap_alloc_new wr _) Tryz.sizeCo rfl rfl ?_;rw[bW,hU];clear hU) | fail)
     refine HC.out.mono ?_
     rintro e w2 ⟨rfl,hb2⟩
     have HB2:=htr bS hb2
     clear hb2 HC
     go_wp2
     go_roundw
     case rel=>exact⟨k+1,by omega,by go_num,HB2.out,mE⟩
     case measure=>simp[intOf];omega
    |
     false =>
     rw[hp] at HC
     have bE:Hid (X=false):=hid (by
      rw[← HX.out,Bool.eq_false_iff]
      intro h
      have:=List.all_eq_true.1 h x HM.out
      rw[hp] at this
      cases this)
     clear HK hp HT
     go_wp2_with (first | (refine wpList_store_row rfl 60 (.tmp 10) (.tmp 26) rfl wr.heap.size #[.string (aj x.nm),.int .i64 x.k,.bool x.nn,.bool x.uq] rfl rfl 60 #[.string ⟨#[]⟩,.int .i64 0,.bool false,.bool false] (heap_alloc_new wr _) Tryz.sizeCo rfl rfl ?_;rw[bW,hU];clear hU) | fail)
     refine HC.out.mono ?_
     rintro e w2 ⟨rfl,hb2⟩
     have HB2:=htr bS hb2
     clear hb2 HC
     go_wp2
     go_ret
     exact⟨by rw[bE.out];rfl,HB2.out⟩
   ·have hlt' : ¬((k:Int)<(xs.length:Int)):=by omega
    have dz:Hid (X=true):=hid (by rw[← HX.out];have:=HK.out;rw[aaU (by omega)] at this;exact this)
    have HB2:=hid hbel
    clear hbel HK
    go_wp2
    go_ret
    exact⟨by rw[dz.out];rfl,HB2.out⟩
 ·have hA:aR xs lo hi p=false:=by unfold aR;rw[aaj hl,aaz]
  rw[hA]
  clear hA
  by_cases hl1:xs.length<lo
  ·have jN:((xs.length:Int)<(lo:Int)):=by omega
   clear hl hl1
   generalize (lo:Int)=lo' at jN ⊢
   go_enter Tryz.func88,Tryz.ntmps88
   go_wp2
   go_ret
   exact⟨rfl,Below.refl _ _⟩
  ·have jN : ¬((xs.length:Int)<(lo:Int)):=by omega
   have uJ:((hi:Int)<(xs.length:Int)):=by omega
   clear hl hl1
   generalize (lo:Int)=lo' at jN ⊢
   generalize (hi:Int)=hi' at uJ ⊢
   go_enter Tryz.func88,Tryz.ntmps88
   go_wp2
   go_ret
   exact⟨rfl,Below.refl _ _⟩
theorem Kz (S:Nat→Prop) (fr:Nat) (eg : ∀args w,(callFunc fr args).run Tryz.prog w = .ok (.enter fr args) w) (p:Vl→Bool) (xs:List (Vl)) (v:Value) (lo hi:Nat) (w:World) (hlo:lo≤100) (hhi:hi≤100) (hv:aM 3 Ib S w xs v)
  (HF:Hid (∀x∈xs,∀V,Below w.heap.size w V→∀cs,Ib S V x cs→Calls Tryz.prog fr #[.agg cs.toArray] V fun e w'=>e = .returned (.bool (p x))∧Below V.heap.size V w')) :
  Calls Tryz.prog 140 #[v,.int .i64 lo,.int .i64 hi,.func (.func fr) #[] #[]] w fun e w'=>e = .returned (.bool (aR xs lo hi p))∧Below w.heap.size w w':=by
 have HV:=hid hv
 obtain⟨aa,cc,css,rfl,h1,h2,_⟩:=hv
 unfold maxLen at h2
 by_cases hl:lo≤xs.length∧xs.length≤hi
 ·have hA:aR xs lo hi p=xs.all p:=by unfold aR;rw[aar hl,aaA]
  rw[hA]
  have hl1 : ¬((xs.length:Int)<(lo:Int)):=by omega
  have hl2 : ¬((hi:Int)<(xs.length:Int)):=by omega
  clear hA hl
  obtain⟨X,hX⟩:∃X,xs.all p=X:=⟨_,rfl⟩
  rw[hX]
  have HX:=hid hX
  clear hX
  generalize (lo:Int)=lo' at hl1 ⊢
  generalize (hi:Int)=hi' at hl2 ⊢
  go_enter Tryz.func140,Tryz.ntmps140
  go_wp2_with fail
  go_loopw [8,10,23] (fun _ _ i wr=>∃(k:Nat),k≤xs.length∧i = .int .i64 k∧Below w.heap.size w wr∧Hid ((xs.take k).all p=true)) (fun _ _ i _=>xs.length-(intOf i).toNat)
  case atStart=>exact⟨0,aaV _,rfl,Below.refl _ _,hid rfl⟩
  case round =>
   obtain⟨k,hk,rfl,hbel,HK⟩:=hrel
   have qH:=hbel.size
   by_cases hlt:k<xs.length
   ·obtain⟨x,hx⟩:∃x,xs[k]?=some x:=⟨_,aaf hlt⟩
    have hlt':((k:Int)<(xs.length:Int)):=by omega
    obtain⟨_,_,_,b,off,cs,rfl,_,hel,hcell⟩:=bC (HV.out.to (T:=S) (by decide) (R:=fun _=>False) (ak.of_below hbel (fun k h1 h2=>by omega)) (fun b hb _=>⟨id,hb⟩) (fun _ _ e=>e.to (R:=fun _=>False) (ak.of_below hbel (fun k h1 h2=>by omega)) (fun b hb _=>⟨id,hb⟩))) hx
    have htk:(xs.take (k+1)).all p=((xs.take k).all p&&p x):=by
     obtain⟨h1,h2⟩:=aam.1 hx
     rw[aaJ h1,h2,List.all_append]
     simp
    have HT:=hid htk
    have hxm:=aaP hx
    have eO:=hel
    obtain rfl:=hel
    have q0:=hcell 0 _ rfl
    have q1:=hcell 1 _ rfl
    have q2:=hcell 2 _ rfl
    simp only[aa2] at q0
    obtain⟨U,hU,bB,jc,eU⟩:=aK wr (.cells #[.int .i64 x.k,.int .i64 x.n,.string (aj x.s)] 46)
    have kU:=fun i=>aB U wr.heap.size _ _ _ i eU
    have JZ:U.cell? ⟨wr.heap.size,0,none⟩=some (.int .i64 x.k)∧U.cell? ⟨wr.heap.size,1,none⟩=some (.int .i64 x.n)∧U.cell? ⟨wr.heap.size,2,none⟩=some (.string (aj x.s)):=⟨(kU 0).trans rfl,(kU 1).trans rfl,(kU 2).trans rfl⟩
    clear kU
    have jm:=hbel.trans (bB.mono qH)
    have HC:=hid (HF.out x hxm U jm _ (eO.to (R:=fun _=>False) (ak.aA bB) (fun b hb _=>⟨id,hb⟩)))
    have HM:=hid hxm
    have bS:=hid jm
    clear jm bB eU hbel
    clear hcell hx htk eO hxm
    cases hp:p x with
    |
     true =>
     rw[hp] at HC
     have mE:Hid ((xs.take (k+1)).all p=true):=hid (by rw[HT.out,HK.out,hp];rfl)
     clear HK hp HT
     go_wp2_with (first | (refine wpList_store_row rfl 46 (.tmp 10) (.tmp 26) rfl wr.heap.size #[.int .i64 x.k,.int .i64 x.n,.string (aj x.s)] rfl rfl 46 #[.int .i64 0,.int .i64 0,.string ⟨#[]⟩] (heap_alloc_new wr _) Tryz.sizeVl rfl rfl ?_;rw[bW,hU];clear hU) | fail)
     refine HC.out.mono ?_
     rintro e w2 ⟨rfl,hb2⟩
     have HB2:=htr bS hb2
     clear hb2 HC
     go_wp2
     go_roundw
     case rel=>exact⟨k+1,by omega,by go_num,HB2.out,mE⟩
     case measure=>simp[intOf];omega
    |
     false =>
     rw[hp] at HC
     have bE:Hid (X=false):=hid (by
      rw[← HX.out,Bool.eq_false_iff]
      intro h
      have:=List.all_eq_true.1 h x HM.out
      rw[hp] at this
      cases this)
     clear HK hp HT
     go_wp2_with (first | (refine wpList_store_row rfl 46 (.tmp 10) (.tmp 26) rfl wr.heap.size #[.int .i64 x.k,.int .i64 x.n,.string (aj x.s)] rfl rfl 46 #[.int .i64 0,.int .i64 0,.string ⟨#[]⟩] (heap_alloc_new wr _) Tryz.sizeVl rfl rfl ?_;rw[bW,hU];clear hU) | fail)
     refine HC.out.mono ?_
     rintro e w2 ⟨rfl,hb2⟩
     have HB2:=htr bS hb2
     clear hb2 HC
     go_wp2
     go_ret
     exact⟨by rw[bE.out];rfl,HB2.out⟩
   ·have hlt' : ¬((k:Int)<(xs.length:Int)):=by omega
    have dz:Hid (X=true):=hid (by rw[← HX.out];have:=HK.out;rw[aaU (by omega)] at this;exact this)
    have HB2:=hid hbel
    clear hbel HK
    go_wp2
    go_ret
    exact⟨by rw[dz.out];rfl,HB2.out⟩
 ·have hA:aR xs lo hi p=false:=by unfold aR;rw[aaj hl,aaz]
  rw[hA]
  clear hA
  by_cases hl1:xs.length<lo
  ·have jN:((xs.length:Int)<(lo:Int)):=by omega
   clear hl hl1
   generalize (lo:Int)=lo' at jN ⊢
   go_enter Tryz.func140,Tryz.ntmps140
   go_wp2
   go_ret
   exact⟨rfl,Below.refl _ _⟩
  ·have jN : ¬((xs.length:Int)<(lo:Int)):=by omega
   have uJ:((hi:Int)<(xs.length:Int)):=by omega
   clear hl hl1
   generalize (lo:Int)=lo' at jN ⊢
   generalize (hi:Int)=hi' at uJ ⊢
   go_enter Tryz.func140,Tryz.ntmps140
   go_wp2
   go_ret
   exact⟨rfl,Below.refl _ _⟩
theorem Kq (S:Nat→Prop) (fr:Nat) (eg : ∀args w,(callFunc fr args).run Tryz.prog w = .ok (.enter fr args) w) (p:Se→Bool) (xs:List (Se)) (v:Value) (lo hi:Nat) (w:World) (hlo:lo≤100) (hhi:hi≤100) (hv:aM 9 BM S w xs v)
  (HF:Hid (∀x∈xs,∀V,Below w.heap.size w V→∀cs,BM S V x cs→Calls Tryz.prog fr #[.agg cs.toArray] V fun e w'=>e = .returned (.bool (p x))∧Below V.heap.size V w')) :
  Calls Tryz.prog 93 #[v,.int .i64 lo,.int .i64 hi,.func (.func fr) #[] #[]] w fun e w'=>e = .returned (.bool (aR xs lo hi p))∧Below w.heap.size w w':=by
 have HV:=hid hv
 obtain⟨aa,cc,css,rfl,h1,h2,_⟩:=hv
 unfold maxLen at h2
 by_cases hl:lo≤xs.length∧xs.length≤hi
 ·have hA:aR xs lo hi p=xs.all p:=by unfold aR;rw[aar hl,aaA]
  rw[hA]
  have hl1 : ¬((xs.length:Int)<(lo:Int)):=by omega
  have hl2 : ¬((hi:Int)<(xs.length:Int)):=by omega
  clear hA hl
  obtain⟨X,hX⟩:∃X,xs.all p=X:=⟨_,rfl⟩
  rw[hX]
  have HX:=hid hX
  clear hX
  generalize (lo:Int)=lo' at hl1 ⊢
  generalize (hi:Int)=hi' at hl2 ⊢
  go_enter Tryz.func93,Tryz.ntmps93
  go_wp2_with fail
  go_loopw [8,10,23] (fun _ _ i wr=>∃(k:Nat),k≤xs.length∧i = .int .i64 k∧Below w.heap.size w wr∧Hid ((xs.take k).all p=true)) (fun _ _ i _=>xs.length-(intOf i).toNat)
  case atStart=>exact⟨0,aaV _,rfl,Below.refl _ _,hid rfl⟩
  case round =>
   obtain⟨k,hk,rfl,hbel,HK⟩:=hrel
   have qH:=hbel.size
   by_cases hlt:k<xs.length
   ·obtain⟨x,hx⟩:∃x,xs[k]?=some x:=⟨_,aaf hlt⟩
    have hlt':((k:Int)<(xs.length:Int)):=by omega
    obtain⟨_,_,_,b,off,cs,rfl,_,hel,hcell⟩:=bC (HV.out.to (T:=S) (by decide) (R:=fun _=>False) (ak.of_below hbel (fun k h1 h2=>by omega)) (fun b hb _=>⟨id,hb⟩) (fun _ _ e=>e.to (R:=fun _=>False) (ak.of_below hbel (fun k h1 h2=>by omega)) (fun b hb _=>⟨id,hb⟩))) hx
    have htk:(xs.take (k+1)).all p=((xs.take k).all p&&p x):=by
     obtain⟨h1,h2⟩:=aam.1 hx
     rw[aaJ h1,h2,List.all_append]
     simp
    have HT:=hid htk
    have hxm:=aaP hx
    have eO:=hel
    obtain⟨k1,op1,dN,fU,fJ,fI,vs1,ys1,eD,dF,eB,_,rfl,_⟩:=hel
    have q0:=hcell 0 _ rfl
    have q1:=hcell 1 _ rfl
    have q2:=hcell 2 _ rfl
    have q3:=hcell 3 _ rfl
    have q4:=hcell 4 _ rfl
    have q5:=hcell 5 _ rfl
    have q6:=hcell 6 _ rfl
    have q7:=hcell 7 _ rfl
    have q8:=hcell 8 _ rfl
    simp only[aa2] at q0
    obtain⟨U,hU,bB,jc,eU⟩:=aK wr (.cells #[.string (aj x.nm),.int .i64 k1,.int .i64 op1,.string (aj dN),.string (aj fU),.int .i64 fJ,.int .i64 fI,.string (aj vs1),.slice eD dF eB] 53)
    have kU:=fun i=>aB U wr.heap.size _ _ _ i eU
    have JZ:U.cell? ⟨wr.heap.size,0,none⟩=some (.string (aj x.nm))∧U.cell? ⟨wr.heap.size,1,none⟩=some (.int .i64 k1)∧U.cell? ⟨wr.heap.size,2,none⟩=some (.int .i64 op1)∧U.cell? ⟨wr.heap.size,3,none⟩=some (.string (aj dN))∧U.cell? ⟨wr.heap.size,4,none⟩=some (.string (aj fU))∧U.cell? ⟨wr.heap.size,5,none⟩=some (.int .i64 fJ)∧U.cell? ⟨wr.heap.size,6,none⟩=some (.int .i64 fI)∧U.cell? ⟨wr.heap.size,7,none⟩=some (.string (aj vs1))∧U.cell? ⟨wr.heap.size,8,none⟩=some (.slice eD dF eB):=⟨(kU 0).trans rfl,(kU 1).trans rfl,(kU 2).trans rfl,(kU 3).trans rfl,(kU 4).trans rfl,(kU 5).trans rfl,(kU 6).trans rfl,(kU 7).trans rfl,(kU 8).trans rfl⟩
    clear kU
    have jm:=hbel.trans (bB.mono qH)
    have HC:=hid (HF.out x hxm U jm _ (eO.to (R:=fun _=>False) (ak.aA bB) (fun b hb _=>⟨id,hb⟩)))
    have HM:=hid hxm
    have bS:=hid jm
    clear jm bB eU hbel
    clear hcell hx htk eO hxm
    cases hp:p x with
    |
     true =>
     rw[hp] at HC
     have mE:Hid ((xs.take (k+1)).all p=true):=hid (by rw[HT.out,HK.out,hp];rfl)
     clear HK hp HT
     go_wp2_with (first | (refine wpList_store_row rfl 53 (.tmp 10) (.tmp 26) rfl wr.heap.size #[.string (aj x.nm),.int .i64 k1,.int .i64 op1,.string (aj dN),.string (aj fU),.int .i64 fJ,.int .i64 fI,.string (aj vs1),.slice eD dF eB] rfl rfl 53 #[.string ⟨#[]⟩,.int .i64 0,.int .i64 0,.string ⟨#[]⟩,.string ⟨#[]⟩,.int .i64 0,.int .i64 0,.string ⟨#[]⟩,.slice none 0 0] (heap_alloc_new wr _) Tryz.sizeSe rfl rfl ?_;rw[bW,hU];clear hU) | fail)
     refine HC.out.mono ?_
     rintro e w2 ⟨rfl,hb2⟩
     have HB2:=htr bS hb2
     clear hb2 HC
     go_wp2
     go_roundw
     case rel=>exact⟨k+1,by omega,by go_num,HB2.out,mE⟩
     case measure=>simp[intOf];omega
    |
     false =>
     rw[hp] at HC
     have bE:Hid (X=false):=hid (by
      rw[← HX.out,Bool.eq_false_iff]
      intro h
      have:=List.all_eq_true.1 h x HM.out
      rw[hp] at this
      cases this)
     clear HK hp HT
     go_wp2_with (first | (refine wpList_store_row rfl 53 (.tmp 10) (.tmp 26) rfl wr.heap.size #[.string (aj x.nm),.int .i64 k1,.int .i64 op1,.string (aj dN),.string (aj fU),.int .i64 fJ,.int .i64 fI,.string (aj vs1),.slice eD dF eB] rfl rfl 53 #[.string ⟨#[]⟩,.int .i64 0,.int .i64 0,.string ⟨#[]⟩,.string ⟨#[]⟩,.int .i64 0,.int .i64 0,.string ⟨#[]⟩,.slice none 0 0] (heap_alloc_new wr _) Tryz.sizeSe rfl rfl ?_;rw[bW,hU];clear hU) | fail)
     refine HC.out.mono ?_
     rintro e w2 ⟨rfl,hb2⟩
     have HB2:=htr bS hb2
     clear hb2 HC
     go_wp2
     go_ret
     exact⟨by rw[bE.out];rfl,HB2.out⟩
   ·have hlt' : ¬((k:Int)<(xs.length:Int)):=by omega
    have dz:Hid (X=true):=hid (by rw[← HX.out];have:=HK.out;rw[aaU (by omega)] at this;exact this)
    have HB2:=hid hbel
    clear hbel HK
    go_wp2
    go_ret
    exact⟨by rw[dz.out];rfl,HB2.out⟩
 ·have hA:aR xs lo hi p=false:=by unfold aR;rw[aaj hl,aaz]
  rw[hA]
  clear hA
  by_cases hl1:xs.length<lo
  ·have jN:((xs.length:Int)<(lo:Int)):=by omega
   clear hl hl1
   generalize (lo:Int)=lo' at jN ⊢
   go_enter Tryz.func93,Tryz.ntmps93
   go_wp2
   go_ret
   exact⟨rfl,Below.refl _ _⟩
  ·have jN : ¬((xs.length:Int)<(lo:Int)):=by omega
   have uJ:((hi:Int)<(xs.length:Int)):=by omega
   clear hl hl1
   generalize (lo:Int)=lo' at jN ⊢
   generalize (hi:Int)=hi' at uJ ⊢
   go_enter Tryz.func93,Tryz.ntmps93
   go_wp2
   go_ret
   exact⟨rfl,Below.refl _ _⟩
theorem Kv (S:Nat→Prop) (fr:Nat) (eg : ∀args w,(callFunc fr args).run Tryz.prog w = .ok (.enter fr args) w) (p:It→Bool) (xs:List (It)) (v:Value) (lo hi:Nat) (w:World) (hlo:lo≤100) (hhi:hi≤100) (hv:aM 2 vY S w xs v)
  (HF:Hid (∀x∈xs,∀V,Below w.heap.size w V→∀cs,vY S V x cs→Calls Tryz.prog fr #[.agg cs.toArray] V fun e w'=>e = .returned (.bool (p x))∧Below V.heap.size V w')) :
  Calls Tryz.prog 141 #[v,.int .i64 lo,.int .i64 hi,.func (.func fr) #[] #[]] w fun e w'=>e = .returned (.bool (aR xs lo hi p))∧Below w.heap.size w w':=by
 have HV:=hid hv
 obtain⟨aa,cc,css,rfl,h1,h2,_⟩:=hv
 unfold maxLen at h2
 by_cases hl:lo≤xs.length∧xs.length≤hi
 ·have hA:aR xs lo hi p=xs.all p:=by unfold aR;rw[aar hl,aaA]
  rw[hA]
  have hl1 : ¬((xs.length:Int)<(lo:Int)):=by omega
  have hl2 : ¬((hi:Int)<(xs.length:Int)):=by omega
  clear hA hl
  obtain⟨X,hX⟩:∃X,xs.all p=X:=⟨_,rfl⟩
  rw[hX]
  have HX:=hid hX
  clear hX
  generalize (lo:Int)=lo' at hl1 ⊢
  generalize (hi:Int)=hi' at hl2 ⊢
  go_enter Tryz.func141,Tryz.ntmps141
  go_wp2_with fail
  go_loopw [8,10,23] (fun _ _ i wr=>∃(k:Nat),k≤xs.length∧i = .int .i64 k∧Below w.heap.size w wr∧Hid ((xs.take k).all p=true)) (fun _ _ i _=>xs.length-(intOf i).toNat)
  case atStart=>exact⟨0,aaV _,rfl,Below.refl _ _,hid rfl⟩
  case round =>
   obtain⟨k,hk,rfl,hbel,HK⟩:=hrel
   have qH:=hbel.size
   by_cases hlt:k<xs.length
   ·obtain⟨x,hx⟩:∃x,xs[k]?=some x:=⟨_,aaf hlt⟩
    have hlt':((k:Int)<(xs.length:Int)):=by omega
    obtain⟨_,_,_,b,off,cs,rfl,_,hel,hcell⟩:=bC (HV.out.to (T:=S) (by decide) (R:=fun _=>False) (ak.of_below hbel (fun k h1 h2=>by omega)) (fun b hb _=>⟨id,hb⟩) (fun _ _ e=>e.to (R:=fun _=>False) (ak.of_below hbel (fun k h1 h2=>by omega)) (fun b hb _=>⟨id,hb⟩))) hx
    have htk:(xs.take (k+1)).all p=((xs.take k).all p&&p x):=by
     obtain⟨h1,h2⟩:=aam.1 hx
     rw[aaJ h1,h2,List.all_append]
     simp
    have HT:=hid htk
    have hxm:=aaP hx
    have eO:=hel
    obtain⟨eD,dF,eB,rfl,_⟩:=hel
    have q0:=hcell 0 _ rfl
    have q1:=hcell 1 _ rfl
    simp only[aa2] at q0
    obtain⟨U,hU,bB,jc,eU⟩:=aK wr (.cells #[.int .i64 x.k,.slice eD dF eB] 55)
    have kU:=fun i=>aB U wr.heap.size _ _ _ i eU
    have JZ:U.cell? ⟨wr.heap.size,0,none⟩=some (.int .i64 x.k)∧U.cell? ⟨wr.heap.size,1,none⟩=some (.slice eD dF eB):=⟨(kU 0).trans rfl,(kU 1).trans rfl⟩
    clear kU
    have jm:=hbel.trans (bB.mono qH)
    have HC:=hid (HF.out x hxm U jm _ (eO.to (R:=fun _=>False) (ak.aA bB) (fun b hb _=>⟨id,hb⟩)))
    have HM:=hid hxm
    have bS:=hid jm
    clear jm bB eU hbel
    clear hcell hx htk eO hxm
    cases hp:p x with
    |
     true =>
     rw[hp] at HC
     have mE:Hid ((xs.take (k+1)).all p=true):=hid (by rw[HT.out,HK.out,hp];rfl)
     clear HK hp HT
     go_wp2_with (first | (refine wpList_store_row rfl 55 (.tmp 10) (.tmp 26) rfl wr.heap.size #[.int .i64 x.k,.slice eD dF eB] rfl rfl 55 #[.int .i64 0,.slice none 0 0] (heap_alloc_new wr _) Tryz.sizeIt rfl rfl ?_;rw[bW,hU];clear hU) | fail)
     refine HC.out.mono ?_
     rintro e w2 ⟨rfl,hb2⟩
     have HB2:=htr bS hb2
     clear hb2 HC
     go_wp2
     go_roundw
     case rel=>exact⟨k+1,by omega,by go_num,HB2.out,mE⟩
     case measure=>simp[intOf];omega
    |
     false =>
     rw[hp] at HC
     have bE:Hid (X=false):=hid (by
      rw[← HX.out,Bool.eq_false_iff]
      intro h
      have:=List.all_eq_true.1 h x HM.out
      rw[hp] at this
      cases this)
     clear HK hp HT
     go_wp2_with (first | (refine wpList_store_row rfl 55 (.tmp 10) (.tmp 26) rfl wr.heap.size #[.int .i64 x.k,.slice eD dF eB] rfl rfl 55 #[.int .i64 0,.slice none 0 0] (heap_alloc_new wr _) Tryz.sizeIt rfl rfl ?_;rw[bW,hU];clear hU) | fail)
     refine HC.out.mono ?_
     rintro e w2 ⟨rfl,hb2⟩
     have HB2:=htr bS hb2
     clear hb2 HC
     go_wp2
     go_ret
     exact⟨by rw[bE.out];rfl,HB2.out⟩
   ·have hlt' : ¬((k:Int)<(xs.length:Int)):=by omega
    have dz:Hid (X=true):=hid (by rw[← HX.out];have:=HK.out;rw[aaU (by omega)] at this;exact this)
    have HB2:=hid hbel
    clear hbel HK
    go_wp2
    go_ret
    exact⟨by rw[dz.out];rfl,HB2.out⟩
 ·have hA:aR xs lo hi p=false:=by unfold aR;rw[aaj hl,aaz]
  rw[hA]
  clear hA
  by_cases hl1:xs.length<lo
  ·have jN:((xs.length:Int)<(lo:Int)):=by omega
   clear hl hl1
   generalize (lo:Int)=lo' at jN ⊢
   go_enter Tryz.func141,Tryz.ntmps141
   go_wp2
   go_ret
   exact⟨rfl,Below.refl _ _⟩
  ·have jN : ¬((xs.length:Int)<(lo:Int)):=by omega
   have uJ:((hi:Int)<(xs.length:Int)):=by omega
   clear hl hl1
   generalize (lo:Int)=lo' at jN ⊢
   generalize (hi:Int)=hi' at uJ ⊢
   go_enter Tryz.func141,Tryz.ntmps141
   go_wp2
   go_ret
   exact⟨rfl,Below.refl _ _⟩
theorem Kc (S:Nat→Prop) (fr:Nat) (eg : ∀args w,(callFunc fr args).run Tryz.prog w = .ok (.enter fr args) w) (p:List Vl→Bool) (xs:List (List Vl)) (v:Value) (lo hi:Nat) (w:World) (hlo:lo≤100) (hhi:hi≤100) (hv:aM 1 Cw S w xs v)
  (HF:Hid (∀x∈xs,∀V,Below w.heap.size w V→∀cs,Cw S V x cs→Calls Tryz.prog fr #[(cs.headD undef)] V fun e w'=>e = .returned (.bool (p x))∧Below V.heap.size V w')) :
  Calls Tryz.prog 91 #[v,.int .i64 lo,.int .i64 hi,.func (.func fr) #[] #[]] w fun e w'=>e = .returned (.bool (aR xs lo hi p))∧Below w.heap.size w w':=by
 have HV:=hid hv
 obtain⟨aa,cc,css,rfl,h1,h2,_⟩:=hv
 unfold maxLen at h2
 by_cases hl:lo≤xs.length∧xs.length≤hi
 ·have hA:aR xs lo hi p=xs.all p:=by unfold aR;rw[aar hl,aaA]
  rw[hA]
  have hl1 : ¬((xs.length:Int)<(lo:Int)):=by omega
  have hl2 : ¬((hi:Int)<(xs.length:Int)):=by omega
  clear hA hl
  obtain⟨X,hX⟩:∃X,xs.all p=X:=⟨_,rfl⟩
  rw[hX]
  have HX:=hid hX
  clear hX
  generalize (lo:Int)=lo' at hl1 ⊢
  generalize (hi:Int)=hi' at hl2 ⊢
  go_enter Tryz.func91,Tryz.ntmps91
  go_wp2_with fail
  go_loopw [8,10,23] (fun _ _ i wr=>∃(k:Nat),k≤xs.length∧i = .int .i64 k∧Below w.heap.size w wr∧Hid ((xs.take k).all p=true)) (fun _ _ i _=>xs.length-(intOf i).toNat)
  case atStart=>exact⟨0,aaV _,rfl,Below.refl _ _,hid rfl⟩
  case round =>
   obtain⟨k,hk,rfl,hbel,HK⟩:=hrel
   have qH:=hbel.size
   by_cases hlt:k<xs.length
   ·obtain⟨x,hx⟩:∃x,xs[k]?=some x:=⟨_,aaf hlt⟩
    have hlt':((k:Int)<(xs.length:Int)):=by omega
    obtain⟨_,_,_,b,off,cs,rfl,_,hel,hcell⟩:=bC (HV.out.to (T:=S) (by decide) (R:=fun _=>False) (ak.of_below hbel (fun k h1 h2=>by omega)) (fun b hb _=>⟨id,hb⟩) (fun _ _ e=>e.to (R:=fun _=>False) (ak.of_below hbel (fun k h1 h2=>by omega)) (fun b hb _=>⟨id,hb⟩))) hx
    have htk:(xs.take (k+1)).all p=((xs.take k).all p&&p x):=by
     obtain⟨h1,h2⟩:=aam.1 hx
     rw[aaJ h1,h2,List.all_append]
     simp
    have HT:=hid htk
    have hxm:=aaP hx
    have eO:=hel
    obtain⟨eD,dF,eB,rfl,_⟩:=hel
    have q0:=hcell 0 _ rfl
    simp only[aa2,Nat.mul_one] at q0
    have HC:Hid (Calls Tryz.prog fr #[.slice eD dF eB] wr fun e w'=>e = .returned (.bool (p x))∧Below wr.heap.size wr w'):=hid (HF.out x hxm wr hbel _ eO)
    have HM:=hid hxm
    have bS:=hid hbel
    clear hbel
    clear hcell hx htk eO hxm
    cases hp:p x with
    |
     true =>
     rw[hp] at HC
     have mE:Hid ((xs.take (k+1)).all p=true):=hid (by rw[HT.out,HK.out,hp];rfl)
     clear HK hp HT
     go_wp2_with fail
     refine HC.out.mono ?_
     rintro e w2 ⟨rfl,hb2⟩
     have HB2:=htr bS hb2
     clear hb2 HC
     go_wp2
     go_roundw
     case rel=>exact⟨k+1,by omega,by go_num,HB2.out,mE⟩
     case measure=>simp[intOf];omega
    |
     false =>
     rw[hp] at HC
     have bE:Hid (X=false):=hid (by
      rw[← HX.out,Bool.eq_false_iff]
      intro h
      have:=List.all_eq_true.1 h x HM.out
      rw[hp] at this
      cases this)
     clear HK hp HT
     go_wp2_with fail
     refine HC.out.mono ?_
     rintro e w2 ⟨rfl,hb2⟩
     have HB2:=htr bS hb2
     clear hb2 HC
     go_wp2
     go_ret
     exact⟨by rw[bE.out];rfl,HB2.out⟩
   ·have hlt' : ¬((k:Int)<(xs.length:Int)):=by omega
    have dz:Hid (X=true):=hid (by rw[← HX.out];have:=HK.out;rw[aaU (by omega)] at this;exact this)
    have HB2:=hid hbel
    clear hbel HK
    go_wp2
    go_ret
    exact⟨by rw[dz.out];rfl,HB2.out⟩
 ·have hA:aR xs lo hi p=false:=by unfold aR;rw[aaj hl,aaz]
  rw[hA]
  clear hA
  by_cases hl1:xs.length<lo
  ·have jN:((xs.length:Int)<(lo:Int)):=by omega
   clear hl hl1
   generalize (lo:Int)=lo' at jN ⊢
   go_enter Tryz.func91,Tryz.ntmps91
   go_wp2
   go_ret
   exact⟨rfl,Below.refl _ _⟩
  ·have jN : ¬((xs.length:Int)<(lo:Int)):=by omega
   have uJ:((hi:Int)<(xs.length:Int)):=by omega
   clear hl hl1
   generalize (lo:Int)=lo' at jN ⊢
   generalize (hi:Int)=hi' at uJ ⊢
   go_enter Tryz.func91,Tryz.ntmps91
   go_wp2
   go_ret
   exact⟨rfl,Below.refl _ _⟩
end Go.Proofs.YtfeglkleoijlaaaGreatDoor
