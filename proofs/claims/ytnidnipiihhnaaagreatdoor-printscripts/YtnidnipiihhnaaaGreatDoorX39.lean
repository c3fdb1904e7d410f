/- Packed for the hand-in: RefJH RefJN -/
import Derived.Test.YtnidnipiihhnaaaGreatDoorX38
import Derived.Test.YtnidnipiihhnaaaGreatDoorX32
import Derived.Test.YtnidnipiihhnaaaGreatDoorX19
namespace Go.Proofs.YtnidnipiihhnaaaGreatDoor
open Go.RowKit Go.Shelf
set_option linter.unusedSimpArgs false
set_option linter.unusedVariables false
set_option maxRecDepth 20000
set_option maxHeartbeats 8000000
theorem JWrote.next {g:Nat} {tb:Option Nat} {W V V':World} {L L2:List Tk} {m m2:Int} {f:Nat} {args:Array Value} (H:JWrote g tb W V L m)
  (hc : ∀tb',JwAt V g tb' L m→Calls Tryz.prog f args V' fun e w'=>e = .returned (.tuple #[])∧JWrote g tb' V w' L2 m2) :
  Calls Tryz.prog f args V' fun e w'=>e = .returned (.tuple #[])∧JWrote g tb W w' L2 m2:=by
 obtain⟨tb',h1,h2,h3⟩:=H
 exact (hc tb' h1).mono fun e w' ⟨he,hw⟩=>⟨he,hw.then h2 h3⟩
theorem JWrote.fr {g:Nat} {tb:Option Nat} {W V:World} {L:List Tk} {m:Int} (H:JWrote g tb W V L m):FrW g tb W V:=by
 obtain⟨_,_,_,h⟩:=H
 exact h
theorem JWrote.size {g:Nat} {tb:Option Nat} {W V:World} {L:List Tk} {m:Int} (H:JWrote g tb W V L m):W.heap.size≤V.heap.size:=H.fr.size
theorem JwAt.keeps {w:World} {g:Nat} {tb:Option Nat} {L:List Tk} {m:Int} (h:JwAt w g tb L m):∀b,b<g→¬(b=g∨tb=some b):=fun b hb e=>by
 rcases e with e | e
 ·omega
 ·have:=(h.tbs b e).1;omega
theorem JWrote.box {g:Nat} {tb:Option Nat} {w W V:World} {L L0:List Tk} {m m0:Int} (H:JWrote g tb W V L m) (h:JwAt w g tb L0 m0) {b:Nat} (hb:w.heap.size≤b) (hlt:b<W.heap.size):V.heap[b]?=W.heap[b]? :=
 H.fr.block b hlt (fun e=>by
  rcases e with e | e
  ·have:=h.lt;omega
  ·have:=(h.tbs b e).2;omega)
theorem StrsW.nilJ (g:Nat) (tb:Option Nat) (w:World):StrsW g tb w (.slice none 0 0) []:=⟨none,0,rfl,by simp,fun h=>absurd rfl h⟩
theorem StrsW.newJ {g:Nat} {tb:Option Nat} {w W:World} {L:List Tk} {m:Int} (h:JwAt w g tb L m) (ts:List (List UInt8)) (hl:ts.length≤1000) (hW:Below (w.heap.size+1) (w.alloc (.cells (ts.map fun t=>Value.string (str8 t)).toArray 9)) W):StrsW g tb W (.slice (some ⟨w.heap.size,0,none⟩) ts.length ts.length) ts:=by
 have hz:(w.alloc (.cells (ts.map fun t=>Value.string (str8 t)).toArray 9)).heap.size=w.heap.size+1:=World.size_alloc _ _
 refine ⟨_,_,rfl,hl,fun _=>⟨w.heap.size,rfl,by have:=h.lt;omega,fun e=>by have:=(h.tbs _ e).2;omega,by have:=hW.size;omega,fun j t ht=>?_⟩⟩
 rw[hW.cell (p:=⟨w.heap.size,j,none⟩) (by show w.heap.size<_;omega),cell_of_row _ _ _ _ _ _ (heap_alloc_new w _)]
 simp[ht]
theorem jcomma_any (g:Nat) (tb:Option Nat) (L:List Tk) (m:Int) (k:Nat) (hk:k≤100000000) (w:World) (h:JwAt w g tb L m) (hL:L.length+1≤1000000000) :
  Calls Tryz.prog 87 #[.pointer (some ⟨g,0,none⟩),.int .i64 k] w fun e w'=>e = .returned (.tuple #[])∧JWrote g tb w w' (L++if k=0 then [] else [fxT [44]]) m:=by
 by_cases h0:k=0
 ·subst h0
  have HH:=hid h.here
  clear h
  rw[if_pos rfl,List.append_nil]
  go_enter Tryz.func87,Tryz.ntmps87
  go_wp2
  exact bodyPost_end (v:=.tuple #[]) (by simp[results,Tryz.results87,go_sem]) rfl ⟨rfl,HH.out⟩
 ·have hk0:((0:Int)<(k:Int)):=by omega
  have HC:=hid (jwords_new g tb L m [[44]] w h (by simp) (by decide) hL)
  clear h
  rw[if_neg h0]
  go_enter Tryz.func87,Tryz.ntmps87
  go_wp2_with fail
  refine HC.out.mono ?_
  rintro e w1 ⟨rfl,h1⟩
  have HQ:=hid h1
  clear h1 HC
  go_wp2
  exact bodyPost_end (v:=.tuple #[]) (by simp[results,Tryz.results87,go_sem]) rfl ⟨rfl,HQ.out⟩
theorem jexprs_any (S:Nat→Prop) (xs:List Ex) (hx1:xs.length≤1) (hr : ∀x∈xs,rightE x=true) (wv:Value) (ts:List (List UInt8)) (g:Nat) (tb:Option Nat) (L:List Tk) (m:Int) (w:World) (v:Value) (h:JwAt w g tb L m) (hS : ∀b,S b→¬(b=g∨tb=some b)) (hx:ArgsAt S w xs v) (hv:StrsW g tb w wv ts) (hne : ∀t∈ts,t≠[])
  (hl:L.length+(partK xs ts).length≤100000000) (hts:ts.length≤1000) (hd:exDs xs≤1000000) (hm0:0≤m) (hm1:m≤9223372036854775807) :
  Calls Tryz.prog 24 #[.pointer (some ⟨g,0,none⟩),wv,v] w fun e w'=>e = .returned (.tuple #[])∧JWrote g tb w w' (L++partK xs ts) (max m (exDs xs:Nat)):=by
 match xs,hx1,hr,hx with
 |
  [],_,_,hx =>
  obtain⟨a',c',rfl,_⟩:=hx.form
  obtain⟨wa,wc,rfl,_,_⟩:=hv
  have e0:max m ((exDs []:Nat):Int)=m:=by show max m ((0:Nat):Int)=m;omega
  rw[e0,show partK [] ts=[] from rfl,List.append_nil]
  have HH:=hid h.here
  clear h e0 hS
  go_enter Tryz.func24,Tryz.ntmps24
  go_wp2
  exact bodyPost_ret (v:=.tuple #[]) (by simp[results,Tryz.results24,go_sem]) rfl ⟨rfl,HH.out⟩
 |
  [x],_,hr,hx =>
  have ep:partK [x] ts=wordsK ts++exK x:=by simp[partK]
  have ed:exDs [x]=exD x:=by show max (exD x) 0=exD x;omega
  rw[ep,List.length_append] at hl
  rw[ed] at hd
  rw[ep,ed,← List.append_assoc]
  have hwl:(wordsK ts).length=ts.length:=by simp[wordsK]
  exact jexprs_of S x (hr x (by simp)) wv (wordsK ts) g tb L m w v h hS hx (by omega) hd (by omega) hm1 (hid (jwords_any g tb L m w h wv ts hv hne (by omega)))
theorem sepK_take {α:Type} (f:α→List Tk) (xs:List α) (k:Nat) (x:α) (hx:xs[k]?=some x):sepK (fxT [44]) ((xs.take (k+1)).map f)=sepK (fxT [44]) ((xs.take k).map f)++((if k=0 then [] else [fxT [44]])++f x):=by
 have hlt:=(List.getElem?_eq_some_iff.1 hx).1
 rw[List.take_add_one,hx,Option.toList_some,List.map_append,List.map_cons,List.map_nil,sepK_snoc]
 by_cases h0:k=0
 ·subst h0
  simp[sepK]
 ·have hne : ¬(xs.take k).map f=[]:=by
   intro e
   have:=congrArg List.length e
   rw[List.length_map,List.length_take,List.length_nil] at this
   omega
  rw[if_neg hne,if_neg h0]
  simp
theorem sepK_mono {α:Type} (f:α→List Tk) (xs:List α) (k:Nat):(sepK (fxT [44]) ((xs.take k).map f)).length≤(sepK (fxT [44]) (xs.map f)).length:=by
 have h : ∀l:List α,(sepK (fxT [44]) (l.map f)).length≤(sepK (fxT [44]) ((l++xs.drop k).map f)).length:=fun l=>by
  cases l with
  | nil=>simp[sepK]
  | cons y l=>simp[sepK,List.flatMap_append]
 have:=h (xs.take k)
 rwa [List.take_append_drop] at this
theorem maxL_take {α:Type} (f:α→Nat) (xs:List α) (k:Nat) (x:α) (hx:xs[k]?=some x):maxL ((xs.take (k+1)).map f)=max (maxL ((xs.take k).map f)) (f x):=by
 rw[List.take_add_one,hx,Option.toList_some,List.map_append,List.map_cons,List.map_nil]
 generalize (xs.take k).map f=l
 induction l with
 | nil=>show max (f x) 0=max 0 (f x);omega
 |
  cons y l ih =>
  show max y (maxL (l++[f x]))=max (max y (maxL l)) (f x)
  rw[ih]
  omega
def colJ (c:Co):List Tk:=colK c++[fxT [44]]
theorem colsJ_sep : ∀cols:List Co,cols≠[]→cols.flatMap colJ=sepK (fxT [44]) (cols.map colK)++[fxT [44]]
 | [c],_=>by simp[colJ,sepK]
 |
  c::d::l,_=>by
  rw[List.flatMap_cons,colsJ_sep (d::l) (by simp)]
  simp[colJ,sepK]
theorem colsJ_le (cols:List Co) (k:Nat) (x:Co) (hx:cols[k]?=some x):((cols.take k).flatMap colJ).length+(colJ x).length≤(cols.flatMap colJ).length:=by
 obtain⟨h1,h2⟩:=List.getElem?_eq_some_iff.1 hx
 have e:cols.flatMap colJ=(cols.take (k+1)).flatMap colJ++(cols.drop (k+1)).flatMap colJ:=by rw[← List.flatMap_append,List.take_append_drop]
 rw[e,List.take_succ_eq_append_getElem h1,h2]
 simp
theorem colK_len (c:Co):(colK c).length≤5:=by
 unfold colK
 cases c.nn<;>cases c.uq<;>simp[wordsK]
theorem jcreate_any (cols:List Co) (tn prim jn:List UInt8) (desc:Bool) (lim:Int) (a1 a2 a3 a4 a5 a6 a7 a8:Option Addr) (n1 n2 n3 n4 n5 n6 n7 n8 c1 c2 c3 c4 c5 c6 c7 c8:Nat) (g:Nat) (tb:Option Nat) (L:List Tk) (m:Int) (w:World) (h:JwAt w g tb L m) (hx:SlAt 4 ColE (fun b=>b<g) w cols (.slice a1 n1 c1)) (hL:L.length+(cols.flatMap colJ).length+11≤1000000000) :
  Calls Tryz.prog 86 #[.pointer (some ⟨g,0,none⟩),.agg #[.int .i64 1,.string (str8 tn),.slice a1 n1 c1,.string (str8 prim),.slice a2 n2 c2,.slice a3 n3 c3,.slice a4 n4 c4,.string (str8 jn),.slice a5 n5 c5,.slice a6 n6 c6,.slice a7 n7 c7,.slice a8 n8 c8,.bool desc,.int .i64 lim]] w fun e w'=>e = .returned (.tuple #[])∧JWrote g tb w w' (L++(fxT [40]::(cols.flatMap colJ++(wordsK [[80,82,73,77,65,82,89],[75,69,89],[40]]++nmT prim::wordsK [[41],[41]])))) m:=by
 obtain⟨W,hW,hbW,hzW,hcW⟩:=box8 w (.cells #[.int .i64 1,.string (str8 tn),.slice a1 n1 c1,.string (str8 prim),.slice a2 n2 c2,.slice a3 n3 c3,.slice a4 n4 c4,.string (str8 jn),.slice a5 n5 c5,.slice a6 n6 c6,.slice a7 n7 c7,.slice a8 n8 c8,.bool desc,.int .i64 lim] 42)
 have kk:=cells14 hcW
 have HC0:=hid hcW
 have HBW:=hid hbW
 have HJ:=hid h
 have HJW:=hid (h.below hbW)
 have HS0:=hid ((h.below hbW).here)
 have HSL:=hid (hx.to (by decide) (R:=fun _=>False) (T:=fun b=>b<g) (Spares.of_new hbW) (fun b hb _=>⟨id,hb⟩) (fun _ _ e=>e))
 have hnl:n1=cols.length∧n1≤9223372036854775807:=by
  obtain⟨_,_,_,hf,hl1,hl2,_⟩:=hx
  simp only[Value.slice.injEq] at hf
  unfold maxLen at hl2
  omega
 obtain⟨rfl,hnm⟩:=hnl
 obtain⟨T,hT⟩:∃T,L++(fxT [40]::(cols.flatMap colJ++(wordsK [[80,82,73,77,65,82,89],[75,69,89],[40]]++nmT prim::wordsK [[41],[41]])))=T:=⟨_,rfl⟩
 rw[hT]
 have HT:=hid hT
 clear hT h hbW hcW hx
 go_enter Tryz.func86,Tryz.ntmps86
 have HX0:=hid (HS0.out.next (fun tb' h'=>jwords_new g tb' _ _ [[40]] W h' (by simp) (by decide) (by simp;omega)))
 go_wp2_with fail
 try rw[hW]
 clear hW kk
 refine HX0.out.mono ?_
 rintro e w1 ⟨rfl,hs1⟩
 have HS1:=hid hs1
 clear hs1 HX0 HS0
 obtain⟨LA,hLA⟩:∃LA,L++wordsK [[40]]=LA:=⟨_,rfl⟩
 rw[hLA] at HS1
 have hLAl:LA.length=L.length+1:=by rw[← hLA];simp[wordsK]
 have HLA:=hid hLA
 clear hLA
 go_wp2_with fail
 go_loopw [4,5] (fun i _ wr=>∃(k:Nat),k≤cols.length∧i = .int .i64 k∧JWrote g tb W wr (LA++(cols.take k).flatMap colJ) m) (fun i _ _=>cols.length-(intOf i).toNat)
 case atStart=>exact⟨0,Nat.zero_le _,rfl,by simpa using HS1.out⟩
 case round =>
  clear HS1
  obtain⟨k,hk,rfl,hq⟩:=hrel
  have kW:=cells14 ((hq.box HJ.out (Nat.le_refl _) hzW).trans HC0.out)
  by_cases hlt:k<cols.length
  ·obtain⟨x,hx⟩:∃x,cols[k]?=some x:=⟨_,List.getElem?_eq_getElem hlt⟩
   have hlt':((k:Int)<(cols.length:Int)):=by omega
   obtain⟨_,_,_,b,off,cs,rfl,_,hel,hcell⟩:=sl_get (HSL.out.to (T:=fun b=>b<g) (by decide) hq.fr (fun b hb _=>⟨HJW.out.keeps b hb,hb⟩) (fun _ _ e=>e)) hx
   obtain rfl:=hel
   have q0:=hcell 0 _ rfl
   have q1:=hcell 1 _ rfl
   have q2:=hcell 2 _ rfl
   have q3:=hcell 3 _ rfl
   simp only[Nat.add_zero] at q0
   have hle:=colsJ_le cols k x hx
   have hck:=colK_len x
   have hcj:(colJ x).length=(colK x).length+1:=by simp[colJ]
   have HCK:Hid (LA++(cols.take (k+1)).flatMap colJ=LA++(cols.take k).flatMap colJ++colJ x):=hid (by
    obtain⟨h1,h2⟩:=List.getElem?_eq_some_iff.1 hx
    rw[List.take_succ_eq_append_getElem h1,h2]
    simp)
   have hLLl:(LA++(cols.take k).flatMap colJ).length+7≤1000000000:=by rw[List.length_append];omega
   obtain⟨tb1,hj1,ht1,hf1⟩:=hq
   have HT1:=hid ht1
   have HF1:=hid hf1
   have HJ1:=hid hj1
   obtain⟨U,hU,hbU,hzU,hcU⟩:=box8 wr (.cells #[.string (str8 x.nm),.int .i64 x.k,.bool x.nn,.bool x.uq] 100)
   have kk:=cells4J hcU
   have HCU:=hid hcU
   have HBU:=hid hbU
   have hs0:=(hj1.below hbU).here
   have HUE:=hid hU
   generalize LA++(cols.take k).flatMap colJ=LL at hs0 hLLl HCK HJ1
   have HS0:=hid hs0
   clear hj1 ht1 hf1 hbU hcU hcell hx hle hck hcj hs0 hU
   go_wp2_with (first | (refine wpList_store_row rfl 100 (.tmp 5) (.tmp 20) rfl wr.heap.size #[.string (str8 x.nm),.int .i64 x.k,.bool x.nn,.bool x.uq] rfl rfl 100 #[.string ⟨#[]⟩,.int .i64 0,.bool false,.bool false] (heap_alloc_new wr _) Tryz.sizeCo rfl rfl ?_;rw[alloc_setRow]) | fail)
   try rw[HUE.out]
   clear HUE
   by_cases hk1:x.k=1
   ·have n1:(x.k==1)=true:=by rw[hk1];rfl
    have HK1:Hid ((if x.k=1 then ([73,78,84]:List UInt8) else [84,69,88,84])=[73,78,84]):=hid (by rw[if_pos hk1])
    clear hk1
    cases hnn:x.nn with
    |
     true =>
     rw[hnn] at kk HCU
     cases huq:x.uq with
     |
      true =>
      rw[huq] at kk HCU
      have HX0:=hid (HS0.out.next (fun tb' h'=>jwname_any g tb' _ _ x.nm U h' (by simp[wordsK];omega)))
      go_wp2_with fail
      refine HX0.out.mono ?_
      rintro e w1 ⟨rfl,hs1⟩
      have HS1:=hid hs1
      have kk:=cells4J ((HS1.out.box HJ1.out (Nat.le_refl _) hzU).trans HCU.out)
      clear hs1 HX0
      have HX1:=hid (HS1.out.next (fun tb' h'=>jwords_new g tb' _ _ [[73,78,84]] w1 h' (by simp) (by decide) (by simp[wordsK];omega)))
      go_wp2_with fail
      refine HX1.out.mono ?_
      rintro e w2 ⟨rfl,hs2⟩
      have HS2:=hid hs2
      have kk:=cells4J ((HS2.out.box HJ1.out (Nat.le_refl _) hzU).trans HCU.out)
      clear hs2 HX1
      have HX2:=hid (HS2.out.next (fun tb' h'=>jwords_new g tb' _ _ [[78,79,84],[78,85,76,76]] w2 h' (by simp) (by decide) (by simp[wordsK];omega)))
      go_wp2_with fail
      refine HX2.out.mono ?_
      rintro e w3 ⟨rfl,hs3⟩
      have HS3:=hid hs3
      have kk:=cells4J ((HS3.out.box HJ1.out (Nat.le_refl _) hzU).trans HCU.out)
      clear hs3 HX2
      have HX3:=hid (HS3.out.next (fun tb' h'=>jwords_new g tb' _ _ [[85,78,73,81,85,69]] w3 h' (by simp) (by decide) (by simp[wordsK];omega)))
      go_wp2_with fail
      refine HX3.out.mono ?_
      rintro e w4 ⟨rfl,hs4⟩
      have HS4:=hid hs4
      have kk:=cells4J ((HS4.out.box HJ1.out (Nat.le_refl _) hzU).trans HCU.out)
      clear hs4 HX3
      have HX4:=hid (HS4.out.next (fun tb' h'=>jwords_new g tb' _ _ [[44]] w4 h' (by simp) (by decide) (by simp[wordsK];omega)))
      go_wp2_with fail
      refine HX4.out.mono ?_
      rintro e w5 ⟨rfl,hs5⟩
      have HS5:=hid hs5
      have kk:=cells4J ((HS5.out.box HJ1.out (Nat.le_refl _) hzU).trans HCU.out)
      clear hs5 HX4
      have HQ:Hid (JWrote g tb W w5 (LA++(cols.take (k+1)).flatMap colJ) m):=hid (by
       have h9:=JWrote.then HT1.out HF1.out (JWrote.new HBU.out HS5.out)
       rw[HCK.out]
       simpa [wordsK,colJ,colK,HK1.out,hnn,huq] using h9)
      clear HS5
      go_wp2
      go_roundw
      case rel=>exact⟨k+1,by omega,by go_num,HQ.out⟩
      case measure=>simp[intOf];omega
     |
      false =>
      rw[huq] at kk HCU
      have HX0:=hid (HS0.out.next (fun tb' h'=>jwname_any g tb' _ _ x.nm U h' (by simp[wordsK];omega)))
      go_wp2_with fail
      refine HX0.out.mono ?_
      rintro e w1 ⟨rfl,hs1⟩
      have HS1:=hid hs1
      have kk:=cells4J ((HS1.out.box HJ1.out (Nat.le_refl _) hzU).trans HCU.out)
      clear hs1 HX0
      have HX1:=hid (HS1.out.next (fun tb' h'=>jwords_new g tb' _ _ [[73,78,84]] w1 h' (by simp) (by decide) (by simp[wordsK];omega)))
      go_wp2_with fail
      refine HX1.out.mono ?_
      rintro e w2 ⟨rfl,hs2⟩
      have HS2:=hid hs2
      have kk:=cells4J ((HS2.out.box HJ1.out (Nat.le_refl _) hzU).trans HCU.out)
      clear hs2 HX1
      have HX2:=hid (HS2.out.next (fun tb' h'=>jwords_new g tb' _ _ [[78,79,84],[78,85,76,76]] w2 h' (by simp) (by decide) (by simp[wordsK];omega)))
      go_wp2_with fail
      refine HX2.out.mono ?_
      rintro e w3 ⟨rfl,hs3⟩
      have HS3:=hid hs3
      have kk:=cells4J ((HS3.out.box HJ1.out (Nat.le_refl _) hzU).trans HCU.out)
      clear hs3 HX2
      have HX3:=hid (HS3.out.next (fun tb' h'=>jwords_new g tb' _ _ [[44]] w3 h' (by simp) (by decide) (by simp[wordsK];omega)))
      go_wp2_with fail
      refine HX3.out.mono ?_
      rintro e w4 ⟨rfl,hs4⟩
      have HS4:=hid hs4
      have kk:=cells4J ((HS4.out.box HJ1.out (Nat.le_refl _) hzU).trans HCU.out)
      clear hs4 HX3
      have HQ:Hid (JWrote g tb W w4 (LA++(cols.take (k+1)).flatMap colJ) m):=hid (by
       have h9:=JWrote.then HT1.out HF1.out (JWrote.new HBU.out HS4.out)
       rw[HCK.out]
       simpa [wordsK,colJ,colK,HK1.out,hnn,huq] using h9)
      clear HS4
      go_wp2
      go_roundw
      case rel=>exact⟨k+1,by omega,by go_num,HQ.out⟩
      case measure=>simp[intOf];omega
    |
     false =>
     rw[hnn] at kk HCU
     cases huq:x.uq with
     |
      true =>
      rw[huq] at kk HCU
      have HX0:=hid (HS0.out.next (fun tb' h'=>jwname_any g tb' _ _ x.nm U h' (by simp[wordsK];omega)))
      go_wp2_with fail
      refine HX0.out.mono ?_
      rintro e w1 ⟨rfl,hs1⟩
      have HS1:=hid hs1
      have kk:=cells4J ((HS1.out.box HJ1.out (Nat.le_refl _) hzU).trans HCU.out)
      clear hs1 HX0
      have HX1:=hid (HS1.out.next (fun tb' h'=>jwords_new g tb' _ _ [[73,78,84]] w1 h' (by simp) (by decide) (by simp[wordsK];omega)))
      go_wp2_with fail
      refine HX1.out.mono ?_
      rintro e w2 ⟨rfl,hs2⟩
      have HS2:=hid hs2
      have kk:=cells4J ((HS2.out.box HJ1.out (Nat.le_refl _) hzU).trans HCU.out)
      clear hs2 HX1
      have HX2:=hid (HS2.out.next (fun tb' h'=>jwords_new g tb' _ _ [[85,78,73,81,85,69]] w2 h' (by simp) (by decide) (by simp[wordsK];omega)))
      go_wp2_with fail
      refine HX2.out.mono ?_
      rintro e w3 ⟨rfl,hs3⟩
      have HS3:=hid hs3
      have kk:=cells4J ((HS3.out.box HJ1.out (Nat.le_refl _) hzU).trans HCU.out)
      clear hs3 HX2
      have HX3:=hid (HS3.out.next (fun tb' h'=>jwords_new g tb' _ _ [[44]] w3 h' (by simp) (by decide) (by simp[wordsK];omega)))
      go_wp2_with fail
      refine HX3.out.mono ?_
      rintro e w4 ⟨rfl,hs4⟩
      have HS4:=hid hs4
      have kk:=cells4J ((HS4.out.box HJ1.out (Nat.le_refl _) hzU).trans HCU.out)
      clear hs4 HX3
      have HQ:Hid (JWrote g tb W w4 (LA++(cols.take (k+1)).flatMap colJ) m):=hid (by
       have h9:=JWrote.then HT1.out HF1.out (JWrote.new HBU.out HS4.out)
       rw[HCK.out]
       simpa [wordsK,colJ,colK,HK1.out,hnn,huq] using h9)
      clear HS4
      go_wp2
      go_roundw
      case rel=>exact⟨k+1,by omega,by go_num,HQ.out⟩
      case measure=>simp[intOf];omega
     |
      false =>
      rw[huq] at kk HCU
      have HX0:=hid (HS0.out.next (fun tb' h'=>jwname_any g tb' _ _ x.nm U h' (by simp[wordsK];omega)))
      go_wp2_with fail
      refine HX0.out.mono ?_
      rintro e w1 ⟨rfl,hs1⟩
      have HS1:=hid hs1
      have kk:=cells4J ((HS1.out.box HJ1.out (Nat.le_refl _) hzU).trans HCU.out)
      clear hs1 HX0
      have HX1:=hid (HS1.out.next (fun tb' h'=>jwords_new g tb' _ _ [[73,78,84]] w1 h' (by simp) (by decide) (by simp[wordsK];omega)))
      go_wp2_with fail
      refine HX1.out.mono ?_
      rintro e w2 ⟨rfl,hs2⟩
      have HS2:=hid hs2
      have kk:=cells4J ((HS2.out.box HJ1.out (Nat.le_refl _) hzU).trans HCU.out)
      clear hs2 HX1
      have HX2:=hid (HS2.out.next (fun tb' h'=>jwords_new g tb' _ _ [[44]] w2 h' (by simp) (by decide) (by simp[wordsK];omega)))
      go_wp2_with fail
      refine HX2.out.mono ?_
      rintro e w3 ⟨rfl,hs3⟩
      have HS3:=hid hs3
      have kk:=cells4J ((HS3.out.box HJ1.out (Nat.le_refl _) hzU).trans HCU.out)
      clear hs3 HX2
      have HQ:Hid (JWrote g tb W w3 (LA++(cols.take (k+1)).flatMap colJ) m):=hid (by
       have h9:=JWrote.then HT1.out HF1.out (JWrote.new HBU.out HS3.out)
       rw[HCK.out]
       simpa [wordsK,colJ,colK,HK1.out,hnn,huq] using h9)
      clear HS3
      go_wp2
      go_roundw
      case rel=>exact⟨k+1,by omega,by go_num,HQ.out⟩
      case measure=>simp[intOf];omega
   ·have n1:(x.k==1)=false:=by rw[beq_eq_false_iff_ne];exact hk1
    have HK1:Hid ((if x.k=1 then ([73,78,84]:List UInt8) else [84,69,88,84])=[84,69,88,84]):=hid (by rw[if_neg hk1])
    clear hk1
    cases hnn:x.nn with
    |
     true =>
     rw[hnn] at kk HCU
     cases huq:x.uq with
     |
      true =>
      rw[huq] at kk HCU
      have HX0:=hid (HS0.out.next (fun tb' h'=>jwname_any g tb' _ _ x.nm U h' (by simp[wordsK];omega)))
      go_wp2_with fail
      refine HX0.out.mono ?_
      rintro e w1 ⟨rfl,hs1⟩
      have HS1:=hid hs1
      have kk:=cells4J ((HS1.out.box HJ1.out (Nat.le_refl _) hzU).trans HCU.out)
      clear hs1 HX0
      have HX1:=hid (HS1.out.next (fun tb' h'=>jwords_new g tb' _ _ [[84,69,88,84]] w1 h' (by simp) (by decide) (by simp[wordsK];omega)))
      go_wp2_with fail
      refine HX1.out.mono ?_
      rintro e w2 ⟨rfl,hs2⟩
      have HS2:=hid hs2
      have kk:=cells4J ((HS2.out.box HJ1.out (Nat.le_refl _) hzU).trans HCU.out)
      clear hs2 HX1
      have HX2:=hid (HS2.out.next (fun tb' h'=>jwords_new g tb' _ _ [[78,79,84],[78,85,76,76]] w2 h' (by simp) (by decide) (by simp[wordsK];omega)))
      go_wp2_with fail
      refine HX2.out.mono ?_
      rintro e w3 ⟨rfl,hs3⟩
      have HS3:=hid hs3
      have kk:=cells4J ((HS3.out.box HJ1.out (Nat.le_refl _) hzU).trans HCU.out)
      clear hs3 HX2
      have HX3:=hid (HS3.out.next (fun tb' h'=>jwords_new g tb' _ _ [[85,78,73,81,85,69]] w3 h' (by simp) (by decide) (by simp[wordsK];omega)))
      go_wp2_with fail
      refine HX3.out.mono ?_
      rintro e w4 ⟨rfl,hs4⟩
      have HS4:=hid hs4
      have kk:=cells4J ((HS4.out.box HJ1.out (Nat.le_refl _) hzU).trans HCU.out)
      clear hs4 HX3
      have HX4:=hid (HS4.out.next (fun tb' h'=>jwords_new g tb' _ _ [[44]] w4 h' (by simp) (by decide) (by simp[wordsK];omega)))
      go_wp2_with fail
      refine HX4.out.mono ?_
      rintro e w5 ⟨rfl,hs5⟩
      have HS5:=hid hs5
      have kk:=cells4J ((HS5.out.box HJ1.out (Nat.le_refl _) hzU).trans HCU.out)
      clear hs5 HX4
      have HQ:Hid (JWrote g tb W w5 (LA++(cols.take (k+1)).flatMap colJ) m):=hid (by
       have h9:=JWrote.then HT1.out HF1.out (JWrote.new HBU.out HS5.out)
       rw[HCK.out]
       simpa [wordsK,colJ,colK,HK1.out,hnn,huq] using h9)
      clear HS5
      go_wp2
      go_roundw
      case rel=>exact⟨k+1,by omega,by go_num,HQ.out⟩
      case measure=>simp[intOf];omega
     |
      false =>
      rw[huq] at kk HCU
      have HX0:=hid (HS0.out.next (fun tb' h'=>jwname_any g tb' _ _ x.nm U h' (by simp[wordsK];omega)))
      go_wp2_with fail
      refine HX0.out.mono ?_
      rintro e w1 ⟨rfl,hs1⟩
      have HS1:=hid hs1
      have kk:=cells4J ((HS1.out.box HJ1.out (Nat.le_refl _) hzU).trans HCU.out)
      clear hs1 HX0
      have HX1:=hid (HS1.out.next (fun tb' h'=>jwords_new g tb' _ _ [[84,69,88,84]] w1 h' (by simp) (by decide) (by simp[wordsK];omega)))
      go_wp2_with fail
      refine HX1.out.mono ?_
      rintro e w2 ⟨rfl,hs2⟩
      have HS2:=hid hs2
      have kk:=cells4J ((HS2.out.box HJ1.out (Nat.le_refl _) hzU).trans HCU.out)
      clear hs2 HX1
      have HX2:=hid (HS2.out.next (fun tb' h'=>jwords_new g tb' _ _ [[78,79,84],[78,85,76,76]] w2 h' (by simp) (by decide) (by simp[wordsK];omega)))
      go_wp2_with fail
      refine HX2.out.mono ?_
      rintro e w3 ⟨rfl,hs3⟩
      have HS3:=hid hs3
      have kk:=cells4J ((HS3.out.box HJ1.out (Nat.le_refl _) hzU).trans HCU.out)
      clear hs3 HX2
      have HX3:=hid (HS3.out.next (fun tb' h'=>jwords_new g tb' _ _ [[44]] w3 h' (by simp) (by decide) (by simp[wordsK];omega)))
      go_wp2_with fail
      refine HX3.out.mono ?_
      rintro e w4 ⟨rfl,hs4⟩
      have HS4:=hid hs4
      have kk:=cells4J ((HS4.out.box HJ1.out (Nat.le_refl _) hzU).trans HCU.out)
      clear hs4 HX3
      have HQ:Hid (JWrote g tb W w4 (LA++(cols.take (k+1)).flatMap colJ) m):=hid (by
       have h9:=JWrote.then HT1.out HF1.out (JWrote.new HBU.out HS4.out)
       rw[HCK.out]
       simpa [wordsK,colJ,colK,HK1.out,hnn,huq] using h9)
      clear HS4
      go_wp2
      go_roundw
      case rel=>exact⟨k+1,by omega,by go_num,HQ.out⟩
      case measure=>simp[intOf];omega
    |
     false =>
     rw[hnn] at kk HCU
     cases huq:x.uq with
     |
      true =>
      rw[huq] at kk HCU
      have HX0:=hid (HS0.out.next (fun tb' h'=>jwname_any g tb' _ _ x.nm U h' (by simp[wordsK];omega)))
      go_wp2_with fail
      refine HX0.out.mono ?_
      rintro e w1 ⟨rfl,hs1⟩
      have HS1:=hid hs1
      have kk:=cells4J ((HS1.out.box HJ1.out (Nat.le_refl _) hzU).trans HCU.out)
      clear hs1 HX0
      have HX1:=hid (HS1.out.next (fun tb' h'=>jwords_new g tb' _ _ [[84,69,88,84]] w1 h' (by simp) (by decide) (by simp[wordsK];omega)))
      go_wp2_with fail
      refine HX1.out.mono ?_
      rintro e w2 ⟨rfl,hs2⟩
      have HS2:=hid hs2
      have kk:=cells4J ((HS2.out.box HJ1.out (Nat.le_refl _) hzU).trans HCU.out)
      clear hs2 HX1
      have HX2:=hid (HS2.out.next (fun tb' h'=>jwords_new g tb' _ _ [[85,78,73,81,85,69]] w2 h' (by simp) (by decide) (by simp[wordsK];omega)))
      go_wp2_with fail
      refine HX2.out.mono ?_
      rintro e w3 ⟨rfl,hs3⟩
      have HS3:=hid hs3
      have kk:=cells4J ((HS3.out.box HJ1.out (Nat.le_refl _) hzU).trans HCU.out)
      clear hs3 HX2
      have HX3:=hid (HS3.out.next (fun tb' h'=>jwords_new g tb' _ _ [[44]] w3 h' (by simp) (by decide) (by simp[wordsK];omega)))
      go_wp2_with fail
      refine HX3.out.mono ?_
      rintro e w4 ⟨rfl,hs4⟩
      have HS4:=hid hs4
      have kk:=cells4J ((HS4.out.box HJ1.out (Nat.le_refl _) hzU).trans HCU.out)
      clear hs4 HX3
      have HQ:Hid (JWrote g tb W w4 (LA++(cols.take (k+1)).flatMap colJ) m):=hid (by
       have h9:=JWrote.then HT1.out HF1.out (JWrote.new HBU.out HS4.out)
       rw[HCK.out]
       simpa [wordsK,colJ,colK,HK1.out,hnn,huq] using h9)
      clear HS4
      go_wp2
      go_roundw
      case rel=>exact⟨k+1,by omega,by go_num,HQ.out⟩
      case measure=>simp[intOf];omega
     |
      false =>
      rw[huq] at kk HCU
      have HX0:=hid (HS0.out.next (fun tb' h'=>jwname_any g tb' _ _ x.nm U h' (by simp[wordsK];omega)))
      go_wp2_with fail
      refine HX0.out.mono ?_
      rintro e w1 ⟨rfl,hs1⟩
      have HS1:=hid hs1
      have kk:=cells4J ((HS1.out.box HJ1.out (Nat.le_refl _) hzU).trans HCU.out)
      clear hs1 HX0
      have HX1:=hid (HS1.out.next (fun tb' h'=>jwords_new g tb' _ _ [[84,69,88,84]] w1 h' (by simp) (by decide) (by simp[wordsK];omega)))
      go_wp2_with fail
      refine HX1.out.mono ?_
      rintro e w2 ⟨rfl,hs2⟩
      have HS2:=hid hs2
      have kk:=cells4J ((HS2.out.box HJ1.out (Nat.le_refl _) hzU).trans HCU.out)
      clear hs2 HX1
      have HX2:=hid (HS2.out.next (fun tb' h'=>jwords_new g tb' _ _ [[44]] w2 h' (by simp) (by decide) (by simp[wordsK];omega)))
      go_wp2_with fail
      refine HX2.out.mono ?_
      rintro e w3 ⟨rfl,hs3⟩
      have HS3:=hid hs3
      have kk:=cells4J ((HS3.out.box HJ1.out (Nat.le_refl _) hzU).trans HCU.out)
      clear hs3 HX2
      have HQ:Hid (JWrote g tb W w3 (LA++(cols.take (k+1)).flatMap colJ) m):=hid (by
       have h9:=JWrote.then HT1.out HF1.out (JWrote.new HBU.out HS3.out)
       rw[HCK.out]
       simpa [wordsK,colJ,colK,HK1.out,hnn,huq] using h9)
      clear HS3
      go_wp2
      go_roundw
      case rel=>exact⟨k+1,by omega,by go_num,HQ.out⟩
      case measure=>simp[intOf];omega
  ·have hlt' : ¬((k:Int)<(cols.length:Int)):=by omega
   have HS1:Hid (JWrote g tb W wr (LA++cols.flatMap colJ) m):=hid (by rw[List.take_of_length_le (by omega)] at hq;exact hq)
   clear hq
   have hLF:(LA++cols.flatMap colJ).length+6≤1000000000:=by rw[List.length_append];omega
   generalize cols.flatMap colJ=FL at *
   have hLF2:LA.length+FL.length+6≤1000000000:=by rw[← List.length_append];exact hLF
   have HX1:=hid (HS1.out.next (fun tb' h'=>jwords_new g tb' _ _ [[80,82,73,77,65,82,89],[75,69,89],[40]] wr h' (by simp) (by decide) (by simp[wordsK];omega)))
   go_wp2_with fail
   refine HX1.out.mono ?_
   rintro e w2 ⟨rfl,hs2⟩
   have HS2:=hid hs2
   have kk:=cells14 ((HS2.out.box HJ.out (Nat.le_refl _) hzW).trans HC0.out)
   clear hs2 HX1
   have HX2:=hid (HS2.out.next (fun tb' h'=>jwname_any g tb' _ _ prim w2 h' (by simp[wordsK];omega)))
   go_wp2_with fail
   refine HX2.out.mono ?_
   rintro e w3 ⟨rfl,hs3⟩
   have HS3:=hid hs3
   have kk:=cells14 ((HS3.out.box HJ.out (Nat.le_refl _) hzW).trans HC0.out)
   clear hs3 HX2
   have HX3:=hid (HS3.out.next (fun tb' h'=>jwords_new g tb' _ _ [[41],[41]] w3 h' (by simp) (by decide) (by simp[wordsK];omega)))
   go_wp2_with fail
   refine HX3.out.mono ?_
   rintro e w4 ⟨rfl,hs4⟩
   have HS4:=hid hs4
   have kk:=cells14 ((HS4.out.box HJ.out (Nat.le_refl _) hzW).trans HC0.out)
   clear hs4 HX3
   have HQ:Hid (JWrote g tb w w4 T m):=hid (by
    have h9:=JWrote.new HBW.out HS4.out
    rw[← HT.out,← List.cons_append]
    rw[← HLA.out] at h9
    simpa [wordsK] using h9)
   clear HS4
   go_wp2
   exact bodyPost_end (v:=.tuple #[]) (by simp[results,Tryz.results86,go_sem]) rfl ⟨rfl,HQ.out⟩
end Go.Proofs.YtnidnipiihhnaaaGreatDoor
