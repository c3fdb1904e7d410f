import Derived.Test.YtfeglkleoijlaaaGreatDoorY04
namespace Go.Proofs.YtfeglkleoijlaaaGreatDoor
open Go.RowKit Go.Shelf
set_option linter.unusedSimpArgs false
set_option linter.unusedVariables false
set_option maxRecDepth 20000
set_option maxHeartbeats 8000000
def Ak (w:World):Prop:=∀o:Nat,o≤13→w.cell? ⟨0,o*2,none⟩=some (.string (aj (vW o)))∧w.cell? ⟨0,o*2+1,none⟩=some (.int .i64 (eu o))
structure iL (w:World):Prop where
 tv:zm w
 ops:Ak w
 lt:10<w.heap.size
theorem iL.below {w w':World} {B:Nat} (h:iL w) (hb:Below B w w') (hB:10<B):iL w' :=
 ⟨h.tv.below hb (by omega),fun o ho=>⟨(hb.cell (p:=⟨0,o*2,none⟩) (by show 0<B;omega)).trans (h.ops o ho).1,(hb.cell (p:=⟨0,o*2+1,none⟩) (by show 0<B;omega)).trans (h.ops o ho).2⟩,aa7 h.lt hb.size⟩
theorem iL.on {w w':World} (h:iL w) (hb:Below w.heap.size w w'):iL w':=h.below hb h.lt
structure bO (w:World) (g:Nat) (tb:Option Nat) (L:List Tk) (d m:Int):Prop where
 lie : ∃v,w.heap[g]?=some (.cells #[v,.int .i64 d,.int .i64 m] 100)∧w.ownsRow (g+1) 180 4 v L.length (tcs L)∧v.ownBlock=tb
 tab:iL w
 big:10<g
theorem bO.lt {w:World} {g:Nat} {tb:Option Nat} {L:List Tk} {d m:Int} (h:bO w g tb L d m):g<w.heap.size:=by
 obtain⟨v,hv,_⟩:=h.lie
 exact World.lt_of_block hv
theorem bO.O1 {w:World} {g:Nat} {tb:Option Nat} {L:List Tk} {d m:Int} (h:bO w g tb L d m):∀k,tb=some k→g<k∧k<w.heap.size:=by
 obtain⟨v,_,ho,rfl⟩:=h.lie
 exact fun k hk=>⟨(ho.lt k hk).1,(ho.lt k hk).2⟩
abbrev eP (g:Nat) (tb:Option Nat) (w w':World):Prop:=ak (fun k=>k=g∨tb=some k) w w'
def Wrote (g:Nat) (tb:Option Nat) (w w':World) (L:List Tk) (d m:Int):Prop :=
 ∃tb',bO w' g tb' L d m∧(∀k,tb'=some k→tb=some k∨w.heap.size≤k)∧eP g tb w w'
theorem bO.here {w:World} {g:Nat} {tb:Option Nat} {L:List Tk} {d m:Int} (h:bO w g tb L d m):Wrote g tb w w L d m:=⟨tb,h,fun k hk=>.inl hk,ak.refl _ _⟩
theorem Wrote.then {g:Nat} {tb dN:Option Nat} {w w1 w2:World} {L:List Tk} {d m:Int} (h1 : ∀k,dN=some k→tb=some k∨w.heap.size≤k) (hf:eP g tb w w1) (h2:Wrote g dN w1 w2 L d m):Wrote g tb w w2 L d m:=by
 obtain⟨bX,h3,h4,h5⟩:=h2
 refine ⟨bX,h3,fun k hk=>?_,hf.andThen h5 fun i hi=>?_⟩
 ·rcases h4 k hk with e | e
  ·exact h1 k e
  ·exact .inr (Nat.le_trans hf.size e)
 ·rcases hi with rfl | e
  ·exact .inl (.inl rfl)
  ·rcases h1 i e with e | e
   ·exact .inl (.inr e)
   ·exact .inr e
theorem bO.below {w w':World} {g:Nat} {tb:Option Nat} {L:List Tk} {d m:Int} (h:bO w g tb L d m) (hb:Below w.heap.size w w'):bO w' g tb L d m:=by
 have hlt:=h.lt
 obtain⟨v,hv,ho,e⟩:=h.lie
 exact⟨⟨v,by rw[hb.block g hlt];exact hv,Dp ho hb,e⟩,h.tab.on hb,h.big⟩
theorem Wrote.new {g:Nat} {tb:Option Nat} {w w1 w2:World} {L:List Tk} {d m:Int} (hb:Below w.heap.size w w1) (h2:Wrote g tb w1 w2 L d m):Wrote g tb w w2 L d m :=
 Wrote.then (fun k hk=>.inl hk) (ak.aA hb) h2
structure fP (g:Nat) (tb:Option Nat) (w:World) (q:Nat) (o:Obj):Prop where
 at':w.heap[q]?=some o
 ng:q≠g
 nt:tb≠some q
theorem fP.on {g:Nat} {tb dN:Option Nat} {w w1:World} {q:Nat} {o:Obj} (h:fP g tb w q o) (h1 : ∀k,dN=some k→tb=some k∨w.heap.size≤k) (hf:eP g tb w w1):fP g dN w1 q o:=by
 have hq:=World.lt_of_block h.at'
 refine ⟨(hf.block q hq (fun e=>by rcases e with e | e;exact h.ng e;exact h.nt e)).trans h.at',h.ng,fun e=>?_⟩
 rcases h1 q e with e | e
 ·exact h.nt e
 ·omega
theorem fP.below {g:Nat} {tb:Option Nat} {w w1:World} {q:Nat} {o:Obj} (h:fP g tb w q o) (hb:Below w.heap.size w w1):fP g tb w1 q o :=
 ⟨(hb.block q (World.lt_of_block h.at')).trans h.at',h.ng,h.nt⟩
theorem fP.mk' {w W:World} {g:Nat} {tb:Option Nat} {L:List Tk} {d m:Int} (h:bO w g tb L d m) {q:Nat} {o:Obj} (hW:W.heap[q]?=some o) (hq:w.heap.size≤q):fP g tb W q o :=
 ⟨hW,by have:=h.lt;omega,fun e=>by have:=(h.O1 q e).2;omega⟩
theorem eP.keeps {w w':World} {g:Nat} {tb:Option Nat} {L:List Tk} {d m:Int} (h:bO w g tb L d m) (hf:eP g tb w w'):∀b,b<g→b<w.heap.size→¬(b=g∨tb=some b)∧b<g:=fun b hb _ =>
 ⟨fun e=>by rcases e with e | e;omega;have:=(h.O1 b e).1;omega,hb⟩
theorem bO.Bc {w w':World} {g:Nat} {tb:Option Nat} {L:List Tk} {d m:Int} (h:bO w g tb L d m) (hf:eP g tb w w'):Below g w w' :=
 hf.below (fun i hi=>by rcases hi with rfl | e;exact aaF _;have:=(h.O1 i e).1;omega) (Nat.le_of_lt h.lt)
theorem gH.zC {w w':World} {g:Nat} {tb:Option Nat} {L:List Tk} {d m:Int} {x:Ex} {v:Value} (h:bO w g tb L d m) (hf:eP g tb w w') (hx:gH (fun b=>b<g) w x v):gH (fun b=>b<g) w' x v:=hx.to hf (eP.keeps h hf)
theorem bA.zC {w w':World} {g:Nat} {tb:Option Nat} {L:List Tk} {d m:Int} {x:List Ex} {v:Value} (h:bO w g tb L d m) (hf:eP g tb w w') (hx:bA (fun b=>b<g) w x v):bA (fun b=>b<g) w' x v:=hx.to hf (eP.keeps h hf)
theorem gH.new {S:Nat→Prop} {w w':World} {x:Ex} {v:Value} (hx:gH S w x v) (hb:Below w.heap.size w w'):gH S w' x v:=hx.to (R:=fun _=>False) (ak.aA hb) (fun b h _=>⟨id,h⟩)
theorem bA.new {S:Nat→Prop} {w w':World} {x:List Ex} {v:Value} (hx:bA S w x v) (hb:Below w.heap.size w w'):bA S w' x v:=hx.to (R:=fun _=>False) (ak.aA hb) (fun b h _=>⟨id,h⟩)
theorem iZ {w:World} {g:Nat} {a b c:Value} {t:TypeId} (h:w.heap[g]?=some (.cells #[a,b,c] t)) :
  w.cell? ⟨g,0,none⟩=some a∧w.cell? ⟨g,1,none⟩=some b∧w.cell? ⟨g,2,none⟩=some c∧∀i,w.frozen? ⟨g,i,none⟩=false :=
 ⟨by rw[aB _ _ _ _ _ _ h];rfl,by rw[aB _ _ _ _ _ _ h];rfl,by rw[aB _ _ _ _ _ _ h];rfl,fun i=>by simp[World.frozen?,h]⟩
theorem Po {w W:World} {g:Nat} {tb:Option Nat} {L L':List Tk} {d m:Int} {v v':Value} (hw:bO w g tb L d m) (hv:W.heap[g]?=some (.cells #[v,.int .i64 d,.int .i64 m] 100)) (ho:W.ownsRow (g+1) 180 4 v' L'.length (tcs L')) (hf:eP g tb w W) (ht:v'.ownBlock=tb∨∃k,v'.ownBlock=some k∧w.heap.size≤k) :
  Wrote g tb w (W.setCell ⟨g,0,none⟩ v') L' d m:=by
 have hf2:eP g tb w (W.setCell ⟨g,0,none⟩ v'):=ak.setCell hf (.inl (.inl rfl)) v'
 refine ⟨v'.ownBlock,⟨⟨v',?_,ownsRow_setCell_below ho (Nat.lt_succ_self g) v',rfl⟩,hw.tab.below (hw.Bc hf2) hw.big,hw.big⟩,fun k hk=>?_,hf2⟩
 ·rw[setCell_eq_setRow W g 0 _ _ _ v' hv,setRow_heap W g _ _ _ _ hv]
  rfl
 ·rcases ht with e | ⟨j,e,hj⟩
  ·exact .inl (e ▸ hk)
  ·obtain rfl:=Option.some.inj (e.symm.trans hk)
   exact .inr hj
theorem NJ (L:List Tk) (t:Tk):tcs (L++[t])=tcs L++[.int .i64 t.k,.string (aj t.s),.int .i64 t.n,.int .i64 t.p]:=by simp[tcs,tc]
theorem Ra (g:Nat) (tb:Option Nat) (L:List Tk) (d m:Int) (w:World) (h:bO w g tb L d m) (t:Tk) (hL:L.length+1≤1000000000) (b:Nat) (ty:TypeId) (hb:w.heap[b]?=some (.cells #[.int .i64 t.k,.string (aj t.s),.int .i64 t.n,.int .i64 t.p] ty)) :
  Calls Tryz.prog 144 #[.pointer (some ⟨g,0,none⟩),.slice (some ⟨b,0,none⟩) 1 1] w fun e w'=>e = .returned (.tuple #[])∧Wrote g tb w w' (L++[t]) d m:=by
 obtain⟨i0,hi,hz0,hz1,hz2⟩:=info_parts Tryz.QN
 have hlt:=h.lt
 obtain⟨v,hv,ho,K3⟩:=h.lie
 have k:=iZ hv
 have HH:=hid h
 have HV:=hid hv
 have hnew : ∀(j:Nat) (u:Value),[Value.int .i64 t.k,.string (aj t.s),.int .i64 t.n,.int .i64 t.p][j]?=some u→w.cell? ((⟨b,0,none⟩:Addr).add j)=some u:=by
  intro j u hj
  rw[Addr.add_lit,Nat.zero_add,cell_of_row _ _ _ _ _ _ hb]
  simpa using hj
 have hone : ∀u∈[Value.int .i64 t.k,.string (aj t.s),.int .i64 t.n,.int .i64 t.p],u.oneCell'=true:=by intro u hu;simp at hu;rcases hu with rfl | rfl | rfl | rfl<;>rfl
 have mI:=hid K3
 have hsz:g+1≤w.heap.size:=hlt
 clear h hv hb
 go_enter Tryz.func144,Tryz.ntmps144
 go_wp2_with (first
  | (
    at_builtin;refine qG _ rfl (.tmp 8) (.tmp 9) 96 rfl (g+1) 180 i0 (.agg #[.int .i64 0,.string ⟨#[]⟩,.int .i64 0,.int .i64 0]) 4 40 Tryz.underlying96 hi hz0 hz1 hz2 rfl (by decide) v L.length (tcs L) rfl ho ⟨b,0,none⟩ 1 [.int .i64 t.k,.string (aj t.s),.int .i64 t.n,.int .i64 t.p] rfl rfl hnew hone (by unfold maxLen;omega) (by omega) hsz ?_;intro v3 w3 hown3 hg3 ac5
    have HV3:Hid (w3.heap[g]?=some (.cells #[v,.int .i64 d,.int .i64 m] 100)):=hid ((hg3.block g hlt (fun e=>by have:=(ho.lt g e.symm).1;omega)).trans HV.out)
    have k3:=iZ HV3.out
    obtain⟨va,vn,vc,rfl⟩:∃va vn vc,v3 = .slice va vn vc:=by
      rcases hown3.2 with⟨rfl,_⟩ | ⟨_,_,_,rfl,_⟩
      ·exact⟨_,_,_,rfl⟩
      ·exact⟨_,_,_,rfl⟩)
  | fail)
 have HF:Hid (eP g tb w w3):=hid (ak.gU hg3 (fun k hk=>.inr (mI.out ▸ hk)))
 have YT:Wrote g tb w (w3.setCell ⟨g,0,none⟩ (.slice va vn vc)) (L++[t]) d m:=by
  refine Po HH.out HV3.out ?_ HF.out ?_
  ·rw[aaN,NJ];exact hown3
  ·rcases ac5 with e | e
   · exact .inl (e.trans mI.out)
   · exact .inr ⟨_,e,aaF _⟩
 exact bodyPost_end (v:=.tuple #[]) (by simp[results,Tryz.results144,go_sem]) rfl ⟨rfl,YT⟩
theorem sM (g:Nat) (tb:Option Nat) (L:List Tk) (d m:Int) (w:World) (h:bO w g tb L d m) (t:Tk) (hL:L.length+1≤1000000000) :
  Calls Tryz.prog 144 #[.pointer (some ⟨g,0,none⟩),.slice (some ⟨w.heap.size,0,none⟩) 1 1] (w.alloc (.cells #[.int .i64 t.k,.string (aj t.s),.int .i64 t.n,.int .i64 t.p] 180)) fun e w'=>e = .returned (.tuple #[])∧Wrote g tb w w' (L++[t]) d m:=by
 have hb:Below w.heap.size w (w.alloc (.cells #[.int .i64 t.k,.string (aj t.s),.int .i64 t.n,.int .i64 t.p] 180)):=(Below.refl _ _).alloc (aaF _) _
 refine (Ra g tb L d m _ (h.below hb) t hL w.heap.size _ (heap_alloc_new w _)).mono ?_
 rintro e w' ⟨rfl,h1⟩
 exact⟨rfl,h1.new hb⟩
theorem jP (g:Nat) (tb:Option Nat) (L:List Tk) (d m:Int) (w:World) (h:bO w g tb L d m) (s:List UInt8) (hL:L.length+1≤1000000000) :
  Calls Tryz.prog 100 #[.pointer (some ⟨g,0,none⟩),.string (aj s)] w fun e w'=>e = .returned (.tuple #[])∧Wrote g tb w w' (L++[dQ s]) d m:=by
 have HP:Hid (Calls Tryz.prog 144 #[.pointer (some ⟨g,0,none⟩),.slice (some ⟨w.heap.size,0,none⟩) 1 1] (w.alloc (.cells #[.int .i64 1,.string (aj s),.int .i64 0,.int .i64 0] 180)) fun e w'=>e = .returned (.tuple #[])∧Wrote g tb w w' (L++[dQ s]) d m):=hid (sM g tb L d m w h (dQ s) hL)
 clear h
 go_enter Tryz.func100,Tryz.ntmps100
 go_wp2_with fail
 refine HP.out.mono ?_
 rintro e w1 ⟨rfl,h1⟩
 go_wp2
 exact bodyPost_end (v:=.tuple #[]) (by simp[results,Tryz.results100,go_sem]) rfl ⟨rfl,h1⟩
theorem xQ (g:Nat) (tb:Option Nat) (L:List Tk) (d m:Int) (w:World) (h:bO w g tb L d m) (n:Int) (hL:L.length+1≤1000000000) :
  Calls Tryz.prog 150 #[.pointer (some ⟨g,0,none⟩),.int .i64 n] w fun e w'=>e = .returned (.tuple #[])∧Wrote g tb w w' (L++[IW n]) d m:=by
 have HP:Hid (Calls Tryz.prog 144 #[.pointer (some ⟨g,0,none⟩),.slice (some ⟨w.heap.size,0,none⟩) 1 1] (w.alloc (.cells #[.int .i64 3,.string ⟨#[]⟩,.int .i64 n,.int .i64 0] 180)) fun e w'=>e = .returned (.tuple #[])∧Wrote g tb w w' (L++[IW n]) d m):=hid (sM g tb L d m w h (IW n) hL)
 clear h
 go_enter Tryz.func150,Tryz.ntmps150
 go_wp2_with fail
 refine HP.out.mono ?_
 rintro e w1 ⟨rfl,h1⟩
 go_wp2
 exact bodyPost_end (v:=.tuple #[]) (by simp[results,Tryz.results150,go_sem]) rfl ⟨rfl,h1⟩
theorem UQ (g:Nat) (tb:Option Nat) (L:List Tk) (d m:Int) (w:World) (h:bO w g tb L d m) (s:List UInt8) (hL:L.length+1≤1000000000) :
  Calls Tryz.prog 160 #[.pointer (some ⟨g,0,none⟩),.string (aj s)] w fun e w'=>e = .returned (.tuple #[])∧Wrote g tb w w' (L++[Zx s]) d m:=by
 have HP:Hid (Calls Tryz.prog 144 #[.pointer (some ⟨g,0,none⟩),.slice (some ⟨w.heap.size,0,none⟩) 1 1] (w.alloc (.cells #[.int .i64 4,.string (aj s),.int .i64 0,.int .i64 0] 180)) fun e w'=>e = .returned (.tuple #[])∧Wrote g tb w w' (L++[Zx s]) d m):=hid (sM g tb L d m w h (Zx s) hL)
 clear h
 go_enter Tryz.func160,Tryz.ntmps160
 go_wp2_with fail
 refine HP.out.mono ?_
 rintro e w1 ⟨rfl,h1⟩
 go_wp2
 exact bodyPost_end (v:=.tuple #[]) (by simp[results,Tryz.results160,go_sem]) rfl ⟨rfl,h1⟩
def zM (g:Nat) (tb:Option Nat) (w:World) (v:Value) (ts:List (List UInt8)):Prop :=
 ∃a c,v = .slice a ts.length c∧ts.length≤1000∧(ts≠[]→∃b,a=some ⟨b,0,none⟩∧b≠g∧tb≠some b∧b<w.heap.size∧∀j t,ts[j]?=some t→w.cell? ⟨b,j,none⟩=some (.string (aj t)))
theorem zM.on {g:Nat} {tb dN:Option Nat} {w w1:World} {v:Value} {ts:List (List UInt8)} (h:zM g tb w v ts) (h1 : ∀k,dN=some k→tb=some k∨w.heap.size≤k) (hf:eP g tb w w1):zM g dN w1 v ts:=by
 obtain⟨a,c,hv,hl,h3⟩:=h
 refine ⟨a,c,hv,hl,fun hne=>?_⟩
 obtain⟨b,ha,hg,ht,hlt,hc⟩:=h3 hne
 refine ⟨b,ha,hg,fun e=>?_,aa7 hlt hf.size,fun j t hj=>hf.cell (hc j t hj) (fun e=>by rcases e with e | e;exact hg e;exact ht e)⟩
 rcases h1 b e with e | e
 ·exact ht e
 ·omega
theorem uh (g:Nat) (tb:Option Nat) (L:List Tk) (d m:Int) (w:World) (h:bO w g tb L d m) (v:Value) (ts:List (List UInt8)) (hv:zM g tb w v ts) (hne : ∀t∈ts,t≠[]) (hL:L.length+ts.length≤1000000000) :
  Calls Tryz.prog 98 #[.pointer (some ⟨g,0,none⟩),v] w fun e w'=>e = .returned (.tuple #[])∧Wrote g tb w w' (L++ay ts) d m:=by
 have HV:=hid hv
 have HW:=hid h.here
 have HN:=hid hne
 obtain⟨a,c,rfl,hlen,_⟩:=hv
 clear h hne
 go_enter Tryz.func98,Tryz.ntmps98
 go_wp2_with fail
 go_loopw [5,6,9] (fun _ _ i wr=>∃(k:Nat),k≤ts.length∧i = .int .i64 k∧Wrote g tb w wr (L++ay (ts.take k)) d m) (fun _ _ i _=>ts.length-(intOf i).toNat)
 case atStart=>exact⟨0,aaV _,rfl,by simpa [ay] using HW.out⟩
 case round =>
  obtain⟨k,hk,rfl,hq⟩:=hrel
  by_cases hlt:k<ts.length
  ·obtain⟨t,ht⟩:∃t,ts[k]?=some t:=⟨_,aaf hlt⟩
   have hlt':((k:Int)<(ts.length:Int)):=by omega
   obtain⟨dN,hw1,ht1,hf1⟩:=hq
   obtain⟨a',c',hvv,_,h3⟩:=HV.out.on ht1 hf1
   simp only[aah] at hvv
   obtain⟨rfl,_,rfl⟩:=hvv
   obtain⟨b,rfl,_,_,_,hcell⟩:=h3 (fun e=>by rw[e] at hlt;simp at hlt)
   have hc:=hcell k t ht
   clear hcell h3
   obtain⟨x,t',rfl⟩:∃x t',t=x::t':=by
    cases t with
    | nil=>exact absurd rfl (HN.out [] (aaP ht))
    | cons x t'=>exact⟨x,t',rfl⟩
   have hp0:0<(aj (x::t')).size:=by rw[dW];simp
   have hxv:((aj (x::t'))[0]'hp0).toNat=x.toNat:=rfl
   have htk:ay (ts.take (k+1))=ay (ts.take k)++[bg (x::t')]:=by
    obtain⟨h1,h2⟩:=aam.1 ht
    rw[aaJ h1,h2]
    simp[ay]
   have hl1:(L++ay (ts.take k)).length+1≤1000000000:=by
    simp[ay,List.length_take]
    omega
   have HT1:=hid ht1
   have jG:=hid hf1
   by_cases hU:65≤x∧x≤90
   ·have h65:((65:Int)≤(x.toNat:Int)):=by have:=UInt8.le_iff_toNat_le.1 hU.1;simp at this;omega
    have h90:((x.toNat:Int)≤90):=by have:=UInt8.le_iff_toNat_le.1 hU.2;simp at this;omega
    rw[← hxv] at h65 h90
    have hfx:bg (x::t')=⟨2,x::t',0,0⟩:=if_pos hU
    have HP:Hid (Calls Tryz.prog 144 #[.pointer (some ⟨g,0,none⟩),.slice (some ⟨wr.heap.size,0,none⟩) 1 1] (wr.alloc (.cells #[.int .i64 2,.string (aj (x::t')),.int .i64 0,.int .i64 0] 180)) fun e w'=>e = .returned (.tuple #[])∧Wrote g dN wr w' (L++ay (ts.take (k+1))) d m):=hid (by
     have:=sM g dN _ d m wr hw1 (bg (x::t')) hl1
     rw[List.append_assoc,← htk] at this
     rw[hfx] at this
     exact this)
    clear hw1 ht htk hl1 hfx ht1 hf1 hU hxv
    go_wp2_with fail
    refine HP.out.mono ?_
    rintro e w2 ⟨rfl,h2⟩
    have HQ:=hid (Wrote.then HT1.out jG.out h2)
    clear h2 HP
    go_wp2
    go_roundw
    case rel=>exact⟨k+1,by omega,by go_num,HQ.out⟩
    case measure=>simp[intOf];omega
   ·have hfx:bg (x::t')=⟨5,x::t',0,0⟩:=if_neg hU
    have HP:Hid (Calls Tryz.prog 144 #[.pointer (some ⟨g,0,none⟩),.slice (some ⟨wr.heap.size,0,none⟩) 1 1] (wr.alloc (.cells #[.int .i64 5,.string (aj (x::t')),.int .i64 0,.int .i64 0] 180)) fun e w'=>e = .returned (.tuple #[])∧Wrote g dN wr w' (L++ay (ts.take (k+1))) d m):=hid (by
     have:=sM g dN _ d m wr hw1 (bg (x::t')) hl1
     rw[List.append_assoc,← htk] at this
     rw[hfx] at this
     exact this)
    have hU' : ¬((65:Int)≤(x.toNat:Int))∨((65:Int)≤(x.toNat:Int)∧¬((x.toNat:Int)≤90)):=by
     by_cases h1:(65:Int)≤(x.toNat:Int)
     ·refine .inr ⟨h1,fun h2=>hU ⟨UInt8.le_iff_toNat_le.2 ?_,UInt8.le_iff_toNat_le.2 ?_⟩⟩
      ·simp;omega
      ·simp;omega
     ·exact .inl h1
    rw[← hxv] at hU'
    clear hw1 ht htk hl1 hfx ht1 hf1 hU hxv
    rcases hU' with h65 | ⟨h65,h90⟩
    ·go_wp2_with fail
     refine HP.out.mono ?_
     rintro e w2 ⟨rfl,h2⟩
     have HQ:=hid (Wrote.then HT1.out jG.out h2)
     clear h2 HP
     go_wp2
     go_roundw
     case rel=>exact⟨k+1,by omega,by go_num,HQ.out⟩
     case measure=>simp[intOf];omega
    ·go_wp2_with fail
     refine HP.out.mono ?_
     rintro e w2 ⟨rfl,h2⟩
     have HQ:=hid (Wrote.then HT1.out jG.out h2)
     clear h2 HP
     go_wp2
     go_roundw
     case rel=>exact⟨k+1,by omega,by go_num,HQ.out⟩
     case measure=>simp[intOf];omega
  ·have hlt' : ¬((k:Int)<(ts.length:Int)):=by omega
   have HQ:Hid (Wrote g tb w wr (L++ay ts) d m):=hid (by rw[aaU (by omega)] at hq;exact hq)
   clear hq
   go_wp2
   exact bodyPost_end (v:=.tuple #[]) (by simp[results,Tryz.results98,go_sem]) rfl ⟨rfl,HQ.out⟩
theorem aX (g:Nat) (tb:Option Nat) (L:List Tk) (d m:Int) (ts:List (List UInt8)) (w:World) (h:bO w g tb L d m) (hl:ts.length≤1000) (hne : ∀t∈ts,t≠[]) (hL:L.length+ts.length≤1000000000) :
  Calls Tryz.prog 98 #[.pointer (some ⟨g,0,none⟩),.slice (some ⟨w.heap.size,0,none⟩) ts.length ts.length] (w.alloc (.cells (ts.map fun t=>Value.string (aj t)).toArray 9)) fun e w'=>e = .returned (.tuple #[])∧Wrote g tb w w' (L++ay ts) d m:=by
 have hb:Below w.heap.size w (w.alloc (.cells (ts.map fun t=>Value.string (aj t)).toArray 9)):=(Below.refl _ _).alloc (aaF _) _
 refine (uh g tb L d m _ (h.below hb) _ ts ⟨_,_,rfl,hl,fun _=>⟨_,rfl,by have:=h.lt;omega,fun e=>by have:=(h.O1 _ e).2;omega,by simp,fun j t ht=>?_⟩⟩ hne hL).mono ?_
 ·rw[cell_of_row _ _ _ _ _ _ (heap_alloc_new w _)]
  simp[ht]
 ·rintro e w' ⟨rfl,h1⟩
  exact⟨rfl,h1.new hb⟩
def Cells8 (w:World) (b off:Nat) (k op:Int) (tb nm:List UInt8) (vk vn:Int) (vs:List UInt8) (a:Value):Prop :=
 w.cell? ⟨b,off,none⟩=some (.int .i64 k)∧w.cell? ⟨b,off+1,none⟩=some (.int .i64 op)∧w.cell? ⟨b,off+2,none⟩=some (.string (aj tb))∧w.cell? ⟨b,off+3,none⟩=some (.string (aj nm)) ∧
  w.cell? ⟨b,off+4,none⟩=some (.int .i64 vk)∧w.cell? ⟨b,off+5,none⟩=some (.int .i64 vn)∧w.cell? ⟨b,off+6,none⟩=some (.string (aj vs))∧w.cell? ⟨b,off+7,none⟩=some a
theorem Cells8.on {w w':World} {b off:Nat} {k op:Int} {tb nm:List UInt8} {vk vn:Int} {vs:List UInt8} {a:Value} (h:Cells8 w b off k op tb nm vk vn vs a) {R:Nat→Prop} (hk:ak R w w') (hb : ¬R b):Cells8 w' b off k op tb nm vk vn vs a:=by
 obtain⟨c0,c1,c2,c3,c4,c5,c6,c7⟩:=h
 exact⟨hk.cell c0 hb,hk.cell c1 hb,hk.cell c2 hb,hk.cell c3 hb,hk.cell c4 hb,hk.cell c5 hb,hk.cell c6 hb,hk.cell c7 hb⟩
theorem CP {S:Nat→Prop} {w:World} {xs:List Ex} {aa:Option Addr} {nn cc:Nat} (h:bA S w xs (.slice aa nn cc)) {j:Nat} {x:Ex} (hx:xs[j]?=some x) :
  nn=xs.length∧nn≤cc∧cc≤maxLen∧∃(b off:Nat) (k op:Int) (tb nm:List UInt8) (vk vn:Int) (vs:List UInt8) (ys:List Ex) (a1:Option Addr) (n1 c1:Nat),x = .mk k op tb nm ⟨vk,vn,vs⟩ ys∧aa=some ⟨b,off,none⟩∧S b∧Cells8 w b (off+j*8) k op tb nm vk vn vs (.slice a1 n1 c1)∧bA S w ys (.slice a1 n1 c1):=by
 cases h with
 | nil a c hc=>simp at hx
 |
  cons xs b off c Oj hne hS hl hc hcell hrec =>
  obtain⟨k,op,tb,nm,⟨vk,vn,vs⟩,ys⟩:=x
  obtain⟨a1,c1,e,_⟩:=(hrec j k op tb nm vk vn vs ys hx).form
  refine ⟨rfl,hl,hc,b,off,k,op,tb,nm,vk,vn,vs,ys,a1,ys.length,c1,rfl,rfl,hS,?_,e ▸ hrec j k op tb nm vk vn vs ys hx⟩
  have:=hcell j k op tb nm vk vn vs ys hx
  rw[e] at this
  exact this
theorem fH {S:Nat→Prop} {w:World} {x:Ex} {l:List Ex} {aa:Option Addr} {nn cc:Nat} (h:bA S w (x::l) (.slice aa nn cc)) :
  nn=l.length+1∧nn≤cc∧cc≤maxLen∧∃(b off:Nat) (k op:Int) (tb nm:List UInt8) (vk vn:Int) (vs:List UInt8) (ys:List Ex) (a1:Option Addr) (n1 c1:Nat),x = .mk k op tb nm ⟨vk,vn,vs⟩ ys∧aa=some ⟨b,off,none⟩∧S b∧Cells8 w b off k op tb nm vk vn vs (.slice a1 n1 c1)∧bA S w ys (.slice a1 n1 c1):=by
 obtain⟨h1,h2,h3,b,off,k,op,tb,nm,vk,vn,vs,ys,a1,n1,c1,h4,h5,h6,h7,h8⟩:=CP h (j:=0) (x:=x) rfl
 rw[Nat.zero_mul,aa2] at h7
 exact⟨h1,h2,h3,b,off,k,op,tb,nm,vk,vn,vs,ys,a1,n1,c1,h4,h5,h6,h7,h8⟩
theorem wZ (a:Tm) (h:a.Hu=false):fV a.ex≠6:=by
 cases a<;>first | (cases h;done) | (simp[fV,Tm.ex,ED,Dc,Ml,nA])
theorem jY (S:Nat→Prop) (x:Ex) (tb nm:List UInt8) (vk vn:Int) (vs:List UInt8) (op:Int) (aa:Option Addr) (nn cc:Nat) (w:World) (ha:bA S w [x] (.slice aa nn cc)) :
  Calls Tryz.prog 162 #[.agg #[.int .i64 4,.int .i64 op,.string (aj tb),.string (aj nm),.int .i64 vk,.int .i64 vn,.string (aj vs),.slice aa nn cc]] w fun e w'=>e = .returned (.bool (fV x==6))∧Below w.heap.size w w':=by
 obtain⟨W,hW,hbW,aJ,hcW⟩:=aK w (.cells #[.int .i64 4,.int .i64 op,.string (aj tb),.string (aj nm),.int .i64 vk,.int .i64 vn,.string (aj vs),.slice aa nn cc] 48)
 have k0:=aG hcW
 obtain⟨h1,h2,h3,b,off,k1,op1,dN,fU,fJ,fI,vs1,ys1,a1,n1,c1,rfl,rfl,_,h7,_⟩:=fH (ha.new hbW)
 unfold Cells8 at h7
 rw[List.length_nil,Nat.zero_add] at h1
 subst h1
 unfold maxLen at h3
 show Calls Tryz.prog 162 _ _ fun e w'=>e = .returned (.bool (k1==6))∧_
 have HB:=hid hbW
 clear hbW hcW ha
 go_enter Tryz.func162,Tryz.ntmps162
 go_wp2
 go_ret
 exact⟨rfl,HB.out⟩
theorem I5 {w:World} (h:Ak w) {o:Int} (h1:1≤o) (h2:o≤13):∃n:Nat,o=(n:Int)∧n≤13∧w.cell? ⟨0,n*2,none⟩=some (.string (aj (vW o)))∧w.cell? ⟨0,n*2+1,none⟩=some (.int .i64 (eu o)) :=
 ⟨o.toNat,by omega,by omega,by have:=h o.toNat (by omega);rw[show ((o.toNat:Nat):Int)=o by omega] at this;exact this⟩
theorem Aa (S:Nat→Prop) (t:Tm) (hok:t.ok) (v:Value) (w:World) (hO:iL w) (hx:gH S w t.ex v) :
  Calls Tryz.prog 173 #[v] w fun e w'=>e = .returned (.int .i64 (t.lv:Int))∧Below w.heap.size w w':=by
 obtain⟨k,op,tb,nm,vk,vn,vs,ys,aa,nn,cc,he,rfl,ha⟩:=hx
 obtain⟨W,hW,hbW,aJ,hcW⟩:=aK w (.cells #[.int .i64 k,.int .i64 op,.string (aj tb),.string (aj nm),.int .i64 vk,.int .i64 vn,.string (aj vs),.slice aa nn cc] 48)
 have k0:=aG hcW
 have HB:=hid hbW
 have Sg:=(hO.on hbW).ops
 cases t with
 |
  val x =>
  simp only[Tm.ex,ED,Ex.mk.injEq] at he
  obtain⟨rfl,-⟩:=he
  clear hcW hbW ha hO Sg
  go_enter Tryz.func173,Tryz.ntmps173
  go_wp2
  go_ret
  exact⟨rfl,HB.out.alloc HB.out.size _⟩
 |
  col x y =>
  simp only[Tm.ex,Dc,Ex.mk.injEq] at he
  obtain⟨rfl,-⟩:=he
  clear hcW hbW ha hO Sg
  go_enter Tryz.func173,Tryz.ntmps173
  go_wp2
  go_ret
  exact⟨rfl,HB.out.alloc HB.out.size _⟩
 |
  op o a b =>
  simp only[Tm.ex,Ml,Ex.mk.injEq] at he
  obtain⟨rfl,rfl,-⟩:=he
  obtain⟨n,hn,aad,_,hc⟩:=I5 Sg hok.1 hok.2.1
  show Calls Tryz.prog 173 _ _ fun e w'=>e = .returned (.int .i64 (eu o:Int))∧_
  generalize eu o=lv at hc ⊢
  have h1:=hok.1
  subst hn
  have aau:((n:Int)<14):=by omega
  clear hcW hbW ha hO Sg hok
  go_enter Tryz.func173,Tryz.ntmps173
  go_wp2
  go_ret
  exact⟨rfl,HB.out⟩
 |
  not a =>
  simp only[Tm.ex,nA,Ex.mk.injEq] at he
  obtain⟨rfl,rfl,rfl,rfl,hv,rfl⟩:=he
  have HN:=hid (jY S a.ex [] [] vk vn vs 0 aa nn cc W (ha.new hbW))
  have h6:(fV a.ex==6)=false:=by have:=wZ a hok.1;simpa using this
  rw[h6] at HN
  clear hcW hbW ha hO Sg hok hv h6
  go_enter Tryz.func173,Tryz.ntmps173
  go_wp2_with fail
  refine HN.out.mono ?_
  rintro e w1 ⟨rfl,hb1⟩
  have k1:=aG ((hb1.block w.heap.size aJ).trans (by rw[← hW];exact heap_alloc_new _ _))
  have HB1:=hid (HB.out.trans (hb1.mono (Nat.le_of_lt aJ)))
  clear hb1 HN
  go_wp2
  go_ret
  exact⟨rfl,HB1.out⟩
 |
  neg a =>
  simp only[Tm.ex,nA,Ex.mk.injEq] at he
  obtain⟨rfl,-⟩:=he
  clear hcW hbW ha hO Sg
  go_enter Tryz.func173,Tryz.ntmps173
  go_wp2
  go_ret
  exact⟨rfl,HB.out.alloc HB.out.size _⟩
 |
  zZ a =>
  simp only[Tm.ex,nA,Ex.mk.injEq] at he
  obtain⟨rfl,-⟩:=he
  clear hcW hbW ha hO Sg
  go_enter Tryz.func173,Tryz.ntmps173
  go_wp2
  go_ret
  exact⟨rfl,HB.out⟩
 |
  ny a =>
  simp only[Tm.ex,nA,Ex.mk.injEq] at he
  obtain⟨rfl,rfl,rfl,rfl,hv,rfl⟩:=he
  have HN:Hid (Calls Tryz.prog 162 #[.agg #[.int .i64 4,.int .i64 0,.string (aj []),.string (aj []),.int .i64 vk,.int .i64 vn,.string (aj vs),.slice aa nn cc]] W fun e w'=>e = .returned (.bool true)∧Below W.heap.size W w'):=hid (jY S _ [] [] vk vn vs 0 aa nn cc W (ha.new hbW))
  clear hcW hbW ha hO Sg hok hv
  go_enter Tryz.func173,Tryz.ntmps173
  go_wp2_with fail
  refine HN.out.mono ?_
  rintro e w1 ⟨rfl,hb1⟩
  have HB1:=hid (HB.out.trans (hb1.mono (Nat.le_of_lt aJ)))
  clear hb1 HN
  go_wp2
  go_ret
  exact⟨rfl,HB1.out⟩
theorem Ar (g:Nat) (tb:Option Nat) (L:List Tk) (d m:Int) (w:World) (h:bO w g tb L d m) (v:Vl) (hv:dV v=true) (hL:L.length+(nK v).length≤1000000000) :
  Calls Tryz.prog 131 #[.pointer (some ⟨g,0,none⟩),.agg #[.int .i64 v.k,.int .i64 v.n,.string (aj v.s)]] w fun e w'=>e = .returned (.tuple #[])∧Wrote g tb w w' (L++nK v) d m:=by
 obtain⟨vk,vn,vs⟩:=v
 dsimp only
 have hl2:=wK ⟨vk,vn,vs⟩
 obtain⟨W,hW,hbW,aJ,hcW⟩:=aK w (.cells #[.int .i64 vk,.int .i64 vn,.string (aj vs)] 46)
 have k0:=iZ hcW
 have HW:=hid (h.below hbW)
 have OX:=hid (h.below hbW.drew)
 have HB:=hid hbW
 have Ke:=hid hbW.drew
 have HC:=hid hcW
 rcases Db hv with⟨h1,h2,h3⟩ | ⟨h1,h2,h3⟩ | ⟨h1,h2,h3⟩
 ·dsimp only at h1;subst h1
  have HT:=hid (UQ g tb L d m W.drew OX.out vs (by omega))
  clear hbW hcW h hv h2 h3 HC
  go_enter Tryz.func131,Tryz.ntmps131
  go_wp2_with fail
  go_region_with (first
   | (
     go_at_call 160;refine HT.out.mono ?_
     rintro e w1 ⟨rfl,h1⟩)
   | fail)
  all_goals go_wp2
  all_goals exact bodyPost_end (v:=.tuple #[]) (by simp[results,Tryz.results131,go_sem]) rfl ⟨rfl,h1.new Ke.out⟩
 ·dsimp only at h1;subst h1
  have HT:Hid (Calls Tryz.prog 98 #[.pointer (some ⟨g,0,none⟩),.slice (some ⟨W.heap.size,0,none⟩) 1 1] (W.alloc (.cells #[.string ⟨#[78,85,76,76]⟩] 9)) fun e w'=>e = .returned (.tuple #[])∧Wrote g tb W w' (L++ay [[78,85,76,76]]) d m):=hid (aX g tb L d m [[78,85,76,76]] W HW.out (by decide) (by decide) (by simp;omega))
  clear hbW hcW h hv h2 h3 HC
  go_enter Tryz.func131,Tryz.ntmps131
  go_wp2_with fail
  refine HT.out.mono ?_
  rintro e w1 ⟨rfl,h1⟩
  go_wp2
  exact bodyPost_end (v:=.tuple #[]) (by simp[results,Tryz.results131,go_sem]) rfl ⟨rfl,h1.new HB.out⟩
 ·dsimp only at h1 h3;subst h1
  have e:nK ⟨1,vn,vs⟩=if vn<0 then [bg [45],IW (-vn)] else [IW vn]:=rfl
  rw[e] at hL hl2 ⊢
  by_cases hn:vn<0
  ·rw[if_pos hn] at hL hl2 ⊢
   have hL:L.length+2≤1000000000:=hL
   have HT:Hid (Calls Tryz.prog 98 #[.pointer (some ⟨g,0,none⟩),.slice (some ⟨W.heap.size,0,none⟩) 1 1] (W.alloc (.cells #[.string ⟨#[45]⟩] 9)) fun e w'=>e = .returned (.tuple #[])∧Wrote g tb W w' (L++ay [[45]]) d m):=hid (aX g tb L d m [[45]] W HW.out (by decide) (by decide) (by simp;omega))
   have iq:=hid (fP.mk' h hcW (aaF _))
   have hneg:IntKind.i64.wrap (-vn) = -vn:=by rw[IntKind.wrap_i64];omega
   clear hbW hcW h hv h2 HC h3
   go_enter Tryz.func131,Tryz.ntmps131
   go_wp2_with fail
   refine HT.out.mono ?_
   rintro e w1 ⟨rfl,h1⟩
   obtain⟨dN,hw1,ht1,hf1⟩:=h1
   have hbx:=(iq.out.on ht1 hf1).at'
   have k1:=iZ hbx
   have HN:=hid (xQ g dN _ d m w1.drew (hw1.below (Below.refl _ w1).drew) (-vn) (by simp[ay];omega))
   have HT1:=hid ht1
   have jG:=hid hf1
   clear hw1 ht1 hf1 HT hbx
   go_wp2_with fail
   go_region_with (first
    | (
      go_at_call 150;refine HN.out.mono ?_
      rintro e w2 ⟨rfl,h2⟩)
    | fail)
   all_goals go_wp2
   all_goals exact bodyPost_end (v:=.tuple #[]) (by simp[results,Tryz.results131,go_sem]) rfl ⟨rfl,by
    have:=Wrote.new HB.out (Wrote.then HT1.out jG.out (h2.new (Below.refl _ w1).drew))
    simpa [ay] using this⟩
  ·rw[if_neg hn] at hL hl2 ⊢
   have HN:=hid (xQ g tb L d m W.drew OX.out vn (by omega))
   clear hbW hcW h hv h2 HC
   go_enter Tryz.func131,Tryz.ntmps131
   go_wp2_with fail
   go_region_with (first
    | (
      go_at_call 150;refine HN.out.mono ?_
      rintro e w1 ⟨rfl,h1⟩)
    | fail)
   all_goals go_wp2
   all_goals exact bodyPost_end (v:=.tuple #[]) (by simp[results,Tryz.results131,go_sem]) rfl ⟨rfl,h1.new Ke.out⟩
end Go.Proofs.YtfeglkleoijlaaaGreatDoor
