/- Packed for the hand-in: WMem -/
import Derived.Test.YtnidnipiihhnaaaGreatDoorX06
namespace Go.Proofs.YtnidnipiihhnaaaGreatDoor
open Go.RowKit Go.Shelf
set_option linter.unusedSimpArgs false
set_option linter.unusedVariables false
set_option maxRecDepth 20000
set_option maxHeartbeats 8000000
def OpsAt (w:World):Prop:=∀o:Nat,o≤13→w.cell? ⟨0,o*2,none⟩=some (.string (str8 (opTx o)))∧w.cell? ⟨0,o*2+1,none⟩=some (.int .i64 (opLv o))
structure TabW (w:World):Prop where
 tv:TabV w
 ops:OpsAt w
 lt:10<w.heap.size
theorem TabW.below {w w':World} {B:Nat} (h:TabW w) (hb:Below B w w') (hB:10<B):TabW w' :=
 ⟨h.tv.below hb (by omega),fun o ho=>⟨(hb.cell (p:=⟨0,o*2,none⟩) (by show 0<B;omega)).trans (h.ops o ho).1,(hb.cell (p:=⟨0,o*2+1,none⟩) (by show 0<B;omega)).trans (h.ops o ho).2⟩,Nat.lt_of_lt_of_le h.lt hb.size⟩
theorem TabW.on {w w':World} (h:TabW w) (hb:Below w.heap.size w w'):TabW w':=h.below hb h.lt
structure WrAt (w:World) (g:Nat) (tb:Option Nat) (L:List Tk) (d m:Int):Prop where
 lie : ∃v,w.heap[g]?=some (.cells #[v,.int .i64 d,.int .i64 m] 59)∧w.ownsRow (g+1) 119 4 v L.length (tcs L)∧v.ownBlock=tb
 tab:TabW w
 big:10<g
theorem WrAt.lt {w:World} {g:Nat} {tb:Option Nat} {L:List Tk} {d m:Int} (h:WrAt w g tb L d m):g<w.heap.size:=by
 obtain⟨v,hv,_⟩:=h.lie
 exact World.lt_of_block hv
theorem WrAt.tbs {w:World} {g:Nat} {tb:Option Nat} {L:List Tk} {d m:Int} (h:WrAt w g tb L d m):∀k,tb=some k→g<k∧k<w.heap.size:=by
 obtain⟨v,_,ho,rfl⟩:=h.lie
 exact fun k hk=>⟨(ho.lt k hk).1,(ho.lt k hk).2⟩
abbrev FrW (g:Nat) (tb:Option Nat) (w w':World):Prop:=Spares (fun k=>k=g∨tb=some k) w w'
def Wrote (g:Nat) (tb:Option Nat) (w w':World) (L:List Tk) (d m:Int):Prop :=
 ∃tb',WrAt w' g tb' L d m∧(∀k,tb'=some k→tb=some k∨w.heap.size≤k)∧FrW g tb w w'
theorem WrAt.here {w:World} {g:Nat} {tb:Option Nat} {L:List Tk} {d m:Int} (h:WrAt w g tb L d m):Wrote g tb w w L d m:=⟨tb,h,fun k hk=>.inl hk,Spares.refl _ _⟩
theorem Wrote.then {g:Nat} {tb tb1:Option Nat} {w w1 w2:World} {L:List Tk} {d m:Int} (h1 : ∀k,tb1=some k→tb=some k∨w.heap.size≤k) (hf:FrW g tb w w1) (h2:Wrote g tb1 w1 w2 L d m):Wrote g tb w w2 L d m:=by
 obtain⟨tb2,h3,h4,h5⟩:=h2
 refine ⟨tb2,h3,fun k hk=>?_,hf.andThen h5 fun i hi=>?_⟩
 ·rcases h4 k hk with e | e
  ·exact h1 k e
  ·exact .inr (Nat.le_trans hf.size e)
 ·rcases hi with rfl | e
  ·exact .inl (.inl rfl)
  ·rcases h1 i e with e | e
   ·exact .inl (.inr e)
   ·exact .inr e
theorem WrAt.below {w w':World} {g:Nat} {tb:Option Nat} {L:List Tk} {d m:Int} (h:WrAt w g tb L d m) (hb:Below w.heap.size w w'):WrAt w' g tb L d m:=by
 have hlt:=h.lt
 obtain⟨v,hv,ho,e⟩:=h.lie
 exact⟨⟨v,by rw[hb.block g hlt];exact hv,owns_onL ho hb,e⟩,h.tab.on hb,h.big⟩
theorem Wrote.new {g:Nat} {tb:Option Nat} {w w1 w2:World} {L:List Tk} {d m:Int} (hb:Below w.heap.size w w1) (h2:Wrote g tb w1 w2 L d m):Wrote g tb w w2 L d m :=
 Wrote.then (fun k hk=>.inl hk) (Spares.of_new hb) h2
structure BoxW (g:Nat) (tb:Option Nat) (w:World) (q:Nat) (o:Obj):Prop where
 at':w.heap[q]?=some o
 ng:q≠g
 nt:tb≠some q
theorem BoxW.on {g:Nat} {tb tb1:Option Nat} {w w1:World} {q:Nat} {o:Obj} (h:BoxW g tb w q o) (h1 : ∀k,tb1=some k→tb=some k∨w.heap.size≤k) (hf:FrW g tb w w1):BoxW g tb1 w1 q o:=by
 have hq:=World.lt_of_block h.at'
 refine ⟨(hf.block q hq (fun e=>by rcases e with e | e;exact h.ng e;exact h.nt e)).trans h.at',h.ng,fun e=>?_⟩
 rcases h1 q e with e | e
 ·exact h.nt e
 ·omega
theorem BoxW.below {g:Nat} {tb:Option Nat} {w w1:World} {q:Nat} {o:Obj} (h:BoxW g tb w q o) (hb:Below w.heap.size w w1):BoxW g tb w1 q o :=
 ⟨(hb.block q (World.lt_of_block h.at')).trans h.at',h.ng,h.nt⟩
theorem BoxW.mk' {w W:World} {g:Nat} {tb:Option Nat} {L:List Tk} {d m:Int} (h:WrAt w g tb L d m) {q:Nat} {o:Obj} (hW:W.heap[q]?=some o) (hq:w.heap.size≤q):BoxW g tb W q o :=
 ⟨hW,by have:=h.lt;omega,fun e=>by have:=(h.tbs q e).2;omega⟩
theorem FrW.keeps {w w':World} {g:Nat} {tb:Option Nat} {L:List Tk} {d m:Int} (h:WrAt w g tb L d m) (hf:FrW g tb w w'):∀b,b<g→b<w.heap.size→¬(b=g∨tb=some b)∧b<g:=fun b hb _ =>
 ⟨fun e=>by rcases e with e | e;omega;have:=(h.tbs b e).1;omega,hb⟩
theorem WrAt.frBelow {w w':World} {g:Nat} {tb:Option Nat} {L:List Tk} {d m:Int} (h:WrAt w g tb L d m) (hf:FrW g tb w w'):Below g w w' :=
 hf.below (fun i hi=>by rcases hi with rfl | e;exact Nat.le_refl _;have:=(h.tbs i e).1;omega) (Nat.le_of_lt h.lt)
theorem ExV.onW {w w':World} {g:Nat} {tb:Option Nat} {L:List Tk} {d m:Int} {x:Ex} {v:Value} (h:WrAt w g tb L d m) (hf:FrW g tb w w') (hx:ExV (fun b=>b<g) w x v):ExV (fun b=>b<g) w' x v:=hx.to hf (FrW.keeps h hf)
theorem ArgsAt.onW {w w':World} {g:Nat} {tb:Option Nat} {L:List Tk} {d m:Int} {x:List Ex} {v:Value} (h:WrAt w g tb L d m) (hf:FrW g tb w w') (hx:ArgsAt (fun b=>b<g) w x v):ArgsAt (fun b=>b<g) w' x v:=hx.to hf (FrW.keeps h hf)
theorem ExV.new {S:Nat→Prop} {w w':World} {x:Ex} {v:Value} (hx:ExV S w x v) (hb:Below w.heap.size w w'):ExV S w' x v:=hx.to (R:=fun _=>False) (Spares.of_new hb) (fun b h _=>⟨id,h⟩)
theorem ArgsAt.new {S:Nat→Prop} {w w':World} {x:List Ex} {v:Value} (hx:ArgsAt S w x v) (hb:Below w.heap.size w w'):ArgsAt S w' x v:=hx.to (R:=fun _=>False) (Spares.of_new hb) (fun b h _=>⟨id,h⟩)
theorem cells3W {w:World} {g:Nat} {a b c:Value} {t:TypeId} (h:w.heap[g]?=some (.cells #[a,b,c] t)) :
  w.cell? ⟨g,0,none⟩=some a∧w.cell? ⟨g,1,none⟩=some b∧w.cell? ⟨g,2,none⟩=some c∧∀i,w.frozen? ⟨g,i,none⟩=false :=
 ⟨by rw[cell_row _ _ _ _ _ _ h];rfl,by rw[cell_row _ _ _ _ _ _ h];rfl,by rw[cell_row _ _ _ _ _ _ h];rfl,fun i=>by simp[World.frozen?,h]⟩
theorem wr_set0 {w W:World} {g:Nat} {tb:Option Nat} {L L':List Tk} {d m:Int} {v v':Value} (hw:WrAt w g tb L d m) (hv:W.heap[g]?=some (.cells #[v,.int .i64 d,.int .i64 m] 59)) (ho:W.ownsRow (g+1) 119 4 v' L'.length (tcs L')) (hf:FrW g tb w W) (ht:v'.ownBlock=tb∨∃k,v'.ownBlock=some k∧w.heap.size≤k) :
  Wrote g tb w (W.setCell ⟨g,0,none⟩ v') L' d m:=by
 have hf2:FrW g tb w (W.setCell ⟨g,0,none⟩ v'):=Spares.setCell hf (.inl (.inl rfl)) v'
 refine ⟨v'.ownBlock,⟨⟨v',?_,ownsRow_setCell_below ho (Nat.lt_succ_self g) v',rfl⟩,hw.tab.below (hw.frBelow hf2) hw.big,hw.big⟩,fun k hk=>?_,hf2⟩
 ·rw[setCell_eq_setRow W g 0 _ _ _ v' hv,setRow_heap W g _ _ _ _ hv]
  rfl
 ·rcases ht with e | ⟨j,e,hj⟩
  ·exact .inl (e ▸ hk)
  ·obtain rfl:=Option.some.inj (e.symm.trans hk)
   exact .inr hj
theorem tcs_snoc (L:List Tk) (t:Tk):tcs (L++[t])=tcs L++[.int .i64 t.k,.string (str8 t.s),.int .i64 t.n,.int .i64 t.p]:=by simp[tcs,tc]
theorem put_any (g:Nat) (tb:Option Nat) (L:List Tk) (d m:Int) (w:World) (h:WrAt w g tb L d m) (t:Tk) (hL:L.length+1≤1000000000) (b:Nat) (ty:TypeId) (hb:w.heap[b]?=some (.cells #[.int .i64 t.k,.string (str8 t.s),.int .i64 t.n,.int .i64 t.p] ty)) :
  Calls Tryz.prog 132 #[.pointer (some ⟨g,0,none⟩),.slice (some ⟨b,0,none⟩) 1 1] w fun e w'=>e = .returned (.tuple #[])∧Wrote g tb w w' (L++[t]) d m:=by
 obtain⟨i0,hi,hz0,hz1,hz2⟩:=info_parts Tryz.infoTok
 have hlt:=h.lt
 obtain⟨v,hv,ho,hob⟩:=h.lie
 have k:=cells3W hv
 have HH:=hid h
 have HV:=hid hv
 have hnew : ∀(j:Nat) (u:Value),[Value.int .i64 t.k,.string (str8 t.s),.int .i64 t.n,.int .i64 t.p][j]?=some u→w.cell? ((⟨b,0,none⟩:Addr).add j)=some u:=by
  intro j u hj
  rw[Addr.add_lit,Nat.zero_add,cell_of_row _ _ _ _ _ _ hb]
  simpa using hj
 have hone : ∀u∈[Value.int .i64 t.k,.string (str8 t.s),.int .i64 t.n,.int .i64 t.p],u.oneCell'=true:=by intro u hu;simp at hu;rcases hu with rfl | rfl | rfl | rfl<;>rfl
 have HTB:=hid hob
 have hsz:g+1≤w.heap.size:=hlt
 clear h hv hb
 go_enter Tryz.func132,Tryz.ntmps132
 go_wp2_with (first
  | (
    at_builtin;refine wpList_append_where _ rfl (.tmp 8) (.tmp 9) 55 rfl (g+1) 119 i0 (.agg #[.int .i64 0,.string ⟨#[]⟩,.int .i64 0,.int .i64 0]) 4 40 Tryz.underlying55 hi hz0 hz1 hz2 rfl (by decide) v L.length (tcs L) rfl ho ⟨b,0,none⟩ 1 [.int .i64 t.k,.string (str8 t.s),.int .i64 t.n,.int .i64 t.p] rfl rfl hnew hone (by unfold maxLen;omega) (by omega) hsz ?_;intro v3 w3 hown3 hg3 hob3
    have HV3:Hid (w3.heap[g]?=some (.cells #[v,.int .i64 d,.int .i64 m] 59)):=hid ((hg3.block g hlt (fun e=>by have:=(ho.lt g e.symm).1;omega)).trans HV.out)
    have k3:=cells3W HV3.out
    obtain⟨va,vn,vc,rfl⟩:∃va vn vc,v3 = .slice va vn vc:=by
      rcases hown3.2 with⟨rfl,_⟩ | ⟨_,_,_,rfl,_⟩
      ·exact⟨_,_,_,rfl⟩
      ·exact⟨_,_,_,rfl⟩)
  | fail)
 have HF:Hid (FrW g tb w w3):=hid (Spares.of_grown hg3 (fun k hk=>.inr (HTB.out ▸ hk)))
 have hone3:Wrote g tb w (w3.setCell ⟨g,0,none⟩ (.slice va vn vc)) (L++[t]) d m:=by
  refine wr_set0 HH.out HV3.out ?_ HF.out ?_
  ·rw[List.length_append,tcs_snoc];exact hown3
  ·rcases hob3 with e | e
   · exact .inl (e.trans HTB.out)
   · exact .inr ⟨_,e,Nat.le_refl _⟩
 exact bodyPost_end (v:=.tuple #[]) (by simp[results,Tryz.results132,go_sem]) rfl ⟨rfl,hone3⟩
theorem put_new (g:Nat) (tb:Option Nat) (L:List Tk) (d m:Int) (w:World) (h:WrAt w g tb L d m) (t:Tk) (hL:L.length+1≤1000000000) :
  Calls Tryz.prog 132 #[.pointer (some ⟨g,0,none⟩),.slice (some ⟨w.heap.size,0,none⟩) 1 1] (w.alloc (.cells #[.int .i64 t.k,.string (str8 t.s),.int .i64 t.n,.int .i64 t.p] 119)) fun e w'=>e = .returned (.tuple #[])∧Wrote g tb w w' (L++[t]) d m:=by
 have hb:Below w.heap.size w (w.alloc (.cells #[.int .i64 t.k,.string (str8 t.s),.int .i64 t.n,.int .i64 t.p] 119)):=(Below.refl _ _).alloc (Nat.le_refl _) _
 refine (put_any g tb L d m _ (h.below hb) t hL w.heap.size _ (heap_alloc_new w _)).mono ?_
 rintro e w' ⟨rfl,h1⟩
 exact⟨rfl,h1.new hb⟩
theorem name_w (g:Nat) (tb:Option Nat) (L:List Tk) (d m:Int) (w:World) (h:WrAt w g tb L d m) (s:List UInt8) (hL:L.length+1≤1000000000) :
  Calls Tryz.prog 70 #[.pointer (some ⟨g,0,none⟩),.string (str8 s)] w fun e w'=>e = .returned (.tuple #[])∧Wrote g tb w w' (L++[nmT s]) d m:=by
 have HP:Hid (Calls Tryz.prog 132 #[.pointer (some ⟨g,0,none⟩),.slice (some ⟨w.heap.size,0,none⟩) 1 1] (w.alloc (.cells #[.int .i64 1,.string (str8 s),.int .i64 0,.int .i64 0] 119)) fun e w'=>e = .returned (.tuple #[])∧Wrote g tb w w' (L++[nmT s]) d m):=hid (put_new g tb L d m w h (nmT s) hL)
 clear h
 go_enter Tryz.func70,Tryz.ntmps70
 go_wp2_with fail
 refine HP.out.mono ?_
 rintro e w1 ⟨rfl,h1⟩
 go_wp2
 exact bodyPost_end (v:=.tuple #[]) (by simp[results,Tryz.results70,go_sem]) rfl ⟨rfl,h1⟩
theorem number_w (g:Nat) (tb:Option Nat) (L:List Tk) (d m:Int) (w:World) (h:WrAt w g tb L d m) (n:Int) (hL:L.length+1≤1000000000) :
  Calls Tryz.prog 112 #[.pointer (some ⟨g,0,none⟩),.int .i64 n] w fun e w'=>e = .returned (.tuple #[])∧Wrote g tb w w' (L++[nuT n]) d m:=by
 have HP:Hid (Calls Tryz.prog 132 #[.pointer (some ⟨g,0,none⟩),.slice (some ⟨w.heap.size,0,none⟩) 1 1] (w.alloc (.cells #[.int .i64 3,.string ⟨#[]⟩,.int .i64 n,.int .i64 0] 119)) fun e w'=>e = .returned (.tuple #[])∧Wrote g tb w w' (L++[nuT n]) d m):=hid (put_new g tb L d m w h (nuT n) hL)
 clear h
 go_enter Tryz.func112,Tryz.ntmps112
 go_wp2_with fail
 refine HP.out.mono ?_
 rintro e w1 ⟨rfl,h1⟩
 go_wp2
 exact bodyPost_end (v:=.tuple #[]) (by simp[results,Tryz.results112,go_sem]) rfl ⟨rfl,h1⟩
theorem text_w (g:Nat) (tb:Option Nat) (L:List Tk) (d m:Int) (w:World) (h:WrAt w g tb L d m) (s:List UInt8) (hL:L.length+1≤1000000000) :
  Calls Tryz.prog 111 #[.pointer (some ⟨g,0,none⟩),.string (str8 s)] w fun e w'=>e = .returned (.tuple #[])∧Wrote g tb w w' (L++[txT s]) d m:=by
 have HP:Hid (Calls Tryz.prog 132 #[.pointer (some ⟨g,0,none⟩),.slice (some ⟨w.heap.size,0,none⟩) 1 1] (w.alloc (.cells #[.int .i64 4,.string (str8 s),.int .i64 0,.int .i64 0] 119)) fun e w'=>e = .returned (.tuple #[])∧Wrote g tb w w' (L++[txT s]) d m):=hid (put_new g tb L d m w h (txT s) hL)
 clear h
 go_enter Tryz.func111,Tryz.ntmps111
 go_wp2_with fail
 refine HP.out.mono ?_
 rintro e w1 ⟨rfl,h1⟩
 go_wp2
 exact bodyPost_end (v:=.tuple #[]) (by simp[results,Tryz.results111,go_sem]) rfl ⟨rfl,h1⟩
def StrsW (g:Nat) (tb:Option Nat) (w:World) (v:Value) (ts:List (List UInt8)):Prop :=
 ∃a c,v = .slice a ts.length c∧ts.length≤1000∧(ts≠[]→∃b,a=some ⟨b,0,none⟩∧b≠g∧tb≠some b∧b<w.heap.size∧∀j t,ts[j]?=some t→w.cell? ⟨b,j,none⟩=some (.string (str8 t)))
theorem StrsW.on {g:Nat} {tb tb1:Option Nat} {w w1:World} {v:Value} {ts:List (List UInt8)} (h:StrsW g tb w v ts) (h1 : ∀k,tb1=some k→tb=some k∨w.heap.size≤k) (hf:FrW g tb w w1):StrsW g tb1 w1 v ts:=by
 obtain⟨a,c,hv,hl,h3⟩:=h
 refine ⟨a,c,hv,hl,fun hne=>?_⟩
 obtain⟨b,ha,hg,ht,hlt,hc⟩:=h3 hne
 refine ⟨b,ha,hg,fun e=>?_,Nat.lt_of_lt_of_le hlt hf.size,fun j t hj=>hf.cell (hc j t hj) (fun e=>by rcases e with e | e;exact hg e;exact ht e)⟩
 rcases h1 b e with e | e
 ·exact ht e
 ·omega
theorem fixed_any (g:Nat) (tb:Option Nat) (L:List Tk) (d m:Int) (w:World) (h:WrAt w g tb L d m) (v:Value) (ts:List (List UInt8)) (hv:StrsW g tb w v ts) (hne : ∀t∈ts,t≠[]) (hL:L.length+ts.length≤1000000000) :
  Calls Tryz.prog 68 #[.pointer (some ⟨g,0,none⟩),v] w fun e w'=>e = .returned (.tuple #[])∧Wrote g tb w w' (L++wordsK ts) d m:=by
 have HV:=hid hv
 have HW:=hid h.here
 have HN:=hid hne
 obtain⟨a,c,rfl,hlen,_⟩:=hv
 clear h hne
 go_enter Tryz.func68,Tryz.ntmps68
 go_wp2_with fail
 go_loopw [5,6,9] (fun _ _ i wr=>∃(k:Nat),k≤ts.length∧i = .int .i64 k∧Wrote g tb w wr (L++wordsK (ts.take k)) d m) (fun _ _ i _=>ts.length-(intOf i).toNat)
 case atStart=>exact⟨0,Nat.zero_le _,rfl,by simpa [wordsK] using HW.out⟩
 case round =>
  obtain⟨k,hk,rfl,hq⟩:=hrel
  by_cases hlt:k<ts.length
  ·obtain⟨t,ht⟩:∃t,ts[k]?=some t:=⟨_,List.getElem?_eq_getElem hlt⟩
   have hlt':((k:Int)<(ts.length:Int)):=by omega
   obtain⟨tb1,hw1,ht1,hf1⟩:=hq
   obtain⟨a',c',hvv,_,h3⟩:=HV.out.on ht1 hf1
   simp only[Value.slice.injEq] at hvv
   obtain⟨rfl,_,rfl⟩:=hvv
   obtain⟨b,rfl,_,_,_,hcell⟩:=h3 (fun e=>by rw[e] at hlt;simp at hlt)
   have hc:=hcell k t ht
   clear hcell h3
   obtain⟨x,t',rfl⟩:∃x t',t=x::t':=by
    cases t with
    | nil=>exact absurd rfl (HN.out [] (List.mem_of_getElem? ht))
    | cons x t'=>exact⟨x,t',rfl⟩
   have hp0:0<(str8 (x::t')).size:=by rw[str8_size];simp
   have hxv:((str8 (x::t'))[0]'hp0).toNat=x.toNat:=rfl
   have htk:wordsK (ts.take (k+1))=wordsK (ts.take k)++[fxT (x::t')]:=by
    obtain⟨h1,h2⟩:=List.getElem?_eq_some_iff.1 ht
    rw[List.take_succ_eq_append_getElem h1,h2]
    simp[wordsK]
   have hl1:(L++wordsK (ts.take k)).length+1≤1000000000:=by
    simp[wordsK,List.length_take]
    omega
   have HT1:=hid ht1
   have HF1:=hid hf1
   by_cases hU:65≤x∧x≤90
   ·have h65:((65:Int)≤(x.toNat:Int)):=by have:=UInt8.le_iff_toNat_le.1 hU.1;simp at this;omega
    have h90:((x.toNat:Int)≤90):=by have:=UInt8.le_iff_toNat_le.1 hU.2;simp at this;omega
    rw[← hxv] at h65 h90
    have hfx:fxT (x::t')=⟨2,x::t',0,0⟩:=if_pos hU
    have HP:Hid (Calls Tryz.prog 132 #[.pointer (some ⟨g,0,none⟩),.slice (some ⟨wr.heap.size,0,none⟩) 1 1] (wr.alloc (.cells #[.int .i64 2,.string (str8 (x::t')),.int .i64 0,.int .i64 0] 119)) fun e w'=>e = .returned (.tuple #[])∧Wrote g tb1 wr w' (L++wordsK (ts.take (k+1))) d m):=hid (by
     have:=put_new g tb1 _ d m wr hw1 (fxT (x::t')) hl1
     rw[List.append_assoc,← htk] at this
     rw[hfx] at this
     exact this)
    clear hw1 ht htk hl1 hfx ht1 hf1 hU hxv
    go_wp2_with fail
    refine HP.out.mono ?_
    rintro e w2 ⟨rfl,h2⟩
    have HQ:=hid (Wrote.then HT1.out HF1.out h2)
    clear h2 HP
    go_wp2
    go_roundw
    case rel=>exact⟨k+1,by omega,by go_num,HQ.out⟩
    case measure=>simp[intOf];omega
   ·have hfx:fxT (x::t')=⟨5,x::t',0,0⟩:=if_neg hU
    have HP:Hid (Calls Tryz.prog 132 #[.pointer (some ⟨g,0,none⟩),.slice (some ⟨wr.heap.size,0,none⟩) 1 1] (wr.alloc (.cells #[.int .i64 5,.string (str8 (x::t')),.int .i64 0,.int .i64 0] 119)) fun e w'=>e = .returned (.tuple #[])∧Wrote g tb1 wr w' (L++wordsK (ts.take (k+1))) d m):=hid (by
     have:=put_new g tb1 _ d m wr hw1 (fxT (x::t')) hl1
     rw[List.append_assoc,← htk] at this
     rw[hfx] at this
     exact this)
    have hU' : ¬((65:Int)≤(x.toNat:Int))∨((65:Int)≤(x.toNat:Int)∧¬((x.toNat:Int)≤90)):=by
     by_cases h1:(65:Int)≤(x.toNat:Int)
     ·refine .inr ⟨h1,fun h2=>hU ⟨UInt8.le_iff_toNat_le.2 ?_,UInt8.le_iff_toNat_le.2 ?_⟩⟩
      ·simp;omega
      ·simp;omega
     ·exact .inl h1
    rw[← hxv] at hU'
    clear hw1 ht htk hl1 hfx ht1 hf1 hU hxv
    rcases hU' with h65 | ⟨h65,h90⟩
    ·go_wp2_with fail
     refine HP.out.mono ?_
     rintro e w2 ⟨rfl,h2⟩
     have HQ:=hid (Wrote.then HT1.out HF1.out h2)
     clear h2 HP
     go_wp2
     go_roundw
     case rel=>exact⟨k+1,by omega,by go_num,HQ.out⟩
     case measure=>simp[intOf];omega
    ·go_wp2_with fail
     refine HP.out.mono ?_
     rintro e w2 ⟨rfl,h2⟩
     have HQ:=hid (Wrote.then HT1.out HF1.out h2)
     clear h2 HP
     go_wp2
     go_roundw
     case rel=>exact⟨k+1,by omega,by go_num,HQ.out⟩
     case measure=>simp[intOf];omega
  ·have hlt' : ¬((k:Int)<(ts.length:Int)):=by omega
   have HQ:Hid (Wrote g tb w wr (L++wordsK ts) d m):=hid (by rw[List.take_of_length_le (by omega)] at hq;exact hq)
   clear hq
   go_wp2
   exact bodyPost_end (v:=.tuple #[]) (by simp[results,Tryz.results68,go_sem]) rfl ⟨rfl,HQ.out⟩
theorem fixed_new (g:Nat) (tb:Option Nat) (L:List Tk) (d m:Int) (ts:List (List UInt8)) (w:World) (h:WrAt w g tb L d m) (hl:ts.length≤1000) (hne : ∀t∈ts,t≠[]) (hL:L.length+ts.length≤1000000000) :
  Calls Tryz.prog 68 #[.pointer (some ⟨g,0,none⟩),.slice (some ⟨w.heap.size,0,none⟩) ts.length ts.length] (w.alloc (.cells (ts.map fun t=>Value.string (str8 t)).toArray 9)) fun e w'=>e = .returned (.tuple #[])∧Wrote g tb w w' (L++wordsK ts) d m:=by
 have hb:Below w.heap.size w (w.alloc (.cells (ts.map fun t=>Value.string (str8 t)).toArray 9)):=(Below.refl _ _).alloc (Nat.le_refl _) _
 refine (fixed_any g tb L d m _ (h.below hb) _ ts ⟨_,_,rfl,hl,fun _=>⟨_,rfl,by have:=h.lt;omega,fun e=>by have:=(h.tbs _ e).2;omega,by simp,fun j t ht=>?_⟩⟩ hne hL).mono ?_
 ·rw[cell_of_row _ _ _ _ _ _ (heap_alloc_new w _)]
  simp[ht]
 ·rintro e w' ⟨rfl,h1⟩
  exact⟨rfl,h1.new hb⟩
end Go.Proofs.YtnidnipiihhnaaaGreatDoor
