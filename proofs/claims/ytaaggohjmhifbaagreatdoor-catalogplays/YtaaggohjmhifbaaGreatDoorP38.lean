/- Packed for the hand-in: CLaysS CSort CAll -/
import Derived.Shelf.SlSortCmp.SmallK
import Derived.Shelf.SlSortCmp.NoneTotal
import Derived.Test.YtaaggohjmhifbaaGreatDoorChecked
import Derived.Test.YtaaggohjmhifbaaGreatDoorP34
import Derived.Shelf.SlSortCmp.WholeK
import Derived.Test.YtaaggohjmhifbaaGreatDoorP37
namespace Go.Proofs.YtaaggohjmhifbaaGreatDoor
open Go.Shelf
set_option linter.unusedVariables false
set_option maxRecDepth 100000
set_option maxHeartbeats 8000000
def renSo:Ren:=⟨fun x=>if x=6 then 43 else if x=14 then 76 else if x=15 then 77 else if x=20 then 140 else if x=21 then 141 else if x=22 then 142 else if x=23 then 143 else if x=24 then 144 else if x=25 then 145 else if x=26 then 146 else if x=27 then 147 else if x=28 then 148 else if x=29 then 149 else if x=46 then 203 else if x=47 then 204 else if x=48 then 205 else if x=49 then 206 else if x=50 then 207 else if x=57 then 244 else x,fun x=>if x=0 then 0 else if x=3 then 3 else if x=4 then 4 else if x=5 then 5 else if x=9 then 9 else if x=22 then 56 else if x=24 then 31 else if x=25 then 82 else if x=39 then 121 else if x=45 then 175 else if x=46 then 176 else if x=50 then 180 else if x=53 then 183 else if x=55 then 185 else if x=66 then 224 else if x=70 then 228 else if x=76 then 256 else if x=77 then 257 else x,fun x=>x⟩
theorem laysSo:SlLaysF0.n6 Tryz.prog renSo where
 mixed:=by kernel_rfl
 f6:=⟨"slices.SortFunc[[]vestry/api.Table,vestry/api.Table]", by decide,by kernel_rfl⟩
 f14:=⟨"slices.pdqsortCmpFunc[vestry/api.Table]", by decide,by kernel_rfl⟩
 f15:=by kernel_rfl
 f20:=⟨"slices.insertionSortCmpFunc[vestry/api.Table]", by decide,by kernel_rfl⟩
 f21:=⟨"slices.heapSortCmpFunc[vestry/api.Table]", by decide,by kernel_rfl⟩
 f22:=⟨"slices.breakPatternsCmpFunc[vestry/api.Table]", by decide,by kernel_rfl⟩
 f23:=⟨"slices.choosePivotCmpFunc[vestry/api.Table]", by decide,by kernel_rfl⟩
 f24:=⟨"slices.reverseRangeCmpFunc[vestry/api.Table]", by decide,by kernel_rfl⟩
 f25:=⟨"slices.partialInsertionSortCmpFunc[vestry/api.Table]", by decide,by kernel_rfl⟩
 f26:=⟨"slices.partitionEqualCmpFunc[vestry/api.Table]", by decide,by kernel_rfl⟩
 f27:=⟨"slices.partitionCmpFunc[vestry/api.Table]", by decide,by kernel_rfl⟩
 f28:=by kernel_rfl
 f29:=by kernel_rfl
 f46:=⟨"slices.siftDownCmpFunc[vestry/api.Table]", by decide,by kernel_rfl⟩
 f47:=by kernel_rfl
 f48:=by kernel_rfl
 f49:=⟨"slices.medianAdjacentCmpFunc[vestry/api.Table]", by decide,by kernel_rfl⟩
 f50:=⟨"slices.medianCmpFunc[vestry/api.Table]", by decide,by kernel_rfl⟩
 f57:=⟨"slices.order2CmpFunc[vestry/api.Table]", by decide,by kernel_rfl⟩
 t0:=by kernel_rfl
 a0:=fun w=>by kernel_rfl
 z0:=fun w=>by kernel_rfl
 v0:=fun w=>by kernel_rfl
 t3:=by kernel_rfl
 a3:=fun w=>by kernel_rfl
 z3:=fun w=>by kernel_rfl
 v3:=fun w=>by kernel_rfl
 t4:=by kernel_rfl
 a4:=fun w=>by kernel_rfl
 z4:=fun w=>by kernel_rfl
 v4:=fun w=>by kernel_rfl
 t5:=by kernel_rfl
 a5:=fun w=>by kernel_rfl
 z5:=fun w=>by kernel_rfl
 v5:=fun w=>by kernel_rfl
 t9:=by kernel_rfl
 a9:=fun w=>by kernel_rfl
 z9:=fun w=>by kernel_rfl
 v9:=fun w=>by kernel_rfl
 t22:=by kernel_rfl
 a22:=fun w=>by kernel_rfl
 z22:=fun w=>by kernel_rfl
 v22:=fun w=>by kernel_rfl
 t25:=by kernel_rfl
 a25:=fun w=>by kernel_rfl
 z25:=fun w=>by kernel_rfl
 v25:=fun w=>by kernel_rfl
 t39:=by kernel_rfl
 a39:=fun w=>by kernel_rfl
 z39:=fun w=>by kernel_rfl
 v39:=fun w=>by kernel_rfl
 t45:=by kernel_rfl
 a45:=fun w=>by kernel_rfl
 z45:=fun w=>by kernel_rfl
 v45:=fun w=>by kernel_rfl
 t46:=by kernel_rfl
 a46:=fun w=>by kernel_rfl
 z46:=fun w=>by kernel_rfl
 v46:=fun w=>by kernel_rfl
 t50:=by kernel_rfl
 a50:=fun w=>by kernel_rfl
 z50:=fun w=>by kernel_rfl
 v50:=fun w=>by kernel_rfl
 t53:=by kernel_rfl
 a53:=fun w=>by kernel_rfl
 z53:=fun w=>by kernel_rfl
 v53:=fun w=>by kernel_rfl
 t55:=by kernel_rfl
 a55:=fun w=>by kernel_rfl
 z55:=fun w=>by kernel_rfl
 v55:=fun w=>by kernel_rfl
 t66:=by kernel_rfl
 a66:=fun w=>by kernel_rfl
 z66:=fun w=>by kernel_rfl
 v66:=fun w=>by kernel_rfl
 t70:=by kernel_rfl
 a70:=fun w=>by kernel_rfl
 z70:=fun w=>by kernel_rfl
 v70:=fun w=>by kernel_rfl
 t76:=by kernel_rfl
 a76:=fun w=>by kernel_rfl
 z76:=fun w=>by kernel_rfl
 v76:=fun w=>by kernel_rfl
 t77:=by kernel_rfl
 a77:=fun w=>by kernel_rfl
 z77:=fun w=>by kernel_rfl
 v77:=fun w=>by kernel_rfl
end Go.Proofs.YtaaggohjmhifbaaGreatDoor
namespace Go.Proofs.YtaaggohjmhifbaaGreatDoor
open Go.RowKit Go.Shelf Go.Lib Go.Sort
set_option linter.unusedSimpArgs false
set_option linter.unusedVariables false
set_option maxRecDepth 20000
set_option maxHeartbeats 8000000
abbrev Rw:=List UInt8 × (Option Addr × Nat × Nat) × Int × List Co
def encR (x:Rw):List Value:=[.string (str8 x.1),.slice x.2.1.1 x.2.1.2.1 x.2.1.2.2,.int .i64 x.2.2.1]
def cmpR (x y:Rw):Int:=cmpS x.1 y.1
theorem ltR (x y:Rw):ltOf cmpR x y=Op.bytesLess x.1 y.1:=by
 unfold ltOf cmpR cmpS
 cases Op.bytesLess x.1 y.1 with
 | true=>rfl
 |
  false =>
  by_cases h:x.1=y.1
  ·simp[h]
  ·simp[h]
theorem less_irr : ∀a:List UInt8,Op.bytesLess a a=false
 | []=>rfl
 |
  x::a=>by
  unfold Op.bytesLess
  simp[less_irr a]
theorem less_tr : ∀a b c:List UInt8,Op.bytesLess a b=true→Op.bytesLess b c=true→Op.bytesLess a c=true
 | [],[],_,h,_=>by simp[Op.bytesLess] at h
 | _::_,[],_,h,_=>by simp[Op.bytesLess] at h
 | _,_::_,[],_,h=>by simp[Op.bytesLess] at h
 | [],b::ms,c::cs,_,_=>by simp[Op.bytesLess]
 |
  a::ls,b::ms,c::cs,h1,h2=>by
  simp only[Op.bytesLess,Bool.or_eq_true,Bool.and_eq_true,decide_eq_true_eq,beq_iff_eq] at h1 h2 ⊢
  rcases h1 with h1 | ⟨rfl,h1⟩
  ·rcases h2 with h2 | ⟨rfl,h2⟩
   ·exact .inl (UInt8.lt_trans h1 h2)
   ·exact .inl h1
  ·rcases h2 with h2 | ⟨rfl,h2⟩
   ·exact .inl h2
   ·exact .inr ⟨rfl,less_tr ls ms cs h1 h2⟩
theorem less_tot : ∀a b:List UInt8,Op.bytesLess a b=false→Op.bytesLess b a=false→a=b
 | [],[],_,_=>rfl
 | [],_::_,h,_=>by simp[Op.bytesLess] at h
 | _::_,[],_,h=>by simp[Op.bytesLess] at h
 |
  a::ls,b::ms,h1,h2=>by
  simp only[Op.bytesLess,Bool.or_eq_false_iff,Bool.and_eq_false_iff,decide_eq_false_iff_not,beq_eq_false_iff_ne] at h1 h2
  have e:a=b:=by
   apply UInt8.le_antisymm
   ·exact UInt8.not_lt.1 h2.1
   ·exact UInt8.not_lt.1 h1.1
  subst e
  rw[less_tot ls ms (by rcases h1.2 with h | h;exact absurd rfl h;exact h) (by rcases h2.2 with h | h;exact absurd rfl h;exact h)]
theorem swoR:SWO (ltOf cmpR) where
 irrefl:=fun x=>by rw[ltR,less_irr]
 trans:=fun x y z h1 h2=>by rw[ltR] at *;exact less_tr _ _ _ h1 h2
 ntrans:=fun x y z h1 h2=>by
  rw[ltR] at *
  cases h:Op.bytesLess x.1 z.1 with
  | false=>rfl
  |
   true =>
   cases h3:Op.bytesLess z.1 y.1 with
   | true=>rw[less_tr _ _ _ h h3] at h1;cases h1
   |
    false =>
    rw[less_tot _ _ h2 h3] at h1
    rw[h] at h1
    cases h1
theorem closureR (x y:Rw) (W:World):Calls Tryz.prog 44 #[.agg (encR x).toArray,.agg (encR y).toArray] W fun e w'=>e = .returned (.int .i64 (cmpR x y))∧∃q os',w'=grow (W.drewN q) os':=by
 obtain⟨xn,⟨x1,x2,x3⟩,xp,_⟩:=x
 obtain⟨yn,⟨y1,y2,y3⟩,yp,_⟩:=y
 have HC:=hid (fun V=>cmpStr_any xn yn V)
 show Calls Tryz.prog 44 #[.agg #[.string (str8 xn),.slice x1 x2 x3,.int .i64 xp],.agg #[.string (str8 yn),.slice y1 y2 y3,.int .i64 yp]] W fun e w'=>e = .returned (.int .i64 (cmpS xn yn))∧∃q os',w'=grow (W.drewN q) os'
 generalize cmpS xn yn=r at HC ⊢
 go_enter Tryz.func44,Tryz.ntmps44
 go_wp2_with (go_at_call 45;refine (HC.out _).mono ?_;rintro e w' ⟨rfl,rfl⟩)
 go_ret
 exact⟨rfl,0,_,by rw[alloc_eq_grow,alloc_eq_grow,grow_grow];rfl⟩
theorem sort_world {w:World} {blk n:Nat} {d d':Array Rw} {os:Array Obj} (hH:HoldsK encR 3 w blk 0 d) (hblk:blk<w.heap.size) (hs:d'.size=d.size):HoldsK encR 3 (sortWorldK encR 3 w blk 0 n d' os) blk 0 d'∧Spares (fun k=>k=blk) w (sortWorldK encR 3 w blk 0 n d' os):=by
 have h1:HoldsK encR 3 (putRowK encR 3 (Sort.ahead w n) blk 0 d') blk 0 d':=holdsK_putRowK encR 3 (Sort.ahead w n) blk 0 d d' hH hs
 have hz:(putRowK encR 3 (Sort.ahead w n) blk 0 d').heap.size=w.heap.size:=by simp[putRowK,putRow,mapBlock,Sort.ahead]
 refine ⟨holdsK_grow encR 3 _ os blk 0 d' (by rw[hz];exact hblk) h1,rfl,rfl,rfl,?_,fun k hk hne=>?_⟩
 ·show w.heap.size≤((putRowK encR 3 (Sort.ahead w n) blk 0 d').heap++os).size
  rw[Array.size_append,hz]
  omega
 ·show ((putRowK encR 3 (Sort.ahead w n) blk 0 d').heap++os)[k]?=w.heap[k]?
  rw[Array.getElem?_append_left (by rw[hz];exact hk)]
  show (w.heap.modify blk _)[k]?=_
  rw[Array.getElem?_modify,if_neg (fun e=>hne e.symm)]
theorem sortT_any (d:Array Rw) (blk cap:Nat) (w:World) (hH:HoldsK encR 3 w blk 0 d) (hblk:blk<w.heap.size) (hd:d.size≤6) :
  Calls Tryz.prog 43 #[.slice (some ⟨blk,0,none⟩) d.size cap,.func (.func 44) #[] #[]] w fun e w'=>e = .returned (.tuple #[])∧∃d':Array Rw,d'.toList.Perm d.toList∧(∀i j,i<j→j<d.size→Op.bytesLess (d'[j]!).1 (d'[i]!).1=false)∧HoldsK encR 3 w' blk 0 d'∧Spares (fun k=>k=blk) w w':=by
 refine (AnyQ.slices_SortFunc laysSo 3 Tryz.isAgg31 Tryz.sizeOf31 encR (fun _=>rfl) (fun x v hv=>by simp only[encR,List.mem_cons,List.not_mem_nil,or_false] at hv;rcases hv with rfl | rfl | rfl<;>rfl) cmpR swoR 44 #[] blk 0 cap d w (enters_of Tryz.func44 (by kernel_rfl) rfl) (fun _ _ _ _ x y=>closureR x y _) hH hblk (by omega)).mono ?_
 rintro e w' ⟨rfl,d',n,os,hp,hs,rfl⟩
 have hw:=sort_world (n:=n) (os:=os) hH hblk hp.1
 refine ⟨rfl,d',?_,fun i j hij hj=>?_,hw.1,hw.2⟩
 ·have h3:=hp.2.2
  rw[show d'.extract 0 d.size=d' by rw[← hp.1];simp,show d.extract 0 d.size=d by simp] at h3
  exact h3
 ·have:=hs i j (Nat.zero_le _) hij hj
  rw[ltR] at this
  exact this
end Go.Proofs.YtaaggohjmhifbaaGreatDoor
namespace Go.Proofs.YtaaggohjmhifbaaGreatDoor
open Go.RowKit Go.Shelf Go.Lib Go.Maps Go.Sort
set_option linter.unusedSimpArgs false
set_option linter.unusedVariables false
set_option maxRecDepth 20000
set_option maxHeartbeats 8000000
def TbS (S:Nat→Prop) (w:World) (t:Tb) (cs:List Value):Prop:=∃(aa:Option Addr) (nn cc:Nat),cs=[.string (str8 t.nm),.slice aa nn cc,.int .i64 t.pr]∧w.ownsRow 0 37 4 (.slice aa nn cc) t.cols.length (colsC t.cols)∧∀b,(Value.slice aa nn cc).ownBlock=some b→S b
theorem TbS.to {S R T:Nat→Prop} {w w':World} {t:Tb} {cs:List Value} (h:TbS S w t cs) (hk:Spares R w w') (hS : ∀b,S b→b<w.heap.size→¬R b∧T b):TbS T w' t cs:=by
 obtain⟨aa,nn,cc,h1,h2,h3⟩:=h
 exact⟨aa,nn,cc,h1,hk.row h2 (fun b hb=>(hS b (h3 b hb) (h2.lt b hb).2).1),fun b hb=>(hS b (h3 b hb) (h2.lt b hb).2).2⟩
theorem TbO.s {base:Nat} {w:World} {t:Tb} {cs:List Value} (h:TbO base w t cs):TbS (fun b=>base≤b∧b<w.heap.size) w t cs:=by
 obtain⟨aa,nn,cc,h1,h2⟩:=h
 exact⟨aa,nn,cc,h1,owns_lower h2 (fun _ _=>Nat.zero_le _),fun b hb=>h2.lt b hb⟩
theorem TbS.e {S:Nat→Prop} {w:World} {t:Tb} {cs:List Value} (h:TbS S w t cs):TbE S w t cs:=by
 obtain⟨aa,nn,cc,h1,h2,h3⟩:=h
 exact⟨aa,nn,cc,h1,SlAt.of_owns (by decide) h2 (els_col _ w _) h3⟩
theorem Tryz.infoTb:(Tryz.prog.info? 31).map (fun i=>(i.zero,i.size,i.bytes))=some (some (.agg #[.string ⟨#[]⟩,.slice none 0 0,.int .i64 0]),3,48):=by kernel_rfl
theorem rangesT_spares {w w':World} {S:Nat→Prop} {b r n cnt:Nat} {D:DataW Value} {left:Lit→Bool} (h:w.ranges Tryz.prog 9 rawT b r n D left cnt) (hk:Spares S w w') (hb : ¬S b) (hr : ¬S r):w'.ranges Tryz.prog 9 rawT b r n D left cnt:=by
 have h1:=h.owns.lt
 have h2:=h.lt
 obtain⟨es,clock,since,seen,c0,hb',F,hs,hD,hr',rest⟩:=h
 exact⟨es,clock,since,seen,c0,(hk.block b h1 hb).trans hb',F,hs,hD,(hk.block r h2 hr).trans hr',rest⟩
structure AlI (w0 wr:World) (mb r:Nat) (E:DataW Value) (L:List Tb) (left:Lit→Bool) (cnt:Nat) (l:Value) (G:List Tb) (css:List (List Value)):Prop where
 rg:wr.ranges Tryz.prog 9 rawT mb r L.length E left cnt
 own:wr.ownsRow w0.heap.size 31 3 l G.length css.flatten
 els:Els 3 TbS (fun b=>w0.heap.size≤b∧l.ownBlock≠some b) wr G css
 mem : ∀t∈G,t∈L∧left (.string t.nm)=false
 all : ∀t∈L,t∈G∨left (.string t.nm)=true
 once:(G.map Tb.nm).Nodup
 keep:Spares (fun i=>i=r) w0 wr
theorem AlI.step {w0 wr w1 V w3:World} {mb r cnt cnt1:Nat} {E:DataW Value} {L:List Tb} {left:Lit→Bool} {l v3:Value} {G:List Tb} {css:List (List Value)} {t:Tb} {cs:List Value} (h:AlI w0 wr mb r E L left cnt l G css) (hn:(L.map Tb.nm).Nodup) (hmb:mb<r) (hr:w0.heap.size=r+1) (ht:t∈L) (hlk:left (.string t.nm)=true)
  (hrg:w1.ranges Tryz.prog 9 rawT mb r L.length E (fun z=>left z&&!z.sameKey (.string t.nm)) cnt1) (hB:Below w1.heap.size w1 V) (hk:Spares (fun i=>i=r) wr V) (hSp:Spares (fun b=>l.ownBlock=some b) V w3) (hown:w3.ownsRow w0.heap.size 31 3 v3 (G.length+1) (css.flatten++cs))
  (hE:Els 3 TbS (fun b=>w0.heap.size≤b∧l.ownBlock≠some b∧b<V.heap.size) V (G++[t]) (css++[cs])) (hwh:v3.ownBlock=l.ownBlock∨v3.ownBlock=some V.heap.size):AlI w0 w3 mb r E L (fun z=>left z&&!z.sameKey (.string t.nm)) cnt1 v3 (G++[t]) (css++[cs]) where
 rg:=rangesT_spares (rangesT_spares hrg (Spares.of_new (S:=fun _=>False) hB) id id) hSp (fun e=>by have:=(h.own.lt _ e).1;omega) (fun e=>by have:=(h.own.lt _ e).1;omega)
 own:=by
  rw[List.flatten_append,List.length_append]
  simpa using hown
 els:=hE.to (fun z cs e=>e.to hSp (fun b hb _=>⟨hb.2.1,hb.1,fun e3=>by
  rcases hwh with h1 | h1
  ·exact hb.2.1 (h1 ▸ e3)
  ·rw[h1] at e3;have:=hb.2.2;simp at e3;omega⟩))
 mem:=fun x hx=>by
  rcases List.mem_append.1 hx with hx | hx
  ·exact⟨(h.mem x hx).1,by rw[(h.mem x hx).2];rfl⟩
  ·obtain rfl:=List.mem_singleton.1 hx
   exact⟨ht,by simp[Lit.sameKey]⟩
 all:=fun x hx=>by
  rcases h.all x hx with h1 | h1
  ·exact .inl (by simp[h1])
  ·by_cases e:x.nm=t.nm
   ·left
    have:x=t:=by rw[← findT_in hn hx,← findT_in hn ht,e]
    simp[this]
   ·right
    show (left _&&!Lit.sameKey _ _)=true
    rw[h1]
    simp[Lit.sameKey,e]
 once:=by
  rw[List.map_append,List.nodup_append]
  refine ⟨h.once,by simp,fun a ha b hb e=>?_⟩
  obtain⟨x,hx,rfl⟩:=List.mem_map.1 ha
  simp only[List.map_cons,List.map_nil,List.mem_singleton] at hb
  have:=(h.mem x hx).2
  rw[e,hb,hlk] at this
  cases this
 keep:=(h.keep.then hk).andThen hSp (fun i hi=>.inr (h.own.lt i hi).1)
theorem nodup_of_map {α β:Type} (g:α→β) {l:List α} (h:(l.map g).Nodup):l.Nodup:=by
 have h':l.Pairwise (fun a b=>g a≠g b):=List.pairwise_map.1 h
 exact h'.imp (fun {a b} hab e=>hab (by rw[e]))
theorem key_inv {key:Value} {kl:Lit} (h:keyOf Tryz.prog 9 key=some kl):∃s:ByteArray,key = .string s∧kl = .string s.data.toList∧s.size≤maxLen:=by
 cases key<;>simp[keyOf,Tryz.underlying9,mapKey] at h
 exact⟨_,rfl,h.2.symm,h.1⟩
def tbR (x:Rw):Tb:=⟨x.1,x.2.2.2,x.2.2.1⟩
theorem els_rw {S:Nat→Prop} {w:World}:∀(G:List Tb) (css:List (List Value)),Els 3 TbS S w G css→∃D:List Rw,D.map tbR=G∧D.map encR=css
 |
  [],css,h=>by
  have:=h.1
  obtain rfl:css=[]:=List.eq_nil_of_length_eq_zero this
  exact⟨[],rfl,rfl⟩
 | t::G,[],h=>by have:=h.1;simp at this
 |
  t::G,cs::css,h=>by
  obtain⟨D,h1,h2⟩:=els_rw G css ⟨by have:=h.1;simpa using this,fun j x c hx hc=>h.2 (j+1) x c (by simpa using hx) (by simpa using hc)⟩
  obtain⟨_,aa,nn,cc,h3,_⟩:=h.2 0 t cs rfl rfl
  exact⟨(t.nm,(aa,nn,cc),t.pr,t.cols)::D,by simp[h1,tbR],by simp[h2,h3,encR]⟩
theorem enc_at : ∀(D:List Rw) (t:Nat) (h:t<D.length*3),(D.map encR).flatten[t]?=some ((encR D.toArray[t / 3]!)[t % 3]!):=by
 intro D t h
 have hq:t / 3<D.length:=by omega
 have e:=flatten_at 3 (D.map encR) (fun cs hc=>by obtain⟨x,_,rfl⟩:=List.mem_map.1 hc;rfl) (t / 3) (t % 3) (encR D[t / 3]) ((encR D[t / 3])[t % 3]!) (by simp[hq]) (by
  have:t % 3<(encR D[t / 3]).length:=by show _<3;omega
  rw[List.getElem?_eq_getElem this];simp[List.getElem!_eq_getElem?_getD,this])
 rw[show t / 3*3+t % 3=t by omega] at e
 rw[e]
 simp[hq]
theorem holds_of_owns {w:World} {base g n cap:Nat} {D:List Rw} (h:w.ownsRow base 31 3 (.slice (some ⟨g,0,none⟩) n cap) n (D.map encR).flatten) (hn:D.length=n):HoldsK encR 3 w g 0 D.toArray:=by
 intro j hj
 simp only[size_flatK,List.size_toArray] at hj
 rw[get_flatK _ _ _ _ (by simpa using hj),Nat.zero_add]
 refine ⟨?_,h.frozenAt j⟩
 rw[h.cellAt j (by omega),enc_at D j hj]
 rfl
theorem sorted_els (base:Nat) (l:Value) (G:List Tb) (css:List (List Value)) (w:World) (S:Nat→Prop) (h:w.ownsRow base 31 3 l G.length css.flatten) (hE:Els 3 TbS S w G css) (hS : ∀b,S b→base≤b∧l.ownBlock≠some b) (h6:G.length≤6) :
  Calls Tryz.prog 43 #[l,.func (.func 44) #[] #[]] w fun e w'=>e = .returned (.tuple #[])∧∃T:List Tb,T.Perm G∧(∀(i j:Nat) (a b:Tb),i<j→T[i]?=some a→T[j]?=some b→Op.bytesLess b.nm a.nm=false)∧SlAt 3 TbS (fun b=>base≤b) w' T l∧Spares (fun k=>l.ownBlock=some k) w w':=by
 rcases Nat.eq_zero_or_pos G.length with h0 | h0
 ·obtain rfl:G=[]:=List.eq_nil_of_length_eq_zero h0
  obtain⟨p,cap,rfl⟩:∃p cap,l = .slice p 0 cap:=by
   rcases h.2 with⟨rfl,_⟩ | ⟨g,cap,cur,rfl,_⟩
   ·exact⟨_,_,rfl⟩
   ·exact⟨_,_,rfl⟩
  refine (AnyF.slices_SortFunc_none laysSo p cap _ w).mono ?_
  rintro e w' ⟨rfl,rfl⟩
  exact⟨rfl,[],List.Perm.refl _,fun i j a b _ hi=>by simp at hi,SlAt.of_owns (by decide) h (hE.to (fun _ _ e=>e.to (R:=fun _=>False) (Spares.refl _ _) (fun b hb _=>⟨id,(hS b hb).1⟩))) (fun b hb=>(h.lt b hb).1),Spares.refl _ _⟩
 ·obtain⟨g,cap,rfl,hb,hg,hnc,hcm⟩:∃g cap,l = .slice (some ⟨g,0,none⟩) G.length cap∧base≤g∧g<w.heap.size∧G.length≤cap∧cap≤maxLen:=by
   rcases h.2 with⟨_,h1⟩ | ⟨g,cap,cur,hv,hb,hg,h1,h2,_⟩
   ·omega
   ·exact⟨g,cap,hv,hb,(Array.getElem?_eq_some_iff.1 hg).1,h1,h2⟩
  obtain⟨D,hD1,hD2⟩:=els_rw G css hE
  have hl:D.length=G.length:=by rw[← hD1];simp
  have hH:HoldsK encR 3 w g 0 D.toArray:=holds_of_owns (by rw[hD2];exact h) hl
  have hs:=sortT_any D.toArray g cap w hH hg (by simpa [hl] using h6)
  rw[show D.toArray.size=G.length by simpa using hl] at hs
  refine hs.mono ?_
  rintro e w' ⟨rfl,d',hp,hso,hH',hk⟩
  obtain⟨D'⟩:=d'
  dsimp only at hp
  have hl':D'.length=G.length:=by rw[hp.length_eq,hl]
  refine ⟨rfl,D'.map tbR,by rw[← hD1];exact hp.map tbR,fun i j a b hij hi hj=>?_,?_,hk.mono (fun i hi=>by subst hi;rfl)⟩
  ·have hjl:j<D'.length:=by have:=(List.getElem?_eq_some_iff.1 hj).1;simpa using this
   have hil:i<D'.length:=by omega
   have:=hso i j hij (by simpa [hl] using (hl' ▸ hjl))
   simp only[List.getElem?_map,List.getElem?_eq_getElem hil,List.getElem?_eq_getElem hjl,Option.map_some,Option.some.injEq] at hi hj
   subst hi hj
   simpa [hil,hjl,tbR] using this
  ·refine ⟨some ⟨g,0,none⟩,cap,D'.map encR,by simp[hl'],by simpa [hl'] using hnc,hcm,⟨by simp,fun j x cs hx hc=>?_⟩,fun _=>⟨g,0,rfl,hb,fun j cs hj i u hu=>?_⟩⟩
   ·have hjl:j<D'.length:=by have:=(List.getElem?_eq_some_iff.1 hx).1;simpa using this
    simp only[List.getElem?_map,List.getElem?_eq_getElem hjl,Option.map_some,Option.some.injEq] at hx hc
    subst hx hc
    refine ⟨rfl,?_⟩
    obtain⟨q,hq,e⟩:=List.getElem_of_mem (hp.mem_iff.1 (List.getElem_mem hjl))
    have:=(hE.2 q (tbR D'[j]) (encR D'[j]) (by rw[← hD1];simp[hq,e]) (by rw[← hD2];simp[hq,e])).2
    exact this.to hk (fun b hb2 _=>⟨fun e2=>(hS b hb2).2 (by rw[e2];rfl),(hS b hb2).1⟩)
   ·have hjl:j<D'.length:=by have:=(List.getElem?_eq_some_iff.1 hj).1;simpa using this
    simp only[List.getElem?_map,List.getElem?_eq_getElem hjl,Option.map_some,Option.some.injEq] at hj
    subst hj
    have hi3:i<3:=by have:=(List.getElem?_eq_some_iff.1 hu).1;simpa [encR] using this
    have:=(hH'.cell (i:=j) (c:=i) (by simpa using hjl) hi3).1
    rw[this]
    simp only[List.getElem!_toArray]
    rw[List.getElem!_eq_getElem?_getD (l:=D'),List.getElem?_eq_getElem hjl,Option.getD_some,List.getElem!_eq_getElem?_getD,hu]
    rfl
theorem perm_of_all {L G:List Tb} (hn:(L.map Tb.nm).Nodup) (hg:(G.map Tb.nm).Nodup) (h1 : ∀t∈G,t∈L) (h2 : ∀t∈L,t∈G):G.Perm L:=by
 refine (List.perm_ext_iff_of_nodup ?_ ?_).2 (fun t=>⟨h1 t,h2 t⟩)
 ·exact nodup_of_map _ hg
 ·exact nodup_of_map _ hn
theorem nodup_le : ∀(G L:List (List UInt8)),G.Nodup→(∀x∈G,x∈L)→G.length≤L.length
 | [],_,_,_=>Nat.zero_le _
 |
  x::G,L,hn,h=>by
  have hx:=h x (by simp)
  have h1:=nodup_le G (L.erase x) (List.nodup_cons.1 hn).2 (fun y hy=>(List.mem_erase_of_ne (fun e:y=x=>(List.nodup_cons.1 hn).1 (e ▸ hy))).2 (h y (by simp[hy])))
  rw[List.length_erase_of_mem hx] at h1
  have:=List.length_pos_of_mem hx
  simp only[List.length_cons]
  omega
theorem le_of_mem {L G:List Tb} {left:Lit→Bool} (hn:(L.map Tb.nm).Nodup) (hg:(G.map Tb.nm).Nodup) (h : ∀t∈G,t∈L∧left (.string t.nm)=false):G.length≤L.length :=
 by
 have:=nodup_le (G.map Tb.nm) (L.map Tb.nm) hg (fun x hx=>by obtain⟨t,ht,rfl⟩:=List.mem_map.1 hx;exact List.mem_map.2 ⟨t,(h t ht).1,rfl⟩)
 simpa using this
theorem call_any (sb mb:Nat) (E:DataW Value) (f:List UInt8→Value) (L:List Tb) (S:Nat→Prop) (w:World) (h:CatAt w sb mb E f L S) :
  Calls Tryz.prog 27 #[.pointer (some ⟨sb,0,none⟩)] w fun e w'=>∃(v:Value) (T:List Tb),e = .returned v∧T.Perm L∧(∀(i j:Nat) (a b:Tb),i<j→T[i]?=some a→T[j]?=some b→Op.bytesLess b.nm a.nm=false)∧SlAt 3 TbS (fun b=>w.heap.size≤b) w' T v∧Below w.heap.size w w':=by
 obtain⟨i0,hi,hy0,hy1,hy2⟩:=info_parts Tryz.infoTb
 obtain⟨w0,hrange,hrg,hg0,hz0⟩:=h.m.range lawS Tryz.underlying75
 have h0:CatAt w0 sb mb E f L S:=h.keeps (T:=fun _=>False) (Spares.of_grown hg0 (fun k e=>by cases e)) (fun _ _=>id)
 have hc:=h.cell
 have hB0:Below w.heap.size w w0:=(Spares.of_grown (S:=fun _=>False) hg0 (fun k e=>by cases e)).below (fun i hi=>hi.elim) (Nat.le_refl _)
 have HC0:=hid h0
 have HLS:=hid h.lt
 have HB0:=hid hB0
 have hmb:mb<w.heap.size:=h.lt mb h.inS.2
 have hst:AlI w0 w0 mb w.heap.size E L (Maps.has E) (Maps.size E) (.slice none 0 0) [] []:=⟨hrg,World.ownsRow_nil _ _ _ _,Els.nil,(fun t ht=>by cases ht),fun t ht=>.inr (by rw[h.has t.nm (by have:=(may_short (h.ok t ht)).1.1;unfold maxLen;omega)];exact decide_eq_true (List.mem_map.2 ⟨t,ht,rfl⟩)),List.nodup_nil,Spares.refl _ _⟩
 have HST:=hid hst
 clear hg0 hrg h0 hB0 h hst
 go_enter Tryz.func27,Tryz.ntmps27
 go_wp2_with fail
 go_loopw [3] (fun l wr=>∃left cnt G css,Hid (AlI w0 wr mb w.heap.size E L left cnt l G css)) (fun _ wr=>wr.rangeLeft mb w.heap.size)
 case atStart=>exact⟨_,_,_,_,HST⟩
 case round =>
  clear HST
  obtain⟨left,cnt,G,css,HA⟩:=hrel
  go_wp2_with (first | (at_next;refine wpList_next_ranges _ rfl _ rfl 9 lawS rawT Value.string (fun v:Value=>v) (fun key kl hk=>by obtain⟨x,e,_⟩:=key_inv hk;exact⟨x,e⟩) (fun v y _=>⟨v,rfl⟩) mb w.heap.size L.length E left cnt rfl HA.out.rg ?_ ?_) | go_in)
  ·intro _ hl0
   have hA:=HA.out
   have hperm:G.Perm L:=perm_of_all HC0.out.once hA.once (fun t ht=>(hA.mem t ht).1) (fun t ht=>by rcases hA.all t ht with h | h;exact h;rw[hl0] at h;cases h)
   have HSO:=hid (sorted_els w0.heap.size u3 G css wr _ hA.own hA.els (fun b hb=>hb) (by rw[hperm.length_eq];exact HC0.out.six))
   have HK:=hid hA.keep
   have HP:=hid hperm
   have HOL:=hid hA.own.lt
   clear hA hperm HA hl0
   go_wp2_with fail
   refine HSO.out.mono ?_
   rintro e w' ⟨rfl,T,h1,h2,h3,h4⟩
   go_wp2
   go_ret
   refine ⟨_,T,rfl,h1.trans HP.out,h2,h3.to (by decide) (R:=fun _=>False) (Spares.refl _ _) (fun b hb _=>⟨id,by omega⟩) (fun _ _ e=>e.to (R:=fun _=>False) (Spares.refl _ _) (fun b hb _=>⟨id,by omega⟩)),?_⟩
   exact HB0.out.trans ((HK.out.below (B:=w.heap.size) (fun i hi=>by omega) (by omega)).trans (h4.below (B:=w.heap.size) (fun i hi=>by have:=(HOL.out i hi).1;omega) (by have:=HK.out.size;omega)))
  ·intro x c kl y ps w1 cnt1 hkey hlk hv hat hrg1 hlt hg1 hs1 hen
   obtain⟨s,hse,rfl,hsl⟩:=key_inv hkey
   injection hse with hse
   subst hse
   obtain⟨nm,rfl⟩:∃nm,x=str8 nm:=⟨x.data.toList,by simp[str8]⟩
   rw[show (str8 nm).data.toList=nm by simp[str8]] at hat hrg1 hlk
   rw[str8_size] at hsl
   have hyv:=rawT_inv hv
   simp only[Prod.mk.injEq] at hyv
   have hcf:c=f nm:=by
    have e1:=hat (.held zTV)
    rw[HC0.out.at' nm hsl,hyv.1] at e1
    injection e1 with e1
    exact e1.symm
   subst hcf
   have hhas:Maps.has E (.string nm)=true:=Maps.has_true_of_atKey hat
   rw[HC0.out.has nm hsl] at hhas
   obtain⟨t,ht,rfl⟩:=List.mem_map.1 (of_decide_eq_true hhas)
   obtain⟨cs,hfc,hcs⟩:=HC0.out.val t ht
   have hA:=HA.out
   have k1:Spares (fun i=>i=w.heap.size) wr w1:=Spares.of_grown hg1 (fun k e=>by cases e;rfl)
   have k01:Spares (fun i=>i=w.heap.size) w0 w1:=hA.keep.then k1
   have hE1:TbE S w1 t cs:=hcs.to k01 (fun b hb _=>⟨fun e=>by have:=HLS.out b hb;omega,hb⟩)
   have hms:=may_short (HC0.out.ok t ht)
   obtain⟨aa,nn,cc,rfl,_⟩:=id hE1
   rw[hfc] at hen
   rw[hfc]
   obtain⟨U,hU,hbU,hzU,hcU⟩:=box8 w1 (.cells #[.string (str8 t.nm),.slice aa nn cc,.int .i64 t.pr] 31)
   have kU:=cells3f hcU
   have HCL:=hid (cloneC_any S t _ U (hE1.on hbU) hms.1 hms.2)
   have HBU:=hid hbU
   have HK1:=hid k1
   have HK01:=hid k01
   have HR1:=hid hrg1
   have HLT:=hid hlt
   have HLK:=hid hlk
   have HT:=hid ht
   have htG:t ∉ G:=fun h=>by have:=(hA.mem t h).2;rw[hlk] at this;cases this
   have HNG:=hid htG
   have HG6:Hid (G.length≤6):=hid (Nat.le_trans (le_of_mem HC0.out.once hA.once hA.mem) HC0.out.six)
   have hsz1:=k1.size
   have hszr:=hA.keep.size
   have HS1:=hid hs1
   clear htG hA k1 k01 hE1 hms hcs hfc hrg1 hlt hlk ht hhas hat hv hyv hkey hg1 hs1 hbU hcU hsl
   go_wp2_with fail
   try rw[hU]
   refine HCL.out.mono ?_
   rintro e w2 ⟨ds,rfl,hds,hb2⟩
   have HDS:=hid hds.s
   obtain⟨a2,n2,c2,rfl,_⟩:=hds
   obtain⟨V,hV,hbV,hzV,hcV⟩:=box8 w2 (.cells #[.string (str8 t.nm),.slice a2 n2 c2,.int .i64 t.pr] 31)
   have hs2:=hb2.size
   have hsU:=HBU.out.size
   have hsV:=hbV.size
   have hB1:Below w1.heap.size w1 V:=(HBU.out.trans (hb2.mono hsU)).trans (hbV.mono (by omega))
   have kV:Spares (fun i=>i=w.heap.size) wr V:=HK1.out.thenNew hB1
   have hown1:V.ownsRow w0.heap.size 31 3 u3 G.length css.flatten:=kV.row HA.out.own (fun b hb=>by have:=(HA.out.own.lt b hb).1;omega)
   have hnew : ∀i u,[.string (str8 t.nm),.slice a2 n2 c2,.int .i64 t.pr][i]?=some u→V.cell? ((⟨w2.heap.size,0,none⟩:Addr).add i)=some u:=fun i u hu=>by
    rw[Addr.add_lit,Nat.zero_add,cell_of_row _ _ _ _ _ _ hcV]
    simpa using hu
   have hone : ∀u∈([.string (str8 t.nm),.slice a2 n2 c2,.int .i64 t.pr]:List Value),u.oneCell'=true:=by intro u hu;simp at hu;rcases hu with rfl | rfl | rfl<;>rfl
   have hwV:w0.heap.size≤V.heap.size:=by omega
   have hG6:G.length≤6:=HG6.out
   have HELV:Hid (Els 3 TbS (fun b=>w0.heap.size≤b∧u3.ownBlock≠some b∧b<V.heap.size) V (G++[t]) (css++[[.string (str8 t.nm),.slice a2 n2 c2,.int .i64 t.pr]])):=hid (by
    refine Els.snoc ?_ rfl ?_
    ·exact HA.out.els.to (fun z cs e=>e.to kV (fun b hb hlt=>⟨by omega,hb.1,hb.2,by omega⟩))
    ·refine HDS.out.to (R:=fun _=>False) (Spares.of_new hbV) (fun b hb hlt=>⟨id,by omega,fun e=>?_,by omega⟩)
     have:=(HA.out.own.lt b e).2
     omega)
   have HKV:=hid kV
   have HB1:=hid hB1
   clear hb2 hbV hcV HCL hB1 kV hU kU
   go_wp2_with (first
    | (
      at_builtin;(try rw[hV]);refine wpList_append_where _ rfl (.tmp 15) (.tmp 18) 56 rfl w0.heap.size 31 i0 (.agg #[.string ⟨#[]⟩,.slice none 0 0,.int .i64 0]) 3 48 Tryz.underlying56 hi hy0 hy1 hy2 rfl (by decide) _ _ _ rfl hown1 ⟨w2.heap.size,0,none⟩ 1 [.string (str8 t.nm),.slice a2 n2 c2,.int .i64 t.pr] rfl rfl hnew hone (by unfold maxLen;omega) (by omega) hwV ?_;intro v3 w3 hown3 hg3 hwh3
      have hSp:Spares (fun b=>u3.ownBlock=some b) V w3:=Spares.of_grown hg3 (fun k hk=>hk)
      have FIN:Hid (AlI w0 w3 mb w.heap.size E L (fun z=>left z&&!z.sameKey (.string t.nm)) cnt1 v3 (G++[t]) (css++[[.string (str8 t.nm),.slice a2 n2 c2,.int .i64 t.pr]])):=hid (HA.out.step HC0.out.once hmb hz0 HT.out HLK.out HR1.out HB1.out HKV.out hSp hown3 HELV.out hwh3)
      clear hown3 hg3 hwh3 hSp hown1 hnew hone)
    | fail)
   go_roundw
   case rel=>exact⟨_,_,_,_,FIN⟩
   case measure=>rw[FIN.out.rg.left_eq,HA.out.rg.left_eq];exact HLT.out
end Go.Proofs.YtaaggohjmhifbaaGreatDoor
