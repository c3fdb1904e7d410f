/- Packed for the hand-in: CSort CAll CAct CFindsP CSame CRAt CPlaysP CRCat CRFind CRDrop -/
import Derived.Test.YtfeglkleoijlaaaGreatDoorChecked
import Derived.Test.YtfeglkleoijlaaaGreatDoorZ27
import Derived.Test.YtfeglkleoijlaaaGreatDoorZ30
import Derived.Test.YtfeglkleoijlaaaGreatDoorZ17
import Derived.Test.YtfeglkleoijlaaaGreatDoorZ31
namespace Go.Proofs.YtfeglkleoijlaaaGreatDoor
open Go.RowKit Go.Shelf Go.Lib Go.Sort
set_option linter.unusedSimpArgs false
set_option linter.unusedVariables false
set_option maxRecDepth 20000
set_option maxHeartbeats 8000000
theorem jO : ∀a:List UInt8,Op.bytesLess a a=false
 | []=>rfl
 |
  x::a=>by
  unfold Op.bytesLess
  simp[jO a]
theorem uR : ∀a b c:List UInt8,Op.bytesLess a b=true→Op.bytesLess b c=true→Op.bytesLess a c=true
 | [],[],_,h,_=>by simp[Op.bytesLess] at h
 | _::_,[],_,h,_=>by simp[Op.bytesLess] at h
 | _,_::_,[],_,h=>by simp[Op.bytesLess] at h
 | [],b::ms,c::cs,_,_=>by simp[Op.bytesLess]
 |
  a::ls,b::ms,c::cs,h1,h2=>by
  simp only[Op.bytesLess,Bool.or_eq_true,Bool.and_eq_true,decide_eq_true_eq,beq_iff_eq] at h1 h2 ⊢
  rcases h1 with h1 | ⟨rfl,h1⟩
  ·rcases h2 with h2 | ⟨rfl,h2⟩
   ·exact .inl (UInt8.lt_trans h1 h2)
   ·exact .inl h1
  ·rcases h2 with h2 | ⟨rfl,h2⟩
   ·exact .inl h2
   ·exact .inr ⟨rfl,uR ls ms cs h1 h2⟩
theorem vX : ∀a b:List UInt8,Op.bytesLess a b=false→Op.bytesLess b a=false→a=b
 | [],[],_,_=>rfl
 | [],_::_,h,_=>by simp[Op.bytesLess] at h
 | _::_,[],_,h=>by simp[Op.bytesLess] at h
 |
  a::ls,b::ms,h1,h2=>by
  simp only[Op.bytesLess,Bool.or_eq_false_iff,Bool.and_eq_false_iff,decide_eq_false_iff_not,beq_eq_false_iff_ne] at h1 h2
  have e:a=b:=by
   apply UInt8.le_antisymm
   ·exact UInt8.not_lt.1 h2.1
   ·exact UInt8.not_lt.1 h1.1
  subst e
  rw[vX ls ms (by rcases h1.2 with h | h;exact absurd rfl h;exact h) (by rcases h2.2 with h | h;exact absurd rfl h;exact h)]
end Go.Proofs.YtfeglkleoijlaaaGreatDoor
namespace Go.Proofs.YtfeglkleoijlaaaGreatDoor
open Go.RowKit Go.Shelf Go.Lib Go.Maps Go.Sort
set_option linter.unusedSimpArgs false
set_option linter.unusedVariables false
set_option maxRecDepth 20000
set_option maxHeartbeats 8000000
def FW (S:Nat→Prop) (w:World) (t:Tb) (cs:List Value):Prop:=∃(aa:Option Addr) (nn cc:Nat),cs=[.string (aj t.nm),.slice aa nn cc,.int .i64 t.pr]∧w.ownsRow 0 60 4 (.slice aa nn cc) t.cols.length (dx t.cols)∧∀b,(Value.slice aa nn cc).ownBlock=some b→S b
theorem FW.to {S R T:Nat→Prop} {w w':World} {t:Tb} {cs:List Value} (h:FW S w t cs) (hk:aA R w w') (hS : ∀b,S b→b<w.heap.size→¬R b∧T b):FW T w' t cs:=by
 obtain⟨aa,nn,cc,h1,h2,h3⟩:=h
 exact⟨aa,nn,cc,h1,hk.row h2 (fun b hb=>(hS b (h3 b hb) (h2.lt b hb).2).1),fun b hb=>(hS b (h3 b hb) (h2.lt b hb).2).2⟩
theorem yR.s {base:Nat} {w:World} {t:Tb} {cs:List Value} (h:yR base w t cs):FW (fun b=>base≤b∧b<w.heap.size) w t cs:=by
 obtain⟨aa,nn,cc,h1,h2⟩:=h
 exact⟨aa,nn,cc,h1,dP h2 (fun _ _=>Nat.zero_le _),fun b hb=>h2.lt b hb⟩
theorem FW.e {S:Nat→Prop} {w:World} {t:Tb} {cs:List Value} (h:FW S w t cs):dK S w t cs:=by
 obtain⟨aa,nn,cc,h1,h2,h3⟩:=h
 exact⟨aa,nn,cc,h1,aQ.dW (by decide) h2 (l7 _ w _) h3⟩
theorem Tryz.yt:(Tryz.prog.info? 42).map (fun i=>(i.zero,i.size,i.bytes))=some (some (.agg #[.string ⟨#[]⟩,.slice none 0 0,.int .i64 0]),3,48):=by kernel_rfl
theorem jR {w w':World} {S:Nat→Prop} {b r n cnt:Nat} {D:DataW Value} {left:Lit→Bool} (h:w.ranges Tryz.prog 9 nX b r n D left cnt) (hk:aA S w w') (hb : ¬S b) (hr : ¬S r):w'.ranges Tryz.prog 9 nX b r n D left cnt:=by
 have h1:=h.owns.lt
 have h2:=h.lt
 obtain⟨es,clock,since,seen,c0,hb',F,hs,hD,hr',rest⟩:=h
 exact⟨es,clock,since,seen,c0,(hk.block b h1 hb).trans hb',F,hs,hD,(hk.block r h2 hr).trans hr',rest⟩
structure Jo (w0 wr:World) (mb r:Nat) (E:DataW Value) (L:List Tb) (left:Lit→Bool) (cnt:Nat) (l:Value) (G:List Tb) (css:List (List Value)):Prop where
 rg:wr.ranges Tryz.prog 9 nX mb r L.length E left cnt
 own:wr.ownsRow w0.heap.size 42 3 l G.length css.flatten
 els:gJ 3 FW (fun b=>w0.heap.size≤b∧l.ownBlock≠some b) wr G css
 mem : ∀t∈G,t∈L∧left (.string t.nm)=false
 all : ∀t∈L,t∈G∨left (.string t.nm)=true
 once:(G.map Tb.nm).Nodup
 keep:aA (fun i=>i=r) w0 wr
theorem Jo.step {w0 wr w1 V w3:World} {mb r cnt cnt1:Nat} {E:DataW Value} {L:List Tb} {left:Lit→Bool} {l v3:Value} {G:List Tb} {css:List (List Value)} {t:Tb} {cs:List Value} (h:Jo w0 wr mb r E L left cnt l G css) (hn:(L.map Tb.nm).Nodup) (hmb:mb<r) (hr:w0.heap.size=r+1) (ht:t∈L) (hlk:left (.string t.nm)=true)
  (hrg:w1.ranges Tryz.prog 9 nX mb r L.length E (fun z=>left z&&!z.sameKey (.string t.nm)) cnt1) (hB:Below w1.heap.size w1 V) (hk:aA (fun i=>i=r) wr V) (hSp:aA (fun b=>l.ownBlock=some b) V w3) (hown:w3.ownsRow w0.heap.size 42 3 v3 (G.length+1) (css.flatten++cs))
  (hE:gJ 3 FW (fun b=>w0.heap.size≤b∧l.ownBlock≠some b∧b<V.heap.size) V (G++[t]) (css++[cs])) (hwh:v3.ownBlock=l.ownBlock∨v3.ownBlock=some V.heap.size):Jo w0 w3 mb r E L (fun z=>left z&&!z.sameKey (.string t.nm)) cnt1 v3 (G++[t]) (css++[cs]) where
 rg:=jR (jR hrg (aA.aC (S:=fun _=>False) hB) id id) hSp (fun e=>by have:=(h.own.lt _ e).1;omega) (fun e=>by have:=(h.own.lt _ e).1;omega)
 own:=by
  rw[List.flatten_append,List.length_append]
  simpa using hown
 els:=hE.to (fun z cs e=>e.to hSp (fun b hb _=>⟨hb.2.1,hb.1,fun e3=>by
  rcases hwh with h1 | h1
  ·exact hb.2.1 (h1 ▸ e3)
  ·rw[h1] at e3;have:=hb.2.2;simp at e3;omega⟩))
 mem:=fun x hx=>by
  rcases List.mem_append.1 hx with hx | hx
  ·exact⟨(h.mem x hx).1,by rw[(h.mem x hx).2];rfl⟩
  ·obtain rfl:=List.mem_singleton.1 hx
   exact⟨ht,by simp[Lit.sameKey]⟩
 all:=fun x hx=>by
  rcases h.all x hx with h1 | h1
  ·exact .inl (by simp[h1])
  ·by_cases e:x.nm=t.nm
   ·left
    have:x=t:=by rw[← p9 hn hx,← p9 hn ht,e]
    simp[this]
   ·right
    show (left _&&!Lit.sameKey _ _)=true
    rw[h1]
    simp[Lit.sameKey,e]
 once:=by
  rw[List.map_append,List.nodup_append]
  refine ⟨h.once,by simp,fun a ha b hb e=>?_⟩
  obtain⟨x,hx,rfl⟩:=List.mem_map.1 ha
  simp only[List.map_cons,List.map_nil,List.mem_singleton] at hb
  have:=(h.mem x hx).2
  rw[e,hb,hlk] at this
  cases this
 keep:=(h.keep.then hk).andThen hSp (fun i hi=>.inr (h.own.lt i hi).1)
end Go.Proofs.YtfeglkleoijlaaaGreatDoor
namespace Go.Proofs.YtfeglkleoijlaaaGreatDoor
open Go.RowKit
set_option linter.unusedVariables false
set_option maxHeartbeats 8000000
structure Ac where
 d:Int
 t:Tb
 s:List UInt8
def Ji (S:Nat→Prop) (w:World) (a:Ac) (cs:List Value):Prop:=∃ts:List Value,cs = .int .i64 a.d::ts++[.string (aj a.s)]∧dK S w a.t ts
theorem Ji.to {S R T:Nat→Prop} {w w':World} {t:Ac} {cs:List Value} (h:Ji S w t cs) (hk:aA R w w') (hS : ∀b,S b→b<w.heap.size→¬R b∧T b):Ji T w' t cs:=by
 obtain⟨ts,h1,h2⟩:=h
 exact⟨ts,h1,h2.to hk hS⟩
end Go.Proofs.YtfeglkleoijlaaaGreatDoor
namespace Go.Proofs.YtfeglkleoijlaaaGreatDoor
open Go.RowKit
set_option linter.unusedSimpArgs false
set_option linter.unusedVariables false
set_option maxHeartbeats 8000000
structure FM (w wr:World) (sb mb wb:Nat) (L:List Tb) (want:Tb) (ds:List Value):Prop where
 cat : ∃E f S,dY wr sb mb E f L S∧∀b,S b→w.heap.size≤b∧b≠wb
 box:wr.heap[wb]?=some (.cells ds.toArray 42)
 tb:dK (fun b=>b≠mb∧b≠wb) wr want ds
 below:Below w.heap.size w wr
 lo:w.heap.size≤wb∧w.heap.size≤mb∧mb≠wb
theorem FM.lt {w wr:World} {sb mb wb:Nat} {L:List Tb} {want:Tb} {ds:List Value} (h:FM w wr sb mb wb L want ds):wb<wr.heap.size:=(Array.getElem?_eq_some_iff.1 h.box).1
theorem FM.new {w wr w':World} {sb mb wb:Nat} {L:List Tb} {want:Tb} {ds:List Value} (h:FM w wr sb mb wb L want ds) (hb:Below wr.heap.size wr w'):FM w w' sb mb wb L want ds:=by
 obtain⟨E,f,S,h1,h2⟩:=h.cat
 exact⟨⟨E,f,S,h1.new hb,h2⟩,(hb.block wb h.lt).trans h.box,h.tb.on hb,h.below.trans (hb.mono h.below.size),h.lo⟩
theorem FM.put {w wr w':World} {sb mb wb:Nat} {L:List Tb} {want t:Tb} {ds cs:List Value} (h:FM w wr sb mb wb L want ds) (hk:aA (fun k=>k=wb) wr w') (hb:w'.heap[wb]?=some (.cells cs.toArray 42)) (ht:dK (fun b=>b≠mb∧b≠wb) wr t cs):FM w w' sb mb wb L t cs:=by
 obtain⟨E,f,S,h1,h2⟩:=h.cat
 exact⟨⟨E,f,S,h1.keeps hk (fun i hi=>(h2 i hi).2),h2⟩,hb,ht.to hk (fun b hb _=>⟨hb.2,hb⟩),h.below.trans (hk.below (fun i hi=>by have:=h.lo.1;omega) h.below.size),h.lo⟩
end Go.Proofs.YtfeglkleoijlaaaGreatDoor
namespace Go.Proofs.YtfeglkleoijlaaaGreatDoor
open Go.RowKit Go.Shelf Go.Lib
set_option linter.unusedSimpArgs false
set_option linter.unusedVariables false
set_option maxRecDepth 20000
set_option maxHeartbeats 8000000
def qC (a b:Tb):Bool:=decide (a.nm=b.nm)&&(decide (a.pr=b.pr)&&Lib.allEq mU a.cols b.cols)
theorem sJ (a b:Tb):qC a b=true↔a=b:=by
 obtain⟨a1,a2,a3⟩:=a
 obtain⟨b1,b2,b3⟩:=b
 unfold qC
 rw[Bool.and_eq_true,Bool.and_eq_true,decide_eq_true_eq,decide_eq_true_eq,gT]
 simp only[Tb.mk.injEq]
 exact⟨fun ⟨h1,h2,h3⟩=>⟨h1,h3,h2⟩,fun ⟨h1,h2,h3⟩=>⟨h1,h3,h2⟩⟩
theorem Bp {xs ys:List Co} {j:Nat} {x y:Co} (hx:xs[j]?=some x) (hy:ys[j]?=some y) (h:mU x y=false):Lib.allEq mU xs ys=false:=by
 cases e:Lib.allEq mU xs ys with
 | false=>rfl
 |
  true =>
  have:=(gT xs ys).1 e
  subst this
  rw[hx] at hy
  injection hy with hy
  rw[(tX x y).2 hy] at h
  cases h
theorem vZ (S T:Nat→Prop) (a b:Tb) (cs ds:List Value) (w:World) (ha:dK S w a cs) (hb:dK T w b ds) :
  Calls Tryz.prog 87 #[.agg cs.toArray,.agg ds.toArray] w fun e w'=>e = .returned (.bool (qC a b))∧Below w.heap.size w w':=by
 obtain⟨a1,n1,c1,rfl,hsa⟩:=ha
 obtain⟨a2,n2,c2,rfl,hsb⟩:=hb
 have hn1:n1=a.cols.length:=by obtain⟨_,_,hf⟩:=hsa.form;simp only[Value.slice.injEq] at hf;exact hf.2.1
 have hn2:n2=b.cols.length:=by obtain⟨_,_,hf⟩:=hsb.form;simp only[Value.slice.injEq] at hf;exact hf.2.1
 obtain⟨anm,xs,apr⟩:=a
 obtain⟨bnm,ys,bpr⟩:=b
 dsimp only at hsa hsb hn1 hn2 ⊢
 subst hn1 hn2
 obtain⟨W,hW,hbW,hzW,hcA,hcB⟩:=two w (.cells #[.string (aj anm),.slice a1 xs.length c1,.int .i64 apr] 42) (.cells #[.string (aj bnm),.slice a2 ys.length c2,.int .i64 bpr] 42)
 have kA:=aH hcA
 have kB:=aH hcB
 have HCA:=hid hcA
 have HCB:=hid hcB
 have HB:=hid hbW
 have hgd:=Tryz.oW
 have hsame:qC ⟨anm,xs,apr⟩ ⟨bnm,ys,bpr⟩=(decide (anm=bnm)&&(decide (apr=bpr)&&Lib.allEq mU xs ys)):=rfl
 rw[hsame]
 have hnm:((aj anm).toList==(aj bnm).toList)=decide (anm=bnm):=by
  rw[bg,bg]
  by_cases h:anm=bnm<;>simp[h]
 by_cases h1:anm=bnm
 ·rw[decide_eq_true h1,Bool.true_and]
  rw[decide_eq_true h1] at hnm
  by_cases h2:apr=bpr
  ·have h2':(apr != bpr)=false:=by simp[h2]
   rw[decide_eq_true h2,Bool.true_and]
   by_cases h3:xs.length=ys.length
   ·have h3':((xs.length:Int) != (ys.length:Int))=false:=by simp[h3]
    by_cases hne:xs=[]
    ·subst hne
     have hy0:ys=[]:=List.eq_nil_of_length_eq_zero (by rw[← h3];rfl)
     subst hy0
     simp only[List.length_nil] at hW kA kB
     clear h1 h2 h3 h3' hsame hbW hcA hcB hsa hsb HCA HCB
     go_enter Tryz.func87,Tryz.ntmps87
     go_wp2_with fail
     go_rounds 1
     go_ret
     try rw[hW]
     exact⟨rfl,HB.out⟩
    ·have hney:ys≠[]:=fun e=>hne (List.eq_nil_of_length_eq_zero (by rw[h3,e];rfl))
     obtain⟨b1,o1,d1,e1,hlc1,hcm1,_,hlt1,hel1⟩:=fq hsa hne
     obtain⟨b2,o2,d2,e2,hlc2,hcm2,_,hlt2,hel2⟩:=fq hsb hney
     simp only[Value.slice.injEq] at e1 e2
     obtain⟨rfl,_,rfl⟩:=e1
     obtain⟨rfl,_,rfl⟩:=e2
     unfold maxLen at hcm1 hcm2
     have H1:=hid hel1
     have H2:=hid hel2
     have hyx:(ys.length:Int)=(xs.length:Int):=by omega
     have HNOT:Hid (∀(j:Nat) (x y:Co),xs[j]?=some x→ys[j]?=some y→mU x y=false→Lib.allEq mU xs ys=false):=hid (fun j x y hx hy h=>Bp hx hy h)
     have HALL:Hid ((∀(j:Nat) (x y:Co),xs[j]?=some x→ys[j]?=some y→mU x y=true)→Lib.allEq mU xs ys=true):=hid (fun h=>(gT xs ys).2 (List.ext_getElem? (fun j=>by
      rcases Nat.lt_or_ge j xs.length with hj | hj
      ·rw[List.getElem?_eq_getElem hj,List.getElem?_eq_getElem (by omega)]
       rw[(tX _ _).1 (h j _ _ (List.getElem?_eq_getElem hj) (List.getElem?_eq_getElem (by omega)))]
      ·rw[List.getElem?_eq_none hj,List.getElem?_eq_none (by omega)])))
     generalize Lib.allEq mU xs ys=R at HNOT HALL ⊢
     have H3:=hid h3
     clear h1 h2 hsame hbW hcA hcB hsa hsb hel1 hel2 hne hney h3
     go_enter Tryz.func87,Tryz.ntmps87
     go_wp2_with fail
     try rw[hW]
     clear hW kA kB
     go_loopw [5] (fun i wr=>∃k:Nat,k≤xs.length∧i = .int .i64 k∧Below W.heap.size W wr∧Hid (∀(j:Nat) (x y:Co),j<k→xs[j]?=some x→ys[j]?=some y→mU x y=true)) (fun i _=>xs.length-(intOf i).toNat)
     case atStart=>exact⟨0,Nat.zero_le _,rfl,Below.refl _ _,hid (fun j x y h=>absurd h (Nat.not_lt_zero _))⟩
     case round =>
      obtain⟨j,hj,rfl,hbr,HEQ⟩:=hrel
      have hsr:=hbr.size
      have kA:=aH ((hbr.block w.heap.size (by omega)).trans HCA.out)
      have kB:=aH ((hbr.block (w.heap.size+1) (by omega)).trans HCB.out)
      have hBR:=HB.out.trans (hbr.mono HB.out.size)
      have HBR:=hid hbr
      have HBRW:=hid hBR
      by_cases hlt:j<xs.length
      ·obtain⟨x,hx⟩:∃x,xs[j]?=some x:=⟨_,List.getElem?_eq_getElem hlt⟩
       obtain⟨y,hy⟩:∃y,ys[j]?=some y:=⟨_,List.getElem?_eq_getElem (by have:=H3.out;omega)⟩
       have hlt':(j:Int)<(xs.length:Int):=by omega
       have hlty:(j:Int)<(ys.length:Int):=by omega
       have p0:=H1.out wr hBR j x hx 0 _ rfl
       have p1:=H1.out wr hBR j x hx 1 _ rfl
       have p2:=H1.out wr hBR j x hx 2 _ rfl
       have p3:=H1.out wr hBR j x hx 3 _ rfl
       rw[Nat.add_zero] at p0
       have q0:=H2.out wr hBR j y hy 0 _ rfl
       have q1:=H2.out wr hBR j y hy 1 _ rfl
       have q2:=H2.out wr hBR j y hy 2 _ rfl
       have q3:=H2.out wr hBR j y hy 3 _ rfl
       rw[Nat.add_zero] at q0
       have hrun:=zL x y
       have HN:=hid (HNOT.out j x y hx hy)
       have HE2:Hid (mU x y=true→∀(m:Nat) (x y:Co),m<j+1→xs[m]?=some x→ys[m]?=some y→mU x y=true):=hid (fun h m u v hm hu hv=>by
        rcases Nat.lt_or_ge m j with h1 | h1
        ·exact HEQ.out m u v h1 hu hv
        ·obtain rfl:m=j:=by omega
         rw[hx] at hu
         rw[hy] at hv
         injection hu with hu
         injection hv with hv
         subst hu hv
         exact h)
       clear hbr hBR hx hy HEQ hyx
       cases he:mU x y with
       |
        true =>
        rw[he] at hrun
        have HE3:=hid (HE2.out he)
        clear he HE2 HN
        go_wp2_with fail
        go_quiet (fail)
        go_wp2
        go_roundw
        case rel=>exact⟨j+1,by omega,by go_num,by first | exact below_drewN HBR.out nq | exact HBR.out,HE3⟩
        case measure=>simp[intOf];omega
       |
        false =>
        rw[he] at hrun
        obtain rfl:=HN.out he
        clear he HE2 HN
        go_wp2_with fail
        go_quiet (fail)
        go_wp2
        go_ret
        exact⟨rfl,by first | exact below_drewN HBRW.out nq | exact HBRW.out⟩
      ·have hlt' : ¬(j:Int)<(xs.length:Int):=by omega
       obtain rfl:=HALL.out (fun m x y hx hy=>HEQ.out m x y (by have:=(List.getElem?_eq_some_iff.1 hx).1;omega) hx hy)
       clear hbr hBR HEQ
       go_wp2
       go_ret
       exact⟨rfl,HBRW.out⟩
   ·have h3':((xs.length:Int) != (ys.length:Int))=true:=by simp;omega
    have hR:Lib.allEq mU xs ys=false:=Lib.allEq_len mU xs ys h3
    rw[hR]
    generalize xs.length=n1 at *
    generalize ys.length=n2 at *
    clear h1 h2 h3 hsame hbW hcA hcB hsa hsb hR HCA HCB
    go_enter Tryz.func87,Tryz.ntmps87
    go_wp2
    go_ret
    exact⟨rfl,HB.out⟩
  ·have h2':(apr != bpr)=true:=by simpa using h2
   rw[decide_eq_false h2,Bool.false_and]
   clear h1 h2 hsame hbW hcA hcB hsa hsb HCA HCB
   go_enter Tryz.func87,Tryz.ntmps87
   go_wp2
   go_ret
   exact⟨rfl,HB.out⟩
 ·rw[decide_eq_false h1,Bool.false_and]
  rw[decide_eq_false h1] at hnm
  clear h1 hsame hbW hcA hcB hsa hsb HCA HCB
  go_enter Tryz.func87,Tryz.ntmps87
  go_wp2
  go_ret
  exact⟨rfl,HB.out⟩
def Hl (T:List Tb) (nm:List UInt8) (k:Nat):Prop:=k≤T.length∧(∀(i:Nat) (x:Tb),i<k→T[i]?=some x→Op.bytesLess x.nm nm=true)∧∀x:Tb,T[k]?=some x→Op.bytesLess x.nm nm=false
theorem FI (S:Nat→Prop) (T:List Tb) (nm:List UInt8) (rb:Nat) (v:Value) (w:World) (hc:w.cell? ⟨rb,0,none⟩=some v) (hv:aQ 3 dK S w T v) :
  Calls Tryz.prog 44 #[.pointer (some ⟨rb,0,none⟩),.string (aj nm)] w fun e w'=>∃k:Nat,e = .returned (.int .i64 k)∧Hl T nm k∧w'=w:=by
 by_cases hne:T=[]
 ·subst hne
  obtain⟨a1,c1,rfl⟩:=hv.form
  simp only[List.length_nil] at hc
  clear hv
  go_enter Tryz.func44,Tryz.ntmps44
  go_wp2_with fail
  go_rounds 1
  go_ret
  exact⟨0,rfl,⟨Nat.le_refl _,fun i x h=>absurd h (Nat.not_lt_zero _),fun x h=>by simp at h⟩,rfl⟩
 ·obtain⟨b,off,c,rfl,hlc,hcm,hel⟩:=hv.opened (by decide) hne
  unfold maxLen at hcm
  have HA:=hid hel
  clear hv hel
  go_enter Tryz.func44,Tryz.ntmps44
  go_wp2_with fail
  go_loopw [5] (fun i wr=>∃k:Nat,k≤T.length∧i = .int .i64 k∧wr=w∧Hid (∀(i:Nat) (x:Tb),i<k→T[i]?=some x→Op.bytesLess x.nm nm=true)) (fun i _=>T.length-(intOf i).toNat)
  case atStart=>exact⟨0,Nat.zero_le _,rfl,rfl,hid (fun i x h=>absurd h (Nat.not_lt_zero _))⟩
  case round =>
   obtain⟨j,hj,rfl,rfl,HL⟩:=hrel
   by_cases hlt:j<T.length
   ·obtain⟨x,hx⟩:∃x,T[j]?=some x:=⟨_,List.getElem?_eq_getElem hlt⟩
    have hlt':((j:Int)<(T.length:Int)):=by omega
    obtain⟨cs,hE,hcl⟩:=HA.out j x hx
    obtain⟨aa,nn,cc,rfl,_⟩:=hE
    have p0:=hcl wr (Below.refl _ _) 0 _ rfl
    rw[Nat.add_zero] at p0
    have HX:=hid hx
    clear hx hcl
    cases hless:Op.bytesLess x.nm nm with
    |
     true =>
     have hl1:Op.bytesLess (aj x.nm).toList (aj nm).toList=true:=by rw[bg,bg];exact hless
     have HS:=hid hless
     clear hless
     go_wp2
     go_roundw
     case rel =>
      refine ⟨j+1,by omega,by go_num,trivial,hid (fun i y hi hy=>?_)⟩
      rcases Nat.lt_or_ge i j with h1 | h1
      ·exact HL.out i y h1 hy
      ·obtain rfl:i=j:=by omega
       have:=HX.out
       rw[hy] at this
       injection this with e
       rw[e]
       exact HS.out
     case measure=>simp[intOf];omega
    |
     false =>
     have hl1:Op.bytesLess (aj x.nm).toList (aj nm).toList=false:=by rw[bg,bg];exact hless
     have HS:=hid hless
     clear hless
     go_wp2
     go_ret
     exact⟨j,rfl,⟨hj,HL.out,fun y hy=>by have:=HX.out;rw[hy] at this;injection this with e;rw[e];exact HS.out⟩,rfl⟩
   ·have hlt' : ¬((j:Int)<(T.length:Int)):=by omega
    go_wp2
    go_ret
    exact⟨j,rfl,⟨hj,HL.out,fun y hy=>by have:=(List.getElem?_eq_some_iff.1 hy).1;omega⟩,rfl⟩
end Go.Proofs.YtfeglkleoijlaaaGreatDoor
namespace Go.Proofs.YtfeglkleoijlaaaGreatDoor
open Go.RowKit
set_option linter.unusedSimpArgs false
set_option linter.unusedVariables false
set_option maxHeartbeats 8000000
def BL (T:List Tb):Prop:=T.Pairwise (fun a b=>Op.bytesLess a.nm b.nm=true)
theorem BL.inj {T:List Tb} (h:BL T) {a b:Tb} (ha:a∈T) (hb:b∈T) (e:a.nm=b.nm):a=b:=by
 obtain⟨i,hi,rfl⟩:=List.getElem_of_mem ha
 obtain⟨j,hj,rfl⟩:=List.getElem_of_mem hb
 have hp:=List.pairwise_iff_getElem.1 h
 rcases Nat.lt_trichotomy i j with h1 | h1 | h1
 ·have:=hp i j hi hj h1
  rw[e,jO] at this
  cases this
 ·subst h1;rfl
 ·have:=hp j i hj hi h1
  rw[e,jO] at this
  cases this
theorem Iu {T:List Tb} {nm:List UInt8} {k:Nat} (hR:BL T) (h:Hl T nm k) {x:Tb} (hx:x∈T) (e:x.nm=nm):T[k]?=some x:=by
 obtain⟨i,hi,rfl⟩:=List.getElem_of_mem hx
 have hp:=List.pairwise_iff_getElem.1 hR
 rcases Nat.lt_trichotomy i k with h1 | h1 | h1
 ·have:=h.2.1 i _ h1 (List.getElem?_eq_getElem hi)
  rw[e,jO] at this
  cases this
 ·subst h1;exact List.getElem?_eq_getElem hi
 ·have h2:=hp k i (by omega) hi h1
  have h3:=h.2.2 _ (List.getElem?_eq_getElem (by omega))
  rw[e] at h2
  rw[h2] at h3
  cases h3
theorem beneath {T:List Tb} {nm:List UInt8} {k:Nat} (h:Hl T nm k) {y:Tb} (hy:y∈T.take k):Op.bytesLess y.nm nm=true:=by
 obtain⟨i,hi,rfl⟩:=List.getElem_of_mem hy
 rw[List.length_take] at hi
 rw[List.getElem_take]
 exact h.2.1 i _ (by omega) (List.getElem?_eq_getElem (by omega))
end Go.Proofs.YtfeglkleoijlaaaGreatDoor
namespace Go.Proofs.YtfeglkleoijlaaaGreatDoor
open Go.RowKit Go.Shelf Go.Lib
set_option linter.unusedSimpArgs false
set_option linter.unusedVariables false
set_option maxRecDepth 20000
set_option maxHeartbeats 8000000
theorem BL.once {T:List Tb} (h:BL T):(T.map Tb.nm).Nodup:=by
 refine List.pairwise_map.2 (h.imp (fun {a b} hl e=>?_))
 rw[e,jO] at hl
 cases hl
theorem zX {T L:List Tb} (h:T.Perm L) (t:Tb):iD T t=iD L t:=by
 unfold iD
 rw[h.length_eq]
 have:(t.nm∈T.map Tb.nm)=(t.nm∈L.map Tb.nm):=propext ((h.map Tb.nm).mem_iff)
 simp only[this]
theorem Ay {T L:List Tb} (h:T.Perm L) (t:Tb):(gB T t).Perm (gB L t):=by
 unfold gB
 rw[zX h t]
 split
 ·exact h.cons t
 ·exact h
theorem C9 {T:List Tb} {nm:List UInt8} {k:Nat} (hR:BL T) (h:Hl T nm k):nm∈T.map Tb.nm↔∃x,T[k]?=some x∧x.nm=nm :=
 ⟨fun hm=>by obtain⟨x,hx,e⟩:=List.mem_map.1 hm;exact⟨x,Iu hR h hx e,e⟩,fun ⟨x,hx,e⟩=>List.mem_map.2 ⟨x,List.mem_of_getElem? hx,e⟩⟩
theorem above {T:List Tb} {nm:List UInt8} {k:Nat} (hR:BL T) (h:Hl T nm k) (hn:nm ∉ T.map Tb.nm) {y:Tb} (hy:y∈T.drop k):Op.bytesLess nm y.nm=true:=by
 obtain⟨i,hi,rfl⟩:=List.getElem_of_mem hy
 rw[List.getElem_drop]
 rw[List.length_drop] at hi
 have hk:k<T.length:=by omega
 have h0:Op.bytesLess nm (T[k]).nm=true:=by
  have h3:=h.2.2 _ (List.getElem?_eq_getElem hk)
  cases h4:Op.bytesLess nm (T[k]).nm with
  | true=>rfl
  | false=>exact absurd (List.mem_map.2 ⟨T[k],List.getElem_mem hk,vX _ _ h3 h4⟩) hn
 rcases Nat.eq_zero_or_pos i with h1 | h1
 ·subst h1;exact h0
 ·exact uR _ _ _ h0 (List.pairwise_iff_getElem.1 hR k (k+i) hk (by omega) (by omega))
theorem E9 {T:List Tb} {t:Tb} {k:Nat} (hR:BL T) (h:Hl T t.nm k) (hn:t.nm ∉ T.map Tb.nm):BL (T.take k++t::T.drop k)∧(T.take k++t::T.drop k).Perm (t::T):=by
 refine ⟨?_,List.perm_middle.trans (by rw[List.take_append_drop])⟩
 unfold BL
 rw[List.pairwise_append,List.pairwise_cons]
 refine ⟨hR.sublist (List.take_sublist _ _),⟨fun y hy=>above hR h hn hy,hR.sublist (List.drop_sublist _ _)⟩,fun x hx y hy=>?_⟩
 rcases List.mem_cons.1 hy with rfl | hy
 ·exact beneath h hx
 ·exact uR _ _ _ (beneath h hx) (above hR h hn hy)
structure dR (w:World) (rb:Nat) (v:Value) (css:List (List Value)) (T:List Tb) (S:Nat→Prop):Prop where
 box:w.heap[rb]?=some (.cells #[v] 92)
 own:w.ownsRow 0 42 3 v T.length css.flatten
 els:gJ 3 dK S w T css
 bT : ∀b,v.ownBlock=some b→S b
 lt : ∀b,S b→b<w.heap.size
 ne : ¬S rb
 ris:BL T
 ok : ∀t∈T,gI t=true
 six:T.length≤6
theorem dR.keeps {w w':World} {rb:Nat} {v:Value} {css:List (List Value)} {T:List Tb} {S R:Nat→Prop} (h:dR w rb v css T S) (hk:aA R w w') (hR : ∀b,S b→¬R b) (hr : ¬R rb):dR w' rb v css T S :=
 ⟨(hk.block rb (World.lt_of_block h.box) hr).trans h.box,hk.row h.own (fun g hg=>hR g (h.bT g hg)),h.els.to (fun _ _ e=>e.to hk (fun b hb _=>⟨hR b hb,hb⟩)),h.bT,fun b hb=>Nat.lt_of_lt_of_le (h.lt b hb) hk.size,h.ne,h.ris,h.ok,h.six⟩
theorem dR.new {w w':World} {rb:Nat} {v:Value} {css:List (List Value)} {T:List Tb} {S:Nat→Prop} (h:dR w rb v css T S) (hb:Below w.heap.size w w'):dR w' rb v css T S :=
 h.keeps (R:=fun _=>False) (aA.aC hb) (fun _ _=>id) id
theorem dR.sl {w:World} {rb:Nat} {v:Value} {css:List (List Value)} {T:List Tb} {S:Nat→Prop} (h:dR w rb v css T S):aQ 3 dK S w T v:=aQ.dW (by decide) h.own h.els h.bT
theorem dR.cell {w:World} {rb:Nat} {v:Value} {css:List (List Value)} {T:List Tb} {S:Nat→Prop} (h:dR w rb v css T S):w.cell? ⟨rb,0,none⟩=some v:=by rw[aD _ _ _ _ _ _ h.box];rfl
theorem jW : ∀(css:List (List Value)),(∀cs∈css,cs.length=3)→∀(j:Nat) (u:Value),css.flatten[j]?=some u→∃cs,css[j / 3]?=some cs∧cs[j % 3]?=some u
 | [],_,j,u,h=>by simp at h
 |
  c::css,h,j,u,hj=>by
  have hc:=h c (by simp)
  rw[List.flatten_cons] at hj
  rcases Nat.lt_or_ge j 3 with h3 | h3
  ·rw[List.getElem?_append_left (by omega)] at hj
   exact⟨c,by rw[Nat.div_eq_of_lt h3];rfl,by rw[Nat.mod_eq_of_lt h3];exact hj⟩
  ·rw[List.getElem?_append_right (by omega),hc] at hj
   obtain⟨cs,h1,h2⟩:=jW css (fun x hx=>h x (by simp[hx])) (j-3) u hj
   refine ⟨cs,?_,by rw[show j % 3=(j-3) % 3 by omega];exact h2⟩
   rw[show j / 3=(j-3) / 3+1 by omega,List.getElem?_cons_succ]
   exact h1
theorem uh {S:Nat→Prop} {w:World} {T:List Tb} {css:List (List Value)} (h:gJ 3 dK S w T css):∀cs∈css,cs.length=3∧∀u∈cs,u.oneCell'=true:=fun cs hc=>by
 obtain⟨j,hj,e⟩:=List.getElem_of_mem hc
 have hx:T[j]?=some (T[j]'(by rw[← h.1];exact hj)):=List.getElem?_eq_getElem _
 obtain⟨h1,aa,nn,cc,h2,_⟩:=h.2 j _ cs hx (by rw[List.getElem?_eq_getElem hj,e])
 refine ⟨h1,fun u hu=>?_⟩
 rw[h2] at hu
 simp only[List.mem_cons,List.not_mem_nil,or_false] at hu
 rcases hu with rfl | rfl | rfl<;>rfl
theorem gJ.take {S:Nat→Prop} {w:World} {T:List Tb} {css:List (List Value)} (h:gJ 3 dK S w T css) (k:Nat):gJ 3 dK S w (T.take k) (css.take k) :=
 ⟨by rw[List.length_take,List.length_take,h.1],fun j x cs hx hc=>by
  rw[List.getElem?_take] at hx hc
  split at hx
  ·rename_i hj
   rw[if_pos hj] at hc
   exact h.2 j x cs hx hc
  ·cases hx⟩
theorem gJ.drop {S:Nat→Prop} {w:World} {T:List Tb} {css:List (List Value)} (h:gJ 3 dK S w T css) (k:Nat):gJ 3 dK S w (T.drop k) (css.drop k) :=
 ⟨by rw[List.length_drop,List.length_drop,h.1],fun j x cs hx hc=>by
  rw[List.getElem?_drop] at hx hc
  exact h.2 (k+j) x cs hx hc⟩
theorem gJ.append' {S:Nat→Prop} {w:World} {T U:List Tb} {css dss:List (List Value)} (h:gJ 3 dK S w T css) (k:gJ 3 dK S w U dss):gJ 3 dK S w (T++U) (css++dss) :=
 ⟨by rw[List.length_append,List.length_append,h.1,k.1],fun j x cs hx hc=>by
  rcases Nat.lt_or_ge j T.length with hj | hj
  ·rw[List.getElem?_append_left hj] at hx
   rw[List.getElem?_append_left (by rw[h.1];exact hj)] at hc
   exact h.2 j x cs hx hc
  ·rw[List.getElem?_append_right hj] at hx
   rw[List.getElem?_append_right (by rw[h.1];exact hj),h.1] at hc
   exact k.2 _ x cs hx hc⟩
theorem qj {w:World} {base n g cap:Nat} {css:List (List Value)} (h:w.ownsRow base 42 3 (.slice (some ⟨g,0,none⟩) n cap) n css.flatten) (hc : ∀cs∈css,cs.length=3) (i m:Nat):∀(j:Nat) (u:Value),((css.drop i).take m).flatten[j]?=some u→w.cell? ((⟨g,i*3,none⟩:Addr).add j)=some u:=fun j u hu=>by
 obtain⟨cs,h1,h2⟩:=jW ((css.drop i).take m) (fun x hx=>hc x (List.mem_of_mem_drop (List.mem_of_mem_take hx))) j u hu
 rw[List.getElem?_take] at h1
 split at h1
 ·rw[List.getElem?_drop] at h1
  have h3:=ji 3 css hc (i+j / 3) (j % 3) cs u h1 h2
  have h4:=h.cells (g:=g) rfl _ _ h3
  rw[Addr.add_lit] at h4 ⊢
  rw[show i*3+j=0+((i+j / 3)*3+j % 3) by omega]
  exact h4
 ·cases h1
theorem iF {w:World} {base:Nat} {v:Value} {n:Nat} {css:List (List Value)} (hown:w.ownsRow base 42 3 v n css.flatten) (a:Addr) (m c:Nat) (dss:List (List Value)) (hlen:dss.length=m) (h3 : ∀ds∈dss,ds.length=3∧∀u∈ds,u.oneCell'=true)
  (hcells : ∀(j:Nat) (u:Value),dss.flatten[j]?=some u→w.cell? (a.add j)=some u) (hn:n+m≤1000) (hb:base≤w.heap.size) (ty:TypeId) :
  ∃a2 n2 c2 w',(Builtin.append_ #[22,22] ty #[v,.slice (some a) m c]).run Tryz.prog w = .ok (.slice a2 n2 c2) w'∧w'.ownsRow base 42 3 (.slice a2 n2 c2) (n+m) (css++dss).flatten∧aA (fun k=>v.ownBlock=some k) w w':=by
 obtain⟨i0,hi,hy0,hy1,hy2⟩:=info_parts Tryz.yt
 have hfl:dss.flatten.length=m*3:=by
  rw[← hlen]
  clear hcells hlen
  induction dss with
  | nil=>rfl
  |
   cons d dss ih =>
   rw[List.flatten_cons,List.length_append,ih (fun x hx=>h3 x (by simp[hx])),(h3 d (by simp)).1,List.length_cons]
   omega
 obtain⟨v',w',hr,ho,hg2,_⟩:=run_append_own (P:=Tryz.prog) w base 22 ty 42 i0 _ 3 48 Tryz.underlying22 hi hy0 hy1 hy2 rfl (by decide) v n _ hown a m c dss.flatten hfl hcells (fun u hu=>by
  obtain⟨ds,h1,h2⟩:=List.mem_flatten.1 hu
  exact (h3 ds h1).2 u h2) (by unfold maxLen;omega) (by omega) hb
 rw[← List.flatten_append] at ho
 obtain⟨a2,n2,c2,rfl⟩:∃a2 n2 c2,v' = .slice a2 n2 c2:=by
  rcases ho.2 with⟨rfl,_⟩ | ⟨_,_,_,rfl,_⟩<;>exact⟨_,_,_,rfl⟩
 exact⟨a2,n2,c2,w',hr,ho,aA.dZ (S:=fun k=>v.ownBlock=some k) hg2 (fun k e=>e)⟩
theorem lD {w:World} {base:Nat} {v:Value} {n:Nat} {xs:List Value} (hown:w.ownsRow base 42 3 v n xs) (ty:TypeId):(Builtin.append_ #[22,22] ty #[v,.slice none 0 0]).run Tryz.prog w = .ok v w:=by
 obtain⟨i0,hi,hy0,hy1,hy2⟩:=info_parts Tryz.yt
 exact run_append_owned_none (P:=Tryz.prog) w base 22 ty 42 i0 3 Tryz.underlying22 hi v n xs hown
theorem CP (w:World):Calls Tryz.prog 16 #[] w fun e w'=>e = .returned (.pointer (some ⟨w.heap.size,0,none⟩))∧dR w' w.heap.size (.slice none 0 0) [] [] (fun _=>False)∧Below w.heap.size w w':=by
 obtain⟨W,hW,hbW,hzW,hcW⟩:=aL w (.cells #[.slice none 0 0] 92)
 have HD:Hid (dR W w.heap.size (.slice none 0 0) [] [] (fun _=>False)):=hid ⟨hcW,World.ownsRow_nil _ _ _ _,gJ.nil,(fun b hb=>by cases hb),(fun b hb=>hb.elim),id,List.Pairwise.nil,(fun t ht=>by cases ht),by decide⟩
 have HB:=hid hbW
 clear hbW hcW
 go_enter Tryz.func16,Tryz.ntmps16
 go_wp2
 try rw[hW]
 go_ret
 exact⟨rfl,HD.out,HB.out⟩
theorem Az (g N c k:Nat) (hk:k≤N) (hN:N≤c) (w:World):(Instr.slice 22 (.slice (some ⟨g,0,none⟩) N c) none (some (.int .i64 (k:Int))) none).run Tryz.prog w = .ok (.slice (some ⟨g,0,none⟩) k c) w:=by
 go_simp
 intro h
 omega
theorem wu (g N c k:Nat) (hk:k≤N) (hN:N≤c):∃a,(k<c→a=(⟨g,k*3,none⟩:Addr))∧∀w:World,(Instr.slice 22 (.slice (some ⟨g,0,none⟩) N c) (some (.int .i64 (k:Int))) none none).run Tryz.prog w = .ok (.slice (some a) (N-k) (c-k)) w:=by
 by_cases h:k=c
 ·subst h
  obtain rfl:N=k:=by omega
  refine ⟨⟨g,0,none⟩,fun h=>absurd h (Nat.lt_irrefl _),fun w=>?_⟩
  go_simp
 ·refine ⟨⟨g,k*3,none⟩,fun _=>rfl,fun w=>?_⟩
  go_simp
  intro e
  omega
theorem qY (w:World):(Instr.slice 22 (.slice none 0 0) none (some (.int .i64 0)) none).run Tryz.prog w = .ok (.slice none 0 0) w:=by
 go_simp
theorem oq (w:World):(Instr.slice 22 (.slice none 0 0) (some (.int .i64 0)) none none).run Tryz.prog w = .ok (.slice none 0 0) w:=by
 go_simp
theorem DU {w:World} {rb:Nat} {v:Value} {css:List (List Value)} {T:List Tb} {D:Nat→Prop} (h:dR w rb v css T D) {k:Nat} (hk:k≤T.length) :
  ∃x1 y1 z1,(∀W:World,(Instr.slice 22 v none (some (.int .i64 (k:Int))) none).run Tryz.prog W = .ok (.slice x1 y1 z1) W)∧∃a2 n2 c2 w2,(Builtin.append_ #[22,22] 22 #[.slice none 0 0,.slice x1 y1 z1]).run Tryz.prog w = .ok (.slice a2 n2 c2) w2∧w2.ownsRow w.heap.size 42 3 (.slice a2 n2 c2) k (css.take k).flatten∧Below w.heap.size w w2:=by
 have h6:=h.six
 have hcl:=h.els.1
 have hl3:=uh h.els
 have hown:=h.own
 rcases h.own.2 with⟨rfl,h0⟩ | ⟨g,cap,cur,rfl,hb,hg,hnc,hcm,_⟩
 ·obtain rfl:k=0:=by omega
  refine ⟨none,0,0,qY,none,0,0,w,lD (World.ownsRow_nil w 0 _ _) _,?_,Below.refl _ _⟩
  rw[List.take_zero]
  exact World.ownsRow_nil _ _ _ _
 ·obtain⟨a2,n2,c2,w2,h1,h2,h3⟩:=iF (w:=w) (base:=w.heap.size) (css:=[]) (World.ownsRow_nil w w.heap.size _ _) ⟨g,0,none⟩ k cap (css.take k) (by rw[List.length_take];omega) (fun ds hds=>hl3 ds (List.mem_of_mem_take hds)) (fun j u hu=>by
   have:=qj hown (fun cs hc=>(hl3 cs hc).1) 0 k j u (by rw[List.drop_zero];exact hu)
   rw[Nat.zero_mul] at this
   exact this) (by omega) (Nat.le_refl _) 22
  rw[Nat.zero_add,List.nil_append] at h2
  exact⟨some ⟨g,0,none⟩,k,cap,Az g T.length cap k hk hnc,a2,n2,c2,w2,h1,h2,h3.below (fun i hi=>by cases hi) (Nat.le_refl _)⟩
theorem AJ {w:World} {rb:Nat} {v:Value} {css:List (List Value)} {T:List Tb} {D:Nat→Prop} (h:dR w rb v css T D) {k:Nat} (hk:k≤T.length) {base n5:Nat} {x5:Option Addr} {y5 z5:Nat} {dss:List (List Value)} (ho:w.ownsRow base 42 3 (.slice x5 y5 z5) n5 dss.flatten) (hn:n5≤100) (hb:base≤w.heap.size) :
  ∃x1 y1 z1,(∀W:World,(Instr.slice 22 v (some (.int .i64 (k:Int))) none none).run Tryz.prog W = .ok (.slice x1 y1 z1) W)∧∃a2 n2 c2 w2,(Builtin.append_ #[22,22] 22 #[.slice x5 y5 z5,.slice x1 y1 z1]).run Tryz.prog w = .ok (.slice a2 n2 c2) w2∧w2.ownsRow base 42 3 (.slice a2 n2 c2) (n5+(T.length-k)) (dss++css.drop k).flatten∧aA (fun b=>(Value.slice x5 y5 z5).ownBlock=some b) w w2:=by
 have h6:=h.six
 have hcl:=h.els.1
 have hl3:=uh h.els
 have hown:=h.own
 rcases h.own.2 with⟨rfl,h0⟩ | ⟨g,cap,cur,rfl,_,hg,hnc,hcm,_⟩
 ·obtain rfl:k=0:=by omega
  refine ⟨none,0,0,oq,x5,y5,z5,w,lD ho _,?_,aA.refl _ _⟩
  obtain rfl:css=[]:=List.eq_nil_of_length_eq_zero (by omega)
  rw[List.drop_nil,List.append_nil,h0,Nat.sub_self,Nat.add_zero]
  exact ho
 ·obtain⟨a,ha,hs⟩:=wu g T.length cap k hk hnc
  obtain⟨a2,n2,c2,w2,h1,h2,h3⟩:=iF ho a (T.length-k) (cap-k) (css.drop k) (by rw[List.length_drop];omega) (fun ds hds=>hl3 ds (List.mem_of_mem_drop hds)) (fun j u hu=>by
   by_cases hkc:k<cap
   ·rw[ha hkc]
    exact qj hown (fun cs hc=>(hl3 cs hc).1) k (T.length-k) j u (by rw[List.take_of_length_le (by rw[List.length_drop];omega)];exact hu)
   ·have:css.drop k=[]:=List.drop_eq_nil_of_le (by omega)
    rw[this] at hu
    simp at hu) (by omega) hb 22
  exact⟨some a,T.length-k,cap-k,hs,a2,n2,c2,w2,h1,h2,h3⟩
theorem dR.put {w w':World} {rb:Nat} {v v':Value} {css css':List (List Value)} {T T':List Tb} {D:Nat→Prop} (h:dR w rb v css T D) (hbox:w'.heap[rb]?=some (.cells #[v'] 92)) (hown:w'.ownsRow w.heap.size 42 3 v' T'.length css'.flatten)
  (hels:gJ 3 dK (fun b=>D b∨(w.heap.size≤b∧b<w'.heap.size)) w' T' css') (hs:w.heap.size≤w'.heap.size) (hris:BL T') (hok : ∀t∈T',gI t=true) (hsix:T'.length≤6):dR w' rb v' css' T' (fun b=>D b∨(w.heap.size≤b∧b<w'.heap.size)) :=
 ⟨hbox,dP hown (fun _ _=>Nat.zero_le _),hels,fun b hb=>.inr (hown.lt b hb),fun b hb=>hb.elim (fun h1=>Nat.lt_of_lt_of_le (h.lt b h1) hs) (fun h1=>h1.2),fun hb=>hb.elim h.ne (fun h1=>by have:=World.lt_of_block h.box;omega),hris,hok,hsix⟩
theorem Js {w:World} {b:Nat} {a0:Value} {t:TypeId} (h:w.heap[b]?=some (.cells #[a0] t)) (v:Value) :
  ∃X,w.setCell ⟨b,0,none⟩ v=X∧X.heap[b]?=some (.cells #[v] t)∧aA (fun k=>k=b) w X:=by
 refine ⟨_,rfl,?_,(aA.refl (fun k=>k=b) w).own _ _⟩
 rw[setCell_eq_setRow w b 0 _ t _ v h,setRow_heap w b _ _ t _ h]
 simp only[List.setIfInBounds_toArray,List.set_cons_zero]
theorem tQ {w:World} {g:Nat} {a:Value} {t:TypeId} (h:w.heap[g]?=some (.cells #[a] t)):w.cell? ⟨g,0,none⟩=some a∧∀i,w.frozen? ⟨g,i,none⟩=false :=
 ⟨by rw[aD _ _ _ _ _ _ h];rfl,fun i=>by simp[World.frozen?,h]⟩
end Go.Proofs.YtfeglkleoijlaaaGreatDoor
