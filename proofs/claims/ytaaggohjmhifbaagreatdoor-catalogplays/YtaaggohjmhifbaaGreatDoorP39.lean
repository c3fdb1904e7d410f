/- Packed for the hand-in: CSame CAct CFindsP CSameAll CRAt CPlaysP CCopy -/
import Derived.Test.YtaaggohjmhifbaaGreatDoorP34
import Derived.Test.YtaaggohjmhifbaaGreatDoorP38
import Derived.Test.YtaaggohjmhifbaaGreatDoorP23
import Derived.Test.YtaaggohjmhifbaaGreatDoorP35
namespace Go.Proofs.YtaaggohjmhifbaaGreatDoor
open Go.RowKit Go.Shelf Go.Lib
set_option linter.unusedSimpArgs false
set_option linter.unusedVariables false
set_option maxRecDepth 20000
set_option maxHeartbeats 8000000
def sameT (a b:Tb):Bool:=decide (a.nm=b.nm)&&(decide (a.pr=b.pr)&&Lib.allEq eqC a.cols b.cols)
theorem sameT_iff (a b:Tb):sameT a b=true↔a=b:=by
 obtain⟨a1,a2,a3⟩:=a
 obtain⟨b1,b2,b3⟩:=b
 unfold sameT
 rw[Bool.and_eq_true,Bool.and_eq_true,decide_eq_true_eq,decide_eq_true_eq,allEq_iff]
 simp only[Tb.mk.injEq]
 exact⟨fun ⟨h1,h2,h3⟩=>⟨h1,h3,h2⟩,fun ⟨h1,h2,h3⟩=>⟨h1,h3,h2⟩⟩
theorem allEq_not {xs ys:List Co} {j:Nat} {x y:Co} (hx:xs[j]?=some x) (hy:ys[j]?=some y) (h:eqC x y=false):Lib.allEq eqC xs ys=false:=by
 cases e:Lib.allEq eqC xs ys with
 | false=>rfl
 |
  true =>
  have:=(allEq_iff xs ys).1 e
  subst this
  rw[hx] at hy
  injection hy with hy
  rw[(eqC_iff x y).2 hy] at h
  cases h
theorem sameTab_any (S T:Nat→Prop) (a b:Tb) (cs ds:List Value) (w:World) (ha:TbE S w a cs) (hb:TbE T w b ds) :
  Calls Tryz.prog 12 #[.agg cs.toArray,.agg ds.toArray] w fun e w'=>e = .returned (.bool (sameT a b))∧Below w.heap.size w w':=by
 obtain⟨a1,n1,c1,rfl,hsa⟩:=ha
 obtain⟨a2,n2,c2,rfl,hsb⟩:=hb
 have hn1:n1=a.cols.length:=by obtain⟨_,_,hf⟩:=hsa.form;simp only[Value.slice.injEq] at hf;exact hf.2.1
 have hn2:n2=b.cols.length:=by obtain⟨_,_,hf⟩:=hsb.form;simp only[Value.slice.injEq] at hf;exact hf.2.1
 obtain⟨anm,xs,apr⟩:=a
 obtain⟨bnm,ys,bpr⟩:=b
 dsimp only at hsa hsb hn1 hn2 ⊢
 subst hn1 hn2
 obtain⟨W,hW,hbW,hzW,hcA,hcB⟩:=two w (.cells #[.string (str8 anm),.slice a1 xs.length c1,.int .i64 apr] 31) (.cells #[.string (str8 bnm),.slice a2 ys.length c2,.int .i64 bpr] 31)
 have kA:=cells3f hcA
 have kB:=cells3f hcB
 have HCA:=hid hcA
 have HCB:=hid hcB
 have HB:=hid hbW
 have hgd:=Tryz.eqGuardCol
 have hsame:sameT ⟨anm,xs,apr⟩ ⟨bnm,ys,bpr⟩=(decide (anm=bnm)&&(decide (apr=bpr)&&Lib.allEq eqC xs ys)):=rfl
 rw[hsame]
 have hnm:((str8 anm).toList==(str8 bnm).toList)=decide (anm=bnm):=by
  rw[str8_toList,str8_toList]
  by_cases h:anm=bnm<;>simp[h]
 by_cases h1:anm=bnm
 ·rw[decide_eq_true h1,Bool.true_and]
  rw[decide_eq_true h1] at hnm
  by_cases h2:apr=bpr
  ·have h2':(apr != bpr)=false:=by simp[h2]
   rw[decide_eq_true h2,Bool.true_and]
   by_cases h3:xs.length=ys.length
   ·have h3':((xs.length:Int) != (ys.length:Int))=false:=by simp[h3]
    by_cases hne:xs=[]
    ·subst hne
     have hy0:ys=[]:=List.eq_nil_of_length_eq_zero (by rw[← h3];rfl)
     subst hy0
     simp only[List.length_nil] at hW kA kB
     clear h1 h2 h3 h3' hsame hbW hcA hcB hsa hsb HCA HCB
     go_enter Tryz.func12,Tryz.ntmps12
     go_wp2_with fail
     go_rounds 1
     go_ret
     try rw[hW]
     exact⟨rfl,HB.out⟩
    ·have hney:ys≠[]:=fun e=>hne (List.eq_nil_of_length_eq_zero (by rw[h3,e];rfl))
     obtain⟨b1,o1,d1,e1,hlc1,hcm1,_,hlt1,hel1⟩:=cols_at hsa hne
     obtain⟨b2,o2,d2,e2,hlc2,hcm2,_,hlt2,hel2⟩:=cols_at hsb hney
     simp only[Value.slice.injEq] at e1 e2
     obtain⟨rfl,_,rfl⟩:=e1
     obtain⟨rfl,_,rfl⟩:=e2
     unfold maxLen at hcm1 hcm2
     have H1:=hid hel1
     have H2:=hid hel2
     have hyx:(ys.length:Int)=(xs.length:Int):=by omega
     have HNOT:Hid (∀(j:Nat) (x y:Co),xs[j]?=some x→ys[j]?=some y→eqC x y=false→Lib.allEq eqC xs ys=false):=hid (fun j x y hx hy h=>allEq_not hx hy h)
     have HALL:Hid ((∀(j:Nat) (x y:Co),xs[j]?=some x→ys[j]?=some y→eqC x y=true)→Lib.allEq eqC xs ys=true):=hid (fun h=>(allEq_iff xs ys).2 (List.ext_getElem? (fun j=>by
      rcases Nat.lt_or_ge j xs.length with hj | hj
      ·rw[List.getElem?_eq_getElem hj,List.getElem?_eq_getElem (by omega)]
       rw[(eqC_iff _ _).1 (h j _ _ (List.getElem?_eq_getElem hj) (List.getElem?_eq_getElem (by omega)))]
      ·rw[List.getElem?_eq_none hj,List.getElem?_eq_none (by omega)])))
     generalize Lib.allEq eqC xs ys=R at HNOT HALL ⊢
     have H3:=hid h3
     clear h1 h2 hsame hbW hcA hcB hsa hsb hel1 hel2 hne hney h3
     go_enter Tryz.func12,Tryz.ntmps12
     go_wp2_with fail
     try rw[hW]
     clear hW kA kB
     go_loopw [5] (fun i wr=>∃k:Nat,k≤xs.length∧i = .int .i64 k∧Below W.heap.size W wr∧Hid (∀(j:Nat) (x y:Co),j<k→xs[j]?=some x→ys[j]?=some y→eqC x y=true)) (fun i _=>xs.length-(intOf i).toNat)
     case atStart=>exact⟨0,Nat.zero_le _,rfl,Below.refl _ _,hid (fun j x y h=>absurd h (Nat.not_lt_zero _))⟩
     case round =>
      obtain⟨j,hj,rfl,hbr,HEQ⟩:=hrel
      have hsr:=hbr.size
      have kA:=cells3f ((hbr.block w.heap.size (by omega)).trans HCA.out)
      have kB:=cells3f ((hbr.block (w.heap.size+1) (by omega)).trans HCB.out)
      have hBR:=HB.out.trans (hbr.mono HB.out.size)
      have HBR:=hid hbr
      have HBRW:=hid hBR
      by_cases hlt:j<xs.length
      ·obtain⟨x,hx⟩:∃x,xs[j]?=some x:=⟨_,List.getElem?_eq_getElem hlt⟩
       obtain⟨y,hy⟩:∃y,ys[j]?=some y:=⟨_,List.getElem?_eq_getElem (by have:=H3.out;omega)⟩
       have hlt':(j:Int)<(xs.length:Int):=by omega
       have hlty:(j:Int)<(ys.length:Int):=by omega
       have p0:=H1.out wr hBR j x hx 0 _ rfl
       have p1:=H1.out wr hBR j x hx 1 _ rfl
       have p2:=H1.out wr hBR j x hx 2 _ rfl
       have p3:=H1.out wr hBR j x hx 3 _ rfl
       rw[Nat.add_zero] at p0
       have q0:=H2.out wr hBR j y hy 0 _ rfl
       have q1:=H2.out wr hBR j y hy 1 _ rfl
       have q2:=H2.out wr hBR j y hy 2 _ rfl
       have q3:=H2.out wr hBR j y hy 3 _ rfl
       rw[Nat.add_zero] at q0
       have hrun:=run_neC x y
       have HN:=hid (HNOT.out j x y hx hy)
       have HE2:Hid (eqC x y=true→∀(m:Nat) (x y:Co),m<j+1→xs[m]?=some x→ys[m]?=some y→eqC x y=true):=hid (fun h m u v hm hu hv=>by
        rcases Nat.lt_or_ge m j with h1 | h1
        ·exact HEQ.out m u v h1 hu hv
        ·obtain rfl:m=j:=by omega
         rw[hx] at hu
         rw[hy] at hv
         injection hu with hu
         injection hv with hv
         subst hu hv
         exact h)
       clear hbr hBR hx hy HEQ hyx
       cases he:eqC x y with
       |
        true =>
        rw[he] at hrun
        have HE3:=hid (HE2.out he)
        clear he HE2 HN
        go_wp2_with fail
        go_quiet (fail)
        go_wp2
        go_roundw
        case rel=>exact⟨j+1,by omega,by go_num,by first | exact below_drewN HBR.out nq | exact HBR.out,HE3⟩
        case measure=>simp[intOf];omega
       |
        false =>
        rw[he] at hrun
        obtain rfl:=HN.out he
        clear he HE2 HN
        go_wp2_with fail
        go_quiet (fail)
        go_wp2
        go_ret
        exact⟨rfl,by first | exact below_drewN HBRW.out nq | exact HBRW.out⟩
      ·have hlt' : ¬(j:Int)<(xs.length:Int):=by omega
       obtain rfl:=HALL.out (fun m x y hx hy=>HEQ.out m x y (by have:=(List.getElem?_eq_some_iff.1 hx).1;omega) hx hy)
       clear hbr hBR HEQ
       go_wp2
       go_ret
       exact⟨rfl,HBRW.out⟩
   ·have h3':((xs.length:Int) != (ys.length:Int))=true:=by simp;omega
    have hR:Lib.allEq eqC xs ys=false:=Lib.allEq_len eqC xs ys h3
    rw[hR]
    generalize xs.length=n1 at *
    generalize ys.length=n2 at *
    clear h1 h2 h3 hsame hbW hcA hcB hsa hsb hR HCA HCB
    go_enter Tryz.func12,Tryz.ntmps12
    go_wp2
    go_ret
    exact⟨rfl,HB.out⟩
  ·have h2':(apr != bpr)=true:=by simpa using h2
   rw[decide_eq_false h2,Bool.false_and]
   clear h1 h2 hsame hbW hcA hcB hsa hsb HCA HCB
   go_enter Tryz.func12,Tryz.ntmps12
   go_wp2
   go_ret
   exact⟨rfl,HB.out⟩
 ·rw[decide_eq_false h1,Bool.false_and]
  rw[decide_eq_false h1] at hnm
  clear h1 hsame hbW hcA hcB hsa hsb HCA HCB
  go_enter Tryz.func12,Tryz.ntmps12
  go_wp2
  go_ret
  exact⟨rfl,HB.out⟩
end Go.Proofs.YtaaggohjmhifbaaGreatDoor
namespace Go.Proofs.YtaaggohjmhifbaaGreatDoor
open Go.RowKit
set_option linter.unusedVariables false
set_option maxHeartbeats 8000000
structure Ac where
 d:Int
 t:Tb
 s:List UInt8
def AcE (S:Nat→Prop) (w:World) (a:Ac) (cs:List Value):Prop:=∃ts:List Value,cs = .int .i64 a.d::ts++[.string (str8 a.s)]∧TbE S w a.t ts
theorem AcE.to {S R T:Nat→Prop} {w w':World} {t:Ac} {cs:List Value} (h:AcE S w t cs) (hk:Spares R w w') (hS : ∀b,S b→b<w.heap.size→¬R b∧T b):AcE T w' t cs:=by
 obtain⟨ts,h1,h2⟩:=h
 exact⟨ts,h1,h2.to hk hS⟩
end Go.Proofs.YtaaggohjmhifbaaGreatDoor
namespace Go.Proofs.YtaaggohjmhifbaaGreatDoor
open Go.RowKit
set_option linter.unusedSimpArgs false
set_option linter.unusedVariables false
set_option maxHeartbeats 8000000
theorem addE_zero {L:List Tb} {t:Tb} (h:addE L t=0):mayB t=true∧t.nm ∉ L.map Tb.nm∧addL L t=t::L:=by
 refine ⟨?_,?_,by unfold addL;rw[if_pos h]⟩
 ·unfold addE at h
  split at h
  ·assumption
  ·cases h
 ·unfold addE at h
  split at h
  ·split at h
   ·cases h
   ·assumption
  ·cases h
theorem find_new {L:List Tb} {t:Tb} (h:addE L t=0):decide (t.nm∈L.map Tb.nm)=false∧decide (t.nm∈(addL L t).map Tb.nm)=true∧findT (addL L t) t.nm=t:=by
 obtain⟨_,h2,h3⟩:=addE_zero h
 rw[h3]
 refine ⟨decide_eq_false h2,decide_eq_true (by simp),?_⟩
 simp[findT]
theorem find_kept {L:List Tb} {t:Tb} {nm:List UInt8} (h : ¬(addE L t=0∧t.nm=nm)):decide (nm∈(addL L t).map Tb.nm)=decide (nm∈L.map Tb.nm)∧findT (addL L t) nm=findT L nm:=by
 by_cases h0:addE L t=0
 ·have hn:t.nm≠nm:=fun e=>h ⟨h0,e⟩
  rw[(addE_zero h0).2.2]
  refine ⟨by simp[Ne.symm hn],?_⟩
  unfold findT
  rw[List.find?_cons_of_neg (by simpa using hn)]
 ·unfold addL
  rw[if_neg h0]
  exact⟨rfl,rfl⟩
theorem find_drop {L:List Tb} {s nm:List UInt8} (h:s≠nm):decide (nm∈(dropT L s).map Tb.nm)=decide (nm∈L.map Tb.nm)∧findT (dropT L s) nm=findT L nm:=by
 refine ⟨by rw[decide_eq_decide,dropT_names];exact⟨fun x=>x.1,fun x=>⟨x,Ne.symm h⟩⟩,?_⟩
 unfold findT dropT
 congr 1
 induction L with
 | nil=>rfl
 |
  cons t L ih =>
  by_cases e:t.nm=s
  ·rw[List.filter_cons_of_neg (by simpa using e),List.find?_cons_of_neg (by simp[e,h])]
   exact ih
  ·rw[List.filter_cons_of_pos (by simpa using e)]
   by_cases e2:t.nm=nm
   ·rw[List.find?_cons_of_pos (by simpa using e2),List.find?_cons_of_pos (by simpa using e2)]
   ·rw[List.find?_cons_of_neg (by simpa using e2),List.find?_cons_of_neg (by simpa using e2)]
    exact ih
theorem gone {L:List Tb} {nm:List UInt8}:decide (nm∈(dropT L nm).map Tb.nm)=false :=
 decide_eq_false (fun h=>((dropT_names L nm nm).1 h).2 rfl)
structure FM (w wr:World) (sb mb wb:Nat) (L:List Tb) (want:Tb) (ds:List Value):Prop where
 cat : ∃E f S,CatAt wr sb mb E f L S∧∀b,S b→w.heap.size≤b∧b≠wb
 box:wr.heap[wb]?=some (.cells ds.toArray 31)
 tb:TbE (fun b=>b≠mb∧b≠wb) wr want ds
 below:Below w.heap.size w wr
 lo:w.heap.size≤wb∧w.heap.size≤mb∧mb≠wb
theorem FM.lt {w wr:World} {sb mb wb:Nat} {L:List Tb} {want:Tb} {ds:List Value} (h:FM w wr sb mb wb L want ds):wb<wr.heap.size:=(Array.getElem?_eq_some_iff.1 h.box).1
theorem FM.new {w wr w':World} {sb mb wb:Nat} {L:List Tb} {want:Tb} {ds:List Value} (h:FM w wr sb mb wb L want ds) (hb:Below wr.heap.size wr w'):FM w w' sb mb wb L want ds:=by
 obtain⟨E,f,S,h1,h2⟩:=h.cat
 exact⟨⟨E,f,S,h1.new hb,h2⟩,(hb.block wb h.lt).trans h.box,h.tb.on hb,h.below.trans (hb.mono h.below.size),h.lo⟩
theorem FM.mv {w wr w':World} {sb mb wb:Nat} {L L':List Tb} {want:Tb} {ds:List Value} {E:DataW Value} {f:List UInt8→Value} {S:Nat→Prop} (h:FM w wr sb mb wb L want ds) (hk:Spares (fun k=>k=mb) wr w') (hc:CatAt w' sb mb E f L' S) (hS : ∀b,S b→w.heap.size≤b∧b≠wb):FM w w' sb mb wb L' want ds :=
 ⟨⟨E,f,S,hc,hS⟩,(hk.block wb h.lt (fun e=>h.lo.2.2 e.symm)).trans h.box,h.tb.to hk (fun b hb _=>⟨hb.1,hb⟩),h.below.trans (hk.below (fun i hi=>by have:=h.lo.2.1;omega) h.below.size),h.lo⟩
theorem FM.put {w wr w':World} {sb mb wb:Nat} {L:List Tb} {want t:Tb} {ds cs:List Value} (h:FM w wr sb mb wb L want ds) (hk:Spares (fun k=>k=wb) wr w') (hb:w'.heap[wb]?=some (.cells cs.toArray 31)) (ht:TbE (fun b=>b≠mb∧b≠wb) wr t cs):FM w w' sb mb wb L t cs:=by
 obtain⟨E,f,S,h1,h2⟩:=h.cat
 exact⟨⟨E,f,S,h1.keeps hk (fun i hi=>(h2 i hi).2),h2⟩,hb,ht.to hk (fun b hb _=>⟨hb.2,hb⟩),h.below.trans (hk.below (fun i hi=>by have:=h.lo.1;omega) h.below.size),h.lo⟩
end Go.Proofs.YtaaggohjmhifbaaGreatDoor
namespace Go.Proofs.YtaaggohjmhifbaaGreatDoor
open Go.RowKit Go.Shelf Go.Lib
set_option linter.unusedSimpArgs false
set_option linter.unusedVariables false
set_option maxRecDepth 20000
set_option maxHeartbeats 8000000
theorem sameAll_any (S T:Nat→Prop) (xs:List Tb) (v u:Value) (w:World) (hv:SlAt 3 TbE S w xs v) (hu:SlAt 3 TbE T w xs u) :
  Calls Tryz.prog 28 #[v,u] w fun e w'=>e = .returned (.bool true)∧Below w.heap.size w w':=by
 by_cases hne:xs=[]
 ·subst hne
  obtain⟨a1,c1,rfl⟩:=hv.form
  obtain⟨a2,c2,rfl⟩:=hu.form
  simp only[List.length_nil]
  clear hv hu
  go_enter Tryz.func28,Tryz.ntmps28
  go_wp2_with fail
  go_rounds 1
  go_ret
  exact⟨rfl,Below.refl _ _⟩
 ·obtain⟨b,off,c,rfl,hlc,hc,hel⟩:=hv.opened (by decide) hne
  obtain⟨b',off',c',rfl,hlc',hc',hel'⟩:=hu.opened (by decide) hne
  unfold maxLen at hc hc'
  have HA:=hid hel
  have HA':=hid hel'
  clear hv hu hel hel'
  go_enter Tryz.func28,Tryz.ntmps28
  go_wp2_with fail
  go_loopw [5,6] (fun i _ wr=>∃k:Nat,k≤xs.length∧i = .int .i64 k∧Below w.heap.size w wr) (fun i _ _=>xs.length-(intOf i).toNat)
  case atStart=>exact⟨0,Nat.zero_le _,rfl,Below.refl _ _⟩
  case round =>
   obtain⟨j,hj,rfl,hbel⟩:=hrel
   by_cases hlt:j<xs.length
   ·obtain⟨x,hx⟩:∃x,xs[j]?=some x:=⟨_,List.getElem?_eq_getElem hlt⟩
    have hlt':((j:Int)<(xs.length:Int)):=by omega
    obtain⟨cs,hE,hcl⟩:=HA.out j x hx
    obtain⟨cs',hE',hcl'⟩:=HA'.out j x hx
    have hE1:=hE.to (R:=fun _=>False) (T:=S) (Spares.of_new hbel.drew) (fun b hb _=>⟨id,hb⟩)
    have hE2:=hE'.to (R:=fun _=>False) (T:=T) (Spares.of_new hbel.drew) (fun b hb _=>⟨id,hb⟩)
    have hcall:=sameTab_any S T x x _ _ wr.drew hE1 hE2
    rw[(sameT_iff x x).2 rfl] at hcall
    obtain⟨aa,nn,cc,rfl,_⟩:=hE
    obtain⟨aa',nn',cc',rfl,_⟩:=hE'
    have p0:=hcl wr hbel 0 _ rfl
    have p1:=hcl wr hbel 1 _ rfl
    have p2:=hcl wr hbel 2 _ rfl
    rw[Nat.add_zero] at p0
    have q0:=hcl' wr hbel 0 _ rfl
    have q1:=hcl' wr hbel 1 _ rfl
    have q2:=hcl' wr hbel 2 _ rfl
    rw[Nat.add_zero] at q0
    have HBR:=hid hbel
    have HCA:=hid hcall
    clear hcall hbel hx hcl hcl' hE1 hE2
    go_wp2_with fail
    go_region_with (first
     | (
      go_at_call 12;refine HCA.out.mono ?_
      rintro e w1 ⟨rfl,hb1⟩
      have HB1:Hid (Below w.heap.size w w1):=hid (HBR.out.drew.trans (hb1.mono HBR.out.size))
      clear hb1)
     | fail)
    all_goals
     go_wp2
     exact⟨⟨j+1,by omega,by go_num,by first | exact below_drewN HB1.out nq | exact HB1.out⟩,by simp[intOf];omega⟩
   ·have hlt' : ¬((j:Int)<(xs.length:Int)):=by omega
    have HBR:=hid hbel
    clear hbel
    go_wp2
    go_ret
    exact⟨rfl,HBR.out⟩
def AtN (T:List Tb) (nm:List UInt8) (k:Nat):Prop:=k≤T.length∧(∀(i:Nat) (x:Tb),i<k→T[i]?=some x→Op.bytesLess x.nm nm=true)∧∀x:Tb,T[k]?=some x→Op.bytesLess x.nm nm=false
theorem rat_any (S:Nat→Prop) (T:List Tb) (nm:List UInt8) (rb:Nat) (v:Value) (w:World) (hc:w.cell? ⟨rb,0,none⟩=some v) (hv:SlAt 3 TbE S w T v) :
  Calls Tryz.prog 42 #[.pointer (some ⟨rb,0,none⟩),.string (str8 nm)] w fun e w'=>∃k:Nat,e = .returned (.int .i64 k)∧AtN T nm k∧w'=w:=by
 by_cases hne:T=[]
 ·subst hne
  obtain⟨a1,c1,rfl⟩:=hv.form
  simp only[List.length_nil] at hc
  clear hv
  go_enter Tryz.func42,Tryz.ntmps42
  go_wp2_with fail
  go_rounds 1
  go_ret
  exact⟨0,rfl,⟨Nat.le_refl _,fun i x h=>absurd h (Nat.not_lt_zero _),fun x h=>by simp at h⟩,rfl⟩
 ·obtain⟨b,off,c,rfl,hlc,hcm,hel⟩:=hv.opened (by decide) hne
  unfold maxLen at hcm
  have HA:=hid hel
  clear hv hel
  go_enter Tryz.func42,Tryz.ntmps42
  go_wp2_with fail
  go_loopw [5] (fun i wr=>∃k:Nat,k≤T.length∧i = .int .i64 k∧wr=w∧Hid (∀(i:Nat) (x:Tb),i<k→T[i]?=some x→Op.bytesLess x.nm nm=true)) (fun i _=>T.length-(intOf i).toNat)
  case atStart=>exact⟨0,Nat.zero_le _,rfl,rfl,hid (fun i x h=>absurd h (Nat.not_lt_zero _))⟩
  case round =>
   obtain⟨j,hj,rfl,rfl,HL⟩:=hrel
   by_cases hlt:j<T.length
   ·obtain⟨x,hx⟩:∃x,T[j]?=some x:=⟨_,List.getElem?_eq_getElem hlt⟩
    have hlt':((j:Int)<(T.length:Int)):=by omega
    obtain⟨cs,hE,hcl⟩:=HA.out j x hx
    obtain⟨aa,nn,cc,rfl,_⟩:=hE
    have p0:=hcl wr (Below.refl _ _) 0 _ rfl
    rw[Nat.add_zero] at p0
    have HX:=hid hx
    clear hx hcl
    cases hless:Op.bytesLess x.nm nm with
    |
     true =>
     have hl1:Op.bytesLess (str8 x.nm).toList (str8 nm).toList=true:=by rw[str8_toList,str8_toList];exact hless
     have HS:=hid hless
     clear hless
     go_wp2
     go_roundw
     case rel =>
      refine ⟨j+1,by omega,by go_num,trivial,hid (fun i y hi hy=>?_)⟩
      rcases Nat.lt_or_ge i j with h1 | h1
      ·exact HL.out i y h1 hy
      ·obtain rfl:i=j:=by omega
       have:=HX.out
       rw[hy] at this
       injection this with e
       rw[e]
       exact HS.out
     case measure=>simp[intOf];omega
    |
     false =>
     have hl1:Op.bytesLess (str8 x.nm).toList (str8 nm).toList=false:=by rw[str8_toList,str8_toList];exact hless
     have HS:=hid hless
     clear hless
     go_wp2
     go_ret
     exact⟨j,rfl,⟨hj,HL.out,fun y hy=>by have:=HX.out;rw[hy] at this;injection this with e;rw[e];exact HS.out⟩,rfl⟩
   ·have hlt' : ¬((j:Int)<(T.length:Int)):=by omega
    go_wp2
    go_ret
    exact⟨j,rfl,⟨hj,HL.out,fun y hy=>by have:=(List.getElem?_eq_some_iff.1 hy).1;omega⟩,rfl⟩
end Go.Proofs.YtaaggohjmhifbaaGreatDoor
namespace Go.Proofs.YtaaggohjmhifbaaGreatDoor
open Go.RowKit
set_option linter.unusedSimpArgs false
set_option linter.unusedVariables false
set_option maxHeartbeats 8000000
def Ris (T:List Tb):Prop:=T.Pairwise (fun a b=>Op.bytesLess a.nm b.nm=true)
theorem less_asym {a b:List UInt8} (h:Op.bytesLess a b=true):Op.bytesLess b a=false:=by
 cases h2:Op.bytesLess b a with
 | false=>rfl
 | true=>have:=less_tr a b a h h2;rw[less_irr] at this;cases this
theorem Ris.inj {T:List Tb} (h:Ris T) {a b:Tb} (ha:a∈T) (hb:b∈T) (e:a.nm=b.nm):a=b:=by
 obtain⟨i,hi,rfl⟩:=List.getElem_of_mem ha
 obtain⟨j,hj,rfl⟩:=List.getElem_of_mem hb
 have hp:=List.pairwise_iff_getElem.1 h
 rcases Nat.lt_trichotomy i j with h1 | h1 | h1
 ·have:=hp i j hi hj h1
  rw[e,less_irr] at this
  cases this
 ·subst h1;rfl
 ·have:=hp j i hj hi h1
  rw[e,less_irr] at this
  cases this
theorem ris_unique {A B:List Tb} (hA:Ris A) (hp:B.Perm A) (hB : ∀(i j:Nat) (a b:Tb),i<j→B[i]?=some a→B[j]?=some b→Op.bytesLess b.nm a.nm=false):B=A:=by
 refine List.Perm.eq_of_pairwise (le:=fun a b=>Op.bytesLess b.nm a.nm=false) ?_ ?_ ?_ hp
 ·intro a b ha hb h1 h2
  exact hA.inj (hp.mem_iff.1 ha) hb (less_tot _ _ h2 h1)
 ·exact List.pairwise_iff_getElem.2 (fun i j hi hj hij=>hB i j _ _ hij (List.getElem?_eq_getElem hi) (List.getElem?_eq_getElem hj))
 ·exact hA.imp (fun h=>less_asym h)
theorem at_in {T:List Tb} {nm:List UInt8} {k:Nat} (hR:Ris T) (h:AtN T nm k) {x:Tb} (hx:x∈T) (e:x.nm=nm):T[k]?=some x:=by
 obtain⟨i,hi,rfl⟩:=List.getElem_of_mem hx
 have hp:=List.pairwise_iff_getElem.1 hR
 rcases Nat.lt_trichotomy i k with h1 | h1 | h1
 ·have:=h.2.1 i _ h1 (List.getElem?_eq_getElem hi)
  rw[e,less_irr] at this
  cases this
 ·subst h1;exact List.getElem?_eq_getElem hi
 ·have h2:=hp k i (by omega) hi h1
  have h3:=h.2.2 _ (List.getElem?_eq_getElem (by omega))
  rw[e] at h2
  rw[h2] at h3
  cases h3
theorem beneath {T:List Tb} {nm:List UInt8} {k:Nat} (h:AtN T nm k) {y:Tb} (hy:y∈T.take k):Op.bytesLess y.nm nm=true:=by
 obtain⟨i,hi,rfl⟩:=List.getElem_of_mem hy
 rw[List.length_take] at hi
 rw[List.getElem_take]
 exact h.2.1 i _ (by omega) (List.getElem?_eq_getElem (by omega))
theorem ris_cut {T:List Tb} (hR:Ris T) (k:Nat):Ris (T.take k++T.drop (k+1)):=by
 have:(T.take k++T.drop (k+1)).Sublist T:=by
  have h1:=List.Sublist.append (List.Sublist.refl (T.take k)) (List.drop_sublist 1 (T.drop k))
  rw[List.drop_drop,List.take_append_drop] at h1
  exact h1
 exact hR.sublist this
theorem cut_drop {T:List Tb} {nm:List UInt8} {k:Nat} {x:Tb} (hR:Ris T) (h:AtN T nm k) (hx:T[k]?=some x) (e:x.nm=nm):dropT T nm=T.take k++T.drop (k+1):=by
 obtain⟨hk,hxk⟩:=List.getElem?_eq_some_iff.1 hx
 have hT:T.take k++x::T.drop (k+1)=T:=by rw[← hxk,List.getElem_cons_drop,List.take_append_drop]
 have hR':Ris (T.take k++x::T.drop (k+1)):=by rw[hT];exact hR
 unfold Ris at hR'
 rw[List.pairwise_append,List.pairwise_cons] at hR'
 have h1:(T.take k).filter (fun t=>decide (t.nm≠nm))=T.take k:=List.filter_eq_self.2 (fun y hy=>by
  have:=beneath h hy
  refine decide_eq_true (fun e2=>?_)
  rw[e2,less_irr] at this
  cases this)
 have h2:(T.drop (k+1)).filter (fun t=>decide (t.nm≠nm))=T.drop (k+1):=List.filter_eq_self.2 (fun y hy=>by
  have:=hR'.2.1.1 y hy
  refine decide_eq_true (fun e2=>?_)
  rw[e2,e,less_irr] at this
  cases this)
 unfold dropT
 conv=>lhs;rw[← hT]
 rw[List.filter_append,List.filter_cons_of_neg (by simp[e]),h1,h2]
end Go.Proofs.YtaaggohjmhifbaaGreatDoor
namespace Go.Proofs.YtaaggohjmhifbaaGreatDoor
open Go.RowKit Go.Shelf Go.Lib
set_option linter.unusedSimpArgs false
set_option linter.unusedVariables false
set_option maxRecDepth 20000
set_option maxHeartbeats 8000000
theorem append_cols {w:World} {S:Nat→Prop} {l:List Co} {aa:Option Addr} {nn cc:Nat} (h:SlAt 4 ColE S w l (.slice aa nn cc)) (hl:l.length*32≤140737488355328) {g:Nat} (hg:w.heap[g]?=some (.cells #[] 37)) (base:Nat) (hb:base≤g) (ty:TypeId) :
  ∃a2 n2 c2 w',(Builtin.append_ #[22,22] ty #[.slice (some ⟨g,0,none⟩) 0 0,.slice aa nn cc]).run Tryz.prog w = .ok (.slice a2 n2 c2) w'∧w'.ownsRow base 37 4 (.slice a2 n2 c2) l.length (colsC l)∧Spares (fun k=>k=g) w w':=by
 obtain⟨i0,hi,hy0,hy1,hy2⟩:=info_parts Tryz.infoCol
 have hgl:g<w.heap.size:=World.lt_of_block hg
 have hown:w.ownsRow base 37 4 (.slice (some ⟨g,0,none⟩) 0 0) 0 []:=⟨by simp,.inr ⟨g,0,#[],rfl,hb,hg,Nat.le_refl _,by unfold maxLen;omega,rfl,by simp⟩⟩
 have hform : ∀(v:Value) (W:World) (n:Nat) (xs:List Value),W.ownsRow base 37 4 v n xs→∃a2 n2 c2,v = .slice a2 n2 c2:=fun v W n xs h=>by
  rcases h.2 with⟨rfl,_⟩ | ⟨_,_,_,rfl,_⟩<;>exact⟨_,_,_,rfl⟩
 have hbel : ∀W:World,w.grownBy W (some g)→Spares (fun k=>k=g) w W:=fun W hW=>Spares.of_grown (S:=fun k=>k=g) hW (fun k e=>by injection e with e;exact e.symm)
 obtain⟨a,c,css,hv,h1,h2,h4,h5⟩:=id h
 simp only[Value.slice.injEq] at hv
 obtain⟨rfl,rfl,rfl⟩:=hv
 cases aa with
 |
  none =>
  have hn:l=[]:=by
   by_cases e:l=[]
   ·exact e
   ·obtain⟨b,off,e2,_⟩:=h5 e
    cases e2
  subst hn
  have hr:(Builtin.append_ #[22,22] ty #[.slice (some ⟨g,0,none⟩) 0 0,.slice none 0 cc]).run Tryz.prog w = .ok (.slice (some ⟨g,0,none⟩) 0 0) w:=by
   simp[Builtin.append_,run_underlying Tryz.underlying22,sizeOf,typeInfo,hi,Builtin.lenOf,Builtin.firstCells,storeCells]
  exact⟨_,_,_,w,hr,hown,Spares.refl _ _⟩
 |
  some p =>
  have hcells : ∀j u,(colsC l)[j]?=some u→w.cell? (p.add j)=some u:=fun j u hu=>by
   have hne:l≠[]:=fun e=>by subst e;simp[colsC] at hu
   obtain⟨b,off,c,hv,_,_,_,_,hel⟩:=cols_at h hne
   simp only[Value.slice.injEq,Option.some.injEq] at hv
   obtain⟨rfl,_,_⟩:=hv
   obtain⟨x,e1,e2⟩:=colsC_get l j u hu
   have:=hel w (Below.refl _ _) (j / 4) x e1 (j % 4) u e2
   have e:off+j / 4*4+j % 4=off+j:=by omega
   rw[e] at this
   rw[Addr.add_lit]
   exact this
  obtain⟨v',w',hr,ho,hg2,_⟩:=run_append_own (P:=Tryz.prog) w base 22 ty 37 i0 _ 4 32 Tryz.underlying22 hi hy0 hy1 hy2 rfl (by decide) (.slice (some ⟨g,0,none⟩) 0 0) 0 [] hown p l.length cc (colsC l) (colsC_len l) hcells (colsC_one l) (by unfold maxLen;omega) (by rw[Nat.zero_add];exact hl) (by omega)
  rw[Nat.zero_add,List.nil_append] at ho
  obtain⟨a2,n2,c2,rfl⟩:=hform v' w' _ _ ho
  exact⟨a2,n2,c2,w',hr,ho,hbel w' hg2⟩
theorem wpList_append_run {P:Program} {ops:Array Oper} {rest:List Oper} {o:Oper} {a:Act} {Q:Exit→Act→World→Prop} (w:World) (hgd:o.guard=none) (s x:Operand) (t:TypeId)
  (ho:o.op = .call { callee:=.builtin .append,args:=#[s,x],argTypes:=#[t,t] }) (v u v':Value) (w':World) (hs:a.eval s=v) (hx:a.eval x=u) (hr:(Builtin.append_ #[t,t] o.type #[v,u]).run P w = .ok v' w')
  (h:wpList P ops Q rest (a.put o.dst v') w'):wpList P ops Q (o::rest) a w:=by
 refine wpList_plain hgd fun _ hK=>?_
 unfold Oper.wp execOp
 simp only[ho,resolve,invoke,builtin,Sem.run_bind,Sem.run_pure,Result.andThen_ok,List.map_toArray,List.map_cons,List.map_nil,hs,hx,hr]
 exact hK _ _ h
theorem copied11_any (S:Nat→Prop) (t:Tb) (cs:List Value) (w:World) (h:TbE S w t cs) (hl:t.cols.length*32≤140737488355328) :
  Calls Tryz.prog 20 #[.agg cs.toArray] w fun e w'=>∃ds:List Value,e = .returned (.agg ds.toArray)∧TbO w.heap.size w' t ds∧Below w.heap.size w w':=by
 obtain⟨aa,nn,cc,rfl,hsl⟩:=h
 obtain⟨nm,l,pr⟩:=t
 dsimp only at hsl hl ⊢
 obtain⟨W,hW,hbW,hzW,hcA,hcB⟩:=two w (.cells #[.string (str8 nm),.slice aa nn cc,.int .i64 pr] 31) (.cells #[.string ⟨#[]⟩,.slice none 0 0,.int .i64 0] 31)
 obtain⟨U,hU,hbU,hzU,hcU⟩:=box8 W (.cells #[] 37)
 have hBU:=hbW.trans (hbU.mono hbW.size)
 obtain⟨a2,n2,c2,w2,hrun,hown,hs2⟩:=append_cols (hsl.to (T:=S) (by decide) (R:=fun _=>False) (Spares.of_new hBU) (fun b hb _=>⟨id,hb⟩) (fun _ _ e=>e)) hl hcU W.heap.size (Nat.le_refl _) 22
 have hb2:Below W.heap.size U w2:=hs2.below (fun i hi=>by omega) (by omega)
 clear hs2
 have HRUN:=hid hrun
 clear hrun
 have kU:=cells3f ((hbU.block w.heap.size (by omega)).trans hcA)
 have hA2:=(hb2.block w.heap.size (by omega)).trans ((hbU.block w.heap.size (by omega)).trans hcA)
 have hZ2:=(hb2.block (w.heap.size+1) (by omega)).trans ((hbU.block (w.heap.size+1) (by omega)).trans hcB)
 have hz2:W.heap.size≤w2.heap.size:=by have:=hb2.size;omega
 obtain⟨X,hX,hcX,hspX⟩:=set1of3 hA2 (.slice a2 n2 c2)
 have k2:=cells3f hA2
 have hzX:=hspX.size
 have hZX:=(hspX.block (w.heap.size+1) (by omega) (by omega)).trans hZ2
 have kX:=cells3f hcX
 have kZ:=cells3f hZX
 have hB2:Below w.heap.size w w2:=hBU.trans (hb2.mono (by omega))
 have HBX:Hid (Below w.heap.size w X):=hid (hB2.trans (hspX.below (fun i hi=>by omega) hB2.size))
 have HOX:Hid (X.ownsRow W.heap.size 37 4 (.slice a2 n2 c2) l.length (colsC l)):=hid (hspX.row hown (fun b hb=>by have:=(hown.lt b hb).1;omega))
 clear hcA hcB hbW hsl hbU hcU hBU hb2 hA2 hZ2 hspX hZX hB2 hcX hown
 go_enter Tryz.func20,Tryz.ntmps20
 go_wp2_with (at_builtin;refine wpList_append_run _ rfl (.tmp 3) (.tmp 5) 22 rfl _ _ _ _ rfl rfl HRUN.out ?_)
 have hSp:Spares (fun k=>k=w.heap.size+1) X (((X.setCell ⟨w.heap.size+1,0,none⟩ (.string (str8 nm))).setCell ⟨w.heap.size+1,1,none⟩ (.slice a2 n2 c2)).setCell ⟨w.heap.size+1,2,none⟩ (.int .i64 pr)):=(((Spares.refl (fun k=>k=w.heap.size+1) X).own _ _).own _ _).own _ _
 have hB:Below w.heap.size w (((X.setCell ⟨w.heap.size+1,0,none⟩ (.string (str8 nm))).setCell ⟨w.heap.size+1,1,none⟩ (.slice a2 n2 c2)).setCell ⟨w.heap.size+1,2,none⟩ (.int .i64 pr)):=HBX.out.trans (hSp.below (fun i hi=>by omega) HBX.out.size)
 refine bodyPost_ret (v:=.agg #[.string (str8 nm),.slice a2 n2 c2,.int .i64 pr]) (by simp[results,Tryz.results20,go_sem,kZ]) rfl ⟨_,rfl,⟨_,_,_,rfl,?_⟩,hB⟩
 exact owns_lower (hSp.row HOX.out (fun b hb=>by have:=(HOX.out.lt b hb).1;omega)) (fun b hb=>by have:=(HOX.out.lt b hb).1;omega)
end Go.Proofs.YtaaggohjmhifbaaGreatDoor
