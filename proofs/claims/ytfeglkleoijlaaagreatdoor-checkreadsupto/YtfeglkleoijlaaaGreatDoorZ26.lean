/- Packed for the hand-in: WTopS WRgA PStm WBackS WGive WGiveS CDef CPure WOne -/
import Derived.Test.YtfeglkleoijlaaaGreatDoorZ13
import Derived.Test.YtfeglkleoijlaaaGreatDoorZ19
import Derived.Test.YtfeglkleoijlaaaGreatDoorZ20
import Derived.Test.YtfeglkleoijlaaaGreatDoorZ25
import Derived.Test.YtfeglkleoijlaaaGreatDoorZ04
import Derived.Deep.Cut
import Derived.Deep.DeepCutAuto
import Derived.Test.YtfeglkleoijlaaaGreatDoorZ17
import Derived.Lib.SlBy2
namespace Go.Proofs.YtfeglkleoijlaaaGreatDoor
open Go.RowKit Go.Shelf
set_option linter.unusedSimpArgs false
set_option linter.unusedVariables false
set_option maxRecDepth 20000
set_option maxHeartbeats 8000000
def jK (l:List St):List UInt8 × Int:=if 8<l.length then ([],2) else if bf l 1 8 aZ=true then mo (aS (aK [59]) (l.map jF)) ((aY (l.map mR):Nat):Int) else ([],4)
theorem og (S:Nat→Prop) (l:List St) (v:Value) (w:World) (hT:eH w) (hR : ∀s∈l,xH s) (hv:aQ 14 eZ S w l v) (hz:l.length≤8→∀s∈l,aZ s=true→∀e∈jv s,jE e≤5000) :
  Calls Tryz.prog 18 #[v] w fun e w'=>e = .returned (.tuple #[.string (aj (jK l).1),.int .i64 (jK l).2])∧Below w.heap.size w w':=by
 have HV:=hid hv
 obtain⟨aa,cc,css,rfl,h1,h2,_⟩:=hv
 unfold maxLen at h2
 unfold jK
 by_cases h8:8<l.length
 ·rw[if_pos h8]
  have h8':(8:Int)<(l.length:Int):=by omega
  clear hz hR HV hT
  go_enter Tryz.func18,Tryz.ntmps18
  go_wp2
  exact bodyPost_ret (v:=.tuple #[.string ⟨#[]⟩,.int .i64 2]) (by simp[results,Tryz.results18,go_sem]) rfl ⟨rfl,Below.refl _ _⟩
 ·rw[if_neg h8]
  have h8' : ¬(8:Int)<(l.length:Int):=by omega
  have HA:=hid (sP S 47 (enters_of Tryz.func47 (by kernel_rfl) rfl) aZ l _ 1 8 w (by decide) (by decide) HV.out (hid (fun x hx V hb cs hcs=>lK S x cs V (hR x hx) hcs)))
  have HTW:=hid hT
  clear hR hT
  cases ha:bf l 1 8 aZ with
  |
   false =>
   rw[ha] at HA
   rw[if_neg Bool.false_ne_true]
   clear ha hz HV HTW
   go_enter Tryz.func18,Tryz.ntmps18
   go_wp2_with fail
   refine HA.out.mono ?_
   rintro e w1 ⟨rfl,hb1⟩
   have HB1:=hid hb1
   clear hb1 HA
   go_wp2
   exact bodyPost_ret (v:=.tuple #[.string ⟨#[]⟩,.int .i64 4]) (by simp[results,Tryz.results18,go_sem]) rfl ⟨rfl,HB1.out⟩
  |
   true =>
   rw[ha] at HA
   rw[if_pos rfl]
   have hall:=aU ha
   have hln:=(bL ha).2
   have hz2 : ∀s∈l,∀e∈jv s,jE e≤5000:=fun s hs=>hz hln s hs (hall s hs)
   have htl:=iJ (aK [59]) jF 501000 l (fun s hs=>DR (hall s hs) (hz2 s hs))
   have hdl:aY (l.map mR)≤10000:=lZ (fun n hn=>by
    obtain⟨s,hs,rfl⟩:=List.mem_map.1 hn
    exact uT (hz2 s hs))
   have htl2:(aS (aK [59]) (l.map jF)).length≤4008008:=Nat.le_trans htl (Nat.mul_le_mul_right _ hln)
   have HDP:Hid (∀s∈l,mR s≤10000):=hid (fun s hs=>uT (hz2 s hs))
   have HOK:Hid (∀t∈aS (aK [59]) (l.map jF),GL t):=hid (fun t ht=>(bB.sep (bI (by decide)) (fun x hx=>by
    obtain⟨s,hs,rfl⟩:=List.mem_map.1 hx
    exact pF (hall s hs)) t ht).ok)
   have HAL:=hid hall
   have HSW:Hid (∀(V:World) (g:Nat),bJ V g none [] 0 0→aQ 14 eZ (fun b=>b<g) V l (.slice aa l.length cc)→Calls Tryz.prog 48 #[.pointer (some ⟨g,0,none⟩),.string ⟨#[59]⟩,.slice aa l.length cc,.func (.func 49) #[.pointer (some ⟨g,0,none⟩)] #[]] V fun e w'=>e = .returned (.tuple #[])∧Wrote g none V w' ([]++aS (aK [59]) (l.map jF)) 0 (max 0 (0+((aY (l.map mR):Nat):Int)))):=hid (fun V g hV hS=>wV 49 (enters_of Tryz.func49 (by kernel_rfl) rfl) jF mR [59] (by decide) l _ g none [] 0 0 V hV hS (by decide) (by decide) (fun x hx=>by have:=HDP.out x hx;omega) (by show 0+_≤_;omega) (hid (fun x hxm U tb2 L2 m2 hU cs hcs hl2 h3 h4=>vW x (HAL.out x hxm) cs g tb2 L2 0 m2 U hU hcs hl2 (by decide) h3 h4 (by have:=HDP.out x hxm;omega))))
   obtain⟨R,hR⟩:∃R,mo (aS (aK [59]) (l.map jF)) ((aY (l.map mR):Nat):Int)=R:=⟨_,rfl⟩
   rw[hR]
   have HRR:=hid hR
   clear hR ha hall hz hz2 htl HAL HDP
   generalize aS (aK [59]) (l.map jF)=T at HSW HOK HRR htl2
   generalize aY (l.map mR)=D at HSW HRR hdl
   go_enter Tryz.func18,Tryz.ntmps18
   go_wp2_with fail
   refine HA.out.mono ?_
   rintro e w1 ⟨rfl,hb1⟩
   obtain⟨V,hV,hbV,hzV,hwV⟩:=yG w1 (HTW.out.on hb1)
   have hB1:=hb1.trans (hbV.mono hb1.size)
   have hle1:w.heap.size≤w1.heap.size:=hb1.size
   have hsV:aQ 14 eZ (fun b=>b<w1.heap.size) V l (.slice aa l.length cc):=by
    have hk:=aA.aC (S:=fun _=>False) hb1
    have hk2:=aA.aC (S:=fun _=>False) hbV
    have a1:aQ 14 eZ (fun b=>b<w1.heap.size) w1 l (.slice aa l.length cc):=HV.out.to (by decide) hk (fun b _ hb=>⟨id,Nat.lt_of_lt_of_le hb hb1.size⟩) (fun _ _ e=>e.to hk (fun b _ hb=>⟨id,Nat.lt_of_lt_of_le hb hb1.size⟩))
    exact a1.to (by decide) hk2 (fun b hb _=>⟨id,hb⟩) (fun _ _ e=>e.to hk2 (fun b hb _=>⟨id,hb⟩))
   have HL:=hid (HSW.out V w1.heap.size hwV hsV)
   have HBV:=hid hB1
   clear hb1 hB1 HA hbV hwV hsV HSW
   go_wp2_with fail
   try rw[hV]
   refine HL.out.mono ?_
   rintro e w2 ⟨rfl,tb2,hw2,ht2,hf2⟩
   rw[List.nil_append] at hw2
   have e1:max (0:Int) (0+(D:Int))=(D:Int):=by omega
   rw[e1] at hw2
   have HS:=hid (pz _ _ _ _ _ w2 hw2 HOK.out (by omega))
   have HB2:Hid (Below w.heap.size w w2):=hid (HBV.out.trans (hf2.below (fun i hi=>by
    rcases hi with rfl | e
    ·omega
    ·cases e) (by omega)))
   clear hw2 ht2 hf2 HL e1
   rw[HRR.out] at HS
   go_wp2_with fail
   refine HS.out.mono ?_
   rintro e w3 ⟨rfl,hb3⟩
   have HB3:=hid (HB2.out.trans (hb3.mono HB2.out.size))
   clear hb3 HS
   go_wp2
   exact bodyPost_ret (v:=.tuple #[.string (aj R.1),.int .i64 R.2]) (by simp[results,Tryz.results18,go_sem]) rfl ⟨rfl,HB3.out⟩
end Go.Proofs.YtfeglkleoijlaaaGreatDoor
namespace Go.Proofs.YtfeglkleoijlaaaGreatDoor
set_option linter.unusedSimpArgs false
set_option linter.unusedVariables false
set_option maxHeartbeats 8000000
theorem fu {s:List UInt8} (h:bC s=true):s.length≤16:=by
 unfold bC at h
 simp only[Bool.and_eq_true,decide_eq_true_eq] at h
 exact h.2.1
end Go.Proofs.YtfeglkleoijlaaaGreatDoor
namespace Go.Proofs.YtfeglkleoijlaaaGreatDoor
open Go.RowKit Go.Shelf
set_option linter.unusedSimpArgs false
set_option linter.unusedVariables false
set_option maxRecDepth 20000
set_option maxHeartbeats 8000000
def Gs (w:World) (sb:Nat) (x:St):Prop:=∃cs:List Value,w.heap[sb]?=some (.cells cs.toArray 29)∧eZ (fun b=>sb<b) w x cs
theorem Gs.lt {w:World} {sb:Nat} {x:St} (h:Gs w sb x):sb<w.heap.size:=by
 obtain⟨cs,h1,_⟩:=h
 exact (Array.getElem?_eq_some_iff.1 h1).1
theorem Gs.keeps {R:Nat→Prop} {w w':World} {sb:Nat} {x:St} (h:Gs w sb x) (hk:aA R w w') (hR : ∀b,sb≤b→b<w.heap.size→¬R b):Gs w' sb x:=by
 have hlt:=h.lt
 obtain⟨cs,h1,h2⟩:=h
 exact⟨cs,by rw[hk.block sb hlt (hR sb (Nat.le_refl _) hlt)];exact h1,h2.to hk (fun b hb hl=>⟨hR b (Nat.le_of_lt hb) hl,hb⟩)⟩
theorem Gs.at {w:World} {sb:Nat} {x:St} (h:Gs w sb x) (i:Nat) (hi:i<14):∃u,w.cell? ⟨sb,i,none⟩=some u:=by
 obtain⟨cs,h1,a1,a2,a3,a4,a5,a6,a7,a8,m1,m2,m3,m4,m5,m6,m7,m8,c1,c2,c3,c4,c5,c6,c7,c8,rfl,_⟩:=h
 rw[cell_of_row _ _ _ _ _ _ h1]
 exact⟨_,Array.getElem?_eq_getElem (by simpa using hi)⟩
def DG (F:Nat) (r:Rd):Prop:=Good F r∧D0 r
theorem DG.after {F:Nat} {α:Type} {p:Pa α} {r:Rd} (h:DG F r) (hp:FV false F p):DG F (p r).2:=⟨(hp.fine r trivial h.1).1,h.2.after hp h.1⟩
end Go.Proofs.YtfeglkleoijlaaaGreatDoor
namespace Go.Proofs.YtfeglkleoijlaaaGreatDoor
set_option linter.unusedSimpArgs false
set_option linter.unusedVariables false
set_option maxHeartbeats 8000000
def Hd (ts:List Tk) (S:List (List UInt8)):Prop:=∀s,GI (ts.headD rQ) s=true→s∈S
theorem Hd.cons (s:List UInt8) (ts:List Tk) (S:List (List UInt8)):Hd (aK s::ts) (s::S):=fun u hu=>by
 have:=Gl (GJ s) hu
 subst this
 simp
theorem Hd.up {ts:List Tk} {S:List (List UInt8)} (h:Hd ts S) (s:List UInt8):Hd ts (s::S):=fun u hu=>List.mem_cons_of_mem _ (h u hu)
theorem Hd.part {xs:List Ex} {w:List UInt8} {ws:List (List UInt8)} {ts:List Tk} {S:List (List UInt8)} (hl:xs=[]∨∃x,xs=[x]) (h:Hd ts S):Hd (bH xs (w::ws)++ts) (w::S):=by
 rcases hl with rfl | ⟨x,rfl⟩
 ·exact h.up w
 ·have e:bH [x] (w::ws)++ts=aK w::(au ws++(jG x++ts)):=by simp[bH,au]
  rw[e]
  exact Hd.cons _ _ _
variable {N : Nat}
def Jh (e:Ex) (n:Nat):Prop:=aJ e=true∧jE e≤n
theorem Jh.mono {e:Ex} {n m:Nat} (h:Jh e n) (hm:n≤m):Jh e m:=⟨h.1,Nat.le_trans h.2 hm⟩
variable {N : Nat}
theorem EY {α:Type} {l:List α} {a b:Nat} {p:α→Bool} (h1:a≤l.length) (h2:l.length≤b) (h : ∀x∈l,p x=true):bf l a b p=true:=by
 unfold bf
 simp only[Bool.and_eq_true,decide_eq_true_eq,List.all_eq_true]
 exact⟨⟨h1,h2⟩,h⟩
end Go.Proofs.YtfeglkleoijlaaaGreatDoor
namespace Go.Proofs.YtfeglkleoijlaaaGreatDoor
open Go.RowKit Go.Shelf
set_option linter.unusedSimpArgs false
set_option linter.unusedVariables false
set_option maxRecDepth 20000
set_option maxHeartbeats 8000000
structure Tb where
 nm:List UInt8
 cols:List Co
 pr:Int
def yH:Tb:=⟨[],[],0⟩
def uS (l:List Co) (i:Nat):List UInt8:=(l[i]?.map Co.nm).getD []
def bU (t:Tb):St:={ JC 1 with tb:=t.nm,cols:=t.cols,prim:=uS t.cols t.pr.toNat }
def bO (l:List Co) (nm:List UInt8):Nat:=l.findIdx fun c=>decide (c.nm=nm)
def IK (c:Co):Co:={ c with nn:=true,uq:=true }
def keyed (l:List Co) (p:Nat):List Co:=l.modify p IK
def mU (a b:Co):Bool:=decide (a.nm=b.nm∧a.k=b.k∧a.nn=b.nn∧a.uq=b.uq)
theorem tX (a b:Co):mU a b=true↔a=b:=by
 obtain⟨a1,a2,a3,a4⟩:=a
 obtain⟨b1,b2,b3,b4⟩:=b
 simp[mU]
theorem gT : ∀(xs ys:List Co),Lib.allEq mU xs ys=true↔xs=ys
 | [],[]=>by simp[Lib.allEq]
 | [],y::ys=>by simp[Lib.allEq]
 | x::xs,[]=>by simp[Lib.allEq]
 |
  x::xs,y::ys=>by
  rw[Lib.allEq,Bool.and_eq_true,tX,gT xs ys,List.cons.injEq]
theorem kC {l:List Co} {nm:List UInt8} (h:bO l nm<l.length):(l[bO l nm]'h).nm=nm:=by
 have:=List.findIdx_getElem (w:=h) (p:=fun c:Co=>decide (c.nm=nm))
 exact of_decide_eq_true this
theorem lV {l:List Co} {nm:List UInt8} {j:Nat} (h:j<bO l nm) (hj:j<l.length):(l[j]'hj).nm≠nm:=fun e=>by
 have:=List.not_of_lt_findIdx (p:=fun c:Co=>decide (c.nm=nm)) h
 simp[e] at this
theorem Fa (l:List Co) (nm:List UInt8):bO l nm≤l.length:=List.findIdx_le_length
theorem oN {l:List Co} {nm:List UInt8} {j:Nat} (hj:j<l.length) (h:(l[j]'hj).nm=nm):bO l nm≤j:=by
 rcases Nat.lt_or_ge j (bO l nm) with h1 | h1
 ·exact absurd h (lV h1 hj)
 ·exact h1
theorem qE {l:List Co} (hn:(l.map Co.nm).Nodup) {j:Nat} (hj:j<l.length):bO l (l[j]'hj).nm=j:=by
 have h1:=oN hj (rfl:(l[j]'hj).nm=_)
 have h2:bO l (l[j]'hj).nm<l.length:=by omega
 have h3:=kC h2
 have h4:(l.map Co.nm)[bO l (l[j]'hj).nm]'(by simpa using h2)=(l.map Co.nm)[j]'(by simpa using hj):=by simpa using h3
 exact (List.getElem_inj hn).1 h4
theorem ql {l:List Co} (h : ∀j (hj:j<l.length),bO l (l[j]'hj).nm=j):(l.map Co.nm).Nodup:=by
 rw[List.nodup_iff_pairwise_ne,List.pairwise_iff_getElem]
 intro i j hi hj hij e
 simp only[List.getElem_map] at e
 simp only[List.length_map] at hi hj
 have h1:=h i hi
 have h2:=h j hj
 rw[e,h2] at h1
 omega
theorem fE (l:List Co) (p:Nat):(keyed l p).length=l.length:=by simp[keyed]
theorem wI (l:List Co) (p j:Nat):(keyed l p)[j]?=if p=j then l[j]?.map IK else l[j]?:=by
 unfold keyed
 rw[List.getElem?_modify]
 split
 ·rfl
 ·simp
theorem Aj {l:List Co} {p:Nat} {c:Co} (h:c∈keyed l p):∃d∈l,c.nm=d.nm∧c.k=d.k:=by
 obtain⟨j,hj⟩:=List.getElem?_of_mem h
 rw[wI] at hj
 split at hj
 ·cases hl:l[j]? with
  | none=>rw[hl] at hj;cases hj
  |
   some d =>
   rw[hl,Option.map_some,Option.some.injEq] at hj
   subst hj
   exact⟨d,List.mem_of_getElem? hl,rfl,rfl⟩
 ·exact⟨c,List.mem_of_getElem? hj,rfl,rfl⟩
theorem ug {l:List Co} {i:Nat} (h:i<l.length):uS l i=(l[i]'h).nm:=by
 unfold uS
 rw[List.getElem?_eq_getElem h]
 rfl
def bP (s:St):Tb × Int :=
 if s.k=1∧aZ s=true then
  if (s.cols.map Co.nm).Nodup then
   (if bO s.cols s.prim<s.cols.length then (⟨s.tb,keyed s.cols (bO s.cols s.prim),(bO s.cols s.prim:Nat)⟩,0) else (yH,12))
  else (yH,13)
 else (yH,4)
def gI (t:Tb):Bool:=decide (0≤t.pr∧t.pr<t.cols.length)&&(decide ((bP (bU t)).2=0)&&Lib.allEq mU (bP (bU t)).1.cols t.cols)
theorem oz {s:St} (h:(bP s).2=0):s.k=1∧aZ s=true∧(s.cols.map Co.nm).Nodup∧bO s.cols s.prim<s.cols.length∧bP s=(⟨s.tb,keyed s.cols (bO s.cols s.prim),(bO s.cols s.prim:Nat)⟩,0):=by
 unfold bP at h ⊢
 by_cases h1:s.k=1∧aZ s=true
 ·rw[if_pos h1] at h ⊢
  by_cases h2:(s.cols.map Co.nm).Nodup
  ·rw[if_pos h2] at h ⊢
   by_cases h3:bO s.cols s.prim<s.cols.length
   ·rw[if_pos h3] at h ⊢
    exact⟨h1.1,h1.2,h2,h3,rfl⟩
   ·rw[if_neg h3] at h;cases h
  ·rw[if_neg h2] at h;cases h
 ·rw[if_neg h1] at h;cases h
theorem gQ {s:St} (hk:s.k=1) (h:aZ s=true):bf s.cols 1 8 eY=true∧bC s.prim=true∧bC s.tb=true:=by
 unfold aZ iT at h
 rw[if_pos hk] at h
 simp only[Bool.and_eq_true] at h
 exact⟨h.1.1,h.1.2,h.2.1⟩
theorem qO {t:Tb} (h:gI t=true):bP (bU t)=(t,0):=by
 unfold gI at h
 simp only[Bool.and_eq_true,decide_eq_true_eq] at h
 obtain⟨⟨h1,h2⟩,h3,h4⟩:=h
 obtain⟨hk,hr,hn,hi,e⟩:=oz h3
 have hc:=(gT _ _).1 h4
 rw[e] at hc ⊢
 obtain⟨nm,cols,pr⟩:=t
 dsimp only[bU] at *
 obtain⟨p,rfl⟩:=Int.eq_ofNat_of_zero_le h1
 have hp:p<cols.length:=by omega
 have e1:bO cols (uS cols p)=p:=by
  rw[ug hp]
  exact qE hn hp
 rw[Int.toNat_natCast,e1] at hc ⊢
 rw[hc]
theorem pW (n:Nat):∀(l:List (List UInt8)),(∀x∈l,x.length≤n)→(Lib.join l [32]).length≤l.length*(n+1)
 | [],_=>by simp[Lib.join_nil]
 |
  [x],h=>by
  rw[Lib.join_one]
  have:=h x (by simp)
  simp
  omega
 |
  x::y::l,h=>by
  have ih:=pW n (y::l) (fun z hz=>h z (by simp at hz ⊢;exact .inr hz))
  have hx:=h x (by simp)
  have e:Lib.join (x::y::l) [32]=x++32::Lib.join (y::l) [32]:=by
   rw[Lib.join_cons,Lib.join_cons]
   simp[Lib.joinTail]
  rw[e]
  simp only[List.length_append,List.length_cons] at ih ⊢
  rw[Nat.add_mul (l.length+1) 1]
  omega
def Sh (t:Tk):Prop:=(t.k=1∨t.k=2∨t.k=5)∧t.s.length≤16
theorem zK {s:List UInt8} (h:s.length≤16):Sh (aK s):=by
 unfold aK
 split
 ·exact⟨.inr (.inl rfl),h⟩
 ·exact⟨.inr (.inr rfl),h⟩
theorem DF {s:List UInt8} (h:bC s=true):Sh (aW s):=⟨.inl rfl,fu h⟩
theorem jQ {l:List (List UInt8)} (h : ∀s∈l,s.length≤16):∀t∈au l,Sh t:=fun t ht=>by
 obtain⟨s,hs,rfl⟩:=List.mem_map.1 ht
 exact zK (h s hs)
theorem IG {t:Tk} (h:Sh t):(wr t).length≤16:=by
 unfold wr
 rw[if_neg (by rcases h.1 with e | e | e<;>rw[e]<;>decide),if_neg (by rcases h.1 with e | e | e<;>rw[e]<;>decide)]
 exact h.2
theorem Dp {sep:Tk} (hs:Sh sep):∀{l:List (List Tk)},(∀x∈l,∀t∈x,Sh t)→∀t∈aS sep l,Sh t
 | [],_,t,ht=>by cases ht
 | [x],h,t,ht=>h x (by simp) t (by simpa [aS] using ht)
 |
  x::y::l,h,t,ht=>by
  have e:aS sep (x::y::l)=x++sep::aS sep (y::l):=rfl
  rw[e] at ht
  rcases List.mem_append.1 ht with ht | ht
  ·exact h x (by simp) t ht
  ·rcases List.mem_cons.1 ht with rfl | ht
   ·exact hs
   ·exact Dp hs (fun z hz=>h z (by simp at hz ⊢;exact .inr hz)) t ht
theorem GX {c:Co} (h:eY c=true):∀t∈iN c,Sh t:=fun t ht=>by
 unfold eY at h
 rw[Bool.and_eq_true] at h
 unfold iN at ht
 rcases List.mem_cons.1 ht with rfl | ht
 ·exact DF h.1
 ·rcases List.mem_cons.1 ht with rfl | ht
  ·split<;>exact zK (by decide)
  ·rcases List.mem_append.1 ht with ht | ht
   ·split at ht
    ·exact jQ (by decide) t ht
    ·cases ht
   ·split at ht
    ·exact jQ (by decide) t ht
    ·cases ht
theorem A8 {s:St} (hk:s.k=1) (h:aZ s=true):∀t∈jF s,Sh t:=fun t ht=>by
 obtain⟨h1,h2,h3⟩:=gQ hk h
 unfold jF at ht
 rw[if_pos hk] at ht
 unfold Hy at ht
 rcases List.mem_append.1 ht with ht | ht
 ·exact jQ (by decide) t ht
 ·rcases List.mem_cons.1 ht with rfl | ht
  ·exact DF h3
  ·rcases List.mem_cons.1 ht with rfl | ht
   ·exact zK (by decide)
   ·rcases List.mem_append.1 ht with ht | ht
    ·refine Dp (zK (by decide)) (fun x hx=>?_) t ht
     obtain⟨c,hc,rfl⟩:=List.mem_map.1 hx
     exact GX (aU h1 c hc)
    ·rcases List.mem_append.1 ht with ht | ht
     ·exact jQ (by decide) t ht
     ·rcases List.mem_cons.1 ht with rfl | ht
      ·exact DF h2
      ·exact jQ (by decide) t ht
theorem xL {s:St} (hk:s.k=1) (h:aZ s=true):(jF s).length≤61:=by
 obtain⟨h1,h2,h3⟩:=gQ hk h
 have hc:=iJ (aK [44]) iN 5 s.cols (fun c _=>zG c)
 have h8:=(bL h1).2
 unfold jF
 rw[if_pos hk]
 unfold Hy au
 simp only[List.length_append,List.length_cons,List.length_map,List.length_nil]
 omega
theorem xq {s:St} (h:aZ s=true):bf [s] 1 8 aZ=true:=by
 unfold bf
 simp[h]
theorem wN {s:St} (hk:s.k=1) (h:aZ s=true):(jK [s]).2=0∧(jK [s]).1.length≤2000:=by
 have hA:=xq h
 have e:jK [s]=mo (jF s) 0:=by
  unfold jK
  rw[if_neg (by simp),if_pos hA]
  have e1:aS (aK [59]) ([s].map jF)=jF s:=by simp[aS]
  have e2:aY ([s].map mR)=0:=by
   have:mR s=0:=by
    unfold mR
    rw[if_neg (by omega),if_neg (by omega),if_neg (by omega)]
   simp[aY,this]
  rw[e1,e2]
  rfl
 have hb : ¬2000<(Lib.join (oI (jF s)) [32]).length:=by
  have h2:=pW 16 (oI (jF s)) (fun x hx=>by
   unfold oI at hx
   obtain⟨t,ht,rfl⟩:=List.mem_map.1 hx
   exact IG (A8 hk h t (List.mem_filter.1 ht).1))
  have h3:(oI (jF s)).length≤61:=by
   unfold oI
   rw[List.length_map]
   exact Nat.le_trans (List.length_filter_le _ _) (xL hk h)
  have h4:(oI (jF s)).length*(16+1)≤61*17:=Nat.mul_le_mul_right _ h3
  omega
 rw[e]
 unfold mo
 rw[if_neg (by decide),if_neg hb]
 exact⟨rfl,by show (Lib.join _ _).length≤2000;omega⟩
theorem tC (S:Nat→Prop) (s:St) (cs:List Value) (w:World) (hk1:s.k=1) (hR:xH s) (hx:eZ S w s cs) :
  Calls Tryz.prog 47 #[.agg cs.toArray] w fun e w'=>e = .returned (.bool (aZ s))∧Below w.heap.size w w':=by
 obtain⟨a1,a2,a3,a4,a5,a6,a7,a8,n1,n2,n3,n4,n5,n6,n7,n8,c1,c2,c3,c4,c5,c6,c7,c8,rfl,x1,x2,x3,x4,x5,x6,x7,x8⟩:=hx
 have e1:n1=s.cols.length:=by obtain⟨_,_,hf⟩:=x1.form;simp only[Value.slice.injEq] at hf;exact hf.2.1
 have e2:n2=s.rows.length:=by obtain⟨_,_,hf⟩:=x2.form;simp only[Value.slice.injEq] at hf;exact hf.2.1
 have e3:n3=s.sets.length:=by obtain⟨_,_,hf⟩:=x3.form;simp only[Value.slice.injEq] at hf;exact hf.2.1
 have e4:n4=s.items.length:=by obtain⟨_,_,hf⟩:=x4.form;simp only[Value.slice.injEq] at hf;exact hf.2.1
 have e5:n5=s.on.length:=by obtain⟨_,_,hf,_⟩:=x5.form;simp only[Value.slice.injEq] at hf;exact hf.2.1
 have e6:n6=s.wh.length:=by obtain⟨_,_,hf,_⟩:=x6.form;simp only[Value.slice.injEq] at hf;exact hf.2.1
 have e7:n7=s.gr.length:=by obtain⟨_,_,hf,_⟩:=x7.form;simp only[Value.slice.injEq] at hf;exact hf.2.1
 have e8:n8=s.od.length:=by obtain⟨_,_,hf,_⟩:=x8.form;simp only[Value.slice.injEq] at hf;exact hf.2.1
 obtain⟨k,tn,cols,prim,rows,sets,items,jn,on,wh,gr,od,desc,lim⟩:=s
 obtain⟨rt,rp,rj,rl,rc,rr,rs,ri,ro,rw',rg,rd⟩:=hR
 dsimp only at *
 subst e1 e2 e3 e4 e5 e6 e7 e8
 have HNT:=hid (fun V=>fD tn V rt)
 have HNP:=hid (fun V=>fD prim V rp)
 have HCO:Hid (∀V,Below w.heap.size w V→Calls Tryz.prog 88 #[.slice a1 cols.length c1,.int .i64 1,.int .i64 8,.func (.func 89) #[] #[]] V fun e w'=>e = .returned (.bool (bf cols 1 8 eY))∧Below V.heap.size V w'):=hid (fun V hV=>rM S 89 (enters_of Tryz.func89 (by kernel_rfl) rfl) eY cols _ 1 8 V (by omega) (by omega) (x1.to (by decide) (R:=fun _=>False) (T:=S) (aA.aC hV) (fun b hb _=>⟨id,hb⟩) (fun _ _ e=>e)) (hid (fun y hy U hU cs hcs=>by obtain rfl:=hcs;exact jy y U (rc y hy))))
 subst hk1
 have hrs:aZ ⟨1,tn,cols,prim,rows,sets,items,jn,on,wh,gr,od,desc,lim⟩=((bf cols 1 8 eY&&bC prim)&&(bC tn&&jU 0 [] rows.length sets.length items.length jn on.length wh.length gr.length od.length desc lim)):=by
  unfold aZ iT sj
  dsimp only
  simp only[if_true]
  rw[jo _ rfl rfl]
  rfl
 rw[hrs]
 clear hrs x1 x2 x3 x4 x5 x6 x7 x8 rt rp rj rl rc rr rs ri ro rw' rg rd
 generalize bf cols 1 8 eY=BC at HCO ⊢
 generalize bC prim=BP at HNP ⊢
 generalize bC tn=BT at HNT ⊢
 generalize cols.length=n1 at *
 generalize rows.length=n2 at *
 generalize sets.length=n3 at *
 generalize items.length=n4 at *
 generalize on.length=n5 at *
 generalize wh.length=n6 at *
 generalize gr.length=n7 at *
 generalize od.length=n8 at *
 exact sO w tn prim jn desc lim a1 a2 a3 a4 a5 a6 a7 a8 n1 n2 n3 n4 n5 n6 n7 n8 c1 c2 c3 c4 c5 c6 c7 c8 BC BP BT HCO HNP HNT
theorem tu (x:St) (hk1:x.k=1) (hr:aZ x=true) (cs:List Value) (g:Nat) (tb:Option Nat) (L:List Tk) (d m:Int) (w:World) (h:bJ w g tb L d m) (hx:eZ (fun b=>b<g) w x cs) (hL:L.length+(jF x).length≤1000000000) (h0:0≤d) (hdm:d≤m) (hm:m≤1000000000) (hd:d+(mR x:Nat)≤1000000000) :
  Calls Tryz.prog 49 #[.pointer (some ⟨g,0,none⟩),.agg cs.toArray] w fun e w'=>e = .returned (.tuple #[])∧Wrote g tb w w' (L++jF x) d (max m (d+(mR x:Nat))):=by
 obtain⟨a1,a2,a3,a4,a5,a6,a7,a8,n1,n2,n3,n4,n5,n6,n7,n8,c1,c2,c3,c4,c5,c6,c7,c8,rfl,x1,x2,x3,x4,x5,x6,x7,x8⟩:=hx
 have hkB:iT x=true:=by unfold aZ at hr;simp only[Bool.and_eq_true] at hr;exact hr.1
 unfold iT at hkB
 unfold jF at hL ⊢
 unfold mR at hd ⊢
 obtain⟨k,tn,cols,prim,rows,sets,items,jn,on,wh,gr,od,desc,lim⟩:=x
 dsimp only at *
 clear hr
 subst hk1
 simp only[if_true] at hkB hL
 simp only[Bool.and_eq_true] at hkB
 have e0:max m (d+((mR ⟨1,tn,cols,prim,rows,sets,items,jn,on,wh,gr,od,desc,lim⟩:Nat):Int))=m:=by show max m (d+((0:Nat):Int))=m;omega
 unfold mR at e0
 dsimp only at e0
 rw[e0]
 clear e0 hd
 simp only[if_true]
 have hL11:L.length+(aS (aK [44]) (cols.map iN)).length+11≤1000000000:=by simp[Hy,au] at hL;omega
 obtain⟨W,hW,hbW,hzW,hcW⟩:=aL w (.cells #[.int .i64 1,.string (aj tn),.slice a1 n1 c1,.string (aj prim),.slice a2 n2 c2,.slice a3 n3 c3,.slice a4 n4 c4,.string (aj jn),.slice a5 n5 c5,.slice a6 n6 c6,.slice a7 n7 c7,.slice a8 n8 c8,.bool desc,.int .i64 lim] 29)
 have kk0:=ay hcW
 have HB:=hid hbW
 have HW0:=hid (h.below hbW)
 have HBX0:=hid (dn.mk' h hcW (Nat.le_refl _))
 have HT0:Hid (∀k,tb=some k→tb=some k∨W.heap.size≤k):=hid (fun k hk=>.inl hk)
 have HF0:Hid (cB g tb W W):=hid (aA.refl _ _)
 have HX0:=hid (wm cols hkB.1 tn prim jn desc lim a1 a2 a3 a4 a5 a6 a7 a8 n1 n2 n3 n4 n5 n6 n7 n8 c1 c2 c3 c4 c5 c6 c7 c8 g tb L d m W HW0.out (x1.to (by decide) (R:=fun _=>False) (T:=fun b=>b<g) (aA.aC hbW) (fun b hb _=>⟨id,hb⟩) (fun _ _ e=>e)) hL11 h0 hdm hm)
 show Calls Tryz.prog 49 _ w fun e w'=>_∧Wrote g tb w w' (L++(au [[67,82,69,65,84,69],[84,65,66,76,69]]++aW tn::aK [40]::(aS (aK [44]) (cols.map iN)++(au [[44],[80,82,73,77,65,82,89],[75,69,89],[40]]++aW prim::au [[41],[41]])))) d m
 generalize (au [[67,82,69,65,84,69],[84,65,66,76,69]]++aW tn::aK [40]::(aS (aK [44]) (cols.map iN)++(au [[44],[80,82,73,77,65,82,89],[75,69,89],[40]]++aW prim::au [[41],[41]])))=T at HX0 ⊢
 clear x1 x2 x3 x4 x5 x6 x7 x8 hbW hcW h hkB hL hL11
 go_enter Tryz.func49,Tryz.ntmps49
 go_wp2_with fail
 refine HX0.out.mono ?_
 rintro e w1 ⟨rfl,h1⟩
 have HQ:=hid (Wrote.new HB.out h1)
 clear h1 HX0
 go_wp2
 exact bodyPost_end (v:=.tuple #[]) (by simp[results,Tryz.results49,go_sem]) rfl ⟨rfl,HQ.out⟩
theorem mZ (S:Nat→Prop) (l:List St) (v:Value) (w:World) (hT:eH w) (hk1 : ∀s∈l,s.k=1) (hR : ∀s∈l,xH s) (hv:aQ 14 eZ S w l v) (hz:l.length≤8→∀s∈l,aZ s=true→∀e∈jv s,jE e≤5000) :
  Calls Tryz.prog 18 #[v] w fun e w'=>e = .returned (.tuple #[.string (aj (jK l).1),.int .i64 (jK l).2])∧Below w.heap.size w w':=by
 have HV:=hid hv
 obtain⟨aa,cc,css,rfl,h1,h2,_⟩:=hv
 unfold maxLen at h2
 unfold jK
 by_cases h8:8<l.length
 ·rw[if_pos h8]
  have h8':(8:Int)<(l.length:Int):=by omega
  clear hz hR HV hT
  go_enter Tryz.func18,Tryz.ntmps18
  go_wp2
  exact bodyPost_ret (v:=.tuple #[.string ⟨#[]⟩,.int .i64 2]) (by simp[results,Tryz.results18,go_sem]) rfl ⟨rfl,Below.refl _ _⟩
 ·rw[if_neg h8]
  have h8' : ¬(8:Int)<(l.length:Int):=by omega
  have HA:=hid (sP S 47 (enters_of Tryz.func47 (by kernel_rfl) rfl) aZ l _ 1 8 w (by decide) (by decide) HV.out (hid (fun x hx V hb cs hcs=>tC S x cs V (hk1 x hx) (hR x hx) hcs)))
  have HTW:=hid hT
  clear hR hT
  cases ha:bf l 1 8 aZ with
  |
   false =>
   rw[ha] at HA
   rw[if_neg Bool.false_ne_true]
   clear ha hz HV HTW
   go_enter Tryz.func18,Tryz.ntmps18
   go_wp2_with fail
   refine HA.out.mono ?_
   rintro e w1 ⟨rfl,hb1⟩
   have HB1:=hid hb1
   clear hb1 HA
   go_wp2
   exact bodyPost_ret (v:=.tuple #[.string ⟨#[]⟩,.int .i64 4]) (by simp[results,Tryz.results18,go_sem]) rfl ⟨rfl,HB1.out⟩
  |
   true =>
   rw[ha] at HA
   rw[if_pos rfl]
   have hall:=aU ha
   have hln:=(bL ha).2
   have hz2 : ∀s∈l,∀e∈jv s,jE e≤5000:=fun s hs=>hz hln s hs (hall s hs)
   have htl:=iJ (aK [59]) jF 501000 l (fun s hs=>DR (hall s hs) (hz2 s hs))
   have hdl:aY (l.map mR)≤10000:=lZ (fun n hn=>by
    obtain⟨s,hs,rfl⟩:=List.mem_map.1 hn
    exact uT (hz2 s hs))
   have htl2:(aS (aK [59]) (l.map jF)).length≤4008008:=Nat.le_trans htl (Nat.mul_le_mul_right _ hln)
   have HDP:Hid (∀s∈l,mR s≤10000):=hid (fun s hs=>uT (hz2 s hs))
   have HOK:Hid (∀t∈aS (aK [59]) (l.map jF),GL t):=hid (fun t ht=>(bB.sep (bI (by decide)) (fun x hx=>by
    obtain⟨s,hs,rfl⟩:=List.mem_map.1 hx
    exact pF (hall s hs)) t ht).ok)
   have HAL:=hid hall
   have HSW:Hid (∀(V:World) (g:Nat),bJ V g none [] 0 0→aQ 14 eZ (fun b=>b<g) V l (.slice aa l.length cc)→Calls Tryz.prog 48 #[.pointer (some ⟨g,0,none⟩),.string ⟨#[59]⟩,.slice aa l.length cc,.func (.func 49) #[.pointer (some ⟨g,0,none⟩)] #[]] V fun e w'=>e = .returned (.tuple #[])∧Wrote g none V w' ([]++aS (aK [59]) (l.map jF)) 0 (max 0 (0+((aY (l.map mR):Nat):Int)))):=hid (fun V g hV hS=>wV 49 (enters_of Tryz.func49 (by kernel_rfl) rfl) jF mR [59] (by decide) l _ g none [] 0 0 V hV hS (by decide) (by decide) (fun x hx=>by have:=HDP.out x hx;omega) (by show 0+_≤_;omega) (hid (fun x hxm U tb2 L2 m2 hU cs hcs hl2 h3 h4=>tu x (hk1 x hxm) (HAL.out x hxm) cs g tb2 L2 0 m2 U hU hcs hl2 (by decide) h3 h4 (by have:=HDP.out x hxm;omega))))
   obtain⟨R,hR⟩:∃R,mo (aS (aK [59]) (l.map jF)) ((aY (l.map mR):Nat):Int)=R:=⟨_,rfl⟩
   rw[hR]
   have HRR:=hid hR
   clear hR ha hall hz hz2 htl HAL HDP
   generalize aS (aK [59]) (l.map jF)=T at HSW HOK HRR htl2
   generalize aY (l.map mR)=D at HSW HRR hdl
   go_enter Tryz.func18,Tryz.ntmps18
   go_wp2_with fail
   refine HA.out.mono ?_
   rintro e w1 ⟨rfl,hb1⟩
   obtain⟨V,hV,hbV,hzV,hwV⟩:=yG w1 (HTW.out.on hb1)
   have hB1:=hb1.trans (hbV.mono hb1.size)
   have hle1:w.heap.size≤w1.heap.size:=hb1.size
   have hsV:aQ 14 eZ (fun b=>b<w1.heap.size) V l (.slice aa l.length cc):=by
    have hk:=aA.aC (S:=fun _=>False) hb1
    have hk2:=aA.aC (S:=fun _=>False) hbV
    have a1:aQ 14 eZ (fun b=>b<w1.heap.size) w1 l (.slice aa l.length cc):=HV.out.to (by decide) hk (fun b _ hb=>⟨id,Nat.lt_of_lt_of_le hb hb1.size⟩) (fun _ _ e=>e.to hk (fun b _ hb=>⟨id,Nat.lt_of_lt_of_le hb hb1.size⟩))
    exact a1.to (by decide) hk2 (fun b hb _=>⟨id,hb⟩) (fun _ _ e=>e.to hk2 (fun b hb _=>⟨id,hb⟩))
   have HL:=hid (HSW.out V w1.heap.size hwV hsV)
   have HBV:=hid hB1
   clear hb1 hB1 HA hbV hwV hsV HSW
   go_wp2_with fail
   try rw[hV]
   refine HL.out.mono ?_
   rintro e w2 ⟨rfl,tb2,hw2,ht2,hf2⟩
   rw[List.nil_append] at hw2
   have e1:max (0:Int) (0+(D:Int))=(D:Int):=by omega
   rw[e1] at hw2
   have HS:=hid (pz _ _ _ _ _ w2 hw2 HOK.out (by omega))
   have HB2:Hid (Below w.heap.size w w2):=hid (HBV.out.trans (hf2.below (fun i hi=>by
    rcases hi with rfl | e
    ·omega
    ·cases e) (by omega)))
   clear hw2 ht2 hf2 HL e1
   rw[HRR.out] at HS
   go_wp2_with fail
   refine HS.out.mono ?_
   rintro e w3 ⟨rfl,hb3⟩
   have HB3:=hid (HB2.out.trans (hb3.mono HB2.out.size))
   clear hb3 HS
   go_wp2
   exact bodyPost_ret (v:=.tuple #[.string (aj R.1),.int .i64 R.2]) (by simp[results,Tryz.results18,go_sem]) rfl ⟨rfl,HB3.out⟩
end Go.Proofs.YtfeglkleoijlaaaGreatDoor
