/- Packed for the hand-in: KReadsL OpenC OpenT KBulk -/
import Derived.Test.YtfeglkleoijlaaaGreatDoorZ49
import Derived.Test.YtfeglkleoijlaaaGreatDoorZ33
import Derived.Test.YtfeglkleoijlaaaGreatDoorZ29
import Derived.Test.YtfeglkleoijlaaaGreatDoorRows
import Derived.Test.YtfeglkleoijlaaaGreatDoorZ05
import Derived.Handed
import Derived.LaidLaws
import Derived.Lay
import Derived.Lib.LaidTab
import Derived.Shelf.Vars
import Derived.SizedLaws
import Derived.MakeChecks
import Derived.Stop.LaidErr
import Derived.OpenShut
import Derived.ChangeArms
import Derived.Test.YtfeglkleoijlaaaGreatDoorZ45
import Derived.Test.YtfeglkleoijlaaaGreatDoorCards
namespace Go.Proofs.YtfeglkleoijlaaaGreatDoor
open Go.RowKit Go.Shelf
set_option linter.unusedSimpArgs false
set_option linter.unusedVariables false
set_option maxRecDepth 20000
set_option maxHeartbeats 8000000
theorem bQ {l:List Ex} (h:l.length=0):∀x∈l,aJ x=true:=fun x hx=>by
 rw[List.eq_nil_of_length_eq_zero h] at hx
 cases hx
theorem AQ {s:St} (hr:aZ s=true):∀e∈jv s,aJ e=true:=by
 have hk0:=o8 hr
 unfold aZ at hr
 simp only[Bool.and_eq_true] at hr
 obtain⟨hk,hn,he⟩:=hr
 unfold wK sj at he
 unfold iT at hk
 have hcol : ∀{x:Ex},eF x=true→aJ x=true:=fun h=>by
  unfold eF at h
  simp only[Bool.and_eq_true] at h
  exact h.2
 have hset : ∀{x:Se},mP x=true→aJ x.e=true:=fun h=>by
  unfold mP at h
  simp only[Bool.and_eq_true] at h
  exact h.2
 have hit : ∀{x:It},sw x=true→∀e∈x.xs,aJ e=true:=fun {x} h=>by
  unfold sw at h
  split at h
  ·exact bQ (by simpa using h)
  ·split at h
   ·exact aU h
   ·cases h
 have hns:s.sets.length=0→∀x∈s.sets,aJ x.e=true:=fun h x hx=>by rw[List.eq_nil_of_length_eq_zero h] at hx;cases hx
 have hni:s.items.length=0→∀i∈s.items,∀x∈i.xs,aJ x=true:=fun h x hx=>by rw[List.eq_nil_of_length_eq_zero h] at hx;cases hx
 have hall:(∀x∈s.sets,aJ x.e=true)→(∀i∈s.items,∀x∈i.xs,aJ x=true)→(∀x∈s.on,aJ x=true)→(∀x∈s.wh,aJ x=true)→(∀x∈s.gr,aJ x=true)→(∀x∈s.od,aJ x=true)→∀e∈jv s,aJ e=true:=fun g1 g2 g3 g4 g5 g6 e h=>by
  unfold jv at h
  simp only[List.mem_append,List.mem_map,List.mem_flatMap] at h
  rcases h with⟨x,hx,rfl⟩ | ⟨i,hi,h⟩ | h | h | h | h
  ·exact g1 x hx
  ·exact g2 i hi e h
  ·exact g3 e h
  ·exact g4 e h
  ·exact g5 e h
  ·exact g6 e h
 rcases hk0 with e | e | e | e | e | e
 all_goals simp only[e,if_true,if_false,Int.reduceEq,reduceIte,decide_eq_true_eq] at he hk
 ·obtain⟨_,_,_,_,h5,h6,h7,h8,h9,h10,h11,h12,_⟩:=he
  exact hall (hns h6) (hni h7) (bQ h9) (bQ h10) (bQ h11) (bQ h12)
 ·obtain⟨_,_,_,_,h5,h6,h7,h8,h9,h10,h11,h12,_⟩:=he
  exact hall (hns h6) (hni h7) (bQ h9) (bQ h10) (bQ h11) (bQ h12)
 ·obtain⟨_,_,_,_,h5,h6,h7,h8,h9,h10,h11,h12,_⟩:=he
  exact hall (hns h6) (hni h7) (bQ h9) (bQ h10) (bQ h11) (bQ h12)
 ·obtain⟨_,_,_,_,h5,h6,h7,h8,h9,h10,h11,h12,_⟩:=he
  simp only[Bool.and_eq_true] at hk
  exact hall (fun x hx=>hset (aU hk.1 x hx)) (hni h7) (bQ h9) (aU hk.2) (bQ h11) (bQ h12)
 ·obtain⟨_,_,_,_,h5,h6,h7,h8,h9,h10,h11,h12,_⟩:=he
  exact hall (hns h6) (hni h7) (bQ h9) (aU hk) (bQ h11) (bQ h12)
 ·obtain⟨_,_,_,_,h5,h6,_⟩:=he
  unfold vB at hk
  simp only[Bool.and_eq_true] at hk
  obtain⟨k1,k2,k3,k4,k5,k6,_⟩:=hk
  exact hall (hns h6) (fun i hi=>hit (aU k1 i hi)) (aU k3) (aU k4) (fun x hx=>hcol (aU k5 x hx)) (fun x hx=>hcol (aU k6 x hx))
theorem zk {s:St} (h:FX s) (hr:aZ s=true):∀e∈jv s,jE e≤5000:=fun e he=>jS (AQ hr e he) (h.1 e (zY he))
theorem Dv {w W:World} {l:List Tb} {a aa:Option Addr} {c nn cc g:Nat} {css:List (List Value)} (ho:W.ownsRow w.heap.size 42 3 (.slice a 2 c) 2 css.flatten) (he:gJ 3 dK (fun b=>w.heap.size≤b∧b<g) W eB css) (hg:(Value.slice a 2 c).ownBlock=some g) (hB:Below w.heap.size w W) (hl:aQ 3 dK (fun b=>b<w.heap.size) W l (.slice aa nn cc)) (hn:l.length≤900) (ty:TypeId) :
  ∃a2 n2 c2 W',(Builtin.append_ #[22,22] ty #[.slice a 2 c,.slice aa nn cc]).run Tryz.prog W = .ok (.slice a2 n2 c2) W'∧aQ 3 dK (fun b=>b<W'.heap.size) W' (eB++l) (.slice a2 n2 c2)∧Below w.heap.size w W'∧W.heap.size≤W'.heap.size:=by
 obtain⟨a',c',dss,hv,h1,h2,h4,h5⟩:=hl
 simp only[Value.slice.injEq] at hv
 obtain⟨rfl,rfl,rfl⟩:=hv
 have hin : ∀{V:World} {S:Nat→Prop} {xs:List Tb} {v:Value},aQ 3 dK S V xs v→aQ 3 dK (fun b=>b<V.heap.size) V xs v:=fun h=>h.to (by decide) (R:=fun _=>False) (aA.refl _ _) (fun b hb hlt=>⟨id,hlt⟩) (fun _ _ e=>e.to (R:=fun _=>False) (aA.refl _ _) (fun b hb hlt=>⟨id,hlt⟩))
 cases aa with
 |
  none =>
  have hn0:l=[]:=by
   by_cases e:l=[]
   ·exact e
   ·obtain⟨b,off,e2,_⟩:=h5 e
    cases e2
  subst hn0
  obtain⟨i0,hi,hy0,hy1,hy2⟩:=info_parts Tryz.yt
  have hr:(Builtin.append_ #[22,22] ty #[.slice a 2 c,.slice none 0 cc]).run Tryz.prog W = .ok (.slice a 2 c) W:=by
   rcases ho.2 with⟨e,h0⟩ | ⟨g,cap,cur,e,hg0,hgg,hgc,_⟩
   ·simp only[Value.slice.injEq] at e
    omega
   ·simp only[Value.slice.injEq] at e
    obtain⟨rfl,_,rfl⟩:=e
    simp[Builtin.append_,run_underlying Tryz.underlying22,sizeOf,typeInfo,hi,Builtin.lenOf,Builtin.firstCells,storeCells,hgc]
  exact⟨_,_,_,W,hr,hin (by rw[List.append_nil];exact aQ.dW (S:=fun _=>True) (by decide) ho (he.to (fun x cs e=>e.to (R:=fun _=>False) (aA.refl _ _) (fun b hb _=>⟨id,trivial⟩))) (fun b hb=>trivial)),hB,Nat.le_refl _⟩
 |
  some p =>
  have hl3:=uh h4
  have hcells : ∀j u,dss.flatten[j]?=some u→W.cell? (p.add j)=some u:=fun j u hu=>by
   obtain⟨cs,e1,e2⟩:=jW dss (fun cs hc=>(hl3 cs hc).1) j u hu
   have hne:l≠[]:=fun e=>by
    subst e
    have:dss=[]:=List.eq_nil_of_length_eq_zero h4.1
    subst this
    simp at e1
   obtain⟨b,off,hp,_,hc⟩:=h5 hne
   injection hp with hp
   subst hp
   have:=hc (j / 3) cs e1 (j % 3) u e2
   rw[show off+j / 3*3+j % 3=off+j by omega] at this
   rw[Addr.add_lit]
   exact this
  obtain⟨a2,n2,c2,W',hr,ho2,hsp⟩:=iF ho p l.length cc dss h4.1 hl3 hcells (by omega) hB.size ty
  have hlow : ∀b,(Value.slice a 2 c).ownBlock=some b→w.heap.size≤b:=fun b hb=>(ho.lt b hb).1
  have hbb:Below w.heap.size W W':=hsp.below (fun i hi=>hlow i hi) hB.size
  have hg1:=(ho.lt g hg).1
  refine ⟨a2,n2,c2,W',hr,hin (aQ.dW (S:=fun _=>True) (xs:=eB++l) (by decide) (by rw[List.length_append];exact ho2) (gJ.append' (he.to (fun x cs e=>e.to hsp (fun b hb _=>⟨fun e=>by rw[hg] at e;injection e with e;have:=hb.2;omega,trivial⟩))) (h4.to (fun x cs e=>e.to hsp (fun b hb _=>⟨fun e=>by have:=hlow b e;have:b<w.heap.size:=hb;omega,trivial⟩)))) (fun b hb=>trivial)),hB.trans hbb,hsp.size⟩
theorem qd {L:List Tb} {m:Tb} {x:List UInt8} (h:m.nm≠x):eu (m::L) x=eu L x:=by
 unfold eu
 rw[List.find?_cons_of_neg (by simpa using h)]
theorem sD {L:List Tb} {m:Tb} {x:List UInt8} (h:m.nm≠x):x∈(m::L).map Tb.nm↔x∈L.map Tb.nm:=by
 rw[List.map_cons,List.mem_cons]
 exact⟨fun e=>e.resolve_left (fun e=>h e.symm),fun e=>.inr e⟩
theorem DN : ∀t∈eB,BA t:=fun t ht=>by
 simp only[eB,List.mem_cons,List.not_mem_nil,or_false] at ht
 rcases ht with rfl | rfl
 ·refine ⟨by decide,fun c hc=>?_⟩
  simp only[Io,List.mem_cons,List.not_mem_nil,or_false] at hc
  rcases hc with rfl | rfl | rfl<;>decide
 ·refine ⟨by decide,fun c hc=>?_⟩
  simp only[Ig,List.mem_cons,List.not_mem_nil,or_false] at hc
  rcases hc with rfl | rfl<;>decide
theorem qz (l:List Tb) (s:St) (m:Tb) (lv:Value) (sc mc:List Value) (w:World) (hV:rE w) (hO:sZ w) (h6:6<w.heap.size) (hl:aQ 3 dK (fun b=>b<w.heap.size) w l lv) (hR : ∀t∈l,BA t) (hs:eZ (fun b=>b<w.heap.size) w s sc) (hRs:xH s) (hm:dK (fun b=>b<w.heap.size) w m mc) (hRm:BA m)
  (hN:(dM s).length≤100000000) (hN2:s.sets.length≤100000000∧s.items.length≤1000000000000) :
  Calls Tryz.prog 4 #[lv,.agg sc.toArray,.agg mc.toArray] w fun e w'=>e = .returned (.bool true)∧Below w.heap.size w w':=by
 obtain⟨la,lc,rfl⟩:∃a c,lv = .slice a l.length c:=hl.form
 have hs0:=hs
 have hm0:=hm
 obtain⟨b1,b2,b3,b4,b5,b6,b7,b8,m1,m2,m3,m4,m5,m6,m7,m8,d1,d2,d3,d4,d5,d6,d7,d8,rfl,_⟩:=hs
 obtain⟨a1,n1,c1,rfl,_⟩:=hm
 obtain⟨W,hWW,hbW,hzW,hcA,hcB⟩:=two w (.cells #[.int .i64 s.k,.string (aj s.tb),.slice b1 m1 d1,.string (aj s.prim),.slice b2 m2 d2,.slice b3 m3 d3,.slice b4 m4 d4,.string (aj s.jn),.slice b5 m5 d5,.slice b6 m6 d6,.slice b7 m7 d7,.slice b8 m8 d8,.bool s.desc,.int .i64 s.lim] 29) (.cells #[.string (aj m.nm),.slice a1 n1 c1,.int .i64 m.pr] 42)
 have HT:Hid (∀V,Below w.heap.size w V→10<V.heap.size→eH V):=hid (fun V hb hz=>⟨hV.below hb (by omega),fun o ho=>⟨(hb.cell (p:=⟨0,o*2,none⟩) (by show 0<w.heap.size;omega)).trans (hO o ho).1,(hb.cell (p:=⟨0,o*2+1,none⟩) (by show 0<w.heap.size;omega)).trans (hO o ho).2⟩,hz⟩)
 have HSM:=hid (wZ W (hV.below hbW (by omega)) (fun o ho=>⟨(hbW.cell (p:=⟨0,o*2,none⟩) (by show 0<w.heap.size;omega)).trans (hO o ho).1,(hbW.cell (p:=⟨0,o*2+1,none⟩) (by show 0<w.heap.size;omega)).trans (hO o ho).2⟩) (by omega))
 have HB:=hid hbW
 have HCA:=hid hcA
 have HCB:=hid hcB
 have HST:=hid hs0
 have HMT:=hid hm0
 have HL:=hid hl
 have HR:=hid hR
 have HRS:=hid hRs
 have HRM:=hid hRm
 have HN:=hid hN
 have HN2:=hid hN2
 clear hbW hcA hcB hs0 hm0 hl hR hRs hRm hN hN2 hV hO
 go_enter Tryz.func4,Tryz.ntmps4
 go_wp2_with fail
 try rw[hWW]
 refine HSM.out.mono ?_
 rintro e w1 ⟨rfl,hb1⟩
 have HB1:=hid (HB.out.trans (hb1.mono HB.out.size))
 have kS:=ay ((hb1.block w.heap.size (by omega)).trans HCA.out)
 have hs1:=hb1.size
 have HFW:=hid (Am s _ w1 HRS.out (HST.out.to (T:=fun b=>b<w1.heap.size) (R:=fun _=>False) (aA.aC HB1.out) (fun b hb hlt=>⟨id,Nat.lt_of_lt_of_le hb HB1.out.size⟩)) HN.out HN2.out)
 have HCA1:=hid ((hb1.block w.heap.size (by omega)).trans HCA.out)
 have HCB1:=hid ((hb1.block (w.heap.size+1) (by omega)).trans HCB.out)
 clear hb1 HSM HCA HCB
 go_wp2_with fail
 refine HFW.out.mono ?_
 rintro e w2 ⟨fb,rfl,hfo,hb2⟩
 have HFO:=hid hfo
 have HB2:=hid (HB1.out.trans (hb2.mono HB1.out.size))
 have hs2:=hb2.size
 have HCA2:=hid ((hb2.block w.heap.size (by omega)).trans HCA1.out)
 have HCB2:=hid ((hb2.block (w.heap.size+1) (by omega)).trans HCB1.out)
 have kS:=ay HCA2.out
 clear hb2 hfo HFW HCA1 HCB1
 cases fb with
 |
  false =>
  go_wp2_with fail
  go_ret
  exact⟨rfl,HB2.out⟩
 |
  true =>
  have HFK:=hid (HFO.out rfl)
  clear HFO
  by_cases hk1:s.k=1
  ·have hk1b:(s.k==1)=true:=by rw[hk1];rfl
   go_wp2_with fail
   go_ret
   exact⟨rfl,HB2.out⟩
  ·have HK1:=hid hk1
   have hk1b:(s.k==1)=false:=by rw[beq_eq_false_iff_ne];exact hk1
   clear hk1
   by_cases hl3:3<l.length
   ·have hl3b:((3:Int)<(l.length:Int)):=by omega
    go_wp2_with fail
    go_ret
    exact⟨rfl,HB2.out⟩
   ·have hl3b : ¬((3:Int)<(l.length:Int)):=by omega
    go_wp2_with fail
    refine (mI w2).mono ?_
    rintro e w3 ⟨ta,tc,css,rfl,ho,_,hown,he,hz3,hb3⟩
    obtain⟨a2,n2,c2,w4,hrun,hsl,hb4,hz4⟩:=Dv ho he hown hb3 (HL.out.to (T:=fun b=>b<w2.heap.size) (by decide) (R:=fun _=>False) (aA.aC (HB2.out.trans (hb3.mono HB2.out.size))) (fun b hb hlt=>⟨id,Nat.lt_of_lt_of_le hb HB2.out.size⟩) (fun _ _ e=>e.to (R:=fun _=>False) (aA.aC (HB2.out.trans (hb3.mono HB2.out.size))) (fun b hb hlt=>⟨id,Nat.lt_of_lt_of_le hb HB2.out.size⟩))) (by omega) 22
    have HRUN:=hid hrun
    have HSL:=hid hsl
    have HB4:=hid (HB2.out.trans (hb4.mono HB2.out.size))
    have hs4:=hb4.size
    have HCA4:=hid ((hb4.block w.heap.size (by omega)).trans HCA2.out)
    have HCB4:=hid ((hb4.block (w.heap.size+1) (by omega)).trans HCB2.out)
    have hz10:10<w4.heap.size:=by omega
    clear ho he hown hb3 hrun hsl hb4 HCA2 HCB2 kS
    go_wp2_with (first | (at_builtin;refine wpList_append_run _ rfl (.tmp 30) (.tmp 31) 22 rfl _ _ _ _ rfl rfl HRUN.out ?_) | fail)
    refine (uG (eB++l) _ w4 (HT.out w4 HB4.out hz10) HSL.out (fun t ht=>(List.mem_append.1 ht).elim (DN t) (HR.out t))).mono ?_
    rintro e w5 ⟨sb,mb,rb,L,T,rfl,hpm,_⟩
    obtain⟨E,f,S,v9,css9,D9,hc,_,hS,_⟩:=hpm.both
    have hmb:=(hS mb hc.bT.2).1
    have hb5:=hpm.below
    have HB5:=hid (HB4.out.trans (hb5.mono HB4.out.size))
    have hs5:=hb5.size
    have HCA5:=hid ((hb5.block w.heap.size (by omega)).trans HCA4.out)
    have HCB5:=hid ((hb5.block (w.heap.size+1) (by omega)).trans HCB4.out)
    have kS:=ay HCA5.out
    have HOK:=hid hc.ok
    have HS1:=hid (jT sb mb E f L S s _ w5 (HT.out w5 HB5.out (by omega)) hc (fun u hu=>Dz (hc.ok u hu)) (HST.out.to (T:=fun b=>b<w5.heap.size) (R:=fun _=>False) (aA.aC HB5.out) (fun b hb hlt=>⟨id,Nat.lt_of_lt_of_le hb (HB5.out).size⟩)) HRS.out (zk HFK.out))
    obtain⟨r1,hr1⟩:∃r,lI L s=r:=⟨_,rfl⟩
    rw[hr1] at HS1
    have HR1:=hid hr1
    have HC5:=hid hc
    clear hpm hS hb5 hr1 hc HCA4 HCB4 HSL HRUN
    go_wp2_with fail
    refine HS1.out.mono ?_
    rintro e w6 ⟨rfl,hb6⟩
    have HB6:=hid (HB5.out.trans (hb6.mono HB5.out.size))
    have hs6:=hb6.size
    have HCA6:=hid ((hb6.block w.heap.size (by omega)).trans HCA5.out)
    have HCB6:=hid ((hb6.block (w.heap.size+1) (by omega)).trans HCB5.out)
    have kM:=aH HCB6.out
    have HAD:=hid (vH sb mb E f L S (fun b=>b<w6.heap.size) m _ w6 (HC5.out.new hb6) (HT.out w6 HB6.out (by omega)) HRM.out (HMT.out.to (T:=fun b=>b<w6.heap.size) (R:=fun _=>False) (aA.aC HB6.out) (fun b hb hlt=>⟨id,Nat.lt_of_lt_of_le hb (HB6.out).size⟩)))
    obtain⟨q,hq⟩:∃q,iD L m=q:=⟨_,rfl⟩
    rw[hq] at HAD
    have HQ:=hid hq
    clear hb6 hq HS1 HC5 HCA5 HCB5 kS
    go_wp2_with fail
    refine HAD.out.mono ?_
    rintro e w7 ⟨rfl,⟨E7,f7,S7,hc7,_⟩,hk7⟩
    have HB7:=hid (HB6.out.trans (hk7.below (B:=w.heap.size) (fun i hi=>by omega) (by omega)))
    have hs7:=hk7.size
    have HCA7:=hid ((hk7.block w.heap.size (by omega) (by omega)).trans HCA6.out)
    have HCB7:=hid ((hk7.block (w.heap.size+1) (by omega) (by omega)).trans HCB6.out)
    have kS:=ay HCA7.out
    have kM:=aH HCB7.out
    have HC7:=hid hc7
    clear hc7 hk7 HAD HCA6 HCB6
    by_cases hq0:q=0
    ·subst hq0
     have hadd:gB L m=m::L:=by unfold gB;rw[if_pos HQ.out]
     have hmay:gI m=true:=by
      have:=HQ.out
      unfold iD at this
      split at this
      ·rename_i h;exact h
      ·cases this
     rw[hadd] at HC7
     by_cases e1:m.nm=s.tb
     ·have e1b:((aj m.nm).toList==(aj s.tb).toList)=true:=by rw[iV];exact decide_eq_true e1
      clear e1 hadd
      go_wp2_with fail
      go_ret
      exact⟨rfl,HB7.out⟩
     ·have e1b:((aj m.nm).toList==(aj s.tb).toList)=false:=by rw[iV];exact decide_eq_false e1
      by_cases e2:m.nm=s.jn
      ·have e2b:((aj m.nm).toList==(aj s.jn).toList)=true:=by rw[iV];exact decide_eq_true e2
       clear e1 e2 hadd
       go_wp2_with fail
       go_ret
       exact⟨rfl,HB7.out⟩
      ·have e2b:((aj m.nm).toList==(aj s.jn).toList)=false:=by rw[iV];exact decide_eq_false e2
       have HS2:=hid (jT sb mb E7 f7 (m::L) S7 s _ w7 (HT.out w7 HB7.out (by omega)) HC7.out (fun u hu=>(List.mem_cons.1 hu).elim (fun e=>by rw[e];exact Dz hmay) (fun h=>Dz (HOK.out u h))) (HST.out.to (T:=fun b=>b<w7.heap.size) (R:=fun _=>False) (aA.aC HB7.out) (fun b hb hlt=>⟨id,Nat.lt_of_lt_of_le hb (HB7.out).size⟩)) HRS.out (zk HFK.out))
       rw[wC (D:=L) HK1.out (sD e1) (qd e1) (sD e2) (qd e2),HR1.out] at HS2
       clear e1 e2 hadd hmay
       go_wp2_with fail
       refine HS2.out.mono ?_
       rintro e w8 ⟨rfl,hb8⟩
       have HB8:=hid (HB7.out.trans (hb8.mono HB7.out.size))
       clear hb8 HS2
       go_wp2_with fail
       go_ret
       exact⟨by simp,HB8.out⟩
    ·have hq0b:(q != 0)=true:=by simpa using hq0
     clear hq0
     go_wp2_with fail
     go_ret
     exact⟨rfl,HB7.out⟩
end Go.Proofs.YtfeglkleoijlaaaGreatDoor
namespace Go.Proofs.YtfeglkleoijlaaaGreatDoor
open Go.ChangeShapes Go.WideShapes Go.RowKit
set_option linter.unusedSimpArgs false
set_option linter.unusedVariables false
set_option maxRecDepth 20000
set_option maxHeartbeats 8000000
theorem Tryz.H6:Tryz.prog.cellsOf 42=3:=by kernel_rfl
section
variable {H : Type} {enc : TypeId × Value → H} {w : World} {base : Nat} {held : Bool}
theorem Ci {b0:Nat} {v:Value} {d:DataW H} {ps:List MemPlace} (ho:Value.okWide Tryz.prog w .any b0 29 v) (hd:DataW.Trod enc Tryz.prog w base (fun _=>true) held 29 v d ps) :
  ∃x:St,(∃cs:List Value,v = .agg cs.toArray∧eZ (fun b=>b<w.heap.size) w x cs)∧xH x:=by
 obtain⟨cs,rfl,hn⟩:=okWide_struct Tryz.underlying29 ho
 obtain⟨fuel,hf⟩:=hd
 obtain⟨x,_,hx,hR⟩:=EP _ fuel _ _ hf (Nat.lt_succ_self _)
 exact⟨x,⟨cs.toList,by simp,hx⟩,hR⟩
def IV (t:Tb):Prop:=BA t∧-9223372036854775808≤t.pr∧t.pr≤9223372036854775807
theorem zN (N:Nat):Fb enc w base held N 42 3 dK IV:=fun fuel cs x h hN=>by
 obtain⟨ys,n,_,rfl,hl,hlen,hf⟩:=DataW.trod_struct Tryz.underlying42 h
 rw[Tryz.H6] at hl
 match cs,hl with
 |
  [c0,c1,c2],_ =>
  match ys,hlen with
  |
   [y0,y1,y2],_ =>
   have f0:DataW.trod enc Tryz.prog w base (fun _=>true) held n 9 [c0]=some y0:=by
    have g:=hf 0 _ rfl
    change DataW.trod enc Tryz.prog w base (fun _=>true) held n 9 (([c0,c1,c2].drop 0).take (Tryz.prog.cellsOf 9))=some y0 at g
    rw[Tryz.cStr] at g
    exact g
   have f1:DataW.trod enc Tryz.prog w base (fun _=>true) held n 23 [c1]=some y1:=by
    have g:=hf 1 _ rfl
    change DataW.trod enc Tryz.prog w base (fun _=>true) held n 23 (([c0,c1,c2].drop 1).take (Tryz.prog.cellsOf 23))=some y1 at g
    rw[Tryz.DV] at g
    exact g
   have f2:DataW.trod enc Tryz.prog w base (fun _=>true) held n 3 [c2]=some y2:=by
    have g:=hf 2 _ rfl
    change DataW.trod enc Tryz.prog w base (fun _=>true) held n 3 (([c0,c1,c2].drop 2).take (Tryz.prog.cellsOf 3))=some y2 at g
    rw[Tryz.uy] at g
    exact g
   obtain⟨s0,e0,d0,w0⟩:=DataW.trod_string Tryz.underlying9 f0
   obtain⟨a1,n1,k1,xs1,e1,h1,r1⟩:=jm (α:=Co) (N:=SizeOf.sizeOf y1.1) Tryz.underlying23 Tryz.Eu (by decide) (zq _) n _ _ f1 (Nat.le_refl _)
   obtain⟨k,e2,d2,w2⟩:=DataW.trod_int Tryz.underlying3 f2
   simp only[List.cons.injEq,and_true] at e0 e2
   subst e0 e1 e2
   refine ⟨⟨s0.data.toList,xs1,k⟩,rfl,⟨a1,n1,k1,?_,h1⟩,⟨iL s0 w0,r1⟩,(pq w2).1,(pq w2).2⟩
   dsimp only
   rw[gq]
theorem CQ {b0:Nat} {v:Value} {d:DataW H} {ps:List MemPlace} (ho:Value.okWide Tryz.prog w .any b0 42 v) (hd:DataW.Trod enc Tryz.prog w base (fun _=>true) held 42 v d ps) :
  ∃x:Tb,(∃cs:List Value,v = .agg cs.toArray∧dK (fun b=>b<w.heap.size) w x cs)∧IV x:=by
 obtain⟨cs,rfl,hn⟩:=okWide_struct Tryz.underlying42 ho
 obtain⟨fuel,hf⟩:=hd
 obtain⟨x,_,hx,hR⟩:=zN _ fuel _ _ hf (Nat.lt_succ_self _)
 exact⟨x,⟨cs.toList,by simp,hx⟩,hR⟩
end
end Go.Proofs.YtfeglkleoijlaaaGreatDoor
namespace Go.Proofs.YtfeglkleoijlaaaGreatDoor
open Go.ChangeShapes Go.WideShapes Go.RowKit
set_option linter.unusedVariables false
set_option maxRecDepth 20000
set_option maxHeartbeats 8000000
abbrev mK:List (String × DataW Unit):=[("math/bits.deBruijn32tab", Rows.laid_math_bits_deBruijn32tab),("math/bits.deBruijn64tab", Rows.laid_math_bits_deBruijn64tab),("internal/strconv.uint64pow10", Rows.laid_internal_strconv_uint64pow10),("unicode/utf8.acceptRanges", Rows.laid_unicode_utf8_acceptRanges),("vestry/printer.operators", Rows.laid_vestry_printer_operators),("unicode/utf8.first", Rows.laid_unicode_utf8_first)]
theorem nW {W:World} (h:laidMetH Tryz.prog mK W):laidMet Tryz.prog mK W:=by
 rwa [MakeChecks.laidMetH_plain _ _ _ (by kernel_rfl)] at h
theorem zF {W:World} {n:String} {d:DataW Unit} {r:List (String × DataW Unit)} {g:Nat} (h:laidMet Tryz.prog ((n,d)::r) W) (hg:Tryz.prog.globalNamed n=some g):g<W.heap.size:=by
 obtain⟨ps,⟨g1,t1,cs1,f1,p1,q1,hg1,ht1,hv1,hd1,_⟩,_⟩:=h
 obtain rfl:=Option.some.inj (hg.symm.trans hg1)
 unfold World.var? at hv1
 rw[hg1] at hv1
 simp only[Option.bind_some] at hv1
 rcases Nat.lt_or_ge g W.heap.size with h | h
 ·exact h
 ·rw[Array.getElem?_eq_none h] at hv1
  cases hv1
theorem CU {W:World} {r:List (String × DataW Unit)} (h:laidMet Tryz.prog (("internal/strconv.uint64pow10", Rows.laid_internal_strconv_uint64pow10)::r) W):Lib.TabIs Tryz.prog W "internal/strconv.uint64pow10" .u64 Lib.pow10Tab:=by
 obtain⟨ps,⟨g2,t2,cs2,f2,p2,q2,hg2,ht2,hv2,hd2,_⟩,_⟩:=h
 obtain rfl:=Option.some.inj ((show Tryz.prog.globalNamed "internal/strconv.uint64pow10" = some 2 by kernel_rfl).symm.trans hg2)
 obtain rfl:=Option.some.inj ((show (Tryz.prog.globals[2]?).map (·.type)=some 226 by kernel_rfl).symm.trans ht2)
 have e:=Lib.cells_of_tab (k:=.u64) (zs:=Lib.pow10Tab) Tryz.underlying226 Tryz.underlying216 (by kernel_rfl) (by kernel_rfl) hd2
 unfold Lib.TabIs
 rw[hv2]
 exact congrArg some (Array.ext' (by rw[e]))
theorem xK {W:World} (hs:W.ShapedOpen Tryz.prog):∃m,W.cell? ⟨1,0,none⟩=some (.int .i64 m) :=
 cell_of_shapedOpen_int (P:=Tryz.prog) (zero:=#[.int .i64 0]) (t:=3) hs (by decide +kernel) (by kernel_rfl) rfl (by kernel_rfl) (by kernel_rfl) Tryz.underlying3
theorem Tryz.FY:Tryz.prog.cellsOf 168=2:=by kernel_rfl
theorem Tryz.Hz:Tryz.prog.cellsOf 3=1:=by kernel_rfl
theorem Tryz.I4:Tryz.prog.cellsOf 9=1:=by kernel_rfl
theorem um {H:Type} {enc:TypeId × Value→H} {W:World} {base:Nat} {spare:Nat→Bool} {held:Bool} {fuel:Nat} {cs:List Value} {ps:List MemPlace} {s:List UInt8} {n:Int} (h:DataW.trod enc Tryz.prog W base spare held fuel 168 cs=some (.agg [.lit (.string s),.lit (.int .i64 n)],ps)) :
  cs=[.string (aj s),.int .i64 n]:=by
 obtain⟨ys,m,_,hx,hl,hlen,hf⟩:=DataW.trod_struct Tryz.underlying168 h
 rw[Tryz.FY] at hl
 match cs,hl with
 |
  [c0,c1],_ =>
  match ys,hlen with
  |
   [y0,y1],_ =>
   have f0:DataW.trod enc Tryz.prog W base spare held m 9 [c0]=some y0:=by
    have g:=hf 0 _ rfl
    change DataW.trod enc Tryz.prog W base spare held m 9 (([c0,c1].drop 0).take (Tryz.prog.cellsOf 9))=some y0 at g
    rw[Tryz.I4] at g
    exact g
   have f1:DataW.trod enc Tryz.prog W base spare held m 3 [c1]=some y1:=by
    have g:=hf 1 _ rfl
    change DataW.trod enc Tryz.prog W base spare held m 3 (([c0,c1].drop 1).take (Tryz.prog.cellsOf 3))=some y1 at g
    rw[Tryz.Hz] at g
    exact g
   obtain⟨s0,e0,d0,_⟩:=DataW.trod_string Tryz.underlying9 f0
   obtain⟨n0,e1,d1,_⟩:=DataW.trod_int Tryz.underlying3 f1
   subst d0 d1
   simp only[List.map_cons,List.map_nil,Prod.mk.injEq,DataW.agg.injEq,List.cons.injEq,DataW.lit.injEq,Lit.string.injEq,Lit.int.injEq,and_true,true_and] at hx
   obtain⟨⟨rfl,rfl⟩,_⟩:=hx
   simp only[List.cons.injEq,and_true] at e0 e1
   rw[e0,e1,gq]
def Jv (t:List UInt8 × Nat):DataW Unit:=.agg [.lit (.string t.1),.lit (.int .i64 t.2)]
theorem Ed {cs:List Value} {k:Nat} {a b:Value} (h:(cs.drop k).take 2=[a,b]):cs[k]?=some a∧cs[k+1]?=some b:=by
 have h0:((cs.drop k).take 2)[0]?=some a:=by rw[h];rfl
 have h1:((cs.drop k).take 2)[1]?=some b:=by rw[h];rfl
 rw[List.getElem?_take,if_pos (by decide),List.getElem?_drop] at h0 h1
 exact⟨by simpa using h0,h1⟩
theorem Cj {W:World} {r:List (String × DataW Unit)} (h:laidMet Tryz.prog (("vestry/printer.operators", Rows.laid_vestry_printer_operators)::r) W):sZ W:=by
 obtain⟨ps,⟨g2,t2,cs2,f2,p2,q2,hg2,ht2,hv2,hd2,_⟩,_⟩:=h
 have hg:Tryz.prog.globalNamed "vestry/printer.operators" = some 0:=by kernel_rfl
 obtain rfl:=Option.some.inj (hg.symm.trans hg2)
 obtain rfl:=Option.some.inj ((show (Tryz.prog.globals[0]?).map (·.type)=some 169 by kernel_rfl).symm.trans ht2)
 obtain⟨xs,m,_,hx,hl,hlen,hf⟩:=DataW.trod_array Tryz.underlying169 hd2
 have hdd:(Rows.laid_vestry_printer_operators:DataW Unit) = .agg (rW.map Jv):=by kernel_rfl
 rw[hdd] at hx
 simp only[Prod.mk.injEq,DataW.agg.injEq] at hx
 intro o ho
 have hf':=hf o (by omega)
 rw[Tryz.FY] at hf'
 have hxo:(xs.map (·.1))[o]?=(rW.map Jv)[o]?:=by rw[← hx.1]
 obtain⟨x,hxe⟩:∃x,xs[o]?=some x:=⟨_,List.getElem?_eq_getElem (by omega)⟩
 rw[hxe] at hf'
 rw[List.getElem?_map,hxe,List.getElem?_map] at hxo
 have hto:rW[o]?=some (oh (o:Int),cZ (o:Int)):=by
  have : ∀o:Fin 14,rW[o.1]?=some (oh (o.1:Int),cZ (o.1:Int)):=by decide
  exact this ⟨o,by omega⟩
 rw[hto] at hxo
 simp only[Option.map_some,Option.some.injEq] at hxo
 obtain⟨d,pl⟩:=x
 dsimp only at hxo
 subst hxo
 obtain⟨k0,k1⟩:=Ed (um hf')
 have c0:=World.var?_cell hg hv2 (o*2)
 have c1:=World.var?_cell hg hv2 (o*2+1)
 rw[Array.getElem?_toList] at k0 k1
 exact⟨c0.trans k0,c1.trans k1⟩
theorem Ii {W:World} (h:laidMetH Tryz.prog mK W) (hs:W.ShapedOpen Tryz.prog):rE W∧sZ W:=by
 have h':=nW h
 have hlt:6<W.heap.size:=zF (g:=6) h'.tail (by kernel_rfl)
 exact⟨⟨by omega,xK hs,CU h'.tail.tail⟩,Cj h'.tail.tail.tail.tail⟩
end Go.Proofs.YtfeglkleoijlaaaGreatDoor
namespace Go.Proofs.YtfeglkleoijlaaaGreatDoor
open Go.ChangeShapes Go.WideShapes Go.RowKit
set_option linter.unusedSimpArgs false
set_option linter.unusedVariables false
set_option maxRecDepth 20000
set_option maxHeartbeats 8000000
section
variable {H : Type} {enc : TypeId × Value → H} {w : World} {base : Nat} {held : Bool}
theorem Ce (d:DataW H):1≤Rows.uptoBulk d:=by
 cases d with
 | lit l=>cases l<;>simp[Rows.uptoBulk]
 | nil=>simp[Rows.uptoBulk]
 | ptr d=>simp[Rows.uptoBulk]
 | slice a b=>simp[Rows.uptoBulk]
 | agg a=>simp[Rows.uptoBulk]
 | iface a b=>simp[Rows.uptoBulk]
 | map a=>simp[Rows.uptoBulk]
 | held a=>simp[Rows.uptoBulk]
theorem nT : ∀l:List (DataW H),l.length≤Rows.uptoBulkAll l
 | []=>Nat.zero_le _
 |
  d::l=>by
  have:=Ce d
  have:=nT l
  simp only[List.length_cons,Rows.uptoBulkAll]
  omega
theorem nL (D:Nat→DataW H) (f:Nat→Nat):∀n,(∀i,i<n→f i≤Rows.uptoBulk (D i))→((List.range n).map f).sum≤Rows.uptoBulkAll ((List.range n).map D)
 | 0,_=>Nat.zero_le _
 |
  n+1,h=>by
  have ih:=nL (fun i=>D (i+1)) (fun i=>f (i+1)) n (fun i hi=>h (i+1) (by omega))
  have h0:=h 0 (by omega)
  rw[List.range_succ_eq_map,List.map_cons,List.map_cons,List.sum_cons,List.map_map,List.map_map]
  simp only[Rows.uptoBulkAll]
  have e1:(List.range n).map (f ∘ Nat.succ)=(List.range n).map fun i=>f (i+1):=rfl
  have e2:(List.range n).map (D ∘ Nat.succ)=(List.range n).map fun i=>D (i+1):=rfl
  rw[e1,e2]
  omega
theorem jr {t e:TypeId} {fuel:Nat} {a:Option Addr} {n c:Nat} {y:DataW H × List MemPlace} (ht:Tryz.prog.underlying t=some (.slice e)) (f:DataW.trod enc Tryz.prog w base (fun _=>true) held fuel t [.slice a n c]=some y):n≤Rows.uptoBulk y.1:=by
 rcases Deep.open_slice ht f with⟨hcs,_⟩ | ⟨p,len,cap,m,k,D,Pl,hcs,_,hlm,hm,hmm,hx,hr⟩
 ·simp only[List.cons.injEq,Value.slice.injEq,and_true] at hcs
  omega
 ·simp only[List.cons.injEq,Value.slice.injEq,and_true] at hcs
  obtain⟨_,rfl,_⟩:=hcs
  rw[hx]
  have:=nT ((List.range n).map D)
  simp only[List.length_map,List.length_range] at this
  simp only[Rows.uptoBulk]
  omega
theorem yO {S:Nat→Prop} {fuel:Nat} {a:Option Addr} {n c:Nat} {y:DataW H × List MemPlace} {xs:List It} (f:DataW.trod enc Tryz.prog w base (fun _=>true) held fuel 26 [.slice a n c]=some y) (hx:aQ 2 qo S w xs (.slice a n c)):(xs.flatMap fun i=>i.xs).length≤Rows.uptoBulk y.1:=by
 have hn:n=xs.length:=by obtain⟨_,_,hf⟩:=hx.form;simp only[Value.slice.injEq] at hf;exact hf.2.1
 rcases Deep.open_slice Tryz.underlying26 f with⟨hcs,_⟩ | ⟨p,len,cap,m,k,D,Pl,hcs,_,hlm,hm,hmm,hxx,hr⟩
 ·simp only[List.cons.injEq,Value.slice.injEq,and_true] at hcs
  have:xs=[]:=List.eq_nil_of_length_eq_zero (by omega)
  rw[this]
  exact Nat.zero_le _
 ·simp only[List.cons.injEq,Value.slice.injEq,and_true] at hcs
  obtain⟨rfl,rfl,rfl⟩:=hcs
  rw[hxx]
  simp only[if_true] at hmm
  have hone : ∀i,i<n→((xs[i]?.map fun x=>x.xs.length).getD 0)≤Rows.uptoBulk (D i):=fun i hi=>by
   obtain⟨cs',h1,h2⟩:=hr i (by omega)
   obtain⟨x,hxi⟩:∃x,xs[i]?=some x:=⟨_,List.getElem?_eq_getElem (by omega)⟩
   rw[hxi]
   show x.xs.length≤_
   obtain⟨_,_,_,b,off,ds,hp,_,hel,hcell⟩:=bN hx hxi
   injection hp with hp
   subst hp
   obtain⟨aa,nn,cc,rfl,hargs⟩:=hel
   have hnn:nn=x.xs.length:=by obtain⟨_,_,hf,_⟩:=hargs.form;simp only[Value.slice.injEq] at hf;exact hf.2.1
   rw[Tryz.zM] at h1
   obtain⟨ys,k2,_,hD,hl,hlen,hf⟩:=DataW.trod_struct Tryz.underlying55 h2
   rw[Tryz.zM] at hl
   match cs',hl with
   |
    [e0,e1],_ =>
    match ys,hlen with
    |
     [y0,y1],_ =>
     have f1:DataW.trod enc Tryz.prog w base (fun _=>true) held k2 27 [e1]=some y1:=by
      have g:=hf 1 _ rfl
      change DataW.trod enc Tryz.prog w base (fun _=>true) held k2 27 (([e0,e1].drop 1).take (Tryz.prog.cellsOf 27))=some y1 at g
      rw[Tryz.gX] at g
      exact g
     have hq:=(World.cells?_some h1).2.2 1 (by decide)
     have hc1:=hcell 1 _ rfl
     simp only[Addr.add_lit] at hq
     rw[hc1] at hq
     simp only[List.getElem?_cons_succ,List.getElem?_cons_zero,Option.some.injEq] at hq
     subst hq
     have hb:=jr Tryz.underlying27 f1
     simp only[Prod.mk.injEq] at hD
     rw[hD.1]
     simp only[List.map_cons,List.map_nil,Rows.uptoBulk,Rows.uptoBulkAll]
     omega
  have hs:=nL D (fun i=>(xs[i]?.map fun x=>x.xs.length).getD 0) n hone
  have he:(xs.flatMap fun i=>i.xs).length=((List.range n).map fun i=>(xs[i]?.map fun x=>x.xs.length).getD 0).sum:=by
   subst hn
   rw[List.length_flatMap]
   congr 1
   apply List.ext_getElem?
   intro i
   rw[List.getElem?_map,List.getElem?_map]
   rcases Nat.lt_or_ge i xs.length with hi | hi
   ·rw[List.getElem?_range hi,List.getElem?_eq_getElem hi]
    simp[List.getElem?_eq_getElem hi]
   ·rw[List.getElem?_eq_none hi,List.getElem?_eq_none (by simpa using hi)]
    rfl
  rw[he]
  simp only[Rows.uptoBulk]
  omega
theorem AL {b0:Nat} {v:Value} {d:DataW H} {ps:List MemPlace} (ho:Value.okWide Tryz.prog w .any b0 22 v) (hd:DataW.Trod enc Tryz.prog w base (fun _=>true) held 22 v d ps) :
  ∃l:List Tb,aQ 3 dK (fun b=>b<w.heap.size) w l v∧∀t∈l,BA t:=by
 obtain⟨a,len,cap,rfl⟩:=okWide_slice Tryz.underlying22 ho
 obtain⟨fuel,hf⟩:=hd
 haveI:Inhabited Tb:=⟨⟨[],[],0⟩⟩
 obtain⟨aa,nn,cc,xs,e,hsl,hR⟩:=jm (α:=Tb) (N:=SizeOf.sizeOf d) Tryz.underlying22 Tryz.H6 (by decide) (zN _) fuel _ _ hf (Nat.le_refl _)
 rw[e]
 exact⟨xs,hsl,fun t ht=>(hR t ht).1⟩
theorem Cg {b0:Nat} {v:Value} {d:DataW H} {ps:List MemPlace} (hd:DataW.Trod enc Tryz.prog w base (fun _=>true) held 29 v d ps) (hsz:Rows.uptoBulk d≤1048576) {x:St} {cs:List Value} (hv:v = .agg cs.toArray) {S:Nat→Prop} (hx:eZ S w x cs) :
  (dM x).length≤100000000∧x.sets.length≤100000000∧x.items.length≤1000000000000:=by
 subst hv
 obtain⟨fuel,hf0⟩:=hd
 have hf1:DataW.trod enc Tryz.prog w base (fun _=>true) held fuel 29 cs=some (d,ps):=hf0
 obtain⟨a1,a2,a3,a4,a5,a6,a7,a8,n1,n2,n3,n4,n5,n6,n7,n8,c1,c2,c3,c4,c5,c6,c7,c8,rfl,_,_,hset,hit,hon,hwh,hgr,hod⟩:=hx
 have e3:n3=x.sets.length:=by obtain⟨_,_,hf⟩:=hset.form;simp only[Value.slice.injEq] at hf;exact hf.2.1
 have e4:n4=x.items.length:=by obtain⟨_,_,hf⟩:=hit.form;simp only[Value.slice.injEq] at hf;exact hf.2.1
 have e5:n5=x.on.length:=by obtain⟨_,_,hf,_⟩:=hon.form;simp only[Value.slice.injEq] at hf;exact hf.2.1
 have e6:n6=x.wh.length:=by obtain⟨_,_,hf,_⟩:=hwh.form;simp only[Value.slice.injEq] at hf;exact hf.2.1
 have e7:n7=x.gr.length:=by obtain⟨_,_,hf,_⟩:=hgr.form;simp only[Value.slice.injEq] at hf;exact hf.2.1
 have e8:n8=x.od.length:=by obtain⟨_,_,hf,_⟩:=hod.form;simp only[Value.slice.injEq] at hf;exact hf.2.1
 obtain⟨ys,n,_,hxx,hl,hlen,hf⟩:=DataW.trod_struct Tryz.underlying29 hf1
 simp only[Prod.mk.injEq] at hxx
 obtain⟨rfl,_⟩:=hxx
 match ys,hlen with
 |
  [y0,y1,y2,y3,y4,y5,y6,y7,y8,y9,y10,y11,y12,y13],_ =>
  have f5:DataW.trod enc Tryz.prog w base (fun _=>true) held n 25 [.slice a3 n3 c3]=some y5:=by
   have g:=hf 5 _ rfl
   change DataW.trod enc Tryz.prog w base (fun _=>true) held n 25 (List.take (Tryz.prog.cellsOf 25) (.slice a3 n3 c3::_))=some y5 at g
   rw[Tryz.Eo] at g
   exact g
  have f6:DataW.trod enc Tryz.prog w base (fun _=>true) held n 26 [.slice a4 n4 c4]=some y6:=by
   have g:=hf 6 _ rfl
   change DataW.trod enc Tryz.prog w base (fun _=>true) held n 26 (List.take (Tryz.prog.cellsOf 26) (.slice a4 n4 c4::_))=some y6 at g
   rw[Tryz.Em] at g
   exact g
  have f8:DataW.trod enc Tryz.prog w base (fun _=>true) held n 27 [.slice a5 n5 c5]=some y8:=by
   have g:=hf 8 _ rfl
   change DataW.trod enc Tryz.prog w base (fun _=>true) held n 27 (List.take (Tryz.prog.cellsOf 27) (.slice a5 n5 c5::_))=some y8 at g
   rw[Tryz.gX] at g
   exact g
  have f9:DataW.trod enc Tryz.prog w base (fun _=>true) held n 27 [.slice a6 n6 c6]=some y9:=by
   have g:=hf 9 _ rfl
   change DataW.trod enc Tryz.prog w base (fun _=>true) held n 27 (List.take (Tryz.prog.cellsOf 27) (.slice a6 n6 c6::_))=some y9 at g
   rw[Tryz.gX] at g
   exact g
  have f10:DataW.trod enc Tryz.prog w base (fun _=>true) held n 27 [.slice a7 n7 c7]=some y10:=by
   have g:=hf 10 _ rfl
   change DataW.trod enc Tryz.prog w base (fun _=>true) held n 27 (List.take (Tryz.prog.cellsOf 27) (.slice a7 n7 c7::_))=some y10 at g
   rw[Tryz.gX] at g
   exact g
  have f11:DataW.trod enc Tryz.prog w base (fun _=>true) held n 27 [.slice a8 n8 c8]=some y11:=by
   have g:=hf 11 _ rfl
   change DataW.trod enc Tryz.prog w base (fun _=>true) held n 27 (List.take (Tryz.prog.cellsOf 27) (.slice a8 n8 c8::_))=some y11 at g
   rw[Tryz.gX] at g
   exact g
  have g5:=jr Tryz.underlying25 f5
  have g6:=jr Tryz.underlying26 f6
  have g6b:=yO f6 hit
  have g8:=jr Tryz.underlying27 f8
  have g9:=jr Tryz.underlying27 f9
  have g10:=jr Tryz.underlying27 f10
  have g11:=jr Tryz.underlying27 f11
  simp only[List.map_cons,List.map_nil,Rows.uptoBulk,Rows.uptoBulkAll] at hsz
  unfold dM zW
  simp only[List.length_append,List.length_map]
  omega
end
end Go.Proofs.YtfeglkleoijlaaaGreatDoor
