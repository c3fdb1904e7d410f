/- Packed for the hand-in: CCatB KPure -/
import Derived.Test.YtfeglkleoijlaaaGreatDoorZ29
import Derived.Test.YtfeglkleoijlaaaGreatDoorZ26
import Derived.Test.YtfeglkleoijlaaaGreatDoorZ09
namespace Go.Proofs.YtfeglkleoijlaaaGreatDoor
open Go.RowKit Go.Shelf Go.Lib Go.Maps
set_option linter.unusedSimpArgs false
set_option linter.unusedVariables false
set_option maxRecDepth 20000
set_option maxHeartbeats 8000000
theorem yI (w:World):Calls Tryz.prog 36 #[EA] w fun e w'=>e = .returned EA∧Below w.heap.size w w':=by
 obtain⟨W,hW,hbW,hzW,hcA,hcB⟩:=two w (.cells #[.string ⟨#[]⟩,.slice none 0 0,.int .i64 0] 42) (.cells #[.string ⟨#[]⟩,.slice none 0 0,.int .i64 0] 42)
 have k0:=aH hcA
 have HSC:=hid (fun V=>fO ⟨#[]⟩ V (by decide))
 have HCA:=hid hcA
 have HCB:=hid hcB
 have HBW:=hid hbW
 clear hcA hcB hbW
 go_enter Tryz.func36,Tryz.ntmps36
 go_wp2_with fail
 try rw[hW]
 refine (HSC.out W).mono ?_
 rintro e w1 ⟨rfl,hb1⟩
 have hB1:=HBW.out.trans (hb1.mono HBW.out.size)
 have hs1:=hb1.size
 have hA1:=(hb1.block w.heap.size (by omega)).trans HCA.out
 have hZ1:=(hb1.block (w.heap.size+1) (by omega)).trans HCB.out
 have k1:=aH hA1
 have kz:=aH hZ1
 have HB1:=hid hB1
 have HS0:=hid (aM k1.1)
 have HS1:=hid (aM k1.2.1)
 have HZ0:=hid (aM kz.1)
 have HZ1:=hid (aM kz.2.1)
 have HZ2:=hid (aM kz.2.2.1)
 have HC1:=hid (AnyE.slices_Clone_nil Ea 0 0 w1)
 clear hb1 hB1 hA1 hZ1 hW k0
 go_wp2_with fail
 try rw[HS0.out]
 refine HC1.out.mono ?_
 rintro e w2 ⟨rfl,rfl⟩
 go_wp2_with fail
 try rw[HS1.out]
 go_rounds 1
 try rw[HZ0.out,HZ1.out,HZ2.out]
 exact bodyPost_ret (v:=EA) (by simp[results,Tryz.results36,go_sem,kz]) rfl ⟨rfl,HB1.out⟩
def eu (L:List Tb) (nm:List UInt8):Tb:=(L.find? fun t=>decide (t.nm=nm)).getD yH
theorem p9 {L:List Tb} (hn:(L.map Tb.nm).Nodup) {t:Tb} (ht:t∈L):eu L t.nm=t:=by
 unfold eu
 induction L with
 | nil=>cases ht
 |
  cons x L ih =>
  rw[List.map_cons,List.nodup_cons] at hn
  rcases List.mem_cons.1 ht with rfl | h
  ·rw[List.find?_cons_of_pos (by simp)]
   rfl
  ·rw[List.find?_cons_of_neg (by
    simp only[decide_eq_true_eq]
    intro e
    exact hn.1 (by rw[e];exact List.mem_map.2 ⟨t,h,rfl⟩))]
   exact ih hn.2 h
theorem AX {L:List Tb} {nm:List UInt8} (h:nm ∉ L.map Tb.nm):eu L nm=yH:=by
 unfold eu
 rw[List.find?_eq_none.2 (fun x hx=>by
  simp only[decide_eq_true_eq]
  intro e
  exact h (by rw[← e];exact List.mem_map.2 ⟨x,hx,rfl⟩))]
 rfl
theorem sU (sb mb:Nat) (E:DataW Value) (f:List UInt8→Value) (L:List Tb) (S:Nat→Prop) (nm:List UInt8) (w:World) (h:dY w sb mb E f L S) (hn:nm.length≤maxLen) :
  Calls Tryz.prog 19 #[.pointer (some ⟨sb,0,none⟩),.string (aj nm)] w fun e w'=>∃ds:List Value,e = .returned (.tuple #[.agg ds.toArray,.bool (decide (nm∈L.map Tb.nm))])∧yR w.heap.size w' (eu L nm) ds∧Below w.heap.size w w':=by
 obtain⟨W,hW,hbW,hzW,hcW⟩:=aL w (.cells #[.string ⟨#[]⟩,.slice none 0 0,.int .i64 0] 42)
 have hC:=h.new hbW
 obtain⟨v,ps,hlk,hv⟩:=hC.m.look_ok FJ Tryz.underlying81 (Tryz.zh W) (zd:=.held EA) (zp:=[]) rfl (uw hn)
 have hv':=vw hv
 simp only[Prod.mk.injEq] at hv'
 rw[hC.at' nm hn] at hv'
 injection hv'.1 with hvf
 subst hvf
 rw[hC.has nm hn] at hlk
 have hc:=hC.cell
 have HB:=hid hbW
 have HCW:=hid hcW
 by_cases hm:nm∈L.map Tb.nm
 ·rw[decide_eq_true hm] at hlk ⊢
  obtain⟨t,ht,rfl⟩:=List.mem_map.1 hm
  obtain⟨cs,h1,h2⟩:=hC.val t ht
  rw[h1] at hlk
  rw[p9 h.once ht]
  have hms:=j3 (h.ok t ht)
  have HE:=hid h2
  obtain⟨aa,nn,cc,rfl,_⟩:=id h2
  obtain⟨U,hU,hbU,hzU,hcU⟩:=aL W (.cells #[.string (aj t.nm),.slice aa nn cc,.int .i64 t.pr] 42)
  have kU:=aH hcU
  have HCL:=hid (lH S t _ U (h2.on hbU) hms.1 hms.2)
  have hBU:=hbW.trans (hbU.mono hbW.size)
  have HBU:=hid hBU
  have HZU:=hid ((hbU.block w.heap.size hzW).trans hcW)
  clear h hC h1 h2 hm ht hv hv' hbW hcW hbU hcU hBU hms hn
  go_enter Tryz.func19,Tryz.ntmps19
  go_wp2_with fail
  try rw[hW]
  try rw[hU]
  refine HCL.out.mono ?_
  rintro e w3 ⟨ds,rfl,hds,hb3⟩
  have hs3:=hb3.size
  have hdo:=hds
  obtain⟨a3,n3,c3,rfl,hown⟩:=hds
  have k3:=aH ((hb3.block w.heap.size (by omega)).trans HZU.out)
  have HB3:=hid (HBU.out.trans (hb3.mono HBU.out.size))
  have HOW:=hid hown
  clear hb3 hdo hown HCL hW hU kU
  go_wp2
  have hSp:aA (fun k=>k=w.heap.size) w3 (((w3.setCell ⟨w.heap.size,0,none⟩ (.string (aj t.nm))).setCell ⟨w.heap.size,1,none⟩ (.slice a3 n3 c3)).setCell ⟨w.heap.size,2,none⟩ (.int .i64 t.pr)):=(((aA.refl (fun k=>k=w.heap.size) w3).own _ _).own _ _).own _ _
  have hB:Below w.heap.size w (((w3.setCell ⟨w.heap.size,0,none⟩ (.string (aj t.nm))).setCell ⟨w.heap.size,1,none⟩ (.slice a3 n3 c3)).setCell ⟨w.heap.size,2,none⟩ (.int .i64 t.pr)):=HB3.out.trans (hSp.below (fun i hi=>by omega) HB3.out.size)
  refine bodyPost_ret (v:=.tuple #[.agg #[.string (aj t.nm),.slice a3 n3 c3,.int .i64 t.pr],.bool true]) (by simp[results,Tryz.results19,go_sem,k3]) rfl ⟨_,rfl,⟨_,_,_,rfl,?_⟩,hB⟩
  exact dP (hSp.row HOW.out (fun g hg=>by have:=(HOW.out.lt g hg).1;omega)) (fun g hg=>by have:=(HOW.out.lt g hg).1;have:=HB.out.size;omega)
 ·rw[decide_eq_false hm] at hlk ⊢
  rw[hC.none nm hm] at hlk
  rw[AX hm]
  obtain⟨U,hU,hbU,hzU,hcU⟩:=aL W (.cells #[.string ⟨#[]⟩,.slice none 0 0,.int .i64 0] 42)
  have kU:=aH hcU
  have HCL:=hid (yI U)
  have hBU:=hbW.trans (hbU.mono hbW.size)
  have HBU:=hid hBU
  have HZU:=hid ((hbU.block w.heap.size hzW).trans hcW)
  have HT0:=hid (aM kU.1)
  have HT1:=hid (aM kU.2.1)
  have HT2:=hid (aM kU.2.2.1)
  clear h hC hm hv hv' hbW hcW hbU hcU hBU hn
  go_enter Tryz.func19,Tryz.ntmps19
  go_wp2_with fail
  try rw[hW]
  try rw[hU]
  try rw[HT0.out,HT1.out,HT2.out]
  refine HCL.out.mono ?_
  rintro e w3 ⟨rfl,hb3⟩
  have hs3:=hb3.size
  have k3:=aH ((hb3.block w.heap.size (by omega)).trans HZU.out)
  have HS0:=hid (aM k3.1)
  have HS1:=hid (aM k3.2.1)
  have HS2:=hid (aM k3.2.2.1)
  have HB3:=hid (HBU.out.trans (hb3.mono HBU.out.size))
  clear hb3 HCL hW hU kU
  go_wp2
  rw[HS0.out,HS1.out,HS2.out]
  exact bodyPost_ret (v:=.tuple #[EA,.bool false]) (by simp[results,Tryz.results19,go_sem,k3]) rfl ⟨_,rfl,iI _ _ HB3.out.size,HB3.out⟩
theorem dY.added {w w':World} {sb mb:Nat} {E:DataW Value} {f:List UInt8→Value} {L:List Tb} {S T:Nat→Prop} {t:Tb} {cs:List Value} (h:dY w sb mb E f L S) (hnin:t.nm ∉ L.map Tb.nm) (h6:L.length<6) (hm:gI t=true) (hE:dK T w t cs) {n:Nat} (hmap:w'.ownsMap Tryz.prog 9 nX mb n (E.put (.string t.nm) (.held (.agg cs.toArray)))) (ht:w.grownBy w' (some mb)) (hT : ∀b,T b→b<w.heap.size) :
  dY w' sb mb (E.put (.string t.nm) (.held (.agg cs.toArray))) (fun x=>if x=t.nm then .agg cs.toArray else f x) (t::L) (fun b=>S b∨T b):=by
 have hn:t.nm.length≤maxLen:=by have:=(j3 hm).1.1;unfold maxLen;omega
 have hg:aA (fun k=>k=mb) w w':=aA.dZ ht (fun k e=>by injection e with e;exact e.symm)
 have hsz:Maps.size (E.put (.string t.nm) (.held (.agg cs.toArray)))=(t::L).length:=by
  rw[size_put (h.m.tidy FJ),h.has t.nm hn,decide_eq_false hnin,if_neg Bool.false_ne_true,h.size]
  rfl
 have hne : ∀x:List UInt8,x≠t.nm→(Lit.string x)≠(Lit.string t.nm):=fun x hx e=>hx (by injection e)
 have hmv : ∀{R:Nat→Prop} {x:Tb} {ds:List Value},dK R w x ds→(∀b,R b→S b∨T b)→dK (fun b=>S b∨T b) w' x ds:=fun {R x ds} e2 hR=>by
  obtain⟨aa,nn,cc,e3,e4⟩:=e2
  refine ⟨aa,nn,cc,e3,?_⟩
  obtain⟨a,c,css,v1,v2,v3,v4,v5⟩:=e4
  refine ⟨a,c,css,v1,v2,v3,v4.to (fun _ _ e=>e),fun hne2=>?_⟩
  obtain⟨b,off,b1,b2,b3⟩:=v5 hne2
  refine ⟨b,off,b1,hR b b2,fun j ds hj i u hu=>?_⟩
  have hc:=b3 j ds hj i u hu
  refine hg.cell hc (fun e=>?_)
  obtain⟨es,clock,hb,_⟩:=h.m
  have e':b=mb:=e
  subst e'
  simp[World.cell?,hb] at hc
 refine ⟨hg.cell h.cell (fun e=>h.ne e),by rw[← hsz];exact yX hmap,fun x hx=>?_,fun x hx=>?_,hsz,fun y hy=>?_,fun x hx=>?_,⟨.inl h.bT.1,.inl h.bT.2⟩,fun i hi=>Nat.lt_of_lt_of_le (hi.elim (h.lt i) (hT i)) hg.size,h.ne,fun y hy=>?_,by rw[List.length_cons];omega,by rw[List.map_cons,List.nodup_cons];exact⟨hnin,h.once⟩⟩
 ·by_cases e:x=t.nm
  ·rw[if_pos e,e,atKey_put_same h.m.isMap (by trivial)]
  ·rw[if_neg e,atKey_put_other (hne x e),h.at' x hx]
 ·by_cases e:x=t.nm
  ·rw[e,has_put_same h.m.isMap (by trivial)]
   exact (decide_eq_true (by simp)).symm
  ·rw[has_put_other (hne x e),h.has x hx]
   congr 1
   rw[List.map_cons,List.mem_cons]
   exact propext ⟨fun h2=>.inr h2,fun h2=>h2.elim (fun h3=>absurd h3 e) id⟩
 ·rcases List.mem_cons.1 hy with rfl | hy
  ·exact⟨cs,if_pos rfl,hmv hE (fun b hb=>.inr hb)⟩
  ·obtain⟨ds,e1,e2⟩:=h.val y hy
   refine ⟨ds,?_,hmv e2 (fun b hb=>.inl hb)⟩
   rw[if_neg (fun e=>hnin (by rw[← e];exact List.mem_map.2 ⟨y,hy,rfl⟩))]
   exact e1
 ·rw[List.map_cons,List.mem_cons] at hx
  rw[if_neg (fun e=>hx (.inl e))]
  exact h.none x (fun h2=>hx (.inr h2))
 ·rcases List.mem_cons.1 hy with rfl | hy
  ·exact hm
  ·exact h.ok y hy
def iD (L:List Tb) (t:Tb):Int:=if gI t=true then (if t.nm∈L.map Tb.nm then 13 else if 6≤L.length then 16 else 0) else 4
def gB (L:List Tb) (t:Tb):List Tb:=if iD L t=0 then t::L else L
theorem vH (sb mb:Nat) (E:DataW Value) (f:List UInt8→Value) (L:List Tb) (S T:Nat→Prop) (t:Tb) (cs:List Value) (w:World) (h:dY w sb mb E f L S) (hT:eH w) (hR:BA t) (hE:dK T w t cs) :
  Calls Tryz.prog 11 #[.pointer (some ⟨sb,0,none⟩),.agg cs.toArray] w fun e w'=>e = .returned (.int .i64 (iD L t))∧(∃E' f' S',dY w' sb mb E' f' (gB L t) S'∧∀b,S' b→S b∨(w.heap.size≤b∧b<w'.heap.size))∧aA (fun k=>k=mb) w w':=by
 have hEE:=hE
 obtain⟨aa,nn,cc,rfl,hsl⟩:=hE
 obtain⟨W,hW,hbW,hzW,hcW⟩:=aL w (.cells #[.string (aj t.nm),.slice aa nn cc,.int .i64 t.pr] 42)
 have k0:=aH hcW
 have HMB:=hid (Bt T t _ W (hT.on hbW) hR (hEE.on hbW))
 have HB:=hid hbW
 have HCW:=hid hcW
 have HC:=hid h
 have HE:=hid hEE
 have hke : ∀{V:World},Below w.heap.size w V→∃E' f' S',dY V sb mb E' f' L S'∧∀b,S' b→S b∨(w.heap.size≤b∧b<V.heap.size):=fun hV=>⟨E,f,S,h.new hV,fun b hb=>.inl hb⟩
 cases hm:gI t with
 |
  false =>
  have e1:iD L t=4:=by unfold iD;rw[hm];rfl
  have e2:gB L t=L:=by unfold gB;rw[e1];rfl
  rw[e1,e2]
  rw[hm] at HMB
  have HKE:=hid (fun V hV=>hke (V:=V) hV)
  clear e1 e2 hm hT hR hsl hbW hcW h hEE hke
  go_enter Tryz.func11,Tryz.ntmps11
  go_wp2_with fail
  try rw[hW]
  refine HMB.out.mono ?_
  rintro e w1 ⟨rfl,hb1⟩
  have HB1:=hid (HB.out.trans (hb1.mono HB.out.size))
  clear hb1 HMB
  go_wp2
  go_ret
  exact⟨rfl,HKE.out _ HB1.out,aA.aC HB1.out⟩
 |
  true =>
  rw[hm] at HMB
  obtain⟨hsh,hne⟩:=j3 hm
  have hn:t.nm.length≤maxLen:=by have:=hsh.1;unfold maxLen;omega
  by_cases hin:t.nm∈L.map Tb.nm
  ·have e1:iD L t=13:=by unfold iD;rw[if_pos hm,if_pos hin]
   have e2:gB L t=L:=by unfold gB;rw[e1];rfl
   rw[e1,e2]
   have HKE:=hid (fun V hV=>hke (V:=V) hV)
   have HIN:=hid hin
   clear e1 e2 hm hT hR hsl hbW hcW h hEE hke hin
   go_enter Tryz.func11,Tryz.ntmps11
   go_wp2_with fail
   try rw[hW]
   refine HMB.out.mono ?_
   rintro e w1 ⟨rfl,hb1⟩
   have hB1:=HB.out.trans (hb1.mono HB.out.size)
   have k1:=aH ((hb1.block w.heap.size hzW).trans HCW.out)
   have HH:=hid (uP sb mb E f L S t.nm w1 (HC.out.new hB1) hn)
   rw[decide_eq_true HIN.out] at HH
   have HB1:=hid hB1
   clear hb1 hB1 HMB hW k0
   go_wp2_with fail
   refine HH.out.mono ?_
   rintro e w2 ⟨rfl,hb2⟩
   have HB2:=hid (HB1.out.trans (hb2.mono HB1.out.size))
   clear hb2 HH
   go_wp2
   go_ret
   exact⟨rfl,HKE.out _ HB2.out,aA.aC HB2.out⟩
  ·by_cases h6:6≤L.length
   ·have e1:iD L t=16:=by unfold iD;rw[if_pos hm,if_neg hin,if_pos h6]
    have e2:gB L t=L:=by unfold gB;rw[e1];rfl
    rw[e1,e2]
    have HKE:=hid (fun V hV=>hke (V:=V) hV)
    have HIN:=hid hin
    have h6':(6:Int)≤(L.length:Int):=by omega
    clear e1 e2 hm hT hR hsl hbW hcW h hEE hke hin
    go_enter Tryz.func11,Tryz.ntmps11
    go_wp2_with fail
    try rw[hW]
    refine HMB.out.mono ?_
    rintro e w1 ⟨rfl,hb1⟩
    have hB1:=HB.out.trans (hb1.mono HB.out.size)
    have k1:=aH ((hb1.block w.heap.size hzW).trans HCW.out)
    have HH:=hid (uP sb mb E f L S t.nm w1 (HC.out.new hB1) hn)
    rw[decide_eq_false HIN.out] at HH
    have HB1:=hid hB1
    clear hb1 hB1 HMB hW k0
    go_wp2_with fail
    refine HH.out.mono ?_
    rintro e w2 ⟨rfl,hb2⟩
    have hB2:=HB1.out.trans (hb2.mono HB1.out.size)
    have hC2:=HC.out.new hB2
    have hlen:=hC2.m.len Tryz.underlying81 3
    rw[hC2.size] at hlen
    have hc2:=hC2.cell
    have HB2:=hid hB2
    clear hb2 HH hB2 hC2
    go_wp2
    go_ret
    exact⟨rfl,HKE.out _ HB2.out,aA.aC HB2.out⟩
   ·have e1:iD L t=0:=by unfold iD;rw[if_pos hm,if_neg hin,if_neg h6]
    have e2:gB L t=t::L:=by unfold gB;rw[e1];rfl
    rw[e1,e2]
    have HIN:=hid hin
    have HM:=hid hm
    have HSH:=hid hsh
    have HNE:=hid hne
    have h6' : ¬(6:Int)≤(L.length:Int):=by omega
    clear e1 e2 hm hT hR hsl hbW hcW h hEE hke hin hsh hne
    go_enter Tryz.func11,Tryz.ntmps11
    go_wp2_with fail
    try rw[hW]
    refine HMB.out.mono ?_
    rintro e w1 ⟨rfl,hb1⟩
    have hB1:=HB.out.trans (hb1.mono HB.out.size)
    have k1:=aH ((hb1.block w.heap.size hzW).trans HCW.out)
    have HC1:=hid ((hb1.block w.heap.size hzW).trans HCW.out)
    have hz1:=hb1.size
    have HH:=hid (uP sb mb E f L S t.nm w1 (HC.out.new hB1) hn)
    rw[decide_eq_false HIN.out] at HH
    have HB1:=hid hB1
    clear hb1 hB1 HMB hW k0
    go_wp2_with fail
    refine HH.out.mono ?_
    rintro e w2 ⟨rfl,hb2⟩
    have hz2:=hb2.size
    have hB2:=HB1.out.trans (hb2.mono HB1.out.size)
    have hC2:=HC.out.new hB2
    have hlen:=hC2.m.len Tryz.underlying81 3
    rw[hC2.size] at hlen
    have hc2:=hC2.cell
    have k2:=aH ((hb2.block w.heap.size (by omega)).trans HC1.out)
    have HCL:=hid (lH T t _ w2 (HE.out.on hB2) HSH.out HNE.out)
    have HB2:=hid hB2
    clear hb2 HH hB2 hC2 k1
    go_wp2_with fail
    refine HCL.out.mono ?_
    rintro e w3 ⟨ds,rfl,hds,hb3⟩
    have hz3:=hb3.size
    have hdE:=hds.e
    obtain⟨a3,n3,c3,rfl,_⟩:=hds
    obtain⟨U,hU,hbU,hzU,hcU⟩:=aL w3 (.cells #[.string (aj t.nm),.slice a3 n3 c3,.int .i64 t.pr] 42)
    have hB3:=HB2.out.trans (hb3.mono HB2.out.size)
    have hBU:=hB3.trans (hbU.mono hB3.size)
    have hCU:=HC.out.new hBU
    obtain⟨w5,hup,hm5,hg5⟩:=(hCU.m.drew).update FJ Tryz.underlying81 (by unfold maxLen;omega) (uw hn) (val:=.agg #[.string (aj t.nm),.slice a3 n3 c3,.int .i64 t.pr]) (d:=.held (.agg #[.string (aj t.nm),.slice a3 n3 c3,.int .i64 t.pr])) (ps:=[]) rfl
    have hCD:dY U.drew sb mb E f L S:=hCU.keeps (T:=fun _=>False) (aA.aC (below_drewN (Below.refl _ _) 1)) (fun _ _=>id)
    have hdD:dK (fun b=>w2.heap.size≤b∧b<U.heap.size) U.drew t [.string (aj t.nm),.slice a3 n3 c3,.int .i64 t.pr]:=(hdE.on hbU).to (R:=fun _=>False) (aA.aC (below_drewN (Below.refl _ _) 1)) (fun b hb hl=>⟨id,hb,hl⟩)
    have HFIN:=hid (hCD.added HIN.out (by omega) HM.out hdD hm5 hg5 (fun b hb=>hb.2))
    have HSP:Hid (aA (fun k=>k=mb) w w5):=hid ((aA.aC (S:=fun k=>k=mb) hBU.drew).andThen (aA.dZ (S:=fun k=>k=mb) hg5 (fun k e=>by injection e with e;exact e.symm)) (fun i hi=>.inl hi))
    have hcD:=hCD.cell
    have kD:=aH (w:=U.drew) hcU
    have HLE:Hid (U.heap.size≤w5.heap.size):=hid hg5.size
    have HW2:=hid (HB2.out.size)
    clear hb3 hdE hB3 hBU hCU hm5 hg5 hCD hdD HCL hlen hc2 k2
    go_wp2_with fail
    try rw[hU]
    go_region
    all_goals
     go_wp2
     go_ret
     exact⟨rfl,⟨_,_,_,HFIN.out,fun b hb=>hb.elim .inl (fun h2=>.inr ⟨by have:=HW2.out;omega,by have:=HLE.out;omega⟩)⟩,HSP.out⟩
end Go.Proofs.YtfeglkleoijlaaaGreatDoor
namespace Go.Proofs.YtfeglkleoijlaaaGreatDoor
open Go.RowKit Go.Shelf
set_option linter.unusedSimpArgs false
set_option linter.unusedVariables false
set_option maxRecDepth 20000
set_option maxHeartbeats 8000000
def oo (t:Tb):Prop:=t.nm.length≤16∧t.cols.length≤8∧t.cols≠[]∧∀c∈t.cols,c.nm.length≤16∧(c.k=1∨c.k=2)
theorem Dz {t:Tb} (h:gI t=true):oo t:=by
 have hm:=qO h
 have hk:=oz (s:=bU t) (by rw[hm])
 obtain⟨h1,h2,h3⟩:=gQ hk.1 hk.2.1
 refine ⟨fu h3,(bL h1).2,fun e=>by have:=(bL h1).1;dsimp only[bU] at this;rw[e] at this;simp at this,fun c hc=>?_⟩
 have:=aU h1 c hc
 unfold eY at this
 simp only[Bool.and_eq_true,decide_eq_true_eq] at this
 exact⟨fu this.1,this.2⟩
def Ho (l:List Co) (i:Nat):Int:=(l[i]?.map Co.k).getD 0
def wD (tb nm:List UInt8):List Tb→Int→Int × Int × Nat→Int × Int × Nat
 | [],_,a=>a
 |
  t::l,ahead,a =>
  let a':=if bO t.cols nm<t.cols.length∧(tb=[]∨t.nm=tb) then (ahead+(bO t.cols nm:Nat),Ho t.cols (bO t.cols nm),a.2.2+1) else a
  if tb≠[]∧t.nm=tb then a' else wD tb nm l (ahead+(t.cols.length:Nat)) a'
def yA (L:List Tb) (tb nm:List UInt8):Ex × Int × Int :=
 let r:=wD tb nm L 0 (0,0,0)
 if r.2.2=0 then (mW,0,12) else if 1<r.2.2 then (mW,0,13) else (.mk 2 0 [] [] ⟨1,r.1,[]⟩ [],r.2.1,0)
def wY (k op:Int) (ks:List Int):Bool :=
 if k=6 then true
 else if k=3∧3≤op∧op≤8 then decide (ks[0]?=ks[1]?)||ks.any fun x=>decide (x=0)
 else ks.all fun x=>decide (x=1)||decide (x=0)
def aR (L:List Tb):Ex→Ex × Int × Int
 |
  .mk k op tb nm v xs =>
  if aX ((xs.attach.map fun x=>aR L x.1).map fun r=>r.2.2)≠0 then (mW,0,aX ((xs.attach.map fun x=>aR L x.1).map fun r=>r.2.2))
  else if k=1 then (.mk 1 0 [] [] v [],v.k,0)
  else if k=2 then yA L tb nm
  else if wY k op ((xs.attach.map fun x=>aR L x.1).map fun r=>r.2.1)=true then (.mk k op [] [] zV ((xs.attach.map fun x=>aR L x.1).map fun r=>r.1),1,0)
  else (mW,0,9)
termination_by e=>SizeOf.sizeOf e
decreasing_by all_goals (simp_wf;have:=List.sizeOf_lt_of_mem x.2;omega)
theorem map_attach {α β:Type} (xs:List α) (f:α→β):(xs.attach.map fun x=>f x.1)=xs.map f:=by
 simp
theorem mQ (L:List Tb) (k op:Int) (tb nm:List UInt8) (v:Vl) (xs:List Ex):aR L (.mk k op tb nm v xs) =
  if aX (xs.map fun x=>(aR L x).2.2)≠0 then (mW,0,aX (xs.map fun x=>(aR L x).2.2))
  else if k=1 then (.mk 1 0 [] [] v [],v.k,0)
  else if k=2 then yA L tb nm
  else if wY k op (xs.map fun x=>(aR L x).2.1)=true then (.mk k op [] [] zV (xs.map fun x=>(aR L x).1),1,0)
  else (mW,0,9):=by
 have e:=map_attach xs (aR L)
 rw[aR,e,List.map_map,List.map_map,List.map_map]
 rfl
def eX (L:List Tb) (e:Ex):Ex × Int × Int:=if aJ e=true then aR L e else (mW,0,4)
def zP (L:List Tb) (e:Ex):Int:=if (aR L e).2.2=0∧(aR L e).2.1=2 then 9 else (aR L e).2.2
def iB (L:List Tb) (es:List Ex):Int:=aX (es.map (zP L))
def oJ (t:Tb) (r:List Vl):Bool:=(r.zip t.cols).all fun x=>decide (x.1.k=0)||decide (x.1.k=x.2.k)
def CO (t:Tb) (r:List Vl):Int:=if r.length≠t.cols.length then 15 else if oJ t r=true then 0 else 9
def lY (t:Tb) (rows:List (List Vl)):Int:=aX (rows.map (CO t))
def Bg (t:Tb) (ahead:List Se) (s:Se):Int :=
 if t.cols.length≤bO t.cols s.nm then 12
 else if (ahead.any fun x=>decide (x.nm=s.nm))=true then 13
 else if (aR [t] s.e).2.2=0∧(aR [t] s.e).2.1≠0∧(aR [t] s.e).2.1≠Ho t.cols (bO t.cols s.nm) then 9
 else (aR [t] s.e).2.2
def lG (t:Tb):List Se→List Se→List Int
 | _,[]=>[]
 | ahead,s::l=>Bg t ahead s::lG t (ahead++[s]) l
def bZ (s:St):Bool:=decide (0<s.gr.length)||s.items.any fun i=>decide (3≤i.k∧i.k≤7)
def valOf:Ex→Vl
 | .mk _ _ _ _ v _=>v
def ED (L:List Tb) (gr:List Ex) (x:Ex):Bool:=decide (gr.length=1)&&(decide (jH x=2)&&eqv (valOf x) (valOf (aR L (gr.headD mW)).1))
def zB (L:List Tb) (s:St) (i:It) (e:Ex):Int :=
 if (aR L e).2.2≠0 then (aR L e).2.2
 else if i.k=5∧(aR L e).2.1=2 then 9
 else if i.k=2∧bZ s=true∧ED L s.gr (aR L e).1=false then 4
 else 0
def wW (L:List Tb) (s:St) (i:It):Int:=if i.k=1∧bZ s=true then 4 else aX (i.xs.map (zB L s i))
def oZ (L:List Tb) (s:St) (e:Ex):Int:=if (aR L e).2.2=0∧bZ s=true∧ED L s.gr (aR L e).1=false then 4 else (aR L e).2.2
def iQ (L:List Tb):Nat:=(L.map fun t=>t.cols.length).sum
def fI (L:List Tb) (items:List It):Nat:=(items.map fun i=>if i.k=1 then iQ L else 1).sum
def Gn (L:List Tb) (s:St):Int :=
 if iB L (s.on++s.wh)≠0 then iB L (s.on++s.wh)
 else if aX (s.gr.map fun e=>(aR L e).2.2)≠0 then aX (s.gr.map fun e=>(aR L e).2.2)
 else if aX (s.items.map (wW L s))≠0 then aX (s.items.map (wW L s))
 else if aX (s.od.map (oZ L s))≠0 then aX (s.od.map (oZ L s))
 else if bZ s=false∧8<fI L s.items then 4 else 0
def iy (C:List Tb) (t:Tb) (jn:List UInt8):List Tb × Int :=
 if jn=[] then ([t],0) else if jn ∉ C.map Tb.nm then ([],11) else if (eu C jn).nm=t.nm then ([],13) else ([t,eu C jn],0)
def CJ (t:Tb) (s:St):Int:=if aX (lG t [] s.sets)≠0 then aX (lG t [] s.sets) else iB [t] s.wh
def j5 (C:List Tb) (t:Tb) (s:St):Int:=if (iy C t s.jn).2≠0 then (iy C t s.jn).2 else Gn (iy C t s.jn).1 s
def lI (C:List Tb) (s:St):Int :=
 if aZ s=true then
  (if s.k=1 then (if (bP s).2=0∧s.tb∈C.map Tb.nm then 13 else (bP s).2)
  else if s.tb ∉ C.map Tb.nm then 11
  else if s.k=3 then lY (eu C s.tb) s.rows
  else if s.k=4 then CJ (eu C s.tb) s
  else if s.k=5 then iB [eu C s.tb] s.wh
  else if s.k=6 then j5 C (eu C s.tb) s
  else 0)
 else 4
theorem wC {C D:List Tb} {s:St} (hk:s.k≠1) (h1:s.tb∈C.map Tb.nm↔s.tb∈D.map Tb.nm) (h2:eu C s.tb=eu D s.tb) (h3:s.jn∈C.map Tb.nm↔s.jn∈D.map Tb.nm) (h4:eu C s.jn=eu D s.jn):lI C s=lI D s:=by
 unfold lI j5 iy
 simp only[if_neg hk,h1,h2,h3,h4]
end Go.Proofs.YtfeglkleoijlaaaGreatDoor
