/- Packed for the hand-in: CCatB -/
import Derived.Test.YtaaggohjmhifbaaGreatDoorP36
namespace Go.Proofs.YtaaggohjmhifbaaGreatDoor
open Go.RowKit Go.Shelf Go.Lib Go.Maps
set_option linter.unusedSimpArgs false
set_option linter.unusedVariables false
set_option maxRecDepth 20000
set_option maxHeartbeats 8000000
def dropT (L:List Tb) (nm:List UInt8):List Tb:=L.filter fun t=>decide (t.nm≠nm)
theorem dropT_names (L:List Tb) (nm:List UInt8) (x:List UInt8):x∈(dropT L nm).map Tb.nm↔x∈L.map Tb.nm∧x≠nm:=by
 unfold dropT
 simp only[List.mem_map,List.mem_filter,decide_eq_true_eq]
 constructor
 ·rintro⟨t,⟨h1,h2⟩,rfl⟩
  exact⟨⟨t,h1,rfl⟩,h2⟩
 ·rintro⟨⟨t,h1,rfl⟩,h2⟩
  exact⟨t,⟨h1,h2⟩,rfl⟩
theorem dropT_len (nm:List UInt8):∀L:List Tb,(L.map Tb.nm).Nodup→nm∈L.map Tb.nm→(dropT L nm).length+1=L.length
 | [],_,h=>by cases h
 |
  t::L,hn,h=>by
  rw[List.map_cons,List.nodup_cons] at hn
  by_cases e:t.nm=nm
  ·have hno:dropT L nm=L:=by
    unfold dropT
    rw[List.filter_eq_self]
    intro x hx
    exact decide_eq_true (fun e2=>hn.1 (by rw[e,← e2];exact List.mem_map.2 ⟨x,hx,rfl⟩))
   have:dropT (t::L) nm=dropT L nm:=by
    unfold dropT
    rw[List.filter_cons_of_neg (by simp[e])]
   rw[this,hno]
   rfl
  ·have:dropT (t::L) nm=t::dropT L nm:=by
    unfold dropT
    rw[List.filter_cons_of_pos (by simp[e])]
   rw[this,List.length_cons,List.length_cons,dropT_len nm L hn.2 (by
    rw[List.map_cons,List.mem_cons] at h
    rcases h with h | h
    ·exact absurd h.symm e
    ·exact h)]
theorem CatAt.dropped {w w':World} {sb mb:Nat} {E:DataW Value} {f:List UInt8→Value} {L:List Tb} {S:Nat→Prop} {nm:List UInt8} (h:CatAt w sb mb E f L S) (hin:nm∈L.map Tb.nm) (hn:nm.length≤maxLen) {n:Nat} (hm:w'.ownsMap Tryz.prog 9 rawT mb n (E.del (.string nm))) (ht:w.mapTurned w' mb) :
  CatAt w' sb mb (E.del (.string nm)) (fun x=>if x=nm then zTV else f x) (dropT L nm) S:=by
 have hg:Spares (fun k=>k=mb) w w':=Spares.of_grown ht.grown (fun k e=>by injection e with e;exact e.symm)
 have hsz:Maps.size (E.del (.string nm))=(dropT L nm).length:=by
  have h1:=size_del (k:=.string nm) (h.m.tidy lawS)
  have h2:=dropT_len nm L h.once hin
  rw[h.has nm hn,decide_eq_true hin,if_pos rfl,h.size] at h1
  omega
 have hne : ∀x:List UInt8,x≠nm→(Lit.string x)≠(Lit.string nm):=fun x hx e=>hx (by injection e)
 refine ⟨hg.cell h.cell (fun e=>h.ne e),by rw[← hsz];exact mapT_tight hm,fun x hx=>?_,fun x hx=>?_,hsz,fun t ht2=>?_,fun x hx=>?_,h.inS,fun i hi=>Nat.lt_of_lt_of_le (h.lt i hi) hg.size,h.ne,fun t ht2=>h.ok t (List.mem_filter.1 ht2).1,by have:=dropT_len nm L h.once hin;have:=h.six;omega,?_⟩
 ·by_cases e:x=nm
  ·rw[if_pos e,e,atKey_del_same]
  ·rw[if_neg e,atKey_del_other (hne x e),h.at' x hx]
 ·by_cases e:x=nm
  ·rw[e,has_del_same]
   exact (decide_eq_false (fun h2=>((dropT_names L nm nm).1 h2).2 rfl)).symm
  ·rw[has_del_other (hne x e),h.has x hx]
   congr 1
   exact propext ⟨fun h2=>(dropT_names L nm x).2 ⟨h2,e⟩,fun h2=>((dropT_names L nm x).1 h2).1⟩
 ·have h3:=List.mem_filter.1 ht2
  obtain⟨cs,e1,e2⟩:=h.val t h3.1
  refine ⟨cs,by rw[if_neg (of_decide_eq_true h3.2)];exact e1,?_⟩
  obtain⟨aa,nn,cc,e3,e4⟩:=e2
  refine ⟨aa,nn,cc,e3,?_⟩
  obtain⟨a,c,css,v1,v2,v3,v4,v5⟩:=e4
  refine ⟨a,c,css,v1,v2,v3,v4,fun hne2=>?_⟩
  obtain⟨b,off,b1,b2,b3⟩:=v5 hne2
  refine ⟨b,off,b1,b2,fun j ds hj i u hu=>?_⟩
  have hc:=b3 j ds hj i u hu
  refine hg.cell hc (fun e=>?_)
  obtain⟨es,clock,hb,_⟩:=h.m
  have e':b=mb:=e
  subst e'
  simp[World.cell?,hb] at hc
 ·by_cases e:x=nm
  ·exact if_pos e
  ·rw[if_neg e]
   exact h.none x (fun h2=>hx ((dropT_names L nm x).2 ⟨h2,e⟩))
 ·unfold dropT
  exact List.Nodup.sublist (List.Sublist.map _ List.filter_sublist) h.once
theorem cdrop_any (sb mb:Nat) (E:DataW Value) (f:List UInt8→Value) (L:List Tb) (S:Nat→Prop) (nm:List UInt8) (w:World) (h:CatAt w sb mb E f L S) (hn:nm.length≤maxLen) :
  Calls Tryz.prog 23 #[.pointer (some ⟨sb,0,none⟩),.string (str8 nm)] w fun e w'=>e = .returned (.int .i64 (if nm∈L.map Tb.nm then 0 else 11))∧(∃E' f',CatAt w' sb mb E' f' (dropT L nm) S)∧Spares (fun k=>k=mb) w w':=by
 have HH:=hid (has_any sb mb E f L S nm w h hn)
 have HC:=hid h
 by_cases hin:nm∈L.map Tb.nm
 ·rw[decide_eq_true hin] at HH
  rw[if_pos hin]
  have HIN:=hid hin
  clear h hin
  go_enter Tryz.func23,Tryz.ntmps23
  go_wp2_with fail
  refine HH.out.mono ?_
  rintro e w1 ⟨rfl,hb1⟩
  have h1:=HC.out.new hb1
  have hc1:=h1.cell
  have HC1:=hid h1
  have HB1:=hid hb1
  clear h1 hb1 HH
  go_wp2_with (first | (at_delete;refine wpList_delete_own _ rfl (.tmp 12) (.tmp 13) 75 9 rfl 31 lawS Tryz.underlying75 rawT mb _ _ rfl HC1.out.m _ _ rfl (key_str hn) ?_;intro w2 hm2 ht2))
  have hd:=HC1.out.dropped HIN.out hn hm2 ht2
  go_ret
  refine ⟨rfl,⟨_,_,hd⟩,?_⟩
  exact (Spares.of_new (S:=fun k=>k=mb) HB1.out).andThen (Spares.of_grown (S:=fun k=>k=mb) ht2.grown (fun k e=>by injection e with e;exact e.symm)) (fun i hi=>.inl hi)
 ·rw[decide_eq_false hin] at HH
  rw[if_neg hin]
  have hd:dropT L nm=L:=by
   unfold dropT
   rw[List.filter_eq_self]
   intro x hx
   exact decide_eq_true (fun e2=>hin (by rw[← e2];exact List.mem_map.2 ⟨x,hx,rfl⟩))
  rw[hd]
  clear h hin hd
  go_enter Tryz.func23,Tryz.ntmps23
  go_wp2_with fail
  refine HH.out.mono ?_
  rintro e w1 ⟨rfl,hb1⟩
  have HB1:=hid hb1
  clear hb1 HH
  go_wp2
  go_ret
  exact⟨rfl,⟨_,_,HC.out.new HB1.out⟩,Spares.of_new HB1.out⟩
theorem cloneZ_any (w:World):Calls Tryz.prog 31 #[zTV] w fun e w'=>e = .returned zTV∧Below w.heap.size w w':=by
 obtain⟨W,hW,hbW,hzW,hcA,hcB⟩:=two w (.cells #[.string ⟨#[]⟩,.slice none 0 0,.int .i64 0] 31) (.cells #[.string ⟨#[]⟩,.slice none 0 0,.int .i64 0] 31)
 have k0:=cells3f hcA
 have HSC:=hid (fun V=>strClone_any ⟨#[]⟩ V (by decide))
 have HCA:=hid hcA
 have HCB:=hid hcB
 have HBW:=hid hbW
 clear hcA hcB hbW
 go_enter Tryz.func31,Tryz.ntmps31
 go_wp2_with fail
 try rw[hW]
 refine (HSC.out W).mono ?_
 rintro e w1 ⟨rfl,hb1⟩
 have hB1:=HBW.out.trans (hb1.mono HBW.out.size)
 have hs1:=hb1.size
 have hA1:=(hb1.block w.heap.size (by omega)).trans HCA.out
 have hZ1:=(hb1.block (w.heap.size+1) (by omega)).trans HCB.out
 have k1:=cells3f hA1
 have kz:=cells3f hZ1
 have HB1:=hid hB1
 have HS0:=hid (setCell_same k1.1)
 have HS1:=hid (setCell_same k1.2.1)
 have HZ0:=hid (setCell_same kz.1)
 have HZ1:=hid (setCell_same kz.2.1)
 have HZ2:=hid (setCell_same kz.2.2.1)
 have HC1:=hid (AnyE.slices_Clone_nil laysCl 0 0 w1)
 clear hb1 hB1 hA1 hZ1 hW k0
 go_wp2_with fail
 try rw[HS0.out]
 refine HC1.out.mono ?_
 rintro e w2 ⟨rfl,rfl⟩
 go_wp2_with fail
 try rw[HS1.out]
 go_rounds 1
 try rw[HZ0.out,HZ1.out,HZ2.out]
 exact bodyPost_ret (v:=zTV) (by simp[results,Tryz.results31,go_sem,kz]) rfl ⟨rfl,HB1.out⟩
def findT (L:List Tb) (nm:List UInt8):Tb:=(L.find? fun t=>decide (t.nm=nm)).getD zTb
theorem findT_in {L:List Tb} (hn:(L.map Tb.nm).Nodup) {t:Tb} (ht:t∈L):findT L t.nm=t:=by
 unfold findT
 induction L with
 | nil=>cases ht
 |
  cons x L ih =>
  rw[List.map_cons,List.nodup_cons] at hn
  rcases List.mem_cons.1 ht with rfl | h
  ·rw[List.find?_cons_of_pos (by simp)]
   rfl
  ·rw[List.find?_cons_of_neg (by
    simp only[decide_eq_true_eq]
    intro e
    exact hn.1 (by rw[e];exact List.mem_map.2 ⟨t,h,rfl⟩))]
   exact ih hn.2 h
theorem findT_out {L:List Tb} {nm:List UInt8} (h:nm ∉ L.map Tb.nm):findT L nm=zTb:=by
 unfold findT
 rw[List.find?_eq_none.2 (fun x hx=>by
  simp only[decide_eq_true_eq]
  intro e
  exact h (by rw[← e];exact List.mem_map.2 ⟨x,hx,rfl⟩))]
 rfl
theorem cfind_any (sb mb:Nat) (E:DataW Value) (f:List UInt8→Value) (L:List Tb) (S:Nat→Prop) (nm:List UInt8) (w:World) (h:CatAt w sb mb E f L S) (hn:nm.length≤maxLen) :
  Calls Tryz.prog 25 #[.pointer (some ⟨sb,0,none⟩),.string (str8 nm)] w fun e w'=>∃ds:List Value,e = .returned (.tuple #[.agg ds.toArray,.bool (decide (nm∈L.map Tb.nm))])∧TbO w.heap.size w' (findT L nm) ds∧Below w.heap.size w w':=by
 obtain⟨W,hW,hbW,hzW,hcW⟩:=box8 w (.cells #[.string ⟨#[]⟩,.slice none 0 0,.int .i64 0] 31)
 have hC:=h.new hbW
 obtain⟨v,ps,hlk,hv⟩:=hC.m.look_ok lawS Tryz.underlying75 (Tryz.zeroTab W) (zd:=.held zTV) (zp:=[]) rfl (key_str hn)
 have hv':=rawT_inv hv
 simp only[Prod.mk.injEq] at hv'
 rw[hC.at' nm hn] at hv'
 injection hv'.1 with hvf
 subst hvf
 rw[hC.has nm hn] at hlk
 have hc:=hC.cell
 have HB:=hid hbW
 have HCW:=hid hcW
 by_cases hm:nm∈L.map Tb.nm
 ·rw[decide_eq_true hm] at hlk ⊢
  obtain⟨t,ht,rfl⟩:=List.mem_map.1 hm
  obtain⟨cs,h1,h2⟩:=hC.val t ht
  rw[h1] at hlk
  rw[findT_in h.once ht]
  have hms:=may_short (h.ok t ht)
  have HE:=hid h2
  obtain⟨aa,nn,cc,rfl,_⟩:=id h2
  obtain⟨U,hU,hbU,hzU,hcU⟩:=box8 W (.cells #[.string (str8 t.nm),.slice aa nn cc,.int .i64 t.pr] 31)
  have kU:=cells3f hcU
  have HCL:=hid (cloneC_any S t _ U (h2.on hbU) hms.1 hms.2)
  have hBU:=hbW.trans (hbU.mono hbW.size)
  have HBU:=hid hBU
  have HZU:=hid ((hbU.block w.heap.size hzW).trans hcW)
  clear h hC h1 h2 hm ht hv hv' hbW hcW hbU hcU hBU hms hn
  go_enter Tryz.func25,Tryz.ntmps25
  go_wp2_with fail
  try rw[hW]
  try rw[hU]
  refine HCL.out.mono ?_
  rintro e w3 ⟨ds,rfl,hds,hb3⟩
  have hs3:=hb3.size
  have hdo:=hds
  obtain⟨a3,n3,c3,rfl,hown⟩:=hds
  have k3:=cells3f ((hb3.block w.heap.size (by omega)).trans HZU.out)
  have HB3:=hid (HBU.out.trans (hb3.mono HBU.out.size))
  have HOW:=hid hown
  clear hb3 hdo hown HCL hW hU kU
  go_wp2
  have hSp:Spares (fun k=>k=w.heap.size) w3 (((w3.setCell ⟨w.heap.size,0,none⟩ (.string (str8 t.nm))).setCell ⟨w.heap.size,1,none⟩ (.slice a3 n3 c3)).setCell ⟨w.heap.size,2,none⟩ (.int .i64 t.pr)):=(((Spares.refl (fun k=>k=w.heap.size) w3).own _ _).own _ _).own _ _
  have hB:Below w.heap.size w (((w3.setCell ⟨w.heap.size,0,none⟩ (.string (str8 t.nm))).setCell ⟨w.heap.size,1,none⟩ (.slice a3 n3 c3)).setCell ⟨w.heap.size,2,none⟩ (.int .i64 t.pr)):=HB3.out.trans (hSp.below (fun i hi=>by omega) HB3.out.size)
  refine bodyPost_ret (v:=.tuple #[.agg #[.string (str8 t.nm),.slice a3 n3 c3,.int .i64 t.pr],.bool true]) (by simp[results,Tryz.results25,go_sem,k3]) rfl ⟨_,rfl,⟨_,_,_,rfl,?_⟩,hB⟩
  exact owns_lower (hSp.row HOW.out (fun g hg=>by have:=(HOW.out.lt g hg).1;omega)) (fun g hg=>by have:=(HOW.out.lt g hg).1;have:=HB.out.size;omega)
 ·rw[decide_eq_false hm] at hlk ⊢
  rw[hC.none nm hm] at hlk
  rw[findT_out hm]
  obtain⟨U,hU,hbU,hzU,hcU⟩:=box8 W (.cells #[.string ⟨#[]⟩,.slice none 0 0,.int .i64 0] 31)
  have kU:=cells3f hcU
  have HCL:=hid (cloneZ_any U)
  have hBU:=hbW.trans (hbU.mono hbW.size)
  have HBU:=hid hBU
  have HZU:=hid ((hbU.block w.heap.size hzW).trans hcW)
  have HT0:=hid (setCell_same kU.1)
  have HT1:=hid (setCell_same kU.2.1)
  have HT2:=hid (setCell_same kU.2.2.1)
  clear h hC hm hv hv' hbW hcW hbU hcU hBU hn
  go_enter Tryz.func25,Tryz.ntmps25
  go_wp2_with fail
  try rw[hW]
  try rw[hU]
  try rw[HT0.out,HT1.out,HT2.out]
  refine HCL.out.mono ?_
  rintro e w3 ⟨rfl,hb3⟩
  have hs3:=hb3.size
  have k3:=cells3f ((hb3.block w.heap.size (by omega)).trans HZU.out)
  have HS0:=hid (setCell_same k3.1)
  have HS1:=hid (setCell_same k3.2.1)
  have HS2:=hid (setCell_same k3.2.2.1)
  have HB3:=hid (HBU.out.trans (hb3.mono HBU.out.size))
  clear hb3 HCL hW hU kU
  go_wp2
  rw[HS0.out,HS1.out,HS2.out]
  exact bodyPost_ret (v:=.tuple #[zTV,.bool false]) (by simp[results,Tryz.results25,go_sem,k3]) rfl ⟨_,rfl,zTb_own _ _ HB3.out.size,HB3.out⟩
theorem CatAt.added {w w':World} {sb mb:Nat} {E:DataW Value} {f:List UInt8→Value} {L:List Tb} {S T:Nat→Prop} {t:Tb} {cs:List Value} (h:CatAt w sb mb E f L S) (hnin:t.nm ∉ L.map Tb.nm) (h6:L.length<6) (hm:mayB t=true) (hE:TbE T w t cs) {n:Nat} (hmap:w'.ownsMap Tryz.prog 9 rawT mb n (E.put (.string t.nm) (.held (.agg cs.toArray)))) (ht:w.grownBy w' (some mb)) (hT : ∀b,T b→b<w.heap.size) :
  CatAt w' sb mb (E.put (.string t.nm) (.held (.agg cs.toArray))) (fun x=>if x=t.nm then .agg cs.toArray else f x) (t::L) (fun b=>S b∨T b):=by
 have hn:t.nm.length≤maxLen:=by have:=(may_short hm).1.1;unfold maxLen;omega
 have hg:Spares (fun k=>k=mb) w w':=Spares.of_grown ht (fun k e=>by injection e with e;exact e.symm)
 have hsz:Maps.size (E.put (.string t.nm) (.held (.agg cs.toArray)))=(t::L).length:=by
  rw[size_put (h.m.tidy lawS),h.has t.nm hn,decide_eq_false hnin,if_neg Bool.false_ne_true,h.size]
  rfl
 have hne : ∀x:List UInt8,x≠t.nm→(Lit.string x)≠(Lit.string t.nm):=fun x hx e=>hx (by injection e)
 have hmv : ∀{R:Nat→Prop} {x:Tb} {ds:List Value},TbE R w x ds→(∀b,R b→S b∨T b)→TbE (fun b=>S b∨T b) w' x ds:=fun {R x ds} e2 hR=>by
  obtain⟨aa,nn,cc,e3,e4⟩:=e2
  refine ⟨aa,nn,cc,e3,?_⟩
  obtain⟨a,c,css,v1,v2,v3,v4,v5⟩:=e4
  refine ⟨a,c,css,v1,v2,v3,v4.to (fun _ _ e=>e),fun hne2=>?_⟩
  obtain⟨b,off,b1,b2,b3⟩:=v5 hne2
  refine ⟨b,off,b1,hR b b2,fun j ds hj i u hu=>?_⟩
  have hc:=b3 j ds hj i u hu
  refine hg.cell hc (fun e=>?_)
  obtain⟨es,clock,hb,_⟩:=h.m
  have e':b=mb:=e
  subst e'
  simp[World.cell?,hb] at hc
 refine ⟨hg.cell h.cell (fun e=>h.ne e),by rw[← hsz];exact mapT_tight hmap,fun x hx=>?_,fun x hx=>?_,hsz,fun y hy=>?_,fun x hx=>?_,⟨.inl h.inS.1,.inl h.inS.2⟩,fun i hi=>Nat.lt_of_lt_of_le (hi.elim (h.lt i) (hT i)) hg.size,h.ne,fun y hy=>?_,by rw[List.length_cons];omega,by rw[List.map_cons,List.nodup_cons];exact⟨hnin,h.once⟩⟩
 ·by_cases e:x=t.nm
  ·rw[if_pos e,e,atKey_put_same h.m.isMap (by trivial)]
  ·rw[if_neg e,atKey_put_other (hne x e),h.at' x hx]
 ·by_cases e:x=t.nm
  ·rw[e,has_put_same h.m.isMap (by trivial)]
   exact (decide_eq_true (by simp)).symm
  ·rw[has_put_other (hne x e),h.has x hx]
   congr 1
   rw[List.map_cons,List.mem_cons]
   exact propext ⟨fun h2=>.inr h2,fun h2=>h2.elim (fun h3=>absurd h3 e) id⟩
 ·rcases List.mem_cons.1 hy with rfl | hy
  ·exact⟨cs,if_pos rfl,hmv hE (fun b hb=>.inr hb)⟩
  ·obtain⟨ds,e1,e2⟩:=h.val y hy
   refine ⟨ds,?_,hmv e2 (fun b hb=>.inl hb)⟩
   rw[if_neg (fun e=>hnin (by rw[← e];exact List.mem_map.2 ⟨y,hy,rfl⟩))]
   exact e1
 ·rw[List.map_cons,List.mem_cons] at hx
  rw[if_neg (fun e=>hx (.inl e))]
  exact h.none x (fun h2=>hx (.inr h2))
 ·rcases List.mem_cons.1 hy with rfl | hy
  ·exact hm
  ·exact h.ok y hy
def addE (L:List Tb) (t:Tb):Int:=if mayB t=true then (if t.nm∈L.map Tb.nm then 13 else if 6≤L.length then 16 else 0) else 4
def addL (L:List Tb) (t:Tb):List Tb:=if addE L t=0 then t::L else L
theorem cadd_any (sb mb:Nat) (E:DataW Value) (f:List UInt8→Value) (L:List Tb) (S T:Nat→Prop) (t:Tb) (cs:List Value) (w:World) (h:CatAt w sb mb E f L S) (hT:TabW w) (hR:RgT t) (hE:TbE T w t cs) :
  Calls Tryz.prog 21 #[.pointer (some ⟨sb,0,none⟩),.agg cs.toArray] w fun e w'=>e = .returned (.int .i64 (addE L t))∧(∃E' f' S',CatAt w' sb mb E' f' (addL L t) S'∧∀b,S' b→S b∨(w.heap.size≤b∧b<w'.heap.size))∧Spares (fun k=>k=mb) w w':=by
 have hEE:=hE
 obtain⟨aa,nn,cc,rfl,hsl⟩:=hE
 obtain⟨W,hW,hbW,hzW,hcW⟩:=box8 w (.cells #[.string (str8 t.nm),.slice aa nn cc,.int .i64 t.pr] 31)
 have k0:=cells3f hcW
 have HMB:=hid (mayBe_any T t _ W (hT.on hbW) hR (hEE.on hbW))
 have HB:=hid hbW
 have HCW:=hid hcW
 have HC:=hid h
 have HE:=hid hEE
 have hke : ∀{V:World},Below w.heap.size w V→∃E' f' S',CatAt V sb mb E' f' L S'∧∀b,S' b→S b∨(w.heap.size≤b∧b<V.heap.size):=fun hV=>⟨E,f,S,h.new hV,fun b hb=>.inl hb⟩
 cases hm:mayB t with
 |
  false =>
  have e1:addE L t=4:=by unfold addE;rw[hm];rfl
  have e2:addL L t=L:=by unfold addL;rw[e1];rfl
  rw[e1,e2]
  rw[hm] at HMB
  have HKE:=hid (fun V hV=>hke (V:=V) hV)
  clear e1 e2 hm hT hR hsl hbW hcW h hEE hke
  go_enter Tryz.func21,Tryz.ntmps21
  go_wp2_with fail
  try rw[hW]
  refine HMB.out.mono ?_
  rintro e w1 ⟨rfl,hb1⟩
  have HB1:=hid (HB.out.trans (hb1.mono HB.out.size))
  clear hb1 HMB
  go_wp2
  go_ret
  exact⟨rfl,HKE.out _ HB1.out,Spares.of_new HB1.out⟩
 |
  true =>
  rw[hm] at HMB
  obtain⟨hsh,hne⟩:=may_short hm
  have hn:t.nm.length≤maxLen:=by have:=hsh.1;unfold maxLen;omega
  by_cases hin:t.nm∈L.map Tb.nm
  ·have e1:addE L t=13:=by unfold addE;rw[if_pos hm,if_pos hin]
   have e2:addL L t=L:=by unfold addL;rw[e1];rfl
   rw[e1,e2]
   have HKE:=hid (fun V hV=>hke (V:=V) hV)
   have HIN:=hid hin
   clear e1 e2 hm hT hR hsl hbW hcW h hEE hke hin
   go_enter Tryz.func21,Tryz.ntmps21
   go_wp2_with fail
   try rw[hW]
   refine HMB.out.mono ?_
   rintro e w1 ⟨rfl,hb1⟩
   have hB1:=HB.out.trans (hb1.mono HB.out.size)
   have k1:=cells3f ((hb1.block w.heap.size hzW).trans HCW.out)
   have HH:=hid (has_any sb mb E f L S t.nm w1 (HC.out.new hB1) hn)
   rw[decide_eq_true HIN.out] at HH
   have HB1:=hid hB1
   clear hb1 hB1 HMB hW k0
   go_wp2_with fail
   refine HH.out.mono ?_
   rintro e w2 ⟨rfl,hb2⟩
   have HB2:=hid (HB1.out.trans (hb2.mono HB1.out.size))
   clear hb2 HH
   go_wp2
   go_ret
   exact⟨rfl,HKE.out _ HB2.out,Spares.of_new HB2.out⟩
  ·by_cases h6:6≤L.length
   ·have e1:addE L t=16:=by unfold addE;rw[if_pos hm,if_neg hin,if_pos h6]
    have e2:addL L t=L:=by unfold addL;rw[e1];rfl
    rw[e1,e2]
    have HKE:=hid (fun V hV=>hke (V:=V) hV)
    have HIN:=hid hin
    have h6':(6:Int)≤(L.length:Int):=by omega
    clear e1 e2 hm hT hR hsl hbW hcW h hEE hke hin
    go_enter Tryz.func21,Tryz.ntmps21
    go_wp2_with fail
    try rw[hW]
    refine HMB.out.mono ?_
    rintro e w1 ⟨rfl,hb1⟩
    have hB1:=HB.out.trans (hb1.mono HB.out.size)
    have k1:=cells3f ((hb1.block w.heap.size hzW).trans HCW.out)
    have HH:=hid (has_any sb mb E f L S t.nm w1 (HC.out.new hB1) hn)
    rw[decide_eq_false HIN.out] at HH
    have HB1:=hid hB1
    clear hb1 hB1 HMB hW k0
    go_wp2_with fail
    refine HH.out.mono ?_
    rintro e w2 ⟨rfl,hb2⟩
    have hB2:=HB1.out.trans (hb2.mono HB1.out.size)
    have hC2:=HC.out.new hB2
    have hlen:=hC2.m.len Tryz.underlying75 3
    rw[hC2.size] at hlen
    have hc2:=hC2.cell
    have HB2:=hid hB2
    clear hb2 HH hB2 hC2
    go_wp2
    go_ret
    exact⟨rfl,HKE.out _ HB2.out,Spares.of_new HB2.out⟩
   ·have e1:addE L t=0:=by unfold addE;rw[if_pos hm,if_neg hin,if_neg h6]
    have e2:addL L t=t::L:=by unfold addL;rw[e1];rfl
    rw[e1,e2]
    have HIN:=hid hin
    have HM:=hid hm
    have HSH:=hid hsh
    have HNE:=hid hne
    have h6' : ¬(6:Int)≤(L.length:Int):=by omega
    clear e1 e2 hm hT hR hsl hbW hcW h hEE hke hin hsh hne
    go_enter Tryz.func21,Tryz.ntmps21
    go_wp2_with fail
    try rw[hW]
    refine HMB.out.mono ?_
    rintro e w1 ⟨rfl,hb1⟩
    have hB1:=HB.out.trans (hb1.mono HB.out.size)
    have k1:=cells3f ((hb1.block w.heap.size hzW).trans HCW.out)
    have HC1:=hid ((hb1.block w.heap.size hzW).trans HCW.out)
    have hz1:=hb1.size
    have HH:=hid (has_any sb mb E f L S t.nm w1 (HC.out.new hB1) hn)
    rw[decide_eq_false HIN.out] at HH
    have HB1:=hid hB1
    clear hb1 hB1 HMB hW k0
    go_wp2_with fail
    refine HH.out.mono ?_
    rintro e w2 ⟨rfl,hb2⟩
    have hz2:=hb2.size
    have hB2:=HB1.out.trans (hb2.mono HB1.out.size)
    have hC2:=HC.out.new hB2
    have hlen:=hC2.m.len Tryz.underlying75 3
    rw[hC2.size] at hlen
    have hc2:=hC2.cell
    have k2:=cells3f ((hb2.block w.heap.size (by omega)).trans HC1.out)
    have HCL:=hid (cloneC_any T t _ w2 (HE.out.on hB2) HSH.out HNE.out)
    have HB2:=hid hB2
    clear hb2 HH hB2 hC2 k1
    go_wp2_with fail
    refine HCL.out.mono ?_
    rintro e w3 ⟨ds,rfl,hds,hb3⟩
    have hz3:=hb3.size
    have hdE:=hds.e
    obtain⟨a3,n3,c3,rfl,_⟩:=hds
    obtain⟨U,hU,hbU,hzU,hcU⟩:=box8 w3 (.cells #[.string (str8 t.nm),.slice a3 n3 c3,.int .i64 t.pr] 31)
    have hB3:=HB2.out.trans (hb3.mono HB2.out.size)
    have hBU:=hB3.trans (hbU.mono hB3.size)
    have hCU:=HC.out.new hBU
    obtain⟨w5,hup,hm5,hg5⟩:=(hCU.m.drew).update lawS Tryz.underlying75 (by unfold maxLen;omega) (key_str hn) (val:=.agg #[.string (str8 t.nm),.slice a3 n3 c3,.int .i64 t.pr]) (d:=.held (.agg #[.string (str8 t.nm),.slice a3 n3 c3,.int .i64 t.pr])) (ps:=[]) rfl
    have hCD:CatAt U.drew sb mb E f L S:=hCU.keeps (T:=fun _=>False) (Spares.of_new (below_drewN (Below.refl _ _) 1)) (fun _ _=>id)
    have hdD:TbE (fun b=>w2.heap.size≤b∧b<U.heap.size) U.drew t [.string (str8 t.nm),.slice a3 n3 c3,.int .i64 t.pr]:=(hdE.on hbU).to (R:=fun _=>False) (Spares.of_new (below_drewN (Below.refl _ _) 1)) (fun b hb hl=>⟨id,hb,hl⟩)
    have HFIN:=hid (hCD.added HIN.out (by omega) HM.out hdD hm5 hg5 (fun b hb=>hb.2))
    have HSP:Hid (Spares (fun k=>k=mb) w w5):=hid ((Spares.of_new (S:=fun k=>k=mb) hBU.drew).andThen (Spares.of_grown (S:=fun k=>k=mb) hg5 (fun k e=>by injection e with e;exact e.symm)) (fun i hi=>.inl hi))
    have hcD:=hCD.cell
    have kD:=cells3f (w:=U.drew) hcU
    have HLE:Hid (U.heap.size≤w5.heap.size):=hid hg5.size
    have HW2:=hid (HB2.out.size)
    clear hb3 hdE hB3 hBU hCU hm5 hg5 hCD hdD HCL hlen hc2 k2
    go_wp2_with fail
    try rw[hU]
    go_region
    all_goals
     go_wp2
     go_ret
     exact⟨rfl,⟨_,_,_,HFIN.out,fun b hb=>hb.elim .inl (fun h2=>.inr ⟨by have:=HW2.out;omega,by have:=HLE.out;omega⟩)⟩,HSP.out⟩
end Go.Proofs.YtaaggohjmhifbaaGreatDoor
