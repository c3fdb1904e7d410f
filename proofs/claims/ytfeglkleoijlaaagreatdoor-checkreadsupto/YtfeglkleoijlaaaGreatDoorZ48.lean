/- Packed for the hand-in: CRAdd CPlaysM KCats -/
import Derived.Test.YtfeglkleoijlaaaGreatDoorZ45
import Derived.Test.YtfeglkleoijlaaaGreatDoorZ47
import Derived.BigQuiet
import Derived.Test.YtfeglkleoijlaaaGreatDoorZ44
namespace Go.Proofs.YtfeglkleoijlaaaGreatDoor
open Go.RowKit Go.Shelf Go.Lib
set_option linter.unusedSimpArgs false
set_option linter.unusedVariables false
set_option maxRecDepth 20000
set_option maxHeartbeats 8000000
theorem sS {w:World} {b1 b2 n1 n2:Nat} {v1 v2:Value} {xs1 xs2:List Value} (h1:w.ownsRow b1 42 3 v1 n1 xs1) (h2:w.ownsRow b2 60 4 v2 n2 xs2) (g:Nat) (hg:v2.ownBlock=some g):v1.ownBlock≠some g:=fun e=>by
 rcases h1.2 with⟨rfl,_⟩ | ⟨g1,_,cur1,rfl,_,hh1,_⟩
 ·cases e
 ·rcases h2.2 with⟨rfl,_⟩ | ⟨g2,_,cur2,rfl,_,hh2,_⟩
  ·cases hg
  ·simp only[Value.ownBlock,Option.some.injEq] at e hg
   subst e
   subst hg
   rw[hh1] at hh2
   injection hh2 with hh2
   injection hh2 with e1 e2
   exact absurd e2 (by decide)
def rP (w w':World) (rb:Nat) (T:List Tb) (D:Nat→Prop) (t:Tb) (q:Int) (e:Ending):Prop :=
 e = .returned (.int .i64 q)∧(∃v' css' T' D',dR w' rb v' css' T' D'∧T'.Perm (gB T t)∧∀b,D' b→D b∨(w.heap.size≤b∧b<w'.heap.size))∧aA (fun k=>k=rb) w w'
theorem rP.kept {w w':World} {rb:Nat} {v:Value} {css:List (List Value)} {T:List Tb} {D:Nat→Prop} {t:Tb} {q:Int} (h:dR w rb v css T D) (hb:Below w.heap.size w w') (hl:gB T t=T):rP w w' rb T D t q (.returned (.int .i64 q)) :=
 ⟨rfl,⟨v,css,T,D,h.new hb,by rw[hl],fun b hb=>.inl hb⟩,aA.aC hb⟩
theorem DX (rb:Nat) (v:Value) (css:List (List Value)) (T:List Tb) (D R:Nat→Prop) (t:Tb) (cs:List Value) (w:World) (h:dR w rb v css T D) (hR:BA t) (hE:dK R w t cs) :
  Calls Tryz.prog 17 #[.pointer (some ⟨rb,0,none⟩),.agg cs.toArray] w fun e w'=>rP w w' rb T D t (iD T t) e:=by
 have hEE:=hE
 obtain⟨aa,nn,cc,rfl,hsl⟩:=hE
 obtain⟨W,hW,hbW,hzW,hcW⟩:=aL w (.cells #[.string (aj t.nm),.slice aa nn cc,.int .i64 t.pr] 42)
 have k0:=aH hcW
 have HMB:=hid (DI R t _ W hR (hEE.on hbW))
 have HB:=hid hbW
 have HCW:=hid hcW
 have HD:=hid h
 have HE:=hid hEE
 cases hm:gI t with
 |
  false =>
  have e1:iD T t=4:=by unfold iD;rw[hm];rfl
  have e2:gB T t=T:=by unfold gB;rw[e1];rfl
  rw[e1]
  rw[hm] at HMB
  have HL:=hid e2
  clear e1 e2 hm hR hsl hbW hcW h hEE
  go_enter Tryz.func17,Tryz.ntmps17
  go_wp2_with fail
  try rw[hW]
  refine HMB.out.mono ?_
  rintro e w1 ⟨rfl,hb1⟩
  have HB1:=hid (HB.out.trans (hb1.mono HB.out.size))
  clear hb1 HMB
  go_wp2
  go_ret
  exact rP.kept HD.out HB1.out HL.out
 |
  true =>
  rw[hm] at HMB
  obtain⟨q,hq⟩:∃q,iD T t=q:=⟨_,rfl⟩
  rw[hq]
  have HQ:=hid hq
  have h8:=(j3 hm).1.2.1
  have HM:=hid hm
  have HR:=hid h.ris
  have h6:=h.six
  obtain⟨a1,c1,rfl⟩:=h.sl.form
  clear hq hm hR hsl hbW hcW h hEE
  go_enter Tryz.func17,Tryz.ntmps17
  go_wp2_with fail
  try rw[hW]
  refine HMB.out.mono ?_
  rintro e w1 ⟨rfl,hb1⟩
  have hB1:=HB.out.trans (hb1.mono HB.out.size)
  have hd1:=HD.out.new hB1
  have HC1:=hid ((hb1.block w.heap.size hzW).trans HCW.out)
  have k1:=aH HC1.out
  have hz1:=hb1.size
  have HAT:=hid (FI D T t.nm rb _ w1 hd1.cell hd1.sl)
  have HB1:=hid hB1
  have HD1:=hid hd1
  clear hb1 hB1 hd1 HMB hW k0
  go_wp2_with fail
  refine HAT.out.mono ?_
  rintro e w2 ⟨k,rfl,hat,hw2⟩
  obtain rfl:w1=w2:=hw2.symm
  have HA:=hid hat
  have kR:=tQ HD1.out.box
  clear HAT hat
  by_cases hin:t.nm∈T.map Tb.nm
  ·have hq13:q=13:=by rw[← HQ.out];unfold iD;rw[if_pos HM.out,if_pos hin]
   have HL:Hid (gB T t=T):=hid (by unfold gB;rw[HQ.out,hq13];rfl)
   obtain⟨x,hx,hxn⟩:=(C9 HR.out HA.out).1 hin
   have hk:k<T.length:=(List.getElem?_eq_some_iff.1 hx).1
   obtain⟨b,off,c,hv,hlc,hcm,hel⟩:=HD1.out.sl.opened (by decide) (fun e=>by rw[e] at hk;exact absurd hk (Nat.not_lt_zero _))
   simp only[Value.slice.injEq] at hv
   obtain⟨rfl,_,rfl⟩:=hv
   unfold maxLen at hcm
   obtain⟨cs,hE,hcl⟩:=hel k x hx
   obtain⟨ax,nx,cx,rfl,_⟩:=hE
   have p0:=hcl w1 (Below.refl _ _) 0 _ rfl
   rw[Nat.add_zero] at p0
   have hk2:(k:Int)<(T.length:Int):=by omega
   have hkd:decide ((k:Int)<(T.length:Int))=true:=decide_eq_true hk2
   have hnmq:((aj x.nm).toList==(aj t.nm).toList)=true:=by rw[hxn];simp
   subst hq13
   clear hx hxn hin hel hcl
   go_wp2_with fail
   go_quiet (fail)
   go_wp2
   go_ret
   exact rP.kept HD.out (by first | exact below_drewN HB1.out nq | exact below_drewN HB1.out 1) HL.out
  ·have HIN:=hid hin
   go_upto_region 5 with fail
   go_cut [35] (fun u35 wx=>u35 = .bool false∧Hid (Below w1.heap.size w1 wx))
   case first =>
    by_cases hk:k=T.length
    ·have hkd:decide ((k:Int)<(T.length:Int))=false:=decide_eq_false (by omega)
     have hk2 : ¬(k:Int)<(T.length:Int):=by omega
     have hkn:decide (k<T.length)=false:=decide_eq_false (by omega)
     clear hin hk
     go_wp2_with fail
     go_quiet (fail)
     go_wp2_with fail
     go_meet
     exact⟨rfl,hid (by first | exact below_drewN (Below.refl _ _) nq | exact below_drewN (Below.refl _ _) 1)⟩
    ·have hkl:k<T.length:=Nat.lt_of_le_of_ne HA.out.1 hk
     obtain⟨x,hx⟩:∃x,T[k]?=some x:=⟨_,List.getElem?_eq_getElem hkl⟩
     have hnx:x.nm≠t.nm:=fun e=>HIN.out (List.mem_map.2 ⟨x,List.mem_of_getElem? hx,e⟩)
     obtain⟨b,off,c,hv,hlc,hcm,hel⟩:=HD1.out.sl.opened (by decide) (fun e=>by rw[e] at hkl;exact absurd hkl (Nat.not_lt_zero _))
     simp only[Value.slice.injEq] at hv
     obtain⟨rfl,_,rfl⟩:=hv
     unfold maxLen at hcm
     obtain⟨cs,hE,hcl⟩:=hel k x hx
     obtain⟨ax,nx,cx,rfl,_⟩:=hE
     have p0:=hcl w1 (Below.refl _ _) 0 _ rfl
     rw[Nat.add_zero] at p0
     have hk2:(k:Int)<(T.length:Int):=by omega
     have hkd:decide ((k:Int)<(T.length:Int))=true:=decide_eq_true hk2
     have hnmq:((aj x.nm).toList==(aj t.nm).toList)=false:=by rw[bg,bg];simp[hnx]
     clear hx hnx hin hel hcl hk
     go_wp2_with fail
     go_quiet (fail)
     go_wp2_with fail
     go_meet
     exact⟨rfl,hid (by first | exact below_drewN (Below.refl _ _) nq | exact below_drewN (Below.refl _ _) 1)⟩
   case rest =>
    obtain⟨rfl,HC⟩:=hcut
    have hBc:=HB1.out.trans (HC.out.mono HB1.out.size)
    have hdc:=HD1.out.new HC.out
    have hsc:=HC.out.size
    have HCc:=hid ((HC.out.block w.heap.size (by omega)).trans HC1.out)
    have kRc:=tQ hdc.box
    have HBc:=hid hBc
    clear k1 kR hin
    by_cases h6l:6≤T.length
    ·have hq16:q=16:=by rw[← HQ.out];unfold iD;rw[if_pos HM.out,if_neg HIN.out,if_pos h6l]
     have HL:Hid (gB T t=T):=hid (by unfold gB;rw[HQ.out,hq16];rfl)
     have h6':(6:Int)≤(T.length:Int):=by omega
     subst hq16
     clear hBc hdc h6l
     go_wp2
     go_ret
     exact rP.kept HD.out HBc.out HL.out
    ·have hq0:q=0:=by rw[← HQ.out];unfold iD;rw[if_pos HM.out,if_neg HIN.out,if_neg h6l]
     have hadl:gB T t=t::T:=by unfold gB;rw[HQ.out,hq0];rfl
     have h6' : ¬(6:Int)≤(T.length:Int):=by omega
     have kc:=aH HCc.out
     obtain⟨x1,y1,z1,e1,a2,n2,c2,w2,hr2,ho2,hB2⟩:=DU hdc HA.out.1
     have hBw2:=hBc.trans (hB2.mono hBc.size)
     have hs2:=hB2.size
     have HR2:=hid hr2
     have k2:=aH ((hB2.block w.heap.size (by omega)).trans HCc.out)
     have HO2:=hid ho2
     have HBw2:=hid hBw2
     have HD2:=hid (hdc.new hB2)
     have HCO:=hid (tH R t _ w2 (HE.out.on hBw2) (by omega))
     have HADL:=hid hadl
     have hkl:=HA.out.1
     subst hq0
     clear hBc hdc h6l hr2 ho2 hB2 hBw2 hadl
     go_wp2_with (first | (at_builtin;refine wpList_append_run _ rfl (.tmp 42) (.tmp 48) 22 rfl _ _ _ _ rfl rfl HR2.out ?_))
     refine HCO.out.mono ?_
     rintro e w4 ⟨ds,rfl,hds,hb4⟩
     have hs4:=hb4.size
     have HDS:=hid hds
     obtain⟨a4,n4,c4,rfl,hown4⟩:=hds
     obtain⟨V,hV,hbV,hzV,hcV⟩:=aL w4 (.cells #[.string (aj t.nm),.slice a4 n4 c4,.int .i64 t.pr] 42)
     have h2V:Below w2.heap.size w2 V:=hb4.trans (hbV.mono hb4.size)
     have ho2V:=aA.row (aA.aC (S:=fun _=>False) h2V) HO2.out (fun _ _=>id)
     have hdV:=HD2.out.new h2V
     have hBV:=HBw2.out.trans (h2V.mono HBw2.out.size)
     have hsV:=h2V.size
     have hwc2:=HBw2.out.size
     obtain⟨a5,n5,c5,w5,hr5,ho5,hs5⟩:=iF ho2V ⟨w4.heap.size,0,none⟩ 1 1 [[.string (aj t.nm),.slice a4 n4 c4,.int .i64 t.pr]] rfl (fun d hd=>by
      obtain rfl:=List.mem_singleton.1 hd
      refine ⟨rfl,fun u hu=>?_⟩
      simp only[List.mem_cons,List.not_mem_nil,or_false] at hu
      rcases hu with rfl | rfl | rfl<;>rfl) (fun j u hu=>by
      rw[List.flatten_cons,List.flatten_nil,List.append_nil] at hu
      rw[Addr.add_lit,Nat.zero_add,aD _ _ _ _ _ _ hcV]
      simpa using hu) (by omega) (by omega) 22
     have hB5:Below wc.heap.size V w5:=hs5.below (fun i hi=>(ho2V.lt i hi).1) (by omega)
     have hBw5:Below w.heap.size w w5:=hBV.trans (hB5.mono HBc.out.size)
     have hd5:dR w5 rb (.slice a1 T.length c1) css T D:=HD.out.new hBw5
     obtain⟨x6,y6,z6,e6,a7,n7,c7,w7,hr7,ho7,hs7⟩:=AJ hd5 hkl ho5 (by omega) (by have:=hB5.size;omega)
     have hB7:Below wc.heap.size w5 w7:=hs7.below (fun i hi=>(ho5.lt i hi).1) (by have:=hB5.size;omega)
     have hBw7:Below w.heap.size w w7:=hBw5.trans (hB7.mono HBc.out.size)
     have hrb:rb<w.heap.size:=World.lt_of_block HD.out.box
     have hbox7:=(hBw7.block rb hrb).trans HD.out.box
     obtain⟨X,hX,hcX,hsX⟩:=Js hbox7 (.slice a7 n7 c7)
     have hSX:aA (fun k=>k=rb) w X:=(aA.aC (S:=fun k=>k=rb) hBw7).andThen hsX (fun i hi=>.inl hi)
     have hins:=E9 HR.out HA.out HIN.out
     have kV:=aH hcV
     have kR5:=tQ hd5.box
     have kR7:=tQ hbox7
     have hls:(T.take k++t::T.drop k).length=k+1+(T.length-k):=by rw[List.length_append,List.length_cons,List.length_take,List.length_drop,Nat.min_eq_left hkl];omega
     have rV:=aA.row (aA.aC (S:=fun _=>False) hbV) hown4 (fun _ _=>id)
     have r5:=hs5.row rV (fun g hg=>sS ho2V rV g hg)
     have r7:=hs7.row r5 (fun g hg=>sS ho5 r5 g hg)
     have rX:=hsX.row r7 (fun g hg e=>by have:=(hown4.lt g hg).1;omega)
     have HF:Hid (dR X rb (.slice a7 n7 c7) (css.take k++[[.string (aj t.nm),.slice a4 n4 c4,.int .i64 t.pr]]++css.drop k) (T.take k++t::T.drop k) (fun b=>D b∨(w.heap.size≤b∧b<X.heap.size))):=hid (HD.out.put hcX (by
       rw[hls]
       exact dP (hsX.row ho7 (fun b hb e=>by have:=(ho7.lt b hb).1;have:=HBc.out.size;omega)) (fun b hb=>by have:=(ho7.lt b hb).1;have:=HBc.out.size;omega)) (by
       rw[List.append_assoc]
       refine gJ.append' ((HD.out.els.take k).to (fun x cs e=>e.to hSX (fun b hb _=>⟨fun e2=>HD.out.ne (e2 ▸ hb),.inl hb⟩))) ?_
       show gJ 3 dK _ X ([t]++T.drop k) ([_]++css.drop k)
       refine gJ.append' (gJ.snoc gJ.nil rfl ?_) ((HD.out.els.drop k).to (fun x cs e=>e.to hSX (fun b hb _=>⟨fun e2=>HD.out.ne (e2 ▸ hb),.inl hb⟩)))
       exact⟨a4,n4,c4,rfl,aQ.dW (by decide) rX (l7 _ _ _) (fun b hb=>.inr ⟨by have:=(hown4.lt b hb).1;omega,(rX.lt b hb).2⟩)⟩) hSX.size hins.1 (fun x hx=>by
       rcases List.mem_append.1 hx with h1 | h1
       ·exact HD.out.ok x (List.mem_of_mem_take h1)
       ·rcases List.mem_cons.1 h1 with rfl | h1
        ·exact HM.out
        ·exact HD.out.ok x (List.mem_of_mem_drop h1)) (by rw[hls];omega))
     have HR5:=hid hr5
     have HR7:=hid hr7
     have HSX:=hid hSX
     have HPM:Hid ((T.take k++t::T.drop k).Perm (gB T t)):=hid (by rw[HADL.out];exact hins.2)
     clear hb4 hbV hcV h2V ho2V hdV hBV hr5 ho5 hs5 hB5 hBw5 hd5 hr7 ho7 hs7 hB7 hBw7 hbox7 hcX hsX hSX hins hls hown4 rV r5 r7 rX HCO k2
     go_wp2_with (first
      | (at_builtin;refine wpList_append_run _ rfl (.tmp 50) (.tmp 53) 22 rfl _ _ _ _ rfl rfl HR5.out ?_)
      | (at_builtin;refine wpList_append_run _ rfl (.tmp 56) (.tmp 62) 22 rfl _ _ _ _ rfl rfl HR7.out ?_))
     try rw[hX]
     go_ret
     exact⟨rfl,⟨_,_,_,_,HF.out,HPM.out,fun b hb=>hb⟩,HSX.out⟩
structure PM (w wr:World) (sb mb rb:Nat) (L T:List Tb) (H:Nat→Prop):Prop where
 both : ∃E f S v css D,dY wr sb mb E f L S∧dR wr rb v css T D∧(∀b,S b→w.heap.size≤b∧¬D b∧b≠rb∧¬H b)∧∀b,D b→w.heap.size≤b∧¬H b
 below:Below w.heap.size w wr
 lo:w.heap.size≤rb∧¬H rb
 h : ∀b,H b→b<wr.heap.size
theorem PM.new {w wr w':World} {sb mb rb:Nat} {L T:List Tb} {H:Nat→Prop} (h:PM w wr sb mb rb L T H) (hb:Below wr.heap.size wr w'):PM w w' sb mb rb L T H:=by
 obtain⟨E,f,S,v,css,D,h1,h2,h3,h4⟩:=h.both
 exact⟨⟨E,f,S,v,css,D,h1.new hb,h2.new hb,h3,h4⟩,h.below.trans (hb.mono h.below.size),h.lo,fun b hH=>Nat.lt_of_lt_of_le (h.h b hH) hb.size⟩
theorem PM.all {w wr:World} {sb mb rb:Nat} {L T:List Tb} {H:Nat→Prop} (h:PM w wr sb mb rb L T H):PM w wr sb mb rb L T (fun _=>False):=by
 obtain⟨E,f,S,v,css,D,h1,h2,h3,h4⟩:=h.both
 exact⟨⟨E,f,S,v,css,D,h1,h2,fun b hb=>⟨(h3 b hb).1,(h3 b hb).2.1,(h3 b hb).2.2.1,id⟩,fun b hb=>⟨(h4 b hb).1,id⟩⟩,h.below,⟨h.lo.1,id⟩,fun b hH=>hH.elim⟩
theorem PM.cat {w wr:World} {sb mb rb:Nat} {L T:List Tb} {H:Nat→Prop} (h:PM w wr sb mb rb L T H):∃E f S,dY wr sb mb E f L S∧∀(w':World) (E':DataW Value) (f':List UInt8→Value) (L':List Tb) (S':Nat→Prop),dY w' sb mb E' f' L' S'→(∀b,S' b→S b∨(wr.heap.size≤b∧b<w'.heap.size))→aA (fun k=>k=mb) wr w'→PM w w' sb mb rb L' T H:=by
 obtain⟨E,f,S,v,css,D,h1,h2,h3,h4⟩:=h.both
 have hrb:=World.lt_of_block h2.box
 have hm:=h3 mb h1.bT.2
 have hw:=h.below.size
 refine ⟨E,f,S,h1,fun w' E' f' L' S' hc hS hk=>⟨⟨E',f',S',v,css,D,hc,h2.keeps hk (fun b hb e=>hm.2.1 (e ▸ hb)) (fun e=>hm.2.2.1 e.symm),fun b hb=>?_,h4⟩,h.below.trans (hk.below (fun b hb=>hb ▸ hm.1) h.below.size),h.lo,fun b hH=>Nat.lt_of_lt_of_le (h.h b hH) hk.size⟩⟩
 rcases hS b hb with h5 | h5
 ·exact h3 b h5
 ·exact⟨by omega,fun hd=>by have:=h2.lt b hd;omega,by omega,fun hH=>by have:=h.h b hH;omega⟩
theorem PM.doc {w wr:World} {sb mb rb:Nat} {L T:List Tb} {H:Nat→Prop} (h:PM w wr sb mb rb L T H):∃v css D,dR wr rb v css T D∧∀(w':World) (v':Value) (css':List (List Value)) (T':List Tb) (D':Nat→Prop),dR w' rb v' css' T' D'→(∀b,D' b→D b∨(wr.heap.size≤b∧b<w'.heap.size))→aA (fun k=>k=rb) wr w'→PM w w' sb mb rb L T' H:=by
 obtain⟨E,f,S,v,css,D,h1,h2,h3,h4⟩:=h.both
 have hw:=h.below.size
 refine ⟨v,css,D,h2,fun w' v' css' T' D' hc hS hk=>⟨⟨E,f,S,v',css',D',h1.keeps hk (fun b hb e=>(h3 b hb).2.2.1 e),hc,fun b hb=>⟨(h3 b hb).1,fun hd=>?_,(h3 b hb).2.2⟩,fun b hd=>?_⟩,h.below.trans (hk.below (fun b hb=>by have:=h.lo.1;omega) h.below.size),h.lo,fun b hH=>Nat.lt_of_lt_of_le (h.h b hH) hk.size⟩⟩
 ·rcases hS b hd with h5 | h5
  ·exact (h3 b hb).2.1 h5
  ·have:=h1.lt b hb
   omega
 ·rcases hS b hd with h5 | h5
  ·exact h4 b h5
  ·exact⟨by omega,fun hH=>by have:=h.h b hH;omega⟩
def Hg (w:World) (v:Value):Prop:=∃n xs,w.ownsRow 0 60 4 v n xs
theorem Hg.set {w:World} {v:Value} (h:Hg w v) (g j:Nat) (u:Value):Hg (w.setCell ⟨g,j,none⟩ u) v:=by
 obtain⟨n,xs,ho⟩:=h
 rcases ho.2 with⟨rfl,rfl⟩ | ⟨g',cap,cur,rfl,hb,hg,h1,h2,h3,h4⟩
 ·exact⟨0,[],World.ownsRow_nil _ _ _ _⟩
 ·by_cases e:g'=g
  ·subst e
   exact⟨n,_,(ho.stored j u).1⟩
  ·refine ⟨n,xs,ho.1,.inr ⟨g',cap,cur,rfl,hb,?_,h1,h2,h3,h4⟩⟩
   rw[heap_setCell_other w ⟨g,j,none⟩ g' u e]
   exact hg
def Jg (base top:Nat) (lv:Value) (css:List (List Value)) (w8 wr:World):Prop :=
 aA (fun b=>base≤b∧b<top∧lv.ownBlock≠some b) w8 wr∧∀(j:Nat) (cs:List Value),css[j]?=some cs→∃(s:ByteArray) (aa:Option Addr) (nn cc:Nat) (p:Int),cs=[.string s,.slice aa nn cc,.int .i64 p]∧Hg wr (.slice aa nn cc)∧∀b,(Value.slice aa nn cc).ownBlock=some b→base≤b∧b<top∧lv.ownBlock≠some b
theorem Jg.set {base top:Nat} {lv:Value} {css:List (List Value)} {w8 wr:World} (h:Jg base top lv css w8 wr) (g j:Nat) (u:Value) (hg:base≤g∧g<top∧lv.ownBlock≠some g):Jg base top lv css w8 (wr.setCell ⟨g,j,none⟩ u) :=
 ⟨h.1.andThen ((aA.refl (fun k=>k=g) wr).own _ _) (fun i hi=>.inl (hi ▸ hg)),fun k cs hk=>by
  obtain⟨s,aa,nn,cc,p,h1,h2,h3⟩:=h.2 k cs hk
  exact⟨s,aa,nn,cc,p,h1,h2.set g j u,h3⟩⟩
theorem Hg.at {w:World} {aa:Option Addr} {nn cc:Nat} (h:Hg w (.slice aa nn cc)):nn≤maxLen∧(0<nn→∃g,aa=some ⟨g,0,none⟩∧(∀i,w.frozen? ⟨g,i,none⟩=false)∧∀i,i<nn*4→∃u,w.cell? ⟨g,i,none⟩=some u):=by
 obtain⟨n,xs,ho⟩:=h
 rcases ho.2 with⟨e,h0⟩ | ⟨g,cap,cur,e,_,_,h1,h2,_⟩
 ·simp only[Value.slice.injEq] at e
  obtain⟨rfl,rfl,rfl⟩:=e
  exact⟨Nat.zero_le _,fun h=>by omega⟩
 ·simp only[Value.slice.injEq] at e
  obtain⟨rfl,rfl,rfl⟩:=e
  refine ⟨by omega,fun _=>⟨g,rfl,fun i=>ho.frozenAt i,fun i hi=>?_⟩⟩
  rw[ho.cellAt i hi]
  exact⟨_,List.getElem?_eq_getElem (by rw[ho.1];omega)⟩
end Go.Proofs.YtfeglkleoijlaaaGreatDoor
namespace Go.Proofs.YtfeglkleoijlaaaGreatDoor
open Go.RowKit Go.Shelf
set_option linter.unusedSimpArgs false
set_option linter.unusedVariables false
set_option maxRecDepth 20000
set_option maxHeartbeats 8000000
theorem uG (l:List Tb) (lv:Value) (w:World) (hW:eH w) (hl:aQ 3 dK (fun b=>b<w.heap.size) w l lv) (hR : ∀t∈l,BA t) :
  Calls Tryz.prog 7 #[lv] w fun e w'=>∃sb mb rb L T,e = .returned (.tuple #[.pointer (some ⟨sb,0,none⟩),.pointer (some ⟨rb,0,none⟩)])∧PM w w' sb mb rb L T (fun _=>False)∧T.Perm L:=by
 obtain⟨la,lc,rfl⟩:∃a c,lv = .slice a l.length c:=hl.form
 have hmx:l.length≤maxLen:=by obtain⟨_,_,_,e,h1,h2,_⟩:=hl;simp only[Value.slice.injEq] at e;omega
 unfold maxLen at hmx
 have HL:=hid hl
 have HR:=hid hR
 have HW:=hid hW
 clear hl hR hW
 go_enter Tryz.func7,Tryz.ntmps7
 go_wp2_with fail
 refine (Dc w).mono ?_
 rintro e w2 ⟨u,rfl,hcat,hb2⟩
 obtain⟨sb,mb,E,f,rfl,hcat⟩:=hcat
 have hs2:=hb2.size
 have HCAT:=hid hcat
 have HB2:=hid hb2
 clear hcat hb2
 go_wp2_with fail
 refine (CP w2).mono ?_
 rintro e w3 ⟨rfl,hdoc,hb3⟩
 obtain⟨rb,hrb⟩:∃rb,w2.heap.size=rb:=⟨_,rfl⟩
 have HF0:Hid (PM w w3 sb mb rb [] [] (fun _=>False)):=hid (by
  rw[hrb] at hdoc
  refine ⟨⟨E,f,_,_,_,_,HCAT.out.new hb3,hdoc,fun b hb=>⟨by omega,id,by omega,id⟩,fun b hb=>hb.elim⟩,HB2.out.trans (hb3.mono (by omega)),⟨by omega,id⟩,fun b hb=>hb.elim⟩)
 rw[hrb]
 clear hdoc hb3 HCAT HB2 hrb
 go_wp2_with fail
 go_loopw [6] (fun i wr=>∃(k:Nat) (L T:List Tb),k≤l.length∧k≤12∧i = .int .i64 k∧Hid (PM w wr sb mb rb L T (fun _=>False))∧Hid (T.Perm L)) (fun i _=>l.length-(intOf i).toNat)
 case atStart=>exact⟨0,[],[],Nat.zero_le _,by omega,rfl,HF0,hid (List.Perm.refl _)⟩
 case round =>
  clear HF0
  obtain⟨k,L,T,hk,hk12,rfl,HF,HPM⟩:=hrel
  by_cases hlt:k<l.length
  ·have hlt':((k:Int)<(l.length:Int)):=by omega
   by_cases h12:k<12
   ·have h12':((k:Int)<12):=by omega
    obtain⟨t,ht⟩:∃t,l[k]?=some t:=⟨_,List.getElem?_eq_getElem hlt⟩
    have HRT:=hid (HR.out t (List.mem_of_getElem? ht))
    have hbr:=HF.out.below
    obtain⟨_,_,_,b,off,ds,rfl,hbS,hel,hcell⟩:=bN (HL.out.to (T:=fun b=>b<w.heap.size) (by decide) (R:=fun _=>False) (aA.aC hbr) (fun b hb _=>⟨id,hb⟩) (fun _ _ e=>e.on hbr)) ht
    have hel0:=hel
    obtain⟨aa,nn,cc,rfl,hsl⟩:=hel
    have q0:=hcell 0 _ rfl
    have q1:=hcell 1 _ rfl
    have q2:=hcell 2 _ rfl
    simp only[Nat.add_zero] at q0
    have HEL:=hid hel0
    have HCE:Hid (∀V,Below w.heap.size w V→V.cell? ⟨b,off+k*3,none⟩=some (.string (aj t.nm))∧V.cell? ⟨b,off+k*3+1,none⟩=some (.slice aa nn cc)∧V.cell? ⟨b,off+k*3+2,none⟩=some (.int .i64 t.pr)):=hid (fun V hV=>by
     obtain⟨_,_,_,b2,off2,ds2,h2,hb2S,hel2,hc2⟩:=bN HL.out ht
     injection h2 with h2
     injection h2 with e1 e2
     subst e1 e2
     have hbl:b<w.heap.size:=hb2S
     have hsame : ∀(i:Nat) (v:Value),wr.cell? ⟨b,off+k*3+i,none⟩=some v→V.cell? ⟨b,off+k*3+i,none⟩=some v:=fun i v h=>((hV.cell (p:=⟨b,off+k*3+i,none⟩) hbl).trans (hbr.cell (p:=⟨b,off+k*3+i,none⟩) hbl).symm).trans h
     exact⟨hsame 0 _ q0,hsame 1 _ q1,hsame 2 _ q2⟩)
    obtain⟨E4,f4,S4,hc4,hmv⟩:=HF.out.cat
    have HMV:=hid hmv
    have HAD:=hid (vH sb mb E4 f4 L S4 _ t _ wr hc4 (HW.out.on hbr) HRT.out hel0)
    clear hcell hsl hel0 hc4 hmv ht hbS hbr
    go_wp2_with fail
    refine HAD.out.mono ?_
    rintro e w5 ⟨rfl,⟨E5,f5,S5,hc5,hS5⟩,hk5⟩
    have HP5:=hid (HMV.out w5 E5 f5 (gB L t) S5 hc5 hS5 hk5)
    obtain⟨r0,r1,r2⟩:=HCE.out w5 HP5.out.below
    have HTE5:=hid (HEL.out.to (T:=fun b=>b<w.heap.size) hk5 (fun b hb _=>⟨fun e=>by
     have:=HF.out.both
     obtain⟨_,_,S9,_,_,_,g1,_,g3,_⟩:=this
     have:=(g3 mb g1.bT.2).1
     have hb':b<w.heap.size:=hb
     omega,hb⟩))
    obtain⟨v6,css6,D6,hd6,hmd⟩:=HP5.out.doc
    have HMD:=hid hmd
    have HRD:=hid (DX rb v6 css6 T D6 _ t _ w5 hd6 HRT.out HTE5.out)
    clear HAD HMV hc5 hS5 hk5 hd6 hmd q0 q1 q2 HEL HF
    go_wp2_with fail
    refine HRD.out.mono ?_
    rintro e q7 ⟨rfl,⟨v7,css7,T7,D7,hd7,hp7,hD7⟩,hk7⟩
    have HP7:=hid (HMD.out q7 v7 css7 T7 D7 hd7 hD7 hk7).all
    have HPM7:=hid (hp7.trans (Ay HPM.out t))
    clear hd7 hp7 hD7 hk7 HRD HMD r0 r1 r2 HP5 HTE5
    go_wp2_with fail
    go_roundw
    case rel=>exact⟨k+1,_,T7,by omega,by omega,by go_num,HP7,HPM7⟩
    case measure=>simp[intOf];omega
   ·have h12' : ¬((k:Int)<12):=by omega
    go_wp2_with fail
    exact bodyPost_ret (v:=.tuple #[.pointer (some ⟨sb,0,none⟩),.pointer (some ⟨rb,0,none⟩)]) (by simp[results,Tryz.results7,go_sem]) rfl (by first | exact⟨sb,mb,rb,rfl,L,T,HF.out,HPM.out⟩ | exact⟨sb,rb,rfl,mb,L,T,HF.out,HPM.out⟩)
  ·have hlt' : ¬((k:Int)<(l.length:Int)):=by omega
   go_wp2_with fail
   exact bodyPost_ret (v:=.tuple #[.pointer (some ⟨sb,0,none⟩),.pointer (some ⟨rb,0,none⟩)]) (by simp[results,Tryz.results7,go_sem]) rfl (by first | exact⟨sb,mb,rb,rfl,L,T,HF.out,HPM.out⟩ | exact⟨sb,rb,rfl,mb,L,T,HF.out,HPM.out⟩)
end Go.Proofs.YtfeglkleoijlaaaGreatDoor
