/- Packed for the hand-in: KLow KInt CCopy -/
import Derived.Test.YtfeglkleoijlaaaGreatDoorZ09
import Derived.Test.YtfeglkleoijlaaaGreatDoorZ30
import Derived.Test.YtfeglkleoijlaaaGreatDoorZ27
namespace Go.Proofs.YtfeglkleoijlaaaGreatDoor
open Go.RowKit Go.Shelf Go.Lib
set_option linter.unusedSimpArgs false
set_option linter.unusedVariables false
set_option maxRecDepth 20000
set_option maxHeartbeats 8000000
theorem xW (nm:List UInt8) (B:Nat) (w:World) (hB:B<w.heap.size) (hcell:w.cell? ⟨B,0,none⟩=some (.string (aj nm))) :
  PredBelow Tryz.prog 111 #[.pointer (some ⟨B,0,none⟩)] (fun x=>.agg (iC x).toArray) (fun x=>decide (x.nm=nm)) w:=fun W x hb=>by
 have hc:W.cell? ⟨B,0,none⟩=some (.string (aj nm)):=(hb.cell (p:=⟨B,0,none⟩) hB).trans hcell
 obtain⟨V,hV,hbV,hzV,hcV⟩:=aL W (.cells #[.string (aj x.nm),.int .i64 x.k,.bool x.nn,.bool x.uq] 60)
 have k0:=nG hcV
 have k1:V.cell? ⟨B,0,none⟩=some (.string (aj nm)):=(hbV.cell (p:=⟨B,0,none⟩) (Nat.lt_of_lt_of_le hB hb.size)).trans hc
 have HB:=hid (hb.trans (hbV.mono hb.size))
 have he:((aj x.nm).toList==(aj nm).toList)=decide (x.nm=nm):=by
  rw[bg,bg]
  by_cases h:x.nm=nm<;>simp[h]
 show Calls Tryz.prog 111 #[.agg #[.string (aj x.nm),.int .i64 x.k,.bool x.nn,.bool x.uq],.pointer (some ⟨B,0,none⟩)] W _
 dsimp only
 rw[← he]
 clear hb hbV hcV hc hcell he
 go_enter Tryz.func111,Tryz.ntmps111
 go_wp2_with fail
 try rw[hV]
 go_wp2
 go_ret
 exact⟨rfl,HB.out⟩
theorem pX (S:Nat→Prop) (t:Tb) (cs:List Value) (nm:List UInt8) (w:World) (h:dK S w t cs) (hne:t.cols≠[]) :
  Calls Tryz.prog 56 #[.agg cs.toArray,.string (aj nm)] w fun e w'=>e = .returned (.int .i64 (dJ t.cols nm))∧Below w.heap.size w w':=by
 obtain⟨aa,nn,cc,rfl,hsl⟩:=h
 obtain⟨b,off,c,hv,h1,h2,hS,hlt,hel⟩:=fq hsl hne
 simp only[Value.slice.injEq] at hv
 obtain⟨rfl,rfl,rfl⟩:=hv
 unfold maxLen at h2
 obtain⟨W,hW,hbW,hzW,hcA,hcW⟩:=two w (.cells #[.string (aj t.nm),.slice (some ⟨b,off,none⟩) t.cols.length cc,.int .i64 t.pr] 42) (.cells #[.string (aj nm)] 9)
 have k0:=aH hcA
 have hcell:W.cell? ⟨w.heap.size+1,0,none⟩=some (.string (aj nm)):=by rw[aD _ _ _ _ _ _ hcW];rfl
 have HC:=hid (AnyQ.slices_IndexFunc Cr 4 Tryz.isAgg60 Tryz.sizeOf60 iC (fun _=>rfl) (fun x=>decide (x.nm=nm)) 111 #[.pointer (some ⟨w.heap.size+1,0,none⟩)] (enters_of Tryz.func111 (by kernel_rfl) rfl) b off t.cols.length cc t.cols W
  (xW nm (w.heap.size+1) W hzW hcell) (Nat.le_refl _) (by omega) (by omega) (fun j hj i u hu=>hel W hbW j t.cols[j]! (by rw[getElem!_pos t.cols j hj];exact List.getElem?_eq_getElem hj) i u hu))
 rw[nQ] at HC
 generalize dJ t.cols nm=r at HC ⊢
 have HB:=hid hbW
 clear hel hcell hcW hbW hcA hsl
 go_enter Tryz.func56,Tryz.ntmps56
 go_wp2_with fail
 try rw[hW]
 refine HC.out.mono ?_
 rintro e w1 ⟨rfl,hb1⟩
 have HB1:=hid (HB.out.trans (hb1.mono HB.out.size))
 clear hb1
 go_wp2
 go_ret
 exact⟨rfl,HB1.out⟩
theorem rG {l:List Co} {nm:List UInt8} (h:bO l nm<l.length):dJ l nm=(bO l nm:Nat):=by unfold dJ;rw[if_pos h]
theorem sM {l:List Co} {nm:List UInt8} (h : ¬bO l nm<l.length):dJ l nm = -1:=by unfold dJ;rw[if_neg h]
abbrev Cm (n:Int):Array Value:=#[.int .i64 2,.int .i64 0,.string ⟨#[]⟩,.string ⟨#[]⟩,.int .i64 1,.int .i64 n,.string ⟨#[]⟩,.slice none 0 0]
abbrev bS:Array Value:=#[.int .i64 0,.int .i64 0,.string ⟨#[]⟩,.string ⟨#[]⟩,.int .i64 0,.int .i64 0,.string ⟨#[]⟩,.slice none 0 0]
theorem vG (S:Nat→Prop) (w:World):fB S w mW (.agg bS):=⟨0,0,[],[],0,0,[],[],none,0,0,rfl,rfl,.nil _ _ (by unfold maxLen;omega)⟩
theorem EW (S:Nat→Prop) (w:World) (n:Int):fB S w (.mk 2 0 [] [] ⟨1,n,[]⟩ []) (.agg (Cm n)):=⟨2,0,[],[],1,n,[],[],none,0,0,rfl,rfl,.nil _ _ (by unfold maxLen;omega)⟩
theorem iZ:bS.all (·.oneCell')=true:=by simp[Value.oneCell']
theorem DK (n:Int):(Cm n).all (·.oneCell')=true:=by simp[Value.oneCell']
theorem EJ (s:List UInt8):(aj s).toList.isEmpty=decide (s=[]):=by
 rw[bg]
 cases s<;>simp
def uN (r:Int × Int × Nat):Ex × Int × Int:=if r.2.2=0 then (mW,0,12) else if 1<r.2.2 then (mW,0,13) else (.mk 2 0 [] [] ⟨1,r.1,[]⟩ [],r.2.1,0)
theorem Tryz.bW:(Tryz.prog.info? 42).map (·.size)=some 3:=by kernel_rfl
theorem dA {B:Nat} {w w':World} {g:Nat} (h:Below B w w') (hg:B≤g) (cs:Array Value):Below B w (w'.setRow g cs) :=
 ⟨h.os,h.tape,h.output,by simpa using h.size,fun k hk=>(setRow_other _ _ _ _ (by omega)).trans (h.block k hk)⟩
theorem vU : ∀n:Int,-1000000000≤n→n≤1000000000→IntKind.i64.wrap n=n:=by
 intro n h0 h1
 rw[IntKind.wrap_i64]
 omega
theorem qm (S:Nat→Prop) (L:List Tb) (v:Value) (tb nm:List UInt8) (w:World) (hL:aQ 3 dK S w L v) (hK : ∀t∈L,oo t) (hn:L.length≤100) :
  Calls Tryz.prog 41 #[v,.string (aj tb),.string (aj nm)] w fun e w'=>∃u,e = .returned (.tuple #[u,.int .i64 (yA L tb nm).2.1,.int .i64 (yA L tb nm).2.2])∧(∀S,fB S w' (yA L tb nm).1 u)∧Below w.heap.size w w':=by
 have HL:=hid hL
 have HK:=hid hK
 obtain⟨aa,cc,css,rfl,h1,h2,_⟩:=hL
 unfold maxLen at h2
 show Calls Tryz.prog _ _ w fun e w'=>∃u,e = .returned (.tuple #[u,.int .i64 (uN (wD tb nm L 0 (0,0,0))).2.1,.int .i64 (uN (wD tb nm L 0 (0,0,0))).2.2])∧(∀S,fB S w' (uN (wD tb nm L 0 (0,0,0))).1 u)∧Below w.heap.size w w'
 obtain⟨R,hR⟩:∃R,wD tb nm L 0 (0,0,0)=R:=⟨_,rfl⟩
 rw[hR]
 have HR:=hid hR
 obtain⟨W,hW,hbW,hzW,hcW⟩:=aL w (.cells bS 48)
 have HBW:=hid hbW
 have HCW:=hid hcW
 have HLW:Hid (aQ 3 dK S W L (.slice aa L.length cc)):=hid (HL.out.to (by decide) (R:=fun _=>False) (aA.aC hbW) (fun b hb _=>⟨id,hb⟩) (fun _ _ e=>e.on hbW))
 have het:=EJ tb
 clear hR hbW hcW hK
 go_enter Tryz.func41,Tryz.ntmps41
 go_upto_block 0 with fail
 try rw[hW]
 clear hW
 go_cut [9,10,11] from 12 to 60 (fun n k h wx=>∃(n' k':Int) (h':Nat),n = .int .i64 n'∧k = .int .i64 k'∧h = .int .i64 h'∧h'≤100∧Hid (Below W.heap.size W wx)∧Hid ((n',k',h')=R))
 case first =>
  go_wp2_with fail
  go_loopw [9,10,11,12,14,15,16,19] (fun n k h a _ _ _ i wr=>∃(m:Nat) (n' k' a':Int) (h':Nat),m≤L.length∧i = .int .i64 m∧n = .int .i64 n'∧k = .int .i64 k'∧h = .int .i64 h'∧a = .int .i64 a'∧0≤a'∧a'≤8*m∧h'≤m∧Hid (Below W.heap.size W wr)∧Hid (wD tb nm (L.drop m) a' (n',k',h')=R)) (fun _ _ _ _ _ _ _ i _=>L.length-(intOf i).toNat)
  case atStart=>exact⟨0,0,0,0,0,Nat.zero_le _,rfl,rfl,rfl,rfl,rfl,by omega,by omega,by omega,hid (Below.refl _ _),hid (by rw[List.drop_zero];exact HR.out)⟩
  case round =>
   obtain⟨m,n',k',a',h',hm,rfl,rfl,rfl,rfl,rfl,ha0,ha1,hh,HB,HC⟩:=hrel
   by_cases hlt:m<L.length
   ·obtain⟨t,ht⟩:∃t,L[m]?=some t:=⟨_,List.getElem?_eq_getElem hlt⟩
    have hlt':((m:Int)<(L.length:Int)):=by omega
    obtain⟨hn16,hc8,hcne,hck⟩:=HK.out t (List.mem_of_getElem? ht)
    obtain⟨_,_,_,b,off,cs,rfl,_,hel,hcell⟩:=bN (HLW.out.to (T:=S) (by decide) (R:=fun _=>False) (aA.aC HB.out) (fun b hb _=>⟨id,hb⟩) (fun _ _ e=>e.on HB.out)) ht
    have hel0:=hel
    obtain⟨ab,nb,cb,rfl,hsl⟩:=hel
    have q0:=hcell 0 _ rfl
    have q1:=hcell 1 _ rfl
    have q2:=hcell 2 _ rfl
    simp only[Nat.add_zero] at q0
    have hnb:nb=t.cols.length:=by obtain⟨_,_,hf⟩:=hsl.form;simp only[Value.slice.injEq] at hf;exact hf.2.1
    subst hnb
    obtain⟨U,hU,hbU,hzU,hcU⟩:=aL wr (.cells #[.string (aj t.nm),.slice ab t.cols.length cb,.int .i64 t.pr] 42)
    have kU:=aH hcU
    have HP:=hid (pX S t _ nm U (hel0.on hbU) hcne)
    have HCU:=hid hcU
    have HBU:=hid (HB.out.trans (hbU.mono HB.out.size))
    have HSL:Hid (aQ 4 gH S U t.cols (.slice ab t.cols.length cb)):=hid (hsl.to (by decide) (R:=fun _=>False) (aA.aC hbU) (fun b hb _=>⟨id,hb⟩) (fun _ _ e=>e))
    have HZU:=hid hzU
    have hd:L.drop m=t::L.drop (m+1):=by
     obtain⟨g1,g2⟩:=List.getElem?_eq_some_iff.1 ht
     rw[List.drop_eq_getElem_cons g1,g2]
    have hC2:=HC.out
    rw[hd,wD] at hC2
    dsimp only at hC2
    have hi0:=Fa t.cols nm
    obtain⟨p,hp⟩:∃p,bO t.cols nm=p:=⟨_,rfl⟩
    have hent:((aj t.nm).toList==(aj tb).toList)=decide (t.nm=tb):=by
     rw[bg,bg]
     by_cases h:t.nm=tb<;>simp[h]
    have hw3:IntKind.i64.wrap (a'+(t.cols.length:Int))=a'+(t.cols.length:Int):=vU _ (by omega) (by omega)
    clear hbU hcU hel0 hsl hcell hd HC HB hzU ht
    by_cases hf:p<t.cols.length
    ·have hpc:dJ t.cols nm=(p:Int):=by rw[rG (by rw[hp];exact hf),hp]
     rw[hpc] at HP
     have hge:(0:Int)≤(p:Int):=by omega
     obtain⟨x,hx⟩:∃x,t.cols[p]?=some x:=⟨_,List.getElem?_eq_getElem hf⟩
     have hkx:Ho t.cols p=x.k:=by unfold Ho;rw[hx];rfl
     obtain⟨_,_,_,b2,off2,ds2,rfl,_,hx2,hcell2⟩:=bN HSL.out hx
     obtain rfl:ds2=[.string (aj x.nm),.int .i64 x.k,.bool x.nn,.bool x.uq]:=hx2
     have c1:=hcell2 1 _ rfl
     have HC1:=hid c1
     have HB2U:=hid (World.block_lt_of_cell? U _ c1)
     have hpl:(p:Int)<(t.cols.length:Int):=by omega
     have hw1:IntKind.i64.wrap (a'+(p:Int))=a'+(p:Int):=vU _ (by omega) (by omega)
     have hw2:IntKind.i64.wrap ((h':Int)+1)=(h':Int)+1:=vU _ (by omega) (by omega)
     rw[hp,hkx] at hC2
     clear c1 hcell2 HSL hpc hkx hp hck hi0 hcne hn16
     by_cases htb:tb=[]
     ·rw[decide_eq_true htb] at het
      rw[if_neg (show ¬(tb≠[]∧t.nm=tb) from fun h=>h.1 htb),if_pos (show p<t.cols.length∧(tb=[]∨t.nm=tb) from ⟨hf,.inl htb⟩)] at hC2
      have HC2:=hid hC2
      clear hC2 hx htb
      go_wp2_with (first | (refine wpList_store_row rfl 42 (.tmp 14) (.tmp 22) rfl wr.heap.size #[.string (aj t.nm),.slice ab t.cols.length cb,.int .i64 t.pr] rfl rfl 42 #[.string ⟨#[]⟩,.slice none 0 0,.int .i64 0] (heap_alloc_new wr _) Tryz.bW rfl rfl ?_;rw[aB,hU];clear hU) | fail)
      refine HP.out.mono ?_
      rintro e w2 ⟨rfl,hb2⟩
      have k2:=aH ((hb2.block _ HZU.out).trans HCU.out)
      have c1:=(hb2.cell (p:=⟨b2,_,none⟩) HB2U.out).trans HC1.out
      have HB2:=hid (HBU.out.trans (hb2.mono HBU.out.size))
      clear hb2 HP kU
      go_wp2_with fail
      go_quiet (fail)
      have HB3:=hid (below_drewN HB2.out nq)
      go_wp2_with fail
      go_roundw
      case rel=>exact⟨m+1,a'+p,x.k,a'+t.cols.length,h'+1,by omega,by go_num,rfl,rfl,by go_num,by go_num,by omega,by omega,by omega,HB3,hid (HC2.out)⟩
      case measure=>simp[intOf];omega
     ·rw[decide_eq_false htb] at het
      by_cases hnt:t.nm=tb
      ·rw[decide_eq_true hnt] at hent
       rw[if_pos (show tb≠[]∧t.nm=tb from ⟨htb,hnt⟩),if_pos (show p<t.cols.length∧(tb=[]∨t.nm=tb) from ⟨hf,.inr hnt⟩)] at hC2
       have HC2:=hid hC2
       clear hC2 hx htb hnt
       go_wp2_with (first | (refine wpList_store_row rfl 42 (.tmp 14) (.tmp 22) rfl wr.heap.size #[.string (aj t.nm),.slice ab t.cols.length cb,.int .i64 t.pr] rfl rfl 42 #[.string ⟨#[]⟩,.slice none 0 0,.int .i64 0] (heap_alloc_new wr _) Tryz.bW rfl rfl ?_;rw[aB,hU];clear hU) | fail)
       refine HP.out.mono ?_
       rintro e w2 ⟨rfl,hb2⟩
       have k2:=aH ((hb2.block _ HZU.out).trans HCU.out)
       have c1:=(hb2.cell (p:=⟨b2,_,none⟩) HB2U.out).trans HC1.out
       have HB2:=hid (HBU.out.trans (hb2.mono HBU.out.size))
       clear hb2 HP kU
       go_wp2_with fail
       go_quiet (fail)
       have HB3:=hid (below_drewN HB2.out nq)
       go_wp2_with fail
       go_meet
       case rel=>exact⟨a'+p,x.k,h'+1,rfl,rfl,by go_num,by omega,HB3,hid (HC2.out)⟩
      ·rw[decide_eq_false hnt] at hent
       rw[if_neg (show ¬(tb≠[]∧t.nm=tb) from fun h=>hnt h.2),if_neg (show ¬(p<t.cols.length∧(tb=[]∨t.nm=tb)) from fun h=>h.2.elim htb hnt)] at hC2
       have HC2:=hid hC2
       clear hC2 hx htb hnt
       go_wp2_with (first | (refine wpList_store_row rfl 42 (.tmp 14) (.tmp 22) rfl wr.heap.size #[.string (aj t.nm),.slice ab t.cols.length cb,.int .i64 t.pr] rfl rfl 42 #[.string ⟨#[]⟩,.slice none 0 0,.int .i64 0] (heap_alloc_new wr _) Tryz.bW rfl rfl ?_;rw[aB,hU];clear hU) | fail)
       refine HP.out.mono ?_
       rintro e w2 ⟨rfl,hb2⟩
       have k2:=aH ((hb2.block _ HZU.out).trans HCU.out)
       have HB2:=hid (HBU.out.trans (hb2.mono HBU.out.size))
       clear hb2 HP kU
       go_wp2_with fail
       go_roundw
       case rel=>exact⟨m+1,n',k',a'+t.cols.length,h',by omega,by go_num,rfl,rfl,by go_num,by go_num,by omega,by omega,by omega,HB2,hid (HC2.out)⟩
       case measure=>simp[intOf];omega
    ·have hpc:dJ t.cols nm = -1:=sM (by rw[hp];exact hf)
     rw[hpc] at HP
     rw[hp] at hC2
     clear HSL hpc hp hck hi0 hcne hn16
     rw[if_neg (show ¬(p<t.cols.length∧(tb=[]∨t.nm=tb)) from fun h=>hf h.1)] at hC2
     by_cases htb:tb=[]
     ·rw[decide_eq_true htb] at het
      rw[if_neg (fun h=>h.1 htb)] at hC2
      have HC2:=hid hC2
      clear hC2 htb
      go_wp2_with (first | (refine wpList_store_row rfl 42 (.tmp 14) (.tmp 22) rfl wr.heap.size #[.string (aj t.nm),.slice ab t.cols.length cb,.int .i64 t.pr] rfl rfl 42 #[.string ⟨#[]⟩,.slice none 0 0,.int .i64 0] (heap_alloc_new wr _) Tryz.bW rfl rfl ?_;rw[aB,hU];clear hU) | fail)
      refine HP.out.mono ?_
      rintro e w2 ⟨rfl,hb2⟩
      have k2:=aH ((hb2.block _ HZU.out).trans HCU.out)
      have HB2:=hid (HBU.out.trans (hb2.mono HBU.out.size))
      clear hb2 HP kU
      go_wp2_with fail
      go_roundw
      case rel=>exact⟨m+1,n',k',a'+t.cols.length,h',by omega,by go_num,rfl,rfl,by go_num,by go_num,by omega,by omega,by omega,HB2,hid (HC2.out)⟩
      case measure=>simp[intOf];omega
     ·rw[decide_eq_false htb] at het
      by_cases hnt:t.nm=tb
      ·rw[decide_eq_true hnt] at hent
       rw[if_pos ⟨htb,hnt⟩] at hC2
       have HC2:=hid hC2
       clear hC2 htb hnt
       go_wp2_with (first | (refine wpList_store_row rfl 42 (.tmp 14) (.tmp 22) rfl wr.heap.size #[.string (aj t.nm),.slice ab t.cols.length cb,.int .i64 t.pr] rfl rfl 42 #[.string ⟨#[]⟩,.slice none 0 0,.int .i64 0] (heap_alloc_new wr _) Tryz.bW rfl rfl ?_;rw[aB,hU];clear hU) | fail)
       refine HP.out.mono ?_
       rintro e w2 ⟨rfl,hb2⟩
       have k2:=aH ((hb2.block _ HZU.out).trans HCU.out)
       have HB2:=hid (HBU.out.trans (hb2.mono HBU.out.size))
       clear hb2 HP kU
       go_wp2_with fail
       go_meet
       case rel=>exact⟨n',k',h',rfl,rfl,by go_num,by omega,HB2,hid (HC2.out)⟩
      ·rw[decide_eq_false hnt] at hent
       rw[if_neg (fun h=>hnt h.2)] at hC2
       have HC2:=hid hC2
       clear hC2 htb hnt
       go_wp2_with (first | (refine wpList_store_row rfl 42 (.tmp 14) (.tmp 22) rfl wr.heap.size #[.string (aj t.nm),.slice ab t.cols.length cb,.int .i64 t.pr] rfl rfl 42 #[.string ⟨#[]⟩,.slice none 0 0,.int .i64 0] (heap_alloc_new wr _) Tryz.bW rfl rfl ?_;rw[aB,hU];clear hU) | fail)
       refine HP.out.mono ?_
       rintro e w2 ⟨rfl,hb2⟩
       have k2:=aH ((hb2.block _ HZU.out).trans HCU.out)
       have HB2:=hid (HBU.out.trans (hb2.mono HBU.out.size))
       clear hb2 HP kU
       go_wp2_with fail
       go_roundw
       case rel=>exact⟨m+1,n',k',a'+t.cols.length,h',by omega,by go_num,rfl,rfl,by go_num,by go_num,by omega,by omega,by omega,HB2,hid (HC2.out)⟩
       case measure=>simp[intOf];omega
   ·have hlt' : ¬((m:Int)<(L.length:Int)):=by omega
    have hC2:=HC.out
    rw[List.drop_eq_nil_of_le (by omega)] at hC2
    have HC2:=hid hC2
    have HB2:=HB
    clear hC2 HC
    go_wp2_with fail
    go_meet
    case rel=>exact⟨n',k',h',rfl,rfl,rfl,by omega,HB2,hid HC2.out⟩
 case rest =>
  obtain⟨n',k',h',rfl,rfl,rfl,hh,HB,HRR⟩:=hcut
  have hcW2:wc.heap[w.heap.size]?=some (.cells bS 48):=(HB.out.block _ hzW).trans HCW.out
  have HS:Hid (∀cs:Array Value,Below w.heap.size w (wc.setRow w.heap.size cs)∧(wc.setRow w.heap.size cs).heap[w.heap.size]?=some (.cells cs 48)):=hid (fun cs=>⟨dA (HBW.out.trans (HB.out.mono HBW.out.size)) (Nat.le_refl _) cs,setRow_heap wc w.heap.size _ cs _ _ hcW2⟩)
  by_cases h0:h'=0
  ·have e1:uN R=(mW,0,12):=by rw[← HRR.out];unfold uN;rw[if_pos h0]
   have HE:=hid e1
   subst h0
   have hz:=HS.out bS
   clear e1 HRR
   go_wp2_with (first | (refine wpList_store_row rfl 48 (.tmp 6) (.tmp 64) rfl w.heap.size bS rfl rfl 48 bS hcW2 Tryz.bA rfl iZ ?_) | fail)
   exact bodyPost_ret (v:=.tuple #[.agg bS,.int .i64 0,.int .i64 12]) (by simp[results,Tryz.results41,go_sem,aN hz.2]) rfl ⟨_,by rw[HE.out],fun S=>by rw[HE.out];exact vG S _,hz.1⟩
  ·have h0':(((h':Nat):Int)==0)=false:=by rw[beq_eq_false_iff_ne];omega
   by_cases h1:1<h'
   ·have e1:uN R=(mW,0,13):=by rw[← HRR.out];unfold uN;rw[if_neg h0,if_pos h1]
    have HE:=hid e1
    have h1':(1:Int)<((h':Nat):Int):=by omega
    have hz:=HS.out bS
    clear e1 HRR h0 h1
    go_wp2_with (first | (refine wpList_store_row rfl 48 (.tmp 6) (.tmp 68) rfl w.heap.size bS rfl rfl 48 bS hcW2 Tryz.bA rfl iZ ?_) | fail)
    exact bodyPost_ret (v:=.tuple #[.agg bS,.int .i64 0,.int .i64 13]) (by simp[results,Tryz.results41,go_sem,aN hz.2]) rfl ⟨_,by rw[HE.out],fun S=>by rw[HE.out];exact vG S _,hz.1⟩
   ·have e1:uN R=(.mk 2 0 [] [] ⟨1,n',[]⟩ [],k',0):=by rw[← HRR.out];unfold uN;rw[if_neg h0,if_neg h1]
    have HE:=hid e1
    have h1' : ¬(1:Int)<((h':Nat):Int):=by omega
    have hz:=HS.out (Cm n')
    clear e1 HRR h0 h1
    go_wp2_with (first | (refine wpList_store_row rfl 48 (.tmp 6) (.tmp 71) rfl w.heap.size (Cm n') rfl rfl 48 bS hcW2 Tryz.bA rfl (DK n') ?_) | fail)
    exact bodyPost_ret (v:=.tuple #[.agg (Cm n'),.int .i64 k',.int .i64 0]) (by simp[results,Tryz.results41,go_sem,aN hz.2]) rfl ⟨_,by rw[HE.out],fun S=>by rw[HE.out];exact EW S _ _,hz.1⟩
end Go.Proofs.YtfeglkleoijlaaaGreatDoor
namespace Go.Proofs.YtfeglkleoijlaaaGreatDoor
open Go.RowKit Go.Shelf
set_option linter.unusedSimpArgs false
set_option linter.unusedVariables false
set_option maxRecDepth 20000
set_option maxHeartbeats 8000000
def qb (_:Nat→Prop) (_:World) (x:Int) (cs:List Value):Prop:=cs=[.int .i64 x]
theorem oF {S:Nat→Prop} {w:World} {xs:List Int} {aa:Option Addr} {nn cc:Nat} (h:aQ 1 qb S w xs (.slice aa nn cc)) {j:Nat} {x:Int} (hx:xs[j]?=some x) :
  ∃b off,aa=some ⟨b,off,none⟩∧S b∧w.cell? ⟨b,off+j,none⟩=some (.int .i64 x):=by
 obtain⟨_,_,_,b,off,cs,h1,h2,h3,h4⟩:=bN h hx
 obtain rfl:cs=[.int .i64 x]:=h3
 refine ⟨b,off,h1,h2,?_⟩
 have:=h4 0 _ rfl
 simpa using this
theorem tT {S R T:Nat→Prop} {w w':World} {xs:List Int} {v:Value} (h:aQ 1 qb S w xs v) (hk:aA R w w') (hS : ∀b,S b→b<w.heap.size→¬R b∧T b):aQ 1 qb T w' xs v :=
 h.to (by decide) hk hS (fun _ _ e=>e)
def BH (xs:List Int) (p:Int→Bool):Int:=if xs.findIdx p<xs.length then (xs.findIdx p:Nat) else -1
theorem Dt (xs:List Int) (p:Int→Bool):decide (0≤BH xs p)=xs.any p:=by
 unfold BH
 cases h:xs.any p with
 |
  true =>
  have:xs.findIdx p<xs.length:=by
   rw[List.findIdx_lt_length]
   simpa using h
  rw[if_pos this]
  exact decide_eq_true (by omega)
 |
  false =>
  have : ¬xs.findIdx p<xs.length:=by
   rw[List.findIdx_lt_length]
   simpa using h
  rw[if_neg this]
  exact decide_eq_false (by omega)
theorem mg {xs:List Int} {p:Int→Bool} {k:Nat} {x:Int} (hk:k≤xs.findIdx p) (hx:xs[k]?=some x) (hp:p x=true):xs.findIdx p=k:=by
 obtain⟨h1,h2⟩:=List.getElem?_eq_some_iff.1 hx
 rcases Nat.lt_or_ge k (xs.findIdx p) with h | h
 ·have:=List.not_of_lt_findIdx h
  rw[h2,hp] at this
  exact absurd this (by simp)
 ·omega
theorem mG {xs:List Int} {p:Int→Bool} {k:Nat} {x:Int} (hk:k≤xs.findIdx p) (hx:xs[k]?=some x) (hp:p x=false):k+1≤xs.findIdx p:=by
 obtain⟨h1,h2⟩:=List.getElem?_eq_some_iff.1 hx
 rcases Nat.lt_or_ge k (xs.findIdx p) with h | h
 ·exact h
 ·have e:xs.findIdx p=k:=by omega
  have:=List.findIdx_getElem (p:=p) (xs:=xs) (w:=by omega)
  simp only[e] at this
  rw[h2,hp] at this
  cases this
theorem xY (S:Nat→Prop) (xs:List Int) (v:Value) (x:Int) (w:World) (h:aQ 1 qb S w xs v) :
  Calls Tryz.prog 112 #[v,.int .i64 x] w fun e w'=>e = .returned (.int .i64 (BH xs (fun y=>decide (x=y))))∧w'=w:=by
 have HV:=hid h
 obtain⟨aa,cc,css,rfl,h1,h2,_⟩:=h
 unfold maxLen at h2
 obtain⟨R,hR⟩:∃R,BH xs (fun y=>decide (x=y))=R:=⟨_,rfl⟩
 rw[hR]
 have HR:=hid hR
 clear hR
 go_enter Tryz.func112,Tryz.ntmps112
 go_wp2_with fail
 go_loopw [5,8] (fun _ i wr=>∃k:Nat,k≤xs.length∧i = .int .i64 k∧wr=w∧Hid (k≤xs.findIdx (fun y=>decide (x=y)))) (fun _ i _=>xs.length-(intOf i).toNat)
 case atStart=>exact⟨0,Nat.zero_le _,rfl,rfl,hid (Nat.zero_le _)⟩
 case round =>
  obtain⟨k,hk,rfl,rfl,HK⟩:=hrel
  by_cases hlt:k<xs.length
  ·obtain⟨y,hy⟩:∃y,xs[k]?=some y:=⟨_,List.getElem?_eq_getElem hlt⟩
   obtain⟨b,off,rfl,_,hc⟩:=oF HV.out hy
   have hlt':((k:Int)<(xs.length:Int)):=by omega
   by_cases hxy:x=y
   ·subst hxy
    have e:=mg HK.out hy (decide_eq_true rfl)
    have HRR:Hid (R=(k:Int)):=hid (by rw[← HR.out];unfold BH;rw[e,if_pos hlt])
    clear e hy HK
    go_wp2
    go_ret
    exact⟨by rw[HRR.out];rfl,rfl⟩
   ·have hne:(x==y)=false:=by rw[beq_eq_false_iff_ne];exact hxy
    have HK2:=hid (mG HK.out hy (decide_eq_false hxy))
    clear hy HK hxy
    go_wp2
    go_roundw
    case rel=>exact⟨k+1,by omega,by go_num,trivial,HK2⟩
    case measure=>simp[intOf];omega
  ·have hlt' : ¬((k:Int)<(xs.length:Int)):=by omega
   have HRR:Hid (R = -1):=hid (by rw[← HR.out];unfold BH;rw[if_neg (by have:=HK.out;omega)])
   clear HK
   go_wp2
   go_ret
   exact⟨by rw[HRR.out];rfl,rfl⟩
theorem iO (S:Nat→Prop) (xs:List Int) (v:Value) (x:Int) (w:World) (h:aQ 1 qb S w xs v) :
  Calls Tryz.prog 57 #[v,.int .i64 x] w fun e w'=>e = .returned (.bool (xs.any (fun y=>decide (x=y))))∧w'=w:=by
 have HI:=hid (xY S xs v x w h)
 rw[← Dt]
 obtain⟨aa,cc,css,rfl,_⟩:=h
 generalize BH xs _=r at HI ⊢
 go_enter Tryz.func57,Tryz.ntmps57
 go_wp2_with fail
 refine HI.out.mono ?_
 rintro e w1 ⟨rfl,hw⟩
 obtain rfl:w=w1:=hw.symm
 go_wp2
 go_ret
 exact⟨by simp,rfl⟩
theorem yM (x:Int) (w:World):Calls Tryz.prog 85 #[.int .i64 x] w fun e w'=>e = .returned (.bool (x != 1&&x != 0))∧w'=w:=by
 go_enter Tryz.func85,Tryz.ntmps85
 cases h1:x != 1<;>cases h0:x != 0<;>(go_wp2;go_ret;exact⟨rfl,rfl⟩)
theorem xg (S:Nat→Prop) (xs:List Int) (v:Value) (w:World) (h:aQ 1 qb S w xs v) :
  Calls Tryz.prog 137 #[v,.func (.func 85) #[] #[]] w fun e w'=>e = .returned (.int .i64 (BH xs (fun y=>y != 1&&y != 0)))∧w'=w:=by
 have HV:=hid h
 obtain⟨aa,cc,css,rfl,h1,h2,_⟩:=h
 unfold maxLen at h2
 obtain⟨R,hR⟩:∃R,BH xs (fun y=>y != 1&&y != 0)=R:=⟨_,rfl⟩
 rw[hR]
 have HR:=hid hR
 clear hR
 have eg:=enters_of Tryz.func85 (by kernel_rfl) rfl
 go_enter Tryz.func137,Tryz.ntmps137
 go_wp2_with fail
 go_loopw [5,8] (fun _ i wr=>∃k:Nat,k≤xs.length∧i = .int .i64 k∧wr=w∧Hid (k≤xs.findIdx (fun y=>y != 1&&y != 0))) (fun _ i _=>xs.length-(intOf i).toNat)
 case atStart=>exact⟨0,Nat.zero_le _,rfl,rfl,hid (Nat.zero_le _)⟩
 case round =>
  obtain⟨k,hk,rfl,rfl,HK⟩:=hrel
  by_cases hlt:k<xs.length
  ·obtain⟨y,hy⟩:∃y,xs[k]?=some y:=⟨_,List.getElem?_eq_getElem hlt⟩
   obtain⟨b,off,rfl,_,hc⟩:=oF HV.out hy
   have hlt':((k:Int)<(xs.length:Int)):=by omega
   have HN:=hid (yM y wr)
   cases hp:(y != 1&&y != 0) with
   |
    true =>
    rw[hp] at HN
    have e:=mg HK.out hy hp
    have HRR:Hid (R=(k:Int)):=hid (by rw[← HR.out];unfold BH;rw[e,if_pos hlt])
    clear e hy HK hp
    go_wp2_with fail
    refine HN.out.mono ?_
    rintro e w1 ⟨rfl,hw⟩
    obtain rfl:wr=w1:=hw.symm
    go_wp2
    go_ret
    exact⟨by rw[HRR.out];rfl,rfl⟩
   |
    false =>
    rw[hp] at HN
    have HK2:=hid (mG HK.out hy hp)
    clear hy HK hp
    go_wp2_with fail
    refine HN.out.mono ?_
    rintro e w1 ⟨rfl,hw⟩
    obtain rfl:wr=w1:=hw.symm
    go_wp2
    go_roundw
    case rel=>exact⟨k+1,by omega,by go_num,trivial,HK2⟩
    case measure=>simp[intOf];omega
  ·have hlt' : ¬((k:Int)<(xs.length:Int)):=by omega
   have HRR:Hid (R = -1):=hid (by rw[← HR.out];unfold BH;rw[if_neg (by have:=HK.out;omega)])
   clear HK
   go_wp2
   go_ret
   exact⟨by rw[HRR.out];rfl,rfl⟩
theorem qg (S:Nat→Prop) (xs:List Int) (v:Value) (w:World) (h:aQ 1 qb S w xs v) :
  Calls Tryz.prog 84 #[v,.func (.func 85) #[] #[]] w fun e w'=>e = .returned (.bool (xs.any (fun y=>y != 1&&y != 0)))∧w'=w:=by
 have HI:=hid (xg S xs v w h)
 rw[← Dt]
 obtain⟨aa,cc,css,rfl,_⟩:=h
 generalize BH xs _=r at HI ⊢
 go_enter Tryz.func84,Tryz.ntmps84
 go_wp2_with fail
 refine HI.out.mono ?_
 rintro e w1 ⟨rfl,hw⟩
 obtain rfl:w=w1:=hw.symm
 go_wp2
 go_ret
 exact⟨by simp,rfl⟩
theorem GN (ks:List Int):(!ks.any fun y=>y != 1&&y != 0)=ks.all fun x=>decide (x=1)||decide (x=0):=by
 induction ks with
 | nil=>rfl
 |
  cons k ks ih =>
  rw[List.any_cons,List.all_cons,Bool.not_or,ih]
  congr 1
  by_cases h1:k=1<;>by_cases h0:k=0<;>simp[h1,h0]
theorem nR (S T:Nat→Prop) (x:Ex) (v:Value) (k op:Int) (tb nm:List UInt8) (vl:Vl) (xs:List Ex) (hx:x = .mk k op tb nm vl xs) (ks:List Int) (kv:Value) (w:World) (hv:fB S w x v) (h:aQ 1 qb T w ks kv) (h2:k=3→ks.length=2) :
  Calls Tryz.prog 42 #[v,kv] w fun e w'=>e = .returned (.bool (wY k op ks))∧Below w.heap.size w w':=by
 obtain⟨k',op',tb',nm',vk,vn,vs,ys,aa,nn,cc,he,rfl,_⟩:=hv
 rw[hx] at he
 obtain⟨rfl,rfl,rfl,rfl,rfl,rfl⟩:=Ex.mk.inj he
 obtain⟨W,hW,hbW,hzW,hcW⟩:=aL w (.cells #[.int .i64 k,.int .i64 op,.string (aj tb),.string (aj nm),.int .i64 vk,.int .i64 vn,.string (aj vs),.slice aa nn cc] 48)
 have k0:=aN hcW
 have hT:=tT (T:=T) h (aA.aC (S:=fun _=>False) hbW) (fun b hb _=>⟨id,hb⟩)
 have HB:=hid hbW
 have HC0:=hid (fun m=>iO T ks kv 0 (W.drewN m) (tT (T:=T) hT (aA.aC (S:=fun _=>False) (below_drewN (Below.refl _ W) m)) (fun b hb _=>⟨id,hb⟩)))
 have HCN:=hid (qg T ks kv W hT)
 obtain⟨a2,c2,css,rfl,h1,h3,_⟩:=id hT
 unfold maxLen at h3
 have HT:=hid hT
 clear hbW hcW hT h he hx
 unfold wY
 by_cases h6:k=6
 ·rw[if_pos h6]
  subst h6
  go_enter Tryz.func42,Tryz.ntmps42
  go_wp2_with fail
  try rw[hW]
  go_wp2
  go_ret
  exact⟨rfl,HB.out⟩
 ·rw[if_neg h6]
  have h6':(k==6)=false:=by rw[beq_eq_false_iff_ne];exact h6
  by_cases h38:k=3∧3≤op∧op≤8
  ·rw[if_pos h38]
   obtain⟨rfl,ho1,ho2⟩:=h38
   match ks,h2 rfl with
   |
    [p,q],_ =>
    obtain⟨b,off,rfl,_,c0⟩:=oF HT.out (j:=0) (x:=p) rfl
    obtain⟨b',off',e',_,c1⟩:=oF HT.out (j:=1) (x:=q) rfl
    simp only[Option.some.injEq,Addr.mk.injEq,and_true] at e'
    obtain⟨rfl,rfl⟩:=e'
    rw[Nat.add_zero] at c0
    have hpq:(([p,q]:List Int)[0]?=[p,q][1]?)↔p=q:=by simp
    by_cases he:p=q
    ·rw[decide_eq_true (hpq.2 he),Bool.true_or]
     subst he
     have hpp:(p==p)=true:=beq_self_eq_true p
     go_enter Tryz.func42,Tryz.ntmps42
     go_wp2_with fail
     try rw[hW]
     go_wp2_with fail
     go_quiet (fail)
     go_wp2
     go_ret
     exact⟨rfl,below_drewN HB.out nq⟩
    ·rw[decide_eq_false (fun h=>he (hpq.1 h)),Bool.false_or]
     have he':(p==q)=false:=by rw[beq_eq_false_iff_ne];exact he
     have e0:([p,q].any fun y=>decide ((0:Int)=y))=([p,q].any fun x=>decide (x=0)):=by
      simp only[eq_comm]
     rw[e0] at HC0
     generalize ([p,q].any fun x=>decide (x=0))=r at HC0 ⊢
     go_enter Tryz.func42,Tryz.ntmps42
     go_wp2_with fail
     try rw[hW]
     go_wp2_with fail
     go_quiet ((go_at_call 57;exact Calls.quiet_of_same (HC0.out _)))
     go_wp2
     go_ret
     exact⟨rfl,below_drewN HB.out nq⟩
  ·rw[if_neg h38,← GN]
   clear h2
   generalize (ks.any fun y=>y != 1&&y != 0)=r at HCN ⊢
   by_cases h3:k=3
   ·subst h3
    by_cases ho:3≤op
    ·have ho2 : ¬op≤8:=fun h=>h38 ⟨rfl,ho,h⟩
     clear h38
     go_enter Tryz.func42,Tryz.ntmps42
     go_wp2_with fail
     try rw[hW]
     refine HCN.out.mono ?_
     rintro e w1 ⟨rfl,hw⟩
     obtain rfl:W=w1:=hw.symm
     go_wp2
     go_ret
     exact⟨rfl,HB.out⟩
    ·clear h38
     go_enter Tryz.func42,Tryz.ntmps42
     go_wp2_with fail
     try rw[hW]
     refine HCN.out.mono ?_
     rintro e w1 ⟨rfl,hw⟩
     obtain rfl:W=w1:=hw.symm
     go_wp2
     go_ret
     exact⟨rfl,HB.out⟩
   ·have h3':(k==3)=false:=by rw[beq_eq_false_iff_ne];exact h3
    clear h38
    go_enter Tryz.func42,Tryz.ntmps42
    go_wp2_with fail
    try rw[hW]
    refine HCN.out.mono ?_
    rintro e w1 ⟨rfl,hw⟩
    obtain rfl:W=w1:=hw.symm
    go_wp2
    go_ret
    exact⟨rfl,HB.out⟩
end Go.Proofs.YtfeglkleoijlaaaGreatDoor
namespace Go.Proofs.YtfeglkleoijlaaaGreatDoor
open Go.RowKit Go.Shelf Go.Lib
set_option linter.unusedSimpArgs false
set_option linter.unusedVariables false
set_option maxRecDepth 20000
set_option maxHeartbeats 8000000
theorem nK {w:World} {S:Nat→Prop} {l:List Co} {aa:Option Addr} {nn cc:Nat} (h:aQ 4 gH S w l (.slice aa nn cc)) (hl:l.length*32≤140737488355328) {g:Nat} (hg:w.heap[g]?=some (.cells #[] 60)) (base:Nat) (hb:base≤g) (ty:TypeId) :
  ∃a2 n2 c2 w',(Builtin.append_ #[23,23] ty #[.slice (some ⟨g,0,none⟩) 0 0,.slice aa nn cc]).run Tryz.prog w = .ok (.slice a2 n2 c2) w'∧w'.ownsRow base 60 4 (.slice a2 n2 c2) l.length (dx l)∧aA (fun k=>k=g) w w':=by
 obtain⟨i0,hi,hy0,hy1,hy2⟩:=info_parts Tryz.zS
 have hgl:g<w.heap.size:=World.lt_of_block hg
 have hown:w.ownsRow base 60 4 (.slice (some ⟨g,0,none⟩) 0 0) 0 []:=⟨by simp,.inr ⟨g,0,#[],rfl,hb,hg,Nat.le_refl _,by unfold maxLen;omega,rfl,by simp⟩⟩
 have hform : ∀(v:Value) (W:World) (n:Nat) (xs:List Value),W.ownsRow base 60 4 v n xs→∃a2 n2 c2,v = .slice a2 n2 c2:=fun v W n xs h=>by
  rcases h.2 with⟨rfl,_⟩ | ⟨_,_,_,rfl,_⟩<;>exact⟨_,_,_,rfl⟩
 have hbel : ∀W:World,w.grownBy W (some g)→aA (fun k=>k=g) w W:=fun W hW=>aA.dZ (S:=fun k=>k=g) hW (fun k e=>by injection e with e;exact e.symm)
 obtain⟨a,c,css,hv,h1,h2,h4,h5⟩:=id h
 simp only[Value.slice.injEq] at hv
 obtain⟨rfl,rfl,rfl⟩:=hv
 cases aa with
 |
  none =>
  have hn:l=[]:=by
   by_cases e:l=[]
   ·exact e
   ·obtain⟨b,off,e2,_⟩:=h5 e
    cases e2
  subst hn
  have hr:(Builtin.append_ #[23,23] ty #[.slice (some ⟨g,0,none⟩) 0 0,.slice none 0 cc]).run Tryz.prog w = .ok (.slice (some ⟨g,0,none⟩) 0 0) w:=by
   simp[Builtin.append_,run_underlying Tryz.underlying23,sizeOf,typeInfo,hi,Builtin.lenOf,Builtin.firstCells,storeCells]
  exact⟨_,_,_,w,hr,hown,aA.refl _ _⟩
 |
  some p =>
  have hcells : ∀j u,(dx l)[j]?=some u→w.cell? (p.add j)=some u:=fun j u hu=>by
   have hne:l≠[]:=fun e=>by subst e;simp[dx] at hu
   obtain⟨b,off,c,hv,_,_,_,_,hel⟩:=fq h hne
   simp only[Value.slice.injEq,Option.some.injEq] at hv
   obtain⟨rfl,_,_⟩:=hv
   obtain⟨x,e1,e2⟩:=ni l j u hu
   have:=hel w (Below.refl _ _) (j / 4) x e1 (j % 4) u e2
   have e:off+j / 4*4+j % 4=off+j:=by omega
   rw[e] at this
   rw[Addr.add_lit]
   exact this
  obtain⟨v',w',hr,ho,hg2,_⟩:=run_append_own (P:=Tryz.prog) w base 23 ty 60 i0 _ 4 32 Tryz.underlying23 hi hy0 hy1 hy2 rfl (by decide) (.slice (some ⟨g,0,none⟩) 0 0) 0 [] hown p l.length cc (dx l) (fT l) hcells (sN l) (by unfold maxLen;omega) (by rw[Nat.zero_add];exact hl) (by omega)
  rw[Nat.zero_add,List.nil_append] at ho
  obtain⟨a2,n2,c2,rfl⟩:=hform v' w' _ _ ho
  exact⟨a2,n2,c2,w',hr,ho,hbel w' hg2⟩
theorem wpList_append_run {P:Program} {ops:Array Oper} {rest:List Oper} {o:Oper} {a:Act} {Q:Exit→Act→World→Prop} (w:World) (hgd:o.guard=none) (s x:Operand) (t:TypeId)
  (ho:o.op = .call { callee:=.builtin .append,args:=#[s,x],argTypes:=#[t,t] }) (v u v':Value) (w':World) (hs:a.eval s=v) (hx:a.eval x=u) (hr:(Builtin.append_ #[t,t] o.type #[v,u]).run P w = .ok v' w')
  (h:wpList P ops Q rest (a.put o.dst v') w'):wpList P ops Q (o::rest) a w:=by
 refine wpList_plain hgd fun _ hK=>?_
 unfold Oper.wp execOp
 simp only[ho,resolve,invoke,builtin,Sem.run_bind,Sem.run_pure,Result.andThen_ok,List.map_toArray,List.map_cons,List.map_nil,hs,hx,hr]
 exact hK _ _ h
theorem tH (S:Nat→Prop) (t:Tb) (cs:List Value) (w:World) (h:dK S w t cs) (hl:t.cols.length*32≤140737488355328) :
  Calls Tryz.prog 45 #[.agg cs.toArray] w fun e w'=>∃ds:List Value,e = .returned (.agg ds.toArray)∧yR w.heap.size w' t ds∧Below w.heap.size w w':=by
 obtain⟨aa,nn,cc,rfl,hsl⟩:=h
 obtain⟨nm,l,pr⟩:=t
 dsimp only at hsl hl ⊢
 obtain⟨W,hW,hbW,hzW,hcA,hcB⟩:=two w (.cells #[.string (aj nm),.slice aa nn cc,.int .i64 pr] 42) (.cells #[.string ⟨#[]⟩,.slice none 0 0,.int .i64 0] 42)
 obtain⟨U,hU,hbU,hzU,hcU⟩:=aL W (.cells #[] 60)
 have hBU:=hbW.trans (hbU.mono hbW.size)
 obtain⟨a2,n2,c2,w2,hrun,hown,hs2⟩:=nK (hsl.to (T:=S) (by decide) (R:=fun _=>False) (aA.aC hBU) (fun b hb _=>⟨id,hb⟩) (fun _ _ e=>e)) hl hcU W.heap.size (Nat.le_refl _) 23
 have hb2:Below W.heap.size U w2:=hs2.below (fun i hi=>by omega) (by omega)
 clear hs2
 have HRUN:=hid hrun
 clear hrun
 have kU:=aH ((hbU.block w.heap.size (by omega)).trans hcA)
 have hA2:=(hb2.block w.heap.size (by omega)).trans ((hbU.block w.heap.size (by omega)).trans hcA)
 have hZ2:=(hb2.block (w.heap.size+1) (by omega)).trans ((hbU.block (w.heap.size+1) (by omega)).trans hcB)
 have hz2:W.heap.size≤w2.heap.size:=by have:=hb2.size;omega
 obtain⟨X,hX,hcX,hspX⟩:=zO hA2 (.slice a2 n2 c2)
 have k2:=aH hA2
 have hzX:=hspX.size
 have hZX:=(hspX.block (w.heap.size+1) (by omega) (by omega)).trans hZ2
 have kX:=aH hcX
 have kZ:=aH hZX
 have hB2:Below w.heap.size w w2:=hBU.trans (hb2.mono (by omega))
 have HBX:Hid (Below w.heap.size w X):=hid (hB2.trans (hspX.below (fun i hi=>by omega) hB2.size))
 have HOX:Hid (X.ownsRow W.heap.size 60 4 (.slice a2 n2 c2) l.length (dx l)):=hid (hspX.row hown (fun b hb=>by have:=(hown.lt b hb).1;omega))
 clear hcA hcB hbW hsl hbU hcU hBU hb2 hA2 hZ2 hspX hZX hB2 hcX hown
 go_enter Tryz.func45,Tryz.ntmps45
 go_wp2_with (at_builtin;refine wpList_append_run _ rfl (.tmp 3) (.tmp 5) 23 rfl _ _ _ _ rfl rfl HRUN.out ?_)
 have hSp:aA (fun k=>k=w.heap.size+1) X (((X.setCell ⟨w.heap.size+1,0,none⟩ (.string (aj nm))).setCell ⟨w.heap.size+1,1,none⟩ (.slice a2 n2 c2)).setCell ⟨w.heap.size+1,2,none⟩ (.int .i64 pr)):=(((aA.refl (fun k=>k=w.heap.size+1) X).own _ _).own _ _).own _ _
 have hB:Below w.heap.size w (((X.setCell ⟨w.heap.size+1,0,none⟩ (.string (aj nm))).setCell ⟨w.heap.size+1,1,none⟩ (.slice a2 n2 c2)).setCell ⟨w.heap.size+1,2,none⟩ (.int .i64 pr)):=HBX.out.trans (hSp.below (fun i hi=>by omega) HBX.out.size)
 refine bodyPost_ret (v:=.agg #[.string (aj nm),.slice a2 n2 c2,.int .i64 pr]) (by simp[results,Tryz.results45,go_sem,kZ]) rfl ⟨_,rfl,⟨_,_,_,rfl,?_⟩,hB⟩
 exact dP (hSp.row HOX.out (fun b hb=>by have:=(HOX.out.lt b hb).1;omega)) (fun b hb=>by have:=(HOX.out.lt b hb).1;omega)
end Go.Proofs.YtfeglkleoijlaaaGreatDoor
