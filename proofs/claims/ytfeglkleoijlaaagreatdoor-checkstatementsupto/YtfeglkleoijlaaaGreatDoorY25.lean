import Derived.Test.YtfeglkleoijlaaaGreatDoorY21
import Derived.Test.YtfeglkleoijlaaaGreatDoorY24
import Derived.Test.YtfeglkleoijlaaaGreatDoorY08
import Derived.Test.YtfeglkleoijlaaaGreatDoorY22
import Derived.Test.YtfeglkleoijlaaaGreatDoorY23
namespace Go.Proofs.YtfeglkleoijlaaaGreatDoor
open Go.RowKit Go.Shelf
set_option linter.unusedSimpArgs false
set_option linter.unusedVariables false
set_option maxRecDepth 20000
set_option maxHeartbeats 8000000
def mR (t:Tb):Prop:=t.nm.length≤16∧t.aC.length≤8∧t.aC≠[]∧∀c∈t.aC,c.nm.length≤16∧(c.k=1∨c.k=2)
theorem RO {t:Tb} (h:lK t=true):mR t:=by
 have hm:=xP h
 have hk:=wG (s:=dx t) (by rw[hm])
 obtain⟨h1,h2,h3⟩:=lM hk.1 hk.2.1
 refine ⟨jd h3,(bG h1).2,fun e=>by have:=(bG h1).1;dsimp only[dx] at this;rw[e] at this;simp at this,fun c hc=>?_⟩
 have:=aP h1 c hc
 unfold iV at this
 simp only[aaC,aaI] at this
 exact⟨jd this.1,this.2⟩
def Af (l:List Co) (i:Nat):Int:=(l[i]?.map Co.k).getD 0
def jL (tb nm:List UInt8):List Tb→Int→Int × Int × Nat→Int × Int × Nat
 | [],_,a=>a
 |
  t::l,ahead,a =>
  let a':=if bF t.aC nm<t.aC.length∧(tb=[]∨t.nm=tb) then (ahead+(bF t.aC nm:Nat),Af t.aC (bF t.aC nm),a.2.2+1) else a
  if tb≠[]∧t.nm=tb then a' else jL tb nm l (ahead+(t.aC.length:Nat)) a'
theorem Bh (tb nm:List UInt8):∀(l:List Tb) (ahead:Int) (a:Int × Int × Nat),a.2.2≤(jL tb nm l ahead a).2.2
 | [],_,a=>aaF _
 |
  t::l,ahead,a=>by
  unfold jL
  dsimp only
  have h1:a.2.2≤(if bF t.aC nm<t.aC.length∧(tb=[]∨t.nm=tb) then (ahead+(bF t.aC nm:Nat),Af t.aC (bF t.aC nm),a.2.2+1) else a).2.2:=by
   split
   ·exact Nat.le_succ _
   ·exact aaF _
  split
  ·exact h1
  ·exact Nat.le_trans h1 (Bh tb nm l _ _)
def AU (L:List Tb) (tb nm:List UInt8):Ex × Int × Int :=
 let r:=jL tb nm L 0 (0,0,0)
 if r.2.2=0 then (tO,0,12) else if 1<r.2.2 then (tO,0,13) else (.mk 2 0 [] [] ⟨1,r.1,[]⟩ [],r.2.1,0)
def uU (k op:Int) (ks:List Int):Bool :=
 if k=6 then true
 else if k=3∧3≤op∧op≤8 then decide (ks[0]?=ks[1]?)||ks.any fun x=>decide (x=0)
 else ks.all fun x=>decide (x=1)||decide (x=0)
def aI (L:List Tb):Ex→Ex × Int × Int
 |
  .mk k op tb nm v xs =>
  if aO ((xs.attach.map fun x=>aI L x.1).map fun r=>r.2.2)≠0 then (tO,0,aO ((xs.attach.map fun x=>aI L x.1).map fun r=>r.2.2))
  else if k=1 then (.mk 1 0 [] [] v [],v.k,0)
  else if k=2 then AU L tb nm
  else if uU k op ((xs.attach.map fun x=>aI L x.1).map fun r=>r.2.1)=true then (.mk k op [] [] zV ((xs.attach.map fun x=>aI L x.1).map fun r=>r.1),1,0)
  else (tO,0,9)
termination_by e=>SizeOf.sizeOf e
decreasing_by all_goals (simp_wf;have:=List.sizeOf_lt_of_mem x.2;omega)
theorem map_attach {α β:Type} (xs:List α) (f:α→β):(xs.attach.map fun x=>f x.1)=xs.map f:=by
 simp
theorem jF (L:List Tb) (k op:Int) (tb nm:List UInt8) (v:Vl) (xs:List Ex):aI L (.mk k op tb nm v xs) =
  if aO (xs.map fun x=>(aI L x).2.2)≠0 then (tO,0,aO (xs.map fun x=>(aI L x).2.2))
  else if k=1 then (.mk 1 0 [] [] v [],v.k,0)
  else if k=2 then AU L tb nm
  else if uU k op (xs.map fun x=>(aI L x).2.1)=true then (.mk k op [] [] zV (xs.map fun x=>(aI L x).1),1,0)
  else (tO,0,9):=by
 have e:=map_attach xs (aI L)
 rw[aI,e,List.map_map,List.map_map,List.map_map]
 rfl
def iP (L:List Tb) (e:Ex):Ex × Int × Int:=if aF e=true then aI L e else (tO,0,4)
def sS (L:List Tb) (e:Ex):Int:=if (aI L e).2.2=0∧(aI L e).2.1=2 then 9 else (aI L e).2.2
def fE (L:List Tb) (es:List Ex):Int:=aO (es.map (sS L))
def oD (t:Tb) (r:List Vl):Bool:=(r.zip t.aC).all fun x=>decide (x.1.k=0)||decide (x.1.k=x.2.k)
def qW (t:Tb) (r:List Vl):Int:=if r.length≠t.aC.length then 15 else if oD t r=true then 0 else 9
def oh (t:Tb) (rows:List (List Vl)):Int:=aO (rows.map (qW t))
def qI (t:Tb) (ahead:List Se) (s:Se):Int :=
 if t.aC.length≤bF t.aC s.nm then 12
 else if (ahead.any fun x=>decide (x.nm=s.nm))=true then 13
 else if (aI [t] s.e).2.2=0∧(aI [t] s.e).2.1≠0∧(aI [t] s.e).2.1≠Af t.aC (bF t.aC s.nm) then 9
 else (aI [t] s.e).2.2
def iO (t:Tb):List Se→List Se→List Int
 | _,[]=>[]
 | ahead,s::l=>qI t ahead s::iO t (ahead++[s]) l
def cB (s:St):Bool:=decide (0<s.gr.length)||s.items.any fun i=>decide (3≤i.k∧i.k≤7)
def valOf:Ex→Vl
 | .mk _ _ _ _ v _=>v
def wM (L:List Tb) (gr:List Ex) (x:Ex):Bool:=decide (gr.length=1)&&(decide (fV x=2)&&eqv (valOf x) (valOf (aI L (gr.headD tO)).1))
def zR (L:List Tb) (s:St) (i:It) (e:Ex):Int :=
 if (aI L e).2.2≠0 then (aI L e).2.2
 else if i.k=5∧(aI L e).2.1=2 then 9
 else if i.k=2∧cB s=true∧wM L s.gr (aI L e).1=false then 4
 else 0
def iQ (L:List Tb) (s:St) (i:It):Int:=if i.k=1∧cB s=true then 4 else aO (i.xs.map (zR L s i))
def lX (L:List Tb) (s:St) (e:Ex):Int:=if (aI L e).2.2=0∧cB s=true∧wM L s.gr (aI L e).1=false then 4 else (aI L e).2.2
def fu (L:List Tb):Nat:=(L.map fun t=>t.aC.length).sum
def dD (L:List Tb) (items:List It):Nat:=(items.map fun i=>if i.k=1 then fu L else 1).sum
def Nh (L:List Tb) (s:St):Int :=
 if fE L (s.on++s.wh)≠0 then fE L (s.on++s.wh)
 else if aO (s.gr.map fun e=>(aI L e).2.2)≠0 then aO (s.gr.map fun e=>(aI L e).2.2)
 else if aO (s.items.map (iQ L s))≠0 then aO (s.items.map (iQ L s))
 else if aO (s.od.map (lX L s))≠0 then aO (s.od.map (lX L s))
 else if cB s=false∧8<dD L s.items then 4 else 0
def lu (C:List Tb) (t:Tb) (jn:List UInt8):List Tb × Int :=
 if jn=[] then ([t],0) else if jn ∉ C.map Tb.nm then ([],11) else if (fC C jn).nm=t.nm then ([],13) else ([t,fC C jn],0)
def Je (t:Tb) (s:St):Int:=if aO (iO t [] s.sets)≠0 then aO (iO t [] s.sets) else fE [t] s.wh
def mP (C:List Tb) (t:Tb) (s:St):Int:=if (lu C t s.jn).2≠0 then (lu C t s.jn).2 else Nh (lu C t s.jn).1 s
def l9 (C:List Tb) (s:St):Int :=
 if aQ s=true then
  (if s.k=1 then (if (bU s).2=0∧s.tb∈C.map Tb.nm then 13 else (bU s).2)
  else if s.tb ∉ C.map Tb.nm then 11
  else if s.k=3 then oh (fC C s.tb) s.rows
  else if s.k=4 then Je (fC C s.tb) s
  else if s.k=5 then fE [fC C s.tb] s.wh
  else if s.k=6 then mP C (fC C s.tb) s
  else 0)
 else 4
open Go.Lib
theorem Gp (nm:List UInt8) (B:Nat) (w:World) (hB:B<w.heap.size) (hcell:w.cell? ⟨B,0,none⟩=some (.string (aj nm))) :
  PredBelow Tryz.prog 111 #[.pointer (some ⟨B,0,none⟩)] (fun x=>.agg (mH x).toArray) (fun x=>decide (x.nm=nm)) w:=fun W x hb=>by
 have hc:W.cell? ⟨B,0,none⟩=some (.string (aj nm)):=(hb.cell (p:=⟨B,0,none⟩) hB).trans hcell
 obtain⟨V,hV,mU,K4,wH⟩:=aK W (.cells #[.string (aj x.nm),.int .i64 x.k,.bool x.nn,.bool x.uq] 60)
 have k0:=uz wH
 have k1:V.cell? ⟨B,0,none⟩=some (.string (aj nm)):=(mU.cell (p:=⟨B,0,none⟩) (aa7 hB hb.size)).trans hc
 have HB:=hid (hb.trans (mU.mono hb.size))
 have he:((aj x.nm).toList==(aj nm).toList)=decide (x.nm=nm):=by
  rw[aS,aS]
  by_cases h:x.nm=nm<;>simp[h]
 show Calls Tryz.prog 111 #[.agg #[.string (aj x.nm),.int .i64 x.k,.bool x.nn,.bool x.uq],.pointer (some ⟨B,0,none⟩)] W _
 dsimp only
 rw[← he]
 clear hb mU wH hc hcell he
 go_enter Tryz.func111,Tryz.ntmps111
 go_wp2_with fail
 try rw[hV]
 go_wp2
 go_ret
 exact⟨rfl,HB.out⟩
theorem xX (S:Nat→Prop) (t:Tb) (cs:List Value) (nm:List UInt8) (w:World) (h:fG S w t cs) (hne:t.aC≠[]) :
  Calls Tryz.prog 56 #[.agg cs.toArray,.string (aj nm)] w fun e w'=>e = .returned (.int .i64 (gG t.aC nm))∧Below w.heap.size w w':=by
 obtain⟨aa,nn,cc,rfl,hsl⟩:=h
 obtain⟨b,off,c,hv,h1,h2,hS,hlt,hel⟩:=iX hsl hne
 simp only[aah] at hv
 obtain⟨rfl,rfl,rfl⟩:=hv
 unfold maxLen at h2
 obtain⟨W,hW,hbW,aJ,hcA,hcW⟩:=two w (.cells #[.string (aj t.nm),.slice (some ⟨b,off,none⟩) t.aC.length cc,.int .i64 t.pr] 42) (.cells #[.string (aj nm)] 9)
 have k0:=aH hcA
 have hcell:W.cell? ⟨w.heap.size+1,0,none⟩=some (.string (aj nm)):=by rw[aB _ _ _ _ _ _ hcW];rfl
 have HC:=hid (AnyQ.slices_IndexFunc MS 4 Tryz.isAgg60 Tryz.sizeOf60 mH (fun _=>rfl) (fun x=>decide (x.nm=nm)) 111 #[.pointer (some ⟨w.heap.size+1,0,none⟩)] (enters_of Tryz.func111 (by kernel_rfl) rfl) b off t.aC.length cc t.aC W
  (Gp nm (w.heap.size+1) W aJ hcell) (aaF _) (by omega) (by omega) (fun j hj i u hu=>hel W hbW j t.aC[j]! (by rw[getElem!_pos t.aC j hj];exact aaf hj) i u hu))
 rw[vE] at HC
 generalize gG t.aC nm=r at HC ⊢
 have HB:=hid hbW
 clear hel hcell hcW hbW hcA hsl
 go_enter Tryz.func56,Tryz.ntmps56
 go_wp2_with fail
 try rw[hW]
 refine HC.out.mono ?_
 rintro e w1 ⟨rfl,hb1⟩
 have HB1:=htr HB hb1
 clear hb1
 go_wp2
 go_ret
 exact⟨rfl,HB1.out⟩
theorem Aj {l:List Co} {nm:List UInt8} (h:bF l nm<l.length):gG l nm=(bF l nm:Nat):=by unfold gG;rw[if_pos h]
theorem AA {l:List Co} {nm:List UInt8} (h : ¬bF l nm<l.length):gG l nm = -1:=by unfold gG;rw[if_neg h]
abbrev J2 (n:Int):Array Value:=#[.int .i64 2,.int .i64 0,.string ⟨#[]⟩,.string ⟨#[]⟩,.int .i64 1,.int .i64 n,.string ⟨#[]⟩,.slice none 0 0]
abbrev eT:Array Value:=#[.int .i64 0,.int .i64 0,.string ⟨#[]⟩,.string ⟨#[]⟩,.int .i64 0,.int .i64 0,.string ⟨#[]⟩,.slice none 0 0]
theorem uY (S:Nat→Prop) (w:World):gH S w tO (.agg eT):=⟨0,0,[],[],0,0,[],[],none,0,0,rfl,rfl,.nil _ _ (by unfold maxLen;omega)⟩
theorem I9 (S:Nat→Prop) (w:World) (n:Int):gH S w (.mk 2 0 [] [] ⟨1,n,[]⟩ []) (.agg (J2 n)):=⟨2,0,[],[],1,n,[],[],none,0,0,rfl,rfl,.nil _ _ (by unfold maxLen;omega)⟩
theorem M4:eT.all (·.oneCell')=true:=by simp[Value.oneCell']
theorem AP (s:List UInt8):(aj s).toList.isEmpty=decide (s=[]):=by
 rw[aS]
 cases s<;>simp
def rF (r:Int × Int × Nat):Ex × Int × Int:=if r.2.2=0 then (tO,0,12) else if 1<r.2.2 then (tO,0,13) else (.mk 2 0 [] [] ⟨1,r.1,[]⟩ [],r.2.1,0)
theorem cK {B:Nat} {w w':World} {g:Nat} (h:Below B w w') (hg:B≤g) (cs:Array Value):Below B w (w'.setRow g cs) :=
 ⟨h.os,h.tape,h.output,by simpa using h.size,fun k hk=>(setRow_other _ _ _ _ (by omega)).trans (h.block k hk)⟩
theorem rD : ∀n:Int,-1000000000≤n→n≤1000000000→IntKind.i64.wrap n=n:=by
 intro n h0 h1
 rw[IntKind.wrap_i64]
 omega
theorem wW (S:Nat→Prop) (L:List Tb) (v:Value) (tb nm:List UInt8) (w:World) (hL:aM 3 fG S w L v) (hK : ∀t∈L,mR t) (hn:L.length≤100) :
  Calls Tryz.prog 41 #[v,.string (aj tb),.string (aj nm)] w fun e w'=>∃u,e = .returned (.tuple #[u,.int .i64 (AU L tb nm).2.1,.int .i64 (AU L tb nm).2.2])∧(∀S,gH S w' (AU L tb nm).1 u)∧Below w.heap.size w w':=by
 have HL:=hid hL
 have HK:=hid hK
 obtain⟨aa,cc,css,rfl,h1,h2,_⟩:=hL
 unfold maxLen at h2
 show Calls Tryz.prog _ _ w fun e w'=>∃u,e = .returned (.tuple #[u,.int .i64 (rF (jL tb nm L 0 (0,0,0))).2.1,.int .i64 (rF (jL tb nm L 0 (0,0,0))).2.2])∧(∀S,gH S w' (rF (jL tb nm L 0 (0,0,0))).1 u)∧Below w.heap.size w w'
 obtain⟨R,hR⟩:∃R,jL tb nm L 0 (0,0,0)=R:=⟨_,rfl⟩
 rw[hR]
 have HR:=hid hR
 obtain⟨W,hW,hbW,aJ,hcW⟩:=aK w (.cells eT 48)
 have eF:=hid hbW
 have rJ:=hid hcW
 have HLW:Hid (aM 3 fG S W L (.slice aa L.length cc)):=hid (HL.out.to (by decide) (R:=fun _=>False) (ak.aA hbW) (fun b hb _=>⟨id,hb⟩) (fun _ _ e=>e.on hbW))
 have het:=AP tb
 clear hR hbW hcW hK
 go_enter Tryz.func41,Tryz.ntmps41
 go_upto_block 0 with fail
 try rw[hW]
 clear hW
 go_cut [9,10,11] from 12 to 60 (fun n k h wx=>∃(n' k':Int) (h':Nat),n = .int .i64 n'∧k = .int .i64 k'∧h = .int .i64 h'∧h'≤100∧Hid (Below W.heap.size W wx)∧Hid ((n',k',h')=R))
 case first =>
  go_wp2_with fail
  go_loopw [9,10,11,12,14,15,16,19] (fun n k h a _ _ _ i wr=>∃(m:Nat) (n' k' a':Int) (h':Nat),m≤L.length∧i = .int .i64 m∧n = .int .i64 n'∧k = .int .i64 k'∧h = .int .i64 h'∧a = .int .i64 a'∧0≤a'∧a'≤8*m∧h'≤m∧Hid (Below W.heap.size W wr)∧Hid (jL tb nm (L.drop m) a' (n',k',h')=R)) (fun _ _ _ _ _ _ _ i _=>L.length-(intOf i).toNat)
  case atStart=>exact⟨0,0,0,0,0,aaV _,rfl,rfl,rfl,rfl,rfl,by omega,by omega,by omega,hid (Below.refl _ _),hid (by rw[List.drop_zero];exact HR.out)⟩
  case round =>
   obtain⟨m,n',k',a',h',hm,rfl,rfl,rfl,rfl,rfl,ha0,ha1,hh,HB,HC⟩:=hrel
   by_cases hlt:m<L.length
   ·obtain⟨t,ht⟩:∃t,L[m]?=some t:=⟨_,aaf hlt⟩
    have hlt':((m:Int)<(L.length:Int)):=by omega
    obtain⟨hn16,hc8,Lf,hck⟩:=HK.out t (aaP ht)
    obtain⟨_,_,_,b,off,cs,rfl,_,hel,hcell⟩:=bC (HLW.out.to (T:=S) (by decide) (R:=fun _=>False) (ak.aA HB.out) (fun b hb _=>⟨id,hb⟩) (fun _ _ e=>e.on HB.out)) ht
    have eO:=hel
    obtain⟨ab,nb,cb,rfl,hsl⟩:=hel
    have q0:=hcell 0 _ rfl
    have q1:=hcell 1 _ rfl
    have q2:=hcell 2 _ rfl
    simp only[aa2] at q0
    have hnb:nb=t.aC.length:=by obtain⟨_,_,hf⟩:=hsl.form;simp only[aah] at hf;exact hf.2.1
    subst hnb
    obtain⟨U,hU,bB,jc,eU⟩:=aK wr (.cells #[.string (aj t.nm),.slice ab t.aC.length cb,.int .i64 t.pr] 42)
    have kU:=aH eU
    have HP:=hid (xX S t _ nm U (eO.on bB) Lf)
    have Rx:=hid eU
    have bS:=htr HB bB
    have HSL:Hid (aM 4 ku S U t.aC (.slice ab t.aC.length cb)):=hid (hsl.to (by decide) (R:=fun _=>False) (ak.aA bB) (fun b hb _=>⟨id,hb⟩) (fun _ _ e=>e))
    have KW:=hid jc
    have hd:L.drop m=t::L.drop (m+1):=by
     obtain⟨g1,g2⟩:=aam.1 ht
     rw[List.drop_eq_getElem_cons g1,g2]
    have hC2:=HC.out
    rw[hd,jL] at hC2
    dsimp only at hC2
    have hi0:=I4 t.aC nm
    obtain⟨p,hp⟩:∃p,bF t.aC nm=p:=⟨_,rfl⟩
    have hent:((aj t.nm).toList==(aj tb).toList)=decide (t.nm=tb):=by
     rw[aS,aS]
     by_cases h:t.nm=tb<;>simp[h]
    have hw3:IntKind.i64.wrap (a'+(t.aC.length:Int))=a'+(t.aC.length:Int):=rD _ (by omega) (by omega)
    clear bB eU eO hsl hcell hd HC HB jc ht
    by_cases hf:p<t.aC.length
    ·have hpc:gG t.aC nm=(p:Int):=by rw[Aj (by rw[hp];exact hf),hp]
     rw[hpc] at HP
     have hge:(0:Int)≤(p:Int):=by omega
     obtain⟨x,hx⟩:∃x,t.aC[p]?=some x:=⟨_,aaf hf⟩
     have hkx:Af t.aC p=x.k:=by unfold Af;rw[hx];rfl
     obtain⟨_,_,_,b2,off2,Ro,rfl,_,hx2,hcell2⟩:=bC HSL.out hx
     obtain rfl:Ro=[.string (aj x.nm),.int .i64 x.k,.bool x.nn,.bool x.uq]:=hx2
     have c1:=hcell2 1 _ rfl
     have dB:=hid c1
     have Ww:=hid (World.block_lt_of_cell? U _ c1)
     have hpl:(p:Int)<(t.aC.length:Int):=by omega
     have hw1:IntKind.i64.wrap (a'+(p:Int))=a'+(p:Int):=rD _ (by omega) (by omega)
     have hw2:IntKind.i64.wrap ((h':Int)+1)=(h':Int)+1:=rD _ (by omega) (by omega)
     rw[hp,hkx] at hC2
     clear c1 hcell2 HSL hpc hkx hp hck hi0 Lf hn16
     by_cases htb:tb=[]
     ·rw[aar htb] at het
      rw[if_neg (show ¬(tb≠[]∧t.nm=tb) from fun h=>h.1 htb),if_pos (show p<t.aC.length∧(tb=[]∨t.nm=tb) from ⟨hf,.inl htb⟩)] at hC2
      have jr:=hid hC2
      clear hC2 hx htb
      go_wp2_with (first | (refine eX hU ?_;clear hU) | fail)
      refine HP.out.mono ?_
      rintro e w2 ⟨rfl,hb2⟩
      have k2:=aH ((hb2.block _ KW.out).trans Rx.out)
      have c1:=(hb2.cell (p:=⟨b2,_,none⟩) Ww.out).trans dB.out
      have HB2:=htr bS hb2
      clear hb2 HP kU
      go_wp2_with fail
      go_quiet (fail)
      have HB3:=hid (below_drewN HB2.out nq)
      go_wp2_with fail
      go_roundw
      case rel=>exact⟨m+1,a'+p,x.k,a'+t.aC.length,h'+1,by omega,by go_num,rfl,rfl,by go_num,by go_num,by omega,by omega,by omega,HB3,hid (jr.out)⟩
      case measure=>simp[intOf];omega
     ·rw[aaj htb] at het
      by_cases hnt:t.nm=tb
      ·rw[aar hnt] at hent
       rw[if_pos (show tb≠[]∧t.nm=tb from ⟨htb,hnt⟩),if_pos (show p<t.aC.length∧(tb=[]∨t.nm=tb) from ⟨hf,.inr hnt⟩)] at hC2
       have jr:=hid hC2
       clear hC2 hx htb hnt
       go_wp2_with (first | (refine eX hU ?_;clear hU) | fail)
       refine HP.out.mono ?_
       rintro e w2 ⟨rfl,hb2⟩
       have k2:=aH ((hb2.block _ KW.out).trans Rx.out)
       have c1:=(hb2.cell (p:=⟨b2,_,none⟩) Ww.out).trans dB.out
       have HB2:=htr bS hb2
       clear hb2 HP kU
       go_wp2_with fail
       go_quiet (fail)
       have HB3:=hid (below_drewN HB2.out nq)
       go_wp2_with fail
       go_meet
       case rel=>exact⟨a'+p,x.k,h'+1,rfl,rfl,by go_num,by omega,HB3,hid (jr.out)⟩
      ·rw[aaj hnt] at hent
       rw[if_neg (show ¬(tb≠[]∧t.nm=tb) from fun h=>hnt h.2),if_neg (show ¬(p<t.aC.length∧(tb=[]∨t.nm=tb)) from fun h=>h.2.elim htb hnt)] at hC2
       have jr:=hid hC2
       clear hC2 hx htb hnt
       go_wp2_with (first | (refine eX hU ?_;clear hU) | fail)
       refine HP.out.mono ?_
       rintro e w2 ⟨rfl,hb2⟩
       have k2:=aH ((hb2.block _ KW.out).trans Rx.out)
       have HB2:=htr bS hb2
       clear hb2 HP kU
       go_wp2_with fail
       go_roundw
       case rel=>exact⟨m+1,n',k',a'+t.aC.length,h',by omega,by go_num,rfl,rfl,by go_num,by go_num,by omega,by omega,by omega,HB2,hid (jr.out)⟩
       case measure=>simp[intOf];omega
    ·have hpc:gG t.aC nm = -1:=AA (by rw[hp];exact hf)
     rw[hpc] at HP
     rw[hp] at hC2
     clear HSL hpc hp hck hi0 Lf hn16
     rw[if_neg (show ¬(p<t.aC.length∧(tb=[]∨t.nm=tb)) from fun h=>hf h.1)] at hC2
     by_cases htb:tb=[]
     ·rw[aar htb] at het
      rw[if_neg (fun h=>h.1 htb)] at hC2
      have jr:=hid hC2
      clear hC2 htb
      go_wp2_with (first | (refine eX hU ?_;clear hU) | fail)
      refine HP.out.mono ?_
      rintro e w2 ⟨rfl,hb2⟩
      have k2:=aH ((hb2.block _ KW.out).trans Rx.out)
      have HB2:=htr bS hb2
      clear hb2 HP kU
      go_wp2_with fail
      go_roundw
      case rel=>exact⟨m+1,n',k',a'+t.aC.length,h',by omega,by go_num,rfl,rfl,by go_num,by go_num,by omega,by omega,by omega,HB2,hid (jr.out)⟩
      case measure=>simp[intOf];omega
     ·rw[aaj htb] at het
      by_cases hnt:t.nm=tb
      ·rw[aar hnt] at hent
       rw[if_pos ⟨htb,hnt⟩] at hC2
       have jr:=hid hC2
       clear hC2 htb hnt
       go_wp2_with (first | (refine eX hU ?_;clear hU) | fail)
       refine HP.out.mono ?_
       rintro e w2 ⟨rfl,hb2⟩
       have k2:=aH ((hb2.block _ KW.out).trans Rx.out)
       have HB2:=htr bS hb2
       clear hb2 HP kU
       go_wp2_with fail
       go_meet
       case rel=>exact⟨n',k',h',rfl,rfl,by go_num,by omega,HB2,hid (jr.out)⟩
      ·rw[aaj hnt] at hent
       rw[if_neg (fun h=>hnt h.2)] at hC2
       have jr:=hid hC2
       clear hC2 htb hnt
       go_wp2_with (first | (refine eX hU ?_;clear hU) | fail)
       refine HP.out.mono ?_
       rintro e w2 ⟨rfl,hb2⟩
       have k2:=aH ((hb2.block _ KW.out).trans Rx.out)
       have HB2:=htr bS hb2
       clear hb2 HP kU
       go_wp2_with fail
       go_roundw
       case rel=>exact⟨m+1,n',k',a'+t.aC.length,h',by omega,by go_num,rfl,rfl,by go_num,by go_num,by omega,by omega,by omega,HB2,hid (jr.out)⟩
       case measure=>simp[intOf];omega
   ·have hlt' : ¬((m:Int)<(L.length:Int)):=by omega
    have hC2:=HC.out
    rw[List.drop_eq_nil_of_le (by omega)] at hC2
    have jr:=hid hC2
    have HB2:=HB
    clear hC2 HC
    go_wp2_with fail
    go_meet
    case rel=>exact⟨n',k',h',rfl,rfl,rfl,by omega,HB2,hid jr.out⟩
 case rest =>
  obtain⟨n',k',h',rfl,rfl,rfl,hh,HB,HRR⟩:=hcut
  have Ea:wc.heap[w.heap.size]?=some (.cells eT 48):=(HB.out.block _ aJ).trans rJ.out
  have HS:Hid (∀cs:Array Value,Below w.heap.size w (wc.setRow w.heap.size cs)∧(wc.setRow w.heap.size cs).heap[w.heap.size]?=some (.cells cs 48)):=hid (fun cs=>⟨cK (eF.out.trans (HB.out.mono eF.out.size)) (aaF _) cs,setRow_heap wc w.heap.size _ cs _ _ Ea⟩)
  by_cases h0:h'=0
  ·have e1:rF R=(tO,0,12):=by rw[← HRR.out];unfold rF;rw[if_pos h0]
   have HE:=hid e1
   subst h0
   have hz:=HS.out eT
   clear e1 HRR
   go_wp2_with (first | (refine lC Ea ?_) | fail)
   exact bodyPost_ret (v:=.tuple #[.agg eT,.int .i64 0,.int .i64 12]) (by simp[results,Tryz.results41,go_sem,aG hz.2]) rfl ⟨_,by rw[HE.out],fun S=>by rw[HE.out];exact uY S _,hz.1⟩
  ·have h0':(((h':Nat):Int)==0)=false:=by rw[aai];omega
   by_cases h1:1<h'
   ·have e1:rF R=(tO,0,13):=by rw[← HRR.out];unfold rF;rw[if_neg h0,if_pos h1]
    have HE:=hid e1
    have h1':(1:Int)<((h':Nat):Int):=by omega
    have hz:=HS.out eT
    clear e1 HRR h0 h1
    go_wp2_with (first | (refine lC Ea ?_) | fail)
    exact bodyPost_ret (v:=.tuple #[.agg eT,.int .i64 0,.int .i64 13]) (by simp[results,Tryz.results41,go_sem,aG hz.2]) rfl ⟨_,by rw[HE.out],fun S=>by rw[HE.out];exact uY S _,hz.1⟩
   ·have e1:rF R=(.mk 2 0 [] [] ⟨1,n',[]⟩ [],k',0):=by rw[← HRR.out];unfold rF;rw[if_neg h0,if_neg h1]
    have HE:=hid e1
    have h1' : ¬(1:Int)<((h':Nat):Int):=by omega
    have hz:=HS.out (J2 n')
    clear e1 HRR h0 h1
    go_wp2_with (first | (refine lC Ea ?_) | fail)
    exact bodyPost_ret (v:=.tuple #[.agg (J2 n'),.int .i64 k',.int .i64 0]) (by simp[results,Tryz.results41,go_sem,aG hz.2]) rfl ⟨_,by rw[HE.out],fun S=>by rw[HE.out];exact I9 S _ _,hz.1⟩
end Go.Proofs.YtfeglkleoijlaaaGreatDoor
namespace Go.Proofs.YtfeglkleoijlaaaGreatDoor
open Go.RowKit Go.Shelf
set_option linter.unusedSimpArgs false
set_option linter.unusedVariables false
set_option maxRecDepth 20000
set_option maxHeartbeats 8000000
def uj (_:Nat→Prop) (_:World) (x:Int) (cs:List Value):Prop:=cs=[.int .i64 x]
theorem lN {S:Nat→Prop} {w:World} {xs:List Int} {aa:Option Addr} {nn cc:Nat} (h:aM 1 uj S w xs (.slice aa nn cc)) {j:Nat} {x:Int} (hx:xs[j]?=some x) :
  ∃b off,aa=some ⟨b,off,none⟩∧S b∧w.cell? ⟨b,off+j,none⟩=some (.int .i64 x):=by
 obtain⟨_,_,_,b,off,cs,h1,h2,h3,h4⟩:=bC h hx
 obtain rfl:cs=[.int .i64 x]:=h3
 refine ⟨b,off,h1,h2,?_⟩
 have:=h4 0 _ rfl
 simpa using this
theorem wS {S R T:Nat→Prop} {w w':World} {xs:List Int} {v:Value} (h:aM 1 uj S w xs v) (hk:ak R w w') (hS : ∀b,S b→b<w.heap.size→¬R b∧T b):aM 1 uj T w' xs v :=
 h.to (by decide) hk hS (fun _ _ e=>e)
def K5 (xs:List Int) (p:Int→Bool):Int:=if xs.findIdx p<xs.length then (xs.findIdx p:Nat) else -1
theorem LQ (xs:List Int) (p:Int→Bool):decide (0≤K5 xs p)=xs.any p:=by
 unfold K5
 cases h:xs.any p with
 |
  true =>
  have:xs.findIdx p<xs.length:=by
   rw[List.findIdx_lt_length]
   simpa using h
  rw[if_pos this]
  exact aar (by omega)
 |
  false =>
  have : ¬xs.findIdx p<xs.length:=by
   rw[List.findIdx_lt_length]
   simpa using h
  rw[if_neg this]
  exact aaj (by omega)
theorem rR {xs:List Int} {p:Int→Bool} {k:Nat} {x:Int} (hk:k≤xs.findIdx p) (hx:xs[k]?=some x) (hp:p x=true):xs.findIdx p=k:=by
 obtain⟨h1,h2⟩:=aam.1 hx
 rcases Nat.lt_or_ge k (xs.findIdx p) with h | h
 ·have:=List.not_of_lt_findIdx h
  rw[h2,hp] at this
  exact absurd this (by simp)
 ·omega
theorem sF {xs:List Int} {p:Int→Bool} {k:Nat} {x:Int} (hk:k≤xs.findIdx p) (hx:xs[k]?=some x) (hp:p x=false):k+1≤xs.findIdx p:=by
 obtain⟨h1,h2⟩:=aam.1 hx
 rcases Nat.lt_or_ge k (xs.findIdx p) with h | h
 ·exact h
 ·have e:xs.findIdx p=k:=by omega
  have:=List.findIdx_getElem (p:=p) (xs:=xs) (w:=by omega)
  simp only[e] at this
  rw[h2,hp] at this
  cases this
theorem G8 (S:Nat→Prop) (xs:List Int) (v:Value) (x:Int) (w:World) (h:aM 1 uj S w xs v) :
  Calls Tryz.prog 112 #[v,.int .i64 x] w fun e w'=>e = .returned (.int .i64 (K5 xs (fun y=>decide (x=y))))∧w'=w:=by
 have HV:=hid h
 obtain⟨aa,cc,css,rfl,h1,h2,_⟩:=h
 unfold maxLen at h2
 obtain⟨R,hR⟩:∃R,K5 xs (fun y=>decide (x=y))=R:=⟨_,rfl⟩
 rw[hR]
 have HR:=hid hR
 clear hR
 go_enter Tryz.func112,Tryz.ntmps112
 go_wp2_with fail
 go_loopw [5,8] (fun _ i wr=>∃k:Nat,k≤xs.length∧i = .int .i64 k∧wr=w∧Hid (k≤xs.findIdx (fun y=>decide (x=y)))) (fun _ i _=>xs.length-(intOf i).toNat)
 case atStart=>exact⟨0,aaV _,rfl,rfl,hid (aaV _)⟩
 case round =>
  obtain⟨k,hk,rfl,rfl,HK⟩:=hrel
  by_cases hlt:k<xs.length
  ·obtain⟨y,hy⟩:∃y,xs[k]?=some y:=⟨_,aaf hlt⟩
   obtain⟨b,off,rfl,_,hc⟩:=lN HV.out hy
   have hlt':((k:Int)<(xs.length:Int)):=by omega
   by_cases hxy:x=y
   ·subst hxy
    have e:=rR HK.out hy (aar rfl)
    have HRR:Hid (R=(k:Int)):=hid (by rw[← HR.out];unfold K5;rw[e,if_pos hlt])
    clear e hy HK
    go_wp2
    go_ret
    exact⟨by rw[HRR.out];rfl,rfl⟩
   ·have hne:(x==y)=false:=by rw[aai];exact hxy
    have mE:=hid (sF HK.out hy (aaj hxy))
    clear hy HK hxy
    go_wp2
    go_roundw
    case rel=>exact⟨k+1,by omega,by go_num,trivial,mE⟩
    case measure=>simp[intOf];omega
  ·have hlt' : ¬((k:Int)<(xs.length:Int)):=by omega
   have HRR:Hid (R = -1):=hid (by rw[← HR.out];unfold K5;rw[if_neg (by have:=HK.out;omega)])
   clear HK
   go_wp2
   go_ret
   exact⟨by rw[HRR.out];rfl,rfl⟩
theorem mZ (S:Nat→Prop) (xs:List Int) (v:Value) (x:Int) (w:World) (h:aM 1 uj S w xs v) :
  Calls Tryz.prog 57 #[v,.int .i64 x] w fun e w'=>e = .returned (.bool (xs.any (fun y=>decide (x=y))))∧w'=w:=by
 have HI:=hid (G8 S xs v x w h)
 rw[← LQ]
 obtain⟨aa,cc,css,rfl,_⟩:=h
 generalize K5 xs _=r at HI ⊢
 go_enter Tryz.func57,Tryz.ntmps57
 go_wp2_with fail
 refine HI.out.mono ?_
 rintro e w1 ⟨rfl,hw⟩
 obtain rfl:w=w1:=hw.symm
 go_wp2
 go_ret
 exact⟨by simp,rfl⟩
theorem FD (x:Int) (w:World):Calls Tryz.prog 85 #[.int .i64 x] w fun e w'=>e = .returned (.bool (x != 1&&x != 0))∧w'=w:=by
 go_enter Tryz.func85,Tryz.ntmps85
 cases h1:x != 1<;>cases h0:x != 0<;>(go_wp2;go_ret;exact⟨rfl,rfl⟩)
theorem Ez (S:Nat→Prop) (xs:List Int) (v:Value) (w:World) (h:aM 1 uj S w xs v) :
  Calls Tryz.prog 137 #[v,.func (.func 85) #[] #[]] w fun e w'=>e = .returned (.int .i64 (K5 xs (fun y=>y != 1&&y != 0)))∧w'=w:=by
 have HV:=hid h
 obtain⟨aa,cc,css,rfl,h1,h2,_⟩:=h
 unfold maxLen at h2
 obtain⟨R,hR⟩:∃R,K5 xs (fun y=>y != 1&&y != 0)=R:=⟨_,rfl⟩
 rw[hR]
 have HR:=hid hR
 clear hR
 have eg:=enters_of Tryz.func85 (by kernel_rfl) rfl
 go_enter Tryz.func137,Tryz.ntmps137
 go_wp2_with fail
 go_loopw [5,8] (fun _ i wr=>∃k:Nat,k≤xs.length∧i = .int .i64 k∧wr=w∧Hid (k≤xs.findIdx (fun y=>y != 1&&y != 0))) (fun _ i _=>xs.length-(intOf i).toNat)
 case atStart=>exact⟨0,aaV _,rfl,rfl,hid (aaV _)⟩
 case round =>
  obtain⟨k,hk,rfl,rfl,HK⟩:=hrel
  by_cases hlt:k<xs.length
  ·obtain⟨y,hy⟩:∃y,xs[k]?=some y:=⟨_,aaf hlt⟩
   obtain⟨b,off,rfl,_,hc⟩:=lN HV.out hy
   have hlt':((k:Int)<(xs.length:Int)):=by omega
   have HN:=hid (FD y wr)
   cases hp:(y != 1&&y != 0) with
   |
    true =>
    rw[hp] at HN
    have e:=rR HK.out hy hp
    have HRR:Hid (R=(k:Int)):=hid (by rw[← HR.out];unfold K5;rw[e,if_pos hlt])
    clear e hy HK hp
    go_wp2_with fail
    refine HN.out.mono ?_
    rintro e w1 ⟨rfl,hw⟩
    obtain rfl:wr=w1:=hw.symm
    go_wp2
    go_ret
    exact⟨by rw[HRR.out];rfl,rfl⟩
   |
    false =>
    rw[hp] at HN
    have mE:=hid (sF HK.out hy hp)
    clear hy HK hp
    go_wp2_with fail
    refine HN.out.mono ?_
    rintro e w1 ⟨rfl,hw⟩
    obtain rfl:wr=w1:=hw.symm
    go_wp2
    go_roundw
    case rel=>exact⟨k+1,by omega,by go_num,trivial,mE⟩
    case measure=>simp[intOf];omega
  ·have hlt' : ¬((k:Int)<(xs.length:Int)):=by omega
   have HRR:Hid (R = -1):=hid (by rw[← HR.out];unfold K5;rw[if_neg (by have:=HK.out;omega)])
   clear HK
   go_wp2
   go_ret
   exact⟨by rw[HRR.out];rfl,rfl⟩
theorem wN (S:Nat→Prop) (xs:List Int) (v:Value) (w:World) (h:aM 1 uj S w xs v) :
  Calls Tryz.prog 84 #[v,.func (.func 85) #[] #[]] w fun e w'=>e = .returned (.bool (xs.any (fun y=>y != 1&&y != 0)))∧w'=w:=by
 have HI:=hid (Ez S xs v w h)
 rw[← LQ]
 obtain⟨aa,cc,css,rfl,_⟩:=h
 generalize K5 xs _=r at HI ⊢
 go_enter Tryz.func84,Tryz.ntmps84
 go_wp2_with fail
 refine HI.out.mono ?_
 rintro e w1 ⟨rfl,hw⟩
 obtain rfl:w=w1:=hw.symm
 go_wp2
 go_ret
 exact⟨by simp,rfl⟩
theorem SI (ks:List Int):(!ks.any fun y=>y != 1&&y != 0)=ks.all fun x=>decide (x=1)||decide (x=0):=by
 induction ks with
 | nil=>rfl
 |
  cons k ks ih =>
  rw[List.any_cons,List.all_cons,Bool.not_or,ih]
  congr 1
  by_cases h1:k=1<;>by_cases h0:k=0<;>simp[h1,h0]
theorem uP (S T:Nat→Prop) (x:Ex) (v:Value) (k op:Int) (tb nm:List UInt8) (vl:Vl) (xs:List Ex) (hx:x = .mk k op tb nm vl xs) (ks:List Int) (kv:Value) (w:World) (hv:gH S w x v) (h:aM 1 uj T w ks kv) (h2:k=3→ks.length=2) :
  Calls Tryz.prog 42 #[v,kv] w fun e w'=>e = .returned (.bool (uU k op ks))∧Below w.heap.size w w':=by
 obtain⟨k',op',tb',nm',vk,vn,vs,ys,aa,nn,cc,he,rfl,_⟩:=hv
 rw[hx] at he
 obtain⟨rfl,rfl,rfl,rfl,rfl,rfl⟩:=Ex.mk.inj he
 obtain⟨W,hW,hbW,aJ,hcW⟩:=aK w (.cells #[.int .i64 k,.int .i64 op,.string (aj tb),.string (aj nm),.int .i64 vk,.int .i64 vn,.string (aj vs),.slice aa nn cc] 48)
 have k0:=aG hcW
 have hT:=wS (T:=T) h (ak.aA (S:=fun _=>False) hbW) (fun b hb _=>⟨id,hb⟩)
 have HB:=hid hbW
 have dI:=hid (fun m=>mZ T ks kv 0 (W.drewN m) (wS (T:=T) hT (ak.aA (S:=fun _=>False) (below_drewN (Below.refl _ W) m)) (fun b hb _=>⟨id,hb⟩)))
 have Zn:=hid (wN T ks kv W hT)
 obtain⟨a2,c2,css,rfl,h1,h3,_⟩:=id hT
 unfold maxLen at h3
 have HT:=hid hT
 clear hbW hcW hT h he hx
 unfold uU
 by_cases h6:k=6
 ·rw[if_pos h6]
  subst h6
  go_enter Tryz.func42,Tryz.ntmps42
  go_wp2_with fail
  try rw[hW]
  go_wp2
  go_ret
  exact⟨rfl,HB.out⟩
 ·rw[if_neg h6]
  have h6':(k==6)=false:=by rw[aai];exact h6
  by_cases KF:k=3∧3≤op∧op≤8
  ·rw[if_pos KF]
   obtain⟨rfl,ho1,ho2⟩:=KF
   match ks,h2 rfl with
   |
    [p,q],_ =>
    obtain⟨b,off,rfl,_,c0⟩:=lN HT.out (j:=0) (x:=p) rfl
    obtain⟨b',off',e',_,c1⟩:=lN HT.out (j:=1) (x:=q) rfl
    simp only[abf,Addr.mk.injEq,and_true] at e'
    obtain⟨rfl,rfl⟩:=e'
    rw[aa2] at c0
    have hpq:(([p,q]:List Int)[0]?=[p,q][1]?)↔p=q:=by simp
    by_cases he:p=q
    ·rw[aar (hpq.2 he),Bool.true_or]
     subst he
     have hpp:(p==p)=true:=beq_self_eq_true p
     go_enter Tryz.func42,Tryz.ntmps42
     go_wp2_with fail
     try rw[hW]
     go_wp2_with fail
     go_quiet (fail)
     go_wp2
     go_ret
     exact⟨rfl,below_drewN HB.out nq⟩
    ·rw[aaj (fun h=>he (hpq.1 h)),Bool.false_or]
     have he':(p==q)=false:=by rw[aai];exact he
     have e0:([p,q].any fun y=>decide ((0:Int)=y))=([p,q].any fun x=>decide (x=0)):=by
      simp only[eq_comm]
     rw[e0] at dI
     generalize ([p,q].any fun x=>decide (x=0))=r at dI ⊢
     go_enter Tryz.func42,Tryz.ntmps42
     go_wp2_with fail
     try rw[hW]
     go_wp2_with fail
     go_quiet ((go_at_call 57;exact Calls.quiet_of_same (dI.out _)))
     go_wp2
     go_ret
     exact⟨rfl,below_drewN HB.out nq⟩
  ·rw[if_neg KF,← SI]
   clear h2
   generalize (ks.any fun y=>y != 1&&y != 0)=r at Zn ⊢
   by_cases h3:k=3
   ·subst h3
    by_cases ho:3≤op
    ·have ho2 : ¬op≤8:=fun h=>KF ⟨rfl,ho,h⟩
     clear KF
     go_enter Tryz.func42,Tryz.ntmps42
     go_wp2_with fail
     try rw[hW]
     refine Zn.out.mono ?_
     rintro e w1 ⟨rfl,hw⟩
     obtain rfl:W=w1:=hw.symm
     go_wp2
     go_ret
     exact⟨rfl,HB.out⟩
    ·clear KF
     go_enter Tryz.func42,Tryz.ntmps42
     go_wp2_with fail
     try rw[hW]
     refine Zn.out.mono ?_
     rintro e w1 ⟨rfl,hw⟩
     obtain rfl:W=w1:=hw.symm
     go_wp2
     go_ret
     exact⟨rfl,HB.out⟩
   ·have h3':(k==3)=false:=by rw[aai];exact h3
    clear KF
    go_enter Tryz.func42,Tryz.ntmps42
    go_wp2_with fail
    try rw[hW]
    refine Zn.out.mono ?_
    rintro e w1 ⟨rfl,hw⟩
    obtain rfl:W=w1:=hw.symm
    go_wp2
    go_ret
    exact⟨rfl,HB.out⟩
open Go.Lib
theorem vK {w:World} {S:Nat→Prop} {l:List Co} {aa:Option Addr} {nn cc:Nat} (h:aM 4 ku S w l (.slice aa nn cc)) (hl:l.length*32≤140737488355328) {g:Nat} (hg:w.heap[g]?=some (.cells #[] 60)) (base:Nat) (hb:base≤g) (ty:TypeId) :
  ∃a2 n2 c2 w',(Builtin.append_ #[23,23] ty #[.slice (some ⟨g,0,none⟩) 0 0,.slice aa nn cc]).run Tryz.prog w = .ok (.slice a2 n2 c2) w'∧w'.ownsRow base 60 4 (.slice a2 n2 c2) l.length (fO l)∧ak (fun k=>k=g) w w':=by
 obtain⟨i0,hi,hy0,hy1,hy2⟩:=info_parts Tryz.Iz
 have hgl:g<w.heap.size:=World.lt_of_block hg
 have hown:w.ownsRow base 60 4 (.slice (some ⟨g,0,none⟩) 0 0) 0 []:=⟨by simp,.inr ⟨g,0,#[],rfl,hb,hg,aaF _,by unfold maxLen;omega,rfl,by simp⟩⟩
 have hform : ∀(v:Value) (W:World) (n:Nat) (xs:List Value),W.ownsRow base 60 4 v n xs→∃a2 n2 c2,v = .slice a2 n2 c2:=fun v W n xs h=>by
  rcases h.2 with⟨rfl,_⟩ | ⟨_,_,_,rfl,_⟩<;>exact⟨_,_,_,rfl⟩
 have hbel : ∀W:World,w.grownBy W (some g)→ak (fun k=>k=g) w W:=fun W hW=>ak.gU (S:=fun k=>k=g) hW (fun k e=>by injection e with e;exact e.symm)
 obtain⟨a,c,css,hv,h1,h2,h4,h5⟩:=id h
 simp only[aah] at hv
 obtain⟨rfl,rfl,rfl⟩:=hv
 cases aa with
 |
  none =>
  have hn:l=[]:=by
   by_cases e:l=[]
   ·exact e
   ·obtain⟨b,off,e2,_⟩:=h5 e
    cases e2
  subst hn
  have hr:(Builtin.append_ #[23,23] ty #[.slice (some ⟨g,0,none⟩) 0 0,.slice none 0 cc]).run Tryz.prog w = .ok (.slice (some ⟨g,0,none⟩) 0 0) w:=by
   simp[Builtin.append_,run_underlying Tryz.underlying23,sizeOf,typeInfo,hi,Builtin.lenOf,Builtin.firstCells,storeCells]
  exact⟨_,_,_,w,hr,hown,ak.refl _ _⟩
 |
  some p =>
  have hcells : ∀j u,(fO l)[j]?=some u→w.cell? (p.add j)=some u:=fun j u hu=>by
   have hne:l≠[]:=fun e=>by subst e;simp[fO] at hu
   obtain⟨b,off,c,hv,_,_,_,_,hel⟩:=iX h hne
   simp only[aah,abf] at hv
   obtain⟨rfl,_,_⟩:=hv
   obtain⟨x,e1,e2⟩:=uI l j u hu
   have:=hel w (Below.refl _ _) (j / 4) x e1 (j % 4) u e2
   have e:off+j / 4*4+j % 4=off+j:=by omega
   rw[e] at this
   rw[Addr.add_lit]
   exact this
  obtain⟨v',w',hr,ho,hg2,_⟩:=run_append_own (P:=Tryz.prog) w base 23 ty 60 i0 _ 4 32 Tryz.underlying23 hi hy0 hy1 hy2 rfl (by decide) (.slice (some ⟨g,0,none⟩) 0 0) 0 [] hown p l.length cc (fO l) (jO l) hcells (zN l) (by unfold maxLen;omega) (by rw[Nat.zero_add];exact hl) (by omega)
  rw[Nat.zero_add,List.nil_append] at ho
  obtain⟨a2,n2,c2,rfl⟩:=hform v' w' _ _ ho
  exact⟨a2,n2,c2,w',hr,ho,hbel w' hg2⟩
theorem wpList_append_run {P:Program} {ops:Array Oper} {rest:List Oper} {o:Oper} {a:Act} {Q:Exit→Act→World→Prop} (w:World) (hgd:o.guard=none) (s x:Operand) (t:TypeId)
  (ho:o.op = .call { callee:=.builtin .append,args:=#[s,x],argTypes:=#[t,t] }) (v u v':Value) (w':World) (hs:a.eval s=v) (hx:a.eval x=u) (hr:(Builtin.append_ #[t,t] o.type #[v,u]).run P w = .ok v' w')
  (h:wpList P ops Q rest (a.put o.dst v') w'):wpList P ops Q (o::rest) a w:=by
 refine wpList_plain hgd fun _ hK=>?_
 unfold Oper.wp execOp
 simp only[ho,resolve,invoke,builtin,Sem.run_bind,Sem.run_pure,Result.andThen_ok,List.map_toArray,List.map_cons,List.map_nil,hs,hx,hr]
 exact hK _ _ h
theorem rY (S:Nat→Prop) (t:Tb) (cs:List Value) (w:World) (h:fG S w t cs) (hl:t.aC.length*32≤140737488355328) :
  Calls Tryz.prog 45 #[.agg cs.toArray] w fun e w'=>∃ds:List Value,e = .returned (.agg ds.toArray)∧Mf w.heap.size w' t ds∧Below w.heap.size w w':=by
 obtain⟨aa,nn,cc,rfl,hsl⟩:=h
 obtain⟨nm,l,pr⟩:=t
 dsimp only at hsl hl ⊢
 obtain⟨W,hW,hbW,aJ,hcA,hcB⟩:=two w (.cells #[.string (aj nm),.slice aa nn cc,.int .i64 pr] 42) (.cells #[.string ⟨#[]⟩,.slice none 0 0,.int .i64 0] 42)
 obtain⟨U,hU,bB,jc,eU⟩:=aK W (.cells #[] 60)
 have jm:=hbW.trans (bB.mono hbW.size)
 obtain⟨a2,n2,c2,w2,hrun,hown,hs2⟩:=vK (hsl.to (T:=S) (by decide) (R:=fun _=>False) (ak.aA jm) (fun b hb _=>⟨id,hb⟩) (fun _ _ e=>e)) hl eU W.heap.size (aaF _) 23
 have hb2:Below W.heap.size U w2:=hs2.below (fun i hi=>by omega) (by omega)
 clear hs2
 have rQ:=hid hrun
 clear hrun
 have kU:=aH ((bB.block w.heap.size (by omega)).trans hcA)
 have hA2:=(hb2.block w.heap.size (by omega)).trans ((bB.block w.heap.size (by omega)).trans hcA)
 have hZ2:=(hb2.block (w.heap.size+1) (by omega)).trans ((bB.block (w.heap.size+1) (by omega)).trans hcB)
 have hz2:W.heap.size≤w2.heap.size:=by have:=hb2.size;omega
 obtain⟨X,hX,vC,DY⟩:=IQ hA2 (.slice a2 n2 c2)
 have k2:=aH hA2
 have ZR:=DY.size
 have hZX:=(DY.block (w.heap.size+1) (by omega) (by omega)).trans hZ2
 have kX:=aH vC
 have kZ:=aH hZX
 have hB2:Below w.heap.size w w2:=jm.trans (hb2.mono (by omega))
 have iq:Hid (Below w.heap.size w X):=hid (hB2.trans (DY.below (fun i hi=>by omega) hB2.size))
 have HOX:Hid (X.ownsRow W.heap.size 60 4 (.slice a2 n2 c2) l.length (fO l)):=hid (DY.row hown (fun b hb=>by have:=(hown.lt b hb).1;omega))
 clear hcA hcB hbW hsl bB eU jm hb2 hA2 hZ2 DY hZX hB2 vC hown
 go_enter Tryz.func45,Tryz.ntmps45
 go_wp2_with (at_builtin;refine wpList_append_run _ rfl (.tmp 3) (.tmp 5) 23 rfl _ _ _ _ rfl rfl rQ.out ?_)
 have hSp:ak (fun k=>k=w.heap.size+1) X (((X.setCell ⟨w.heap.size+1,0,none⟩ (.string (aj nm))).setCell ⟨w.heap.size+1,1,none⟩ (.slice a2 n2 c2)).setCell ⟨w.heap.size+1,2,none⟩ (.int .i64 pr)):=(((ak.refl (fun k=>k=w.heap.size+1) X).own _ _).own _ _).own _ _
 have hB:Below w.heap.size w (((X.setCell ⟨w.heap.size+1,0,none⟩ (.string (aj nm))).setCell ⟨w.heap.size+1,1,none⟩ (.slice a2 n2 c2)).setCell ⟨w.heap.size+1,2,none⟩ (.int .i64 pr)):=iq.out.trans (hSp.below (fun i hi=>by omega) iq.out.size)
 refine bodyPost_ret (v:=.agg #[.string (aj nm),.slice a2 n2 c2,.int .i64 pr]) (by simp[results,Tryz.results45,go_sem,kZ]) rfl ⟨_,rfl,⟨_,_,_,rfl,?_⟩,hB⟩
 exact gM (hSp.row HOX.out (fun b hb=>by have:=(HOX.out.lt b hb).1;omega)) (fun b hb=>by have:=(HOX.out.lt b hb).1;omega)
end Go.Proofs.YtfeglkleoijlaaaGreatDoor
