import Derived.Test.YtfeglkleoijlaaaGreatDoorY43
import Derived.Test.YtfeglkleoijlaaaGreatDoorY31
import Derived.Test.YtfeglkleoijlaaaGreatDoorY32
import Derived.Test.YtfeglkleoijlaaaGreatDoorY33
import Derived.Test.YtfeglkleoijlaaaGreatDoorY37
namespace Go.Proofs.YtfeglkleoijlaaaGreatDoor
open Go.RowKit Go.Shelf
set_option linter.unusedSimpArgs false
set_option linter.unusedVariables false
set_option maxRecDepth 20000
set_option maxHeartbeats 8000000
theorem xK (a:Act) (oi:Oper) (ki:oi.op = .alloc 48) (V:World):(execOp a.eval oi).run Tryz.prog V = .ok (.value (.pointer (some ⟨V.heap.size,0,none⟩))) (V.alloc (.cells eT 48)):=by
 unfold execOp
 simp only[ki]
 go_simp
theorem ow (S T:Nat→Prop) (L:List Tb) (es:List Ex) (lv ev:Value) (w:World) (h1:es.length≤1) (hr : ∀x∈es,aF x=true) (hx:aM 8 jl T w es ev) (hl:aM 3 fG S w L lv) (hK : ∀t∈L,mR t) (hn:L.length≤100) :
  Calls Tryz.prog 31 #[lv,ev] w fun e w'=>e = .returned (.int .i64 (fE L es))∧Below w.heap.size w w':=by
 rw[EU L h1]
 match es,h1 with
 |
  [],_ =>
  obtain⟨ea,ec,rfl⟩:=hx.form
  obtain⟨la,lc,rfl⟩:=hl.form
  clear hx hl hr
  dsimp only
  go_enter Tryz.func31,Tryz.ntmps31
  go_wp2_with fail
  go_ret
  exact⟨rfl,Below.refl _ _⟩
 |
  [x],_ =>
  dsimp only
  obtain⟨ea,ec,rfl⟩:=hx.form
  obtain⟨_,_,_,b,off,ds,rfl,_,hel,hcell⟩:=bC hx (j:=0) (x:=x) rfl
  have eO:=hel.v
  obtain⟨k1,op1,dN,fU,fJ,fI,vs1,ys1,eD,dF,eB,_,rfl,_⟩:=hel
  have q0:=hcell 0 _ rfl
  have q1:=hcell 1 _ rfl
  have q2:=hcell 2 _ rfl
  have q3:=hcell 3 _ rfl
  have q4:=hcell 4 _ rfl
  have q5:=hcell 5 _ rfl
  have q6:=hcell 6 _ rfl
  have q7:=hcell 7 _ rfl
  simp only[Nat.zero_mul,aa2] at q0 q1 q2 q3 q4 q5 q6 q7
  have HC:=hid (jU S T L x lv _ w (hr x (by simp)) eO hl hK hn)
  obtain⟨la,lc,rfl⟩:=hl.form
  unfold sS
  generalize aI L x=R at HC ⊢
  obtain⟨X,kk,c⟩:=R
  dsimp only at HC ⊢
  have hone:((([x]:List Ex).length:Int)==0)=false:=rfl
  clear hcell eO hx hl hr
  by_cases hc:c=0
  ·subst hc
   by_cases hk:kk=2
   ·subst hk
    rw[if_pos ⟨rfl,rfl⟩]
    go_enter Tryz.func31,Tryz.ntmps31
    go_wp2_with fail
    refine HC.out.mono ?_
    rintro e w1 ⟨u,rfl,hxu,hb1⟩
    obtain⟨k2,op2,bX,eH,dS,dU,vs2,ys2,dR,dY,dP,_,rfl,_⟩:=hxu
    obtain⟨Y,hY,bV,kL,dJ⟩:=aK w1 (.cells #[.int .i64 k2,.int .i64 op2,.string (aj bX),.string (aj eH),.int .i64 dS,.int .i64 dU,.string (aj vs2),.slice dR dY dP] 48)
    have bZ:=hid (hb1.trans (bV.mono hb1.size))
    clear hb1 bV dJ HC q0 q1 q2 q3 q4 q5 q6 q7
    go_wp2_with (first | (refine eX hY ?_;clear hY) | fail)
    go_ret
    exact⟨rfl,bZ.out⟩
   ·rw[if_neg (fun h=>hk h.2)]
    have hk':(kk==2)=false:=by rw[aai];exact hk
    clear hk
    go_enter Tryz.func31,Tryz.ntmps31
    go_wp2_with fail
    refine HC.out.mono ?_
    rintro e w1 ⟨u,rfl,hxu,hb1⟩
    obtain⟨k2,op2,bX,eH,dS,dU,vs2,ys2,dR,dY,dP,_,rfl,_⟩:=hxu
    obtain⟨Y,hY,bV,kL,dJ⟩:=aK w1 (.cells #[.int .i64 k2,.int .i64 op2,.string (aj bX),.string (aj eH),.int .i64 dS,.int .i64 dU,.string (aj vs2),.slice dR dY dP] 48)
    have bZ:=hid (hb1.trans (bV.mono hb1.size))
    clear hb1 bV dJ HC q0 q1 q2 q3 q4 q5 q6 q7
    go_wp2_with (first | (refine eX hY ?_;clear hY) | fail)
    go_ret
    exact⟨rfl,bZ.out⟩
  ·rw[if_neg (fun h=>hc h.1)]
   have hc':(c==0)=false:=by rw[aai];exact hc
   clear hc
   go_enter Tryz.func31,Tryz.ntmps31
   go_wp2_with fail
   refine HC.out.mono ?_
   rintro e w1 ⟨u,rfl,hxu,hb1⟩
   obtain⟨k2,op2,bX,eH,dS,dU,vs2,ys2,dR,dY,dP,_,rfl,_⟩:=hxu
   obtain⟨Y,hY,bV,kL,dJ⟩:=aK w1 (.cells #[.int .i64 k2,.int .i64 op2,.string (aj bX),.string (aj eH),.int .i64 dS,.int .i64 dU,.string (aj vs2),.slice dR dY dP] 48)
   have bZ:=hid (hb1.trans (bV.mono hb1.size))
   clear hb1 bV dJ HC q0 q1 q2 q3 q4 q5 q6 q7
   go_wp2_with (first | (refine eX hY ?_;clear hY) | fail)
   go_ret
   exact⟨rfl,bZ.out⟩
theorem EF (S T:Nat→Prop) (t:Tb) (rows:List (List Vl)) (cs:List Value) (rv:Value) (w:World) (ht:fG S w t cs) (hr:aM 1 Cw T w rows rv) (hK:mR t) :
  Calls Tryz.prog 29 #[.agg cs.toArray,rv] w fun e w'=>e = .returned (.int .i64 (oh t rows))∧Below w.heap.size w w':=by
 have ht0:=ht
 obtain⟨a2,n2,c2,rfl,hsl⟩:=ht
 have hn2:n2=t.aC.length:=by obtain⟨_,_,hf⟩:=hsl.form;simp only[aah] at hf;exact hf.2.1
 subst hn2
 obtain⟨W,gI,hbW,aJ,hcW⟩:=aK w (.cells #[.string (aj t.nm),.slice a2 t.aC.length c2,.int .i64 t.pr] 42)
 have k0:=aH hcW
 have RP:Hid (∀V,Below W.heap.size W V→aM 1 Cw T V rows rv):=hid (fun V hV=>hr.to (by decide) (R:=fun _=>False) (ak.aA (hbW.trans (hV.mono hbW.size))) (fun b hb _=>⟨id,hb⟩) (fun _ _ e=>e.to (R:=fun _=>False) (ak.aA (hbW.trans (hV.mono hbW.size))) (fun b hb _=>⟨id,hb⟩)))
 have HSL:Hid (∀V,Below W.heap.size W V→aM 4 ku S V t.aC (.slice a2 t.aC.length c2)):=hid (fun V hV=>hsl.to (by decide) (R:=fun _=>False) (ak.aA (hbW.trans (hV.mono hbW.size))) (fun b hb _=>⟨id,hb⟩) (fun _ _ e=>e))
 have HB:=hid hbW
 have rJ:=hid hcW
 have hrl:rows.length≤9223372036854775807:=by obtain⟨_,_,_,hf,h1,h2,_⟩:=id hr;unfold maxLen at h2;omega
 obtain⟨ra,rc,rfl⟩:=hr.form
 obtain⟨R,hR⟩:∃R,oh t rows=R:=⟨_,rfl⟩
 rw[hR]
 have HR:Hid (aO (rows.map (qW t))=R):=hid hR
 clear hbW hcW ht0 hsl hr hR hK
 go_enter Tryz.func29,Tryz.ntmps29
 go_wp2_with fail
 try rw[gI]
 go_wp2_with fail
 go_loopw [5,6,7] (fun i _ _ wr=>∃(m:Nat),m≤rows.length∧i = .int .i64 m∧Hid (Below W.heap.size W wr)∧Hid (∀c∈(rows.map (qW t)).take m,c=0)) (fun i _ _ _=>rows.length-(intOf i).toNat)
 case atStart=>exact⟨0,aaV _,rfl,hid (Below.refl _ _),hid (by simp)⟩
 case round =>
  clear k0
  obtain⟨m,hm,rfl,iW,HZ⟩:=hrel
  by_cases hlt:m<rows.length
  ·obtain⟨r,hr⟩:∃r,rows[m]?=some r:=⟨_,aaf hlt⟩
   have hlt':((m:Int)<(rows.length:Int)):=by omega
   have rO:Hid ((rows.map (qW t))[m]?=some (qW t r)):=hid (by rw[List.getElem?_map,hr];rfl)
   obtain⟨wo,rfl⟩:∃wo,wo=wr:=⟨_,rfl⟩
   obtain⟨_,_,_,b,off,ds,rfl,_,hel,hcell⟩:=bC (RP.out wo iW.out) hr
   obtain⟨ab,nb,cb,rfl,hrs⟩:=hel
   have hnb:nb=r.length:=by obtain⟨_,_,hf⟩:=hrs.form;simp only[aah] at hf;exact hf.2.1
   subst hnb
   have q0:=hcell 0 _ rfl
   simp only[aa2,Nat.mul_one] at q0
   have hb0:=World.block_lt_of_cell? wo _ q0
   have dn:Hid (∀V,Below wo.heap.size wo V→V.cell? ⟨b,off+m,none⟩=some (.slice ab r.length cb)):=hid (fun V hV=>(hV.cell (p:=⟨b,_,none⟩) hb0).trans q0)
   have KZ:Hid (∀V,Below wo.heap.size wo V→aM 3 Ib T V r (.slice ab r.length cb)):=hid (fun V hV=>hrs.to (by decide) (R:=fun _=>False) (ak.aA hV) (fun b hb _=>⟨id,hb⟩) (fun _ _ e=>e))
   have Fv:=iW.out.size
   have HKW:Hid (∀V,Below wo.heap.size wo V→V.heap[w.heap.size]?=some (.cells #[.string (aj t.nm),.slice a2 t.aC.length c2,.int .i64 t.pr] 42)):=hid (fun V hV=>((iW.out.trans (hV.mono Fv)).block w.heap.size aJ).trans rJ.out)
   have kT:=aH (HKW.out wo (Below.refl _ _))
   have abd:=dn.out wo (Below.refl _ _)
   have acy:r.length≤cb∧cb≤maxLen:=by obtain⟨_,_,_,hf,h1,h2,_⟩:=id hrs;simp only[aah] at hf;obtain⟨rfl,_,rfl⟩:=hf;exact⟨h1,h2⟩
   unfold maxLen at acy
   clear hcell hrs hr hb0 q0
   by_cases hl:r.length=t.aC.length
   ·have hne:(((r.length:Nat):Int) != (t.aC.length:Int))=false:=by rw[bne_eq_false_iff_eq];omega
    have HL:=hid hl
    clear hl
    go_wp2_with fail
    go_quiet (fail)
    obtain⟨wq,hwq⟩:∃wq,wo.drewN nq=wq:=⟨_,rfl⟩
    have xC:Hid (Below wo.heap.size wo wq):=hid (by rw[← hwq];exact below_drewN (Below.refl _ wo) nq)
    rw[hwq]
    have kT:=aH (HKW.out wq xC.out)
    have abd:=dn.out wq xC.out
    clear hwq
    go_wp2_with fail
    go_loopw [6,7] (fun i _ wi=>∃(q:Nat),q≤r.length∧i = .int .i64 q∧wi=wq∧Hid (∀(j:Nat) (v:Vl) (c:Co),j<q→r[j]?=some v→t.aC[j]?=some c→v.k=0∨v.k=c.k)) (fun i _ _=>r.length-(intOf i).toNat)
    case atStart=>exact⟨0,aaV _,rfl,rfl,hid (fun j v c h=>absurd h (Nat.not_lt_zero _))⟩
    case round =>
     obtain⟨q,hq,rfl,hwr,HQ⟩:=hrel
     obtain rfl:wq=wr:=hwr.symm
     by_cases hlq:q<r.length
     ·obtain⟨x,hx⟩:∃x,r[q]?=some x:=⟨_,aaf hlq⟩
      obtain⟨y,hy⟩:∃y,t.aC[q]?=some y:=⟨_,aaf (by have:=HL.out;omega)⟩
      have Gh:((q:Int)<(r.length:Int)):=by omega
      have aaT:((q:Int)<(t.aC.length:Int)):=by have:=HL.out;omega
      obtain⟨_,_,_,b1,o1,d1,rfl,_,hx1,g1⟩:=bC (KZ.out wq xC.out) hx
      obtain rfl:d1=[.int .i64 x.k,.int .i64 x.n,.string (aj x.s)]:=hx1
      have p0:=g1 0 _ rfl
      simp only[aa2] at p0
      obtain⟨_,_,_,b2,o2,d2,rfl,_,hy1,g2⟩:=bC (HSL.out wq (iW.out.trans (xC.out.mono Fv))) hy
      obtain rfl:d2=[.string (aj y.nm),.int .i64 y.k,.bool y.nn,.bool y.uq]:=hy1
      have p1:=g2 1 _ rfl
      have SY:Hid (∀(v:Vl) (c:Co),r[q]?=some v→t.aC[q]?=some c→v=x∧c=y):=hid (fun v c hv hc=>by rw[hx] at hv;rw[hy] at hc;exact⟨(Option.some.inj hv).symm,(Option.some.inj hc).symm⟩)
      have HBAD:Hid (x.k≠0→x.k≠y.k→R=9):=hid (fun n0 n1=>by
       have hko:oD t r=false:=by
        cases h:oD t r with
        | false=>rfl
        | true=>exact absurd ((oL HL.out).1 h q x y hx hy) (fun e=>e.elim n0 n1)
       have hrw:qW t r=9:=by unfold qW;rw[if_neg (fun h=>h HL.out),hko];rfl
       have:=iN HZ.out rO.out (by rw[hrw];decide)
       rw[hrw] at this
       rw[← HR.out,this])
      clear g1 g2 hx hy
      by_cases h0:x.k=0
      ·have h0':(x.k != 0)=false:=by rw[bne_eq_false_iff_eq];exact h0
       have dA:Hid (∀(j:Nat) (v:Vl) (c:Co),j<q+1→r[j]?=some v→t.aC[j]?=some c→v.k=0∨v.k=c.k):=hid (fun j v c hj hv hc=>by
        rcases Nat.lt_or_ge j q with h | h
        ·exact HQ.out j v c h hv hc
        ·obtain rfl:j=q:=by omega
         rw[(SY.out v c hv hc).1]
         exact .inl h0)
       clear HQ h0
       go_wp2
       go_roundw
       case rel=>exact⟨q+1,by omega,by go_num,trivial,dA⟩
       case measure=>simp[intOf];omega
      ·have h0':(x.k != 0)=true:=by rw[bne_iff_ne];exact h0
       by_cases h1:x.k=y.k
       ·have h1':(x.k != y.k)=false:=by rw[bne_eq_false_iff_eq];exact h1
        have dA:Hid (∀(j:Nat) (v:Vl) (c:Co),j<q+1→r[j]?=some v→t.aC[j]?=some c→v.k=0∨v.k=c.k):=hid (fun j v c hj hv hc=>by
         rcases Nat.lt_or_ge j q with h | h
         ·exact HQ.out j v c h hv hc
         ·obtain rfl:j=q:=by omega
          rw[(SY.out v c hv hc).1,(SY.out v c hv hc).2]
          exact .inr h1)
        clear HQ h0 h1
        go_wp2
        go_roundw
        case rel=>exact⟨q+1,by omega,by go_num,trivial,dA⟩
        case measure=>simp[intOf];omega
       ·have h1':(x.k != y.k)=true:=by rw[bne_iff_ne];exact h1
        have HE:=hid (HBAD.out h0 h1)
        have iC:=hid (HB.out.trans ((iW.out.trans (xC.out.mono Fv)).mono HB.out.size))
        clear HQ h0 h1
        go_wp2
        go_ret
        exact⟨by rw[HE.out];try rfl,iC.out⟩
     ·have Gh : ¬((q:Int)<(r.length:Int)):=by omega
      have hko:oD t r=true:=(oL HL.out).2 (fun i v c hv hc=>HQ.out i v c (by have:=(aam.1 hv).1;omega) hv hc)
      have hrw:qW t r=0:=by unfold qW;rw[if_neg (fun h=>h HL.out),hko];rfl
      have HZ2:=hid (zero_snoc HZ.out rO.out hrw)
      have HB2:=hid (iW.out.trans (xC.out.mono Fv))
      clear HQ hko hrw
      go_wp2
      go_roundw
      case rel=>exact⟨m+1,by omega,by go_num,HB2,HZ2⟩
      case measure=>simp[intOf];omega
   ·have hne:(((r.length:Nat):Int) != (t.aC.length:Int))=true:=by rw[bne_iff_ne];omega
    have HE:Hid (R=15):=hid (by
     have hrw:qW t r=15:=by unfold qW;rw[if_pos hl]
     have:=iN HZ.out rO.out (by rw[hrw];decide)
     rw[hrw] at this
     rw[← HR.out,this])
    clear hl
    go_wp2_with fail
    go_quiet (fail)
    have iC:=hid (HB.out.trans ((iW.out.trans ((below_drewN (Below.refl _ wo) nq).mono Fv)).mono HB.out.size))
    go_wp2
    go_ret
    exact⟨by rw[HE.out];try rfl,iC.out⟩
  ·have hlt' : ¬((m:Int)<(rows.length:Int)):=by omega
   have HE:Hid (R=0):=hid (by rw[← HR.out,fq];have:=HZ.out;rwa [aaU (by rw[List.length_map];omega)] at this)
   have iC:=hid (HB.out.trans (iW.out.mono HB.out.size))
   clear HZ
   go_wp2
   go_ret
   exact⟨by rw[HE.out];try rfl,iC.out⟩
def mh (C:List Tb) (t:Tb) (s:St):List Tb × Int :=
 if s.jn=[] then ([t],0) else if s.jn ∉ C.map Tb.nm then ([],11) else if s.jn=t.nm then ([],13) else ([t,fC C s.jn],fE [t,fC C s.jn] s.on)
theorem Qe {L:List Tb} {nm:List UInt8} (h:nm∈L.map Tb.nm):(fC L nm).nm=nm:=by
 unfold fC
 cases hf:L.find? (fun t=>decide (t.nm=nm)) with
 |
  none =>
  obtain⟨t,ht,e⟩:=List.mem_map.1 h
  have:=List.find?_eq_none.1 hf t ht
  simp[e] at this
 | some t=>simpa using List.find?_some hf
theorem wT {L:List Tb} {nm:List UInt8} (h:nm∈L.map Tb.nm):fC L nm∈L:=by
 unfold fC
 cases hf:L.find? (fun t=>decide (t.nm=nm)) with
 |
  none =>
  obtain⟨t,ht,e⟩:=List.mem_map.1 h
  have:=List.find?_eq_none.1 hf t ht
  simp[e] at this
 | some t=>exact List.mem_of_find?_eq_some hf
theorem Hg (rb:Nat) (v:Value) (css:List (List Value)) (T:List Tb) (D S2:Nat→Prop) (t:Tb) (s:St) (cs sc:List Value) (w:World) (hC:fM w rb v css T D) (hKT : ∀u∈T,mR u) (ht:fG S2 w t cs) (hK:mR t) (hs:fD S2 w s sc) (hon:s.on.length≤1∧∀x∈s.on,aF x=true) :
  Calls Tryz.prog 32 #[.pointer (some ⟨rb,0,none⟩),.agg cs.toArray,.agg sc.toArray] w fun e w'=>∃a n c,e = .returned (.tuple #[.slice a n c,.int .i64 (mh T t s).2])∧aM 3 fG (fun _=>True) w' (mh T t s).1 (.slice a n c)∧Below w.heap.size w w':=by
 have ht0:=ht
 obtain⟨a2,n2,c2,rfl,_⟩:=ht
 have hs0:=hs
 obtain⟨b1,b2,b3,b4,b5,b6,b7,b8,m1,m2,m3,m4,m5,m6,m7,m8,d1,d2,d3,d4,d5,d6,d7,d8,rfl,_⟩:=hs
 obtain⟨W,gI,hbW,aJ,hcA,hcB⟩:=two w (.cells #[.string (aj t.nm),.slice a2 n2 c2,.int .i64 t.pr] 42) (.cells #[.int .i64 s.k,.string (aj s.tb),.slice b1 m1 d1,.string (aj s.aD),.slice b2 m2 d2,.slice b3 m3 d3,.slice b4 m4 d4,.string (aj s.jn),.slice b5 m5 d5,.slice b6 m6 d6,.slice b7 m7 d7,.slice b8 m8 d8,.bool s.desc,.int .i64 s.lim] 29)
 have kA:=aH hcA
 have kB:=au hcB
 have HF:=hid (zS rb v css T D s.jn W (hC.new hbW))
 have HB:=hid hbW
 have dw:=hid hcA
 have nP:=hid hcB
 have HT0:=hid (ht0.on hbW)
 have HON:Hid (∀V,Below w.heap.size w V→aM 8 jl S2 V s.on (.slice b5 m5 d5)):=hid (fun V hV=>(fD.slices (hs0.to (T:=S2) (R:=fun _=>False) (ak.aA hV) (fun b hb _=>⟨id,hb⟩))).2.1)
 have HO:=hid hon
 have HK:=hid hK
 have KX:=hid hKT
 have he:=AP s.jn
 have hzB:=aJ
 unfold mh
 clear hbW hcA hcB hC ht0 hs0 hon hK hKT
 by_cases hj:s.jn=[]
 ·rw[if_pos hj]
  rw[aar hj] at he
  obtain⟨Y,hY,bV,kL,dJ⟩:=aK W (.cells #[.string (aj t.nm),.slice a2 n2 c2,.int .i64 t.pr] 42)
  have bZ:=htr HB bV
  have HL:=hid ((mX (cs:=[.string (aj t.nm),.slice a2 n2 c2,.int .i64 t.pr]) dJ (HT0.out.on bV)).Iy (by decide) (T:=fun _=>True) (fun _ _=>trivial))
  clear hj bV dJ HF
  go_enter Tryz.func32,Tryz.ntmps32
  go_wp2_with fail
  try rw[gI]
  go_wp2_with fail
  try rw[hY]
  exact bodyPost_ret (v:=.tuple #[.slice (some ⟨W.heap.size,0,none⟩) 1 1,.int .i64 0]) (by simp[results,Tryz.results32,go_sem]) rfl ⟨_,_,_,rfl,HL.out,bZ.out⟩
 ·rw[if_neg hj]
  rw[aaj hj] at he
  clear hj
  by_cases hin:s.jn∈T.map Tb.nm
  ·rw[if_neg (fun h=>h hin)]
   rw[aar hin] at HF
   have HU:=hid (KX.out _ (wT hin))
   generalize fC T s.jn=u at HF HU ⊢
   have hen:=xJ s.jn t.nm
   by_cases hnm:s.jn=t.nm
   ·rw[if_pos hnm]
    rw[aar hnm] at hen
    clear hnm hin
    go_enter Tryz.func32,Tryz.ntmps32
    go_wp2_with fail
    try rw[gI]
    go_wp2_with fail
    refine HF.out.mono ?_
    rintro e w1 ⟨ds,rfl,hto,hb1⟩
    have Mr:=hto.e
    obtain⟨a3,n3,c3,rfl,_⟩:=hto
    obtain⟨Y,hY,bV,kL,dJ⟩:=aK w1 (.cells #[.string (aj u.nm),.slice a3 n3 c3,.int .i64 u.pr] 42)
    have tT:=hb1.trans (bV.mono hb1.size)
    have bZ:=htr HB tT
    have kA2:=aH ((tT.block w.heap.size (by omega)).trans dw.out)
    have wQ:=(tT.block (w.heap.size+1) (by omega)).trans nP.out
    have kB2:=au wQ
    have kY:=aH dJ
    have Fy:Hid (Y.heap[w.heap.size+1]?=some (.cells #[.int .i64 s.k,.string (aj s.tb),.slice b1 m1 d1,.string (aj s.aD),.slice b2 m2 d2,.slice b3 m3 d3,.slice b4 m4 d4,.string (aj s.jn),.slice b5 m5 d5,.slice b6 m6 d6,.slice b7 m7 d7,.slice b8 m8 d8,.bool s.desc,.int .i64 s.lim] 29)):=hid wQ
    have Ho:=hid (HT0.out.on tT)
    have QS:=hid (Mr.on bV)
    clear hb1 bV dJ tT Mr HF kA kB wQ
    go_wp2_with (first | (refine eX hY ?_;clear hY) | fail)
    exact bodyPost_ret (v:=.tuple #[.slice none 0 0,.int .i64 13]) (by simp[results,Tryz.results32,go_sem]) rfl ⟨_,_,_,rfl,aM.nil,bZ.out⟩
   ·rw[if_neg hnm]
    rw[aaj hnm] at hen
    clear hnm hin
    go_enter Tryz.func32,Tryz.ntmps32
    go_wp2_with fail
    try rw[gI]
    go_wp2_with fail
    refine HF.out.mono ?_
    rintro e w1 ⟨ds,rfl,hto,hb1⟩
    have Mr:=hto.e
    obtain⟨a3,n3,c3,rfl,_⟩:=hto
    obtain⟨Y,hY,bV,kL,dJ⟩:=aK w1 (.cells #[.string (aj u.nm),.slice a3 n3 c3,.int .i64 u.pr] 42)
    have tT:=hb1.trans (bV.mono hb1.size)
    have bZ:=htr HB tT
    have kA2:=aH ((tT.block w.heap.size (by omega)).trans dw.out)
    have wQ:=(tT.block (w.heap.size+1) (by omega)).trans nP.out
    have kB2:=au wQ
    have kY:=aH dJ
    have Fy:Hid (Y.heap[w.heap.size+1]?=some (.cells #[.int .i64 s.k,.string (aj s.tb),.slice b1 m1 d1,.string (aj s.aD),.slice b2 m2 d2,.slice b3 m3 d3,.slice b4 m4 d4,.string (aj s.jn),.slice b5 m5 d5,.slice b6 m6 d6,.slice b7 m7 d7,.slice b8 m8 d8,.bool s.desc,.int .i64 s.lim] 29)):=hid wQ
    have Ho:=hid (HT0.out.on tT)
    have QS:=hid (Mr.on bV)
    clear hb1 bV dJ tT Mr HF kA kB wQ
    go_upto_region 9 with (first | (refine eX hY ?_;clear hY) | fail)
    obtain⟨Z,hZ,o8,VD,wB⟩:=aK Y (.cells #[.string (aj t.nm),.slice a2 n2 c2,.int .i64 t.pr,.string (aj u.nm),.slice a3 n3 c3,.int .i64 u.pr] 42)
    have HL:=hid ((Ie (S:=fun _=>True) wB ((Ho.out.on o8).to (R:=fun _=>False) (ak.refl _ _) (fun b hb _=>⟨id,trivial⟩)) ((QS.out.on o8).to (R:=fun _=>False) (ak.refl _ _) (fun b hb _=>⟨id,trivial⟩))).Iy (by decide) (T:=fun _=>True) (fun _ _=>trivial))
    have lJ:=htr bZ o8
    have kC:=au ((o8.block (w.heap.size+1) (World.lt_of_block Fy.out)).trans Fy.out)
    have HW:=hid (ow _ S2 [t,u] s.on _ (.slice b5 m5 d5) Z HO.out.1 HO.out.2 (HON.out Z lJ.out) HL.out (fun x hx=>by
     simp only[abg,List.not_mem_nil,or_false] at hx
     rcases hx with rfl | rfl
     ·exact HK.out
     ·exact HU.out) (by simp))
    obtain⟨cw,hcw⟩:∃c,fE [t,u] s.on=c:=⟨_,rfl⟩
    rw[hcw] at HW
    have rJ:=hid hcw
    clear hcw
    clear o8 wB Ho QS Fy
    try rw[hZ]
    clear kY kA2
    go_wp2_with fail
    refine HW.out.mono ?_
    rintro e w3 ⟨rfl,hb3⟩
    have Vi:=hid (HL.out.to (by decide) (T:=fun _=>True) (R:=fun _=>False) (ak.aA hb3) (fun b hb _=>⟨id,hb⟩) (fun _ _ e=>e.on hb3))
    have HB3:=htr lJ hb3
    clear hb3 HW kC
    go_wp2_with fail
    exact bodyPost_ret (v:=.tuple #[.slice (some ⟨Y.heap.size,0,none⟩) 2 2,.int .i64 cw]) (by simp[results,Tryz.results32,go_sem]) rfl ⟨_,_,_,by rw[← rJ.out],Vi.out,HB3.out⟩
  ·rw[if_pos hin]
   rw[aaj hin] at HF
   generalize fC T s.jn=u at HF
   clear hin
   go_enter Tryz.func32,Tryz.ntmps32
   go_wp2_with fail
   try rw[gI]
   go_wp2_with fail
   refine HF.out.mono ?_
   rintro e w1 ⟨ds,rfl,hto,hb1⟩
   have Mr:=hto.e
   obtain⟨a3,n3,c3,rfl,_⟩:=hto
   obtain⟨Y,hY,bV,kL,dJ⟩:=aK w1 (.cells #[.string (aj u.nm),.slice a3 n3 c3,.int .i64 u.pr] 42)
   have tT:=hb1.trans (bV.mono hb1.size)
   have bZ:=htr HB tT
   have kA2:=aH ((tT.block w.heap.size (by omega)).trans dw.out)
   have wQ:=(tT.block (w.heap.size+1) (by omega)).trans nP.out
   have kB2:=au wQ
   have kY:=aH dJ
   have Fy:Hid (Y.heap[w.heap.size+1]?=some (.cells #[.int .i64 s.k,.string (aj s.tb),.slice b1 m1 d1,.string (aj s.aD),.slice b2 m2 d2,.slice b3 m3 d3,.slice b4 m4 d4,.string (aj s.jn),.slice b5 m5 d5,.slice b6 m6 d6,.slice b7 m7 d7,.slice b8 m8 d8,.bool s.desc,.int .i64 s.lim] 29)):=hid wQ
   have Ho:=hid (HT0.out.on tT)
   have QS:=hid (Mr.on bV)
   clear hb1 bV dJ tT Mr HF kA kB wQ
   go_wp2_with (first | (refine eX hY ?_;clear hY) | fail)
   exact bodyPost_ret (v:=.tuple #[.slice none 0 0,.int .i64 11]) (by simp[results,Tryz.results32,go_sem]) rfl ⟨_,_,_,rfl,aM.nil,bZ.out⟩
end Go.Proofs.YtfeglkleoijlaaaGreatDoor
