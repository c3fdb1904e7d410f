/- Packed for the hand-in: CMake -/
import Derived.Test.YtfeglkleoijlaaaGreatDoorZ26
import Derived.Test.YtfeglkleoijlaaaGreatDoorZ27
namespace Go.Proofs.YtfeglkleoijlaaaGreatDoor
open Go.RowKit Go.Shelf Go.Lib
set_option linter.unusedSimpArgs false
set_option linter.unusedVariables false
set_option maxRecDepth 20000
set_option maxHeartbeats 8000000
theorem za {s:St} (hk:s.k=1) (h:aZ s=true):jv s=[]:=by
 unfold aZ at h
 simp only[Bool.and_eq_true] at h
 have h3:=h.2.2
 unfold sj at h3
 rw[if_pos hk] at h3
 unfold wK at h3
 simp only[decide_eq_true_eq] at h3
 obtain⟨_,_,_,_,hr,hs,hi,_,ho,hw,hg,hod,_,_⟩:=h3
 unfold jv
 rw[List.eq_nil_of_length_eq_zero hs,List.eq_nil_of_length_eq_zero hi,List.eq_nil_of_length_eq_zero ho,List.eq_nil_of_length_eq_zero hw,List.eq_nil_of_length_eq_zero hg,List.eq_nil_of_length_eq_zero hod]
 rfl
theorem vS {s:St} (hk:s.k=1):decide ((jK [s]).2=0)=aZ s:=by
 cases h:aZ s with
 | true=>exact decide_eq_true (wN hk h).1
 |
  false =>
  have e:jK [s]=([],4):=by
   unfold jK
   rw[if_neg (by simp),if_neg (by simp[bf,h])]
  rw[e]
  exact decide_eq_false (by decide)
theorem Fx {U:World} {g:Nat} {s:St} {cs:List Value} {T:Nat→Prop} (hc:U.heap[g]?=some (.cells cs.toArray 29)) (hx:eZ T U s cs) (hl:cs.length=14) (hT:T g):aQ 14 eZ T U [s] (.slice (some ⟨g,0,none⟩) 1 1):=by
 refine ⟨_,1,[cs],rfl,by simp,by unfold maxLen;omega,gJ.nil.snoc hl hx,fun _=>⟨g,0,rfl,hT,fun j ds hj i u hu=>?_⟩⟩
 match j,hj with
 |
  0,hj =>
  simp only[List.nil_append,List.getElem?_cons_zero,Option.some.injEq] at hj
  subst hj
  rw[Nat.zero_mul,Nat.zero_add,aD _ _ _ _ _ _ hc]
  rw[← List.getElem?_toArray] at hu
  exact hu
theorem eZ.on {S:Nat→Prop} {w w':World} {s:St} {cs:List Value} (h:eZ S w s cs) (hb:Below w.heap.size w w'):eZ (fun _=>True) w' s cs:=h.to (R:=fun _=>False) (aA.aC hb) (fun b hS _=>⟨id,trivial⟩)
theorem ou (S:Nat→Prop) (s:St) (cs:List Value) (w:World) (hT:eH w) (hR:xH s) (hx:eZ S w s cs) :
  Calls Tryz.prog 108 #[.agg cs.toArray] w fun e w'=>e = .returned (.bool (decide (s.k=1)&&aZ s))∧Below w.heap.size w w':=by
 have hxx:=hx
 obtain⟨a1,a2,a3,a4,a5,a6,a7,a8,n1,n2,n3,n4,n5,n6,n7,n8,c1,c2,c3,c4,c5,c6,c7,c8,rfl,_⟩:=hx
 obtain⟨W,hW,hbW,hzW,hcW⟩:=aL w (.cells #[.int .i64 s.k,.string (aj s.tb),.slice a1 n1 c1,.string (aj s.prim),.slice a2 n2 c2,.slice a3 n3 c3,.slice a4 n4 c4,.string (aj s.jn),.slice a5 n5 c5,.slice a6 n6 c6,.slice a7 n7 c7,.slice a8 n8 c8,.bool s.desc,.int .i64 s.lim] 29)
 have k0:=ay hcW
 have HB:=hid hbW
 by_cases hk:s.k=1
 ·obtain⟨U,hU,hbU,hzU,hcU⟩:=aL W (.cells #[.int .i64 s.k,.string (aj s.tb),.slice a1 n1 c1,.string (aj s.prim),.slice a2 n2 c2,.slice a3 n3 c3,.slice a4 n4 c4,.string (aj s.jn),.slice a5 n5 c5,.slice a6 n6 c6,.slice a7 n7 c7,.slice a8 n8 c8,.bool s.desc,.int .i64 s.lim] 29)
  have hBU:=hbW.trans (hbU.mono hbW.size)
  have hsl:=Fx (T:=fun _=>True) (g:=W.heap.size) hcU (hxx.on hBU) rfl trivial
  have HP:=hid (mZ (fun _=>True) [s] _ U (hT.on hBU) (fun x hx=>by rw[List.mem_singleton.1 hx];exact hk) (fun x hx=>by rw[List.mem_singleton.1 hx];exact hR) hsl (fun _ x hx hr e he=>by
   rw[List.mem_singleton.1 hx] at hr he
   rw[za hk hr] at he
   cases he))
  have HBU:=hid hBU
  have hcode:=vS hk
  obtain⟨R,hRA⟩:∃R,jK [s]=R:=⟨_,rfl⟩
  rw[hRA] at HP hcode
  obtain⟨r1,r2⟩:=R
  dsimp only at HP hcode
  rw[← hcode,hk,decide_eq_true rfl,Bool.true_and]
  rw[hk] at hW hU k0
  have he:(r2==0)=decide (r2=0):=by by_cases h:r2=0<;>simp[h]
  rw[← he]
  clear hxx hbW hcW hbU hcU hBU hsl hcode hRA hR hT
  go_enter Tryz.func108,Tryz.ntmps108
  go_wp2_with fail
  try rw[hW]
  try rw[hU]
  refine HP.out.mono ?_
  rintro e w1 ⟨rfl,hb1⟩
  have HB1:=hid (HBU.out.trans (hb1.mono HBU.out.size))
  clear hb1 HP
  go_wp2
  go_ret
  exact⟨rfl,HB1.out⟩
 ·have hk':(s.k != 1)=true:=by simpa using hk
  rw[decide_eq_false hk,Bool.false_and]
  clear hxx hbW hcW hT hR
  generalize s.k=K at *
  go_enter Tryz.func108,Tryz.ntmps108
  go_wp2
  go_ret
  exact⟨rfl,HB.out⟩
theorem gF {s:St} (hk:s.k=1) (h:aZ s=true) (p:Int):ShT ⟨s.tb,s.cols,p⟩∧s.cols≠[]:=by
 obtain⟨h1,h2,h3⟩:=gQ hk h
 refine ⟨⟨fu h3,(bL h1).2,fun c hc=>?_⟩,fun e=>?_⟩
 ·have:=aU h1 c hc
  unfold eY at this
  rw[Bool.and_eq_true] at this
  exact fu this.1
 ·have:=(bL h1).1
  rw[e] at this
  simp at this
theorem xA {s:St} (h:(decide (s.k=1)&&aZ s)=false):bP s=(yH,4):=by
 unfold bP
 rw[if_neg]
 rintro⟨h1,h2⟩
 rw[h2,decide_eq_true h1] at h
 cases h
theorem Cx {s:St} (h1:s.k=1) (h2:aZ s=true) {j:Nat} (hj:j<s.cols.length) (h:bO s.cols (s.cols[j]'hj).nm≠j):bP s=(yH,13):=by
 unfold bP
 rw[if_pos ⟨h1,h2⟩,if_neg]
 intro hn
 exact h (qE hn hj)
theorem nV (l:List Co) (p:Nat) (x:Co) (h:l[p]?=some x):dx (keyed l p)=((dx l).set (p*4+2) (.bool true)).set (p*4+3) (.bool true):=by
 have hlen:(dx (keyed l p)).length=(((dx l).set (p*4+2) (.bool true)).set (p*4+3) (.bool true)).length:=by
  rw[fT,fE,List.length_set,List.length_set,fT]
 have hp:p<l.length:=(List.getElem?_eq_some_iff.1 h).1
 apply List.ext_getElem?
 intro j
 by_cases hj:j<l.length*4
 ·have hq:j / 4<l.length:=by omega
  obtain⟨y,hy⟩:∃y,l[j / 4]?=some y:=⟨_,List.getElem?_eq_getElem hq⟩
  have ej:j=j / 4*4+j % 4:=by omega
  have hm:j % 4<4:=Nat.mod_lt _ (by decide)
  have hkey:=wI l p (j / 4)
  obtain⟨z,hz⟩:∃z,(keyed l p)[j / 4]?=some z:=⟨_,List.getElem?_eq_getElem (by rw[fE];exact hq)⟩
  obtain⟨u,hu⟩:∃u,(iC z)[j % 4]?=some u:=⟨_,List.getElem?_eq_getElem (by exact hm)⟩
  obtain⟨v,hv⟩:∃v,(iC y)[j % 4]?=some v:=⟨_,List.getElem?_eq_getElem (by exact hm)⟩
  have e1:=qc (keyed l p) (j / 4) (j % 4) z u hz hu
  have e2:=qc l (j / 4) (j % 4) y v hy hv
  rw[← ej] at e1 e2
  rw[e1,List.getElem?_set,List.getElem?_set,List.length_set,fT,e2]
  rw[hz,hy] at hkey
  by_cases hpj:p=j / 4
  ·rw[if_pos hpj] at hkey
   simp only[Option.map_some,Option.some.injEq] at hkey
   subst hkey
   obtain⟨b,hb⟩:∃b,j % 4=b:=⟨_,rfl⟩
   rw[hb] at hu hv ej
   match b,(show b<4 by omega) with
   |
    0,_ =>
    rw[if_neg (by omega),if_neg (by omega),← hu,← hv];rfl
   |
    1,_ =>
    rw[if_neg (by omega),if_neg (by omega),← hu,← hv];rfl
   |
    2,_ =>
    rw[if_neg (by omega),if_pos (by omega),if_pos (by omega),← hu];rfl
   |
    3,_ =>
    rw[if_pos (by omega),if_pos (by omega),← hu];rfl
  ·rw[if_neg hpj] at hkey
   simp only[Option.some.injEq] at hkey
   subst hkey
   rw[hu] at hv
   rw[if_neg (by omega),if_neg (by omega),hv]
 ·rw[List.getElem?_eq_none (by rw[fT,fE];omega),List.getElem?_eq_none (by rw[← hlen,fT,fE];omega)]
structure Gz (l:List Co) (prim tb:List UInt8) (M:Tb × Int):Prop where
 two : ∀(j:Nat) (x:Co),l[j]?=some x→bO l x.nm≠j→M=(yH,13)
 fin:(∀(j:Nat) (x:Co),l[j]?=some x→bO l x.nm=j)→M=if bO l prim<l.length then (⟨tb,keyed l (bO l prim),(bO l prim:Nat)⟩,0) else (yH,12)
theorem Gb {s:St} (hk:s.k=1) (hr:aZ s=true):Gz s.cols s.prim s.tb (bP s):=by
 refine ⟨fun j x hx h=>?_,fun h=>?_⟩
 ·obtain⟨hj,e⟩:=List.getElem?_eq_some_iff.1 hx
  subst e
  exact Cx hk hr hj h
 ·unfold bP
  rw[if_pos ⟨hk,hr⟩,if_pos (ql (fun j hj=>h j _ (List.getElem?_eq_getElem hj)))]
theorem xu (S:Nat→Prop) (s:St) (cs:List Value) (w:World) (hT:eH w) (hR:xH s) (hx:eZ S w s cs) :
  Calls Tryz.prog 51 #[.agg cs.toArray] w fun e w'=>∃ds:List Value,e = .returned (.tuple #[.agg ds.toArray,.int .i64 (bP s).2])∧yR w.heap.size w' (bP s).1 ds∧Below w.heap.size w w':=by
 have hxx:=hx
 obtain⟨a1,a2,a3,a4,a5,a6,a7,a8,n1,n2,n3,n4,n5,n6,n7,n8,c1,c2,c3,c4,c5,c6,c7,c8,rfl,hsl,_⟩:=hx
 obtain⟨W,hW,hbW,hzW,hcA,hcB⟩:=two w (.cells #[.int .i64 s.k,.string (aj s.tb),.slice a1 n1 c1,.string (aj s.prim),.slice a2 n2 c2,.slice a3 n3 c3,.slice a4 n4 c4,.string (aj s.jn),.slice a5 n5 c5,.slice a6 n6 c6,.slice a7 n7 c7,.slice a8 n8 c8,.bool s.desc,.int .i64 s.lim] 29) (.cells #[.string ⟨#[]⟩,.slice none 0 0,.int .i64 0] 42)
 have k0:=ay hcA
 have HRC:=hid (ou (fun _=>True) s _ W (hT.on hbW) hR (hxx.on hbW))
 have HB:=hid hbW
 have HCA:=hid hcA
 have HCB:=hid hcB
 have hmb:(decide (s.k=1)&&aZ s)=false→bP s=(yH,4):=xA
 have hmk:(decide (s.k=1)&&aZ s)=true→Gz s.cols s.prim s.tb (bP s)∧(∀p,ShT ⟨s.tb,s.cols,p⟩)∧s.cols≠[]:=fun h=>by
  simp only[Bool.and_eq_true,decide_eq_true_eq] at h
  exact⟨Gb h.1 h.2,fun p=>(gF h.1 h.2 p).1,(gF h.1 h.2 0).2⟩
 clear hxx hT hR hbW hcA hcB
 generalize bP s=M at hmb hmk ⊢
 generalize (decide (s.k=1)&&aZ s)=ok at HRC hmb hmk
 obtain⟨k,tb,l,prim,rows,sets,items,jn,on,wh,gr,od,desc,lim⟩:=s
 dsimp only at hW k0 HRC HCA hmb hmk hsl
 cases ok with
 |
  false =>
  obtain rfl:=hmb rfl
  clear hmb hmk hsl
  go_enter Tryz.func51,Tryz.ntmps51
  go_wp2_with fail
  try rw[hW]
  refine HRC.out.mono ?_
  rintro e w1 ⟨rfl,hb1⟩
  have hs1:=hb1.size
  have k1:=aH ((hb1.block (w.heap.size+1) (by omega)).trans HCB.out)
  have HS0:=hid (aM k1.1)
  have HS1:=hid (aM k1.2.1)
  have HS2:=hid (aM k1.2.2.1)
  have HB1:=hid (HB.out.trans (hb1.mono HB.out.size))
  clear hb1 HRC
  go_wp2
  rw[HS0.out,HS1.out,HS2.out]
  exact bodyPost_ret (v:=.tuple #[.agg #[.string ⟨#[]⟩,.slice none 0 0,.int .i64 0],.int .i64 4]) (by simp[results,Tryz.results51,go_sem,k1]) rfl ⟨_,rfl,iI _ _ HB1.out.size,HB1.out⟩
 |
  true =>
  obtain⟨hmk,hsh,hne⟩:=hmk rfl
  have h8:=(hsh 0).2.1
  dsimp only at h8
  obtain⟨b,off,c,hv,hlc,hcm,hS,hlt0,hel⟩:=fq hsl hne
  simp only[Value.slice.injEq] at hv
  obtain⟨rfl,rfl,rfl⟩:=hv
  unfold maxLen at hcm
  have HEL:=hid hel
  have HSL:=hid hsl
  have HSH:=hid hsh
  have HNE:=hid hne
  have HMK:=hid hmk
  clear hmb hmk hsl hsh hel hne
  go_enter Tryz.func51,Tryz.ntmps51
  go_wp2_with fail
  try rw[hW]
  refine HRC.out.mono ?_
  rintro e w1 ⟨rfl,hb1⟩
  have hs1:=hb1.size
  have hA1:=(hb1.block w.heap.size (by omega)).trans HCA.out
  have hZ1:=(hb1.block (w.heap.size+1) (by omega)).trans HCB.out
  have k1:=ay hA1
  have HA1:=hid hA1
  have HZ1:=hid hZ1
  have HB1:=hid (HB.out.trans (hb1.mono HB.out.size))
  have hz1:w.heap.size+1<w1.heap.size:=by omega
  clear hb1 HRC hW k0 HCA HCB HB hzW hA1 hZ1
  go_wp2_with fail
  go_loopw [15] (fun i wr=>∃j:Nat,j≤l.length∧i = .int .i64 j∧Below w1.heap.size w1 wr∧Hid (∀(m:Nat) (x:Co),m<j→l[m]?=some x→bO l x.nm=m)) (fun i _=>l.length-(intOf i).toNat)
  case atStart=>exact⟨0,Nat.zero_le _,rfl,Below.refl _ _,hid (fun m x h=>absurd h (Nat.not_lt_zero _))⟩
  case round =>
   obtain⟨j,hj,rfl,hbr,HFI⟩:=hrel
   have hsr:=hbr.size
   have hBR:Below w.heap.size w wr:=HB1.out.trans (hbr.mono HB1.out.size)
   have hZr:=(hbr.block (w.heap.size+1) (by omega)).trans HZ1.out
   have hAr:=(hbr.block w.heap.size (by omega)).trans HA1.out
   have kr:=ay hAr
   have kz:=aH hZr
   by_cases hlt:j<l.length
   ·obtain⟨x,hx⟩:∃x,l[j]?=some x:=⟨_,List.getElem?_eq_getElem hlt⟩
    have hlt':(j:Int)<(l.length:Int):=by omega
    have hq:=HEL.out wr (hBR.mono (Nat.le_refl _)) j x hx
    have q0:=hq 0 _ rfl
    have q1:=hq 1 _ rfl
    have q2:=hq 2 _ rfl
    have q3:=hq 3 _ rfl
    rw[Nat.add_zero] at q0
    obtain⟨U,hU,hbU,hzU,hcU⟩:=aL wr (.cells #[.string (aj x.nm),.int .i64 x.k,.bool x.nn,.bool x.uq] 60)
    have hBU:Below w.heap.size w U:=hBR.trans (hbU.mono hBR.size)
    have HPL:=hid (rR S l (.slice (some ⟨b,off,none⟩) l.length c1) x.nm U (HSL.out.to (by decide) (R:=fun _=>False) (aA.aC hBU) (fun b hb _=>⟨id,hb⟩) (fun _ _ e=>e)) HNE.out)
    have hix:=oN (l:=l) (nm:=x.nm) (List.getElem?_eq_some_iff.1 hx).1 (by rw[(List.getElem?_eq_some_iff.1 hx).2])
    have hpc:dJ l x.nm=(bO l x.nm:Nat):=by unfold dJ;rw[if_pos (by omega)]
    rw[hpc] at HPL
    have HTWO:Hid (bO l x.nm≠j→M=(yH,13)):=hid (HMK.out.two j x hx)
    have HFX:Hid (bO l x.nm=j→∀(m:Nat) (y:Co),m<j+1→l[m]?=some y→bO l y.nm=m):=hid (fun e m y hm hy=>by
     rcases Nat.lt_or_ge m j with h1 | h1
     ·exact HFI.out m y h1 hy
     ·obtain rfl:m=j:=by omega
      rw[hx] at hy
      injection hy with hy
      rw[← hy]
      exact e)
    have kU:=nG hcU
    have kUA:=ay ((hbU.block w.heap.size (by omega)).trans hAr)
    have HBU:=hid hBU
    have HBRU:=hid (hbr.trans (hbU.mono hbr.size))
    have HZU:=hid ((hbU.block (w.heap.size+1) (by omega)).trans hZr)
    clear hpc hq hx HFI hbr hBR hZr hAr hbU hcU hBU kz
    generalize bO l x.nm=q at HPL HTWO HFX hix
    go_wp2_with fail
    try rw[hU]
    refine HPL.out.mono ?_
    rintro e w2 ⟨rfl,hb2⟩
    have hs2:=hb2.size
    have hZ2:=(hb2.block (w.heap.size+1) (by omega)).trans HZU.out
    have k2:=aH hZ2
    have HS0:=hid (aM k2.1)
    have HS1:=hid (aM k2.2.1)
    have HS2:=hid (aM k2.2.2.1)
    have HB2:=hid (HBU.out.trans (hb2.mono HBU.out.size))
    have HBR2:=hid (HBRU.out.trans (hb2.mono HBRU.out.size))
    clear hb2 hZ2 HPL
    by_cases hqj:q=j
    ·have hqj':((q:Int) != (j:Int))=false:=by rw[hqj];simp
     have HFX2:=hid (HFX.out hqj)
     clear hqj HS0 HS1 HS2
     go_wp2_with fail
     go_roundw
     case rel=>exact⟨j+1,by omega,by go_num,HBR2.out,HFX2⟩
     case measure=>simp[intOf];omega
    ·have hqj':((q:Int) != (j:Int))=true:=by simp;omega
     obtain rfl:=HTWO.out hqj
     clear hqj
     go_wp2
     rw[HS0.out,HS1.out,HS2.out]
     exact bodyPost_ret (v:=.tuple #[.agg #[.string ⟨#[]⟩,.slice none 0 0,.int .i64 0],.int .i64 13]) (by simp[results,Tryz.results51,go_sem,k2]) rfl ⟨_,rfl,iI _ _ HB2.out.size,HB2.out⟩
   ·have hlt' : ¬(j:Int)<(l.length:Int):=by omega
    have hM:=HMK.out.fin (fun m x hx=>HFI.out m x (by have:=(List.getElem?_eq_some_iff.1 hx).1;omega) hx)
    have hsl:=HSL.out.to (T:=S) (by decide) (R:=fun _=>False) (aA.aC hBR) (fun b hb _=>⟨id,hb⟩) (fun _ _ e=>e)
    have HPL:=hid (rR S l (.slice (some ⟨b,off,none⟩) l.length c1) prim wr hsl HNE.out)
    have HSLR:=hid hsl
    have HZR:=hid hZr
    have HAR:=hid hAr
    have HBR:=hid hBR
    by_cases hp:bO l prim<l.length
    ·have hpc:dJ l prim=(bO l prim:Nat):=by unfold dJ;rw[if_pos hp]
     rw[hpc] at HPL
     rw[if_pos hp] at hM
     generalize bO l prim=p at HPL hM hp
     obtain⟨x,hx⟩:∃x,l[p]?=some x:=⟨_,List.getElem?_eq_getElem hp⟩
     have HX:=hid hx
     have hp' : ¬(p:Int)<0:=by omega
     have hp'':(p:Int)<(l.length:Int):=by omega
     subst hM
     clear hpc hx HFI hbr hZr hAr hBR hsl kz
     go_wp2_with fail
     refine HPL.out.mono ?_
     rintro e w2 ⟨rfl,hb2⟩
     have hs2:=hb2.size
     have hA2:=(hb2.block w.heap.size (by omega)).trans HAR.out
     have k2:=ay hA2
     have HCL:=hid (lH S ⟨tb,l,(p:Int)⟩ _ w2 ⟨_,_,_,rfl,HSLR.out.to (T:=S) (by decide) (R:=fun _=>False) (aA.aC hb2) (fun b hb _=>⟨id,hb⟩) (fun _ _ e=>e)⟩ (HSH.out p) HNE.out)
     have HB2:=hid (HBR.out.trans (hb2.mono HBR.out.size))
     have HZ2:=hid ((hb2.block (w.heap.size+1) (by omega)).trans HZR.out)
     clear hb2 HPL hA2
     go_wp2_with fail
     refine HCL.out.mono ?_
     rintro e w3 ⟨ds,rfl,⟨aa,nn,cc,rfl,hown⟩,hb3⟩
     dsimp only at hown
     obtain⟨g,cg,hvg,hg1,hg2,hlcg,hgc⟩:=gZ hown HNE.out
     simp only[Value.slice.injEq] at hvg
     obtain⟨rfl,rfl,rfl⟩:=hvg
     have hs3:=hb3.size
     obtain⟨V,hV,hbV,hzV,hcV⟩:=aL w3 (.cells #[.string (aj tb),.slice (some ⟨g,0,none⟩) l.length cc,.int .i64 p] 42)
     have hownV:=aA.row (aA.aC (S:=fun _=>False) hbV) hown (fun _ _=>id)
     have kV:=aH hcV
     have HCV:=hid hcV
     have HB3:=hid ((HB2.out.trans (hb3.mono HB2.out.size)).trans (hbV.mono (HB2.out.trans (hb3.mono HB2.out.size)).size))
     have HZ3:=hid ((hbV.block (w.heap.size+1) (by omega)).trans ((hb3.block (w.heap.size+1) (by omega)).trans HZ2.out))
     have hq:=(hgc V hbV).1 p x HX.out
     have q2:=hq 2 _ rfl
     have q3:=hq 3 _ rfl
     have qf:=(hgc V hbV).2
     obtain⟨X,hX⟩:∃X,V.setCell ⟨g,p*4+2,none⟩ (.bool true)=X:=⟨_,rfl⟩
     obtain⟨Y,hY⟩:∃Y,X.setCell ⟨g,p*4+3,none⟩ (.bool true)=Y:=⟨_,rfl⟩
     have hoX:=hownV.stored (p*4+2) (.bool true)
     rw[hX] at hoX
     have hoY:=hoX.1.stored (p*4+3) (.bool true)
     rw[hY] at hoY
     have hsX:aA (fun k=>k=g) V X:=aA.dZ hoX.2 (fun k e=>by injection e with e;exact e.symm)
     have hsY:aA (fun k=>k=g) X Y:=aA.dZ hoY.2 (fun k e=>by injection e with e;exact e.symm)
     have hzX:=hsX.size
     have hzY:=hsY.size
     have hcX:=(hsX.block w3.heap.size (by omega) (by omega)).trans hcV
     have hcY:=(hsY.block w3.heap.size (by omega) (by omega)).trans hcX
     have kX:=aH hcX
     have kY:=aH hcY
     have hZY:=(hsY.block (w.heap.size+1) (by omega) (by omega)).trans ((hsX.block (w.heap.size+1) (by omega) (by omega)).trans HZ3.out)
     have kZ:=aH hZY
     have HOY:=hid hoY.1
     have xf : ∀i,X.frozen? ⟨g,i,none⟩=false:=fun i=>hoX.1.frozenAt i
     have x3:X.cell? ⟨g,p*4+3,none⟩=some (.bool x.uq):=by rw[← hX,World.cell?_setCell_other _ _ _ _ (by simp)];exact q3
     have HBY:Hid (Below w.heap.size w Y):=hid (HB3.out.trans ((hsX.andThen hsY (fun i hi=>.inl hi)).below (fun i hi=>by omega) HB3.out.size))
     clear hb3 hbV hcV hown hownV hq hgc hoX hoY hsX hsY hcX hcY hZY HCL k2
     go_wp2
     have hSp:aA (fun k=>k=w.heap.size+1) Y (((Y.setCell ⟨w.heap.size+1,0,none⟩ (.string (aj tb))).setCell ⟨w.heap.size+1,1,none⟩ (.slice (some ⟨g,0,none⟩) l.length cc)).setCell ⟨w.heap.size+1,2,none⟩ (.int .i64 p)):=(((aA.refl (fun k=>k=w.heap.size+1) Y).own _ _).own _ _).own _ _
     have hB:Below w.heap.size w (((Y.setCell ⟨w.heap.size+1,0,none⟩ (.string (aj tb))).setCell ⟨w.heap.size+1,1,none⟩ (.slice (some ⟨g,0,none⟩) l.length cc)).setCell ⟨w.heap.size+1,2,none⟩ (.int .i64 p)):=HBY.out.trans (hSp.below (fun i hi=>by omega) HBY.out.size)
     refine bodyPost_ret (v:=.tuple #[.agg #[.string (aj tb),.slice (some ⟨g,0,none⟩) l.length cc,.int .i64 p],.int .i64 0]) (by simp[results,Tryz.results51,go_sem,kZ]) rfl ⟨_,rfl,⟨_,_,_,rfl,?_⟩,hB⟩
     dsimp only
     rw[fE,nV l p x HX.out]
     exact dP (hSp.row HOY.out (fun b hb=>by
      have:b=g:=by simpa [Value.ownBlock] using hb.symm
      omega)) (fun b hb=>by
      have:b=g:=by simpa [Value.ownBlock] using hb.symm
      omega)
    ·have hpc:dJ l prim = -1:=by unfold dJ;rw[if_neg hp]
     rw[hpc] at HPL
     rw[if_neg hp] at hM
     subst hM
     clear hpc hp HFI hbr hZr hAr hBR hsl kz
     go_wp2_with fail
     refine HPL.out.mono ?_
     rintro e w2 ⟨rfl,hb2⟩
     have hs2:=hb2.size
     have k2:=aH ((hb2.block (w.heap.size+1) (by omega)).trans HZR.out)
     have HS0:=hid (aM k2.1)
     have HS1:=hid (aM k2.2.1)
     have HS2:=hid (aM k2.2.2.1)
     have HB2:=hid (HBR.out.trans (hb2.mono HBR.out.size))
     clear hb2 HPL
     go_wp2
     rw[HS0.out,HS1.out,HS2.out]
     exact bodyPost_ret (v:=.tuple #[.agg #[.string ⟨#[]⟩,.slice none 0 0,.int .i64 0],.int .i64 12]) (by simp[results,Tryz.results51,go_sem,k2]) rfl ⟨_,rfl,iI _ _ HB2.out.size,HB2.out⟩
end Go.Proofs.YtfeglkleoijlaaaGreatDoor
