/- Packed for the hand-in: CMake CCre -/
import Derived.Test.YtaaggohjmhifbaaGreatDoorZ45
import Derived.Test.YtaaggohjmhifbaaGreatDoorZ46
import Derived.Test.YtaaggohjmhifbaaGreatDoorZ21
import Derived.Test.YtaaggohjmhifbaaGreatDoorZ28
namespace Go.Proofs.YtaaggohjmhifbaaGreatDoor
open Go.RowKit Go.Shelf Go.Lib
set_option linter.unusedSimpArgs false
set_option linter.unusedVariables false
set_option maxRecDepth 20000
set_option maxHeartbeats 8000000
theorem vG {s:St} (hk:s.k=1) (h:bP s=true):oK s=[]:=by
 unfold bP at h
 simp only[Bool.and_eq_true] at h
 have h3:=h.2.2
 unfold xQ at h3
 rw[if_pos hk] at h3
 unfold CJ at h3
 simp only[decide_eq_true_eq] at h3
 obtain⟨_,_,_,_,hr,hs,hi,_,ho,hw,hg,hod,_,_⟩:=h3
 unfold oK
 rw[List.eq_nil_of_length_eq_zero hs,List.eq_nil_of_length_eq_zero hi,List.eq_nil_of_length_eq_zero ho,List.eq_nil_of_length_eq_zero hw,List.eq_nil_of_length_eq_zero hg,List.eq_nil_of_length_eq_zero hod]
 rfl
theorem Ai {s:St} (hk:s.k=1):decide ((kJ [s]).2=0)=bP s:=by
 cases h:bP s with
 | true=>exact decide_eq_true (qM hk h).1
 |
  false =>
  have e:kJ [s]=([],4):=by
   unfold kJ
   rw[if_neg (by simp),if_neg (by simp[aZ,h])]
  rw[e]
  exact decide_eq_false (by decide)
theorem CZ {U:World} {g:Nat} {s:St} {cs:List Value} {T:Nat→Prop} (hc:U.heap[g]?=some (.cells cs.toArray 28)) (hx:mO T U s cs) (hl:cs.length=14) (hT:T g):bT 14 mO T U [s] (.slice (some ⟨g,0,none⟩) 1 1):=by
 refine ⟨_,1,[cs],rfl,by simp,by unfold maxLen;omega,mh.nil.snoc hl hx,fun _=>⟨g,0,rfl,hT,fun j ds hj i u hu=>?_⟩⟩
 match j,hj with
 |
  0,hj =>
  simp only[List.nil_append,List.getElem?_cons_zero,Option.some.injEq] at hj
  subst hj
  rw[Nat.zero_mul,Nat.zero_add,aC _ _ _ _ _ _ hc]
  rw[← List.getElem?_toArray] at hu
  exact hu
theorem mO.on {S:Nat→Prop} {w w':World} {s:St} {cs:List Value} (h:mO S w s cs) (hb:Below w.heap.size w w'):mO (fun _=>True) w' s cs:=h.to (R:=fun _=>False) (ay.aI hb) (fun b hS _=>⟨id,trivial⟩)
theorem uh (S:Nat→Prop) (s:St) (cs:List Value) (w:World) (hT:lV w) (hR:Gp s) (hx:mO S w s cs) :
  Calls Tryz.prog 29 #[.agg cs.toArray] w fun e w'=>e = .returned (.bool (decide (s.k=1)&&bP s))∧Below w.heap.size w w':=by
 have hxx:=hx
 obtain⟨a1,a2,a3,a4,a5,a6,a7,a8,n1,n2,n3,n4,n5,n6,n7,n8,c1,c2,c3,c4,c5,c6,c7,c8,rfl,_⟩:=hx
 obtain⟨W,hW,hbW,hzW,hcW⟩:=aQ w (.cells #[.int .i64 s.k,.string (aj s.tb),.slice a1 n1 c1,.string (aj s.prim),.slice a2 n2 c2,.slice a3 n3 c3,.slice a4 n4 c4,.string (aj s.jn),.slice a5 n5 c5,.slice a6 n6 c6,.slice a7 n7 c7,.slice a8 n8 c8,.bool s.desc,.int .i64 s.lim] 28)
 have k0:=au hcW
 have HB:=hid hbW
 by_cases hk:s.k=1
 ·obtain⟨U,hU,hbU,hzU,hcU⟩:=aQ W (.cells #[.int .i64 s.k,.string (aj s.tb),.slice a1 n1 c1,.string (aj s.prim),.slice a2 n2 c2,.slice a3 n3 c3,.slice a4 n4 c4,.string (aj s.jn),.slice a5 n5 c5,.slice a6 n6 c6,.slice a7 n7 c7,.slice a8 n8 c8,.bool s.desc,.int .i64 s.lim] 28)
  have hBU:=hbW.trans (hbU.mono hbW.size)
  have hsl:=CZ (T:=fun _=>True) (g:=W.heap.size) hcU (hxx.on hBU) rfl trivial
  have HP:=hid (nN (fun _=>True) [s] _ U (hT.on hBU) (fun x hx=>by rw[List.mem_singleton.1 hx];exact hR) hsl (fun _ x hx hr e he=>by
   rw[List.mem_singleton.1 hx] at hr he
   rw[vG hk hr] at he
   cases he))
  have HBU:=hid hBU
  have hcode:=Ai hk
  obtain⟨R,hRA⟩:∃R,kJ [s]=R:=⟨_,rfl⟩
  rw[hRA] at HP hcode
  obtain⟨r1,r2⟩:=R
  dsimp only at HP hcode
  rw[← hcode,hk,decide_eq_true rfl,Bool.true_and]
  rw[hk] at hW hU k0
  have he:(r2==0)=decide (r2=0):=by by_cases h:r2=0<;>simp[h]
  rw[← he]
  clear hxx hbW hcW hbU hcU hBU hsl hcode hRA hR hT
  go_enter Tryz.func29,Tryz.ntmps29
  go_wp2_with fail
  try rw[hW]
  try rw[hU]
  refine HP.out.mono ?_
  rintro e w1 ⟨rfl,hb1⟩
  have HB1:=hid (HBU.out.trans (hb1.mono HBU.out.size))
  clear hb1 HP
  go_wp2
  go_ret
  exact⟨rfl,HB1.out⟩
 ·have hk':(s.k != 1)=true:=by simpa using hk
  rw[decide_eq_false hk,Bool.false_and]
  clear hxx hbW hcW hT hR
  generalize s.k=K at *
  go_enter Tryz.func29,Tryz.ntmps29
  go_wp2
  go_ret
  exact⟨rfl,HB.out⟩
theorem oO {s:St} (hk:s.k=1) (h:bP s=true) (p:Int):ShT ⟨s.tb,s.cols,p⟩∧s.cols≠[]:=by
 obtain⟨h1,h2,h3⟩:=kH hk h
 refine ⟨⟨fP h3,(dZ h1).2,fun c hc=>?_⟩,fun e=>?_⟩
 ·have:=aX h1 c hc
  unfold jT at this
  rw[Bool.and_eq_true] at this
  exact fP this.1
 ·have:=(dZ h1).1
  rw[e] at this
  simp at this
theorem FL {s:St} (h:(decide (s.k=1)&&bP s)=false):dh s=(vW,4):=by
 unfold dh
 rw[if_neg]
 rintro⟨h1,h2⟩
 rw[h2,decide_eq_true h1] at h
 cases h
theorem GU {s:St} (h1:s.k=1) (h2:bP s=true) {j:Nat} (hj:j<s.cols.length) (h:fO s.cols (s.cols[j]'hj).nm≠j):dh s=(vW,13):=by
 unfold dh
 rw[if_pos ⟨h1,h2⟩,if_neg]
 intro hn
 exact h (uP hn hj)
theorem ze (l:List Co) (p:Nat) (x:Co) (h:l[p]?=some x):jC (keyed l p)=((jC l).set (p*4+2) (.bool true)).set (p*4+3) (.bool true):=by
 have hlen:(jC (keyed l p)).length=(((jC l).set (p*4+2) (.bool true)).set (p*4+3) (.bool true)).length:=by
  rw[lq,fu,List.length_set,List.length_set,lq]
 have hp:p<l.length:=(List.getElem?_eq_some_iff.1 h).1
 apply List.ext_getElem?
 intro j
 by_cases hj:j<l.length*4
 ·have hq:j / 4<l.length:=by omega
  obtain⟨y,hy⟩:∃y,l[j / 4]?=some y:=⟨_,List.getElem?_eq_getElem hq⟩
  have ej:j=j / 4*4+j % 4:=by omega
  have hm:j % 4<4:=Nat.mod_lt _ (by decide)
  have hkey:=lH l p (j / 4)
  obtain⟨z,hz⟩:∃z,(keyed l p)[j / 4]?=some z:=⟨_,List.getElem?_eq_getElem (by rw[fu];exact hq)⟩
  obtain⟨u,hu⟩:∃u,(lF z)[j % 4]?=some u:=⟨_,List.getElem?_eq_getElem (by exact hm)⟩
  obtain⟨v,hv⟩:∃v,(lF y)[j % 4]?=some v:=⟨_,List.getElem?_eq_getElem (by exact hm)⟩
  have e1:=vg (keyed l p) (j / 4) (j % 4) z u hz hu
  have e2:=vg l (j / 4) (j % 4) y v hy hv
  rw[← ej] at e1 e2
  rw[e1,List.getElem?_set,List.getElem?_set,List.length_set,lq,e2]
  rw[hz,hy] at hkey
  by_cases hpj:p=j / 4
  ·rw[if_pos hpj] at hkey
   simp only[Option.map_some,Option.some.injEq] at hkey
   subst hkey
   obtain⟨b,hb⟩:∃b,j % 4=b:=⟨_,rfl⟩
   rw[hb] at hu hv ej
   match b,(show b<4 by omega) with
   |
    0,_ =>
    rw[if_neg (by omega),if_neg (by omega),← hu,← hv];rfl
   |
    1,_ =>
    rw[if_neg (by omega),if_neg (by omega),← hu,← hv];rfl
   |
    2,_ =>
    rw[if_neg (by omega),if_pos (by omega),if_pos (by omega),← hu];rfl
   |
    3,_ =>
    rw[if_pos (by omega),if_pos (by omega),← hu];rfl
  ·rw[if_neg hpj] at hkey
   simp only[Option.some.injEq] at hkey
   subst hkey
   rw[hu] at hv
   rw[if_neg (by omega),if_neg (by omega),hv]
 ·rw[List.getElem?_eq_none (by rw[lq,fu];omega),List.getElem?_eq_none (by rw[← hlen,lq,fu];omega)]
structure Lj (l:List Co) (prim tb:List UInt8) (M:Tb × Int):Prop where
 two : ∀(j:Nat) (x:Co),l[j]?=some x→fO l x.nm≠j→M=(vW,13)
 fin:(∀(j:Nat) (x:Co),l[j]?=some x→fO l x.nm=j)→M=if fO l prim<l.length then (⟨tb,keyed l (fO l prim),(fO l prim:Nat)⟩,0) else (vW,12)
theorem Lr {s:St} (hk:s.k=1) (hr:bP s=true):Lj s.cols s.prim s.tb (dh s):=by
 refine ⟨fun j x hx h=>?_,fun h=>?_⟩
 ·obtain⟨hj,e⟩:=List.getElem?_eq_some_iff.1 hx
  subst e
  exact GU hk hr hj h
 ·unfold dh
  rw[if_pos ⟨hk,hr⟩,if_pos (uR (fun j hj=>h j _ (List.getElem?_eq_getElem hj)))]
theorem oC (S:Nat→Prop) (s:St) (cs:List Value) (w:World) (hT:lV w) (hR:Gp s) (hx:mO S w s cs) :
  Calls Tryz.prog 10 #[.agg cs.toArray] w fun e w'=>∃ds:List Value,e = .returned (.tuple #[.agg ds.toArray,.int .i64 (dh s).2])∧Iq w.heap.size w' (dh s).1 ds∧Below w.heap.size w w':=by
 have hxx:=hx
 obtain⟨a1,a2,a3,a4,a5,a6,a7,a8,n1,n2,n3,n4,n5,n6,n7,n8,c1,c2,c3,c4,c5,c6,c7,c8,rfl,hsl,_⟩:=hx
 obtain⟨W,hW,hbW,hzW,hcA,hcB⟩:=two w (.cells #[.int .i64 s.k,.string (aj s.tb),.slice a1 n1 c1,.string (aj s.prim),.slice a2 n2 c2,.slice a3 n3 c3,.slice a4 n4 c4,.string (aj s.jn),.slice a5 n5 c5,.slice a6 n6 c6,.slice a7 n7 c7,.slice a8 n8 c8,.bool s.desc,.int .i64 s.lim] 28) (.cells #[.string ⟨#[]⟩,.slice none 0 0,.int .i64 0] 31)
 have k0:=au hcA
 have HRC:=hid (uh (fun _=>True) s _ W (hT.on hbW) hR (hxx.on hbW))
 have HB:=hid hbW
 have HCA:=hid hcA
 have HCB:=hid hcB
 have hmb:(decide (s.k=1)&&bP s)=false→dh s=(vW,4):=FL
 have hmk:(decide (s.k=1)&&bP s)=true→Lj s.cols s.prim s.tb (dh s)∧(∀p,ShT ⟨s.tb,s.cols,p⟩)∧s.cols≠[]:=fun h=>by
  simp only[Bool.and_eq_true,decide_eq_true_eq] at h
  exact⟨Lr h.1 h.2,fun p=>(oO h.1 h.2 p).1,(oO h.1 h.2 0).2⟩
 clear hxx hT hR hbW hcA hcB
 generalize dh s=M at hmb hmk ⊢
 generalize (decide (s.k=1)&&bP s)=ok at HRC hmb hmk
 obtain⟨k,tb,l,prim,rows,sets,items,jn,on,wh,gr,od,desc,lim⟩:=s
 dsimp only at hW k0 HRC HCA hmb hmk hsl
 cases ok with
 |
  false =>
  obtain rfl:=hmb rfl
  clear hmb hmk hsl
  go_enter Tryz.func10,Tryz.ntmps10
  go_wp2_with fail
  try rw[hW]
  refine HRC.out.mono ?_
  rintro e w1 ⟨rfl,hb1⟩
  have hs1:=hb1.size
  have k1:=bI ((hb1.block (w.heap.size+1) (by omega)).trans HCB.out)
  have HS0:=hid (bG k1.1)
  have HS1:=hid (bG k1.2.1)
  have HS2:=hid (bG k1.2.2.1)
  have HB1:=hid (HB.out.trans (hb1.mono HB.out.size))
  clear hb1 HRC
  go_wp2
  rw[HS0.out,HS1.out,HS2.out]
  exact bodyPost_ret (v:=.tuple #[.agg #[.string ⟨#[]⟩,.slice none 0 0,.int .i64 0],.int .i64 4]) (by simp[results,Tryz.results10,go_sem,k1]) rfl ⟨_,rfl,nG _ _ HB1.out.size,HB1.out⟩
 |
  true =>
  obtain⟨hmk,hsh,hne⟩:=hmk rfl
  have h8:=(hsh 0).2.1
  dsimp only at h8
  obtain⟨b,off,c,hv,hlc,hcm,hS,hlt0,hel⟩:=kI hsl hne
  simp only[Value.slice.injEq] at hv
  obtain⟨rfl,rfl,rfl⟩:=hv
  unfold maxLen at hcm
  have HEL:=hid hel
  have HSL:=hid hsl
  have HSH:=hid hsh
  have HNE:=hid hne
  have HMK:=hid hmk
  clear hmb hmk hsl hsh hel hne
  go_enter Tryz.func10,Tryz.ntmps10
  go_wp2_with fail
  try rw[hW]
  refine HRC.out.mono ?_
  rintro e w1 ⟨rfl,hb1⟩
  have hs1:=hb1.size
  have hA1:=(hb1.block w.heap.size (by omega)).trans HCA.out
  have hZ1:=(hb1.block (w.heap.size+1) (by omega)).trans HCB.out
  have k1:=au hA1
  have HA1:=hid hA1
  have HZ1:=hid hZ1
  have HB1:=hid (HB.out.trans (hb1.mono HB.out.size))
  have hz1:w.heap.size+1<w1.heap.size:=by omega
  clear hb1 HRC hW k0 HCA HCB HB hzW hA1 hZ1
  go_wp2_with fail
  go_loopw [15] (fun i wr=>∃j:Nat,j≤l.length∧i = .int .i64 j∧Below w1.heap.size w1 wr∧Hid (∀(m:Nat) (x:Co),m<j→l[m]?=some x→fO l x.nm=m)) (fun i _=>l.length-(intOf i).toNat)
  case atStart=>exact⟨0,Nat.zero_le _,rfl,Below.refl _ _,hid (fun m x h=>absurd h (Nat.not_lt_zero _))⟩
  case round =>
   obtain⟨j,hj,rfl,hbr,HFI⟩:=hrel
   have hsr:=hbr.size
   have hBR:Below w.heap.size w wr:=HB1.out.trans (hbr.mono HB1.out.size)
   have hZr:=(hbr.block (w.heap.size+1) (by omega)).trans HZ1.out
   have hAr:=(hbr.block w.heap.size (by omega)).trans HA1.out
   have kr:=au hAr
   have kz:=bI hZr
   by_cases hlt:j<l.length
   ·obtain⟨x,hx⟩:∃x,l[j]?=some x:=⟨_,List.getElem?_eq_getElem hlt⟩
    have hlt':(j:Int)<(l.length:Int):=by omega
    have hq:=HEL.out wr (hBR.mono (Nat.le_refl _)) j x hx
    have q0:=hq 0 _ rfl
    have q1:=hq 1 _ rfl
    have q2:=hq 2 _ rfl
    have q3:=hq 3 _ rfl
    rw[Nat.add_zero] at q0
    obtain⟨U,hU,hbU,hzU,hcU⟩:=aQ wr (.cells #[.string (aj x.nm),.int .i64 x.k,.bool x.nn,.bool x.uq] 37)
    have hBU:Below w.heap.size w U:=hBR.trans (hbU.mono hBR.size)
    have HPL:=hid (xH S l (.slice (some ⟨b,off,none⟩) l.length c1) x.nm U (HSL.out.to (by decide) (R:=fun _=>False) (ay.aI hBU) (fun b hb _=>⟨id,hb⟩) (fun _ _ e=>e)) HNE.out)
    have hix:=Dm (l:=l) (nm:=x.nm) (List.getElem?_eq_some_iff.1 hx).1 (by rw[(List.getElem?_eq_some_iff.1 hx).2])
    have hpc:mD l x.nm=(fO l x.nm:Nat):=by unfold mD;rw[if_pos (by omega)]
    rw[hpc] at HPL
    have HTWO:Hid (fO l x.nm≠j→M=(vW,13)):=hid (HMK.out.two j x hx)
    have HFX:Hid (fO l x.nm=j→∀(m:Nat) (y:Co),m<j+1→l[m]?=some y→fO l y.nm=m):=hid (fun e m y hm hy=>by
     rcases Nat.lt_or_ge m j with h1 | h1
     ·exact HFI.out m y h1 hy
     ·obtain rfl:m=j:=by omega
      rw[hx] at hy
      injection hy with hy
      rw[← hy]
      exact e)
    have kU:=bA hcU
    have kUA:=au ((hbU.block w.heap.size (by omega)).trans hAr)
    have HBU:=hid hBU
    have HBRU:=hid (hbr.trans (hbU.mono hbr.size))
    have HZU:=hid ((hbU.block (w.heap.size+1) (by omega)).trans hZr)
    clear hpc hq hx HFI hbr hBR hZr hAr hbU hcU hBU kz
    generalize fO l x.nm=q at HPL HTWO HFX hix
    go_wp2_with fail
    try rw[hU]
    refine HPL.out.mono ?_
    rintro e w2 ⟨rfl,hb2⟩
    have hs2:=hb2.size
    have hZ2:=(hb2.block (w.heap.size+1) (by omega)).trans HZU.out
    have k2:=bI hZ2
    have HS0:=hid (bG k2.1)
    have HS1:=hid (bG k2.2.1)
    have HS2:=hid (bG k2.2.2.1)
    have HB2:=hid (HBU.out.trans (hb2.mono HBU.out.size))
    have HBR2:=hid (HBRU.out.trans (hb2.mono HBRU.out.size))
    clear hb2 hZ2 HPL
    by_cases hqj:q=j
    ·have hqj':((q:Int) != (j:Int))=false:=by rw[hqj];simp
     have HFX2:=hid (HFX.out hqj)
     clear hqj HS0 HS1 HS2
     go_wp2_with fail
     go_roundw
     case rel=>exact⟨j+1,by omega,by go_num,HBR2.out,HFX2⟩
     case measure=>simp[intOf];omega
    ·have hqj':((q:Int) != (j:Int))=true:=by simp;omega
     obtain rfl:=HTWO.out hqj
     clear hqj
     go_wp2
     rw[HS0.out,HS1.out,HS2.out]
     exact bodyPost_ret (v:=.tuple #[.agg #[.string ⟨#[]⟩,.slice none 0 0,.int .i64 0],.int .i64 13]) (by simp[results,Tryz.results10,go_sem,k2]) rfl ⟨_,rfl,nG _ _ HB2.out.size,HB2.out⟩
   ·have hlt' : ¬(j:Int)<(l.length:Int):=by omega
    have hM:=HMK.out.fin (fun m x hx=>HFI.out m x (by have:=(List.getElem?_eq_some_iff.1 hx).1;omega) hx)
    have hsl:=HSL.out.to (T:=S) (by decide) (R:=fun _=>False) (ay.aI hBR) (fun b hb _=>⟨id,hb⟩) (fun _ _ e=>e)
    have HPL:=hid (xH S l (.slice (some ⟨b,off,none⟩) l.length c1) prim wr hsl HNE.out)
    have HSLR:=hid hsl
    have HZR:=hid hZr
    have HAR:=hid hAr
    have HBR:=hid hBR
    by_cases hp:fO l prim<l.length
    ·have hpc:mD l prim=(fO l prim:Nat):=by unfold mD;rw[if_pos hp]
     rw[hpc] at HPL
     rw[if_pos hp] at hM
     generalize fO l prim=p at HPL hM hp
     obtain⟨x,hx⟩:∃x,l[p]?=some x:=⟨_,List.getElem?_eq_getElem hp⟩
     have HX:=hid hx
     have hp' : ¬(p:Int)<0:=by omega
     have hp'':(p:Int)<(l.length:Int):=by omega
     subst hM
     clear hpc hx HFI hbr hZr hAr hBR hsl kz
     go_wp2_with fail
     refine HPL.out.mono ?_
     rintro e w2 ⟨rfl,hb2⟩
     have hs2:=hb2.size
     have hA2:=(hb2.block w.heap.size (by omega)).trans HAR.out
     have k2:=au hA2
     have HCL:=hid (CQ S ⟨tb,l,(p:Int)⟩ _ w2 ⟨_,_,_,rfl,HSLR.out.to (T:=S) (by decide) (R:=fun _=>False) (ay.aI hb2) (fun b hb _=>⟨id,hb⟩) (fun _ _ e=>e)⟩ (HSH.out p) HNE.out)
     have HB2:=hid (HBR.out.trans (hb2.mono HBR.out.size))
     have HZ2:=hid ((hb2.block (w.heap.size+1) (by omega)).trans HZR.out)
     clear hb2 HPL hA2
     go_wp2_with fail
     refine HCL.out.mono ?_
     rintro e w3 ⟨ds,rfl,⟨aa,nn,cc,rfl,hown⟩,hb3⟩
     dsimp only at hown
     obtain⟨g,cg,hvg,hg1,hg2,hlcg,hgc⟩:=lK hown HNE.out
     simp only[Value.slice.injEq] at hvg
     obtain⟨rfl,rfl,rfl⟩:=hvg
     have hs3:=hb3.size
     obtain⟨V,hV,hbV,hzV,hcV⟩:=aQ w3 (.cells #[.string (aj tb),.slice (some ⟨g,0,none⟩) l.length cc,.int .i64 p] 31)
     have hownV:=ay.row (ay.aI (S:=fun _=>False) hbV) hown (fun _ _=>id)
     have kV:=bI hcV
     have HCV:=hid hcV
     have HB3:=hid ((HB2.out.trans (hb3.mono HB2.out.size)).trans (hbV.mono (HB2.out.trans (hb3.mono HB2.out.size)).size))
     have HZ3:=hid ((hbV.block (w.heap.size+1) (by omega)).trans ((hb3.block (w.heap.size+1) (by omega)).trans HZ2.out))
     have hq:=(hgc V hbV).1 p x HX.out
     have q2:=hq 2 _ rfl
     have q3:=hq 3 _ rfl
     have qf:=(hgc V hbV).2
     obtain⟨X,hX⟩:∃X,V.setCell ⟨g,p*4+2,none⟩ (.bool true)=X:=⟨_,rfl⟩
     obtain⟨Y,hY⟩:∃Y,X.setCell ⟨g,p*4+3,none⟩ (.bool true)=Y:=⟨_,rfl⟩
     have hoX:=hownV.stored (p*4+2) (.bool true)
     rw[hX] at hoX
     have hoY:=hoX.1.stored (p*4+3) (.bool true)
     rw[hY] at hoY
     have hsX:ay (fun k=>k=g) V X:=ay.jB hoX.2 (fun k e=>by injection e with e;exact e.symm)
     have hsY:ay (fun k=>k=g) X Y:=ay.jB hoY.2 (fun k e=>by injection e with e;exact e.symm)
     have hzX:=hsX.size
     have hzY:=hsY.size
     have hcX:=(hsX.block w3.heap.size (by omega) (by omega)).trans hcV
     have hcY:=(hsY.block w3.heap.size (by omega) (by omega)).trans hcX
     have kX:=bI hcX
     have kY:=bI hcY
     have hZY:=(hsY.block (w.heap.size+1) (by omega) (by omega)).trans ((hsX.block (w.heap.size+1) (by omega) (by omega)).trans HZ3.out)
     have kZ:=bI hZY
     have HOY:=hid hoY.1
     have xf : ∀i,X.frozen? ⟨g,i,none⟩=false:=fun i=>hoX.1.frozenAt i
     have x3:X.cell? ⟨g,p*4+3,none⟩=some (.bool x.uq):=by rw[← hX,World.cell?_setCell_other _ _ _ _ (by simp)];exact q3
     have HBY:Hid (Below w.heap.size w Y):=hid (HB3.out.trans ((hsX.andThen hsY (fun i hi=>.inl hi)).below (fun i hi=>by omega) HB3.out.size))
     clear hb3 hbV hcV hown hownV hq hgc hoX hoY hsX hsY hcX hcY hZY HCL k2
     go_wp2
     have hSp:ay (fun k=>k=w.heap.size+1) Y (((Y.setCell ⟨w.heap.size+1,0,none⟩ (.string (aj tb))).setCell ⟨w.heap.size+1,1,none⟩ (.slice (some ⟨g,0,none⟩) l.length cc)).setCell ⟨w.heap.size+1,2,none⟩ (.int .i64 p)):=(((ay.refl (fun k=>k=w.heap.size+1) Y).own _ _).own _ _).own _ _
     have hB:Below w.heap.size w (((Y.setCell ⟨w.heap.size+1,0,none⟩ (.string (aj tb))).setCell ⟨w.heap.size+1,1,none⟩ (.slice (some ⟨g,0,none⟩) l.length cc)).setCell ⟨w.heap.size+1,2,none⟩ (.int .i64 p)):=HBY.out.trans (hSp.below (fun i hi=>by omega) HBY.out.size)
     refine bodyPost_ret (v:=.tuple #[.agg #[.string (aj tb),.slice (some ⟨g,0,none⟩) l.length cc,.int .i64 p],.int .i64 0]) (by simp[results,Tryz.results10,go_sem,kZ]) rfl ⟨_,rfl,⟨_,_,_,rfl,?_⟩,hB⟩
     dsimp only
     rw[fu,ze l p x HX.out]
     exact qc (hSp.row HOY.out (fun b hb=>by
      have:b=g:=by simpa [Value.ownBlock] using hb.symm
      omega)) (fun b hb=>by
      have:b=g:=by simpa [Value.ownBlock] using hb.symm
      omega)
    ·have hpc:mD l prim = -1:=by unfold mD;rw[if_neg hp]
     rw[hpc] at HPL
     rw[if_neg hp] at hM
     subst hM
     clear hpc hp HFI hbr hZr hAr hBR hsl kz
     go_wp2_with fail
     refine HPL.out.mono ?_
     rintro e w2 ⟨rfl,hb2⟩
     have hs2:=hb2.size
     have k2:=bI ((hb2.block (w.heap.size+1) (by omega)).trans HZR.out)
     have HS0:=hid (bG k2.1)
     have HS1:=hid (bG k2.2.1)
     have HS2:=hid (bG k2.2.2.1)
     have HB2:=hid (HBR.out.trans (hb2.mono HBR.out.size))
     clear hb2 HPL
     go_wp2
     rw[HS0.out,HS1.out,HS2.out]
     exact bodyPost_ret (v:=.tuple #[.agg #[.string ⟨#[]⟩,.slice none 0 0,.int .i64 0],.int .i64 12]) (by simp[results,Tryz.results10,go_sem,k2]) rfl ⟨_,rfl,nG _ _ HB2.out.size,HB2.out⟩
section
variable {P : Program} {md : Region.Mode} {ops : Array Oper} {Q : Exit → Act → World → Prop} {S : World → Prop} {fuel : Nat} {listed : Array Bool} {a : Act} {w : World} {i k0 : Nat} {oi : Oper}
theorem uo (hr:Region.ready md ops listed=[i]) (hi:ops[i]?=some oi) (gi:oi.guard=none) (ty:TypeId) (x y:Operand) (ki:oi.op = .store ty x y)
  (g:Nat) (cells:Array Value) (hx:a.eval x = .pointer (some ⟨g,0,none⟩)) (hy:a.eval y = .agg cells) (t:TypeId) (old:Array Value) (hg:w.heap[g]?=some (.cells old t (0,0))) (hs:(P.info? ty).map (·.size)=some cells.size)
  (hold:old.size=cells.size) (h1:cells.all (·.oneCell')=true) (hS:S (w.setRow g cells)∨i=k0)
  (h:fF P md ops Q S k0 fuel (listed.setIfInBounds i true) (a.put oi.dst undef) (w.setRow g cells)):fF P md ops Q S k0 (fuel+1) listed a w :=
 xL hr hi gi (wp_store_row ty x y ki g cells hx hy t old hg hs hold h1 ⟨hS,h⟩)
end
abbrev Ik (nm prim:List UInt8) (aa:Option Addr) (nn cc:Nat):Array Value:=#[.int .i64 1,.string (aj nm),.slice aa nn cc,.string (aj prim),.slice none 0 0,.slice none 0 0,.slice none 0 0,.string ⟨#[]⟩,.slice none 0 0,.slice none 0 0,.slice none 0 0,.slice none 0 0,.bool false,.int .i64 (-1)]
theorem Kv (nm prim:ByteArray) (aa:Option Addr) (nn cc:Nat):(#[.int .i64 1,.string nm,.slice aa nn cc,.string prim,.slice none 0 0,.slice none 0 0,.slice none 0 0,.string ⟨#[]⟩,.slice none 0 0,.slice none 0 0,.slice none 0 0,.slice none 0 0,.bool false,.int .i64 (-1)]:Array Value).all (·.oneCell')=true:=by
 simp[Value.oneCell']
theorem Tryz.Je:(Tryz.prog.info? 28).map (·.size)=some 14:=by kernel_rfl
theorem tT (S:Nat→Prop) (nm:List UInt8) (l:List Co) (aa:Option Addr) (nn cc:Nat) (p:Nat) (x:Co) (w:World) (h:bT 4 jq S w l (.slice aa nn cc)) (hx:l[p]?=some x) :
  Calls Tryz.prog 35 #[.agg #[.string (aj nm),.slice aa nn cc,.int .i64 (p:Int)]] w fun e w'=>e = .returned (.agg (Ik nm x.nm aa nn cc))∧Below w.heap.size w w':=by
 have hp:p<l.length:=(List.getElem?_eq_some_iff.1 hx).1
 obtain⟨b,off,c,hv,hlc,hcm,hS,hlt0,hel⟩:=kI h (fun e=>by rw[e] at hp;exact absurd hp (Nat.not_lt_zero _))
 simp only[Value.slice.injEq] at hv
 obtain⟨rfl,rfl,rfl⟩:=hv
 unfold maxLen at hcm
 obtain⟨W,hW,hbW,hzW,hcA,hcB⟩:=two w (.cells #[.string (aj nm),.slice (some ⟨b,off,none⟩) l.length cc,.int .i64 (p:Int)] 31) (.cells #[.int .i64 0,.string ⟨#[]⟩,.slice none 0 0,.string ⟨#[]⟩,.slice none 0 0,.slice none 0 0,.slice none 0 0,.string ⟨#[]⟩,.slice none 0 0,.slice none 0 0,.slice none 0 0,.slice none 0 0,.bool false,.int .i64 0] 28)
 have q0:=hel W.drew hbW.drew p x hx 0 _ rfl
 rw[Nat.add_zero] at q0
 have k0:=bI (w:=W.drew) hcA
 have hp':(p:Int)<(l.length:Int):=by omega
 have hp0:(0:Int)≤(p:Int):=by omega
 have HB:=hid hbW
 have HCB:=hid hcB
 clear hel hcA hcB hbW h hx
 go_enter Tryz.func35,Tryz.ntmps35
 go_wp2_with fail
 try rw[hW]
 clear hW
 have hS0:(fun W':World=>W'=W.drew) W.drew:=rfl
 refine sQ (fun W':World=>W'=W.drew) 12 (by kernel_rfl) ?_
 refine bf (i:=0) (v:=?_) rfl (by kernel_rfl) (by kernel_rfl) (by kernel_rfl) (by kernel_rfl) (by kernel_rfl) (fun _ _ _ h=>h) (Or.inl ⟨by rfl,?_⟩) (by assumption) ?_;rotate_left;(focus (intro w hSw;(try dsimp only at hSw);(try obtain⟨hSw1,hSw2,hSw3⟩:=hSw);go_simp<;>with_reducible rfl));(try simp only[Act.put,List.getElem_toArray,List.getElem_cons_zero,List.getElem_cons_succ,List.setIfInBounds_toArray,List.set_cons_zero,List.set_cons_succ])
 refine bf (i:=1) (v:=?_) rfl (by kernel_rfl) (by kernel_rfl) (by kernel_rfl) (by kernel_rfl) (by kernel_rfl) (fun _ _ _ h=>h) (Or.inl ⟨by rfl,?_⟩) (by assumption) ?_;rotate_left;(focus (intro w hSw;(try dsimp only at hSw);(try obtain⟨hSw1,hSw2,hSw3⟩:=hSw);go_simp<;>with_reducible rfl));(try simp only[Act.put,List.getElem_toArray,List.getElem_cons_zero,List.getElem_cons_succ,List.setIfInBounds_toArray,List.set_cons_zero,List.set_cons_succ])
 refine bf (i:=2) (v:=?_) rfl (by kernel_rfl) (by kernel_rfl) (by kernel_rfl) (by kernel_rfl) (by kernel_rfl) (fun _ _ _ h=>h) (Or.inl ⟨by rfl,?_⟩) (by assumption) ?_;rotate_left;(focus (intro w hSw;(try dsimp only at hSw);(try obtain⟨hSw1,hSw2,hSw3⟩:=hSw);go_simp<;>with_reducible rfl));(try simp only[Act.put,List.getElem_toArray,List.getElem_cons_zero,List.getElem_cons_succ,List.setIfInBounds_toArray,List.set_cons_zero,List.set_cons_succ])
 refine bf (i:=3) (v:=?_) rfl (by kernel_rfl) (by kernel_rfl) (by kernel_rfl) (by kernel_rfl) (by kernel_rfl) (fun _ _ _ h=>h) (Or.inl ⟨by rfl,?_⟩) (by assumption) ?_;rotate_left;(focus (intro w hSw;(try dsimp only at hSw);(try obtain⟨hSw1,hSw2,hSw3⟩:=hSw);go_simp<;>with_reducible rfl));(try simp only[Act.put,List.getElem_toArray,List.getElem_cons_zero,List.getElem_cons_succ,List.setIfInBounds_toArray,List.set_cons_zero,List.set_cons_succ])
 refine bf (i:=4) (v:=?_) rfl (by kernel_rfl) (by kernel_rfl) (by kernel_rfl) (by kernel_rfl) (by kernel_rfl) (fun _ _ _ h=>h) (Or.inl ⟨by rfl,?_⟩) (by assumption) ?_;rotate_left;(focus (intro w hSw;(try dsimp only at hSw);(try obtain⟨hSw1,hSw2,hSw3⟩:=hSw);go_simp<;>with_reducible rfl));(try simp only[Act.put,List.getElem_toArray,List.getElem_cons_zero,List.getElem_cons_succ,List.setIfInBounds_toArray,List.set_cons_zero,List.set_cons_succ])
 refine bf (i:=5) (v:=?_) rfl (by kernel_rfl) (by kernel_rfl) (by kernel_rfl) (by kernel_rfl) (by kernel_rfl) (fun _ _ _ h=>h) (Or.inl ⟨by rfl,?_⟩) (by assumption) ?_;rotate_left;(focus (intro w hSw;(try dsimp only at hSw);(try obtain⟨hSw1,hSw2,hSw3⟩:=hSw);go_simp<;>with_reducible rfl));(try simp only[Act.put,List.getElem_toArray,List.getElem_cons_zero,List.getElem_cons_succ,List.setIfInBounds_toArray,List.set_cons_zero,List.set_cons_succ])
 refine bf (i:=6) (v:=?_) rfl (by kernel_rfl) (by kernel_rfl) (by kernel_rfl) (by kernel_rfl) (by kernel_rfl) (fun _ _ _ h=>h) (Or.inl ⟨by rfl,?_⟩) (by assumption) ?_;rotate_left;(focus (intro w hSw;(try dsimp only at hSw);(try obtain⟨hSw1,hSw2,hSw3⟩:=hSw);go_simp<;>with_reducible rfl));(try simp only[Act.put,List.getElem_toArray,List.getElem_cons_zero,List.getElem_cons_succ,List.setIfInBounds_toArray,List.set_cons_zero,List.set_cons_succ])
 refine bf (i:=7) (v:=?_) rfl (by kernel_rfl) (by kernel_rfl) (by kernel_rfl) (by kernel_rfl) (by kernel_rfl) (fun _ _ _ h=>h) (Or.inl ⟨by rfl,?_⟩) (by assumption) ?_;rotate_left;(focus (intro w hSw;(try dsimp only at hSw);(try obtain⟨hSw1,hSw2,hSw3⟩:=hSw);go_simp<;>with_reducible rfl));(try simp only[Act.put,List.getElem_toArray,List.getElem_cons_zero,List.getElem_cons_succ,List.setIfInBounds_toArray,List.set_cons_zero,List.set_cons_succ])
 refine bf (i:=8) (v:=?_) rfl (by kernel_rfl) (by kernel_rfl) (by kernel_rfl) (by kernel_rfl) (by kernel_rfl) (fun _ _ _ h=>h) (Or.inl ⟨by rfl,?_⟩) (by assumption) ?_;rotate_left;(focus (intro w hSw;(try dsimp only at hSw);(try obtain⟨hSw1,hSw2,hSw3⟩:=hSw);go_simp<;>with_reducible rfl));(try simp only[Act.put,List.getElem_toArray,List.getElem_cons_zero,List.getElem_cons_succ,List.setIfInBounds_toArray,List.set_cons_zero,List.set_cons_succ])
 refine bf (i:=9) (v:=?_) rfl (by kernel_rfl) (by kernel_rfl) (by kernel_rfl) (by kernel_rfl) (by kernel_rfl) (fun _ _ _ h=>h) (Or.inl ⟨by rfl,?_⟩) (by assumption) ?_;rotate_left;(focus (intro w hSw;(try dsimp only at hSw);(try obtain⟨hSw1,hSw2,hSw3⟩:=hSw);go_simp<;>with_reducible rfl));(try simp only[Act.put,List.getElem_toArray,List.getElem_cons_zero,List.getElem_cons_succ,List.setIfInBounds_toArray,List.set_cons_zero,List.set_cons_succ])
 refine bf (i:=10) (v:=?_) rfl (by kernel_rfl) (by kernel_rfl) (by kernel_rfl) (by kernel_rfl) (by kernel_rfl) (fun _ _ _ h=>h) (Or.inl ⟨by rfl,?_⟩) (by assumption) ?_;rotate_left;(focus (intro w hSw;(try dsimp only at hSw);(try obtain⟨hSw1,hSw2,hSw3⟩:=hSw);go_simp<;>with_reducible rfl));(try simp only[Act.put,List.getElem_toArray,List.getElem_cons_zero,List.getElem_cons_succ,List.setIfInBounds_toArray,List.set_cons_zero,List.set_cons_succ])
 refine bf (i:=11) (v:=?_) rfl (by kernel_rfl) (by kernel_rfl) (by kernel_rfl) (by kernel_rfl) (by kernel_rfl) (fun _ _ _ h=>h) (Or.inl ⟨by rfl,?_⟩) (by assumption) ?_;rotate_left;(focus (intro w hSw;(try dsimp only at hSw);(try obtain⟨hSw1,hSw2,hSw3⟩:=hSw);go_simp<;>with_reducible rfl));(try simp only[Act.put,List.getElem_toArray,List.getElem_cons_zero,List.getElem_cons_succ,List.setIfInBounds_toArray,List.set_cons_zero,List.set_cons_succ])
 refine uo (i:=12) (by kernel_rfl) rfl rfl 28 (.tmp 2) (.tmp 14) rfl (w.heap.size+1) (Ik nm x.nm (some ⟨b,off,none⟩) l.length cc) (by rfl) (by rfl) 28 _ HCB.out Tryz.Je rfl (Kv _ _ _ _ _) (.inr rfl) ?_
 refine sU (by kernel_rfl) ?_ _
 show Only _ .normal _ _
 unfold Only
 have hZB:=setRow_heap W.drew (w.heap.size+1) _ (Ik nm x.nm (some ⟨b,off,none⟩) l.length cc) _ _ HCB.out
 have hSp:ay (fun k=>k=w.heap.size+1) W.drew (W.drew.setRow (w.heap.size+1) (Ik nm x.nm (some ⟨b,off,none⟩) l.length cc)):=ay.setRow (S:=fun k=>k=w.heap.size+1) (ay.refl _ W.drew) (p:=w.heap.size+1) (.inl rfl) _
 have HBF:Hid (Below w.heap.size w (W.drew.setRow (w.heap.size+1) (Ik nm x.nm (some ⟨b,off,none⟩) l.length cc))):=hid (HB.out.drew.trans (hSp.below (fun i hi=>by omega) HB.out.drew.size))
 generalize W.drew.setRow (w.heap.size+1) (Ik nm x.nm (some ⟨b,off,none⟩) l.length cc)=Z at hZB HBF ⊢
 have kZ:=au hZB
 clear hSp hZB k0 q0 hS0
 go_wp2
 exact bodyPost_ret (v:=.agg (Ik nm x.nm (some ⟨b,off,none⟩) l.length cc)) (by simp[results,Tryz.results35,go_sem,kZ]) rfl ⟨rfl,HBF.out⟩
end Go.Proofs.YtaaggohjmhifbaaGreatDoor
