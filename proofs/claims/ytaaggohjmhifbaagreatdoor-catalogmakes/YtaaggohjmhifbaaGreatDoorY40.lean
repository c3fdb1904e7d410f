/- Packed for the hand-in: CRead CSame CSmall CBackL CCopy -/
import Derived.Test.YtaaggohjmhifbaaGreatDoorY39
import Derived.Test.YtaaggohjmhifbaaGreatDoorY37
import Derived.Test.YtaaggohjmhifbaaGreatDoorY38
namespace Go.Proofs.YtaaggohjmhifbaaGreatDoor
open Go.RowKit Go.Shelf Go.Lib
set_option linter.unusedSimpArgs false
set_option linter.unusedVariables false
set_option maxRecDepth 20000
set_option maxHeartbeats 8000000
theorem JJ {S:Nat→Prop} {w:World} {s:St} {v:Value} (h:bP 14 jK S w [s] v):∃(b off c:Nat) (cs:List Value),v = .slice (some ⟨b,off,none⟩) 1 c∧jK S w s cs∧∀Z,Below w.heap.size w Z→∀(i:Nat) (u:Value),cs[i]?=some u→Z.cell? ⟨b,off+i,none⟩=some u:=by
 obtain⟨b,off,c,h1,h2,h3,h4⟩:=h.opened (by decide) (by simp)
 obtain⟨cs,h5,h6⟩:=h4 0 s rfl
 refine ⟨b,off,c,cs,h1,h5,fun Z hZ i u hu=>?_⟩
 have:=h6 Z hZ i u hu
 rw[Nat.zero_mul,Nat.add_zero] at this
 exact this
def Gi (N:Tb × Int) (s:List UInt8):Tb × Int:=if N.2=0 then (if (nD N.1).1=s then (N.1,0) else (vB,4)) else (vB,4)
theorem CY (t:Tb) (s:List UInt8):Gi (t,0) s=if (nD t).1=s then (t,0) else (vB,4):=rfl
theorem F7 (t:Tb) (e:Int) (he:e≠0) (s:List UInt8):Gi (t,e) s=(vB,4):=if_neg he
theorem GY (s:List UInt8) (w:World) (hT:mh w) (hL:kN w) (hs:s.length≤140737488351232) :
  Calls Tryz.prog 15 #[.string (ah s)] w fun e w'=>∃ds:List Value,e = .returned (.tuple #[.agg ds.toArray,.int .i64 (uj s).2])∧E9 w.heap.size w' (uj s).1 ds∧Below w.heap.size w w':=by
 obtain⟨W,hW,hbW,hzW,hcW⟩:=bF w (.cells #[.string ⟨#[]⟩,.slice none 0 0,.int .i64 0] 31)
 have HSC:=hid (BN s W (hL.on hbW) hs)
 have HB:=hid hbW
 have HCW:=hid hcW
 have HT:=hid hT
 have hsr:=xg (s:=s)
 have hA:uj s=if (dM s).2.1=0∧(dM s).1.length=1 then Gi (bY ((dM s).1.headD (gZ 0))) s else (vB,4):=rfl
 obtain⟨M,hM⟩:∃M,uj s=M:=⟨_,rfl⟩
 rw[hM] at hA ⊢
 generalize dM s=X at HSC hA hsr
 obtain⟨l,ec,ep⟩:=X
 dsimp only at HSC hA hsr
 clear hM hT hL hbW hcW
 by_cases hok:ec=0∧l.length=1
 ·rw[if_pos hok] at hA
  obtain⟨rfl,hl1⟩:=hok
  obtain⟨x,rfl⟩:∃x,l=[x]:=by
   match l,hl1 with
   | [x],_=>exact⟨x,rfl⟩
  dsimp only[List.headD_cons] at hA
  have hRx:yc x:=vX (bC (hsr rfl).1 x (by simp))
  have HMK:=hid (fun V (hV:mh V) cs (hc:jK (fun _=>True) V x cs)=>qK (fun _=>True) x cs V hV hRx hc)
  have hsh:=uR (s:=x)
  generalize bY x=N at HMK hA hsh
  obtain⟨t,em⟩:=N
  dsimp only at HMK hA hsh
  clear hsr hl1 hRx
  go_enter Tryz.func15,Tryz.ntmps15
  go_wp2_with fail
  try rw[hW]
  refine HSC.out.mono ?_
  rintro e w1 ⟨aa,nn,cc,rfl,hsl,hb1⟩
  obtain⟨b,off,c,cs,hv,hst,hcl⟩:=JJ hsl
  simp only[Value.slice.injEq] at hv
  obtain⟨rfl,rfl,rfl⟩:=hv
  have hs1:=hb1.size
  obtain⟨U,hU,hbU,hzU,hcU⟩:=bF w1 (.cells #[.int .i64 0,.int .i64 ep] 69)
  have hB1:=HB.out.trans (hb1.mono HB.out.size)
  have hBU:=hB1.trans (hbU.mono hB1.size)
  have HM1:=hid (HMK.out U (HT.out.on hBU) cs (hst.on hbU))
  have kU:=dW hcU
  have hZU:=(hbU.block w.heap.size (by omega)).trans ((hb1.block w.heap.size hzW).trans HCW.out)
  obtain⟨a1,a2,a3,a4,a5,a6,a7,a8,n1,n2,n3,n4,n5,n6,n7,n8,c1,c2,c3,c4,c5,c6,c7,c8,rfl,_⟩:=hst
  have hq:=hcl U hbU
  have q0:=hq 0 _ rfl
  have q1:=hq 1 _ rfl
  have q2:=hq 2 _ rfl
  have q3:=hq 3 _ rfl
  have q4:=hq 4 _ rfl
  have q5:=hq 5 _ rfl
  have q6:=hq 6 _ rfl
  have q7:=hq 7 _ rfl
  have q8:=hq 8 _ rfl
  have q9:=hq 9 _ rfl
  have q10:=hq 10 _ rfl
  have q11:=hq 11 _ rfl
  have q12:=hq 12 _ rfl
  have q13:=hq 13 _ rfl
  rw[Nat.add_zero] at q0
  have HBU:=hid hBU
  have HZU:=hid hZU
  clear hq hcl hsl hb1 hbU hcU hB1 hBU hZU HSC HMK hW
  go_wp2_with fail
  try rw[hU]
  refine HM1.out.mono ?_
  rintro e w2 ⟨ds,rfl,hds,hb2⟩
  have hs2:=hb2.size
  have hdo:=hds
  obtain⟨a9,n9,c9,rfl,hown⟩:=hds
  obtain⟨V,hV,hbV,hzV,hcV⟩:=bF w2 (.cells #[.string (ah t.nm),.slice a9 n9 c9,.int .i64 t.pr] 31)
  have hB2:=HBU.out.trans (hb2.mono HBU.out.size)
  have hBV:=hB2.trans (hbV.mono hB2.size)
  have hZV:=(hbV.block w.heap.size (by omega)).trans ((hb2.block w.heap.size (by omega)).trans HZU.out)
  have kV:=aS hcV
  have kz:=aS hZV
  have HS0:=hid (aL kz.1)
  have HS1:=hid (aL kz.2.1)
  have HS2:=hid (aL kz.2.2.1)
  have HBV:=hid hBV
  have HZV:=hid hZV
  have HDO:=hid (hdo.on hbV)
  have HCV:=hid hcV
  clear q0 q1 q2 q3 q4 q5 q6 q7 q8 q9 q10 q11 q12 q13 hU hb2 hB2 hbV hBV hZV hcV hown hdo HM1 kU
  by_cases hem:em=0
  ·subst hem
   rw[CY] at hA
   have HSR:=hid (uE (fun _=>True) t _ V (HT.out.on HBV.out) (hsh rfl).rg ((HDO.out.e).to (R:=fun _=>False) (T:=fun _=>True) (aj.aC (Below.refl _ _)) (fun b _ _=>⟨id,trivial⟩)))
   generalize nD t=Y at HSR hA
   obtain⟨y1,y2⟩:=Y
   dsimp only at HSR hA
   clear HS0 HS1 HS2 kz
   go_wp2_with fail
   try rw[hV]
   refine HSR.out.mono ?_
   rintro e w3 ⟨rfl,hb3⟩
   have hs3:=hb3.size
   have hZ3:=(hb3.block w.heap.size (by omega)).trans HZV.out
   have k3:=aS hZ3
   have kV3:=aS ((hb3.block w2.heap.size (by omega)).trans HCV.out)
   have HB3:=hid (HBV.out.trans (hb3.mono HBV.out.size))
   have HD3:=hid (HDO.out.on hb3)
   have HS0:=hid (aL k3.1)
   have HS1:=hid (aL k3.2.1)
   have HS2:=hid (aL k3.2.2.1)
   by_cases hy:y1=s
   ·rw[if_pos hy] at hA
    subst hA
    subst hy
    clear hb3 HSR hZ3 HS0 HS1 HS2 hV
    go_wp2
    have hB:Below w.heap.size w (((w3.setCell ⟨w.heap.size,0,none⟩ (.string (ah t.nm))).setCell ⟨w.heap.size,1,none⟩ (.slice a9 n9 c9)).setCell ⟨w.heap.size,2,none⟩ (.int .i64 t.pr)):=((HB3.out.setCell (Nat.le_refl _) _).setCell (Nat.le_refl _) _).setCell (Nat.le_refl _) _
    have hSp:aj (fun k=>k=w.heap.size) w3 (((w3.setCell ⟨w.heap.size,0,none⟩ (.string (ah t.nm))).setCell ⟨w.heap.size,1,none⟩ (.slice a9 n9 c9)).setCell ⟨w.heap.size,2,none⟩ (.int .i64 t.pr)):=(((aj.refl (fun k=>k=w.heap.size) w3).own _ _).own _ _).own _ _
    refine bodyPost_ret (v:=.tuple #[.agg #[.string (ah t.nm),.slice a9 n9 c9,.int .i64 t.pr],.int .i64 0]) (by simp[results,Tryz.results15,go_sem,k3]) rfl ⟨_,rfl,?_,hB⟩
    obtain⟨x1,x2,x3,hx1,hx2⟩:=HD3.out
    refine ⟨x1,x2,x3,hx1,kE (hSp.row hx2 (fun g hg=>?_)) (fun g hg=>?_)⟩
    ·have:=(hx2.lt g hg).1
     omega
    ·have:=(hx2.lt g hg).1
     have:=HBU.out.size
     omega
   ·have hy':((ah y1).toList==(ah s).toList)=false:=by rw[dx,dx];simpa using hy
    rw[if_neg hy] at hA
    subst hA
    clear hb3 HSR hZ3 hy hV
    go_wp2
    rw[HS0.out,HS1.out,HS2.out]
    exact bodyPost_ret (v:=.tuple #[.agg #[.string ⟨#[]⟩,.slice none 0 0,.int .i64 0],.int .i64 4]) (by simp[results,Tryz.results15,go_sem,k3]) rfl ⟨_,rfl,jc _ _ HB3.out.size,HB3.out⟩
  ·have hem':(em != 0)=true:=by simpa using hem
   rw[F7 t em hem] at hA
   subst hA
   clear hem
   go_wp2_with fail
   try rw[hV]
   go_wp2
   rw[HS0.out,HS1.out,HS2.out]
   exact bodyPost_ret (v:=.tuple #[.agg #[.string ⟨#[]⟩,.slice none 0 0,.int .i64 0],.int .i64 4]) (by simp[results,Tryz.results15,go_sem,kz]) rfl ⟨_,rfl,jc _ _ HBV.out.size,HBV.out⟩
 ·rw[if_neg hok] at hA
  subst hA
  have hbad:((ec != 0)||((l.length:Int) != 1))=true:=by
   by_cases h1:ec=0
   ·have:l.length≠1:=fun h=>hok ⟨h1,h⟩
    simp[h1];omega
   ·simp[h1]
  clear hok hsr
  go_enter Tryz.func15,Tryz.ntmps15
  go_wp2_with fail
  try rw[hW]
  refine HSC.out.mono ?_
  rintro e w1 ⟨aa,nn,cc,rfl,hsl,hb1⟩
  have hnn:nn=l.length:=by obtain⟨_,_,hf⟩:=hsl.form;simp only[Value.slice.injEq] at hf;exact hf.2.1
  subst hnn
  have hs1:=hb1.size
  obtain⟨U,hU,hbU,hzU,hcU⟩:=bF w1 (.cells #[.int .i64 ec,.int .i64 ep] 69)
  have hB1:=HB.out.trans (hb1.mono HB.out.size)
  have HBU:=hid (hB1.trans (hbU.mono hB1.size))
  have kU:=dW hcU
  have kz:=aS ((hbU.block w.heap.size (by omega)).trans ((hb1.block w.heap.size hzW).trans HCW.out))
  have HS0:=hid (aL kz.1)
  have HS1:=hid (aL kz.2.1)
  have HS2:=hid (aL kz.2.2.1)
  clear hsl hb1 hbU hcU hB1 HSC hW
  generalize l.length=L at *
  by_cases h1:ec=0
  ·subst h1
   have h2:((L:Int) != 1)=true:=by simpa using hbad
   clear hbad
   go_wp2_with fail
   try rw[hU]
   go_wp2
   rw[HS0.out,HS1.out,HS2.out]
   exact bodyPost_ret (v:=.tuple #[.agg #[.string ⟨#[]⟩,.slice none 0 0,.int .i64 0],.int .i64 4]) (by simp[results,Tryz.results15,go_sem,kz]) rfl ⟨_,rfl,jc _ _ HBU.out.size,HBU.out⟩
  ·have h2:(ec != 0)=true:=by simpa using h1
   clear hbad h1
   go_wp2_with fail
   try rw[hU]
   go_wp2
   rw[HS0.out,HS1.out,HS2.out]
   exact bodyPost_ret (v:=.tuple #[.agg #[.string ⟨#[]⟩,.slice none 0 0,.int .i64 0],.int .i64 4]) (by simp[results,Tryz.results15,go_sem,kz]) rfl ⟨_,rfl,jc _ _ HBU.out.size,HBU.out⟩
def Cb (a b:Tb):Bool:=decide (a.nm=b.nm)&&(decide (a.pr=b.pr)&&Lib.allEq qP a.cols b.cols)
theorem qY (a b:Tb):Cb a b=true↔a=b:=by
 obtain⟨a1,a2,a3⟩:=a
 obtain⟨b1,b2,b3⟩:=b
 unfold Cb
 rw[Bool.and_eq_true,Bool.and_eq_true,decide_eq_true_eq,decide_eq_true_eq,jW]
 simp only[Tb.mk.injEq]
 exact⟨fun ⟨h1,h2,h3⟩=>⟨h1,h3,h2⟩,fun ⟨h1,h2,h3⟩=>⟨h1,h3,h2⟩⟩
theorem C8 {xs ys:List Co} {j:Nat} {x y:Co} (hx:xs[j]?=some x) (hy:ys[j]?=some y) (h:qP x y=false):Lib.allEq qP xs ys=false:=by
 cases e:Lib.allEq qP xs ys with
 | false=>rfl
 |
  true =>
  have:=(jW xs ys).1 e
  subst this
  rw[hx] at hy
  injection hy with hy
  rw[(xP x y).2 hy] at h
  cases h
theorem ou (S T:Nat→Prop) (a b:Tb) (cs ds:List Value) (w:World) (ha:Aq S w a cs) (hb:Aq T w b ds) :
  Calls Tryz.prog 12 #[.agg cs.toArray,.agg ds.toArray] w fun e w'=>e = .returned (.bool (Cb a b))∧Below w.heap.size w w':=by
 obtain⟨a1,n1,c1,rfl,hsa⟩:=ha
 obtain⟨a2,n2,c2,rfl,hsb⟩:=hb
 have hn1:n1=a.cols.length:=by obtain⟨_,_,hf⟩:=hsa.form;simp only[Value.slice.injEq] at hf;exact hf.2.1
 have hn2:n2=b.cols.length:=by obtain⟨_,_,hf⟩:=hsb.form;simp only[Value.slice.injEq] at hf;exact hf.2.1
 obtain⟨anm,xs,apr⟩:=a
 obtain⟨bnm,ys,bpr⟩:=b
 dsimp only at hsa hsb hn1 hn2 ⊢
 subst hn1 hn2
 obtain⟨W,hW,hbW,hzW,hcA,hcB⟩:=two w (.cells #[.string (ah anm),.slice a1 xs.length c1,.int .i64 apr] 31) (.cells #[.string (ah bnm),.slice a2 ys.length c2,.int .i64 bpr] 31)
 have kA:=aS hcA
 have kB:=aS hcB
 have HCA:=hid hcA
 have HCB:=hid hcB
 have HB:=hid hbW
 have hgd:=Tryz.tY
 have hsame:Cb ⟨anm,xs,apr⟩ ⟨bnm,ys,bpr⟩=(decide (anm=bnm)&&(decide (apr=bpr)&&Lib.allEq qP xs ys)):=rfl
 rw[hsame]
 have hnm:((ah anm).toList==(ah bnm).toList)=decide (anm=bnm):=by
  rw[dx,dx]
  by_cases h:anm=bnm<;>simp[h]
 by_cases h1:anm=bnm
 ·rw[decide_eq_true h1,Bool.true_and]
  rw[decide_eq_true h1] at hnm
  by_cases h2:apr=bpr
  ·have h2':(apr != bpr)=false:=by simp[h2]
   rw[decide_eq_true h2,Bool.true_and]
   by_cases h3:xs.length=ys.length
   ·have h3':((xs.length:Int) != (ys.length:Int))=false:=by simp[h3]
    by_cases hne:xs=[]
    ·subst hne
     have hy0:ys=[]:=List.eq_nil_of_length_eq_zero (by rw[← h3];rfl)
     subst hy0
     simp only[List.length_nil] at hW kA kB
     clear h1 h2 h3 h3' hsame hbW hcA hcB hsa hsb HCA HCB
     go_enter Tryz.func12,Tryz.ntmps12
     go_wp2_with fail
     go_rounds 1
     go_ret
     try rw[hW]
     exact⟨rfl,HB.out⟩
    ·have hney:ys≠[]:=fun e=>hne (List.eq_nil_of_length_eq_zero (by rw[h3,e];rfl))
     obtain⟨b1,o1,d1,e1,hlc1,hcm1,_,hlt1,hel1⟩:=jH hsa hne
     obtain⟨b2,o2,d2,e2,hlc2,hcm2,_,hlt2,hel2⟩:=jH hsb hney
     simp only[Value.slice.injEq] at e1 e2
     obtain⟨rfl,_,rfl⟩:=e1
     obtain⟨rfl,_,rfl⟩:=e2
     unfold maxLen at hcm1 hcm2
     have H1:=hid hel1
     have H2:=hid hel2
     have hyx:(ys.length:Int)=(xs.length:Int):=by omega
     have HNOT:Hid (∀(j:Nat) (x y:Co),xs[j]?=some x→ys[j]?=some y→qP x y=false→Lib.allEq qP xs ys=false):=hid (fun j x y hx hy h=>C8 hx hy h)
     have HALL:Hid ((∀(j:Nat) (x y:Co),xs[j]?=some x→ys[j]?=some y→qP x y=true)→Lib.allEq qP xs ys=true):=hid (fun h=>(jW xs ys).2 (List.ext_getElem? (fun j=>by
      rcases Nat.lt_or_ge j xs.length with hj | hj
      ·rw[List.getElem?_eq_getElem hj,List.getElem?_eq_getElem (by omega)]
       rw[(xP _ _).1 (h j _ _ (List.getElem?_eq_getElem hj) (List.getElem?_eq_getElem (by omega)))]
      ·rw[List.getElem?_eq_none hj,List.getElem?_eq_none (by omega)])))
     generalize Lib.allEq qP xs ys=R at HNOT HALL ⊢
     have H3:=hid h3
     clear h1 h2 hsame hbW hcA hcB hsa hsb hel1 hel2 hne hney h3
     go_enter Tryz.func12,Tryz.ntmps12
     go_wp2_with fail
     try rw[hW]
     clear hW kA kB
     go_loopw [5] (fun i wr=>∃k:Nat,k≤xs.length∧i = .int .i64 k∧Below W.heap.size W wr∧Hid (∀(j:Nat) (x y:Co),j<k→xs[j]?=some x→ys[j]?=some y→qP x y=true)) (fun i _=>xs.length-(intOf i).toNat)
     case atStart=>exact⟨0,Nat.zero_le _,rfl,Below.refl _ _,hid (fun j x y h=>absurd h (Nat.not_lt_zero _))⟩
     case round =>
      obtain⟨j,hj,rfl,hbr,HEQ⟩:=hrel
      have hsr:=hbr.size
      have kA:=aS ((hbr.block w.heap.size (by omega)).trans HCA.out)
      have kB:=aS ((hbr.block (w.heap.size+1) (by omega)).trans HCB.out)
      have hBR:=HB.out.trans (hbr.mono HB.out.size)
      have HBR:=hid hbr
      have HBRW:=hid hBR
      by_cases hlt:j<xs.length
      ·obtain⟨x,hx⟩:∃x,xs[j]?=some x:=⟨_,List.getElem?_eq_getElem hlt⟩
       obtain⟨y,hy⟩:∃y,ys[j]?=some y:=⟨_,List.getElem?_eq_getElem (by have:=H3.out;omega)⟩
       have hlt':(j:Int)<(xs.length:Int):=by omega
       have hlty:(j:Int)<(ys.length:Int):=by omega
       have p0:=H1.out wr hBR j x hx 0 _ rfl
       have p1:=H1.out wr hBR j x hx 1 _ rfl
       have p2:=H1.out wr hBR j x hx 2 _ rfl
       have p3:=H1.out wr hBR j x hx 3 _ rfl
       rw[Nat.add_zero] at p0
       have q0:=H2.out wr hBR j y hy 0 _ rfl
       have q1:=H2.out wr hBR j y hy 1 _ rfl
       have q2:=H2.out wr hBR j y hy 2 _ rfl
       have q3:=H2.out wr hBR j y hy 3 _ rfl
       rw[Nat.add_zero] at q0
       have hrun:=Cn x y
       have HN:=hid (HNOT.out j x y hx hy)
       have HE2:Hid (qP x y=true→∀(m:Nat) (x y:Co),m<j+1→xs[m]?=some x→ys[m]?=some y→qP x y=true):=hid (fun h m u v hm hu hv=>by
        rcases Nat.lt_or_ge m j with h1 | h1
        ·exact HEQ.out m u v h1 hu hv
        ·obtain rfl:m=j:=by omega
         rw[hx] at hu
         rw[hy] at hv
         injection hu with hu
         injection hv with hv
         subst hu hv
         exact h)
       clear hbr hBR hx hy HEQ hyx
       cases he:qP x y with
       |
        true =>
        rw[he] at hrun
        have HE3:=hid (HE2.out he)
        clear he HE2 HN
        go_wp2_with fail
        go_quiet (fail)
        go_wp2
        go_roundw
        case rel=>exact⟨j+1,by omega,by go_num,by first | exact below_drewN HBR.out nq | exact HBR.out,HE3⟩
        case measure=>simp[intOf];omega
       |
        false =>
        rw[he] at hrun
        obtain rfl:=HN.out he
        clear he HE2 HN
        go_wp2_with fail
        go_quiet (fail)
        go_wp2
        go_ret
        exact⟨rfl,by first | exact below_drewN HBRW.out nq | exact HBRW.out⟩
      ·have hlt' : ¬(j:Int)<(xs.length:Int):=by omega
       obtain rfl:=HALL.out (fun m x y hx hy=>HEQ.out m x y (by have:=(List.getElem?_eq_some_iff.1 hx).1;omega) hx hy)
       clear hbr hBR HEQ
       go_wp2
       go_ret
       exact⟨rfl,HBRW.out⟩
   ·have h3':((xs.length:Int) != (ys.length:Int))=true:=by simp;omega
    have hR:Lib.allEq qP xs ys=false:=Lib.allEq_len qP xs ys h3
    rw[hR]
    generalize xs.length=n1 at *
    generalize ys.length=n2 at *
    clear h1 h2 h3 hsame hbW hcA hcB hsa hsb hR HCA HCB
    go_enter Tryz.func12,Tryz.ntmps12
    go_wp2
    go_ret
    exact⟨rfl,HB.out⟩
  ·have h2':(apr != bpr)=true:=by simpa using h2
   rw[decide_eq_false h2,Bool.false_and]
   clear h1 h2 hsame hbW hcA hcB hsa hsb HCA HCB
   go_enter Tryz.func12,Tryz.ntmps12
   go_wp2
   go_ret
   exact⟨rfl,HB.out⟩
 ·rw[decide_eq_false h1,Bool.false_and]
  rw[decide_eq_false h1] at hnm
  clear h1 hsame hbW hcA hcB hsa hsb HCA HCB
  go_enter Tryz.func12,Tryz.ntmps12
  go_wp2
  go_ret
  exact⟨rfl,HB.out⟩
def He:St:={ gZ 1 with tb:=[116],cols:=[⟨[97],1,false,false⟩,⟨[98],2,false,true⟩],prim:=[97] }
def EB:Tb:=⟨[116],[⟨[97],1,true,true⟩,⟨[98],2,false,true⟩],0⟩
def K9:List UInt8:=[67,82,69,65,84,69,32,84,65,66,76,69,32,116,32,40,32,97,32,73,78,84,32,78,79,84,32,78,85,76,76,32,85,78,73,81,85,69,32,44,32,98,32,84,69,88,84,32,85,78,73,81,85,69,32,44,32,80,82,73,77,65,82,89,32,75,69,89,32,40,32,97,32,41,32,41]
theorem xH:bY He=(EB,0):=by
 unfold bY
 rw[if_pos (show He.k=1∧aM He=true from ⟨rfl,by decide⟩),if_pos (by decide)]
 rfl
theorem Gz:pX EB=true:=by
 have:=Gp (s:=He) (by rw[xH])
 rw[xH] at this
 exact this
theorem EU:nD EB=(K9,0):=by
 unfold nD
 rw[if_pos Gz]
 kernel_rfl
theorem Fz:ah K9=⟨#[67,82,69,65,84,69,32,84,65,66,76,69,32,116,32,40,32,97,32,73,78,84,32,78,79,84,32,78,85,76,76,32,85,78,73,81,85,69,32,44,32,98,32,84,69,88,84,32,85,78,73,81,85,69,32,44,32,80,82,73,77,65,82,89,32,75,69,89,32,40,32,97,32,41,32,41]⟩:=rfl
theorem Jj:uj K9=(EB,0):=by
 have:=(Jc Gz).2.1
 rw[EU] at this
 exact this
theorem yS (w:World) (hT:mh w) (hL:kN w):Calls Tryz.prog 9 #[] w fun e w'=>e = .returned (.bool true)∧Below w.heap.size w w':=by
 obtain⟨W,hW,hbW,hzW,hcA,hcB⟩:=two w (.cells #[.string ⟨#[97]⟩,.int .i64 1,.bool false,.bool false,.string ⟨#[98]⟩,.int .i64 2,.bool false,.bool true] 37) (.cells #[.int .i64 1,.string ⟨#[116]⟩,.slice (some ⟨w.heap.size,0,none⟩) 2 2,.string ⟨#[97]⟩,.slice none 0 0,.slice none 0 0,.slice none 0 0,.string ⟨#[]⟩,.slice none 0 0,.slice none 0 0,.slice none 0 0,.slice none 0 0,.bool false,.int .i64 (-1)] 28)
 have hst:jK (fun _=>True) W He [.int .i64 1,.string ⟨#[116]⟩,.slice (some ⟨w.heap.size,0,none⟩) 2 2,.string ⟨#[97]⟩,.slice none 0 0,.slice none 0 0,.slice none 0 0,.string ⟨#[]⟩,.slice none 0 0,.slice none 0 0,.slice none 0 0,.slice none 0 0,.bool false,.int .i64 (-1)]:=by
  have n:bg (fun _=>True) W [] (.slice none 0 0):=.nil none 0 (by unfold maxLen;omega)
  refine ⟨some ⟨w.heap.size,0,none⟩,none,none,none,none,none,none,none,2,0,0,0,0,0,0,0,2,0,0,0,0,0,0,0,rfl,?_,bP.nil,bP.nil,bP.nil,n,n,n,n⟩
  refine ⟨_,2,He.cols.map lH,rfl,by decide,by unfold maxLen;omega,CK _ _ _,fun _=>⟨w.heap.size,0,rfl,trivial,fun j cs hj i u hu=>?_⟩⟩
  rw[aN _ _ _ _ _ _ hcA]
  match j,hj with
  |
   0,hj =>
   simp only[He,List.map_cons,List.getElem?_cons_zero,Option.some.injEq] at hj
   subst hj
   match i,hu with
   | 0,hu | 1,hu | 2,hu | 3,hu=>exact hu
  |
   1,hj =>
   simp only[He,List.map_cons,List.getElem?_cons_succ,List.getElem?_cons_zero,Option.some.injEq] at hj
   subst hj
   match i,hu with
   | 0,hu | 1,hu | 2,hu | 3,hu=>exact hu
 have HMK:=hid (qK (fun _=>True) He _ W (hT.on hbW) (vX (by decide)) hst)
 rw[xH] at HMK
 have k0:=aG hcB
 have HB:=hid hbW
 have HT:=hid hT
 have HL:=hid hL
 clear hT hL hbW hcA hcB hst
 go_enter Tryz.func9,Tryz.ntmps9
 go_wp2_with fail
 try rw[hW]
 refine HMK.out.mono ?_
 rintro e w1 ⟨ds,rfl,⟨a1,n1,c1,hds,hown⟩,hb1⟩
 obtain rfl:ds=[.string ⟨#[116]⟩,.slice a1 n1 c1,.int .i64 0]:=hds
 have hown':w1.ownsRow W.heap.size 37 4 (.slice a1 n1 c1) EB.cols.length (fG EB.cols):=hown
 obtain⟨g,cg,hvg,hg1,hg2,hlcg,hgc⟩:=jv hown' (by decide)
 simp only[Value.slice.injEq] at hvg
 obtain⟨rfl,hn1,rfl⟩:=hvg
 obtain rfl:n1=2:=hn1
 have hs1:=hb1.size
 obtain⟨V,hV,hbV,hzV,hcV⟩:=bF w1 (.cells #[.string ⟨#[116]⟩,.slice (some ⟨g,0,none⟩) 2 c1,.int .i64 0] 31)
 have hB1:=HB.out.trans (hb1.mono HB.out.size)
 have hBV:=hB1.trans (hbV.mono hB1.size)
 have htE:Aq (fun _=>True) V EB [.string ⟨#[116]⟩,.slice (some ⟨g,0,none⟩) 2 c1,.int .i64 0]:=⟨_,_,_,rfl,(mq hown').to (T:=fun _=>True) (by decide) (R:=fun _=>False) (aj.aC hbV) (fun b _ _=>⟨id,trivial⟩) (fun _ _ e=>e)⟩
 have HSR:=hid (uE (fun _=>True) EB _ V (HT.out.on hBV) ⟨by decide,by decide⟩ htE)
 rw[EU] at HSR
 dsimp only at HSR
 rw[Fz] at HSR
 have kV:=aS hcV
 have HSV:=hid (aL kV.2.2.1)
 have HCV:=hid hcV
 have HBV:=hid hBV
 have HTE:=hid htE
 have HQ:Hid (∀Z,Below V.heap.size V Z→Z.cell? ⟨g,2,none⟩=some (.bool true)):=hid (fun Z hZ=>(hgc Z (hbV.trans (hZ.mono hbV.size))).1 0 ⟨[97],1,true,true⟩ rfl 2 _ rfl)
 clear hb1 hB1 hbV hBV hcV hown hown' htE hgc HMK hW k0
 go_wp2_with fail
 try rw[hV]
 try rw[HSV.out]
 refine HSR.out.mono ?_
 rintro e w2 ⟨rfl,hb2⟩
 have hB2:=HBV.out.trans (hb2.mono HBV.out.size)
 have HRD:=hid (GY K9 w2 (HT.out.on hB2) (HL.out.on hB2) (by decide))
 rw[Jj,Fz] at HRD
 have HB2:=hid hB2
 have hs2:=hb2.size
 have HBV2:=hid hb2
 clear hb2 hB2 HSR hV
 go_wp2_with fail
 refine HRD.out.mono ?_
 rintro e w3 ⟨ds,rfl,hds,hb3⟩
 have hs3:=hb3.size
 have hdE:=hds.e
 obtain⟨a3,n3,c3,hds,_⟩:=hds
 obtain rfl:ds=[.string ⟨#[116]⟩,.slice a3 n3 c3,.int .i64 0]:=hds
 obtain⟨U,hU,hbU,hzU,hcU⟩:=bF w3 (.cells #[.string ⟨#[116]⟩,.slice a3 n3 c3,.int .i64 0] 31)
 have hB3:=HB2.out.trans (hb3.mono HB2.out.size)
 have hBU:=hB3.trans (hbU.mono hB3.size)
 have hVU:=(HBV2.out.trans (hb3.mono HBV2.out.size)).trans (hbU.mono (HBV2.out.trans (hb3.mono HBV2.out.size)).size)
 have kU:=aS hcU
 have HSU:=hid (aL kU.2.2.1)
 have kV2:=aS ((hVU.block w1.heap.size (by omega)).trans HCV.out)
 have q2:=HQ.out U hVU
 have HSM:=hid (ou (fun _=>True) (fun b=>w2.heap.size≤b) EB EB _ _ U (HTE.out.on hVU) (hdE.on hbU))
 rw[(qY EB EB).2 rfl] at HSM
 have HBU:=hid hBU
 clear hb3 hbU hcU hB3 hBU hVU hdE HRD kV
 go_wp2_with fail
 try rw[hU]
 try rw[HSU.out]
 refine HSM.out.mono ?_
 rintro e w4 ⟨rfl,hb4⟩
 have HB4:=hid (HBU.out.trans (hb4.mono HBU.out.size))
 clear hb4 HSM
 go_wp2
 go_ret
 exact⟨rfl,HB4.out⟩
theorem EI {s:St} (h:(bY s).2≠0):(bY s).1=vB:=by
 unfold bY at h ⊢
 by_cases h1:s.k=1∧aM s=true
 ·rw[if_pos h1] at h ⊢
  by_cases h2:(s.cols.map Co.nm).Nodup
  ·rw[if_pos h2] at h ⊢
   by_cases h3:dQ s.cols s.prim<s.cols.length
   ·rw[if_pos h3] at h;exact absurd rfl h
   ·rw[if_neg h3]
  ·rw[if_neg h2]
 ·rw[if_neg h1]
theorem sP {w:World} {S:Nat→Prop} {l:List Co} {aa:Option Addr} {nn cc:Nat} (h:bP 4 iE S w l (.slice aa nn cc)) (hl:l.length*32≤140737488355328) {g:Nat} (hg:w.heap[g]?=some (.cells #[] 37)) (base:Nat) (hb:base≤g) (ty:TypeId) :
  ∃a2 n2 c2 w',(Builtin.append_ #[22,22] ty #[.slice (some ⟨g,0,none⟩) 0 0,.slice aa nn cc]).run Tryz.prog w = .ok (.slice a2 n2 c2) w'∧w'.ownsRow base 37 4 (.slice a2 n2 c2) l.length (fG l)∧aj (fun k=>k=g) w w':=by
 obtain⟨i0,hi,hy0,hy1,hy2⟩:=info_parts Tryz.BU
 have hgl:g<w.heap.size:=World.lt_of_block hg
 have hown:w.ownsRow base 37 4 (.slice (some ⟨g,0,none⟩) 0 0) 0 []:=⟨by simp,.inr ⟨g,0,#[],rfl,hb,hg,Nat.le_refl _,by unfold maxLen;omega,rfl,by simp⟩⟩
 have hform : ∀(v:Value) (W:World) (n:Nat) (xs:List Value),W.ownsRow base 37 4 v n xs→∃a2 n2 c2,v = .slice a2 n2 c2:=fun v W n xs h=>by
  rcases h.2 with⟨rfl,_⟩ | ⟨_,_,_,rfl,_⟩<;>exact⟨_,_,_,rfl⟩
 have hbel : ∀W:World,w.grownBy W (some g)→aj (fun k=>k=g) w W:=fun W hW=>aj.fO (S:=fun k=>k=g) hW (fun k e=>by injection e with e;exact e.symm)
 obtain⟨a,c,css,hv,h1,h2,h4,h5⟩:=id h
 simp only[Value.slice.injEq] at hv
 obtain⟨rfl,rfl,rfl⟩:=hv
 cases aa with
 |
  none =>
  have hn:l=[]:=by
   by_cases e:l=[]
   ·exact e
   ·obtain⟨b,off,e2,_⟩:=h5 e
    cases e2
  subst hn
  have hr:(Builtin.append_ #[22,22] ty #[.slice (some ⟨g,0,none⟩) 0 0,.slice none 0 cc]).run Tryz.prog w = .ok (.slice (some ⟨g,0,none⟩) 0 0) w:=by
   simp[Builtin.append_,run_underlying Tryz.underlying22,sizeOf,typeInfo,hi,Builtin.lenOf,Builtin.firstCells,storeCells]
  exact⟨_,_,_,w,hr,hown,aj.refl _ _⟩
 |
  some p =>
  have hcells : ∀j u,(fG l)[j]?=some u→w.cell? (p.add j)=some u:=fun j u hu=>by
   have hne:l≠[]:=fun e=>by subst e;simp[fG] at hu
   obtain⟨b,off,c,hv,_,_,_,_,hel⟩:=jH h hne
   simp only[Value.slice.injEq,Option.some.injEq] at hv
   obtain⟨rfl,_,_⟩:=hv
   obtain⟨x,e1,e2⟩:=rV l j u hu
   have:=hel w (Below.refl _ _) (j / 4) x e1 (j % 4) u e2
   have e:off+j / 4*4+j % 4=off+j:=by omega
   rw[e] at this
   rw[Addr.add_lit]
   exact this
  obtain⟨v',w',hr,ho,hg2,_⟩:=run_append_own (P:=Tryz.prog) w base 22 ty 37 i0 _ 4 32 Tryz.underlying22 hi hy0 hy1 hy2 rfl (by decide) (.slice (some ⟨g,0,none⟩) 0 0) 0 [] hown p l.length cc (fG l) (jw l) hcells (wH l) (by unfold maxLen;omega) (by rw[Nat.zero_add];exact hl) (by omega)
  rw[Nat.zero_add,List.nil_append] at ho
  obtain⟨a2,n2,c2,rfl⟩:=hform v' w' _ _ ho
  exact⟨a2,n2,c2,w',hr,ho,hbel w' hg2⟩
theorem wpList_append_run {P:Program} {ops:Array Oper} {rest:List Oper} {o:Oper} {a:Act} {Q:Exit→Act→World→Prop} (w:World) (hgd:o.guard=none) (s x:Operand) (t:TypeId)
  (ho:o.op = .call { callee:=.builtin .append,args:=#[s,x],argTypes:=#[t,t] }) (v u v':Value) (w':World) (hs:a.eval s=v) (hx:a.eval x=u) (hr:(Builtin.append_ #[t,t] o.type #[v,u]).run P w = .ok v' w')
  (h:wpList P ops Q rest (a.put o.dst v') w'):wpList P ops Q (o::rest) a w:=by
 refine wpList_plain hgd fun _ hK=>?_
 unfold Oper.wp execOp
 simp only[ho,resolve,invoke,builtin,Sem.run_bind,Sem.run_pure,Result.andThen_ok,List.map_toArray,List.map_cons,List.map_nil,hs,hx,hr]
 exact hK _ _ h
end Go.Proofs.YtaaggohjmhifbaaGreatDoor
