/- Packed for the hand-in: CSame CSmall CBackL OpenT -/
import Derived.Test.YtaaggohjmhifbaaGreatDoorZ46
import Derived.Test.YtaaggohjmhifbaaGreatDoorZ48
import Derived.Test.YtaaggohjmhifbaaGreatDoorRows
import Derived.Test.YtaaggohjmhifbaaGreatDoorZ17
import Derived.Handed
import Derived.LaidLaws
import Derived.Lay
import Derived.Lib.LaidTab
import Derived.Shelf.Vars
import Derived.SizedLaws
import Derived.MakeChecks
import Derived.Stop.LaidErr
import Derived.OpenShut
import Derived.ChangeArms
namespace Go.Proofs.YtaaggohjmhifbaaGreatDoor
open Go.RowKit Go.Shelf Go.Lib
set_option linter.unusedSimpArgs false
set_option linter.unusedVariables false
set_option maxRecDepth 20000
set_option maxHeartbeats 8000000
def Dk (a b:Tb):Bool:=decide (a.nm=b.nm)&&(decide (a.pr=b.pr)&&Lib.allEq rP a.cols b.cols)
theorem xP (a b:Tb):Dk a b=true↔a=b:=by
 obtain⟨a1,a2,a3⟩:=a
 obtain⟨b1,b2,b3⟩:=b
 unfold Dk
 rw[Bool.and_eq_true,Bool.and_eq_true,decide_eq_true_eq,decide_eq_true_eq,lg]
 simp only[Tb.mk.injEq]
 exact⟨fun ⟨h1,h2,h3⟩=>⟨h1,h3,h2⟩,fun ⟨h1,h2,h3⟩=>⟨h1,h3,h2⟩⟩
theorem E5 {xs ys:List Co} {j:Nat} {x y:Co} (hx:xs[j]?=some x) (hy:ys[j]?=some y) (h:rP x y=false):Lib.allEq rP xs ys=false:=by
 cases e:Lib.allEq rP xs ys with
 | false=>rfl
 |
  true =>
  have:=(lg xs ys).1 e
  subst this
  rw[hx] at hy
  injection hy with hy
  rw[(yu x y).2 hy] at h
  cases h
theorem tN (S T:Nat→Prop) (a b:Tb) (cs ds:List Value) (w:World) (ha:Es S w a cs) (hb:Es T w b ds) :
  Calls Tryz.prog 12 #[.agg cs.toArray,.agg ds.toArray] w fun e w'=>e = .returned (.bool (Dk a b))∧Below w.heap.size w w':=by
 obtain⟨a1,n1,c1,rfl,hsa⟩:=ha
 obtain⟨a2,n2,c2,rfl,hsb⟩:=hb
 have hn1:n1=a.cols.length:=by obtain⟨_,_,hf⟩:=hsa.form;simp only[Value.slice.injEq] at hf;exact hf.2.1
 have hn2:n2=b.cols.length:=by obtain⟨_,_,hf⟩:=hsb.form;simp only[Value.slice.injEq] at hf;exact hf.2.1
 obtain⟨anm,xs,apr⟩:=a
 obtain⟨bnm,ys,bpr⟩:=b
 dsimp only at hsa hsb hn1 hn2 ⊢
 subst hn1 hn2
 obtain⟨W,hW,hbW,hzW,hcA,hcB⟩:=two w (.cells #[.string (aj anm),.slice a1 xs.length c1,.int .i64 apr] 31) (.cells #[.string (aj bnm),.slice a2 ys.length c2,.int .i64 bpr] 31)
 have kA:=bI hcA
 have kB:=bI hcB
 have HCA:=hid hcA
 have HCB:=hid hcB
 have HB:=hid hbW
 have hgd:=Tryz.qh
 have hsame:Dk ⟨anm,xs,apr⟩ ⟨bnm,ys,bpr⟩=(decide (anm=bnm)&&(decide (apr=bpr)&&Lib.allEq rP xs ys)):=rfl
 rw[hsame]
 have hnm:((aj anm).toList==(aj bnm).toList)=decide (anm=bnm):=by
  rw[dO,dO]
  by_cases h:anm=bnm<;>simp[h]
 by_cases h1:anm=bnm
 ·rw[decide_eq_true h1,Bool.true_and]
  rw[decide_eq_true h1] at hnm
  by_cases h2:apr=bpr
  ·have h2':(apr != bpr)=false:=by simp[h2]
   rw[decide_eq_true h2,Bool.true_and]
   by_cases h3:xs.length=ys.length
   ·have h3':((xs.length:Int) != (ys.length:Int))=false:=by simp[h3]
    by_cases hne:xs=[]
    ·subst hne
     have hy0:ys=[]:=List.eq_nil_of_length_eq_zero (by rw[← h3];rfl)
     subst hy0
     simp only[List.length_nil] at hW kA kB
     clear h1 h2 h3 h3' hsame hbW hcA hcB hsa hsb HCA HCB
     go_enter Tryz.func12,Tryz.ntmps12
     go_wp2_with fail
     go_rounds 1
     go_ret
     try rw[hW]
     exact⟨rfl,HB.out⟩
    ·have hney:ys≠[]:=fun e=>hne (List.eq_nil_of_length_eq_zero (by rw[h3,e];rfl))
     obtain⟨b1,o1,d1,e1,hlc1,hcm1,_,hlt1,hel1⟩:=kI hsa hne
     obtain⟨b2,o2,d2,e2,hlc2,hcm2,_,hlt2,hel2⟩:=kI hsb hney
     simp only[Value.slice.injEq] at e1 e2
     obtain⟨rfl,_,rfl⟩:=e1
     obtain⟨rfl,_,rfl⟩:=e2
     unfold maxLen at hcm1 hcm2
     have H1:=hid hel1
     have H2:=hid hel2
     have hyx:(ys.length:Int)=(xs.length:Int):=by omega
     have HNOT:Hid (∀(j:Nat) (x y:Co),xs[j]?=some x→ys[j]?=some y→rP x y=false→Lib.allEq rP xs ys=false):=hid (fun j x y hx hy h=>E5 hx hy h)
     have HALL:Hid ((∀(j:Nat) (x y:Co),xs[j]?=some x→ys[j]?=some y→rP x y=true)→Lib.allEq rP xs ys=true):=hid (fun h=>(lg xs ys).2 (List.ext_getElem? (fun j=>by
      rcases Nat.lt_or_ge j xs.length with hj | hj
      ·rw[List.getElem?_eq_getElem hj,List.getElem?_eq_getElem (by omega)]
       rw[(yu _ _).1 (h j _ _ (List.getElem?_eq_getElem hj) (List.getElem?_eq_getElem (by omega)))]
      ·rw[List.getElem?_eq_none hj,List.getElem?_eq_none (by omega)])))
     generalize Lib.allEq rP xs ys=R at HNOT HALL ⊢
     have H3:=hid h3
     clear h1 h2 hsame hbW hcA hcB hsa hsb hel1 hel2 hne hney h3
     go_enter Tryz.func12,Tryz.ntmps12
     go_wp2_with fail
     try rw[hW]
     clear hW kA kB
     go_loopw [5] (fun i wr=>∃k:Nat,k≤xs.length∧i = .int .i64 k∧Below W.heap.size W wr∧Hid (∀(j:Nat) (x y:Co),j<k→xs[j]?=some x→ys[j]?=some y→rP x y=true)) (fun i _=>xs.length-(intOf i).toNat)
     case atStart=>exact⟨0,Nat.zero_le _,rfl,Below.refl _ _,hid (fun j x y h=>absurd h (Nat.not_lt_zero _))⟩
     case round =>
      obtain⟨j,hj,rfl,hbr,HEQ⟩:=hrel
      have hsr:=hbr.size
      have kA:=bI ((hbr.block w.heap.size (by omega)).trans HCA.out)
      have kB:=bI ((hbr.block (w.heap.size+1) (by omega)).trans HCB.out)
      have hBR:=HB.out.trans (hbr.mono HB.out.size)
      have HBR:=hid hbr
      have HBRW:=hid hBR
      by_cases hlt:j<xs.length
      ·obtain⟨x,hx⟩:∃x,xs[j]?=some x:=⟨_,List.getElem?_eq_getElem hlt⟩
       obtain⟨y,hy⟩:∃y,ys[j]?=some y:=⟨_,List.getElem?_eq_getElem (by have:=H3.out;omega)⟩
       have hlt':(j:Int)<(xs.length:Int):=by omega
       have hlty:(j:Int)<(ys.length:Int):=by omega
       have p0:=H1.out wr hBR j x hx 0 _ rfl
       have p1:=H1.out wr hBR j x hx 1 _ rfl
       have p2:=H1.out wr hBR j x hx 2 _ rfl
       have p3:=H1.out wr hBR j x hx 3 _ rfl
       rw[Nat.add_zero] at p0
       have q0:=H2.out wr hBR j y hy 0 _ rfl
       have q1:=H2.out wr hBR j y hy 1 _ rfl
       have q2:=H2.out wr hBR j y hy 2 _ rfl
       have q3:=H2.out wr hBR j y hy 3 _ rfl
       rw[Nat.add_zero] at q0
       have hrun:=Dv x y
       have HN:=hid (HNOT.out j x y hx hy)
       have HE2:Hid (rP x y=true→∀(m:Nat) (x y:Co),m<j+1→xs[m]?=some x→ys[m]?=some y→rP x y=true):=hid (fun h m u v hm hu hv=>by
        rcases Nat.lt_or_ge m j with h1 | h1
        ·exact HEQ.out m u v h1 hu hv
        ·obtain rfl:m=j:=by omega
         rw[hx] at hu
         rw[hy] at hv
         injection hu with hu
         injection hv with hv
         subst hu hv
         exact h)
       clear hbr hBR hx hy HEQ hyx
       cases he:rP x y with
       |
        true =>
        rw[he] at hrun
        have HE3:=hid (HE2.out he)
        clear he HE2 HN
        go_wp2_with fail
        go_quiet (fail)
        go_wp2
        go_roundw
        case rel=>exact⟨j+1,by omega,by go_num,by first | exact below_drewN HBR.out nq | exact HBR.out,HE3⟩
        case measure=>simp[intOf];omega
       |
        false =>
        rw[he] at hrun
        obtain rfl:=HN.out he
        clear he HE2 HN
        go_wp2_with fail
        go_quiet (fail)
        go_wp2
        go_ret
        exact⟨rfl,by first | exact below_drewN HBRW.out nq | exact HBRW.out⟩
      ·have hlt' : ¬(j:Int)<(xs.length:Int):=by omega
       obtain rfl:=HALL.out (fun m x y hx hy=>HEQ.out m x y (by have:=(List.getElem?_eq_some_iff.1 hx).1;omega) hx hy)
       clear hbr hBR HEQ
       go_wp2
       go_ret
       exact⟨rfl,HBRW.out⟩
   ·have h3':((xs.length:Int) != (ys.length:Int))=true:=by simp;omega
    have hR:Lib.allEq rP xs ys=false:=Lib.allEq_len rP xs ys h3
    rw[hR]
    generalize xs.length=n1 at *
    generalize ys.length=n2 at *
    clear h1 h2 h3 hsame hbW hcA hcB hsa hsb hR HCA HCB
    go_enter Tryz.func12,Tryz.ntmps12
    go_wp2
    go_ret
    exact⟨rfl,HB.out⟩
  ·have h2':(apr != bpr)=true:=by simpa using h2
   rw[decide_eq_false h2,Bool.false_and]
   clear h1 h2 hsame hbW hcA hcB hsa hsb HCA HCB
   go_enter Tryz.func12,Tryz.ntmps12
   go_wp2
   go_ret
   exact⟨rfl,HB.out⟩
 ·rw[decide_eq_false h1,Bool.false_and]
  rw[decide_eq_false h1] at hnm
  clear h1 hsame hbW hcA hcB hsa hsb HCA HCB
  go_enter Tryz.func12,Tryz.ntmps12
  go_wp2
  go_ret
  exact⟨rfl,HB.out⟩
def Jt:St:={ gQ 1 with tb:=[116],cols:=[⟨[97],1,false,false⟩,⟨[98],2,false,true⟩],prim:=[97] }
def Fu:Tb:=⟨[116],[⟨[97],1,true,true⟩,⟨[98],2,false,true⟩],0⟩
def LV:List UInt8:=[67,82,69,65,84,69,32,84,65,66,76,69,32,116,32,40,32,97,32,73,78,84,32,78,79,84,32,78,85,76,76,32,85,78,73,81,85,69,32,44,32,98,32,84,69,88,84,32,85,78,73,81,85,69,32,44,32,80,82,73,77,65,82,89,32,75,69,89,32,40,32,97,32,41,32,41]
theorem yS:dh Jt=(Fu,0):=by
 unfold dh
 rw[if_pos (show Jt.k=1∧bP Jt=true from ⟨rfl,by decide⟩),if_pos (by decide)]
 rfl
theorem GA:qG Fu=true:=by
 have:=vV (s:=Jt) (by rw[yS])
 rw[yS] at this
 exact this
theorem Gy:lW Fu=(LV,0):=by
 unfold lW
 rw[if_pos GA]
 kernel_rfl
theorem Hr:aj LV=⟨#[67,82,69,65,84,69,32,84,65,66,76,69,32,116,32,40,32,97,32,73,78,84,32,78,79,84,32,78,85,76,76,32,85,78,73,81,85,69,32,44,32,98,32,84,69,88,84,32,85,78,73,81,85,69,32,44,32,80,82,73,77,65,82,89,32,75,69,89,32,40,32,97,32,41,32,41]⟩:=rfl
theorem Iu:j5 LV=(Fu,0):=by
 have:=(yJ GA).2.1
 rw[Gy] at this
 exact this
theorem tV (w:World) (hT:lV w) (hL:lI w):Calls Tryz.prog 9 #[] w fun e w'=>e = .returned (.bool true)∧Below w.heap.size w w':=by
 obtain⟨W,hW,hbW,hzW,hcA,hcB⟩:=two w (.cells #[.string ⟨#[97]⟩,.int .i64 1,.bool false,.bool false,.string ⟨#[98]⟩,.int .i64 2,.bool false,.bool true] 37) (.cells #[.int .i64 1,.string ⟨#[116]⟩,.slice (some ⟨w.heap.size,0,none⟩) 2 2,.string ⟨#[97]⟩,.slice none 0 0,.slice none 0 0,.slice none 0 0,.string ⟨#[]⟩,.slice none 0 0,.slice none 0 0,.slice none 0 0,.slice none 0 0,.bool false,.int .i64 (-1)] 28)
 have hst:mO (fun _=>True) W Jt [.int .i64 1,.string ⟨#[116]⟩,.slice (some ⟨w.heap.size,0,none⟩) 2 2,.string ⟨#[97]⟩,.slice none 0 0,.slice none 0 0,.slice none 0 0,.string ⟨#[]⟩,.slice none 0 0,.slice none 0 0,.slice none 0 0,.slice none 0 0,.bool false,.int .i64 (-1)]:=by
  have n:aV (fun _=>True) W [] (.slice none 0 0):=.nil none 0 (by unfold maxLen;omega)
  refine ⟨some ⟨w.heap.size,0,none⟩,none,none,none,none,none,none,none,2,0,0,0,0,0,0,0,2,0,0,0,0,0,0,0,rfl,?_,bT.nil,bT.nil,bT.nil,n,n,n,n⟩
  refine ⟨_,2,Jt.cols.map lF,rfl,by decide,by unfold maxLen;omega,CW _ _ _,fun _=>⟨w.heap.size,0,rfl,trivial,fun j cs hj i u hu=>?_⟩⟩
  rw[aC _ _ _ _ _ _ hcA]
  match j,hj with
  |
   0,hj =>
   simp only[Jt,List.map_cons,List.getElem?_cons_zero,Option.some.injEq] at hj
   subst hj
   match i,hu with
   | 0,hu | 1,hu | 2,hu | 3,hu=>exact hu
  |
   1,hj =>
   simp only[Jt,List.map_cons,List.getElem?_cons_succ,List.getElem?_cons_zero,Option.some.injEq] at hj
   subst hj
   match i,hu with
   | 0,hu | 1,hu | 2,hu | 3,hu=>exact hu
 have HMK:=hid (oC (fun _=>True) Jt _ W (hT.on hbW) (xJ (by decide)) hst)
 rw[yS] at HMK
 have k0:=au hcB
 have HB:=hid hbW
 have HT:=hid hT
 have HL:=hid hL
 clear hT hL hbW hcA hcB hst
 go_enter Tryz.func9,Tryz.ntmps9
 go_wp2_with fail
 try rw[hW]
 refine HMK.out.mono ?_
 rintro e w1 ⟨ds,rfl,⟨a1,n1,c1,hds,hown⟩,hb1⟩
 obtain rfl:ds=[.string ⟨#[116]⟩,.slice a1 n1 c1,.int .i64 0]:=hds
 have hown':w1.ownsRow W.heap.size 37 4 (.slice a1 n1 c1) Fu.cols.length (jC Fu.cols):=hown
 obtain⟨g,cg,hvg,hg1,hg2,hlcg,hgc⟩:=lK hown' (by decide)
 simp only[Value.slice.injEq] at hvg
 obtain⟨rfl,hn1,rfl⟩:=hvg
 obtain rfl:n1=2:=hn1
 have hs1:=hb1.size
 obtain⟨V,hV,hbV,hzV,hcV⟩:=aQ w1 (.cells #[.string ⟨#[116]⟩,.slice (some ⟨g,0,none⟩) 2 c1,.int .i64 0] 31)
 have hB1:=HB.out.trans (hb1.mono HB.out.size)
 have hBV:=hB1.trans (hbV.mono hB1.size)
 have htE:Es (fun _=>True) V Fu [.string ⟨#[116]⟩,.slice (some ⟨g,0,none⟩) 2 c1,.int .i64 0]:=⟨_,_,_,rfl,(sJ hown').to (T:=fun _=>True) (by decide) (R:=fun _=>False) (ay.aI hbV) (fun b _ _=>⟨id,trivial⟩) (fun _ _ e=>e)⟩
 have HSR:=hid (nK (fun _=>True) Fu _ V (HT.out.on hBV) ⟨by decide,by decide⟩ htE)
 rw[Gy] at HSR
 dsimp only at HSR
 rw[Hr] at HSR
 have kV:=bI hcV
 have HSV:=hid (bG kV.2.2.1)
 have HCV:=hid hcV
 have HBV:=hid hBV
 have HTE:=hid htE
 have HQ:Hid (∀Z,Below V.heap.size V Z→Z.cell? ⟨g,2,none⟩=some (.bool true)):=hid (fun Z hZ=>(hgc Z (hbV.trans (hZ.mono hbV.size))).1 0 ⟨[97],1,true,true⟩ rfl 2 _ rfl)
 clear hb1 hB1 hbV hBV hcV hown hown' htE hgc HMK hW k0
 go_wp2_with fail
 try rw[hV]
 try rw[HSV.out]
 refine HSR.out.mono ?_
 rintro e w2 ⟨rfl,hb2⟩
 have hB2:=HBV.out.trans (hb2.mono HBV.out.size)
 have HRD:=hid (uW LV w2 (HT.out.on hB2) (HL.out.on hB2) (by decide))
 rw[Iu,Hr] at HRD
 have HB2:=hid hB2
 have hs2:=hb2.size
 have HBV2:=hid hb2
 clear hb2 hB2 HSR hV
 go_wp2_with fail
 refine HRD.out.mono ?_
 rintro e w3 ⟨ds,rfl,hds,hb3⟩
 have hs3:=hb3.size
 have hdE:=hds.e
 obtain⟨a3,n3,c3,hds,_⟩:=hds
 obtain rfl:ds=[.string ⟨#[116]⟩,.slice a3 n3 c3,.int .i64 0]:=hds
 obtain⟨U,hU,hbU,hzU,hcU⟩:=aQ w3 (.cells #[.string ⟨#[116]⟩,.slice a3 n3 c3,.int .i64 0] 31)
 have hB3:=HB2.out.trans (hb3.mono HB2.out.size)
 have hBU:=hB3.trans (hbU.mono hB3.size)
 have hVU:=(HBV2.out.trans (hb3.mono HBV2.out.size)).trans (hbU.mono (HBV2.out.trans (hb3.mono HBV2.out.size)).size)
 have kU:=bI hcU
 have HSU:=hid (bG kU.2.2.1)
 have kV2:=bI ((hVU.block w1.heap.size (by omega)).trans HCV.out)
 have q2:=HQ.out U hVU
 have HSM:=hid (tN (fun _=>True) (fun b=>w2.heap.size≤b) Fu Fu _ _ U (HTE.out.on hVU) (hdE.on hbU))
 rw[(xP Fu Fu).2 rfl] at HSM
 have HBU:=hid hBU
 clear hb3 hbU hcU hB3 hBU hVU hdE HRD kV
 go_wp2_with fail
 try rw[hU]
 try rw[HSU.out]
 refine HSM.out.mono ?_
 rintro e w4 ⟨rfl,hb4⟩
 have HB4:=hid (HBU.out.trans (hb4.mono HBU.out.size))
 clear hb4 HSM
 go_wp2
 go_ret
 exact⟨rfl,HB4.out⟩
theorem Gu {s:St} (h:(dh s).2≠0):(dh s).1=vW:=by
 unfold dh at h ⊢
 by_cases h1:s.k=1∧bP s=true
 ·rw[if_pos h1] at h ⊢
  by_cases h2:(s.cols.map Co.nm).Nodup
  ·rw[if_pos h2] at h ⊢
   by_cases h3:fO s.cols s.prim<s.cols.length
   ·rw[if_pos h3] at h;exact absurd rfl h
   ·rw[if_neg h3]
  ·rw[if_neg h2]
 ·rw[if_neg h1]
theorem CV {s:List UInt8} (h:(j5 s).2=0):ShT (j5 s).1:=by
 unfold j5 at h ⊢
 by_cases h1:(cu s).2.1=0∧(cu s).1.length=1
 ·rw[if_pos h1] at h ⊢
  by_cases h2:(dh ((cu s).1.headD (gQ 0))).2=0
  ·rw[if_pos h2] at h ⊢
   by_cases h3:(lW (dh ((cu s).1.headD (gQ 0))).1).1=s
   ·rw[if_pos h3]
    exact qd h2
   ·rw[if_neg h3] at h;exact absurd (show (4:Int)=0 from h) (by decide)
  ·rw[if_neg h2] at h;exact absurd (show (4:Int)=0 from h) (by decide)
 ·rw[if_neg h1] at h;exact absurd (show (4:Int)=0 from h) (by decide)
theorem uj (s:St) (v:Value) (text:List UInt8) (w:World) (hx : ∃cs:List Value,v = .agg cs.toArray∧mO (fun b=>b<w.heap.size) w s cs) (hR:Gp s) (ht:text.length≤140737488351232) (hL:lI w) (hT:lV w) :
  Calls Tryz.prog 6 #[v,.string (aj text)] w fun e w'=>e = .returned (.bool true)∧Below w.heap.size w w':=by
 obtain⟨cs,rfl,hxx⟩:=hx
 have hx:=hxx
 obtain⟨a1,a2,a3,a4,a5,a6,a7,a8,n1,n2,n3,n4,n5,n6,n7,n8,c1,c2,c3,c4,c5,c6,c7,c8,rfl,_⟩:=hx
 obtain⟨W,hW,hbW,hzW,hcW⟩:=aQ w (.cells #[.int .i64 s.k,.string (aj s.tb),.slice a1 n1 c1,.string (aj s.prim),.slice a2 n2 c2,.slice a3 n3 c3,.slice a4 n4 c4,.string (aj s.jn),.slice a5 n5 c5,.slice a6 n6 c6,.slice a7 n7 c7,.slice a8 n8 c8,.bool s.desc,.int .i64 s.lim] 28)
 have HB:=hid hbW
 have HCW:=hid hcW
 have HSM:=hid (tV W (hT.on hbW) (hL.on hbW))
 have HT:=hid hT
 have HL:=hid hL
 have HMK:=hid (fun V (hV:Below w.heap.size w V)=>oC (fun _=>True) s _ V (hT.on hV) hR (hxx.on hV))
 have hmm:=vV (s:=s)
 have hms:=qd (s:=s)
 have HRD:=hid (fun V (hV:Below w.heap.size w V)=>uW text V (hT.on hV) (hL.on hV) ht)
 have hrs:=FW (s:=text)
 have hrh:=CV (s:=text)
 have hrn:=F6 (s:=text)
 obtain⟨M,hM⟩:∃M,dh s=M:=⟨_,rfl⟩
 rw[hM] at HMK hmm hms
 obtain⟨N,hN⟩:∃N,j5 text=N:=⟨_,rfl⟩
 rw[hN] at HRD hrs hrn hrh
 obtain⟨k,tb,l,prim,rows,sets,items,jn,on,wh,gr,od,desc,lim⟩:=s
 dsimp only at hW HCW HMK
 have HMM:=hid hmm
 have HMS:=hid hms
 have HRS:=hid hrs
 have HRN:=hid hrn
 have HRH:=hid hrh
 clear hxx hT hL hbW hcW hR hM hN hmm hms hrs hrn hrh
 go_enter Tryz.func6,Tryz.ntmps6
 go_wp2_with fail
 try rw[hW]
 refine HSM.out.mono ?_
 rintro e w1 ⟨rfl,hb1⟩
 have hB1:=HB.out.trans (hb1.mono HB.out.size)
 have hC1:=(hb1.block w.heap.size hzW).trans HCW.out
 have k1:=au hC1
 have HB1:=hid hB1
 have HC1:=hid hC1
 have HM1:=hid (HMK.out w1 hB1)
 clear hb1 hB1 hC1 HSM HMK hW HCW HB
 go_upto_region 2 with fail
 go_cut [33] (fun u33 wx=>(∃c:Bool,u33 = .bool c)∧wx=w1)
 case first =>
  by_cases hk:k=1
  ·have hk':(k != 1)=false:=by simp[hk]
   clear hk
   go_wp2_with fail
   go_meet
   exact⟨⟨_,rfl⟩,rfl⟩
  ·have hk':(k != 1)=true:=by simpa using hk
   clear hk
   go_wp2_with fail
   go_meet
   exact⟨⟨_,rfl⟩,rfl⟩
 case rest =>
  obtain⟨⟨c,rfl⟩,rfl⟩:=hcut
  cases c with
  |
   true =>
   go_wp2
   go_ret
   exact⟨rfl,HB1.out⟩
  |
   false =>
   go_wp2_with fail
   refine HM1.out.mono ?_
   rintro e w2 ⟨ds,rfl,hds,hb2⟩
   obtain⟨t,em⟩:=M
   dsimp only at hds HMM HMS
   have hde:=hds.e
   obtain⟨a9,n9,c9,rfl,_⟩:=hds
   obtain⟨V,hV,hbV,hzV,hcV⟩:=aQ w2 (.cells #[.string (aj t.nm),.slice a9 n9 c9,.int .i64 t.pr] 31)
   have hB2:=HB1.out.trans (hb2.mono HB1.out.size)
   have hBV:=hB2.trans (hbV.mono hB2.size)
   have kV:=bI hcV
   have HCV:=hid hcV
   have HBV:=hid hBV
   have HDE:=hid (hde.to (R:=fun _=>False) (T:=fun _=>True) (ay.aI hbV) (fun b _ _=>⟨id,trivial⟩))
   have HV:=hid hV
   obtain⟨tn,tc,tp⟩:=t
   dsimp only at hV kV HCV HV
   clear hb2 hbV hB2 hBV hcV hde HM1 hV k1 HC1
   go_upto_if 41 with fail
   try rw[HV.out]
   go_cut [8,9,10,11] (fun u8 u9 u10 u11 wx=>Below w.heap.size w wx)
   case first =>
    by_cases hem:em=0
    ·subst hem
     have hsrc:=yJ (HMM.out rfl)
     have HSR:=hid (nK (fun _=>True) ⟨tn,tc,tp⟩ _ V (HT.out.on HBV.out) (HMS.out rfl).rg HDE.out)
     obtain⟨X,hX⟩:∃X,lW ⟨tn,tc,tp⟩=X:=⟨_,rfl⟩
     rw[hX] at hsrc HSR
     obtain⟨x1,x2⟩:=X
     dsimp only at hsrc HSR
     obtain⟨rfl,hrd,hlx⟩:=hsrc
     clear hX
     go_wp2_with fail
     refine HSR.out.mono ?_
     rintro e w3 ⟨rfl,hb3⟩
     have hB3:=HBV.out.trans (hb3.mono HBV.out.size)
     have HRX:=hid (uW x1 w3 (HT.out.on hB3) (HL.out.on hB3) (by omega))
     rw[hrd] at HRX
     have HB3:=hid hB3
     have hs3:=hb3.size
     have HBV3:=hid hb3
     clear hb3 hB3 HSR hrd hlx kV
     go_wp2_with fail
     refine HRX.out.mono ?_
     rintro e w4 ⟨es,rfl,hes,hb4⟩
     have hee:=hes.e
     obtain⟨a4',n4',c4',rfl,_⟩:=hes
     obtain⟨U,hU,hbU,hzU,hcU⟩:=aQ w4 (.cells #[.string (aj tn),.slice a4' n4' c4',.int .i64 tp] 31)
     have hs4:=hb4.size
     have hB4:=HB3.out.trans (hb4.mono HB3.out.size)
     have hBU:=hB4.trans (hbU.mono hB4.size)
     have hVU:=(HBV3.out.trans (hb4.mono HBV3.out.size)).trans (hbU.mono (HBV3.out.trans (hb4.mono HBV3.out.size)).size)
     have kU:=bI hcU
     have kV2:=bI ((hVU.block w2.heap.size (by omega)).trans HCV.out)
     have HSA:=hid (tN (fun _=>True) (fun b=>w3.heap.size≤b) ⟨tn,tc,tp⟩ ⟨tn,tc,tp⟩ _ _ U (HDE.out.on hVU) (hee.on hbU))
     rw[(xP _ _).2 rfl] at HSA
     have HBU:=hid hBU
     clear hb4 hbU hcU hB4 hBU hVU hee HRX
     go_wp2_with fail
     try rw[hU]
     refine HSA.out.mono ?_
     rintro e w5 ⟨rfl,hb5⟩
     have HB5:=hid (HBU.out.trans (hb5.mono HBU.out.size))
     clear hb5 HSA
     go_wp2_with fail
     go_meet
     case rel=>exact HB5.out
    ·have hem':(em==0)=false:=by simpa using hem
     clear hem
     go_wp2_with fail
     go_meet
     case rel=>exact HBV.out
   case rest =>
    have HBC:=hid hcut
    have HRC:=hid (HRD.out wc hcut)
    clear hcut HRD HDE HBV HCV kV HMM HMS
    go_wp2_with fail
    refine HRC.out.mono ?_
    rintro e w3 ⟨es,rfl,hes,hb3⟩
    obtain⟨⟨un,uc,up⟩,er⟩:=N
    dsimp only at hes HRS HRN HRH
    have hee:=hes.e
    obtain⟨a3',n3',c3',rfl,_⟩:=hes
    obtain⟨U,hU,hbU,hzU,hcU⟩:=aQ w3 (.cells #[.string (aj un),.slice a3' n3' c3',.int .i64 up] 31)
    have hB3:=HBC.out.trans (hb3.mono HBC.out.size)
    have hBU:=hB3.trans (hbU.mono hB3.size)
    have kU:=bI hcU
    have HBU:=hid hBU
    by_cases her:er=0
    ·subst her
     have HSR:=hid (nK (fun _=>True) ⟨un,uc,up⟩ _ U (HT.out.on hBU) (HRH.out rfl).rg (hee.to (R:=fun _=>False) (T:=fun _=>True) (ay.aI hbU) (fun b _ _=>⟨id,trivial⟩)))
     rw[HRS.out rfl] at HSR
     clear hb3 hbU hcU hB3 hBU hee HRC
     go_wp2_with fail
     try rw[hU]
     refine HSR.out.mono ?_
     rintro e w4 ⟨rfl,hb4⟩
     have HB4:=hid (HBU.out.trans (hb4.mono HBU.out.size))
     clear hb4 HSR
     go_wp2
     go_ret
     exact⟨by simp,HB4.out⟩
    ·have her':(er != 0)=true:=by simpa using her
     have hz:=HRN.out her
     simp only[Prod.mk.injEq,vW,Tb.mk.injEq] at hz
     obtain⟨⟨rfl,rfl,rfl⟩,rfl⟩:=hz
     have HSU:=hid (bG kU.2.2.1)
     have e0:aj ([]:List UInt8)=⟨#[]⟩:=rfl
     rw[e0] at hU kU
     clear hb3 hbU hcU hB3 hBU hee HRC her
     go_wp2_with fail
     try rw[hU]
     try rw[HSU.out]
     go_wp2
     try rw[HSU.out]
     go_ret
     exact⟨by simp,HBU.out⟩
end Go.Proofs.YtaaggohjmhifbaaGreatDoor
namespace Go.Proofs.YtaaggohjmhifbaaGreatDoor
open Go.ChangeShapes Go.WideShapes Go.RowKit
set_option linter.unusedVariables false
set_option maxRecDepth 20000
set_option maxHeartbeats 8000000
abbrev jl:List (String × DataW Unit):=[("math/bits.deBruijn32tab", Rows.laid_math_bits_deBruijn32tab),("math/bits.deBruijn64tab", Rows.laid_math_bits_deBruijn64tab),("internal/strconv.uint64pow10", Rows.laid_internal_strconv_uint64pow10),("unicode/utf8.acceptRanges", Rows.laid_unicode_utf8_acceptRanges),("strconv.ErrRange", Rows.laid_strconv_ErrRange),("strconv.ErrSyntax", Rows.laid_strconv_ErrSyntax),("unicode.White_Space", Rows.laid_unicode_White_Space),("strings.asciiSpace", Rows.laid_strings_asciiSpace),("vestry/printer.operators", Rows.laid_vestry_printer_operators),("unicode/utf8.first", Rows.laid_unicode_utf8_first)]
theorem rO {W:World} (h:laidMetH Tryz.prog jl W):laidMet Tryz.prog jl W:=by
 rwa [MakeChecks.laidMetH_plain _ _ _ (by kernel_rfl)] at h
theorem Dz {W:World} {n:String} {d:DataW Unit} {r:List (String × DataW Unit)} {g:Nat} (h:laidMet Tryz.prog ((n,d)::r) W) (hg:Tryz.prog.globalNamed n=some g):g<W.heap.size:=by
 obtain⟨ps,⟨g1,t1,cs1,f1,p1,q1,hg1,ht1,hv1,hd1,_⟩,_⟩:=h
 obtain rfl:=Option.some.inj (hg.symm.trans hg1)
 unfold World.var? at hv1
 rw[hg1] at hv1
 simp only[Option.bind_some] at hv1
 rcases Nat.lt_or_ge g W.heap.size with h | h
 ·exact h
 ·rw[Array.getElem?_eq_none h] at hv1
  cases hv1
theorem zq {W:World} {r:List (String × DataW Unit)} (h:laidMet Tryz.prog (("internal/strconv.uint64pow10", Rows.laid_internal_strconv_uint64pow10)::r) W):Lib.TabIs Tryz.prog W "internal/strconv.uint64pow10" .u64 Lib.pow10Tab:=by
 obtain⟨ps,⟨g2,t2,cs2,f2,p2,q2,hg2,ht2,hv2,hd2,_⟩,_⟩:=h
 obtain rfl:=Option.some.inj ((show Tryz.prog.globalNamed "internal/strconv.uint64pow10" = some 4 by kernel_rfl).symm.trans hg2)
 obtain rfl:=Option.some.inj ((show (Tryz.prog.globals[4]?).map (·.type)=some 298 by kernel_rfl).symm.trans ht2)
 have e:=Lib.cells_of_tab (k:=.u64) (zs:=Lib.pow10Tab) Tryz.underlying298 Tryz.underlying185 (by kernel_rfl) (by kernel_rfl) hd2
 unfold Lib.TabIs
 rw[hv2]
 exact congrArg some (Array.ext' (by rw[e]))
theorem Hl {W:World} {r:List (String × DataW Unit)} (h:laidMet Tryz.prog (("strings.asciiSpace", Rows.laid_strings_asciiSpace)::r) W):Lib.TabIs Tryz.prog W "strings.asciiSpace" .u8 Lib.asciiSpaceTab:=by
 obtain⟨ps,⟨g2,t2,cs2,f2,p2,q2,hg2,ht2,hv2,hd2,_⟩,_⟩:=h
 obtain rfl:=Option.some.inj ((show Tryz.prog.globalNamed "strings.asciiSpace" = some 1 by kernel_rfl).symm.trans hg2)
 obtain rfl:=Option.some.inj ((show (Tryz.prog.globals[1]?).map (·.type)=some 276 by kernel_rfl).symm.trans ht2)
 have hdd:(Rows.laid_strings_asciiSpace:DataW Unit)=Lib.tabData .u8 Lib.asciiSpaceTab:=by kernel_rfl
 rw[hdd] at hd2
 have e:=Lib.cells_of_tab (k:=.u8) (zs:=Lib.asciiSpaceTab) Tryz.underlying276 Tryz.underlying5 (by kernel_rfl) (by kernel_rfl) hd2
 unfold Lib.TabIs
 rw[hv2]
 exact congrArg some (Array.ext' (by rw[e]))
theorem Tryz.star : "*" ++ "errors.errorString" = "*errors.errorString" := by decide
theorem Tryz.Kl (u:TypeId) (h:Tryz.prog.typeName? 3 u=some "*errors.errorString"):u=320 :=
 typeName_ptr_named (nm := "errors.errorString") (by rw[Tryz.star];kernel_rfl) (by kernel_rfl) (by decide) u (by rw[Tryz.star];exact h)
theorem HZ {W:World} {r:List (String × DataW Unit)} (h:laidMet Tryz.prog (("strconv.ErrRange", Rows.laid_strconv_ErrRange)::r) W):∃ev,W.cell? ⟨6,0,none⟩=some ev∧(ev = .nilIface∨∃te pe,ev = .iface te pe):=by
 have hg:Tryz.prog.globalNamed "strconv.ErrRange" = some 6:=by kernel_rfl
 obtain⟨a0,s0,hv0,-,-,-⟩:=laid_sentinel h hg (by kernel_rfl) Tryz.underlying241 Tryz.Kl Tryz.underlying320 Tryz.underlying322 rfl rfl Tryz.underlying9 (by kernel_rfl) (by kernel_rfl)
 exact⟨_,by have h0:=World.var?_cell hg hv0 0;simpa using h0,.inr ⟨_,_,rfl⟩⟩
theorem uK {W:World} (hs:W.ShapedOpen Tryz.prog):∃m,W.cell? ⟨2,0,none⟩=some (.int .i64 m) :=
 cell_of_shapedOpen_int (P:=Tryz.prog) (zero:=#[.int .i64 0]) (t:=3) hs (by decide +kernel) (by kernel_rfl) rfl (by kernel_rfl) (by kernel_rfl) Tryz.underlying3
theorem Tryz.JQ:Tryz.prog.cellsOf 233=2:=by kernel_rfl
theorem Tryz.K8:Tryz.prog.cellsOf 3=1:=by kernel_rfl
theorem Tryz.Ld:Tryz.prog.cellsOf 9=1:=by kernel_rfl
theorem yc {H:Type} {enc:TypeId × Value→H} {W:World} {base:Nat} {spare:Nat→Bool} {held:Bool} {fuel:Nat} {cs:List Value} {ps:List MemPlace} {s:List UInt8} {n:Int} (h:DataW.trod enc Tryz.prog W base spare held fuel 233 cs=some (.agg [.lit (.string s),.lit (.int .i64 n)],ps)) :
  cs=[.string (aj s),.int .i64 n]:=by
 obtain⟨ys,m,_,hx,hl,hlen,hf⟩:=DataW.trod_struct Tryz.underlying233 h
 rw[Tryz.JQ] at hl
 match cs,hl with
 |
  [c0,c1],_ =>
  match ys,hlen with
  |
   [y0,y1],_ =>
   have f0:DataW.trod enc Tryz.prog W base spare held m 9 [c0]=some y0:=by
    have g:=hf 0 _ rfl
    change DataW.trod enc Tryz.prog W base spare held m 9 (([c0,c1].drop 0).take (Tryz.prog.cellsOf 9))=some y0 at g
    rw[Tryz.Ld] at g
    exact g
   have f1:DataW.trod enc Tryz.prog W base spare held m 3 [c1]=some y1:=by
    have g:=hf 1 _ rfl
    change DataW.trod enc Tryz.prog W base spare held m 3 (([c0,c1].drop 1).take (Tryz.prog.cellsOf 3))=some y1 at g
    rw[Tryz.K8] at g
    exact g
   obtain⟨s0,e0,d0,_⟩:=DataW.trod_string Tryz.underlying9 f0
   obtain⟨n0,e1,d1,_⟩:=DataW.trod_int Tryz.underlying3 f1
   subst d0 d1
   simp only[List.map_cons,List.map_nil,Prod.mk.injEq,DataW.agg.injEq,List.cons.injEq,DataW.lit.injEq,Lit.string.injEq,Lit.int.injEq,and_true,true_and] at hx
   obtain⟨⟨rfl,rfl⟩,_⟩:=hx
   simp only[List.cons.injEq,and_true] at e0 e1
   rw[e0,e1,jY]
def Mc (t:List UInt8 × Nat):DataW Unit:=.agg [.lit (.string t.1),.lit (.int .i64 t.2)]
theorem G7 {cs:List Value} {k:Nat} {a b:Value} (h:(cs.drop k).take 2=[a,b]):cs[k]?=some a∧cs[k+1]?=some b:=by
 have h0:((cs.drop k).take 2)[0]?=some a:=by rw[h];rfl
 have h1:((cs.drop k).take 2)[1]?=some b:=by rw[h];rfl
 rw[List.getElem?_take,if_pos (by decide),List.getElem?_drop] at h0 h1
 exact⟨by simpa using h0,h1⟩
theorem Gf {W:World} {r:List (String × DataW Unit)} (h:laidMet Tryz.prog (("vestry/printer.operators", Rows.laid_vestry_printer_operators)::r) W):FU W:=by
 obtain⟨ps,⟨g2,t2,cs2,f2,p2,q2,hg2,ht2,hv2,hd2,_⟩,_⟩:=h
 have hg:Tryz.prog.globalNamed "vestry/printer.operators" = some 0:=by kernel_rfl
 obtain rfl:=Option.some.inj (hg.symm.trans hg2)
 obtain rfl:=Option.some.inj ((show (Tryz.prog.globals[0]?).map (·.type)=some 234 by kernel_rfl).symm.trans ht2)
 obtain⟨xs,m,_,hx,hl,hlen,hf⟩:=DataW.trod_array Tryz.underlying234 hd2
 have hdd:(Rows.laid_vestry_printer_operators:DataW Unit) = .agg (uV.map Mc):=by kernel_rfl
 rw[hdd] at hx
 simp only[Prod.mk.injEq,DataW.agg.injEq] at hx
 intro o ho
 have hf':=hf o (by omega)
 rw[Tryz.JQ] at hf'
 have hxo:(xs.map (·.1))[o]?=(uV.map Mc)[o]?:=by rw[← hx.1]
 obtain⟨x,hxe⟩:∃x,xs[o]?=some x:=⟨_,List.getElem?_eq_getElem (by omega)⟩
 rw[hxe] at hf'
 rw[List.getElem?_map,hxe,List.getElem?_map] at hxo
 have hto:uV[o]?=some (lM (o:Int),bY (o:Int)):=by
  have : ∀o:Fin 14,uV[o.1]?=some (lM (o.1:Int),bY (o.1:Int)):=by decide
  exact this ⟨o,by omega⟩
 rw[hto] at hxo
 simp only[Option.map_some,Option.some.injEq] at hxo
 obtain⟨d,pl⟩:=x
 dsimp only at hxo
 subst hxo
 obtain⟨k0,k1⟩:=G7 (yc hf')
 have c0:=World.var?_cell hg hv2 (o*2)
 have c1:=World.var?_cell hg hv2 (o*2+1)
 rw[Array.getElem?_toList] at k0 k1
 exact⟨c0.trans k0,c1.trans k1⟩
theorem Fw {W:World} (h:laidMetH Tryz.prog jl W) (hs:W.ShapedOpen Tryz.prog):lV W:=by
 have h':=rO h
 have hlt:10<W.heap.size:=Dz (g:=10) h'.tail (by kernel_rfl)
 exact⟨⟨by omega,uK hs,zq h'.tail.tail⟩,Gf h'.tail.tail.tail.tail.tail.tail.tail.tail,hlt⟩
theorem H8 {W:World} (h:laidMetH Tryz.prog jl W) (hs:W.ShapedOpen Tryz.prog):lI W:=by
 have h':=rO h
 have hlt:10<W.heap.size:=Dz (g:=10) h'.tail (by kernel_rfl)
 exact⟨⟨by omega,uK hs,zq h'.tail.tail⟩,by omega,Hl h'.tail.tail.tail.tail.tail.tail.tail,HZ h'.tail.tail.tail.tail⟩
end Go.Proofs.YtaaggohjmhifbaaGreatDoor
