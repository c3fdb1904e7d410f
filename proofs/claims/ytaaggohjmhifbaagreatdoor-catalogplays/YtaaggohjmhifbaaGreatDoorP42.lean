/- Packed for the hand-in: CRead CSmall OpenX OpenC OpenA11 OpenT CShort -/
import Derived.Test.YtaaggohjmhifbaaGreatDoorP36
import Derived.Test.YtaaggohjmhifbaaGreatDoorP39
import Derived.Test.YtaaggohjmhifbaaGreatDoorP24
import Derived.Handed
import Derived.OpenShut
import Derived.ChangeArms
import Derived.Deep.Slices
import Derived.Test.YtaaggohjmhifbaaGreatDoorRows
import Derived.Test.YtaaggohjmhifbaaGreatDoorP17
import Derived.LaidLaws
import Derived.Lay
import Derived.Lib.LaidTab
import Derived.Shelf.Vars
import Derived.SizedLaws
import Derived.MakeChecks
import Derived.Stop.LaidErr
namespace Go.Proofs.YtaaggohjmhifbaaGreatDoor
open Go.RowKit Go.Shelf Go.Lib
set_option linter.unusedSimpArgs false
set_option linter.unusedVariables false
set_option maxRecDepth 20000
set_option maxHeartbeats 8000000
theorem one_at {S:Nat→Prop} {w:World} {s:St} {v:Value} (h:SlAt 14 StE S w [s] v):∃(b off c:Nat) (cs:List Value),v = .slice (some ⟨b,off,none⟩) 1 c∧StE S w s cs∧∀Z,Below w.heap.size w Z→∀(i:Nat) (u:Value),cs[i]?=some u→Z.cell? ⟨b,off+i,none⟩=some u:=by
 obtain⟨b,off,c,h1,h2,h3,h4⟩:=h.opened (by decide) (by simp)
 obtain⟨cs,h5,h6⟩:=h4 0 s rfl
 refine ⟨b,off,c,cs,h1,h5,fun Z hZ i u hu=>?_⟩
 have:=h6 Z hZ i u hu
 rw[Nat.zero_mul,Nat.add_zero] at this
 exact this
def readB (N:Tb × Int) (s:List UInt8):Tb × Int:=if N.2=0 then (if (srcT N.1).1=s then (N.1,0) else (zTb,4)) else (zTb,4)
theorem readB_one (t:Tb) (s:List UInt8):readB (t,0) s=if (srcT t).1=s then (t,0) else (zTb,4):=rfl
theorem readB_no (t:Tb) (e:Int) (he:e≠0) (s:List UInt8):readB (t,e) s=(zTb,4):=if_neg he
theorem read_any (s:List UInt8) (w:World) (hT:TabW w) (hL:TabL w) (hs:s.length≤140737488351232) :
  Calls Tryz.prog 15 #[.string (str8 s)] w fun e w'=>∃ds:List Value,e = .returned (.tuple #[.agg ds.toArray,.int .i64 (readA s).2])∧TbO w.heap.size w' (readA s).1 ds∧Below w.heap.size w w':=by
 obtain⟨W,hW,hbW,hzW,hcW⟩:=box8 w (.cells #[.string ⟨#[]⟩,.slice none 0 0,.int .i64 0] 31)
 have HSC:=hid (script_any s W (hL.on hbW) hs)
 have HB:=hid hbW
 have HCW:=hid hcW
 have HT:=hid hT
 have hsr:=script_right (s:=s)
 have hA:readA s=if (scriptA s).2.1=0∧(scriptA s).1.length=1 then readB (makeA ((scriptA s).1.headD (zSt 0))) s else (zTb,4):=rfl
 obtain⟨M,hM⟩:∃M,readA s=M:=⟨_,rfl⟩
 rw[hM] at hA ⊢
 generalize scriptA s=X at HSC hA hsr
 obtain⟨l,ec,ep⟩:=X
 dsimp only at HSC hA hsr
 clear hM hT hL hbW hcW
 by_cases hok:ec=0∧l.length=1
 ·rw[if_pos hok] at hA
  obtain⟨rfl,hl1⟩:=hok
  obtain⟨x,rfl⟩:∃x,l=[x]:=by
   match l,hl1 with
   | [x],_=>exact⟨x,rfl⟩
  dsimp only[List.headD_cons] at hA
  have hRx:RgS x:=right_rgS (areB_mem (hsr rfl).1 x (by simp))
  have HMK:=hid (fun V (hV:TabW V) cs (hc:StE (fun _=>True) V x cs)=>make_any (fun _=>True) x cs V hV hRx hc)
  have hsh:=make_short (s:=x)
  generalize makeA x=N at HMK hA hsh
  obtain⟨t,em⟩:=N
  dsimp only at HMK hA hsh
  clear hsr hl1 hRx
  go_enter Tryz.func15,Tryz.ntmps15
  go_wp2_with fail
  try rw[hW]
  refine HSC.out.mono ?_
  rintro e w1 ⟨aa,nn,cc,rfl,hsl,hb1⟩
  obtain⟨b,off,c,cs,hv,hst,hcl⟩:=one_at hsl
  simp only[Value.slice.injEq] at hv
  obtain⟨rfl,rfl,rfl⟩:=hv
  have hs1:=hb1.size
  obtain⟨U,hU,hbU,hzU,hcU⟩:=box8 w1 (.cells #[.int .i64 0,.int .i64 ep] 69)
  have hB1:=HB.out.trans (hb1.mono HB.out.size)
  have hBU:=hB1.trans (hbU.mono hB1.size)
  have HM1:=hid (HMK.out U (HT.out.on hBU) cs (hst.on hbU))
  have kU:=cells2 hcU
  have hZU:=(hbU.block w.heap.size (by omega)).trans ((hb1.block w.heap.size hzW).trans HCW.out)
  obtain⟨a1,a2,a3,a4,a5,a6,a7,a8,n1,n2,n3,n4,n5,n6,n7,n8,c1,c2,c3,c4,c5,c6,c7,c8,rfl,_⟩:=hst
  have hq:=hcl U hbU
  have q0:=hq 0 _ rfl
  have q1:=hq 1 _ rfl
  have q2:=hq 2 _ rfl
  have q3:=hq 3 _ rfl
  have q4:=hq 4 _ rfl
  have q5:=hq 5 _ rfl
  have q6:=hq 6 _ rfl
  have q7:=hq 7 _ rfl
  have q8:=hq 8 _ rfl
  have q9:=hq 9 _ rfl
  have q10:=hq 10 _ rfl
  have q11:=hq 11 _ rfl
  have q12:=hq 12 _ rfl
  have q13:=hq 13 _ rfl
  rw[Nat.add_zero] at q0
  have HBU:=hid hBU
  have HZU:=hid hZU
  clear hq hcl hsl hb1 hbU hcU hB1 hBU hZU HSC HMK hW
  go_wp2_with fail
  try rw[hU]
  refine HM1.out.mono ?_
  rintro e w2 ⟨ds,rfl,hds,hb2⟩
  have hs2:=hb2.size
  have hdo:=hds
  obtain⟨a9,n9,c9,rfl,hown⟩:=hds
  obtain⟨V,hV,hbV,hzV,hcV⟩:=box8 w2 (.cells #[.string (str8 t.nm),.slice a9 n9 c9,.int .i64 t.pr] 31)
  have hB2:=HBU.out.trans (hb2.mono HBU.out.size)
  have hBV:=hB2.trans (hbV.mono hB2.size)
  have hZV:=(hbV.block w.heap.size (by omega)).trans ((hb2.block w.heap.size (by omega)).trans HZU.out)
  have kV:=cells3f hcV
  have kz:=cells3f hZV
  have HS0:=hid (setCell_same kz.1)
  have HS1:=hid (setCell_same kz.2.1)
  have HS2:=hid (setCell_same kz.2.2.1)
  have HBV:=hid hBV
  have HZV:=hid hZV
  have HDO:=hid (hdo.on hbV)
  have HCV:=hid hcV
  clear q0 q1 q2 q3 q4 q5 q6 q7 q8 q9 q10 q11 q12 q13 hU hb2 hB2 hbV hBV hZV hcV hown hdo HM1 kU
  by_cases hem:em=0
  ·subst hem
   rw[readB_one] at hA
   have HSR:=hid (source_any (fun _=>True) t _ V (HT.out.on HBV.out) (hsh rfl).rg ((HDO.out.e).to (R:=fun _=>False) (T:=fun _=>True) (Spares.of_new (Below.refl _ _)) (fun b _ _=>⟨id,trivial⟩)))
   generalize srcT t=Y at HSR hA
   obtain⟨y1,y2⟩:=Y
   dsimp only at HSR hA
   clear HS0 HS1 HS2 kz
   go_wp2_with fail
   try rw[hV]
   refine HSR.out.mono ?_
   rintro e w3 ⟨rfl,hb3⟩
   have hs3:=hb3.size
   have hZ3:=(hb3.block w.heap.size (by omega)).trans HZV.out
   have k3:=cells3f hZ3
   have kV3:=cells3f ((hb3.block w2.heap.size (by omega)).trans HCV.out)
   have HB3:=hid (HBV.out.trans (hb3.mono HBV.out.size))
   have HD3:=hid (HDO.out.on hb3)
   have HS0:=hid (setCell_same k3.1)
   have HS1:=hid (setCell_same k3.2.1)
   have HS2:=hid (setCell_same k3.2.2.1)
   by_cases hy:y1=s
   ·rw[if_pos hy] at hA
    subst hA
    subst hy
    clear hb3 HSR hZ3 HS0 HS1 HS2 hV
    go_wp2
    have hB:Below w.heap.size w (((w3.setCell ⟨w.heap.size,0,none⟩ (.string (str8 t.nm))).setCell ⟨w.heap.size,1,none⟩ (.slice a9 n9 c9)).setCell ⟨w.heap.size,2,none⟩ (.int .i64 t.pr)):=((HB3.out.setCell (Nat.le_refl _) _).setCell (Nat.le_refl _) _).setCell (Nat.le_refl _) _
    have hSp:Spares (fun k=>k=w.heap.size) w3 (((w3.setCell ⟨w.heap.size,0,none⟩ (.string (str8 t.nm))).setCell ⟨w.heap.size,1,none⟩ (.slice a9 n9 c9)).setCell ⟨w.heap.size,2,none⟩ (.int .i64 t.pr)):=(((Spares.refl (fun k=>k=w.heap.size) w3).own _ _).own _ _).own _ _
    refine bodyPost_ret (v:=.tuple #[.agg #[.string (str8 t.nm),.slice a9 n9 c9,.int .i64 t.pr],.int .i64 0]) (by simp[results,Tryz.results15,go_sem,k3]) rfl ⟨_,rfl,?_,hB⟩
    obtain⟨x1,x2,x3,hx1,hx2⟩:=HD3.out
    refine ⟨x1,x2,x3,hx1,owns_lower (hSp.row hx2 (fun g hg=>?_)) (fun g hg=>?_)⟩
    ·have:=(hx2.lt g hg).1
     omega
    ·have:=(hx2.lt g hg).1
     have:=HBU.out.size
     omega
   ·have hy':((str8 y1).toList==(str8 s).toList)=false:=by rw[str8_toList,str8_toList];simpa using hy
    rw[if_neg hy] at hA
    subst hA
    clear hb3 HSR hZ3 hy hV
    go_wp2
    rw[HS0.out,HS1.out,HS2.out]
    exact bodyPost_ret (v:=.tuple #[.agg #[.string ⟨#[]⟩,.slice none 0 0,.int .i64 0],.int .i64 4]) (by simp[results,Tryz.results15,go_sem,k3]) rfl ⟨_,rfl,zTb_own _ _ HB3.out.size,HB3.out⟩
  ·have hem':(em != 0)=true:=by simpa using hem
   rw[readB_no t em hem] at hA
   subst hA
   clear hem
   go_wp2_with fail
   try rw[hV]
   go_wp2
   rw[HS0.out,HS1.out,HS2.out]
   exact bodyPost_ret (v:=.tuple #[.agg #[.string ⟨#[]⟩,.slice none 0 0,.int .i64 0],.int .i64 4]) (by simp[results,Tryz.results15,go_sem,kz]) rfl ⟨_,rfl,zTb_own _ _ HBV.out.size,HBV.out⟩
 ·rw[if_neg hok] at hA
  subst hA
  have hbad:((ec != 0)||((l.length:Int) != 1))=true:=by
   by_cases h1:ec=0
   ·have:l.length≠1:=fun h=>hok ⟨h1,h⟩
    simp[h1];omega
   ·simp[h1]
  clear hok hsr
  go_enter Tryz.func15,Tryz.ntmps15
  go_wp2_with fail
  try rw[hW]
  refine HSC.out.mono ?_
  rintro e w1 ⟨aa,nn,cc,rfl,hsl,hb1⟩
  have hnn:nn=l.length:=by obtain⟨_,_,hf⟩:=hsl.form;simp only[Value.slice.injEq] at hf;exact hf.2.1
  subst hnn
  have hs1:=hb1.size
  obtain⟨U,hU,hbU,hzU,hcU⟩:=box8 w1 (.cells #[.int .i64 ec,.int .i64 ep] 69)
  have hB1:=HB.out.trans (hb1.mono HB.out.size)
  have HBU:=hid (hB1.trans (hbU.mono hB1.size))
  have kU:=cells2 hcU
  have kz:=cells3f ((hbU.block w.heap.size (by omega)).trans ((hb1.block w.heap.size hzW).trans HCW.out))
  have HS0:=hid (setCell_same kz.1)
  have HS1:=hid (setCell_same kz.2.1)
  have HS2:=hid (setCell_same kz.2.2.1)
  clear hsl hb1 hbU hcU hB1 HSC hW
  generalize l.length=L at *
  by_cases h1:ec=0
  ·subst h1
   have h2:((L:Int) != 1)=true:=by simpa using hbad
   clear hbad
   go_wp2_with fail
   try rw[hU]
   go_wp2
   rw[HS0.out,HS1.out,HS2.out]
   exact bodyPost_ret (v:=.tuple #[.agg #[.string ⟨#[]⟩,.slice none 0 0,.int .i64 0],.int .i64 4]) (by simp[results,Tryz.results15,go_sem,kz]) rfl ⟨_,rfl,zTb_own _ _ HBU.out.size,HBU.out⟩
  ·have h2:(ec != 0)=true:=by simpa using h1
   clear hbad h1
   go_wp2_with fail
   try rw[hU]
   go_wp2
   rw[HS0.out,HS1.out,HS2.out]
   exact bodyPost_ret (v:=.tuple #[.agg #[.string ⟨#[]⟩,.slice none 0 0,.int .i64 0],.int .i64 4]) (by simp[results,Tryz.results15,go_sem,kz]) rfl ⟨_,rfl,zTb_own _ _ HBU.out.size,HBU.out⟩
def smS:St:={ zSt 1 with tb:=[116],cols:=[⟨[97],1,false,false⟩,⟨[98],2,false,true⟩],prim:=[97] }
def smT:Tb:=⟨[116],[⟨[97],1,true,true⟩,⟨[98],2,false,true⟩],0⟩
def smX:List UInt8:=[67,82,69,65,84,69,32,84,65,66,76,69,32,116,32,40,32,97,32,73,78,84,32,78,79,84,32,78,85,76,76,32,85,78,73,81,85,69,32,44,32,98,32,84,69,88,84,32,85,78,73,81,85,69,32,44,32,80,82,73,77,65,82,89,32,75,69,89,32,40,32,97,32,41,32,41]
theorem sm_make:makeA smS=(smT,0):=by
 unfold makeA
 rw[if_pos (show smS.k=1∧rightS smS=true from ⟨rfl,by decide⟩),if_pos (by decide)]
 rfl
theorem sm_may:mayB smT=true:=by
 have:=make_may (s:=smS) (by rw[sm_make])
 rw[sm_make] at this
 exact this
theorem sm_src:srcT smT=(smX,0):=by
 unfold srcT
 rw[if_pos sm_may]
 kernel_rfl
theorem sm_lit:str8 smX=⟨#[67,82,69,65,84,69,32,84,65,66,76,69,32,116,32,40,32,97,32,73,78,84,32,78,79,84,32,78,85,76,76,32,85,78,73,81,85,69,32,44,32,98,32,84,69,88,84,32,85,78,73,81,85,69,32,44,32,80,82,73,77,65,82,89,32,75,69,89,32,40,32,97,32,41,32,41]⟩:=rfl
theorem sm_read:readA smX=(smT,0):=by
 have:=(may_src sm_may).2.1
 rw[sm_src] at this
 exact this
theorem small11_any (w:World) (hT:TabW w) (hL:TabL w):Calls Tryz.prog 9 #[] w fun e w'=>e = .returned (.bool true)∧Below w.heap.size w w':=by
 obtain⟨W,hW,hbW,hzW,hcA,hcB⟩:=two w (.cells #[.string ⟨#[97]⟩,.int .i64 1,.bool false,.bool false,.string ⟨#[98]⟩,.int .i64 2,.bool false,.bool true] 37) (.cells #[.int .i64 1,.string ⟨#[116]⟩,.slice (some ⟨w.heap.size,0,none⟩) 2 2,.string ⟨#[97]⟩,.slice none 0 0,.slice none 0 0,.slice none 0 0,.string ⟨#[]⟩,.slice none 0 0,.slice none 0 0,.slice none 0 0,.slice none 0 0,.bool false,.int .i64 (-1)] 28)
 have hst:StE (fun _=>True) W smS [.int .i64 1,.string ⟨#[116]⟩,.slice (some ⟨w.heap.size,0,none⟩) 2 2,.string ⟨#[97]⟩,.slice none 0 0,.slice none 0 0,.slice none 0 0,.string ⟨#[]⟩,.slice none 0 0,.slice none 0 0,.slice none 0 0,.slice none 0 0,.bool false,.int .i64 (-1)]:=by
  have n:ArgsAt (fun _=>True) W [] (.slice none 0 0):=.nil none 0 (by unfold maxLen;omega)
  refine ⟨some ⟨w.heap.size,0,none⟩,none,none,none,none,none,none,none,2,0,0,0,0,0,0,0,2,0,0,0,0,0,0,0,rfl,?_,SlAt.nil,SlAt.nil,SlAt.nil,n,n,n,n⟩
  refine ⟨_,2,smS.cols.map colC,rfl,by decide,by unfold maxLen;omega,els_col _ _ _,fun _=>⟨w.heap.size,0,rfl,trivial,fun j cs hj i u hu=>?_⟩⟩
  rw[cell_row _ _ _ _ _ _ hcA]
  match j,hj with
  |
   0,hj =>
   simp only[smS,List.map_cons,List.getElem?_cons_zero,Option.some.injEq] at hj
   subst hj
   match i,hu with
   | 0,hu | 1,hu | 2,hu | 3,hu=>exact hu
  |
   1,hj =>
   simp only[smS,List.map_cons,List.getElem?_cons_succ,List.getElem?_cons_zero,Option.some.injEq] at hj
   subst hj
   match i,hu with
   | 0,hu | 1,hu | 2,hu | 3,hu=>exact hu
 have HMK:=hid (make_any (fun _=>True) smS _ W (hT.on hbW) (right_rgS (by decide)) hst)
 rw[sm_make] at HMK
 have k0:=cells14 hcB
 have HB:=hid hbW
 have HT:=hid hT
 have HL:=hid hL
 clear hT hL hbW hcA hcB hst
 go_enter Tryz.func9,Tryz.ntmps9
 go_wp2_with fail
 try rw[hW]
 refine HMK.out.mono ?_
 rintro e w1 ⟨ds,rfl,⟨a1,n1,c1,hds,hown⟩,hb1⟩
 obtain rfl:ds=[.string ⟨#[116]⟩,.slice a1 n1 c1,.int .i64 0]:=hds
 have hown':w1.ownsRow W.heap.size 37 4 (.slice a1 n1 c1) smT.cols.length (colsC smT.cols):=hown
 obtain⟨g,cg,hvg,hg1,hg2,hlcg,hgc⟩:=owned_form hown' (by decide)
 simp only[Value.slice.injEq] at hvg
 obtain⟨rfl,hn1,rfl⟩:=hvg
 obtain rfl:n1=2:=hn1
 have hs1:=hb1.size
 obtain⟨V,hV,hbV,hzV,hcV⟩:=box8 w1 (.cells #[.string ⟨#[116]⟩,.slice (some ⟨g,0,none⟩) 2 c1,.int .i64 0] 31)
 have hB1:=HB.out.trans (hb1.mono HB.out.size)
 have hBV:=hB1.trans (hbV.mono hB1.size)
 have htE:TbE (fun _=>True) V smT [.string ⟨#[116]⟩,.slice (some ⟨g,0,none⟩) 2 c1,.int .i64 0]:=⟨_,_,_,rfl,(owns_cols hown').to (T:=fun _=>True) (by decide) (R:=fun _=>False) (Spares.of_new hbV) (fun b _ _=>⟨id,trivial⟩) (fun _ _ e=>e)⟩
 have HSR:=hid (source_any (fun _=>True) smT _ V (HT.out.on hBV) ⟨by decide,by decide⟩ htE)
 rw[sm_src] at HSR
 dsimp only at HSR
 rw[sm_lit] at HSR
 have kV:=cells3f hcV
 have HSV:=hid (setCell_same kV.2.2.1)
 have HCV:=hid hcV
 have HBV:=hid hBV
 have HTE:=hid htE
 have HQ:Hid (∀Z,Below V.heap.size V Z→Z.cell? ⟨g,2,none⟩=some (.bool true)):=hid (fun Z hZ=>(hgc Z (hbV.trans (hZ.mono hbV.size))).1 0 ⟨[97],1,true,true⟩ rfl 2 _ rfl)
 clear hb1 hB1 hbV hBV hcV hown hown' htE hgc HMK hW k0
 go_wp2_with fail
 try rw[hV]
 try rw[HSV.out]
 refine HSR.out.mono ?_
 rintro e w2 ⟨rfl,hb2⟩
 have hB2:=HBV.out.trans (hb2.mono HBV.out.size)
 have HRD:=hid (read_any smX w2 (HT.out.on hB2) (HL.out.on hB2) (by decide))
 rw[sm_read,sm_lit] at HRD
 have HB2:=hid hB2
 have hs2:=hb2.size
 have HBV2:=hid hb2
 clear hb2 hB2 HSR hV
 go_wp2_with fail
 refine HRD.out.mono ?_
 rintro e w3 ⟨ds,rfl,hds,hb3⟩
 have hs3:=hb3.size
 have hdE:=hds.e
 obtain⟨a3,n3,c3,hds,_⟩:=hds
 obtain rfl:ds=[.string ⟨#[116]⟩,.slice a3 n3 c3,.int .i64 0]:=hds
 obtain⟨U,hU,hbU,hzU,hcU⟩:=box8 w3 (.cells #[.string ⟨#[116]⟩,.slice a3 n3 c3,.int .i64 0] 31)
 have hB3:=HB2.out.trans (hb3.mono HB2.out.size)
 have hBU:=hB3.trans (hbU.mono hB3.size)
 have hVU:=(HBV2.out.trans (hb3.mono HBV2.out.size)).trans (hbU.mono (HBV2.out.trans (hb3.mono HBV2.out.size)).size)
 have kU:=cells3f hcU
 have HSU:=hid (setCell_same kU.2.2.1)
 have kV2:=cells3f ((hVU.block w1.heap.size (by omega)).trans HCV.out)
 have q2:=HQ.out U hVU
 have HSM:=hid (sameTab_any (fun _=>True) (fun b=>w2.heap.size≤b) smT smT _ _ U (HTE.out.on hVU) (hdE.on hbU))
 rw[(sameT_iff smT smT).2 rfl] at HSM
 have HBU:=hid hBU
 clear hb3 hbU hcU hB3 hBU hVU hdE HRD kV
 go_wp2_with fail
 try rw[hU]
 try rw[HSU.out]
 refine HSM.out.mono ?_
 rintro e w4 ⟨rfl,hb4⟩
 have HB4:=hid (HBU.out.trans (hb4.mono HBU.out.size))
 clear hb4 HSM
 go_wp2
 go_ret
 exact⟨rfl,HB4.out⟩
end Go.Proofs.YtaaggohjmhifbaaGreatDoor
namespace Go.Proofs.YtaaggohjmhifbaaGreatDoor
open Go.ChangeShapes Go.WideShapes Go.RowKit
set_option linter.unusedSimpArgs false
set_option linter.unusedVariables false
set_option maxRecDepth 20000
set_option maxHeartbeats 8000000
theorem wf_ofX {n:Int} (h:(Lit.int .i64 n).wf=true):-9223372036854775808≤n∧n≤9223372036854775807:=by
 simpa [Lit.wf,IntKind.min,IntKind.max,IntKind.signed,IntKind.bits] using h
theorem Tryz.cInt:Tryz.prog.cellsOf 3=1:=by kernel_rfl
theorem Tryz.cStr:Tryz.prog.cellsOf 9=1:=by kernel_rfl
theorem Tryz.cBool:Tryz.prog.cellsOf 4=1:=by kernel_rfl
theorem Tryz.cColt:Tryz.prog.cellsOf 37=4:=by kernel_rfl
theorem Tryz.cColts:Tryz.prog.cellsOf 22=1:=by kernel_rfl
section
variable {H : Type} {enc : TypeId × Value → H} {w : World} {base : Nat} {held : Bool}
def Opn (enc:TypeId × Value→H) (w:World) (base:Nat) (held:Bool) {α:Type} (N:Nat) (t:TypeId) (z:Nat) (El:(Nat→Prop)→World→α→List Value→Prop) (Q:α→Prop):Prop :=
 ∀(fuel:Nat) (cs:List Value) (x:DataW H × List MemPlace),DataW.trod enc Tryz.prog w base (fun _=>true) held fuel t cs=some x→SizeOf.sizeOf x.1<N→∃a:α,cs.length=z∧El (fun b=>b<w.heap.size) w a cs∧Q a
theorem opn_sl {α:Type} [Inhabited α] {N:Nat} {t e:TypeId} {z:Nat} {El:(Nat→Prop)→World→α→List Value→Prop} {Q:α→Prop} (ht:Tryz.prog.underlying t=some (.slice e)) (hz:Tryz.prog.cellsOf e=z) (hz0:0<z) (hone:Opn enc w base held N e z El Q) (fuel:Nat) (v:Value) (x:DataW H × List MemPlace)
  (h:DataW.trod enc Tryz.prog w base (fun _=>true) held fuel t [v]=some x) (hN:SizeOf.sizeOf x.1≤N):∃(aa:Option Addr) (nn cc:Nat) (xs:List α),v = .slice aa nn cc∧SlAt z El (fun b=>b<w.heap.size) w xs (.slice aa nn cc)∧∀y∈xs,Q y:=by
 rcases Deep.open_slice ht h with⟨hcs,_⟩ | ⟨y,len,cap,m,n,D,Pl,hcs,_,hl,hm,hmm,hx,hr⟩
 ·simp only[List.cons.injEq,and_true] at hcs
  subst hcs
  exact⟨none,0,0,[],rfl,SlAt.nil,by simp⟩
 ·simp only[List.cons.injEq,and_true] at hcs
  subst hcs
  simp only[if_true] at hmm
  subst hmm
  have one : ∀i,i<len→∃q:α × List Value,w.cells? base (y.add (i*z)) z=some q.2∧q.2.length=z∧El (fun b=>b<w.heap.size) w q.1 q.2∧Q q.1:=fun i hi=>by
   obtain⟨cs,h1,h2⟩:=hr i (by omega)
   rw[hz] at h1
   have hsz:SizeOf.sizeOf (D i)<N:=by
    have hmem:D i∈(List.range len).map D:=List.mem_map.2 ⟨i,by simpa using hi,rfl⟩
    have h3:=List.sizeOf_lt_of_mem hmem
    rw[hx] at hN
    have h4:SizeOf.sizeOf (DataW.slice ((List.range len).map D) ((List.range (m-len)).map fun j=>D (len+j)):DataW H)=1+SizeOf.sizeOf ((List.range len).map D)+SizeOf.sizeOf ((List.range (m-len)).map fun j=>D (len+j)):=DataW.slice.sizeOf_spec _ _
    dsimp only at hN
    omega
   obtain⟨a,k1,k2,k3⟩:=hone n cs _ h2 hsz
   exact⟨(a,cs),h1,k1,k2,k3⟩
  haveI:Inhabited (α × List Value):=⟨(default,[])⟩
  obtain⟨f,hfr⟩:=Deep.choose_lt (α:=α × List Value) (p:=fun i q=>w.cells? base (y.add (i*z)) z=some q.2∧q.2.length=z∧El (fun b=>b<w.heap.size) w q.1 q.2∧Q q.1) one
  have hlen:((List.range len).map fun i=>(f i).1).length=len:=by simp
  refine ⟨some y,len,m,(List.range len).map fun i=>(f i).1,rfl,⟨some y,m,(List.range len).map fun i=>(f i).2,by rw[hlen],by rw[hlen];exact hl,hm,⟨by simp,fun j a cs ha hc=>?_⟩,fun hne=>?_⟩,fun z hz=>?_⟩
  ·have hj:j<len:=by have:=(List.getElem?_eq_some_iff.1 ha).1;simpa using this
   have e1:(f j).1=a:=by simpa [hj] using ha
   have e2:(f j).2=cs:=by simpa [hj] using hc
   rw[← e1,← e2]
   exact⟨(hfr j hj).2.1,(hfr j hj).2.2.1⟩
  ·have hpos:0<len:=by
    rcases Nat.eq_zero_or_pos len with e | e
    ·exact absurd (by rw[e];rfl) hne
    ·exact e
   obtain⟨b,off,spot⟩:=y
   have hcl:=fun i (hi:i<len)=>(World.cells?_some (hfr i hi).1).2.2
   have h0:w.cell? ((Addr.add ⟨b,off,spot⟩ (0*z)).add 0)=(f 0).2[0]?:=hcl 0 hpos 0 hz0
   have hlen0:=(hfr 0 hpos).2.1
   rw[List.getElem?_eq_getElem (by omega)] at h0
   have hspot:spot=none:=by simpa [Addr.add] using World.cell?_spot h0
   subst hspot
   simp only[Addr.add_lit] at h0
   refine ⟨b,off,rfl,World.block_lt_of_cell? w _ h0,fun j cs hc i u hu=>?_⟩
   have hj:j<len:=by have:=(List.getElem?_eq_some_iff.1 hc).1;simpa using this
   have e2:(f j).2=cs:=by simpa [hj] using hc
   have hi:i<z:=by
    have:=(List.getElem?_eq_some_iff.1 hu).1
    rw[← e2,(hfr j hj).2.1] at this
    exact this
   have hk:=hcl j hj i hi
   rw[e2,hu] at hk
   simp only[Addr.add_lit] at hk
   exact hk
  ·obtain⟨i,hi,rfl⟩:=List.mem_map.1 hz
   exact (hfr i (by simpa using hi)).2.2.2
instance:Inhabited Ex:=⟨zEx⟩
instance:Inhabited Vl:=⟨zV⟩
instance:Inhabited Co:=⟨⟨[],0,false,false⟩⟩
instance:Inhabited Se:=⟨⟨[],zEx⟩⟩
instance:Inhabited It:=⟨⟨0,[]⟩⟩
instance:Inhabited St:=⟨zSt 0⟩
theorem str_len (s:ByteArray) (h:s.size≤maxLen):s.data.toList.length≤9223372036854775807:=by
 have e:s.data.toList.length=s.size:=by rw[Array.length_toList];rfl
 rw[e]
 unfold maxLen at h
 omega
theorem opn_col (N:Nat):Opn enc w base held N 37 4 ColE (fun c=>c.nm.length≤9223372036854775807):=fun fuel cs x h hN=>by
 obtain⟨ys,n,_,rfl,hl,hlen,hf⟩:=DataW.trod_struct Tryz.underlying37 h
 rw[Tryz.cColt] at hl
 match cs,hl with
 |
  [c0,c1,c2,c3],_ =>
  match ys,hlen with
  |
   [y0,y1,y2,y3],_ =>
   have f0:DataW.trod enc Tryz.prog w base (fun _=>true) held n 9 [c0]=some y0:=by
    have g:=hf 0 _ rfl
    change DataW.trod enc Tryz.prog w base (fun _=>true) held n 9 (([c0,c1,c2,c3].drop 0).take (Tryz.prog.cellsOf 9))=some y0 at g
    rw[Tryz.cStr] at g
    exact g
   have f1:DataW.trod enc Tryz.prog w base (fun _=>true) held n 3 [c1]=some y1:=by
    have g:=hf 1 _ rfl
    change DataW.trod enc Tryz.prog w base (fun _=>true) held n 3 (([c0,c1,c2,c3].drop 1).take (Tryz.prog.cellsOf 3))=some y1 at g
    rw[Tryz.cInt] at g
    exact g
   have f2:DataW.trod enc Tryz.prog w base (fun _=>true) held n 4 [c2]=some y2:=by
    have g:=hf 2 _ rfl
    change DataW.trod enc Tryz.prog w base (fun _=>true) held n 4 (([c0,c1,c2,c3].drop 2).take (Tryz.prog.cellsOf 4))=some y2 at g
    rw[Tryz.cBool] at g
    exact g
   have f3:DataW.trod enc Tryz.prog w base (fun _=>true) held n 4 [c3]=some y3:=by
    have g:=hf 3 _ rfl
    change DataW.trod enc Tryz.prog w base (fun _=>true) held n 4 (([c0,c1,c2,c3].drop 3).take (Tryz.prog.cellsOf 4))=some y3 at g
    rw[Tryz.cBool] at g
    exact g
   obtain⟨s0,e0,d0,w0⟩:=DataW.trod_string Tryz.underlying9 f0
   obtain⟨k,e1,d1,w1⟩:=DataW.trod_int Tryz.underlying3 f1
   obtain⟨b2,e2,d2⟩:=DataW.trod_bool Tryz.underlying4 f2
   obtain⟨b3,e3,d3⟩:=DataW.trod_bool Tryz.underlying4 f3
   simp only[List.cons.injEq,and_true] at e0 e1 e2 e3
   subst e0 e1 e2 e3
   refine ⟨⟨s0.data.toList,k,b2,b3⟩,rfl,?_,str_len s0 w0⟩
   show _=_
   dsimp only
   rw[str8_of]
end
theorem Tryz.cTab:Tryz.prog.cellsOf 31=3:=by kernel_rfl
section
variable {H : Type} {enc : TypeId × Value → H} {w : World} {base : Nat} {held : Bool}
def RgTb (t:Tb):Prop:=RgT t∧-9223372036854775808≤t.pr∧t.pr≤9223372036854775807
theorem opn_tab (N:Nat):Opn enc w base held N 31 3 TbE RgTb:=fun fuel cs x h hN=>by
 obtain⟨ys,n,_,rfl,hl,hlen,hf⟩:=DataW.trod_struct Tryz.underlying31 h
 rw[Tryz.cTab] at hl
 match cs,hl with
 |
  [c0,c1,c2],_ =>
  match ys,hlen with
  |
   [y0,y1,y2],_ =>
   have f0:DataW.trod enc Tryz.prog w base (fun _=>true) held n 9 [c0]=some y0:=by
    have g:=hf 0 _ rfl
    change DataW.trod enc Tryz.prog w base (fun _=>true) held n 9 (([c0,c1,c2].drop 0).take (Tryz.prog.cellsOf 9))=some y0 at g
    rw[Tryz.cStr] at g
    exact g
   have f1:DataW.trod enc Tryz.prog w base (fun _=>true) held n 22 [c1]=some y1:=by
    have g:=hf 1 _ rfl
    change DataW.trod enc Tryz.prog w base (fun _=>true) held n 22 (([c0,c1,c2].drop 1).take (Tryz.prog.cellsOf 22))=some y1 at g
    rw[Tryz.cColts] at g
    exact g
   have f2:DataW.trod enc Tryz.prog w base (fun _=>true) held n 3 [c2]=some y2:=by
    have g:=hf 2 _ rfl
    change DataW.trod enc Tryz.prog w base (fun _=>true) held n 3 (([c0,c1,c2].drop 2).take (Tryz.prog.cellsOf 3))=some y2 at g
    rw[Tryz.cInt] at g
    exact g
   obtain⟨s0,e0,d0,w0⟩:=DataW.trod_string Tryz.underlying9 f0
   obtain⟨a1,n1,k1,xs1,e1,h1,r1⟩:=opn_sl (α:=Co) (N:=SizeOf.sizeOf y1.1) Tryz.underlying22 Tryz.cColt (by decide) (opn_col _) n _ _ f1 (Nat.le_refl _)
   obtain⟨k,e2,d2,w2⟩:=DataW.trod_int Tryz.underlying3 f2
   simp only[List.cons.injEq,and_true] at e0 e2
   subst e0 e1 e2
   refine ⟨⟨s0.data.toList,xs1,k⟩,rfl,⟨a1,n1,k1,?_,h1⟩,⟨str_len s0 w0,r1⟩,(wf_ofX w2).1,(wf_ofX w2).2⟩
   dsimp only
   rw[str8_of]
end
theorem Tryz.cAct11:Tryz.prog.cellsOf 50=5:=by kernel_rfl
section
variable {H : Type} {enc : TypeId × Value → H} {w : World} {base : Nat} {held : Bool}
def RgA (a:Ac):Prop:=RgTb a.t∧a.s.length≤9223372036854775807∧-9223372036854775808≤a.d∧a.d≤9223372036854775807
theorem opn_act (N:Nat):Opn enc w base held N 50 5 AcE RgA:=fun fuel cs x h hN=>by
 obtain⟨ys,n,_,rfl,hl,hlen,hf⟩:=DataW.trod_struct Tryz.underlying50 h
 rw[Tryz.cAct11] at hl
 match cs,hl with
 |
  [c0,c1,c2,c3,c4],_ =>
  match ys,hlen with
  |
   [y0,y1,y2],_ =>
   have f0:DataW.trod enc Tryz.prog w base (fun _=>true) held n 3 [c0]=some y0:=by
    have g:=hf 0 _ rfl
    change DataW.trod enc Tryz.prog w base (fun _=>true) held n 3 (([c0,c1,c2,c3,c4].drop 0).take (Tryz.prog.cellsOf 3))=some y0 at g
    rw[Tryz.cInt] at g
    exact g
   have f1:DataW.trod enc Tryz.prog w base (fun _=>true) held n 31 [c1,c2,c3]=some y1:=by
    have g:=hf 1 _ rfl
    change DataW.trod enc Tryz.prog w base (fun _=>true) held n 31 (([c0,c1,c2,c3,c4].drop 1).take (Tryz.prog.cellsOf 31))=some y1 at g
    rw[Tryz.cTab] at g
    exact g
   have f2:DataW.trod enc Tryz.prog w base (fun _=>true) held n 9 [c4]=some y2:=by
    have g:=hf 2 _ rfl
    change DataW.trod enc Tryz.prog w base (fun _=>true) held n 9 (([c0,c1,c2,c3,c4].drop 4).take (Tryz.prog.cellsOf 9))=some y2 at g
    rw[Tryz.cStr] at g
    exact g
   obtain⟨k,e0,d0,w0⟩:=DataW.trod_int Tryz.underlying3 f0
   obtain⟨t,_,h1,r1⟩:=opn_tab _ n _ _ f1 (Nat.lt_succ_self _)
   obtain⟨s2,e2,d2,w2⟩:=DataW.trod_string Tryz.underlying9 f2
   simp only[List.cons.injEq,and_true] at e0 e2
   subst e0 e2
   refine ⟨⟨k,t,s2.data.toList⟩,rfl,⟨[c1,c2,c3],?_,h1⟩,r1,str_len s2 w2,(wf_ofX w0).1,(wf_ofX w0).2⟩
   dsimp only
   rw[str8_of]
   rfl
theorem open_acts11 {b0:Nat} {v:Value} {d:DataW H} {ps:List MemPlace} (ho:Value.okWide Tryz.prog w .any b0 44 v) (hd:DataW.Trod enc Tryz.prog w base (fun _=>true) held 44 v d ps) :
  ∃l:List Ac,SlAt 5 AcE (fun b=>b<w.heap.size) w l v∧∀s∈l,RgA s:=by
 obtain⟨a,len,cap,rfl⟩:=okWide_slice Tryz.underlying44 ho
 obtain⟨fuel,hf⟩:=hd
 haveI:Inhabited Ac:=⟨⟨0,zTb,[]⟩⟩
 obtain⟨aa,nn,cc,xs,e,hsl,hR⟩:=opn_sl (α:=Ac) (N:=SizeOf.sizeOf d) Tryz.underlying44 Tryz.cAct11 (by decide) (opn_act _) fuel _ _ hf (Nat.le_refl _)
 rw[e]
 exact⟨xs,hsl,hR⟩
end
end Go.Proofs.YtaaggohjmhifbaaGreatDoor
namespace Go.Proofs.YtaaggohjmhifbaaGreatDoor
open Go.ChangeShapes Go.WideShapes Go.RowKit
set_option linter.unusedVariables false
set_option maxRecDepth 20000
set_option maxHeartbeats 8000000
abbrev laid10:List (String × DataW Unit):=[("math/bits.deBruijn32tab", Rows.laid_math_bits_deBruijn32tab),("math/bits.deBruijn64tab", Rows.laid_math_bits_deBruijn64tab),("internal/strconv.uint64pow10", Rows.laid_internal_strconv_uint64pow10),("unicode/utf8.acceptRanges", Rows.laid_unicode_utf8_acceptRanges),("strconv.ErrRange", Rows.laid_strconv_ErrRange),("strconv.ErrSyntax", Rows.laid_strconv_ErrSyntax),("unicode.White_Space", Rows.laid_unicode_White_Space),("strings.asciiSpace", Rows.laid_strings_asciiSpace),("vestry/printer.operators", Rows.laid_vestry_printer_operators),("unicode/utf8.first", Rows.laid_unicode_utf8_first)]
theorem laid10_plain {W:World} (h:laidMetH Tryz.prog laid10 W):laidMet Tryz.prog laid10 W:=by
 rwa [MakeChecks.laidMetH_plain _ _ _ (by kernel_rfl)] at h
theorem head_lt {W:World} {n:String} {d:DataW Unit} {r:List (String × DataW Unit)} {g:Nat} (h:laidMet Tryz.prog ((n,d)::r) W) (hg:Tryz.prog.globalNamed n=some g):g<W.heap.size:=by
 obtain⟨ps,⟨g1,t1,cs1,f1,p1,q1,hg1,ht1,hv1,hd1,_⟩,_⟩:=h
 obtain rfl:=Option.some.inj (hg.symm.trans hg1)
 unfold World.var? at hv1
 rw[hg1] at hv1
 simp only[Option.bind_some] at hv1
 rcases Nat.lt_or_ge g W.heap.size with h | h
 ·exact h
 ·rw[Array.getElem?_eq_none h] at hv1
  cases hv1
theorem pow_head {W:World} {r:List (String × DataW Unit)} (h:laidMet Tryz.prog (("internal/strconv.uint64pow10", Rows.laid_internal_strconv_uint64pow10)::r) W):Lib.TabIs Tryz.prog W "internal/strconv.uint64pow10" .u64 Lib.pow10Tab:=by
 obtain⟨ps,⟨g2,t2,cs2,f2,p2,q2,hg2,ht2,hv2,hd2,_⟩,_⟩:=h
 obtain rfl:=Option.some.inj ((show Tryz.prog.globalNamed "internal/strconv.uint64pow10" = some 4 by kernel_rfl).symm.trans hg2)
 obtain rfl:=Option.some.inj ((show (Tryz.prog.globals[4]?).map (·.type)=some 298 by kernel_rfl).symm.trans ht2)
 have e:=Lib.cells_of_tab (k:=.u64) (zs:=Lib.pow10Tab) Tryz.underlying298 Tryz.underlying185 (by kernel_rfl) (by kernel_rfl) hd2
 unfold Lib.TabIs
 rw[hv2]
 exact congrArg some (Array.ext' (by rw[e]))
theorem spc_head {W:World} {r:List (String × DataW Unit)} (h:laidMet Tryz.prog (("strings.asciiSpace", Rows.laid_strings_asciiSpace)::r) W):Lib.TabIs Tryz.prog W "strings.asciiSpace" .u8 Lib.asciiSpaceTab:=by
 obtain⟨ps,⟨g2,t2,cs2,f2,p2,q2,hg2,ht2,hv2,hd2,_⟩,_⟩:=h
 obtain rfl:=Option.some.inj ((show Tryz.prog.globalNamed "strings.asciiSpace" = some 1 by kernel_rfl).symm.trans hg2)
 obtain rfl:=Option.some.inj ((show (Tryz.prog.globals[1]?).map (·.type)=some 276 by kernel_rfl).symm.trans ht2)
 have hdd:(Rows.laid_strings_asciiSpace:DataW Unit)=Lib.tabData .u8 Lib.asciiSpaceTab:=by kernel_rfl
 rw[hdd] at hd2
 have e:=Lib.cells_of_tab (k:=.u8) (zs:=Lib.asciiSpaceTab) Tryz.underlying276 Tryz.underlying5 (by kernel_rfl) (by kernel_rfl) hd2
 unfold Lib.TabIs
 rw[hv2]
 exact congrArg some (Array.ext' (by rw[e]))
theorem Tryz.star : "*" ++ "errors.errorString" = "*errors.errorString" := by decide
theorem Tryz.rowErr (u:TypeId) (h:Tryz.prog.typeName? 3 u=some "*errors.errorString"):u=320 :=
 typeName_ptr_named (nm := "errors.errorString") (by rw[Tryz.star];kernel_rfl) (by kernel_rfl) (by decide) u (by rw[Tryz.star];exact h)
theorem rng_head {W:World} {r:List (String × DataW Unit)} (h:laidMet Tryz.prog (("strconv.ErrRange", Rows.laid_strconv_ErrRange)::r) W):∃ev,W.cell? ⟨6,0,none⟩=some ev∧(ev = .nilIface∨∃te pe,ev = .iface te pe):=by
 have hg:Tryz.prog.globalNamed "strconv.ErrRange" = some 6:=by kernel_rfl
 obtain⟨a0,s0,hv0,-,-,-⟩:=laid_sentinel h hg (by kernel_rfl) Tryz.underlying241 Tryz.rowErr Tryz.underlying320 Tryz.underlying322 rfl rfl Tryz.underlying9 (by kernel_rfl) (by kernel_rfl)
 exact⟨_,by have h0:=World.var?_cell hg hv0 0;simpa using h0,.inr ⟨_,_,rfl⟩⟩
theorem max_shaped {W:World} (hs:W.ShapedOpen Tryz.prog):∃m,W.cell? ⟨2,0,none⟩=some (.int .i64 m) :=
 cell_of_shapedOpen_int (P:=Tryz.prog) (zero:=#[.int .i64 0]) (t:=3) hs (by decide +kernel) (by kernel_rfl) rfl (by kernel_rfl) (by kernel_rfl) Tryz.underlying3
theorem Tryz.cOper:Tryz.prog.cellsOf 233=2:=by kernel_rfl
theorem Tryz.cIntT:Tryz.prog.cellsOf 3=1:=by kernel_rfl
theorem Tryz.cStrT:Tryz.prog.cellsOf 9=1:=by kernel_rfl
theorem oper_of_trod {H:Type} {enc:TypeId × Value→H} {W:World} {base:Nat} {spare:Nat→Bool} {held:Bool} {fuel:Nat} {cs:List Value} {ps:List MemPlace} {s:List UInt8} {n:Int} (h:DataW.trod enc Tryz.prog W base spare held fuel 233 cs=some (.agg [.lit (.string s),.lit (.int .i64 n)],ps)) :
  cs=[.string (str8 s),.int .i64 n]:=by
 obtain⟨ys,m,_,hx,hl,hlen,hf⟩:=DataW.trod_struct Tryz.underlying233 h
 rw[Tryz.cOper] at hl
 match cs,hl with
 |
  [c0,c1],_ =>
  match ys,hlen with
  |
   [y0,y1],_ =>
   have f0:DataW.trod enc Tryz.prog W base spare held m 9 [c0]=some y0:=by
    have g:=hf 0 _ rfl
    change DataW.trod enc Tryz.prog W base spare held m 9 (([c0,c1].drop 0).take (Tryz.prog.cellsOf 9))=some y0 at g
    rw[Tryz.cStrT] at g
    exact g
   have f1:DataW.trod enc Tryz.prog W base spare held m 3 [c1]=some y1:=by
    have g:=hf 1 _ rfl
    change DataW.trod enc Tryz.prog W base spare held m 3 (([c0,c1].drop 1).take (Tryz.prog.cellsOf 3))=some y1 at g
    rw[Tryz.cIntT] at g
    exact g
   obtain⟨s0,e0,d0,_⟩:=DataW.trod_string Tryz.underlying9 f0
   obtain⟨n0,e1,d1,_⟩:=DataW.trod_int Tryz.underlying3 f1
   subst d0 d1
   simp only[List.map_cons,List.map_nil,Prod.mk.injEq,DataW.agg.injEq,List.cons.injEq,DataW.lit.injEq,Lit.string.injEq,Lit.int.injEq,and_true,true_and] at hx
   obtain⟨⟨rfl,rfl⟩,_⟩:=hx
   simp only[List.cons.injEq,and_true] at e0 e1
   rw[e0,e1,str8_of]
def opD (t:List UInt8 × Nat):DataW Unit:=.agg [.lit (.string t.1),.lit (.int .i64 t.2)]
theorem drop_two {cs:List Value} {k:Nat} {a b:Value} (h:(cs.drop k).take 2=[a,b]):cs[k]?=some a∧cs[k+1]?=some b:=by
 have h0:((cs.drop k).take 2)[0]?=some a:=by rw[h];rfl
 have h1:((cs.drop k).take 2)[1]?=some b:=by rw[h];rfl
 rw[List.getElem?_take,if_pos (by decide),List.getElem?_drop] at h0 h1
 exact⟨by simpa using h0,h1⟩
theorem ops_head {W:World} {r:List (String × DataW Unit)} (h:laidMet Tryz.prog (("vestry/printer.operators", Rows.laid_vestry_printer_operators)::r) W):OpsAt W:=by
 obtain⟨ps,⟨g2,t2,cs2,f2,p2,q2,hg2,ht2,hv2,hd2,_⟩,_⟩:=h
 have hg:Tryz.prog.globalNamed "vestry/printer.operators" = some 0:=by kernel_rfl
 obtain rfl:=Option.some.inj (hg.symm.trans hg2)
 obtain rfl:=Option.some.inj ((show (Tryz.prog.globals[0]?).map (·.type)=some 234 by kernel_rfl).symm.trans ht2)
 obtain⟨xs,m,_,hx,hl,hlen,hf⟩:=DataW.trod_array Tryz.underlying234 hd2
 have hdd:(Rows.laid_vestry_printer_operators:DataW Unit) = .agg (opTab.map opD):=by kernel_rfl
 rw[hdd] at hx
 simp only[Prod.mk.injEq,DataW.agg.injEq] at hx
 intro o ho
 have hf':=hf o (by omega)
 rw[Tryz.cOper] at hf'
 have hxo:(xs.map (·.1))[o]?=(opTab.map opD)[o]?:=by rw[← hx.1]
 obtain⟨x,hxe⟩:∃x,xs[o]?=some x:=⟨_,List.getElem?_eq_getElem (by omega)⟩
 rw[hxe] at hf'
 rw[List.getElem?_map,hxe,List.getElem?_map] at hxo
 have hto:opTab[o]?=some (opTx (o:Int),opLv (o:Int)):=by
  have : ∀o:Fin 14,opTab[o.1]?=some (opTx (o.1:Int),opLv (o.1:Int)):=by decide
  exact this ⟨o,by omega⟩
 rw[hto] at hxo
 simp only[Option.map_some,Option.some.injEq] at hxo
 obtain⟨d,pl⟩:=x
 dsimp only at hxo
 subst hxo
 obtain⟨k0,k1⟩:=drop_two (oper_of_trod hf')
 have c0:=World.var?_cell hg hv2 (o*2)
 have c1:=World.var?_cell hg hv2 (o*2+1)
 rw[Array.getElem?_toList] at k0 k1
 exact⟨c0.trans k0,c1.trans k1⟩
theorem tabW10 {W:World} (h:laidMetH Tryz.prog laid10 W) (hs:W.ShapedOpen Tryz.prog):TabW W:=by
 have h':=laid10_plain h
 have hlt:10<W.heap.size:=head_lt (g:=10) h'.tail (by kernel_rfl)
 exact⟨⟨by omega,max_shaped hs,pow_head h'.tail.tail⟩,ops_head h'.tail.tail.tail.tail.tail.tail.tail.tail,hlt⟩
theorem tabL10 {W:World} (h:laidMetH Tryz.prog laid10 W) (hs:W.ShapedOpen Tryz.prog):TabL W:=by
 have h':=laid10_plain h
 have hlt:10<W.heap.size:=head_lt (g:=10) h'.tail (by kernel_rfl)
 exact⟨⟨by omega,max_shaped hs,pow_head h'.tail.tail⟩,by omega,spc_head h'.tail.tail.tail.tail.tail.tail.tail,rng_head h'.tail.tail.tail.tail⟩
end Go.Proofs.YtaaggohjmhifbaaGreatDoor
namespace Go.Proofs.YtaaggohjmhifbaaGreatDoor
open Go.RowKit Go.Shelf Go.Lib
set_option linter.unusedSimpArgs false
set_option linter.unusedVariables false
set_option maxRecDepth 20000
set_option maxHeartbeats 8000000
def AnsB (e:Ending):Prop:=∃b:Bool,e = .returned (.bool b)
theorem short_any (S:Nat→Prop) (t:Tb) (cs:List Value) (w:World) (h:TbE S w t cs) :
  Calls Tryz.prog 13 #[.agg cs.toArray] w fun e w'=>AnsB e∧Below w.heap.size w w':=by
 obtain⟨a1,n1,c1,rfl,hs⟩:=h
 have hn1:n1=t.cols.length:=by obtain⟨_,_,hf⟩:=hs.form;simp only[Value.slice.injEq] at hf;exact hf.2.1
 obtain⟨nm,xs,pr⟩:=t
 dsimp only at hs hn1 ⊢
 subst hn1
 obtain⟨W,hW,hbW,hzW,hcA⟩:=box8 w (.cells #[.string (str8 nm),.slice a1 xs.length c1,.int .i64 pr] 31)
 have kA:=cells3f hcA
 have HCA:=hid hcA
 have HB:=hid hbW
 by_cases hne:xs=[]
 ·subst hne
  simp only[List.length_nil] at hW kA
  clear hbW hcA hs HCA
  go_enter Tryz.func13,Tryz.ntmps13
  go_wp2_with fail
  try rw[hW]
  go_rounds 1
  go_ret
  exact⟨⟨_,rfl⟩,HB.out⟩
 ·obtain⟨b1,o1,d1,e1,hlc1,hcm1,_,hlt1,hel1⟩:=cols_at hs hne
  simp only[Value.slice.injEq] at e1
  obtain⟨rfl,_,rfl⟩:=e1
  unfold maxLen at hcm1
  have H1:=hid hel1
  clear hbW hcA hs hel1 hne
  go_enter Tryz.func13,Tryz.ntmps13
  go_wp2_with fail
  try rw[hW]
  clear hW kA
  go_loopw [3] (fun i wr=>∃k:Nat,k≤xs.length∧i = .int .i64 k∧Below W.heap.size W wr) (fun i _=>xs.length-(intOf i).toNat)
  case atStart=>exact⟨0,Nat.zero_le _,rfl,Below.refl _ _⟩
  case round =>
   obtain⟨j,hj,rfl,hbr⟩:=hrel
   have hsr:=hbr.size
   have kA:=cells3f ((hbr.block w.heap.size (by omega)).trans HCA.out)
   have hBR:=HB.out.trans (hbr.mono HB.out.size)
   have HBR:=hid hbr
   have HBRW:=hid hBR
   by_cases hlt:j<xs.length
   ·obtain⟨x,hx⟩:∃x,xs[j]?=some x:=⟨_,List.getElem?_eq_getElem hlt⟩
    have hlt':(j:Int)<(xs.length:Int):=by omega
    have p0:=H1.out wr hBR j x hx 0 _ rfl
    rw[Nat.add_zero] at p0
    clear hbr hBR hx
    by_cases q1:(4096:Int)<((str8 x.nm).size:Int)
    ·go_wp2
     go_ret
     exact⟨⟨_,rfl⟩,HBRW.out⟩
    ·by_cases q2:(40:Int)<(j:Int)
     ·go_wp2
      go_ret
      exact⟨⟨_,rfl⟩,HBRW.out⟩
     ·go_wp2
      go_roundw
      case rel=>exact⟨j+1,by omega,by go_num,HBR.out⟩
      case measure=>simp[intOf];omega
   ·have hlt' : ¬((j:Int)<(xs.length:Int)):=by omega
    clear hbr hBR
    go_wp2
    go_ret
    exact⟨⟨_,rfl⟩,HBRW.out⟩
end Go.Proofs.YtaaggohjmhifbaaGreatDoor
