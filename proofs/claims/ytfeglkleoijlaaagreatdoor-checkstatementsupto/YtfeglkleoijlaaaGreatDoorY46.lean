import Derived.Test.YtfeglkleoijlaaaGreatDoorY43
import Derived.Test.YtfeglkleoijlaaaGreatDoorY33
import Derived.Test.YtfeglkleoijlaaaGreatDoorY14
namespace Go.Proofs.YtfeglkleoijlaaaGreatDoor
open Go.RowKit Go.Shelf
set_option linter.unusedSimpArgs false
set_option linter.unusedVariables false
set_option maxRecDepth 20000
set_option maxHeartbeats 8000000
theorem Bp (T:Nat→Prop) (s:St) (sc:List Value) (w:World) (hs:fD T w s sc) (h7 : ∀i∈s.items,i.k≤7) :
  Calls Tryz.prog 76 #[.agg sc.toArray] w fun e w'=>e = .returned (.bool (cB s))∧Below w.heap.size w w':=by
 have hs0:=hs
 obtain⟨b1,b2,b3,b4,b5,b6,b7,b8,m1,m2,m3,m4,m5,m6,m7,m8,d1,d2,d3,d4,d5,d6,d7,d8,rfl,_⟩:=hs
 obtain⟨W,gI,hbW,aJ,hcW⟩:=aK w (.cells #[.int .i64 s.k,.string (aj s.tb),.slice b1 m1 d1,.string (aj s.aD),.slice b2 m2 d2,.slice b3 m3 d3,.slice b4 m4 d4,.string (aj s.jn),.slice b5 m5 d5,.slice b6 m6 d6,.slice b7 m7 d7,.slice b8 m8 d8,.bool s.desc,.int .i64 s.lim] 29)
 have k0:=au hcW
 have hsl:=fD.slices (hs0.to (T:=T) (R:=fun _=>False) (ak.aA hbW) (fun b hb _=>⟨id,hb⟩))
 have HIT:=hid hsl.1
 have Xi:m4=s.items.length:=by obtain⟨_,_,hf⟩:=hsl.1.form;simp only[aah] at hf;exact hf.2.1
 have TK:m7=s.gr.length:=by obtain⟨_,_,hf⟩:=hsl.2.2.2.1.form;simp only[aah] at hf;exact hf.2.1
 subst Xi TK
 have hil:s.items.length≤9223372036854775807:=by obtain⟨_,_,_,hf,h1,h2,_⟩:=id hsl.1;unfold maxLen at h2;omega
 have HB:=hid hbW
 obtain⟨R,hR⟩:∃R,cB s=R:=⟨_,rfl⟩
 rw[hR]
 have HR:Hid ((decide (0<s.gr.length)||s.items.any fun i=>decide (3≤i.k∧i.k≤7))=R):=hid hR
 have H7:=hid h7
 clear hbW hcW hs0 hsl hR h7
 go_enter Tryz.func76,Tryz.ntmps76
 go_wp2_with fail
 try rw[gI]
 go_wp2_with fail
 go_loopw [3] (fun i wr=>∃(m:Nat),m≤s.items.length∧i = .int .i64 m∧wr=W∧Hid (∀i∈s.items.take m,¬3≤i.k)) (fun i _=>s.items.length-(intOf i).toNat)
 case atStart=>exact⟨0,aaV _,rfl,rfl,hid (by simp)⟩
 case round =>
  obtain⟨m,hm,rfl,rfl,HM⟩:=hrel
  by_cases hlt:m<s.items.length
  ·obtain⟨x,hx⟩:∃x,s.items[m]?=some x:=⟨_,aaf hlt⟩
   have hlt':((m:Int)<(s.items.length:Int)):=by omega
   obtain⟨_,_,_,b,off,ds,rfl,_,hel,hcell⟩:=bC HIT.out hx
   obtain⟨aa,nn,cc,rfl,_⟩:=hel
   have q0:=hcell 0 _ rfl
   simp only[aa2] at q0
   have hxm:=aaP hx
   have hg:=aam.1 hx
   by_cases h3:3≤x.k
   ·have HE:Hid (R=true):=hid (by
     rw[← HR.out,Bool.or_eq_true]
     exact .inr (List.any_eq_true.2 ⟨x,hxm,aar ⟨h3,H7.out x hxm⟩⟩))
    clear hcell hx hxm hg HM
    go_wp2
    go_ret
    exact⟨by rw[HE.out];try rfl,HB.out⟩
   ·have TF:Hid (∀i∈s.items.take (m+1),¬3≤i.k):=hid (fun i hi=>by
     rw[aaJ hg.1,hg.2,List.mem_append,List.mem_singleton] at hi
     rcases hi with hi | rfl
     ·exact HM.out i hi
     ·exact h3)
    clear hcell hx hxm hg HM
    go_wp2
    go_roundw
    case rel=>exact⟨m+1,by omega,by go_num,trivial,TF⟩
    case measure=>simp[intOf];omega
  ·have hlt' : ¬((m:Int)<(s.items.length:Int)):=by omega
   have hno:(s.items.any fun i=>decide (3≤i.k∧i.k≤7))=false:=by
    cases h:(s.items.any fun i=>decide (3≤i.k∧i.k≤7)) with
    | false=>rfl
    |
     true =>
     obtain⟨i,hi,h2⟩:=List.any_eq_true.1 h
     have:=HM.out
     rw[aaU (by omega)] at this
     exact absurd (of_decide_eq_true h2).1 (this i hi)
   have hR2:=HR.out
   rw[hno,Bool.or_false] at hR2
   clear HM hno HR
   by_cases hg0:0<s.gr.length
   ·have hg1:(0:Int)<(s.gr.length:Int):=by omega
    rw[aar hg0] at hR2
    have HE:=hid hR2
    clear hR2 hg0
    go_wp2
    go_ret
    exact⟨by rw[← HE.out];first | rfl | (simp;omega) | (simp;exact aaR (by omega)),HB.out⟩
   ·have hg1 : ¬(0:Int)<(s.gr.length:Int):=by omega
    rw[aaj hg0] at hR2
    have HE:=hid hR2
    clear hR2 hg0
    go_wp2
    go_ret
    exact⟨by rw[← HE.out];first | rfl | (simp;omega) | (simp;exact aaR (by omega)),HB.out⟩
theorem Jk {L:List Tb} {x:Ex} (hr:aF x=true) (h0:(aI L x).2.2=0) (h2:fV (aI L x).1=2):∃n,(aI L x).1 = .mk 2 0 [] [] ⟨1,n,[]⟩ []:=by
 obtain⟨k,op,tb,nm,v,xs⟩:=x
 by_cases h1:k=1
 ·subst h1
  obtain⟨rfl,rfl,rfl,rfl,hv⟩:=uF hr
  rw[wR] at h2
  exact absurd (show (1:Int)=2 from h2) (by decide)
 ·by_cases hk:k=2
  ·subst hk
   obtain rfl:=(l8 hr).2.2.2.1 rfl
   rw[sN,G7] at h0 ⊢
   split
   ·exact⟨_,rfl⟩
   ·rename_i hn
    rw[if_neg hn] at h0
    exact absurd h0 hn
  ·rw[jF,if_neg h1,if_neg hk] at h0 h2
   split at h2
   ·exact absurd (show (0:Int)=2 from h2) (by decide)
   ·split at h2
    ·exact absurd h2 hk
    ·exact absurd (show (0:Int)=2 from h2) (by decide)
theorem Kh {L:List Tb} {x:Ex} (hr:aF x=true) (h0:(aI L x).2.2=0) (h2:fV x=2):∃n,(aI L x).1 = .mk 2 0 [] [] ⟨1,n,[]⟩ []:=by
 obtain⟨k,op,tb,nm,v,xs⟩:=x
 obtain rfl:k=2:=h2
 obtain rfl:=(l8 hr).2.2.2.1 rfl
 rw[sN,G7] at h0 ⊢
 split
 ·exact⟨_,rfl⟩
 ·rename_i hn
  rw[if_neg hn] at h0
  exact absurd h0 hn
theorem Gi (S:Nat→Prop) (X:Ex) (u:Value) (n:Int) (dR:Option Addr) (dY dP:Nat) (w:World) (hx:gH S w X u) (hX:fV X=2→∃q,X = .mk 2 0 [] [] ⟨1,q,[]⟩ []) (hy:bA S w [] (.slice dR dY dP)) :
  Calls Tryz.prog 125 #[u,.agg #[.int .i64 2,.int .i64 0,.string (aj []),.string (aj []),.int .i64 1,.int .i64 n,.string (aj []),.slice dR dY dP]] w fun e w'=>e = .returned (.bool (decide (fV X=2)&&eqv (valOf X) ⟨1,n,[]⟩))∧Below w.heap.size w w':=by
 by_cases hk:fV X=2
 ·obtain⟨q,rfl⟩:=hX hk
  obtain⟨k,op,tb,nm,vk,vn,vs,ys,aa,nn,cc,he,rfl,ha⟩:=hx
  obtain⟨rfl,rfl,rfl,rfl,Iq,rfl⟩:=Ex.mk.inj he
  simp only[Vl.mk.injEq] at Iq
  obtain⟨rfl,rfl,rfl⟩:=Iq
  show Calls _ _ _ _ fun e w'=>e = .returned (.bool (decide ((2:Int)=2)&&eqv ⟨1,q,[]⟩ ⟨1,n,[]⟩))∧_
  rw[aar rfl,aaA]
  by_cases hqn:q=n
  ·subst hqn
   rw[jB.2 rfl]
   exact uW 2 0 1 q [] [] [] aa dR nn dY cc dP w (fun V hV=>zo S S w [] _ ha V _ hV (hy.to (R:=fun _=>False) (ak.aA hV) (fun b hb _=>⟨id,hb⟩)))
  ·have he:eqv ⟨1,q,[]⟩ ⟨1,n,[]⟩=false:=by
    cases h:eqv ⟨1,q,[]⟩ ⟨1,n,[]⟩ with
    | false=>rfl
    | true=>exact absurd (by simpa using jB.1 h) hqn
   rw[he]
   have hq:=wC ⟨1,q,[]⟩ ⟨1,n,[]⟩
   rw[he] at hq
   dsimp only at hq
   have hgd:=Tryz.jV
   obtain⟨U,hU,bB,jc,hcA,hcB⟩:=two w (.cells #[.int .i64 2,.int .i64 0,.string (aj []),.string (aj []),.int .i64 1,.int .i64 q,.string (aj []),.slice aa nn cc] 48) (.cells #[.int .i64 2,.int .i64 0,.string (aj []),.string (aj []),.int .i64 1,.int .i64 n,.string (aj []),.slice dR dY dP] 48)
   have HB:=hid bB
   have kA:=aG hcA
   have kB:=aG hcB
   have e1:((aj []).toList==(aj []).toList)=true:=by simp
   clear bB hcA hcB he ha hy hqn hX hk
   go_enter Tryz.func125,Tryz.ntmps125
   go_wp2_with fail
   try rw[hU]
   go_wp2
   go_ret
   exact⟨by simp,HB.out⟩
 ·rw[aaj hk,aaz]
  obtain⟨k,op,tb,nm,vk,vn,vs,ys,aa,nn,cc,rfl,rfl,ha⟩:=hx
  have hk':(k==2)=false:=by rw[aai];exact hk
  obtain⟨U,hU,bB,jc,hcA,hcB⟩:=two w (.cells #[.int .i64 k,.int .i64 op,.string (aj tb),.string (aj nm),.int .i64 vk,.int .i64 vn,.string (aj vs),.slice aa nn cc] 48) (.cells #[.int .i64 2,.int .i64 0,.string (aj []),.string (aj []),.int .i64 1,.int .i64 n,.string (aj []),.slice dR dY dP] 48)
  have HB:=hid bB
  have kA:=aG hcA
  have kB:=aG hcB
  clear bB hcA hcB ha hy hX hk
  go_enter Tryz.func125,Tryz.ntmps125
  go_wp2_with fail
  try rw[hU]
  go_wp2
  go_ret
  exact⟨by simp,HB.out⟩
theorem zU (S T:Nat→Prop) (L:List Tb) (a:Ex) (gr:List Ex) (lv av gv:Value) (w:World) (hl:aM 3 fG S w L lv) (ha:gH T w a av) (hg:aM 8 jl T w gr gv) (hK : ∀t∈L,mR t) (hn:L.length≤100) (hra:aF a=true) (h0:(aI L a).2.2=0) (h1:gr.length≤1) (hgr : ∀g∈gr,aF g=true∧fV g=2∧(aI L g).2.2=0) :
  Calls Tryz.prog 77 #[lv,av,gv] w fun e w'=>e = .returned (.bool (wM L gr (aI L a).1))∧Below w.heap.size w w':=by
 have ha0:=ha
 obtain⟨k1,op1,dN,fU,fJ,fI,vs1,ys1,eD,dF,eB,_,rfl,_⟩:=ha
 obtain⟨W,gI,hbW,aJ,hcW⟩:=aK w (.cells #[.int .i64 k1,.int .i64 op1,.string (aj dN),.string (aj fU),.int .i64 fJ,.int .i64 fI,.string (aj vs1),.slice eD dF eB] 48)
 have k0:=aG hcW
 have HB:=hid hbW
 match gr,h1 with
 |
  [],_ =>
  obtain⟨ga,gc,rfl⟩:=hg.form
  obtain⟨la,lc,rfl⟩:=hl.form
  have hi:wM L [] (aI L a).1=false:=rfl
  rw[hi]
  clear hbW hcW hl ha0 hg hgr h0 hra
  go_enter Tryz.func77,Tryz.ntmps77
  go_wp2_with fail
  try rw[gI]
  go_wp2
  go_ret
  exact⟨rfl,HB.out⟩
 |
  [g],_ =>
  obtain⟨SS,W9,UJ⟩:=hgr g (by simp)
  obtain⟨ga,gc,rfl⟩:=hg.form
  obtain⟨_,_,_,b,off,ds,rfl,_,hel,hcell⟩:=bC hg (j:=0) (x:=g) rfl
  have eO:=hel.v
  obtain⟨k3,op3,Ry,nm3,vk3,vn3,vs3,ys3,aa3,nn3,cc3,_,rfl,_⟩:=hel
  simp only[Nat.zero_mul,aa2] at hcell
  have hbl:b<w.heap.size:=World.block_lt_of_cell? w _ (hcell 0 _ rfl)
  have HQ:Hid (∀V,Below w.heap.size w V→V.cell? ⟨b,off,none⟩=some (.int .i64 k3)∧V.cell? ⟨b,off+1,none⟩=some (.int .i64 op3)∧V.cell? ⟨b,off+2,none⟩=some (.string (aj Ry))∧V.cell? ⟨b,off+3,none⟩=some (.string (aj nm3))∧V.cell? ⟨b,off+4,none⟩=some (.int .i64 vk3)∧V.cell? ⟨b,off+5,none⟩=some (.int .i64 vn3)∧V.cell? ⟨b,off+6,none⟩=some (.string (aj vs3))∧V.cell? ⟨b,off+7,none⟩=some (.slice aa3 nn3 cc3)):=hid (fun V hV =>
   have g : ∀i u,([.int .i64 k3,.int .i64 op3,.string (aj Ry),.string (aj nm3),.int .i64 vk3,.int .i64 vn3,.string (aj vs3),.slice aa3 nn3 cc3]:List Value)[i]?=some u→V.cell? ⟨b,off+i,none⟩=some u:=fun i u hu=>(hV.cell (p:=⟨b,_,none⟩) hbl).trans (hcell i u hu)
   ⟨g 0 _ rfl,g 1 _ rfl,g 2 _ rfl,g 3 _ rfl,g 4 _ rfl,g 5 _ rfl,g 6 _ rfl,g 7 _ rfl⟩)
  have AB:Hid (∀V,Below w.heap.size w V→aM 3 fG S V L lv):=hid (fun V hV=>hl.to (by decide) (R:=fun _=>False) (ak.aA hV) (fun b hb _=>⟨id,hb⟩) (fun _ _ e=>e.on hV))
  have HB1:=hid (jU S T L a lv _ W hra (ha0.new hbW) (AB.out W hbW) hK hn)
  have HB2:=hid (fun (V:World) (hV:Below w.heap.size w V)=>jU S T L g lv _ V SS (eO.new hV) (AB.out V hV) hK hn)
  obtain⟨n,hng⟩:=Kh SS UJ W9
  have hi:wM L [g] (aI L a).1=(decide (fV (aI L a).1=2)&&eqv (valOf (aI L a).1) ⟨1,n,[]⟩):=by
   unfold wM
   rw[show (([g]:List Ex).headD tO)=g from rfl,hng]
   rfl
  have HX:Hid (fV (aI L a).1=2→∃q,(aI L a).1 = .mk 2 0 [] [] ⟨1,q,[]⟩ []):=hid (fun h=>Jk hra h0 h)
  rw[hi]
  rw[hng] at HB2
  obtain⟨la,lc,rfl⟩:=hl.form
  generalize (aI L g).2.1=kg at HB2
  rw[UJ] at HB2
  rw[h0] at HB1
  generalize (aI L a).1=X at HB1 HX ⊢
  generalize (aI L a).2.1=ka at HB1
  have hone:((([g]:List Ex).length:Int)==0)=false:=rfl
  clear hbW hcW ha0 hcell eO hg hgr h0 hra hl SS W9 UJ hng hi
  go_enter Tryz.func77,Tryz.ntmps77
  go_wp2_with fail
  try rw[gI]
  go_wp2_with fail
  refine HB1.out.mono ?_
  rintro e w1 ⟨u,rfl,hxu,hb1⟩
  have Qp:=hxu
  obtain⟨k2,op2,bX,eH,dS,dU,vs2,ys2,dR,dY,dP,gT,rfl,_⟩:=hxu
  clear gT
  obtain⟨Y,hY,bV,kL,dJ⟩:=aK w1 (.cells #[.int .i64 k2,.int .i64 op2,.string (aj bX),.string (aj eH),.int .i64 dS,.int .i64 dU,.string (aj vs2),.slice dR dY dP] 48)
  have RF:=HB.out.trans ((hb1.trans (bV.mono hb1.size)).mono HB.out.size)
  have SY:=hid (Qp.new bV)
  have bZ:=hid RF
  have Fy:=hid dJ
  have jr:=hid (HB2.out Y RF)
  have q:=HQ.out Y RF
  clear hb1 bV dJ Qp RF HB1 HB2 k0
  go_wp2_with (first | (refine eX hY ?_;clear hY) | fail)
  refine jr.out.mono ?_
  rintro e w3 ⟨u,rfl,hxu,hb3⟩
  obtain⟨k4,op4,tb4,nm4,ZV,vn4,vs4,ys4,aa4,nn4,cc4,he4,rfl,ha4⟩:=hxu
  obtain⟨rfl,rfl,rfl,rfl,Iq,rfl⟩:=Ex.mk.inj he4
  simp only[Vl.mk.injEq] at Iq
  obtain⟨rfl,rfl,rfl⟩:=Iq
  obtain⟨Z,hZ,o8,VD,wB⟩:=aK w3 (.cells #[.int .i64 2,.int .i64 0,.string (aj []),.string (aj []),.int .i64 1,.int .i64 n,.string (aj []),.slice aa4 nn4 cc4] 48)
  have JM:=hb3.trans (o8.mono hb3.size)
  have kZ:=aG wB
  have kY:=aG ((JM.block w1.heap.size kL).trans Fy.out)
  have IC:=hid (Gi (fun _=>True) X _ n aa4 nn4 cc4 Z ((SY.out.new JM).to (R:=fun _=>False) (ak.refl _ _) (fun b hb _=>⟨id,trivial⟩)) HX.out ((ha4.to (T:=fun _=>True) (R:=fun _=>False) (ak.aA o8) (fun b hb _=>⟨id,trivial⟩))))
  have lJ:=htr bZ JM
  clear hb3 o8 wB JM ha4 jr Fy q
  go_wp2_with (first | (refine eX hZ ?_;clear hZ) | fail)
  refine IC.out.mono ?_
  rintro e w5 ⟨rfl,hb5⟩
  have iC:=htr lJ hb5
  clear hb5 IC
  go_wp2
  go_ret
  exact⟨rfl,iC.out⟩
end Go.Proofs.YtfeglkleoijlaaaGreatDoor
