import Derived.Test.YtfeglkleoijlaaaGreatDoorY46
import Derived.Test.YtfeglkleoijlaaaGreatDoorY44
import Derived.Test.YtfeglkleoijlaaaGreatDoorY35
namespace Go.Proofs.YtfeglkleoijlaaaGreatDoor
open Go.RowKit Go.Shelf
set_option linter.unusedSimpArgs false
set_option linter.unusedVariables false
set_option maxRecDepth 20000
set_option maxHeartbeats 8000000
structure Rp (s:St):Prop where
 n8:s.items.length≤8
 it : ∀i∈s.items,oQ i=true
 wh:s.wh.length≤1∧∀x∈s.wh,aF x=true
 gr:s.gr.length≤1∧∀x∈s.gr,aF x=true∧fV x=2
 od:s.od.length≤1∧∀x∈s.od,aF x=true
theorem RZ {i:It} (h:oQ i=true):i.k≤7∧((i.k=1∨i.k=3)∧i.xs=[]∨(i.k=2∨i.k=4∨i.k=5∨i.k=6∨i.k=7)∧∃e,i.xs=[e]∧aF e=true):=by
 unfold oQ at h
 split at h
 ·rename_i hk
  exact⟨by omega,.inl ⟨hk,aaR (by simpa using h)⟩⟩
 ·split at h
  ·rename_i hk
   have hl:=bG h
   have hm:=aP h
   match hx:i.xs,hl with
   | [e],_=>exact⟨by omega,.inr ⟨hk,e,rfl,hm e (by rw[hx];simp)⟩⟩
   | [],hl=>simp at hl
   | _::_::_,hl=>simp at hl
  ·cases h
def OH (L:List Tb) (s:St):Int :=
 if aO (s.gr.map fun e=>(aI L e).2.2)≠0 then aO (s.gr.map fun e=>(aI L e).2.2)
 else if aO (s.items.map (iQ L s))≠0 then aO (s.items.map (iQ L s))
 else if aO (s.od.map (lX L s))≠0 then aO (s.od.map (lX L s))
 else if cB s=false∧8<dD L s.items then 4 else 0
def Gg (L:List Tb) (s:St):Int:=if fE L s.wh≠0 then fE L s.wh else OH L s
theorem MQ (L:List Tb) (s:St):Nh L s=if fE L s.on≠0 then fE L s.on else Gg L s:=by
 unfold Nh Gg OH fE
 rw[List.map_append,qQ]
 by_cases h:aO (s.on.map (sS L))≠0
 ·rw[if_pos h,if_pos h,if_pos h]
 ·rw[if_neg h,if_neg h]
theorem Jw {f:Ex→Int} {es:List Ex} (h:es.length≤1):aO (es.map f)=match es with | []=>0 | e::_=>f e:=by
 match es,h with
 | [],_=>rfl
 |
  [e],_ =>
  show aO [f e]=f e
  rw[aO]
  by_cases hc:f e≠0
  ·rw[if_pos hc]
  ·rw[if_neg hc];simp only[ne_eq,Decidable.not_not] at hc;rw[hc];rfl
theorem uD {f:Ex→Int} (e:Ex):aO ([e].map f)=f e:=Jw (es:=[e]) (by simp)
theorem EX {L:List Tb} {m:Nat} {t:Tb} (h:L[m]?=some t):fu (L.take (m+1))=fu (L.take m)+t.aC.length:=by
 obtain⟨h1,h2⟩:=aam.1 h
 unfold fu
 rw[aaJ h1,h2,List.map_append,List.sum_append]
 simp
theorem Ah {L:List Tb} (hK : ∀t∈L,mR t):fu L≤8*L.length:=by
 induction L with
 | nil=>simp[fu]
 |
  cons t L ih =>
  have:=ih (fun u hu=>hK u (List.mem_cons_of_mem _ hu))
  have h8:=(hK t (List.mem_cons_self ..)).2.1
  unfold fu at this ⊢
  rw[List.map_cons,List.sum_cons,aa1]
  omega
theorem Cu {L:List Tb} {is:List It} {m:Nat} {x:It} (h:is[m]?=some x):dD L (is.take (m+1))=dD L (is.take m)+if x.k=1 then fu L else 1:=by
 obtain⟨h1,h2⟩:=aam.1 h
 unfold dD
 rw[aaJ h1,h2,List.map_append,List.sum_append]
 simp
theorem xw {L:List Tb} {is:List It} {c:Nat} (hc:fu L≤c):dD L is≤(c+1)*is.length:=by
 induction is with
 | nil=>simp[dD]
 |
  cons x is ih =>
  unfold dD at ih ⊢
  rw[List.map_cons,List.sum_cons,aa1,Nat.mul_succ]
  split<;>omega
theorem NR {L:List Tb} {s:St} {x:It} {e:Ex} (hx:x.xs=[e]) (h1:x.k≠1):iQ L s x=zR L s x e:=by
 unfold iQ
 rw[if_neg (fun h=>h1 h.1),hx,uD]
theorem EH (S T:Nat→Prop) (L:List Tb) (s:St) (lv:Value) (sc:List Value) (w:World) (hl:aM 3 fG S w L lv) (hs:fD T w s sc) (hK : ∀t∈L,mR t) (hn:L.length≤100) (hO:Rp s) :
  Calls Tryz.prog 33 #[lv,.agg sc.toArray] w fun e w'=>e = .returned (.int .i64 (Gg L s))∧Below w.heap.size w w':=by
 have hs0:=hs
 obtain⟨b1,b2,b3,b4,b5,b6,b7,b8,m1,m2,m3,m4,m5,m6,m7,m8,d1,d2,d3,d4,d5,d6,d7,d8,rfl,_⟩:=hs
 obtain⟨W,gI,hbW,aJ,hcW⟩:=aK w (.cells #[.int .i64 s.k,.string (aj s.tb),.slice b1 m1 d1,.string (aj s.aD),.slice b2 m2 d2,.slice b3 m3 d3,.slice b4 m4 d4,.string (aj s.jn),.slice b5 m5 d5,.slice b6 m6 d6,.slice b7 m7 d7,.slice b8 m8 d8,.bool s.desc,.int .i64 s.lim] 29)
 have HST:Hid (∀V,Below W.heap.size W V→fD T V s [.int .i64 s.k,.string (aj s.tb),.slice b1 m1 d1,.string (aj s.aD),.slice b2 m2 d2,.slice b3 m3 d3,.slice b4 m4 d4,.string (aj s.jn),.slice b5 m5 d5,.slice b6 m6 d6,.slice b7 m7 d7,.slice b8 m8 d8,.bool s.desc,.int .i64 s.lim]):=hid (fun V hV=>hs0.to (R:=fun _=>False) (ak.aA (hbW.trans (hV.mono hbW.size))) (fun b hb _=>⟨id,hb⟩))
 have AB:Hid (∀V,Below W.heap.size W V→aM 3 fG S V L lv):=hid (fun V hV=>hl.to (by decide) (R:=fun _=>False) (ak.aA (hbW.trans (hV.mono hbW.size))) (fun b hb _=>⟨id,hb⟩) (fun _ _ e=>e.on (hbW.trans (hV.mono hbW.size))))
 obtain⟨s4,_,s6,s7,s8⟩:=fD.slices hs0
 have Xi:m4=s.items.length:=by obtain⟨_,_,hf⟩:=s4.form;simp only[aah] at hf;exact hf.2.1
 have TK:m7=s.gr.length:=by obtain⟨_,_,hf⟩:=s7.form;simp only[aah] at hf;exact hf.2.1
 have hm8:m8=s.od.length:=by obtain⟨_,_,hf⟩:=s8.form;simp only[aah] at hf;exact hf.2.1
 subst Xi
 have HM7:=hid TK
 have HM8:=hid hm8
 clear TK hm8
 have hil:=hO.n8
 have dw:Hid (∀V,Below W.heap.size W V→V.heap[w.heap.size]?=some (.cells #[.int .i64 s.k,.string (aj s.tb),.slice b1 m1 d1,.string (aj s.aD),.slice b2 m2 d2,.slice b3 m3 d3,.slice b4 s.items.length d4,.string (aj s.jn),.slice b5 m5 d5,.slice b6 m6 d6,.slice b7 m7 d7,.slice b8 m8 d8,.bool s.desc,.int .i64 s.lim] 29)):=hid (fun V hV=>(hV.block w.heap.size aJ).trans hcW)
 have k0:=au (dw.out W (Below.refl _ W))
 have HB:=hid hbW
 have HG:=hid (Bp T s _ W (HST.out W (Below.refl _ W)) (fun i hi=>(RZ (hO.it i hi)).1))
 have HO:=hid hO
 have HK:=hid hK
 obtain⟨la,lc,rfl⟩:=hl.form
 have hcl:=Ah hK
 obtain⟨R,hR⟩:∃R,Gg L s=R:=⟨_,rfl⟩
 rw[hR]
 have HR:=hid hR
 obtain⟨gb,hgb⟩:∃gb,cB s=gb:=⟨_,rfl⟩
 rw[hgb] at HG
 have XI:=hid hgb
 clear hbW hcW hs0 s4 s6 s7 s8 hl hO hK hR hgb
 go_enter Tryz.func33,Tryz.ntmps33
 go_wp2_with fail
 try rw[gI]
 go_wp2_with fail
 refine HG.out.mono ?_
 rintro e w1 ⟨rfl,hb1⟩
 have HB1:=hid hb1
 have k1:=au (dw.out w1 hb1)
 have HW:=hid (ow S T L s.wh (.slice la L.length lc) (.slice b6 m6 d6) w1 HO.out.wh.1 HO.out.wh.2 (fD.slices (HST.out w1 hb1)).2.2.1 (AB.out w1 hb1) HK.out hn)
 obtain⟨cw,hcw⟩:∃c,fE L s.wh=c:=⟨_,rfl⟩
 rw[hcw] at HW
 have rJ:=hid hcw
 clear hb1 HG hcw k0
 go_wp2_with fail
 refine HW.out.mono ?_
 rintro e w2 ⟨rfl,hb2⟩
 have hb2':=HB1.out.trans (hb2.mono HB1.out.size)
 have HB2:=hid hb2'
 have k2:=au (dw.out w2 hb2')
 clear hb2 hb2' HW k1
 by_cases Pn:cw=0
 ·subst Pn
  have HR2:Hid (OH L s=R):=hid (by rw[← HR.out];unfold Gg;rw[if_neg (fun h=>h rJ.out)])
  clear HR rJ
  go_upto_if 27 with fail
  go_cut [6] from 28 (fun _ wx=>Hid (Below W.heap.size W wx)∧Hid (∀g∈s.gr,(aI L g).2.2=0))
  case first =>
   match hgr:s.gr,HO.out.gr.1 with
   |
    [],_ =>
    obtain rfl:m7=0:=by rw[HM7.out,hgr];rfl
    have Tx:Hid (∀g∈s.gr,(aI L g).2.2=0):=hid (fun g hg=>by rw[hgr] at hg;cases hg)
    clear hgr
    go_wp2_with fail
    go_meet
    case rel=>exact⟨HB2,by first | exact Tx | (rw[hgr];exact hid (fun g hg=>by cases hg))⟩
   |
    [g],_ =>
    obtain rfl:m7=1:=by rw[HM7.out,hgr];rfl
    have hgx:=(HO.out.gr.2 g (by rw[hgr];simp)).1
    obtain⟨hnv,hpv,_,bv,ov,dsv,aa5,_,WH,AY⟩:=bC ((fD.slices (HST.out w2 HB2.out)).2.2.2.1) (j:=0) (x:=g) (by rw[hgr];rfl)
    have RS:=WH.v
    obtain⟨kav,opv,tbv,nmv,vkv,vnv,vsv,ysv,aav,nnv,ccv,_,rfl,_⟩:=WH
    simp only[Nat.zero_mul,aa2] at AY
    have abk:bv<w2.heap.size:=World.block_lt_of_cell? w2 _ (AY 0 _ rfl)
    have HQv:Hid (∀V,Below w2.heap.size w2 V→gH T V g (.agg #[.int .i64 kav,.int .i64 opv,.string (aj tbv),.string (aj nmv),.int .i64 vkv,.int .i64 vnv,.string (aj vsv),.slice aav nnv ccv])∧V.cell? ⟨bv,ov,none⟩=some (.int .i64 kav)∧V.cell? ⟨bv,ov+1,none⟩=some (.int .i64 opv)∧V.cell? ⟨bv,ov+2,none⟩=some (.string (aj tbv))∧V.cell? ⟨bv,ov+3,none⟩=some (.string (aj nmv))∧V.cell? ⟨bv,ov+4,none⟩=some (.int .i64 vkv)∧V.cell? ⟨bv,ov+5,none⟩=some (.int .i64 vnv)∧V.cell? ⟨bv,ov+6,none⟩=some (.string (aj vsv))∧V.cell? ⟨bv,ov+7,none⟩=some (.slice aav nnv ccv)):=hid (fun V hV =>
     have g : ∀i u,([.int .i64 kav,.int .i64 opv,.string (aj tbv),.string (aj nmv),.int .i64 vkv,.int .i64 vnv,.string (aj vsv),.slice aav nnv ccv]:List Value)[i]?=some u→V.cell? ⟨bv,ov+i,none⟩=some u:=fun i u hu=>(hV.cell (p:=⟨bv,_,none⟩) abk).trans (AY i u hu)
     ⟨RS.new hV,g 0 _ rfl,g 1 _ rfl,g 2 _ rfl,g 3 _ rfl,g 4 _ rfl,g 5 _ rfl,g 6 _ rfl,g 7 _ rfl⟩)
    clear AY RS hnv hpv
    have e7:b7=some ⟨bv,ov,none⟩:=aa5
    subst e7
    have qv:=HQv.out w2 (Below.refl _ w2)
    have HC:=hid (jU S T L g _ _ w2 hgx qv.1 (AB.out w2 HB2.out) HK.out hn)
    have hR2:=HR2.out
    unfold OH at hR2
    have hf1:aO (s.gr.map fun e=>(aI L e).2.2)=(aI L g).2.2:=by rw[hgr];exact uD g
    rw[hf1] at hR2
    obtain⟨cg,hcg⟩:∃c,(aI L g).2.2=c:=⟨_,rfl⟩
    rw[hcg] at hR2 HC
    have SE:Hid (cg=0→∀g∈s.gr,(aI L g).2.2=0):=hid (fun h x hx=>by rw[hgr] at hx;simp only[List.mem_singleton] at hx;rw[hx,hcg];exact h)
    have Ul:=hid hR2
    clear hR2 hf1 hcg hgr hgx HR2
    go_wp2_with fail
    refine HC.out.mono ?_
    rintro e wg ⟨u,rfl,_,hbg⟩
    have HB3:=htr HB2 hbg
    clear hbg HC k2 qv HQv
    by_cases hg0:cg=0
    ·subst hg0
     have Tx:=hid (SE.out rfl)
     clear SE Ul
     go_wp2_with fail
     go_meet
     case rel=>exact⟨HB3,Tx⟩
    ·have hg1:(cg != 0)=true:=by simpa using hg0
     have HE:Hid (R=cg):=hid (by have:=Ul.out;rw[if_pos hg0] at this;exact this.symm)
     have iC:=hid (HB.out.trans (HB3.out.mono HB.out.size))
     clear hg0 SE Ul
     go_wp2_with fail
     go_ret
     exact⟨by rw[HE.out];try rfl,iC.out⟩
  case rest =>
   obtain⟨HB3,Tx⟩:=hcut
   have HR3:Hid ((if aO (s.items.map (iQ L s))≠0 then aO (s.items.map (iQ L s)) else if aO (s.od.map (lX L s))≠0 then aO (s.od.map (lX L s)) else if cB s=false∧8<dD L s.items then 4 else 0)=R):=hid (by have:=HR2.out;unfold OH at this;rwa [if_neg (fun h=>h (fq.2 (fun c hc=>by obtain⟨g,hg,rfl⟩:=List.mem_map.1 hc;exact Tx.out g hg)))] at this)
   obtain⟨wg,hwg⟩:∃wg,wg=wc:=⟨_,rfl⟩
   rw[← hwg] at HB3 ⊢
   have k3:=au (dw.out wg HB3.out)
   clear HR2 HB2 hwg k2
   go_wp2_with fail
   go_loopw [7,8] (fun a i wr=>∃(m:Nat),m≤L.length∧i = .int .i64 m∧a = .int .i64 (fu (L.take m):Nat)∧wr=wg) (fun _ i _=>L.length-(intOf i).toNat)
   case atStart=>exact⟨0,aaV _,rfl,rfl,rfl⟩
   case round =>
    obtain⟨m,hm,rfl,rfl,hwr⟩:=hrel
    obtain rfl:wg=wr:=hwr.symm
    by_cases hlt:m<L.length
    ·obtain⟨t,ht⟩:∃t,L[m]?=some t:=⟨_,aaf hlt⟩
     have hlt':((m:Int)<(L.length:Int)):=by omega
     obtain⟨_,_,_,b,off,cs,rfl,_,hel,hcell⟩:=bC (AB.out wg HB3.out) ht
     obtain⟨ab,nb,cb,rfl,hsl⟩:=hel
     have q1:=hcell 1 _ rfl
     have hnb:nb=t.aC.length:=by obtain⟨_,_,hf⟩:=hsl.form;simp only[aah] at hf;exact hf.2.1
     subst hnb
     have hct:=EX ht
     have h8:=(HK.out t (aaP ht)).2.1
     have hcm:=Ah (L:=L.take m) (fun u hu=>HK.out u (List.mem_of_mem_take hu))
     rw[List.length_take] at hcm
     have hw3:IntKind.i64.wrap ((fu (L.take m):Int)+(t.aC.length:Int))=(fu (L.take m):Int)+(t.aC.length:Int):=rD _ (by omega) (by omega)
     have Gt:Hid ((fu (L.take m):Int)+(t.aC.length:Int)=((fu (L.take (m+1)):Nat):Int)):=hid (by rw[hct];omega)
     clear hcell hsl ht hcm hct
     go_wp2
     go_roundw
     case rel=>exact⟨m+1,by omega,by go_num,(by first | exact congrArg _ Gt.out | rw[← Gt.out]),(by first | rfl | trivial)⟩
     case measure=>simp[intOf];omega
    ·have hlt' : ¬((m:Int)<(L.length:Int)):=by omega
     obtain rfl:m=L.length:=by omega
     rw[List.take_length]
     clear hlt
     go_wp2_with fail
     go_loopw [9,10,11,12,13,14] (fun n i _ _ _ _ wr=>∃(m:Nat),m≤s.items.length∧i = .int .i64 m∧n = .int .i64 (dD L (s.items.take m):Nat)∧Hid (Below W.heap.size W wr)∧Hid (∀c∈(s.items.map (iQ L s)).take m,c=0)) (fun _ i _ _ _ _ _=>s.items.length-(intOf i).toNat)
     case atStart=>exact⟨0,aaV _,rfl,rfl,HB3,hid (by simp)⟩
     case round =>
      clear k3 HB3
      obtain⟨m,hm,rfl,rfl,iW,HZ⟩:=hrel
      have Fv:=iW.out.size
      have kS:=au (dw.out wr iW.out)
      by_cases hlt:m<s.items.length
      ·obtain⟨x,hx⟩:∃x,s.items[m]?=some x:=⟨_,aaf hlt⟩
       have hlt':((m:Int)<(s.items.length:Int)):=by omega
       have hcx:(s.items.map (iQ L s))[m]?=some (iQ L s x):=by rw[List.getElem?_map,hx];rfl
       obtain⟨_,_,_,b,off,ds,rfl,_,hel,hcell⟩:=bC (fD.slices (HST.out wr iW.out)).1 hx
       obtain⟨ax,nx,cx,rfl,hargs⟩:=hel
       have q0:=hcell 0 _ rfl
       have q1:=hcell 1 _ rfl
       simp only[aa2] at q0
       have hit:=RZ (HO.out.it x (aaP hx))
       have hwt:=Cu (L:=L) hx
       have hw8:=xw (is:=s.items.take m) hcl
       have hi8:=HO.out.n8
       have hwl:dD L (s.items.take m)≤10000:=by
        have:(8*L.length+1)*(s.items.take m).length≤801*8:=Nat.mul_le_mul (by omega) (by rw[List.length_take];omega)
        omega
       have ag3:fu L≤800:=by omega
       obtain⟨NW,Zm⟩:∃NW,dD L (s.items.take m)=NW:=⟨_,rfl⟩
       rw[Zm] at hwt hwl ⊢
       have hn1:IntKind.i64.wrap ((NW:Int)+1)=(NW:Int)+1:=rD _ (by omega) (by omega)
       have hn2:IntKind.i64.wrap ((NW:Int)+1+(fu L:Int))=(NW:Int)+1+(fu L:Int):=rD _ (by omega) (by omega)
       have hn3:IntKind.i64.wrap ((NW:Int)+1+(fu L:Int)-1)=(NW:Int)+1+(fu L:Int)-1:=rD _ (by omega) (by omega)
       obtain⟨Y,hY,bV,kL,dJ⟩:=aK wr (.cells #[.int .i64 x.k,.slice ax nx cx] 55)
       have kY:Y.cell? ⟨wr.heap.size,0,none⟩=some (.int .i64 x.k)∧Y.cell? ⟨wr.heap.size,1,none⟩=some (.slice ax nx cx):=⟨by rw[aB _ _ _ _ _ _ dJ];rfl,by rw[aB _ _ _ _ _ _ dJ];rfl⟩
       have Fy:=hid dJ
       have WQ:=hid kL
       have bZ:=hid (iW.out.trans (bV.mono Fv))
       have kSY:=au (dw.out Y bZ.out)
       have hxl:nx=x.xs.length:=by obtain⟨_,_,hf,_⟩:=hargs.form;simp only[aah] at hf;exact hf.2.1
       have Fq:Hid (aM 8 jl T Y x.xs (.slice ax nx cx)):=hid ((eZ hargs).to (by decide) (R:=fun _=>False) (ak.aA bV) (fun b hb _=>⟨id,hb⟩) (fun _ _ e=>e.to (R:=fun _=>False) (ak.aA bV) (fun b hb _=>⟨id,hb⟩)))
       have HBAD:Hid (∀c,iQ L s x=c→c≠0→R=c):=hid (fun c h1 h2=>by
        rw[h1] at hcx
        have:=iN HZ.out hcx h2
        rw[← HR3.out,this,if_pos h2])
       have qY:Hid (iQ L s x=0→∀c∈(s.items.map (iQ L s)).take (m+1),c=0):=hid (fun h=>zero_snoc HZ.out hcx h)
       clear hcell hargs bV dJ hcx hx HZ kL hw8
       rcases hit with⟨_,⟨TN,hx0⟩ | ⟨hk,e,hxe,hre⟩⟩
       ·obtain rfl:nx=0:=by rw[hxl,hx0];rfl
        clear hxl
        by_cases hk1:x.k=1
        ·have Cc:(x.k==1)=true:=by rw[beq_iff_eq];exact hk1
         rw[if_pos hk1] at hwt
         cases gb with
         |
          true =>
          clear hwt
          have HE:Hid (R=4):=hid (HBAD.out 4 (by unfold iQ;rw[if_pos ⟨hk1,XI.out⟩]) (by decide))
          have iC:=hid (HB.out.trans (bZ.out.mono HB.out.size))
          clear hk1 hx0 TN qY HBAD
          go_wp2_with (first | (refine eX hY ?_;clear hY) | fail)
          go_ret
          exact⟨by rw[HE.out];try rfl,iC.out⟩
         |
          false =>
          have HZ2:=hid (qY.out (by unfold iQ;rw[if_neg (fun h=>by rw[XI.out] at h;cases h.2),hx0];rfl))
          have QC:=bZ
          have Gt:Hid ((NW:Int)+1+(fu L:Int)-1=((dD L (s.items.take (m+1)):Nat):Int)):=hid (by rw[hwt];omega)
          clear hwt
          clear hk1 hx0 TN qY HBAD
          go_wp2_with (first | (refine eX hY ?_;clear hY) | fail)
          go_roundw
          case rel=>exact⟨m+1,by omega,by go_num,(by first | exact congrArg _ Gt.out | (rw[← Gt.out])),QC,HZ2⟩
          case measure=>simp[intOf];omega
        ·have Cc:(x.k==1)=false:=by rw[aai];exact hk1
         rw[if_neg hk1] at hwt
         have HZ2:=hid (qY.out (by unfold iQ;rw[if_neg (fun h=>hk1 h.1),hx0];rfl))
         have QC:=bZ
         have Gt:Hid ((NW:Int)+1=((dD L (s.items.take (m+1)):Nat):Int)):=hid (by rw[hwt];omega)
         clear hwt
         clear hk1 hx0 TN qY HBAD
         go_wp2_with (first | (refine eX hY ?_;clear hY) | fail)
         go_roundw
         case rel=>exact⟨m+1,by omega,by go_num,(by first | exact congrArg _ Gt.out | (rw[← Gt.out])),QC,HZ2⟩
         case measure=>simp[intOf];omega
       ·obtain rfl:nx=1:=by rw[hxl,hxe];rfl
        clear hxl
        have hk1:x.k≠1:=by omega
        have Cc:(x.k==1)=false:=by rw[aai];exact hk1
        rw[if_neg hk1] at hwt
        have Gt:Hid ((NW:Int)+1=((dD L (s.items.take (m+1)):Nat):Int)):=hid (by rw[hwt];omega)
        clear hwt
        have ZQ:=NR (L:=L) (s:=s) hxe hk1
        obtain⟨hnq,hpq,_,bq,oq,dsq,acz,_,YX,BH⟩:=bC (Fq.out) (j:=0) (x:=e) (by rw[hxe];rfl)
        have RN:=YX.v
        obtain⟨Tj,opq,UR,Uw,SQ,Ta,TS,ysq,UF,Sy,Uz,_,rfl,_⟩:=YX
        simp only[Nat.zero_mul,aa2] at BH
        have aaZ:bq<Y.heap.size:=World.block_lt_of_cell? Y _ (BH 0 _ rfl)
        have ZK:Hid (∀V,Below Y.heap.size Y V→gH T V e (.agg #[.int .i64 Tj,.int .i64 opq,.string (aj UR),.string (aj Uw),.int .i64 SQ,.int .i64 Ta,.string (aj TS),.slice UF Sy Uz])∧V.cell? ⟨bq,oq,none⟩=some (.int .i64 Tj)∧V.cell? ⟨bq,oq+1,none⟩=some (.int .i64 opq)∧V.cell? ⟨bq,oq+2,none⟩=some (.string (aj UR))∧V.cell? ⟨bq,oq+3,none⟩=some (.string (aj Uw))∧V.cell? ⟨bq,oq+4,none⟩=some (.int .i64 SQ)∧V.cell? ⟨bq,oq+5,none⟩=some (.int .i64 Ta)∧V.cell? ⟨bq,oq+6,none⟩=some (.string (aj TS))∧V.cell? ⟨bq,oq+7,none⟩=some (.slice UF Sy Uz)):=hid (fun V hV =>
         have g : ∀i u,([.int .i64 Tj,.int .i64 opq,.string (aj UR),.string (aj Uw),.int .i64 SQ,.int .i64 Ta,.string (aj TS),.slice UF Sy Uz]:List Value)[i]?=some u→V.cell? ⟨bq,oq+i,none⟩=some u:=fun i u hu=>(hV.cell (p:=⟨bq,_,none⟩) aaZ).trans (BH i u hu)
         ⟨RN.new hV,g 0 _ rfl,g 1 _ rfl,g 2 _ rfl,g 3 _ rfl,g 4 _ rfl,g 5 _ rfl,g 6 _ rfl,g 7 _ rfl⟩)
        clear BH RN hnq hpq
        subst acz
        have qq:=ZK.out Y (Below.refl _ Y)
        have HC:=hid (jU S T L e _ _ Y hre qq.1 (AB.out Y bZ.out) HK.out hn)
        obtain⟨cb,hcb⟩:∃c,(aI L e).2.2=c:=⟨_,rfl⟩
        obtain⟨kb,hkb⟩:∃c,(aI L e).2.1=c:=⟨_,rfl⟩
        obtain⟨ig,hig⟩:∃ig,wM L s.gr (aI L e).1=ig:=⟨_,rfl⟩
        rw[hcb,hkb] at HC
        unfold zR at ZQ
        rw[hcb,hkb,hig,XI.out] at ZQ
        have Zr:=hid ZQ
        have Lh:Hid (cb=0→∀V,Below Y.heap.size Y V→Calls Tryz.prog 77 #[.slice la L.length lc,.agg #[.int .i64 Tj,.int .i64 opq,.string (aj UR),.string (aj Uw),.int .i64 SQ,.int .i64 Ta,.string (aj TS),.slice UF Sy Uz],.slice b7 m7 d7] V fun e w'=>e = .returned (.bool ig)∧Below V.heap.size V w'):=hid (fun h V hV=>by
         rw[← hig]
         exact zU S T L e s.gr _ _ _ V (AB.out V (bZ.out.trans (hV.mono bZ.out.size))) (ZK.out V hV).1 (fD.slices (HST.out V (bZ.out.trans (hV.mono bZ.out.size)))).2.2.2.1 HK.out hn hre (by rw[hcb];exact h) HO.out.gr.1 (fun g hg=>⟨(HO.out.gr.2 g hg).1,(HO.out.gr.2 g hg).2,Tx.out g hg⟩))
        clear ZQ hig hcb hkb hxe hre hk1 Fq
        go_wp2_with (first | (refine eX hY ?_;clear hY) | fail)
        refine HC.out.mono ?_
        rintro e9 w5 ⟨u,rfl,hxu,hb5⟩
        obtain⟨k2,op2,bX,eH,dS,dU,vs2,ys2,dR,dY,dP,_,rfl,_⟩:=hxu
        obtain⟨Z,hZ,o8,VD,wB⟩:=aK w5 (.cells #[.int .i64 k2,.int .i64 op2,.string (aj bX),.string (aj eH),.int .i64 dS,.int .i64 dU,.string (aj vs2),.slice dR dY dP] 48)
        have JM:=hb5.trans (o8.mono hb5.size)
        have OZ:=bZ.out.trans (JM.mono bZ.out.size)
        have lJ:=hid OZ
        have kZ:Z.cell? ⟨wr.heap.size,0,none⟩=some (.int .i64 x.k)∧Z.cell? ⟨wr.heap.size,1,none⟩=some (.slice (some ⟨bq,oq,none⟩) 1 cx):=⟨by rw[aB _ _ _ _ _ _ ((JM.block _ WQ.out).trans Fy.out)];rfl,by rw[aB _ _ _ _ _ _ ((JM.block _ WQ.out).trans Fy.out)];rfl⟩
        have kSZ:=au (dw.out Z OZ)
        have qZ:=ZK.out Z JM
        have Gn:=hid (fun (h:cb=0)=>Lh.out h Z.drew (JM.drew))
        have p8:Hid (∀V,Below Z.drew.heap.size Z.drew V→V.cell? ⟨w.heap.size,10,none⟩=some (.slice b7 m7 d7)∧V.cell? ⟨wr.heap.size,0,none⟩=some (.int .i64 x.k)∧V.cell? ⟨wr.heap.size,1,none⟩=some (.slice (some ⟨bq,oq,none⟩) 1 cx)∧V.cell? ⟨bq,oq,none⟩=some (.int .i64 Tj)∧V.cell? ⟨bq,oq+1,none⟩=some (.int .i64 opq)∧V.cell? ⟨bq,oq+2,none⟩=some (.string (aj UR))∧V.cell? ⟨bq,oq+3,none⟩=some (.string (aj Uw))∧V.cell? ⟨bq,oq+4,none⟩=some (.int .i64 SQ)∧V.cell? ⟨bq,oq+5,none⟩=some (.int .i64 Ta)∧V.cell? ⟨bq,oq+6,none⟩=some (.string (aj TS))∧V.cell? ⟨bq,oq+7,none⟩=some (.slice UF Sy Uz)):=hid (fun V hV=>by
         have XB:Below Z.heap.size Z V:=((Below.refl _ Z).drew).trans hV
         have hYV:=JM.trans (XB.mono JM.size)
         have q:=(ZK.out V hYV).2
         have hc:=(hYV.block _ WQ.out).trans Fy.out
         exact⟨(au (dw.out V (OZ.trans (XB.mono OZ.size)))).2.2.2.2.2.2.2.2.2.2.1,by rw[aB _ _ _ _ _ _ hc];rfl,by rw[aB _ _ _ _ _ _ hc];rfl,q⟩)
        have Gw:=hid (p8.out Z.drew (Below.refl _ _))
        have Qh:=hid (OZ.drew)
        clear hb5 o8 wB JM OZ HC Lh qq q0 q1 kY kSY kS
        by_cases hc0:cb=0
        ·subst hc0
         have IC:=hid (Gn.out rfl)
         clear Gn
         by_cases O9:x.k=5∧kb=2
         ·have hk5:(x.k==5)=true:=by rw[beq_iff_eq];exact O9.1
          have acX:(kb==2)=true:=by rw[beq_iff_eq];exact O9.2
          have HE:Hid (R=9):=hid (HBAD.out 9 (by rw[Zr.out,if_neg (fun h=>h rfl),if_pos O9]) (by decide))
          have iC:=hid (HB.out.trans (lJ.out.mono HB.out.size))
          clear O9 qY HBAD hk
          go_wp2_with (first | (refine eX hZ ?_;clear hZ) | fail)
          go_ret
          exact⟨by rw[HE.out];try rfl,iC.out⟩
         ·have acG:((x.k==5)=false∨(x.k==5)=true∧(kb==2)=false):=by
           by_cases h5:x.k=5
           ·exact .inr ⟨by rw[beq_iff_eq];exact h5,by rw[aai];exact fun h=>O9 ⟨h5,h⟩⟩
           ·exact .inl (by rw[aai];exact h5)
          have CZ:Hid (iQ L s x=if x.k=2∧gb=true∧ig=false then 4 else 0):=hid (by rw[Zr.out,if_neg (fun h=>h rfl),if_neg O9])
          clear O9 Zr hk
          rcases acG with hk5 | ⟨hk5,acX⟩
          all_goals
           cases gb with
           |
            false =>
            have HZ2:=hid (qY.out (by rw[CZ.out,if_neg (fun h=>by cases h.2.1)]))
            clear qY HBAD CZ
            go_wp2_with (first | (refine eX hZ ?_;clear hZ) | fail)
            go_quiet (fail)
            have QC:=hid (lJ.out.trans (below_drewN (Below.refl _ Z) nq |>.mono lJ.out.size))
            go_wp2
            go_roundw
            case rel=>exact⟨m+1,by omega,by go_num,(by first | exact congrArg _ Gt.out | (rw[← Gt.out])),QC,HZ2⟩
            case measure=>simp[intOf];omega
           |
            true =>
            by_cases hk2:x.k=2
            ·have Cj:(x.k==2)=true:=by rw[beq_iff_eq];exact hk2
             cases ig with
             |
              false =>
              have HE:Hid (R=4):=hid (HBAD.out 4 (by rw[CZ.out,if_pos ⟨hk2,rfl,rfl⟩]) (by decide))
              clear qY HBAD CZ hk2
              go_wp2_with (first | (refine eX hZ ?_;clear hZ) | fail)
              go_region_held3 (fun V:World=>V.cell? ⟨w.heap.size,10,none⟩=some (.slice b7 m7 d7)∧V.cell? ⟨wr.heap.size,0,none⟩=some (.int .i64 x.k)∧V.cell? ⟨wr.heap.size,1,none⟩=some (.slice (some ⟨bq,oq,none⟩) 1 cx)∧V.cell? ⟨bq,oq,none⟩=some (.int .i64 Tj)∧V.cell? ⟨bq,oq+1,none⟩=some (.int .i64 opq)∧V.cell? ⟨bq,oq+2,none⟩=some (.string (aj UR))∧V.cell? ⟨bq,oq+3,none⟩=some (.string (aj Uw))∧V.cell? ⟨bq,oq+4,none⟩=some (.int .i64 SQ)∧V.cell? ⟨bq,oq+5,none⟩=some (.int .i64 Ta)∧V.cell? ⟨bq,oq+6,none⟩=some (.string (aj TS))∧V.cell? ⟨bq,oq+7,none⟩=some (.slice UF Sy Uz))
                (first | exact Gw.out | exact Bl.out)
                (first
                 | (
                  go_at_call 77;refine IC.out.mono ?_
                  rintro e w9 ⟨rfl,kM⟩
                  have nQ:=hid kM
                  have Bl:=hid (p8.out w9 kM)
                  clear kM))
              have iC:=hid (HB.out.trans ((Qh.out.trans (nQ.out.mono Qh.out.size)).mono HB.out.size))
              go_wp2
              go_ret
              exact⟨by rw[HE.out];try rfl,iC.out⟩
             |
              true =>
              have HZ2:=hid (qY.out (by rw[CZ.out,if_neg (fun h=>by cases h.2.2)]))
              clear qY HBAD CZ hk2
              go_wp2_with (first | (refine eX hZ ?_;clear hZ) | fail)
              go_region_held3 (fun V:World=>V.cell? ⟨w.heap.size,10,none⟩=some (.slice b7 m7 d7)∧V.cell? ⟨wr.heap.size,0,none⟩=some (.int .i64 x.k)∧V.cell? ⟨wr.heap.size,1,none⟩=some (.slice (some ⟨bq,oq,none⟩) 1 cx)∧V.cell? ⟨bq,oq,none⟩=some (.int .i64 Tj)∧V.cell? ⟨bq,oq+1,none⟩=some (.int .i64 opq)∧V.cell? ⟨bq,oq+2,none⟩=some (.string (aj UR))∧V.cell? ⟨bq,oq+3,none⟩=some (.string (aj Uw))∧V.cell? ⟨bq,oq+4,none⟩=some (.int .i64 SQ)∧V.cell? ⟨bq,oq+5,none⟩=some (.int .i64 Ta)∧V.cell? ⟨bq,oq+6,none⟩=some (.string (aj TS))∧V.cell? ⟨bq,oq+7,none⟩=some (.slice UF Sy Uz))
                (first | exact Gw.out | exact Bl.out)
                (first
                 | (
                  go_at_call 77;refine IC.out.mono ?_
                  rintro e w9 ⟨rfl,kM⟩
                  have nQ:=hid kM
                  have Bl:=hid (p8.out w9 kM)
                  clear kM))
              have QC:=hid (Qh.out.trans (nQ.out.mono Qh.out.size))
              go_wp2
              go_roundw
              case rel=>exact⟨m+1,by omega,by go_num,(by first | exact congrArg _ Gt.out | (rw[← Gt.out])),QC,HZ2⟩
              case measure=>simp[intOf];omega
            ·have Cj:(x.k==2)=false:=by rw[aai];exact hk2
             have HZ2:=hid (qY.out (by rw[CZ.out,if_neg (fun h=>hk2 h.1)]))
             clear qY HBAD CZ hk2
             go_wp2_with (first | (refine eX hZ ?_;clear hZ) | fail)
             go_quiet (fail)
             have QC:=hid (lJ.out.trans (below_drewN (Below.refl _ Z) nq |>.mono lJ.out.size))
             go_wp2
             go_roundw
             case rel=>exact⟨m+1,by omega,by go_num,(by first | exact congrArg _ Gt.out | (rw[← Gt.out])),QC,HZ2⟩
             case measure=>simp[intOf];omega
        ·have hc1:(cb != 0)=true:=by simpa using hc0
         have HE:Hid (R=cb):=hid (HBAD.out cb (by rw[Zr.out,if_pos hc0]) hc0)
         have iC:=hid (HB.out.trans (lJ.out.mono HB.out.size))
         clear hc0 Gn qY HBAD hk
         go_wp2_with (first | (refine eX hZ ?_;clear hZ) | fail)
         go_ret
         exact⟨by rw[HE.out];try rfl,iC.out⟩
      ·have hlt' : ¬((m:Int)<(s.items.length:Int)):=by omega
       obtain rfl:m=s.items.length:=by omega
       have hz0 : ¬aO (s.items.map (iQ L s))≠0:=fun h=>h (fq.2 (by have:=HZ.out;rwa [aaU (by rw[List.length_map];omega)] at this))
       have Nz:=HR3.out
       rw[if_neg hz0] at Nz
       have hw8:=xw (is:=s.items) hcl
       rw[List.take_length]
       obtain⟨NW,Zm⟩:∃NW,dD L s.items=NW:=⟨_,rfl⟩
       rw[Zm] at Nz ⊢
       rw[XI.out] at Nz
       clear HR3 HZ hz0 hw8 Zm
       have HR3:=hid Nz
       clear Nz
       obtain⟨wx,hwx⟩:∃wx,wx=wr:=⟨_,rfl⟩
       have iq:Hid (Below W.heap.size W wx):=hid (by rw[hwx];exact iW.out)
       rw[← hwx]
       clear kS iW hwx Fv
       have kX:=au (dw.out wx iq.out)
       match hod:s.od,HO.out.od.1 with
       |
        [],_ =>
        obtain rfl:m8=0:=by rw[HM8.out,hod];rfl
        have HR4:Hid ((if gb=false∧8<NW then (4:Int) else 0)=R):=hid (by have:=HR3.out;rw[hod] at this;rwa [if_neg (fun h=>h rfl)] at this)
        clear HR3 hod
        have iC:=hid (HB.out.trans (iq.out.mono HB.out.size))
        cases gb with
        |
         true =>
         have HE:Hid (R=0):=hid (by rw[← HR4.out,if_neg (fun h=>by cases h.1)])
         clear HR4
         go_wp2_with fail
         go_ret
         exact⟨by rw[HE.out];try rfl,iC.out⟩
        |
         false =>
         by_cases h8:8<NW
         ·have h8':(8:Int)<(NW:Int):=by omega
          have HE:Hid (R=4):=hid (by rw[← HR4.out,if_pos (show _∧_ from ⟨by first | rfl | trivial,h8⟩)])
          clear HR4 h8
          go_wp2_with fail
          go_ret
          exact⟨by rw[HE.out];try rfl,iC.out⟩
         ·have h8' : ¬(8:Int)<(NW:Int):=by omega
          have HE:Hid (R=0):=hid (by rw[← HR4.out,if_neg (fun h=>h8 h.2)])
          clear HR4 h8
          go_wp2_with fail
          go_ret
          exact⟨by rw[HE.out];try rfl,iC.out⟩
       |
        [x],_ =>
        obtain rfl:m8=1:=by rw[HM8.out,hod];rfl
        have K7:=HO.out.od.2 x (by rw[hod];simp)
        have Nz:=HR3.out
        rw[hod,uD] at Nz
        obtain⟨hnz,hpz,_,bz,oz,dsz,aaY,_,WK,AZ⟩:=bC ((fD.slices (HST.out wx iq.out)).2.2.2.2) (j:=0) (x:=x) (by rw[hod];rfl)
        have Rz:=WK.v
        obtain⟨UD,Tz,T9,TM,UH,SH,Uu,ysz,Ut,SX,UY,_,rfl,_⟩:=WK
        simp only[Nat.zero_mul,aa2] at AZ
        have abe:bz<wx.heap.size:=World.block_lt_of_cell? wx _ (AZ 0 _ rfl)
        have Zt:Hid (∀V,Below wx.heap.size wx V→gH T V x (.agg #[.int .i64 UD,.int .i64 Tz,.string (aj T9),.string (aj TM),.int .i64 UH,.int .i64 SH,.string (aj Uu),.slice Ut SX UY])∧V.cell? ⟨bz,oz,none⟩=some (.int .i64 UD)∧V.cell? ⟨bz,oz+1,none⟩=some (.int .i64 Tz)∧V.cell? ⟨bz,oz+2,none⟩=some (.string (aj T9))∧V.cell? ⟨bz,oz+3,none⟩=some (.string (aj TM))∧V.cell? ⟨bz,oz+4,none⟩=some (.int .i64 UH)∧V.cell? ⟨bz,oz+5,none⟩=some (.int .i64 SH)∧V.cell? ⟨bz,oz+6,none⟩=some (.string (aj Uu))∧V.cell? ⟨bz,oz+7,none⟩=some (.slice Ut SX UY)):=hid (fun V hV =>
         have g : ∀i u,([.int .i64 UD,.int .i64 Tz,.string (aj T9),.string (aj TM),.int .i64 UH,.int .i64 SH,.string (aj Uu),.slice Ut SX UY]:List Value)[i]?=some u→V.cell? ⟨bz,oz+i,none⟩=some u:=fun i u hu=>(hV.cell (p:=⟨bz,_,none⟩) abe).trans (AZ i u hu)
         ⟨Rz.new hV,g 0 _ rfl,g 1 _ rfl,g 2 _ rfl,g 3 _ rfl,g 4 _ rfl,g 5 _ rfl,g 6 _ rfl,g 7 _ rfl⟩)
        clear AZ Rz hnz hpz
        have e8:b8=some ⟨bz,oz,none⟩:=aaY
        subst e8
        have qz:=Zt.out wx (Below.refl _ wx)
        have HC:=hid (jU S T L x _ _ wx K7 qz.1 (AB.out wx iq.out) HK.out hn)
        obtain⟨co,hco⟩:∃c,(aI L x).2.2=c:=⟨_,rfl⟩
        rw[hco] at HC
        have Rn:lX L s x=if co=0∧gb=true∧wM L s.gr (aI L x).1=false then 4 else co:=by
         unfold lX
         rw[hco,XI.out]
        rw[Rn] at Nz
        obtain⟨ig,hig⟩:∃ig,wM L s.gr (aI L x).1=ig:=⟨_,rfl⟩
        rw[hig] at Nz
        have Lh:Hid (co=0→∀V,Below wx.heap.size wx V→Calls Tryz.prog 77 #[.slice la L.length lc,.agg #[.int .i64 UD,.int .i64 Tz,.string (aj T9),.string (aj TM),.int .i64 UH,.int .i64 SH,.string (aj Uu),.slice Ut SX UY],.slice b7 m7 d7] V fun e w'=>e = .returned (.bool ig)∧Below V.heap.size V w'):=hid (fun h V hV=>by
         rw[← hig]
         exact zU S T L x s.gr _ _ _ V (AB.out V (iq.out.trans (hV.mono iq.out.size))) (Zt.out V hV).1 (fD.slices (HST.out V (iq.out.trans (hV.mono iq.out.size)))).2.2.2.1 HK.out hn K7 (by rw[hco];exact h) HO.out.gr.1 (fun g hg=>⟨(HO.out.gr.2 g hg).1,(HO.out.gr.2 g hg).2,Tx.out g hg⟩))
        have FK:=hid Nz
        clear Nz Rn hig hco hod K7 HR3
        go_wp2_with fail
        refine HC.out.mono ?_
        rintro e w5 ⟨u,rfl,_,hb5⟩
        have Jy:=iq.out.trans (hb5.mono iq.out.size)
        have JD:=hid Jy
        have iC:=htr HB Jy
        have k5:=au (dw.out w5 Jy)
        have qz:=Zt.out w5 hb5
        have Gn:=hid (fun (h:co=0)=>Lh.out h w5.drew (hb5.drew))
        have p8:Hid (∀V,Below w5.drew.heap.size w5.drew V→V.cell? ⟨w.heap.size,10,none⟩=some (.slice b7 m7 d7)∧V.cell? ⟨w.heap.size,11,none⟩=some (.slice (some ⟨bz,oz,none⟩) 1 d8)∧V.cell? ⟨bz,oz,none⟩=some (.int .i64 UD)∧V.cell? ⟨bz,oz+1,none⟩=some (.int .i64 Tz)∧V.cell? ⟨bz,oz+2,none⟩=some (.string (aj T9))∧V.cell? ⟨bz,oz+3,none⟩=some (.string (aj TM))∧V.cell? ⟨bz,oz+4,none⟩=some (.int .i64 UH)∧V.cell? ⟨bz,oz+5,none⟩=some (.int .i64 SH)∧V.cell? ⟨bz,oz+6,none⟩=some (.string (aj Uu))∧V.cell? ⟨bz,oz+7,none⟩=some (.slice Ut SX UY)):=hid (fun V hV=>by
         have XB:Below w5.heap.size w5 V:=((Below.refl _ w5).drew).trans hV
         have q:=(Zt.out V (hb5.trans (XB.mono hb5.size))).2
         have q14:=au (dw.out V (Jy.trans (XB.mono Jy.size)))
         exact⟨q14.2.2.2.2.2.2.2.2.2.2.1,q14.2.2.2.2.2.2.2.2.2.2.2.1,q⟩)
        have Gw:=hid (p8.out w5.drew (Below.refl _ _))
        have Qg:=hid (iC.out.drew)
        clear hb5 Jy HC Lh kX
        by_cases hc0:co=0
        ·subst hc0
         have IC:=hid (Gn.out rfl)
         clear Gn
         cases gb with
         |
          false =>
          have HR4:Hid ((if false=false∧8<NW then (4:Int) else 0)=R):=hid (by have:=FK.out;rw[if_neg (show ¬((0:Int)=0∧false=true∧ig=false) from fun h=>by cases h.2.1)] at this;rwa [if_neg (fun h=>h rfl)] at this)
          clear FK
          go_wp2_with fail
          go_quiet (fail)
          have iC:=hid (below_drewN iC.out nq)
          by_cases h8:8<NW
          ·have h8':(8:Int)<(NW:Int):=by omega
           have HE:Hid (R=4):=hid (by rw[← HR4.out,if_pos (show _∧_ from ⟨by first | rfl | trivial,h8⟩)])
           clear HR4 h8
           go_wp2_with fail
           go_ret
           exact⟨by rw[HE.out];try rfl,iC.out⟩
          ·have h8' : ¬(8:Int)<(NW:Int):=by omega
           have HE:Hid (R=0):=hid (by rw[← HR4.out,if_neg (fun h=>h8 h.2)])
           clear HR4 h8
           go_wp2_with fail
           go_ret
           exact⟨by rw[HE.out];try rfl,iC.out⟩
         |
          true =>
          cases ig with
          |
           false =>
           have HE:Hid (R=4):=hid (by rw[← FK.out,if_pos (show (if (0:Int)=0∧true=true∧false=false then (4:Int) else 0)≠0 from by decide)];rfl)
           clear FK
           go_wp2_with fail
           go_region_held3 (fun V:World=>V.cell? ⟨w.heap.size,10,none⟩=some (.slice b7 m7 d7)∧V.cell? ⟨w.heap.size,11,none⟩=some (.slice (some ⟨bz,oz,none⟩) 1 d8)∧V.cell? ⟨bz,oz,none⟩=some (.int .i64 UD)∧V.cell? ⟨bz,oz+1,none⟩=some (.int .i64 Tz)∧V.cell? ⟨bz,oz+2,none⟩=some (.string (aj T9))∧V.cell? ⟨bz,oz+3,none⟩=some (.string (aj TM))∧V.cell? ⟨bz,oz+4,none⟩=some (.int .i64 UH)∧V.cell? ⟨bz,oz+5,none⟩=some (.int .i64 SH)∧V.cell? ⟨bz,oz+6,none⟩=some (.string (aj Uu))∧V.cell? ⟨bz,oz+7,none⟩=some (.slice Ut SX UY))
            (first | exact Gw.out | exact Bl.out)
            (first
             | (
               go_at_call 77;refine IC.out.mono ?_
               rintro e w9 ⟨rfl,kM⟩
               have nQ:=hid kM
               have Bl:=hid (p8.out w9 kM)
               clear kM))
           have Sm:=hid (Qg.out.trans (nQ.out.mono Qg.out.size))
           go_wp2
           go_ret
           exact⟨by rw[HE.out];try rfl,Sm.out⟩
          |
           true =>
           have HE:Hid (R=0):=hid (by rw[← FK.out,if_neg (show ¬((if (0:Int)=0∧true=true∧true=false then (4:Int) else 0)≠0) from by decide),if_neg (fun h=>by cases h.1)])
           clear FK
           go_wp2_with fail
           go_region_held3 (fun V:World=>V.cell? ⟨w.heap.size,10,none⟩=some (.slice b7 m7 d7)∧V.cell? ⟨w.heap.size,11,none⟩=some (.slice (some ⟨bz,oz,none⟩) 1 d8)∧V.cell? ⟨bz,oz,none⟩=some (.int .i64 UD)∧V.cell? ⟨bz,oz+1,none⟩=some (.int .i64 Tz)∧V.cell? ⟨bz,oz+2,none⟩=some (.string (aj T9))∧V.cell? ⟨bz,oz+3,none⟩=some (.string (aj TM))∧V.cell? ⟨bz,oz+4,none⟩=some (.int .i64 UH)∧V.cell? ⟨bz,oz+5,none⟩=some (.int .i64 SH)∧V.cell? ⟨bz,oz+6,none⟩=some (.string (aj Uu))∧V.cell? ⟨bz,oz+7,none⟩=some (.slice Ut SX UY))
            (first | exact Gw.out | exact Bl.out)
            (first
             | (
               go_at_call 77;refine IC.out.mono ?_
               rintro e w9 ⟨rfl,kM⟩
               have nQ:=hid kM
               have Bl:=hid (p8.out w9 kM)
               clear kM))
           have Sm:=hid (Qg.out.trans (nQ.out.mono Qg.out.size))
           go_wp2
           go_ret
           exact⟨by rw[HE.out];try rfl,Sm.out⟩
        ·have hc1:(co != 0)=true:=by simpa using hc0
         have HE:Hid (R=co):=hid (by rw[← FK.out,if_neg (show ¬(co=0∧gb=true∧ig=false) from fun h=>hc0 h.1),if_pos hc0])
         clear hc0 Gn
         go_wp2_with fail
         go_ret
         exact⟨by rw[HE.out];try rfl,iC.out⟩
 ·have afK:(cw != 0)=true:=by simpa using Pn
  have HE:Hid (R=cw):=hid (by rw[← HR.out];unfold Gg;rw[rJ.out,if_pos Pn])
  have iC:=hid (HB.out.trans (HB2.out.mono HB.out.size))
  clear Pn
  go_wp2_with fail
  go_ret
  exact⟨by rw[HE.out];try rfl,iC.out⟩
end Go.Proofs.YtfeglkleoijlaaaGreatDoor
