import Derived.Test.YtfeglkleoijlaaaGreatDoorY09
import Derived.Deep.RegionHeld3
import Derived.Test.YtfeglkleoijlaaaGreatDoorY07
namespace Go.Proofs.YtfeglkleoijlaaaGreatDoor
open Go.RowKit Go.Shelf
set_option linter.unusedSimpArgs false
set_option linter.unusedVariables false
set_option maxRecDepth 20000
set_option maxHeartbeats 8000000
theorem MK (a:Tm) {k op:Int} {tn nm:List UInt8} {vk vn:Int} {vs:List UInt8} {ys:List Ex} (he:a.ex = .mk k op tn nm ⟨vk,vn,vs⟩ ys):(a.isNum=true↔k=1∧vk=1∧0≤vn):=by
 cases a with
 |
  val v =>
  simp only[Tm.ex,ED,Ex.mk.injEq] at he
  obtain⟨rfl,_,_,_,rfl,_⟩:=he
  simp[Tm.isNum]
 | col x y=>simp only[Tm.ex,Dc,Ex.mk.injEq] at he;obtain⟨rfl,_⟩:=he;simp[Tm.isNum]
 | op x y z=>simp only[Tm.ex,Ml,Ex.mk.injEq] at he;obtain⟨rfl,_⟩:=he;simp[Tm.isNum]
 | not x=>simp only[Tm.ex,nA,Ex.mk.injEq] at he;obtain⟨rfl,_⟩:=he;simp[Tm.isNum]
 | neg x=>simp only[Tm.ex,nA,Ex.mk.injEq] at he;obtain⟨rfl,_⟩:=he;simp[Tm.isNum]
 | zZ x=>simp only[Tm.ex,nA,Ex.mk.injEq] at he;obtain⟨rfl,_⟩:=he;simp[Tm.isNum]
 | ny x=>simp only[Tm.ex,nA,Ex.mk.injEq] at he;obtain⟨rfl,_⟩:=he;simp[Tm.isNum]
theorem GK (a:Tm) (hok:a.ok) (hX:OY a) (va:Value)
  (g:Nat) (tb:Option Nat) (L:List Tk) (d m:Int) (w:World) (h:bO w g tb L d m) (hxa:gH (fun b=>b<g) w a.ex va) (hL:L.length+((oV (negL a) a.lv a.tk).length+1)≤1000000000) (h0:0≤d) (jy:d≤m) (hd:d+(pO (negL a) a.lv a.dp+1:Nat)≤1000000000) (hm:m≤1000000000) :
  Calls Tryz.prog 135 #[.pointer (some ⟨g,0,none⟩),va] w fun e w'=>e = .returned (.tuple #[])∧Wrote g tb w w' (L++(Tm.neg a).tk) d (max m (d+((Tm.neg a).dp:Nat))):=by
 have OW:=hid hxa
 obtain⟨k,op,tn,nm,vk,vn,vs,ys,aa,nn,cc,he,rfl,ha⟩:=hxa
 have UC:=MK a he
 obtain⟨W,hW,hbW,aJ,hcW⟩:=aK w (.cells #[.int .i64 k,.int .i64 op,.string (aj tn),.string (aj nm),.int .i64 vk,.int .i64 vn,.string (aj vs),.slice aa nn cc] 48)
 have k0:=aG hcW
 have HB:=hid hbW
 have hla:=jA (negL a) a.lv a.tk
 have hda:=mD (negL a) a.lv a.dp
 have iq:=hid (fP.mk' h hcW (aaF _))
 have hw:=h.below hbW
 have HW:=hid hw
 have HX:=hid (OW.out.new hbW)
 have HT:Hid (Calls Tryz.prog 98 #[.pointer (some ⟨g,0,none⟩),.slice (some ⟨W.heap.size,0,none⟩) 1 1] (W.alloc (.cells #[.string ⟨#[45]⟩] 9)) fun e w'=>e = .returned (.tuple #[])∧Wrote g tb W w' (L++ay [[45]]) d m):=hid (aX g tb L d m [[45]] W hw (by decide) (by decide) (by simp;omega))
 show Calls Tryz.prog 135 _ _ fun e w'=>_∧Wrote g tb w w' (L++(bg [45]::oV (negL a) a.lv a.tk)) d (max m (d+((pO (negL a) a.lv a.dp+1:Nat):Int)))
 have Da:=vH (negL a) a hok hX
 generalize oV (negL a) a.lv a.tk=T at Da hla hL ⊢
 generalize pO (negL a) a.lv a.dp=D at Da hda hd ⊢
 have hN:negL a=if a.isNum=true then 7 else 6:=rfl
 clear hbW hcW h ha he hok hw OW
 have hcase:((k==1)=true∧(vk==1)=true∧0≤vn∧Zp 7 a T (D+1))∨(((k==1)=false∨((k==1)=true∧(vk==1)=false)∨((k==1)=true∧(vk==1)=true∧¬0≤vn))∧Zp 6 a T (D+1)):=by
  by_cases hn:a.isNum=true
  ·rw[hN,if_pos hn] at Da
   obtain⟨h1,h2,h3⟩:=UC.1 hn
   exact .inl ⟨by rw[h1];rfl,by rw[h2];rfl,h3,Da⟩
  ·rw[hN,if_neg hn] at Da
   refine .inr ⟨?_,Da⟩
   by_cases h1:k=1
   ·by_cases h2:vk=1
    ·exact .inr (.inr ⟨by rw[h1];rfl,by rw[h2];rfl,fun h3=>hn (UC.2 ⟨h1,h2,h3⟩)⟩)
    ·exact .inr (.inl ⟨by rw[h1];rfl,by simpa using h2⟩)
   ·exact .inl (by simpa using h1)
 clear Da hN UC
 rcases hcase with⟨hk1,hv1,hn0,Da⟩ | ⟨hk1 | ⟨hk1,hv1⟩ | ⟨hk1,hv1,hn0⟩,Da⟩
 ·go_enter Tryz.func135,Tryz.ntmps135
  go_wp2_with fail
  refine HT.out.mono ?_
  rintro e w2 ⟨rfl,bX,hw2,ht2,hf2⟩
  have k2:=aG (iq.out.on ht2 hf2).at'
  have HD2:=hid (Da g bX (L++ay [[45]]) d m w2 _ hw2 (HX.out.zC HW.out hf2) (by simp[ay];omega) h0 jy (by omega) hm)
  have HT2:=hid ht2
  have jW:=hid hf2
  clear hw2 ht2 hf2 HT
  go_wp2_with fail
  refine HD2.out.mono ?_
  rintro e w3 ⟨rfl,h3⟩
  have HQ:Hid (Wrote g tb w w3 (L++bg [45]::T) d (max m (d+((D+1:Nat):Int)))):=hid (by
   have:=Wrote.new HB.out (Wrote.then HT2.out jW.out h3)
   rw[show L++ay [[45]]++T=L++bg [45]::T by simp[ay]] at this
   exact this)
  clear h3 HD2
  go_wp2
  exact bodyPost_end (v:=.tuple #[]) (by simp[results,Tryz.results135,go_sem]) rfl ⟨rfl,HQ.out⟩
 ·go_enter Tryz.func135,Tryz.ntmps135
  go_wp2_with fail
  refine HT.out.mono ?_
  rintro e w2 ⟨rfl,bX,hw2,ht2,hf2⟩
  have k2:=aG (iq.out.on ht2 hf2).at'
  have HD2:=hid (Da g bX (L++ay [[45]]) d m w2 _ hw2 (HX.out.zC HW.out hf2) (by simp[ay];omega) h0 jy (by omega) hm)
  have HT2:=hid ht2
  have jW:=hid hf2
  clear hw2 ht2 hf2 HT
  go_wp2_with fail
  refine HD2.out.mono ?_
  rintro e w3 ⟨rfl,h3⟩
  have HQ:Hid (Wrote g tb w w3 (L++bg [45]::T) d (max m (d+((D+1:Nat):Int)))):=hid (by
   have:=Wrote.new HB.out (Wrote.then HT2.out jW.out h3)
   rw[show L++ay [[45]]++T=L++bg [45]::T by simp[ay]] at this
   exact this)
  clear h3 HD2
  go_wp2
  exact bodyPost_end (v:=.tuple #[]) (by simp[results,Tryz.results135,go_sem]) rfl ⟨rfl,HQ.out⟩
 ·go_enter Tryz.func135,Tryz.ntmps135
  go_wp2_with fail
  refine HT.out.mono ?_
  rintro e w2 ⟨rfl,bX,hw2,ht2,hf2⟩
  have k2:=aG (iq.out.on ht2 hf2).at'
  have HD2:=hid (Da g bX (L++ay [[45]]) d m w2 _ hw2 (HX.out.zC HW.out hf2) (by simp[ay];omega) h0 jy (by omega) hm)
  have HT2:=hid ht2
  have jW:=hid hf2
  clear hw2 ht2 hf2 HT
  go_wp2_with fail
  refine HD2.out.mono ?_
  rintro e w3 ⟨rfl,h3⟩
  have HQ:Hid (Wrote g tb w w3 (L++bg [45]::T) d (max m (d+((D+1:Nat):Int)))):=hid (by
   have:=Wrote.new HB.out (Wrote.then HT2.out jW.out h3)
   rw[show L++ay [[45]]++T=L++bg [45]::T by simp[ay]] at this
   exact this)
  clear h3 HD2
  go_wp2
  exact bodyPost_end (v:=.tuple #[]) (by simp[results,Tryz.results135,go_sem]) rfl ⟨rfl,HQ.out⟩
 ·go_enter Tryz.func135,Tryz.ntmps135
  go_wp2_with fail
  refine HT.out.mono ?_
  rintro e w2 ⟨rfl,bX,hw2,ht2,hf2⟩
  have k2:=aG (iq.out.on ht2 hf2).at'
  have HD2:=hid (Da g bX (L++ay [[45]]) d m w2 _ hw2 (HX.out.zC HW.out hf2) (by simp[ay];omega) h0 jy (by omega) hm)
  have HT2:=hid ht2
  have jW:=hid hf2
  clear hw2 ht2 hf2 HT
  go_wp2_with fail
  refine HD2.out.mono ?_
  rintro e w3 ⟨rfl,h3⟩
  have HQ:Hid (Wrote g tb w w3 (L++bg [45]::T) d (max m (d+((D+1:Nat):Int)))):=hid (by
   have:=Wrote.new HB.out (Wrote.then HT2.out jW.out h3)
   rw[show L++ay [[45]]++T=L++bg [45]::T by simp[ay]] at this
   exact this)
  clear h3 HD2
  go_wp2
  exact bodyPost_end (v:=.tuple #[]) (by simp[results,Tryz.results135,go_sem]) rfl ⟨rfl,HQ.out⟩
theorem Lb : ∀t:Tm,t.ok→OY t:=by
 intro t
 induction t with
 |
  val x =>
  intro hok g tb L d m w v h hx hL h0 jy hd hm
  obtain⟨k,op,tn,nm,vk,vn,vs,ys,aa,nn,cc,he,rfl,ha⟩:=hx
  simp only[Tm.ex,ED,Ex.mk.injEq] at he
  obtain⟨rfl,rfl,rfl,rfl,rfl,rfl⟩:=he
  have e1:max m (d+((Tm.val ⟨vk,vn,vs⟩).dp:Nat))=m:=by show max m (d+((0:Nat):Int))=m;omega
  rw[e1]
  dsimp only
  obtain⟨W,hW,hbW,aJ,hcW⟩:=aK w (.cells #[.int .i64 1,.int .i64 0,.string (aj []),.string (aj []),.int .i64 vk,.int .i64 vn,.string (aj vs),.slice aa nn cc] 48)
  have k0:=aG hcW
  have HB:=hid hbW
  have HC:=hid (Ar g tb L d m W (h.below hbW) ⟨vk,vn,vs⟩ hok hL)
  dsimp only at HC
  show Calls Tryz.prog 83 _ _ fun e w'=>_∧Wrote g tb w w' (L++nK ⟨vk,vn,vs⟩) d m
  generalize nK ⟨vk,vn,vs⟩=T at HC ⊢
  clear hbW hcW h ha hok hL e1
  go_enter Tryz.func83,Tryz.ntmps83
  go_wp2_with fail
  refine HC.out.mono ?_
  rintro e w1 ⟨rfl,h1⟩
  have HQ:=hid (Wrote.new HB.out h1)
  clear h1 HC
  go_wp2
  exact bodyPost_end (v:=.tuple #[]) (by simp[results,Tryz.results83,go_sem]) rfl ⟨rfl,HQ.out⟩
 |
  col x y =>
  intro hok g tb L d m w v h hx hL h0 jy hd hm
  obtain⟨k,op,tn,nm,vk,vn,vs,ys,aa,nn,cc,he,rfl,ha⟩:=hx
  simp only[Tm.ex,Dc,Ex.mk.injEq] at he
  obtain⟨rfl,rfl,rfl,rfl,hv,rfl⟩:=he
  have e1:max m (d+((Tm.col x y).dp:Nat))=m:=by show max m (d+((0:Nat):Int))=m;omega
  rw[e1]
  dsimp only
  obtain⟨W,hW,hbW,aJ,hcW⟩:=aK w (.cells #[.int .i64 2,.int .i64 0,.string (aj x),.string (aj y),.int .i64 vk,.int .i64 vn,.string (aj vs),.slice aa nn cc] 48)
  have k0:=aG hcW
  have HB:=hid hbW
  have HC:=hid (Na g tb L d m W (h.below hbW) x y 2 0 vk vn vs aa nn cc hL)
  generalize (Tm.col x y).tk=T at HC ⊢
  clear hbW hcW h ha hok hL e1 hv
  go_enter Tryz.func83,Tryz.ntmps83
  go_wp2_with fail
  refine HC.out.mono ?_
  rintro e w1 ⟨rfl,h1⟩
  have HQ:=hid (Wrote.new HB.out h1)
  clear h1 HC
  go_wp2
  exact bodyPost_end (v:=.tuple #[]) (by simp[results,Tryz.results83,go_sem]) rfl ⟨rfl,HQ.out⟩
 |
  op o a b iha ihb =>
  intro hok g tb L d m w v h hx hL h0 jy hd hm
  obtain⟨k,op,tn,nm,vk,vn,vs,ys,aa,nn,cc,he,rfl,ha⟩:=hx
  simp only[Tm.ex,Ml,Ex.mk.injEq] at he
  obtain⟨rfl,rfl,rfl,rfl,hv,rfl⟩:=he
  dsimp only
  obtain⟨W,hW,hbW,aJ,hcW⟩:=aK w (.cells #[.int .i64 3,.int .i64 o,.string (aj []),.string (aj []),.int .i64 vk,.int .i64 vn,.string (aj vs),.slice aa nn cc] 48)
  have k0:=aG hcW
  have HB:=hid hbW
  have hw:=h.below hbW
  have hL2:L.length+((oV (Fh o) a.lv a.tk).length+((oV (eu o+1) b.lv b.tk).length+1))≤1000000000:=by
   have:=hL
   simp only[Tm.tk,aaN,aa1] at this
   omega
  have hd2:d+((max (pO (Fh o) a.lv a.dp) (pO (eu o+1) b.lv b.dp):Nat):Int)≤1000000000:=hd
  have haW:=ha.new hbW
  obtain⟨g1,g2,g3,b1,off,k1,op1,KY,fU,fJ,fI,vs1,ys1,eD,dF,eB,hxe1,rfl,af4,c1,r1⟩:=fH haW
  obtain⟨_,_,_,b2,off2,k2,op2,tn2,eH,dS,dU,vs2,ys2,dR,dY,dP,hxe2,hbo,_,c2,r2⟩:=CP haW (j:=1) (x:=b.ex) rfl
  simp only[abf,Addr.mk.injEq,and_true] at hbo
  obtain⟨rfl,rfl⟩:=hbo
  rw[Nat.one_mul] at c2
  rw[show [b.ex].length+1=2 from rfl] at g1
  subst g1
  unfold maxLen at g3
  have dI:=hid (fun V (hV:bO V g tb L d m) (hb:Below W.heap.size W V)=>CQ o hok.1 hok.2.1 a b hok.2.2.1 hok.2.2.2 (iha hok.2.2.1) (ihb hok.2.2.2) _ _ g tb L d m V hV (gH.mk' hxe1 (r1.new hb)) (gH.mk' hxe2 (r2.new hb)) hL2 h0 jy (by omega) (by omega) hm)
  have HC:=hid (dI.out W.drew (hw.below (Below.refl _ W).drew) (Below.refl _ W).drew)
  clear dI
  obtain⟨n,hn,aad,ho1,ho2⟩:=I5 hw.tab.ops hok.1 hok.2.1
  generalize (Tm.op o a b).tk=T at HC ⊢
  generalize (Tm.op o a b).dp=D at HC ⊢
  generalize aj (vW o)=tx at HC ho1
  generalize ((eu o:Nat):Int)=li at HC ho2
  subst hn
  have aau:((n:Int)<14):=by omega
  have Ke:=hid (HB.out.drew)
  have hnb : ¬(w.heap.size=g∨tb=some w.heap.size):=fun e=>by
   rcases e with e | e
   ·have:=h.lt;omega
   ·have:=(h.O1 _ e).2;omega
  have hn0 : ¬((0:Nat)=g∨tb=some 0):=fun e=>by
   rcases e with e | e
   ·have:=h.big;omega
   ·have:=(h.O1 _ e).1;have:=h.big;omega
  have hn1 : ¬(b1=g∨tb=some b1):=fun e=>by
   rcases e with e | e
   ·omega
   ·have:=(h.O1 _ e).1;omega
  have HS:Hid (∀V,eP g tb W V→(fun w'=>(w'.cell? ⟨w.heap.size,1,none⟩=some (.int .i64 (n:Int))∧w'.cell? ⟨w.heap.size,7,none⟩=some (.slice (some ⟨b1,off,none⟩) 2 cc))∧(w'.cell? ⟨0,n*2,none⟩=some (.string tx)∧w'.cell? ⟨0,n*2+1,none⟩=some (.int .i64 li))∧(w'.cell? ⟨b1,off,none⟩=some (.int .i64 k1)∧w'.cell? ⟨b1,off+1,none⟩=some (.int .i64 op1)∧w'.cell? ⟨b1,off+2,none⟩=some (.string (aj KY))∧w'.cell? ⟨b1,off+3,none⟩=some (.string (aj fU))∧w'.cell? ⟨b1,off+4,none⟩=some (.int .i64 fJ)∧w'.cell? ⟨b1,off+5,none⟩=some (.int .i64 fI)∧w'.cell? ⟨b1,off+6,none⟩=some (.string (aj vs1))∧w'.cell? ⟨b1,off+7,none⟩=some (.slice eD dF eB))∧(w'.cell? ⟨b1,off+8,none⟩=some (.int .i64 k2)∧w'.cell? ⟨b1,off+8+1,none⟩=some (.int .i64 op2)∧w'.cell? ⟨b1,off+8+2,none⟩=some (.string (aj tn2))∧w'.cell? ⟨b1,off+8+3,none⟩=some (.string (aj eH))∧w'.cell? ⟨b1,off+8+4,none⟩=some (.int .i64 dS)∧w'.cell? ⟨b1,off+8+5,none⟩=some (.int .i64 dU)∧w'.cell? ⟨b1,off+8+6,none⟩=some (.string (aj vs2))∧w'.cell? ⟨b1,off+8+7,none⟩=some (.slice dR dY dP))) V):=hid (fun V hf=>⟨⟨hf.cell k0.2.1 hnb,hf.cell k0.2.2.2.2.2.2.2 hnb⟩,⟨hf.cell ho1 hn0,hf.cell ho2 hn0⟩,c1.on hf hn1,c2.on hf hn1⟩)
  have jJ:=hid (HS.out W.drew (ak.aA (Below.refl _ W).drew))
  unfold Cells8 at c1 c2
  clear hbW hcW h ha hok hL hv hw haW r1 r2 hxe1 hxe2 hL2 hd2 iha ihb hd hnb hn0 hn1
  go_enter Tryz.func83,Tryz.ntmps83
  go_wp2_with fail
  go_region_held3 (fun w'=>(w'.cell? ⟨w.heap.size,1,none⟩=some (.int .i64 (n:Int))∧w'.cell? ⟨w.heap.size,7,none⟩=some (.slice (some ⟨b1,off,none⟩) 2 cc))∧(w'.cell? ⟨0,n*2,none⟩=some (.string tx)∧w'.cell? ⟨0,n*2+1,none⟩=some (.int .i64 li))∧(w'.cell? ⟨b1,off,none⟩=some (.int .i64 k1)∧w'.cell? ⟨b1,off+1,none⟩=some (.int .i64 op1)∧w'.cell? ⟨b1,off+2,none⟩=some (.string (aj KY))∧w'.cell? ⟨b1,off+3,none⟩=some (.string (aj fU))∧w'.cell? ⟨b1,off+4,none⟩=some (.int .i64 fJ)∧w'.cell? ⟨b1,off+5,none⟩=some (.int .i64 fI)∧w'.cell? ⟨b1,off+6,none⟩=some (.string (aj vs1))∧w'.cell? ⟨b1,off+7,none⟩=some (.slice eD dF eB))∧(w'.cell? ⟨b1,off+8,none⟩=some (.int .i64 k2)∧w'.cell? ⟨b1,off+8+1,none⟩=some (.int .i64 op2)∧w'.cell? ⟨b1,off+8+2,none⟩=some (.string (aj tn2))∧w'.cell? ⟨b1,off+8+3,none⟩=some (.string (aj eH))∧w'.cell? ⟨b1,off+8+4,none⟩=some (.int .i64 dS)∧w'.cell? ⟨b1,off+8+5,none⟩=some (.int .i64 dU)∧w'.cell? ⟨b1,off+8+6,none⟩=some (.string (aj vs2))∧w'.cell? ⟨b1,off+8+7,none⟩=some (.slice dR dY dP)))
   (first | exact jJ.out | exact iY.out)
   (first
    | (
     go_at_call 133;refine HC.out.mono ?_
     rintro e w1 ⟨rfl,h1⟩
     have iY:=hid (HS.out w1 (by obtain⟨_,_,_,hf⟩:=h1;exact (ak.aA (Below.refl _ W).drew).then hf))
     have H1:=hid h1
     clear h1)
    | fail)
  go_wp2
  exact bodyPost_end (v:=.tuple #[]) (by simp[results,Tryz.results83,go_sem]) rfl ⟨rfl,Wrote.new Ke.out H1.out⟩
 |
  not a iha =>
  intro hok g tb L d m w v h hx hL h0 jy hd hm
  obtain⟨k,op,tn,nm,vk,vn,vs,ys,aa,nn,cc,he,rfl,ha⟩:=hx
  simp only[Tm.ex,nA,Ex.mk.injEq] at he
  obtain⟨rfl,rfl,rfl,rfl,hv,rfl⟩:=he
  dsimp only
  obtain⟨W,hW,hbW,aJ,hcW⟩:=aK w (.cells #[.int .i64 4,.int .i64 0,.string (aj []),.string (aj []),.int .i64 vk,.int .i64 vn,.string (aj vs),.slice aa nn cc] 48)
  have k0:=aG hcW
  have HB:=hid hbW
  have HC:=hid (Zd a hok.2 hok.1 (iha hok.2) 0 vk vn [] [] vs aa nn cc g tb L d m W (h.below hbW) (ha.new hbW) (by simpa [Tm.tk] using hL) h0 jy hd hm)
  generalize (Tm.not a).tk=T at HC ⊢
  generalize (Tm.not a).dp=D at HC ⊢
  clear hbW hcW h ha hok hL hv hd iha
  go_enter Tryz.func83,Tryz.ntmps83
  go_wp2_with fail
  refine HC.out.mono ?_
  rintro e w1 ⟨rfl,h1⟩
  have HQ:=hid (Wrote.new HB.out h1)
  clear h1 HC
  go_wp2
  exact bodyPost_end (v:=.tuple #[]) (by simp[results,Tryz.results83,go_sem]) rfl ⟨rfl,HQ.out⟩
 |
  neg a iha =>
  intro hok g tb L d m w v h hx hL h0 jy hd hm
  obtain⟨k,op,tn,nm,vk,vn,vs,ys,aa,nn,cc,he,rfl,ha⟩:=hx
  simp only[Tm.ex,nA,Ex.mk.injEq] at he
  obtain⟨rfl,rfl,rfl,rfl,hv,rfl⟩:=he
  dsimp only
  obtain⟨W,hW,hbW,aJ,hcW⟩:=aK w (.cells #[.int .i64 5,.int .i64 0,.string (aj []),.string (aj []),.int .i64 vk,.int .i64 vn,.string (aj vs),.slice aa nn cc] 48)
  have k0:=aG hcW
  have HB:=hid hbW
  obtain⟨g1,g2,g3,b1,off,k1,op1,KY,fU,fJ,fI,vs1,ys1,eD,dF,eB,hxe1,rfl,_,c1,r1⟩:=fH (ha.new hbW)
  rw[List.length_nil,Nat.zero_add] at g1
  subst g1
  unfold maxLen at g3
  have HC:=hid (GK a hok (iha hok) _ g tb L d m W (h.below hbW) (gH.mk' hxe1 r1) (by simpa [Tm.tk] using hL) h0 jy hd hm)
  generalize (Tm.neg a).tk=T at HC ⊢
  generalize (Tm.neg a).dp=D at HC ⊢
  unfold Cells8 at c1
  clear hbW hcW h ha hok hL hv hd iha r1 hxe1
  go_enter Tryz.func83,Tryz.ntmps83
  go_wp2_with fail
  refine HC.out.mono ?_
  rintro e w1 ⟨rfl,h1⟩
  have HQ:=hid (Wrote.new HB.out h1)
  clear h1 HC
  go_wp2
  exact bodyPost_end (v:=.tuple #[]) (by simp[results,Tryz.results83,go_sem]) rfl ⟨rfl,HQ.out⟩
 |
  zZ a iha =>
  intro hok g tb L d m w v h hx hL h0 jy hd hm
  obtain⟨k,op,tn,nm,vk,vn,vs,ys,aa,nn,cc,he,rfl,ha⟩:=hx
  simp only[Tm.ex,nA,Ex.mk.injEq] at he
  obtain⟨rfl,rfl,rfl,rfl,hv,rfl⟩:=he
  dsimp only
  obtain⟨W,hW,hbW,aJ,hcW⟩:=aK w (.cells #[.int .i64 6,.int .i64 0,.string (aj []),.string (aj []),.int .i64 vk,.int .i64 vn,.string (aj vs),.slice aa nn cc] 48)
  have k0:=aG hcW
  have HB:=hid hbW
  have hw:=h.below hbW
  have hlt1:g<W.heap.size:=hw.lt
  obtain⟨V,hV,mU,K4,wH⟩:=aK W (.cells #[.string ⟨#[73,83]⟩,.string ⟨#[78,85,76,76]⟩] 9)
  have HC:=hid (Oi a hok (iha hok) 6 0 vk vn [] [] vs aa nn cc [[73,83],[78,85,76,76]] (by decide) (by decide) (.slice (some ⟨W.heap.size,0,none⟩) 2 2) g tb L d m V (hw.below mU) ((ha.new hbW).new mU) ⟨_,_,rfl,by decide,fun _=>⟨_,rfl,by omega,fun e=>by have:=(hw.O1 _ e).2;omega,K4,fun j t ht=>by
   rw[aB _ _ _ _ _ _ wH]
   match j,ht with
   | 0,ht=>cases ht;rfl
   | 1,ht=>cases ht;rfl⟩⟩ (by simpa [Tm.tk] using hL) h0 jy hd hm)
  show Calls Tryz.prog 83 _ _ fun e w'=>_∧Wrote g tb w w' (L++(oV 4 a.lv a.tk++ay [[73,83],[78,85,76,76]])) d (max m (d+(pO 4 a.lv a.dp:Nat)))
  generalize oV 4 a.lv a.tk++ay [[73,83],[78,85,76,76]]=T at HC ⊢
  generalize pO 4 a.lv a.dp=D at HC ⊢
  have HB:=htr HB mU
  clear hbW hcW h ha hok hL hv hd iha hw mU wH
  go_enter Tryz.func83,Tryz.ntmps83
  go_wp2_with fail
  try rw[hV]
  refine HC.out.mono ?_
  rintro e w1 ⟨rfl,h1⟩
  have HQ:=hid (Wrote.new HB.out h1)
  clear h1 HC
  go_wp2
  exact bodyPost_end (v:=.tuple #[]) (by simp[results,Tryz.results83,go_sem]) rfl ⟨rfl,HQ.out⟩
 |
  ny a iha =>
  intro hok g tb L d m w v h hx hL h0 jy hd hm
  obtain⟨k,op,tn,nm,vk,vn,vs,ys,aa,nn,cc,he,rfl,ha⟩:=hx
  simp only[Tm.ex,nA,Ex.mk.injEq] at he
  obtain⟨rfl,rfl,rfl,rfl,hv,rfl⟩:=he
  dsimp only
  obtain⟨W,hW,hbW,aJ,hcW⟩:=aK w (.cells #[.int .i64 4,.int .i64 0,.string (aj []),.string (aj []),.int .i64 vk,.int .i64 vn,.string (aj vs),.slice aa nn cc] 48)
  have k0:=aG hcW
  have HB:=hid hbW
  have HC:=hid (Um a hok (iha hok) 0 vk vn [] [] vs aa nn cc g tb L d m W (h.below hbW) (ha.new hbW) (by simpa [Tm.tk] using hL) h0 jy hd hm)
  generalize (Tm.ny a).tk=T at HC ⊢
  generalize (Tm.ny a).dp=D at HC ⊢
  clear hbW hcW h ha hok hL hv hd iha
  go_enter Tryz.func83,Tryz.ntmps83
  go_wp2_with fail
  refine HC.out.mono ?_
  rintro e w1 ⟨rfl,h1⟩
  have HQ:=hid (Wrote.new HB.out h1)
  clear h1 HC
  go_wp2
  exact bodyPost_end (v:=.tuple #[]) (by simp[results,Tryz.results83,go_sem]) rfl ⟨rfl,HQ.out⟩
inductive mO:Ex→Prop
 | mk (k op:Int) (tb nm:List UInt8) (v:Vl) (xs:List Ex) (h1 : -9223372036854775808≤v.n) (h2:v.n≤9223372036854775807) (h3:v.s.length≤9223372036854775807) (h4:tb.length≤9223372036854775807) (h5:nm.length≤9223372036854775807) (hx : ∀x∈xs,mO x):mO (.mk k op tb nm v xs)
theorem bf (s:List UInt8):(aj s).toList.isEmpty=decide (s=[]):=by
 rw[aS]
 cases s<;>simp
theorem Hq (s:List UInt8) (w:World) (hs:s.length≤9223372036854775807) :
  Calls Tryz.prog 128 #[.string (aj s)] w fun e w'=>e = .returned (.bool (oI s))∧Below w.heap.size w w':=by
 have HN:=hid (je s w hs)
 have he:=bf s
 by_cases h0:s=[]
 ·have hd:oI s=true:=by unfold oI;rw[aar h0];rfl
  rw[hd]
  rw[aar h0] at he
  clear hd h0
  generalize aj s=S at HN he ⊢
  go_enter Tryz.func128,Tryz.ntmps128
  go_wp2
  go_ret
  exact⟨rfl,Below.refl _ _⟩
 ·have hd:oI s=aU s:=by unfold oI;rw[aaj h0];rfl
  rw[hd]
  rw[aaj h0] at he
  clear hd h0
  generalize aj s=S at HN he ⊢
  go_enter Tryz.func128,Tryz.ntmps128
  go_wp2_with fail
  refine HN.out.mono ?_
  rintro e w1 ⟨rfl,hb1⟩
  have HB:=hid hb1
  clear hb1 HN
  go_wp2
  go_ret
  exact⟨rfl,HB.out⟩
theorem Mx (o:Int) (w:World):Calls Tryz.prog 129 #[.int .i64 o] w fun e w'=>e = .returned (.bool (decide (1≤o∧o≤13)))∧w'=w:=by
 by_cases h1:1≤o
 ·by_cases h2:o≤13
  ·rw[aar ⟨h1,h2⟩]
   have h2':o<14:=by omega
   go_enter Tryz.func129,Tryz.ntmps129
   go_wp2
   go_ret
   exact⟨rfl,rfl⟩
  ·rw[aaj (fun h=>h2 h.2)]
   have h2' : ¬o<14:=by omega
   clear h2
   go_enter Tryz.func129,Tryz.ntmps129
   go_wp2
   go_ret
   exact⟨rfl,rfl⟩
 ·rw[aaj (fun h=>h1 h.1)]
  go_enter Tryz.func129,Tryz.ntmps129
  go_wp2
  go_ret
  exact⟨rfl,rfl⟩
theorem qd (k n:Int) (s:List UInt8) (w:World) (h1 : -9223372036854775808≤n) (h2:n≤9223372036854775807) (hs:s.length≤9223372036854775807) :
  Calls Tryz.prog 127 #[.agg #[.int .i64 k,.int .i64 n,.string (aj s)]] w fun e w'=>e = .returned (.bool (dV ⟨k,n,s⟩))∧Below w.heap.size w w':=by
 obtain⟨W,hW,hbW,aJ,hcW⟩:=aK w (.cells #[.int .i64 k,.int .i64 n,.string (aj s)] 46)
 have k0:=iZ hcW
 have HR:=hid (KH k n s W hs)
 have HB:=hid hbW
 have HC:=hid hcW
 have hd:dV ⟨k,n,s⟩=(decide (eY ⟨k,n,s⟩=0)&&decide (n≠-9223372036854775808)):=by
  unfold dV
  dsimp only
  congr 1
  rw[Bool.eq_iff_iff,aaI,aaI]
  omega
 rw[hd]
 clear hd hbW hcW
 by_cases h0:eY ⟨k,n,s⟩=0
 ·rw[h0] at HR
  rw[aar h0,aaA]
  clear h0
  by_cases hm:n = -9223372036854775808
  ·have hm':(n != -9223372036854775808)=false:=by rw[hm];rfl
   rw[aaj (fun h=>h hm)]
   clear hm h1 h2
   go_enter Tryz.func127,Tryz.ntmps127
   go_wp2_with fail
   refine HR.out.mono ?_
   rintro e w1 ⟨rfl,hb1⟩
   have k1:=iZ ((hb1.block w.heap.size aJ).trans HC.out)
   have HB1:=htr HB hb1
   clear hb1 HR
   go_wp2
   go_ret
   exact⟨rfl,HB1.out⟩
  ·have hm':(n != -9223372036854775808)=true:=by rw[bne_iff_ne];exact hm
   rw[aar hm]
   clear hm h1 h2
   go_enter Tryz.func127,Tryz.ntmps127
   go_wp2_with fail
   refine HR.out.mono ?_
   rintro e w1 ⟨rfl,hb1⟩
   have k1:=iZ ((hb1.block w.heap.size aJ).trans HC.out)
   have HB1:=htr HB hb1
   clear hb1 HR
   go_wp2
   go_ret
   exact⟨rfl,HB1.out⟩
 ·rw[aaj h0,aaz]
  have h0':(((eY ⟨k,n,s⟩:Nat):Int)==0)=false:=by rw[aai];omega
  generalize ((eY ⟨k,n,s⟩:Nat):Int)=r at HR h0'
  clear h0 h1 h2
  go_enter Tryz.func127,Tryz.ntmps127
  go_wp2_with fail
  refine HR.out.mono ?_
  rintro e w1 ⟨rfl,hb1⟩
  have HB1:=htr HB hb1
  clear hb1 HR
  go_wp2
  go_ret
  exact⟨rfl,HB1.out⟩
def EN (op:Int) (tb nm:List UInt8) (v:Vl) (n:Nat):Bool:=decide (op=0)&&(decide (tb=[])&&(decide (nm=[])&&(eqv v zV&&decide (n=0))))
theorem zw (op:Int) (tb nm:List UInt8) (vk vn:Int) (vs:List UInt8) (aa:Option Addr) (nn cc:Nat) (w:World) :
  Calls Tryz.prog 130 #[.agg #[.int .i64 0,.int .i64 op,.string (aj tb),.string (aj nm),.int .i64 vk,.int .i64 vn,.string (aj vs),.slice aa nn cc]] w fun e w'=>e = .returned (.bool (EN op tb nm ⟨vk,vn,vs⟩ nn))∧Below w.heap.size w w':=by
 have htb:=bf tb
 have hnm:=bf nm
 have heq : ∀W,(binOp .eql 46 (.agg #[.int .i64 vk,.int .i64 vn,.string (aj vs)]) (.agg #[.int .i64 0,.int .i64 0,.string ⟨#[]⟩])).run Tryz.prog W = .ok (.bool (eqv ⟨vk,vn,vs⟩ zV)) W:=fun W=>wC ⟨vk,vn,vs⟩ zV W
 have hgd:=Tryz.jV
 unfold EN
 by_cases h1:op=0
 ·rw[aar h1,aaA]
  have g1:(op==0)=true:=by rw[h1];rfl
  by_cases h2:tb=[]
  ·rw[aar h2,aaA]
   rw[aar h2] at htb
   by_cases h3:nm=[]
   ·rw[aar h3,aaA]
    rw[aar h3] at hnm
    by_cases h4:eqv ⟨vk,vn,vs⟩ zV=true
    ·rw[h4] at heq ⊢
     rw[aaA]
     by_cases h5:nn=0
     ·rw[aar h5]
      have g5:((nn:Int)==0)=true:=by rw[h5];rfl
      clear h1 h2 h3 h4 h5
      obtain⟨W,hW,hbW,aJ,hcW⟩:=aK w (.cells #[.int .i64 0,.int .i64 op,.string (aj tb),.string (aj nm),.int .i64 vk,.int .i64 vn,.string (aj vs),.slice aa nn cc] 48)
      have k0:=aG hcW
      have HB:=hid hbW
      clear hbW hcW
      go_enter Tryz.func130,Tryz.ntmps130
      go_wp2
      go_ret
      exact⟨rfl,HB.out⟩
     ·rw[aaj h5]
      have g5:((nn:Int)==0)=false:=by rw[aai];omega
      clear h1 h2 h3 h4 h5
      obtain⟨W,hW,hbW,aJ,hcW⟩:=aK w (.cells #[.int .i64 0,.int .i64 op,.string (aj tb),.string (aj nm),.int .i64 vk,.int .i64 vn,.string (aj vs),.slice aa nn cc] 48)
      have k0:=aG hcW
      have HB:=hid hbW
      clear hbW hcW
      go_enter Tryz.func130,Tryz.ntmps130
      go_wp2
      go_ret
      exact⟨rfl,HB.out⟩
    ·have h4:eqv ⟨vk,vn,vs⟩ zV=false:=by simpa using h4
     rw[h4] at heq ⊢
     rw[aaz]
     clear h1 h2 h3 h4
     obtain⟨W,hW,hbW,aJ,hcW⟩:=aK w (.cells #[.int .i64 0,.int .i64 op,.string (aj tb),.string (aj nm),.int .i64 vk,.int .i64 vn,.string (aj vs),.slice aa nn cc] 48)
     have k0:=aG hcW
     have HB:=hid hbW
     clear hbW hcW
     go_enter Tryz.func130,Tryz.ntmps130
     go_wp2
     go_ret
     exact⟨rfl,HB.out⟩
   ·rw[aaj h3,aaz]
    rw[aaj h3] at hnm
    clear h1 h2 h3
    obtain⟨W,hW,hbW,aJ,hcW⟩:=aK w (.cells #[.int .i64 0,.int .i64 op,.string (aj tb),.string (aj nm),.int .i64 vk,.int .i64 vn,.string (aj vs),.slice aa nn cc] 48)
    have k0:=aG hcW
    have HB:=hid hbW
    clear hbW hcW
    go_enter Tryz.func130,Tryz.ntmps130
    go_wp2
    go_ret
    exact⟨rfl,HB.out⟩
  ·rw[aaj h2,aaz]
   rw[aaj h2] at htb
   clear h1 h2
   obtain⟨W,hW,hbW,aJ,hcW⟩:=aK w (.cells #[.int .i64 0,.int .i64 op,.string (aj tb),.string (aj nm),.int .i64 vk,.int .i64 vn,.string (aj vs),.slice aa nn cc] 48)
   have k0:=aG hcW
   have HB:=hid hbW
   clear hbW hcW
   go_enter Tryz.func130,Tryz.ntmps130
   go_wp2
   go_ret
   exact⟨rfl,HB.out⟩
 ·rw[aaj h1,aaz]
  have g1:(op==0)=false:=by simpa using h1
  clear h1
  obtain⟨W,hW,hbW,aJ,hcW⟩:=aK w (.cells #[.int .i64 0,.int .i64 op,.string (aj tb),.string (aj nm),.int .i64 vk,.int .i64 vn,.string (aj vs),.slice aa nn cc] 48)
  have k0:=aG hcW
  have HB:=hid hbW
  clear hbW hcW
  go_enter Tryz.func130,Tryz.ntmps130
  go_wp2
  go_ret
  exact⟨rfl,HB.out⟩
end Go.Proofs.YtfeglkleoijlaaaGreatDoor
