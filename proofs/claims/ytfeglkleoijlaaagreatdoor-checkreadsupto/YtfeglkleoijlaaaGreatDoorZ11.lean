/- Packed for the hand-in: WExprC WRight -/
import Derived.Test.YtfeglkleoijlaaaGreatDoorZ10
import Derived.Deep.RegionHeld3
import Derived.Test.YtfeglkleoijlaaaGreatDoorZ08
namespace Go.Proofs.YtfeglkleoijlaaaGreatDoor
open Go.RowKit Go.Shelf
set_option linter.unusedSimpArgs false
set_option linter.unusedVariables false
set_option maxRecDepth 20000
set_option maxHeartbeats 8000000
theorem BM (a:Tm) {k op:Int} {tn nm:List UInt8} {vk vn:Int} {vs:List UInt8} {ys:List Ex} (he:a.ex = .mk k op tn nm ⟨vk,vn,vs⟩ ys):(a.isNum=true↔k=1∧vk=1∧0≤vn):=by
 cases a with
 |
  val v =>
  simp only[Tm.ex,rU,Ex.mk.injEq] at he
  obtain⟨rfl,_,_,_,rfl,_⟩:=he
  simp[Tm.isNum]
 | col x y=>simp only[Tm.ex,pQ,Ex.mk.injEq] at he;obtain⟨rfl,_⟩:=he;simp[Tm.isNum]
 | op x y z=>simp only[Tm.ex,yQ,Ex.mk.injEq] at he;obtain⟨rfl,_⟩:=he;simp[Tm.isNum]
 | not x=>simp only[Tm.ex,gD,Ex.mk.injEq] at he;obtain⟨rfl,_⟩:=he;simp[Tm.isNum]
 | neg x=>simp only[Tm.ex,gD,Ex.mk.injEq] at he;obtain⟨rfl,_⟩:=he;simp[Tm.isNum]
 | nul x=>simp only[Tm.ex,gD,Ex.mk.injEq] at he;obtain⟨rfl,_⟩:=he;simp[Tm.isNum]
 | nnul x=>simp only[Tm.ex,gD,Ex.mk.injEq] at he;obtain⟨rfl,_⟩:=he;simp[Tm.isNum]
theorem xJ (a:Tm) (hok:a.ok) (hX:Ez a) (va:Value)
  (g:Nat) (tb:Option Nat) (L:List Tk) (d m:Int) (w:World) (h:bJ w g tb L d m) (hxa:fB (fun b=>b<g) w a.ex va) (hL:L.length+((jw (negL a) a.lv a.tk).length+1)≤1000000000) (h0:0≤d) (hdm:d≤m) (hd:d+(jI (negL a) a.lv a.dp+1:Nat)≤1000000000) (hm:m≤1000000000) :
  Calls Tryz.prog 135 #[.pointer (some ⟨g,0,none⟩),va] w fun e w'=>e = .returned (.tuple #[])∧Wrote g tb w w' (L++(Tm.neg a).tk) d (max m (d+((Tm.neg a).dp:Nat))):=by
 have HXA:=hid hxa
 obtain⟨k,op,tn,nm,vk,vn,vs,ys,aa,nn,cc,he,rfl,ha⟩:=hxa
 have hnum:=BM a he
 obtain⟨W,hW,hbW,hzW,hcW⟩:=aL w (.cells #[.int .i64 k,.int .i64 op,.string (aj tn),.string (aj nm),.int .i64 vk,.int .i64 vn,.string (aj vs),.slice aa nn cc] 48)
 have k0:=aN hcW
 have HB:=hid hbW
 have hla:=fG (negL a) a.lv a.tk
 have hda:=gY (negL a) a.lv a.dp
 have HBX:=hid (dn.mk' h hcW (Nat.le_refl _))
 have hw:=h.below hbW
 have HW:=hid hw
 have HX:=hid (HXA.out.new hbW)
 have HT:Hid (Calls Tryz.prog 98 #[.pointer (some ⟨g,0,none⟩),.slice (some ⟨W.heap.size,0,none⟩) 1 1] (W.alloc (.cells #[.string ⟨#[45]⟩] 9)) fun e w'=>e = .returned (.tuple #[])∧Wrote g tb W w' (L++au [[45]]) d m):=hid (aG g tb L d m [[45]] W hw (by decide) (by decide) (by simp;omega))
 show Calls Tryz.prog 135 _ _ fun e w'=>_∧Wrote g tb w w' (L++(aK [45]::jw (negL a) a.lv a.tk)) d (max m (d+((jI (negL a) a.lv a.dp+1:Nat):Int)))
 have hDE:=nJ (negL a) a hok hX
 generalize jw (negL a) a.lv a.tk=T at hDE hla hL ⊢
 generalize jI (negL a) a.lv a.dp=D at hDE hda hd ⊢
 have hN:negL a=if a.isNum=true then 7 else 6:=rfl
 clear hbW hcW h ha he hok hw HXA
 have hcase:((k==1)=true∧(vk==1)=true∧0≤vn∧Je 7 a T (D+1))∨(((k==1)=false∨((k==1)=true∧(vk==1)=false)∨((k==1)=true∧(vk==1)=true∧¬0≤vn))∧Je 6 a T (D+1)):=by
  by_cases hn:a.isNum=true
  ·rw[hN,if_pos hn] at hDE
   obtain⟨h1,h2,h3⟩:=hnum.1 hn
   exact .inl ⟨by rw[h1];rfl,by rw[h2];rfl,h3,hDE⟩
  ·rw[hN,if_neg hn] at hDE
   refine .inr ⟨?_,hDE⟩
   by_cases h1:k=1
   ·by_cases h2:vk=1
    ·exact .inr (.inr ⟨by rw[h1];rfl,by rw[h2];rfl,fun h3=>hn (hnum.2 ⟨h1,h2,h3⟩)⟩)
    ·exact .inr (.inl ⟨by rw[h1];rfl,by simpa using h2⟩)
   ·exact .inl (by simpa using h1)
 clear hDE hN hnum
 rcases hcase with⟨hk1,hv1,hn0,hDE⟩ | ⟨hk1 | ⟨hk1,hv1⟩ | ⟨hk1,hv1,hn0⟩,hDE⟩
 ·go_enter Tryz.func135,Tryz.ntmps135
  go_wp2_with fail
  refine HT.out.mono ?_
  rintro e w2 ⟨rfl,tb2,hw2,ht2,hf2⟩
  have k2:=aN (HBX.out.on ht2 hf2).at'
  have HD2:=hid (hDE g tb2 (L++au [[45]]) d m w2 _ hw2 (HX.out.qV HW.out hf2) (by simp[au];omega) h0 hdm (by omega) hm)
  have HT2:=hid ht2
  have HF2:=hid hf2
  clear hw2 ht2 hf2 HT
  go_wp2_with fail
  refine HD2.out.mono ?_
  rintro e w3 ⟨rfl,h3⟩
  have HQ:Hid (Wrote g tb w w3 (L++aK [45]::T) d (max m (d+((D+1:Nat):Int)))):=hid (by
   have:=Wrote.new HB.out (Wrote.then HT2.out HF2.out h3)
   rw[show L++au [[45]]++T=L++aK [45]::T by simp[au]] at this
   exact this)
  clear h3 HD2
  go_wp2
  exact bodyPost_end (v:=.tuple #[]) (by simp[results,Tryz.results135,go_sem]) rfl ⟨rfl,HQ.out⟩
 ·go_enter Tryz.func135,Tryz.ntmps135
  go_wp2_with fail
  refine HT.out.mono ?_
  rintro e w2 ⟨rfl,tb2,hw2,ht2,hf2⟩
  have k2:=aN (HBX.out.on ht2 hf2).at'
  have HD2:=hid (hDE g tb2 (L++au [[45]]) d m w2 _ hw2 (HX.out.qV HW.out hf2) (by simp[au];omega) h0 hdm (by omega) hm)
  have HT2:=hid ht2
  have HF2:=hid hf2
  clear hw2 ht2 hf2 HT
  go_wp2_with fail
  refine HD2.out.mono ?_
  rintro e w3 ⟨rfl,h3⟩
  have HQ:Hid (Wrote g tb w w3 (L++aK [45]::T) d (max m (d+((D+1:Nat):Int)))):=hid (by
   have:=Wrote.new HB.out (Wrote.then HT2.out HF2.out h3)
   rw[show L++au [[45]]++T=L++aK [45]::T by simp[au]] at this
   exact this)
  clear h3 HD2
  go_wp2
  exact bodyPost_end (v:=.tuple #[]) (by simp[results,Tryz.results135,go_sem]) rfl ⟨rfl,HQ.out⟩
 ·go_enter Tryz.func135,Tryz.ntmps135
  go_wp2_with fail
  refine HT.out.mono ?_
  rintro e w2 ⟨rfl,tb2,hw2,ht2,hf2⟩
  have k2:=aN (HBX.out.on ht2 hf2).at'
  have HD2:=hid (hDE g tb2 (L++au [[45]]) d m w2 _ hw2 (HX.out.qV HW.out hf2) (by simp[au];omega) h0 hdm (by omega) hm)
  have HT2:=hid ht2
  have HF2:=hid hf2
  clear hw2 ht2 hf2 HT
  go_wp2_with fail
  refine HD2.out.mono ?_
  rintro e w3 ⟨rfl,h3⟩
  have HQ:Hid (Wrote g tb w w3 (L++aK [45]::T) d (max m (d+((D+1:Nat):Int)))):=hid (by
   have:=Wrote.new HB.out (Wrote.then HT2.out HF2.out h3)
   rw[show L++au [[45]]++T=L++aK [45]::T by simp[au]] at this
   exact this)
  clear h3 HD2
  go_wp2
  exact bodyPost_end (v:=.tuple #[]) (by simp[results,Tryz.results135,go_sem]) rfl ⟨rfl,HQ.out⟩
 ·go_enter Tryz.func135,Tryz.ntmps135
  go_wp2_with fail
  refine HT.out.mono ?_
  rintro e w2 ⟨rfl,tb2,hw2,ht2,hf2⟩
  have k2:=aN (HBX.out.on ht2 hf2).at'
  have HD2:=hid (hDE g tb2 (L++au [[45]]) d m w2 _ hw2 (HX.out.qV HW.out hf2) (by simp[au];omega) h0 hdm (by omega) hm)
  have HT2:=hid ht2
  have HF2:=hid hf2
  clear hw2 ht2 hf2 HT
  go_wp2_with fail
  refine HD2.out.mono ?_
  rintro e w3 ⟨rfl,h3⟩
  have HQ:Hid (Wrote g tb w w3 (L++aK [45]::T) d (max m (d+((D+1:Nat):Int)))):=hid (by
   have:=Wrote.new HB.out (Wrote.then HT2.out HF2.out h3)
   rw[show L++au [[45]]++T=L++aK [45]::T by simp[au]] at this
   exact this)
  clear h3 HD2
  go_wp2
  exact bodyPost_end (v:=.tuple #[]) (by simp[results,Tryz.results135,go_sem]) rfl ⟨rfl,HQ.out⟩
theorem Dm : ∀t:Tm,t.ok→Ez t:=by
 intro t
 induction t with
 |
  val x =>
  intro hok g tb L d m w v h hx hL h0 hdm hd hm
  obtain⟨k,op,tn,nm,vk,vn,vs,ys,aa,nn,cc,he,rfl,ha⟩:=hx
  simp only[Tm.ex,rU,Ex.mk.injEq] at he
  obtain⟨rfl,rfl,rfl,rfl,rfl,rfl⟩:=he
  have e1:max m (d+((Tm.val ⟨vk,vn,vs⟩).dp:Nat))=m:=by show max m (d+((0:Nat):Int))=m;omega
  rw[e1]
  dsimp only
  obtain⟨W,hW,hbW,hzW,hcW⟩:=aL w (.cells #[.int .i64 1,.int .i64 0,.string (aj []),.string (aj []),.int .i64 vk,.int .i64 vn,.string (aj vs),.slice aa nn cc] 48)
  have k0:=aN hcW
  have HB:=hid hbW
  have HC:=hid (tq g tb L d m W (h.below hbW) ⟨vk,vn,vs⟩ hok hL)
  dsimp only at HC
  show Calls Tryz.prog 83 _ _ fun e w'=>_∧Wrote g tb w w' (L++iX ⟨vk,vn,vs⟩) d m
  generalize iX ⟨vk,vn,vs⟩=T at HC ⊢
  clear hbW hcW h ha hok hL e1
  go_enter Tryz.func83,Tryz.ntmps83
  go_wp2_with fail
  refine HC.out.mono ?_
  rintro e w1 ⟨rfl,h1⟩
  have HQ:=hid (Wrote.new HB.out h1)
  clear h1 HC
  go_wp2
  exact bodyPost_end (v:=.tuple #[]) (by simp[results,Tryz.results83,go_sem]) rfl ⟨rfl,HQ.out⟩
 |
  col x y =>
  intro hok g tb L d m w v h hx hL h0 hdm hd hm
  obtain⟨k,op,tn,nm,vk,vn,vs,ys,aa,nn,cc,he,rfl,ha⟩:=hx
  simp only[Tm.ex,pQ,Ex.mk.injEq] at he
  obtain⟨rfl,rfl,rfl,rfl,hv,rfl⟩:=he
  have e1:max m (d+((Tm.col x y).dp:Nat))=m:=by show max m (d+((0:Nat):Int))=m;omega
  rw[e1]
  dsimp only
  obtain⟨W,hW,hbW,hzW,hcW⟩:=aL w (.cells #[.int .i64 2,.int .i64 0,.string (aj x),.string (aj y),.int .i64 vk,.int .i64 vn,.string (aj vs),.slice aa nn cc] 48)
  have k0:=aN hcW
  have HB:=hid hbW
  have HC:=hid (Di g tb L d m W (h.below hbW) x y 2 0 vk vn vs aa nn cc hL)
  generalize (Tm.col x y).tk=T at HC ⊢
  clear hbW hcW h ha hok hL e1 hv
  go_enter Tryz.func83,Tryz.ntmps83
  go_wp2_with fail
  refine HC.out.mono ?_
  rintro e w1 ⟨rfl,h1⟩
  have HQ:=hid (Wrote.new HB.out h1)
  clear h1 HC
  go_wp2
  exact bodyPost_end (v:=.tuple #[]) (by simp[results,Tryz.results83,go_sem]) rfl ⟨rfl,HQ.out⟩
 |
  op o a b iha ihb =>
  intro hok g tb L d m w v h hx hL h0 hdm hd hm
  obtain⟨k,op,tn,nm,vk,vn,vs,ys,aa,nn,cc,he,rfl,ha⟩:=hx
  simp only[Tm.ex,yQ,Ex.mk.injEq] at he
  obtain⟨rfl,rfl,rfl,rfl,hv,rfl⟩:=he
  dsimp only
  obtain⟨W,hW,hbW,hzW,hcW⟩:=aL w (.cells #[.int .i64 3,.int .i64 o,.string (aj []),.string (aj []),.int .i64 vk,.int .i64 vn,.string (aj vs),.slice aa nn cc] 48)
  have k0:=aN hcW
  have HB:=hid hbW
  have hw:=h.below hbW
  have hL2:L.length+((jw (xE o) a.lv a.tk).length+((jw (cZ o+1) b.lv b.tk).length+1))≤1000000000:=by
   have:=hL
   simp only[Tm.tk,List.length_append,List.length_cons] at this
   omega
  have hd2:d+((max (jI (xE o) a.lv a.dp) (jI (cZ o+1) b.lv b.dp):Nat):Int)≤1000000000:=hd
  have haW:=ha.new hbW
  obtain⟨g1,g2,g3,b1,off,k1,op1,tn1,nm1,vk1,vn1,vs1,ys1,aa1,nn1,cc1,hxe1,rfl,hb1g,c1,r1⟩:=dI haW
  obtain⟨_,_,_,b2,off2,k2,op2,tn2,nm2,vk2,vn2,vs2,ys2,aa2,nn2,cc2,hxe2,hbo,_,c2,r2⟩:=wz haW (j:=1) (x:=b.ex) rfl
  simp only[Option.some.injEq,Addr.mk.injEq,and_true] at hbo
  obtain⟨rfl,rfl⟩:=hbo
  rw[Nat.one_mul] at c2
  rw[show [b.ex].length+1=2 from rfl] at g1
  subst g1
  unfold maxLen at g3
  have HC0:=hid (fun V (hV:bJ V g tb L d m) (hb:Below W.heap.size W V)=>wT o hok.1 hok.2.1 a b hok.2.2.1 hok.2.2.2 (iha hok.2.2.1) (ihb hok.2.2.2) _ _ g tb L d m V hV (fB.mk' hxe1 (r1.new hb)) (fB.mk' hxe2 (r2.new hb)) hL2 h0 hdm (by omega) (by omega) hm)
  have HC:=hid (HC0.out W.drew (hw.below (Below.refl _ W).drew) (Below.refl _ W).drew)
  clear HC0
  obtain⟨n,hn,hn13,ho1,ho2⟩:=zC hw.tab.ops hok.1 hok.2.1
  generalize (Tm.op o a b).tk=T at HC ⊢
  generalize (Tm.op o a b).dp=D at HC ⊢
  generalize aj (oh o)=tx at HC ho1
  generalize ((cZ o:Nat):Int)=li at HC ho2
  subst hn
  have hn14:((n:Int)<14):=by omega
  have HBD:=hid (HB.out.drew)
  have hnb : ¬(w.heap.size=g∨tb=some w.heap.size):=fun e=>by
   rcases e with e | e
   ·have:=h.lt;omega
   ·have:=(h.EB _ e).2;omega
  have hn0 : ¬((0:Nat)=g∨tb=some 0):=fun e=>by
   rcases e with e | e
   ·have:=h.big;omega
   ·have:=(h.EB _ e).1;have:=h.big;omega
  have hn1 : ¬(b1=g∨tb=some b1):=fun e=>by
   rcases e with e | e
   ·omega
   ·have:=(h.EB _ e).1;omega
  have HS:Hid (∀V,cB g tb W V→(fun w'=>(w'.cell? ⟨w.heap.size,1,none⟩=some (.int .i64 (n:Int))∧w'.cell? ⟨w.heap.size,7,none⟩=some (.slice (some ⟨b1,off,none⟩) 2 cc))∧(w'.cell? ⟨0,n*2,none⟩=some (.string tx)∧w'.cell? ⟨0,n*2+1,none⟩=some (.int .i64 li))∧(w'.cell? ⟨b1,off,none⟩=some (.int .i64 k1)∧w'.cell? ⟨b1,off+1,none⟩=some (.int .i64 op1)∧w'.cell? ⟨b1,off+2,none⟩=some (.string (aj tn1))∧w'.cell? ⟨b1,off+3,none⟩=some (.string (aj nm1))∧w'.cell? ⟨b1,off+4,none⟩=some (.int .i64 vk1)∧w'.cell? ⟨b1,off+5,none⟩=some (.int .i64 vn1)∧w'.cell? ⟨b1,off+6,none⟩=some (.string (aj vs1))∧w'.cell? ⟨b1,off+7,none⟩=some (.slice aa1 nn1 cc1))∧(w'.cell? ⟨b1,off+8,none⟩=some (.int .i64 k2)∧w'.cell? ⟨b1,off+8+1,none⟩=some (.int .i64 op2)∧w'.cell? ⟨b1,off+8+2,none⟩=some (.string (aj tn2))∧w'.cell? ⟨b1,off+8+3,none⟩=some (.string (aj nm2))∧w'.cell? ⟨b1,off+8+4,none⟩=some (.int .i64 vk2)∧w'.cell? ⟨b1,off+8+5,none⟩=some (.int .i64 vn2)∧w'.cell? ⟨b1,off+8+6,none⟩=some (.string (aj vs2))∧w'.cell? ⟨b1,off+8+7,none⟩=some (.slice aa2 nn2 cc2))) V):=hid (fun V hf=>⟨⟨hf.cell k0.2.1 hnb,hf.cell k0.2.2.2.2.2.2.2 hnb⟩,⟨hf.cell ho1 hn0,hf.cell ho2 hn0⟩,c1.on hf hn1,c2.on hf hn1⟩)
  have HS0:=hid (HS.out W.drew (aA.aC (Below.refl _ W).drew))
  unfold Cells8 at c1 c2
  clear hbW hcW h ha hok hL hv hw haW r1 r2 hxe1 hxe2 hL2 hd2 iha ihb hd hnb hn0 hn1
  go_enter Tryz.func83,Tryz.ntmps83
  go_wp2_with fail
  go_region_held3 (fun w'=>(w'.cell? ⟨w.heap.size,1,none⟩=some (.int .i64 (n:Int))∧w'.cell? ⟨w.heap.size,7,none⟩=some (.slice (some ⟨b1,off,none⟩) 2 cc))∧(w'.cell? ⟨0,n*2,none⟩=some (.string tx)∧w'.cell? ⟨0,n*2+1,none⟩=some (.int .i64 li))∧(w'.cell? ⟨b1,off,none⟩=some (.int .i64 k1)∧w'.cell? ⟨b1,off+1,none⟩=some (.int .i64 op1)∧w'.cell? ⟨b1,off+2,none⟩=some (.string (aj tn1))∧w'.cell? ⟨b1,off+3,none⟩=some (.string (aj nm1))∧w'.cell? ⟨b1,off+4,none⟩=some (.int .i64 vk1)∧w'.cell? ⟨b1,off+5,none⟩=some (.int .i64 vn1)∧w'.cell? ⟨b1,off+6,none⟩=some (.string (aj vs1))∧w'.cell? ⟨b1,off+7,none⟩=some (.slice aa1 nn1 cc1))∧(w'.cell? ⟨b1,off+8,none⟩=some (.int .i64 k2)∧w'.cell? ⟨b1,off+8+1,none⟩=some (.int .i64 op2)∧w'.cell? ⟨b1,off+8+2,none⟩=some (.string (aj tn2))∧w'.cell? ⟨b1,off+8+3,none⟩=some (.string (aj nm2))∧w'.cell? ⟨b1,off+8+4,none⟩=some (.int .i64 vk2)∧w'.cell? ⟨b1,off+8+5,none⟩=some (.int .i64 vn2)∧w'.cell? ⟨b1,off+8+6,none⟩=some (.string (aj vs2))∧w'.cell? ⟨b1,off+8+7,none⟩=some (.slice aa2 nn2 cc2)))
   (first | exact HS0.out | exact HS1.out)
   (first
    | (
     go_at_call 133;refine HC.out.mono ?_
     rintro e w1 ⟨rfl,h1⟩
     have HS1:=hid (HS.out w1 (by obtain⟨_,_,_,hf⟩:=h1;exact (aA.aC (Below.refl _ W).drew).then hf))
     have H1:=hid h1
     clear h1)
    | fail)
  go_wp2
  exact bodyPost_end (v:=.tuple #[]) (by simp[results,Tryz.results83,go_sem]) rfl ⟨rfl,Wrote.new HBD.out H1.out⟩
 |
  not a iha =>
  intro hok g tb L d m w v h hx hL h0 hdm hd hm
  obtain⟨k,op,tn,nm,vk,vn,vs,ys,aa,nn,cc,he,rfl,ha⟩:=hx
  simp only[Tm.ex,gD,Ex.mk.injEq] at he
  obtain⟨rfl,rfl,rfl,rfl,hv,rfl⟩:=he
  dsimp only
  obtain⟨W,hW,hbW,hzW,hcW⟩:=aL w (.cells #[.int .i64 4,.int .i64 0,.string (aj []),.string (aj []),.int .i64 vk,.int .i64 vn,.string (aj vs),.slice aa nn cc] 48)
  have k0:=aN hcW
  have HB:=hid hbW
  have HC:=hid (Ik a hok.2 hok.1 (iha hok.2) 0 vk vn [] [] vs aa nn cc g tb L d m W (h.below hbW) (ha.new hbW) (by simpa [Tm.tk] using hL) h0 hdm hd hm)
  generalize (Tm.not a).tk=T at HC ⊢
  generalize (Tm.not a).dp=D at HC ⊢
  clear hbW hcW h ha hok hL hv hd iha
  go_enter Tryz.func83,Tryz.ntmps83
  go_wp2_with fail
  refine HC.out.mono ?_
  rintro e w1 ⟨rfl,h1⟩
  have HQ:=hid (Wrote.new HB.out h1)
  clear h1 HC
  go_wp2
  exact bodyPost_end (v:=.tuple #[]) (by simp[results,Tryz.results83,go_sem]) rfl ⟨rfl,HQ.out⟩
 |
  neg a iha =>
  intro hok g tb L d m w v h hx hL h0 hdm hd hm
  obtain⟨k,op,tn,nm,vk,vn,vs,ys,aa,nn,cc,he,rfl,ha⟩:=hx
  simp only[Tm.ex,gD,Ex.mk.injEq] at he
  obtain⟨rfl,rfl,rfl,rfl,hv,rfl⟩:=he
  dsimp only
  obtain⟨W,hW,hbW,hzW,hcW⟩:=aL w (.cells #[.int .i64 5,.int .i64 0,.string (aj []),.string (aj []),.int .i64 vk,.int .i64 vn,.string (aj vs),.slice aa nn cc] 48)
  have k0:=aN hcW
  have HB:=hid hbW
  obtain⟨g1,g2,g3,b1,off,k1,op1,tn1,nm1,vk1,vn1,vs1,ys1,aa1,nn1,cc1,hxe1,rfl,_,c1,r1⟩:=dI (ha.new hbW)
  rw[List.length_nil,Nat.zero_add] at g1
  subst g1
  unfold maxLen at g3
  have HC:=hid (xJ a hok (iha hok) _ g tb L d m W (h.below hbW) (fB.mk' hxe1 r1) (by simpa [Tm.tk] using hL) h0 hdm hd hm)
  generalize (Tm.neg a).tk=T at HC ⊢
  generalize (Tm.neg a).dp=D at HC ⊢
  unfold Cells8 at c1
  clear hbW hcW h ha hok hL hv hd iha r1 hxe1
  go_enter Tryz.func83,Tryz.ntmps83
  go_wp2_with fail
  refine HC.out.mono ?_
  rintro e w1 ⟨rfl,h1⟩
  have HQ:=hid (Wrote.new HB.out h1)
  clear h1 HC
  go_wp2
  exact bodyPost_end (v:=.tuple #[]) (by simp[results,Tryz.results83,go_sem]) rfl ⟨rfl,HQ.out⟩
 |
  nul a iha =>
  intro hok g tb L d m w v h hx hL h0 hdm hd hm
  obtain⟨k,op,tn,nm,vk,vn,vs,ys,aa,nn,cc,he,rfl,ha⟩:=hx
  simp only[Tm.ex,gD,Ex.mk.injEq] at he
  obtain⟨rfl,rfl,rfl,rfl,hv,rfl⟩:=he
  dsimp only
  obtain⟨W,hW,hbW,hzW,hcW⟩:=aL w (.cells #[.int .i64 6,.int .i64 0,.string (aj []),.string (aj []),.int .i64 vk,.int .i64 vn,.string (aj vs),.slice aa nn cc] 48)
  have k0:=aN hcW
  have HB:=hid hbW
  have hw:=h.below hbW
  have hlt1:g<W.heap.size:=hw.lt
  obtain⟨V,hV,hbV,hzV,hcV⟩:=aL W (.cells #[.string ⟨#[73,83]⟩,.string ⟨#[78,85,76,76]⟩] 9)
  have HC:=hid (D5 a hok (iha hok) 6 0 vk vn [] [] vs aa nn cc [[73,83],[78,85,76,76]] (by decide) (by decide) (.slice (some ⟨W.heap.size,0,none⟩) 2 2) g tb L d m V (hw.below hbV) ((ha.new hbW).new hbV) ⟨_,_,rfl,by decide,fun _=>⟨_,rfl,by omega,fun e=>by have:=(hw.EB _ e).2;omega,hzV,fun j t ht=>by
   rw[aD _ _ _ _ _ _ hcV]
   match j,ht with
   | 0,ht=>cases ht;rfl
   | 1,ht=>cases ht;rfl⟩⟩ (by simpa [Tm.tk] using hL) h0 hdm hd hm)
  show Calls Tryz.prog 83 _ _ fun e w'=>_∧Wrote g tb w w' (L++(jw 4 a.lv a.tk++au [[73,83],[78,85,76,76]])) d (max m (d+(jI 4 a.lv a.dp:Nat)))
  generalize jw 4 a.lv a.tk++au [[73,83],[78,85,76,76]]=T at HC ⊢
  generalize jI 4 a.lv a.dp=D at HC ⊢
  have HB:=hid (HB.out.trans (hbV.mono HB.out.size))
  clear hbW hcW h ha hok hL hv hd iha hw hbV hcV
  go_enter Tryz.func83,Tryz.ntmps83
  go_wp2_with fail
  try rw[hV]
  refine HC.out.mono ?_
  rintro e w1 ⟨rfl,h1⟩
  have HQ:=hid (Wrote.new HB.out h1)
  clear h1 HC
  go_wp2
  exact bodyPost_end (v:=.tuple #[]) (by simp[results,Tryz.results83,go_sem]) rfl ⟨rfl,HQ.out⟩
 |
  nnul a iha =>
  intro hok g tb L d m w v h hx hL h0 hdm hd hm
  obtain⟨k,op,tn,nm,vk,vn,vs,ys,aa,nn,cc,he,rfl,ha⟩:=hx
  simp only[Tm.ex,gD,Ex.mk.injEq] at he
  obtain⟨rfl,rfl,rfl,rfl,hv,rfl⟩:=he
  dsimp only
  obtain⟨W,hW,hbW,hzW,hcW⟩:=aL w (.cells #[.int .i64 4,.int .i64 0,.string (aj []),.string (aj []),.int .i64 vk,.int .i64 vn,.string (aj vs),.slice aa nn cc] 48)
  have k0:=aN hcW
  have HB:=hid hbW
  have HC:=hid (Gp a hok (iha hok) 0 vk vn [] [] vs aa nn cc g tb L d m W (h.below hbW) (ha.new hbW) (by simpa [Tm.tk] using hL) h0 hdm hd hm)
  generalize (Tm.nnul a).tk=T at HC ⊢
  generalize (Tm.nnul a).dp=D at HC ⊢
  clear hbW hcW h ha hok hL hv hd iha
  go_enter Tryz.func83,Tryz.ntmps83
  go_wp2_with fail
  refine HC.out.mono ?_
  rintro e w1 ⟨rfl,h1⟩
  have HQ:=hid (Wrote.new HB.out h1)
  clear h1 HC
  go_wp2
  exact bodyPost_end (v:=.tuple #[]) (by simp[results,Tryz.results83,go_sem]) rfl ⟨rfl,HQ.out⟩
inductive jD:Ex→Prop
 | mk (k op:Int) (tb nm:List UInt8) (v:Vl) (xs:List Ex) (h1 : -9223372036854775808≤v.n) (h2:v.n≤9223372036854775807) (h3:v.s.length≤9223372036854775807) (h4:tb.length≤9223372036854775807) (h5:nm.length≤9223372036854775807) (hx : ∀x∈xs,jD x):jD (.mk k op tb nm v xs)
theorem dF (s:List UInt8):(aj s).toList.isEmpty=decide (s=[]):=by
 rw[bg]
 cases s<;>simp
theorem zi (s:List UInt8) (w:World) (hs:s.length≤9223372036854775807) :
  Calls Tryz.prog 128 #[.string (aj s)] w fun e w'=>e = .returned (.bool (kN s))∧Below w.heap.size w w':=by
 have HN:=hid (fD s w hs)
 have he:=dF s
 by_cases h0:s=[]
 ·have hd:kN s=true:=by unfold kN;rw[decide_eq_true h0];rfl
  rw[hd]
  rw[decide_eq_true h0] at he
  clear hd h0
  generalize aj s=S at HN he ⊢
  go_enter Tryz.func128,Tryz.ntmps128
  go_wp2
  go_ret
  exact⟨rfl,Below.refl _ _⟩
 ·have hd:kN s=bC s:=by unfold kN;rw[decide_eq_false h0];rfl
  rw[hd]
  rw[decide_eq_false h0] at he
  clear hd h0
  generalize aj s=S at HN he ⊢
  go_enter Tryz.func128,Tryz.ntmps128
  go_wp2_with fail
  refine HN.out.mono ?_
  rintro e w1 ⟨rfl,hb1⟩
  have HB:=hid hb1
  clear hb1 HN
  go_wp2
  go_ret
  exact⟨rfl,HB.out⟩
theorem CK (o:Int) (w:World):Calls Tryz.prog 129 #[.int .i64 o] w fun e w'=>e = .returned (.bool (decide (1≤o∧o≤13)))∧w'=w:=by
 by_cases h1:1≤o
 ·by_cases h2:o≤13
  ·rw[decide_eq_true ⟨h1,h2⟩]
   have h2':o<14:=by omega
   go_enter Tryz.func129,Tryz.ntmps129
   go_wp2
   go_ret
   exact⟨rfl,rfl⟩
  ·rw[decide_eq_false (fun h=>h2 h.2)]
   have h2' : ¬o<14:=by omega
   clear h2
   go_enter Tryz.func129,Tryz.ntmps129
   go_wp2
   go_ret
   exact⟨rfl,rfl⟩
 ·rw[decide_eq_false (fun h=>h1 h.1)]
  go_enter Tryz.func129,Tryz.ntmps129
  go_wp2
  go_ret
  exact⟨rfl,rfl⟩
theorem jM (k n:Int) (s:List UInt8) (w:World) (h1 : -9223372036854775808≤n) (h2:n≤9223372036854775807) (hs:s.length≤9223372036854775807) :
  Calls Tryz.prog 127 #[.agg #[.int .i64 k,.int .i64 n,.string (aj s)]] w fun e w'=>e = .returned (.bool (gK ⟨k,n,s⟩))∧Below w.heap.size w w':=by
 obtain⟨W,hW,hbW,hzW,hcW⟩:=aL w (.cells #[.int .i64 k,.int .i64 n,.string (aj s)] 46)
 have k0:=gN hcW
 have HR:=hid (Ae k n s W hs)
 have HB:=hid hbW
 have HC:=hid hcW
 have hd:gK ⟨k,n,s⟩=(decide (iw ⟨k,n,s⟩=0)&&decide (n≠-9223372036854775808)):=by
  unfold gK
  dsimp only
  congr 1
  rw[Bool.eq_iff_iff,decide_eq_true_eq,decide_eq_true_eq]
  omega
 rw[hd]
 clear hd hbW hcW
 by_cases h0:iw ⟨k,n,s⟩=0
 ·rw[h0] at HR
  rw[decide_eq_true h0,Bool.true_and]
  clear h0
  by_cases hm:n = -9223372036854775808
  ·have hm':(n != -9223372036854775808)=false:=by rw[hm];rfl
   rw[decide_eq_false (fun h=>h hm)]
   clear hm h1 h2
   go_enter Tryz.func127,Tryz.ntmps127
   go_wp2_with fail
   refine HR.out.mono ?_
   rintro e w1 ⟨rfl,hb1⟩
   have k1:=gN ((hb1.block w.heap.size hzW).trans HC.out)
   have HB1:=hid (HB.out.trans (hb1.mono HB.out.size))
   clear hb1 HR
   go_wp2
   go_ret
   exact⟨rfl,HB1.out⟩
  ·have hm':(n != -9223372036854775808)=true:=by rw[bne_iff_ne];exact hm
   rw[decide_eq_true hm]
   clear hm h1 h2
   go_enter Tryz.func127,Tryz.ntmps127
   go_wp2_with fail
   refine HR.out.mono ?_
   rintro e w1 ⟨rfl,hb1⟩
   have k1:=gN ((hb1.block w.heap.size hzW).trans HC.out)
   have HB1:=hid (HB.out.trans (hb1.mono HB.out.size))
   clear hb1 HR
   go_wp2
   go_ret
   exact⟨rfl,HB1.out⟩
 ·rw[decide_eq_false h0,Bool.false_and]
  have h0':(((iw ⟨k,n,s⟩:Nat):Int)==0)=false:=by rw[beq_eq_false_iff_ne];omega
  generalize ((iw ⟨k,n,s⟩:Nat):Int)=r at HR h0'
  clear h0 h1 h2
  go_enter Tryz.func127,Tryz.ntmps127
  go_wp2_with fail
  refine HR.out.mono ?_
  rintro e w1 ⟨rfl,hb1⟩
  have HB1:=hid (HB.out.trans (hb1.mono HB.out.size))
  clear hb1 HR
  go_wp2
  go_ret
  exact⟨rfl,HB1.out⟩
def xI (op:Int) (tb nm:List UInt8) (v:Vl) (n:Nat):Bool:=decide (op=0)&&(decide (tb=[])&&(decide (nm=[])&&(eqv v zV&&decide (n=0))))
theorem rz (op:Int) (tb nm:List UInt8) (vk vn:Int) (vs:List UInt8) (aa:Option Addr) (nn cc:Nat) (w:World) :
  Calls Tryz.prog 130 #[.agg #[.int .i64 0,.int .i64 op,.string (aj tb),.string (aj nm),.int .i64 vk,.int .i64 vn,.string (aj vs),.slice aa nn cc]] w fun e w'=>e = .returned (.bool (xI op tb nm ⟨vk,vn,vs⟩ nn))∧Below w.heap.size w w':=by
 have htb:=dF tb
 have hnm:=dF nm
 have heq : ∀W,(binOp .eql 46 (.agg #[.int .i64 vk,.int .i64 vn,.string (aj vs)]) (.agg #[.int .i64 0,.int .i64 0,.string ⟨#[]⟩])).run Tryz.prog W = .ok (.bool (eqv ⟨vk,vn,vs⟩ zV)) W:=fun W=>zU ⟨vk,vn,vs⟩ zV W
 have hgd:=Tryz.lS
 unfold xI
 by_cases h1:op=0
 ·rw[decide_eq_true h1,Bool.true_and]
  have g1:(op==0)=true:=by rw[h1];rfl
  by_cases h2:tb=[]
  ·rw[decide_eq_true h2,Bool.true_and]
   rw[decide_eq_true h2] at htb
   by_cases h3:nm=[]
   ·rw[decide_eq_true h3,Bool.true_and]
    rw[decide_eq_true h3] at hnm
    by_cases h4:eqv ⟨vk,vn,vs⟩ zV=true
    ·rw[h4] at heq ⊢
     rw[Bool.true_and]
     by_cases h5:nn=0
     ·rw[decide_eq_true h5]
      have g5:((nn:Int)==0)=true:=by rw[h5];rfl
      clear h1 h2 h3 h4 h5
      obtain⟨W,hW,hbW,hzW,hcW⟩:=aL w (.cells #[.int .i64 0,.int .i64 op,.string (aj tb),.string (aj nm),.int .i64 vk,.int .i64 vn,.string (aj vs),.slice aa nn cc] 48)
      have k0:=aN hcW
      have HB:=hid hbW
      clear hbW hcW
      go_enter Tryz.func130,Tryz.ntmps130
      go_wp2
      go_ret
      exact⟨rfl,HB.out⟩
     ·rw[decide_eq_false h5]
      have g5:((nn:Int)==0)=false:=by rw[beq_eq_false_iff_ne];omega
      clear h1 h2 h3 h4 h5
      obtain⟨W,hW,hbW,hzW,hcW⟩:=aL w (.cells #[.int .i64 0,.int .i64 op,.string (aj tb),.string (aj nm),.int .i64 vk,.int .i64 vn,.string (aj vs),.slice aa nn cc] 48)
      have k0:=aN hcW
      have HB:=hid hbW
      clear hbW hcW
      go_enter Tryz.func130,Tryz.ntmps130
      go_wp2
      go_ret
      exact⟨rfl,HB.out⟩
    ·have h4:eqv ⟨vk,vn,vs⟩ zV=false:=by simpa using h4
     rw[h4] at heq ⊢
     rw[Bool.false_and]
     clear h1 h2 h3 h4
     obtain⟨W,hW,hbW,hzW,hcW⟩:=aL w (.cells #[.int .i64 0,.int .i64 op,.string (aj tb),.string (aj nm),.int .i64 vk,.int .i64 vn,.string (aj vs),.slice aa nn cc] 48)
     have k0:=aN hcW
     have HB:=hid hbW
     clear hbW hcW
     go_enter Tryz.func130,Tryz.ntmps130
     go_wp2
     go_ret
     exact⟨rfl,HB.out⟩
   ·rw[decide_eq_false h3,Bool.false_and]
    rw[decide_eq_false h3] at hnm
    clear h1 h2 h3
    obtain⟨W,hW,hbW,hzW,hcW⟩:=aL w (.cells #[.int .i64 0,.int .i64 op,.string (aj tb),.string (aj nm),.int .i64 vk,.int .i64 vn,.string (aj vs),.slice aa nn cc] 48)
    have k0:=aN hcW
    have HB:=hid hbW
    clear hbW hcW
    go_enter Tryz.func130,Tryz.ntmps130
    go_wp2
    go_ret
    exact⟨rfl,HB.out⟩
  ·rw[decide_eq_false h2,Bool.false_and]
   rw[decide_eq_false h2] at htb
   clear h1 h2
   obtain⟨W,hW,hbW,hzW,hcW⟩:=aL w (.cells #[.int .i64 0,.int .i64 op,.string (aj tb),.string (aj nm),.int .i64 vk,.int .i64 vn,.string (aj vs),.slice aa nn cc] 48)
   have k0:=aN hcW
   have HB:=hid hbW
   clear hbW hcW
   go_enter Tryz.func130,Tryz.ntmps130
   go_wp2
   go_ret
   exact⟨rfl,HB.out⟩
 ·rw[decide_eq_false h1,Bool.false_and]
  have g1:(op==0)=false:=by simpa using h1
  clear h1
  obtain⟨W,hW,hbW,hzW,hcW⟩:=aL w (.cells #[.int .i64 0,.int .i64 op,.string (aj tb),.string (aj nm),.int .i64 vk,.int .i64 vn,.string (aj vs),.slice aa nn cc] 48)
  have k0:=aN hcW
  have HB:=hid hbW
  clear hbW hcW
  go_enter Tryz.func130,Tryz.ntmps130
  go_wp2
  go_ret
  exact⟨rfl,HB.out⟩
end Go.Proofs.YtfeglkleoijlaaaGreatDoor
