/- Packed for the hand-in: WExprC -/
import Derived.Test.YtnidnipiihhnaaaGreatDoorX09
import Derived.Deep.RegionHeld3
namespace Go.Proofs.YtnidnipiihhnaaaGreatDoor
open Go.RowKit Go.Shelf
set_option linter.unusedSimpArgs false
set_option linter.unusedVariables false
set_option maxRecDepth 20000
set_option maxHeartbeats 8000000
theorem num_kind (a:Tm) {k op:Int} {tn nm:List UInt8} {vk vn:Int} {vs:List UInt8} {ys:List Ex} (he:a.ex = .mk k op tn nm ⟨vk,vn,vs⟩ ys):(a.isNum=true↔k=1∧vk=1∧0≤vn):=by
 cases a with
 |
  val v =>
  simp only[Tm.ex,exVal,Ex.mk.injEq] at he
  obtain⟨rfl,_,_,_,rfl,_⟩:=he
  simp[Tm.isNum]
 | col x y=>simp only[Tm.ex,exCol,Ex.mk.injEq] at he;obtain⟨rfl,_⟩:=he;simp[Tm.isNum]
 | op x y z=>simp only[Tm.ex,exOp,Ex.mk.injEq] at he;obtain⟨rfl,_⟩:=he;simp[Tm.isNum]
 | not x=>simp only[Tm.ex,exOf,Ex.mk.injEq] at he;obtain⟨rfl,_⟩:=he;simp[Tm.isNum]
 | neg x=>simp only[Tm.ex,exOf,Ex.mk.injEq] at he;obtain⟨rfl,_⟩:=he;simp[Tm.isNum]
 | nul x=>simp only[Tm.ex,exOf,Ex.mk.injEq] at he;obtain⟨rfl,_⟩:=he;simp[Tm.isNum]
 | nnul x=>simp only[Tm.ex,exOf,Ex.mk.injEq] at he;obtain⟨rfl,_⟩:=he;simp[Tm.isNum]
theorem negation_w (a:Tm) (hok:a.ok) (hX:WrX a) (va:Value)
  (g:Nat) (tb:Option Nat) (L:List Tk) (d m:Int) (w:World) (h:WrAt w g tb L d m) (hxa:ExV (fun b=>b<g) w a.ex va) (hL:L.length+((atK (negL a) a.lv a.tk).length+1)≤1000000000) (h0:0≤d) (hdm:d≤m) (hd:d+(atD (negL a) a.lv a.dp+1:Nat)≤1000000000) (hm:m≤1000000000) :
  Calls Tryz.prog 52 #[.pointer (some ⟨g,0,none⟩),va] w fun e w'=>e = .returned (.tuple #[])∧Wrote g tb w w' (L++(Tm.neg a).tk) d (max m (d+((Tm.neg a).dp:Nat))):=by
 have HXA:=hid hxa
 obtain⟨k,op,tn,nm,vk,vn,vs,ys,aa,nn,cc,he,rfl,ha⟩:=hxa
 have hnum:=num_kind a he
 obtain⟨W,hW,hbW,hzW,hcW⟩:=box8 w (.cells #[.int .i64 k,.int .i64 op,.string (str8 tn),.string (str8 nm),.int .i64 vk,.int .i64 vn,.string (str8 vs),.slice aa nn cc] 26)
 have k0:=cells8 hcW
 have HB:=hid hbW
 have hla:=atK_len (negL a) a.lv a.tk
 have hda:=atD_le (negL a) a.lv a.dp
 have HBX:=hid (BoxW.mk' h hcW (Nat.le_refl _))
 have hw:=h.below hbW
 have HW:=hid hw
 have HX:=hid (HXA.out.new hbW)
 have HT:Hid (Calls Tryz.prog 68 #[.pointer (some ⟨g,0,none⟩),.slice (some ⟨W.heap.size,0,none⟩) 1 1] (W.alloc (.cells #[.string ⟨#[45]⟩] 9)) fun e w'=>e = .returned (.tuple #[])∧Wrote g tb W w' (L++wordsK [[45]]) d m):=hid (fixed_new g tb L d m [[45]] W hw (by decide) (by decide) (by simp;omega))
 show Calls Tryz.prog 52 _ _ fun e w'=>_∧Wrote g tb w w' (L++(fxT [45]::atK (negL a) a.lv a.tk)) d (max m (d+((atD (negL a) a.lv a.dp+1:Nat):Int)))
 have hDE:=deeperW_any (negL a) a hok hX
 generalize atK (negL a) a.lv a.tk=T at hDE hla hL ⊢
 generalize atD (negL a) a.lv a.dp=D at hDE hda hd ⊢
 have hN:negL a=if a.isNum=true then 7 else 6:=rfl
 clear hbW hcW h ha he hok hw HXA
 have hcase:((k==1)=true∧(vk==1)=true∧0≤vn∧WrD 7 a T (D+1))∨(((k==1)=false∨((k==1)=true∧(vk==1)=false)∨((k==1)=true∧(vk==1)=true∧¬0≤vn))∧WrD 6 a T (D+1)):=by
  by_cases hn:a.isNum=true
  ·rw[hN,if_pos hn] at hDE
   obtain⟨h1,h2,h3⟩:=hnum.1 hn
   exact .inl ⟨by rw[h1];rfl,by rw[h2];rfl,h3,hDE⟩
  ·rw[hN,if_neg hn] at hDE
   refine .inr ⟨?_,hDE⟩
   by_cases h1:k=1
   ·by_cases h2:vk=1
    ·exact .inr (.inr ⟨by rw[h1];rfl,by rw[h2];rfl,fun h3=>hn (hnum.2 ⟨h1,h2,h3⟩)⟩)
    ·exact .inr (.inl ⟨by rw[h1];rfl,by simpa using h2⟩)
   ·exact .inl (by simpa using h1)
 clear hDE hN hnum
 rcases hcase with⟨hk1,hv1,hn0,hDE⟩ | ⟨hk1 | ⟨hk1,hv1⟩ | ⟨hk1,hv1,hn0⟩,hDE⟩
 ·go_enter Tryz.func52,Tryz.ntmps52
  go_wp2_with fail
  refine HT.out.mono ?_
  rintro e w2 ⟨rfl,tb2,hw2,ht2,hf2⟩
  have k2:=cells8 (HBX.out.on ht2 hf2).at'
  have HD2:=hid (hDE g tb2 (L++wordsK [[45]]) d m w2 _ hw2 (HX.out.onW HW.out hf2) (by simp[wordsK];omega) h0 hdm (by omega) hm)
  have HT2:=hid ht2
  have HF2:=hid hf2
  clear hw2 ht2 hf2 HT
  go_wp2_with fail
  refine HD2.out.mono ?_
  rintro e w3 ⟨rfl,h3⟩
  have HQ:Hid (Wrote g tb w w3 (L++fxT [45]::T) d (max m (d+((D+1:Nat):Int)))):=hid (by
   have:=Wrote.new HB.out (Wrote.then HT2.out HF2.out h3)
   rw[show L++wordsK [[45]]++T=L++fxT [45]::T by simp[wordsK]] at this
   exact this)
  clear h3 HD2
  go_wp2
  exact bodyPost_end (v:=.tuple #[]) (by simp[results,Tryz.results52,go_sem]) rfl ⟨rfl,HQ.out⟩
 ·go_enter Tryz.func52,Tryz.ntmps52
  go_wp2_with fail
  refine HT.out.mono ?_
  rintro e w2 ⟨rfl,tb2,hw2,ht2,hf2⟩
  have k2:=cells8 (HBX.out.on ht2 hf2).at'
  have HD2:=hid (hDE g tb2 (L++wordsK [[45]]) d m w2 _ hw2 (HX.out.onW HW.out hf2) (by simp[wordsK];omega) h0 hdm (by omega) hm)
  have HT2:=hid ht2
  have HF2:=hid hf2
  clear hw2 ht2 hf2 HT
  go_wp2_with fail
  refine HD2.out.mono ?_
  rintro e w3 ⟨rfl,h3⟩
  have HQ:Hid (Wrote g tb w w3 (L++fxT [45]::T) d (max m (d+((D+1:Nat):Int)))):=hid (by
   have:=Wrote.new HB.out (Wrote.then HT2.out HF2.out h3)
   rw[show L++wordsK [[45]]++T=L++fxT [45]::T by simp[wordsK]] at this
   exact this)
  clear h3 HD2
  go_wp2
  exact bodyPost_end (v:=.tuple #[]) (by simp[results,Tryz.results52,go_sem]) rfl ⟨rfl,HQ.out⟩
 ·go_enter Tryz.func52,Tryz.ntmps52
  go_wp2_with fail
  refine HT.out.mono ?_
  rintro e w2 ⟨rfl,tb2,hw2,ht2,hf2⟩
  have k2:=cells8 (HBX.out.on ht2 hf2).at'
  have HD2:=hid (hDE g tb2 (L++wordsK [[45]]) d m w2 _ hw2 (HX.out.onW HW.out hf2) (by simp[wordsK];omega) h0 hdm (by omega) hm)
  have HT2:=hid ht2
  have HF2:=hid hf2
  clear hw2 ht2 hf2 HT
  go_wp2_with fail
  refine HD2.out.mono ?_
  rintro e w3 ⟨rfl,h3⟩
  have HQ:Hid (Wrote g tb w w3 (L++fxT [45]::T) d (max m (d+((D+1:Nat):Int)))):=hid (by
   have:=Wrote.new HB.out (Wrote.then HT2.out HF2.out h3)
   rw[show L++wordsK [[45]]++T=L++fxT [45]::T by simp[wordsK]] at this
   exact this)
  clear h3 HD2
  go_wp2
  exact bodyPost_end (v:=.tuple #[]) (by simp[results,Tryz.results52,go_sem]) rfl ⟨rfl,HQ.out⟩
 ·go_enter Tryz.func52,Tryz.ntmps52
  go_wp2_with fail
  refine HT.out.mono ?_
  rintro e w2 ⟨rfl,tb2,hw2,ht2,hf2⟩
  have k2:=cells8 (HBX.out.on ht2 hf2).at'
  have HD2:=hid (hDE g tb2 (L++wordsK [[45]]) d m w2 _ hw2 (HX.out.onW HW.out hf2) (by simp[wordsK];omega) h0 hdm (by omega) hm)
  have HT2:=hid ht2
  have HF2:=hid hf2
  clear hw2 ht2 hf2 HT
  go_wp2_with fail
  refine HD2.out.mono ?_
  rintro e w3 ⟨rfl,h3⟩
  have HQ:Hid (Wrote g tb w w3 (L++fxT [45]::T) d (max m (d+((D+1:Nat):Int)))):=hid (by
   have:=Wrote.new HB.out (Wrote.then HT2.out HF2.out h3)
   rw[show L++wordsK [[45]]++T=L++fxT [45]::T by simp[wordsK]] at this
   exact this)
  clear h3 HD2
  go_wp2
  exact bodyPost_end (v:=.tuple #[]) (by simp[results,Tryz.results52,go_sem]) rfl ⟨rfl,HQ.out⟩
theorem expr_w : ∀t:Tm,t.ok→WrX t:=by
 intro t
 induction t with
 |
  val x =>
  intro hok g tb L d m w v h hx hL h0 hdm hd hm
  obtain⟨k,op,tn,nm,vk,vn,vs,ys,aa,nn,cc,he,rfl,ha⟩:=hx
  simp only[Tm.ex,exVal,Ex.mk.injEq] at he
  obtain⟨rfl,rfl,rfl,rfl,rfl,rfl⟩:=he
  have e1:max m (d+((Tm.val ⟨vk,vn,vs⟩).dp:Nat))=m:=by show max m (d+((0:Nat):Int))=m;omega
  rw[e1]
  dsimp only
  obtain⟨W,hW,hbW,hzW,hcW⟩:=box8 w (.cells #[.int .i64 1,.int .i64 0,.string (str8 []),.string (str8 []),.int .i64 vk,.int .i64 vn,.string (str8 vs),.slice aa nn cc] 26)
  have k0:=cells8 hcW
  have HB:=hid hbW
  have HC:=hid (literal_w g tb L d m W (h.below hbW) ⟨vk,vn,vs⟩ hok hL)
  dsimp only at HC
  show Calls Tryz.prog 21 _ _ fun e w'=>_∧Wrote g tb w w' (L++litK ⟨vk,vn,vs⟩) d m
  generalize litK ⟨vk,vn,vs⟩=T at HC ⊢
  clear hbW hcW h ha hok hL e1
  go_enter Tryz.func21,Tryz.ntmps21
  go_wp2_with fail
  refine HC.out.mono ?_
  rintro e w1 ⟨rfl,h1⟩
  have HQ:=hid (Wrote.new HB.out h1)
  clear h1 HC
  go_wp2
  exact bodyPost_end (v:=.tuple #[]) (by simp[results,Tryz.results21,go_sem]) rfl ⟨rfl,HQ.out⟩
 |
  col x y =>
  intro hok g tb L d m w v h hx hL h0 hdm hd hm
  obtain⟨k,op,tn,nm,vk,vn,vs,ys,aa,nn,cc,he,rfl,ha⟩:=hx
  simp only[Tm.ex,exCol,Ex.mk.injEq] at he
  obtain⟨rfl,rfl,rfl,rfl,hv,rfl⟩:=he
  have e1:max m (d+((Tm.col x y).dp:Nat))=m:=by show max m (d+((0:Nat):Int))=m;omega
  rw[e1]
  dsimp only
  obtain⟨W,hW,hbW,hzW,hcW⟩:=box8 w (.cells #[.int .i64 2,.int .i64 0,.string (str8 x),.string (str8 y),.int .i64 vk,.int .i64 vn,.string (str8 vs),.slice aa nn cc] 26)
  have k0:=cells8 hcW
  have HB:=hid hbW
  have HC:=hid (column_w g tb L d m W (h.below hbW) x y 2 0 vk vn vs aa nn cc hL)
  generalize (Tm.col x y).tk=T at HC ⊢
  clear hbW hcW h ha hok hL e1 hv
  go_enter Tryz.func21,Tryz.ntmps21
  go_wp2_with fail
  refine HC.out.mono ?_
  rintro e w1 ⟨rfl,h1⟩
  have HQ:=hid (Wrote.new HB.out h1)
  clear h1 HC
  go_wp2
  exact bodyPost_end (v:=.tuple #[]) (by simp[results,Tryz.results21,go_sem]) rfl ⟨rfl,HQ.out⟩
 |
  op o a b iha ihb =>
  intro hok g tb L d m w v h hx hL h0 hdm hd hm
  obtain⟨k,op,tn,nm,vk,vn,vs,ys,aa,nn,cc,he,rfl,ha⟩:=hx
  simp only[Tm.ex,exOp,Ex.mk.injEq] at he
  obtain⟨rfl,rfl,rfl,rfl,hv,rfl⟩:=he
  dsimp only
  obtain⟨W,hW,hbW,hzW,hcW⟩:=box8 w (.cells #[.int .i64 3,.int .i64 o,.string (str8 []),.string (str8 []),.int .i64 vk,.int .i64 vn,.string (str8 vs),.slice aa nn cc] 26)
  have k0:=cells8 hcW
  have HB:=hid hbW
  have hw:=h.below hbW
  have hL2:L.length+((atK (opL o) a.lv a.tk).length+((atK (opLv o+1) b.lv b.tk).length+1))≤1000000000:=by
   have:=hL
   simp only[Tm.tk,List.length_append,List.length_cons] at this
   omega
  have hd2:d+((max (atD (opL o) a.lv a.dp) (atD (opLv o+1) b.lv b.dp):Nat):Int)≤1000000000:=hd
  have haW:=ha.new hbW
  obtain⟨g1,g2,g3,b1,off,k1,op1,tn1,nm1,vk1,vn1,vs1,ys1,aa1,nn1,cc1,hxe1,rfl,hb1g,c1,r1⟩:=args_get0 haW
  obtain⟨_,_,_,b2,off2,k2,op2,tn2,nm2,vk2,vn2,vs2,ys2,aa2,nn2,cc2,hxe2,hbo,_,c2,r2⟩:=args_get haW (j:=1) (x:=b.ex) rfl
  simp only[Option.some.injEq,Addr.mk.injEq,and_true] at hbo
  obtain⟨rfl,rfl⟩:=hbo
  rw[Nat.one_mul] at c2
  rw[show [b.ex].length+1=2 from rfl] at g1
  subst g1
  unfold maxLen at g3
  have HC0:=hid (fun V (hV:WrAt V g tb L d m) (hb:Below W.heap.size W V)=>operation_w o hok.1 hok.2.1 a b hok.2.2.1 hok.2.2.2 (iha hok.2.2.1) (ihb hok.2.2.2) _ _ g tb L d m V hV (ExV.mk' hxe1 (r1.new hb)) (ExV.mk' hxe2 (r2.new hb)) hL2 h0 hdm (by omega) (by omega) hm)
  have HC:=hid (HC0.out W.drew (hw.below (Below.refl _ W).drew) (Below.refl _ W).drew)
  clear HC0
  obtain⟨n,hn,hn13,ho1,ho2⟩:=op_cell hw.tab.ops hok.1 hok.2.1
  generalize (Tm.op o a b).tk=T at HC ⊢
  generalize (Tm.op o a b).dp=D at HC ⊢
  generalize str8 (opTx o)=tx at HC ho1
  generalize ((opLv o:Nat):Int)=li at HC ho2
  subst hn
  have hn14:((n:Int)<14):=by omega
  have HBD:=hid (HB.out.drew)
  have hnb : ¬(w.heap.size=g∨tb=some w.heap.size):=fun e=>by
   rcases e with e | e
   ·have:=h.lt;omega
   ·have:=(h.tbs _ e).2;omega
  have hn0 : ¬((0:Nat)=g∨tb=some 0):=fun e=>by
   rcases e with e | e
   ·have:=h.big;omega
   ·have:=(h.tbs _ e).1;have:=h.big;omega
  have hn1 : ¬(b1=g∨tb=some b1):=fun e=>by
   rcases e with e | e
   ·omega
   ·have:=(h.tbs _ e).1;omega
  have HS:Hid (∀V,FrW g tb W V→(fun w'=>(w'.cell? ⟨w.heap.size,1,none⟩=some (.int .i64 (n:Int))∧w'.cell? ⟨w.heap.size,7,none⟩=some (.slice (some ⟨b1,off,none⟩) 2 cc))∧(w'.cell? ⟨0,n*2,none⟩=some (.string tx)∧w'.cell? ⟨0,n*2+1,none⟩=some (.int .i64 li))∧(w'.cell? ⟨b1,off,none⟩=some (.int .i64 k1)∧w'.cell? ⟨b1,off+1,none⟩=some (.int .i64 op1)∧w'.cell? ⟨b1,off+2,none⟩=some (.string (str8 tn1))∧w'.cell? ⟨b1,off+3,none⟩=some (.string (str8 nm1))∧w'.cell? ⟨b1,off+4,none⟩=some (.int .i64 vk1)∧w'.cell? ⟨b1,off+5,none⟩=some (.int .i64 vn1)∧w'.cell? ⟨b1,off+6,none⟩=some (.string (str8 vs1))∧w'.cell? ⟨b1,off+7,none⟩=some (.slice aa1 nn1 cc1))∧(w'.cell? ⟨b1,off+8,none⟩=some (.int .i64 k2)∧w'.cell? ⟨b1,off+8+1,none⟩=some (.int .i64 op2)∧w'.cell? ⟨b1,off+8+2,none⟩=some (.string (str8 tn2))∧w'.cell? ⟨b1,off+8+3,none⟩=some (.string (str8 nm2))∧w'.cell? ⟨b1,off+8+4,none⟩=some (.int .i64 vk2)∧w'.cell? ⟨b1,off+8+5,none⟩=some (.int .i64 vn2)∧w'.cell? ⟨b1,off+8+6,none⟩=some (.string (str8 vs2))∧w'.cell? ⟨b1,off+8+7,none⟩=some (.slice aa2 nn2 cc2))) V):=hid (fun V hf=>⟨⟨hf.cell k0.2.1 hnb,hf.cell k0.2.2.2.2.2.2.2 hnb⟩,⟨hf.cell ho1 hn0,hf.cell ho2 hn0⟩,c1.on hf hn1,c2.on hf hn1⟩)
  have HS0:=hid (HS.out W.drew (Spares.of_new (Below.refl _ W).drew))
  unfold Cells8 at c1 c2
  clear hbW hcW h ha hok hL hv hw haW r1 r2 hxe1 hxe2 hL2 hd2 iha ihb hd hnb hn0 hn1
  go_enter Tryz.func21,Tryz.ntmps21
  go_wp2_with fail
  go_region_held3 (fun w'=>(w'.cell? ⟨w.heap.size,1,none⟩=some (.int .i64 (n:Int))∧w'.cell? ⟨w.heap.size,7,none⟩=some (.slice (some ⟨b1,off,none⟩) 2 cc))∧(w'.cell? ⟨0,n*2,none⟩=some (.string tx)∧w'.cell? ⟨0,n*2+1,none⟩=some (.int .i64 li))∧(w'.cell? ⟨b1,off,none⟩=some (.int .i64 k1)∧w'.cell? ⟨b1,off+1,none⟩=some (.int .i64 op1)∧w'.cell? ⟨b1,off+2,none⟩=some (.string (str8 tn1))∧w'.cell? ⟨b1,off+3,none⟩=some (.string (str8 nm1))∧w'.cell? ⟨b1,off+4,none⟩=some (.int .i64 vk1)∧w'.cell? ⟨b1,off+5,none⟩=some (.int .i64 vn1)∧w'.cell? ⟨b1,off+6,none⟩=some (.string (str8 vs1))∧w'.cell? ⟨b1,off+7,none⟩=some (.slice aa1 nn1 cc1))∧(w'.cell? ⟨b1,off+8,none⟩=some (.int .i64 k2)∧w'.cell? ⟨b1,off+8+1,none⟩=some (.int .i64 op2)∧w'.cell? ⟨b1,off+8+2,none⟩=some (.string (str8 tn2))∧w'.cell? ⟨b1,off+8+3,none⟩=some (.string (str8 nm2))∧w'.cell? ⟨b1,off+8+4,none⟩=some (.int .i64 vk2)∧w'.cell? ⟨b1,off+8+5,none⟩=some (.int .i64 vn2)∧w'.cell? ⟨b1,off+8+6,none⟩=some (.string (str8 vs2))∧w'.cell? ⟨b1,off+8+7,none⟩=some (.slice aa2 nn2 cc2)))
   (first | exact HS0.out | exact HS1.out)
   (first
    | (
     go_at_call 50;refine HC.out.mono ?_
     rintro e w1 ⟨rfl,h1⟩
     have HS1:=hid (HS.out w1 (by obtain⟨_,_,_,hf⟩:=h1;exact (Spares.of_new (Below.refl _ W).drew).then hf))
     have H1:=hid h1
     clear h1)
    | fail)
  go_wp2
  exact bodyPost_end (v:=.tuple #[]) (by simp[results,Tryz.results21,go_sem]) rfl ⟨rfl,Wrote.new HBD.out H1.out⟩
 |
  not a iha =>
  intro hok g tb L d m w v h hx hL h0 hdm hd hm
  obtain⟨k,op,tn,nm,vk,vn,vs,ys,aa,nn,cc,he,rfl,ha⟩:=hx
  simp only[Tm.ex,exOf,Ex.mk.injEq] at he
  obtain⟨rfl,rfl,rfl,rfl,hv,rfl⟩:=he
  dsimp only
  obtain⟨W,hW,hbW,hzW,hcW⟩:=box8 w (.cells #[.int .i64 4,.int .i64 0,.string (str8 []),.string (str8 []),.int .i64 vk,.int .i64 vn,.string (str8 vs),.slice aa nn cc] 26)
  have k0:=cells8 hcW
  have HB:=hid hbW
  have HC:=hid (not_w a hok.2 hok.1 (iha hok.2) 0 vk vn [] [] vs aa nn cc g tb L d m W (h.below hbW) (ha.new hbW) (by simpa [Tm.tk] using hL) h0 hdm hd hm)
  generalize (Tm.not a).tk=T at HC ⊢
  generalize (Tm.not a).dp=D at HC ⊢
  clear hbW hcW h ha hok hL hv hd iha
  go_enter Tryz.func21,Tryz.ntmps21
  go_wp2_with fail
  refine HC.out.mono ?_
  rintro e w1 ⟨rfl,h1⟩
  have HQ:=hid (Wrote.new HB.out h1)
  clear h1 HC
  go_wp2
  exact bodyPost_end (v:=.tuple #[]) (by simp[results,Tryz.results21,go_sem]) rfl ⟨rfl,HQ.out⟩
 |
  neg a iha =>
  intro hok g tb L d m w v h hx hL h0 hdm hd hm
  obtain⟨k,op,tn,nm,vk,vn,vs,ys,aa,nn,cc,he,rfl,ha⟩:=hx
  simp only[Tm.ex,exOf,Ex.mk.injEq] at he
  obtain⟨rfl,rfl,rfl,rfl,hv,rfl⟩:=he
  dsimp only
  obtain⟨W,hW,hbW,hzW,hcW⟩:=box8 w (.cells #[.int .i64 5,.int .i64 0,.string (str8 []),.string (str8 []),.int .i64 vk,.int .i64 vn,.string (str8 vs),.slice aa nn cc] 26)
  have k0:=cells8 hcW
  have HB:=hid hbW
  obtain⟨g1,g2,g3,b1,off,k1,op1,tn1,nm1,vk1,vn1,vs1,ys1,aa1,nn1,cc1,hxe1,rfl,_,c1,r1⟩:=args_get0 (ha.new hbW)
  rw[List.length_nil,Nat.zero_add] at g1
  subst g1
  unfold maxLen at g3
  have HC:=hid (negation_w a hok (iha hok) _ g tb L d m W (h.below hbW) (ExV.mk' hxe1 r1) (by simpa [Tm.tk] using hL) h0 hdm hd hm)
  generalize (Tm.neg a).tk=T at HC ⊢
  generalize (Tm.neg a).dp=D at HC ⊢
  unfold Cells8 at c1
  clear hbW hcW h ha hok hL hv hd iha r1 hxe1
  go_enter Tryz.func21,Tryz.ntmps21
  go_wp2_with fail
  refine HC.out.mono ?_
  rintro e w1 ⟨rfl,h1⟩
  have HQ:=hid (Wrote.new HB.out h1)
  clear h1 HC
  go_wp2
  exact bodyPost_end (v:=.tuple #[]) (by simp[results,Tryz.results21,go_sem]) rfl ⟨rfl,HQ.out⟩
 |
  nul a iha =>
  intro hok g tb L d m w v h hx hL h0 hdm hd hm
  obtain⟨k,op,tn,nm,vk,vn,vs,ys,aa,nn,cc,he,rfl,ha⟩:=hx
  simp only[Tm.ex,exOf,Ex.mk.injEq] at he
  obtain⟨rfl,rfl,rfl,rfl,hv,rfl⟩:=he
  dsimp only
  obtain⟨W,hW,hbW,hzW,hcW⟩:=box8 w (.cells #[.int .i64 6,.int .i64 0,.string (str8 []),.string (str8 []),.int .i64 vk,.int .i64 vn,.string (str8 vs),.slice aa nn cc] 26)
  have k0:=cells8 hcW
  have HB:=hid hbW
  have hw:=h.below hbW
  have hlt1:g<W.heap.size:=hw.lt
  obtain⟨V,hV,hbV,hzV,hcV⟩:=box8 W (.cells #[.string ⟨#[73,83]⟩,.string ⟨#[78,85,76,76]⟩] 9)
  have HC:=hid (null_w a hok (iha hok) 6 0 vk vn [] [] vs aa nn cc [[73,83],[78,85,76,76]] (by decide) (by decide) (.slice (some ⟨W.heap.size,0,none⟩) 2 2) g tb L d m V (hw.below hbV) ((ha.new hbW).new hbV) ⟨_,_,rfl,by decide,fun _=>⟨_,rfl,by omega,fun e=>by have:=(hw.tbs _ e).2;omega,hzV,fun j t ht=>by
   rw[cell_row _ _ _ _ _ _ hcV]
   match j,ht with
   | 0,ht=>cases ht;rfl
   | 1,ht=>cases ht;rfl⟩⟩ (by simpa [Tm.tk] using hL) h0 hdm hd hm)
  show Calls Tryz.prog 21 _ _ fun e w'=>_∧Wrote g tb w w' (L++(atK 4 a.lv a.tk++wordsK [[73,83],[78,85,76,76]])) d (max m (d+(atD 4 a.lv a.dp:Nat)))
  generalize atK 4 a.lv a.tk++wordsK [[73,83],[78,85,76,76]]=T at HC ⊢
  generalize atD 4 a.lv a.dp=D at HC ⊢
  have HB:=hid (HB.out.trans (hbV.mono HB.out.size))
  clear hbW hcW h ha hok hL hv hd iha hw hbV hcV
  go_enter Tryz.func21,Tryz.ntmps21
  go_wp2_with fail
  try rw[hV]
  refine HC.out.mono ?_
  rintro e w1 ⟨rfl,h1⟩
  have HQ:=hid (Wrote.new HB.out h1)
  clear h1 HC
  go_wp2
  exact bodyPost_end (v:=.tuple #[]) (by simp[results,Tryz.results21,go_sem]) rfl ⟨rfl,HQ.out⟩
 |
  nnul a iha =>
  intro hok g tb L d m w v h hx hL h0 hdm hd hm
  obtain⟨k,op,tn,nm,vk,vn,vs,ys,aa,nn,cc,he,rfl,ha⟩:=hx
  simp only[Tm.ex,exOf,Ex.mk.injEq] at he
  obtain⟨rfl,rfl,rfl,rfl,hv,rfl⟩:=he
  dsimp only
  obtain⟨W,hW,hbW,hzW,hcW⟩:=box8 w (.cells #[.int .i64 4,.int .i64 0,.string (str8 []),.string (str8 []),.int .i64 vk,.int .i64 vn,.string (str8 vs),.slice aa nn cc] 26)
  have k0:=cells8 hcW
  have HB:=hid hbW
  have HC:=hid (nnot_w a hok (iha hok) 0 vk vn [] [] vs aa nn cc g tb L d m W (h.below hbW) (ha.new hbW) (by simpa [Tm.tk] using hL) h0 hdm hd hm)
  generalize (Tm.nnul a).tk=T at HC ⊢
  generalize (Tm.nnul a).dp=D at HC ⊢
  clear hbW hcW h ha hok hL hv hd iha
  go_enter Tryz.func21,Tryz.ntmps21
  go_wp2_with fail
  refine HC.out.mono ?_
  rintro e w1 ⟨rfl,h1⟩
  have HQ:=hid (Wrote.new HB.out h1)
  clear h1 HC
  go_wp2
  exact bodyPost_end (v:=.tuple #[]) (by simp[results,Tryz.results21,go_sem]) rfl ⟨rfl,HQ.out⟩
end Go.Proofs.YtnidnipiihhnaaaGreatDoor
