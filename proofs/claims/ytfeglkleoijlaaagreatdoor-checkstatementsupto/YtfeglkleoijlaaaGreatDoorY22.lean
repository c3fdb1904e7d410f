import Derived.Test.YtfeglkleoijlaaaGreatDoorY21
import Derived.Shelf.SlicesE.Clone
import Derived.Shelf.SlicesQ.IndexFunc
import Derived.Shelf.SlicesQ.Equal
import Derived.Test.YtfeglkleoijlaaaGreatDoorChecked
namespace Go.Proofs.YtfeglkleoijlaaaGreatDoor
open Go.RowKit Go.Shelf
set_option linter.unusedSimpArgs false
set_option linter.unusedVariables false
set_option maxRecDepth 20000
set_option maxHeartbeats 8000000
theorem Cr (S:Nat→Prop) (s:St) (cs:List Value) (w:World) (hk1:s.k=1) (hR:vZ s) (hx:fD S w s cs) :
  Calls Tryz.prog 47 #[.agg cs.toArray] w fun e w'=>e = .returned (.bool (aQ s))∧Below w.heap.size w w':=by
 obtain⟨a1,a2,a3,a4,a5,a6,a7,a8,n1,n2,n3,n4,n5,n6,n7,n8,c1,c2,c3,c4,c5,c6,c7,c8,rfl,x1,x2,x3,x4,x5,x6,x7,x8⟩:=hx
 have e1:n1=s.aC.length:=by obtain⟨_,_,hf⟩:=x1.form;simp only[aah] at hf;exact hf.2.1
 have e2:n2=s.rows.length:=by obtain⟨_,_,hf⟩:=x2.form;simp only[aah] at hf;exact hf.2.1
 have e3:n3=s.sets.length:=by obtain⟨_,_,hf⟩:=x3.form;simp only[aah] at hf;exact hf.2.1
 have e4:n4=s.items.length:=by obtain⟨_,_,hf⟩:=x4.form;simp only[aah] at hf;exact hf.2.1
 have e5:n5=s.on.length:=by obtain⟨_,_,hf,_⟩:=x5.form;simp only[aah] at hf;exact hf.2.1
 have e6:n6=s.wh.length:=by obtain⟨_,_,hf,_⟩:=x6.form;simp only[aah] at hf;exact hf.2.1
 have e7:n7=s.gr.length:=by obtain⟨_,_,hf,_⟩:=x7.form;simp only[aah] at hf;exact hf.2.1
 have e8:n8=s.od.length:=by obtain⟨_,_,hf,_⟩:=x8.form;simp only[aah] at hf;exact hf.2.1
 obtain⟨k,tn,aC,aD,rows,sets,items,jn,on,wh,gr,od,desc,lim⟩:=s
 obtain⟨rt,rp,rj,rl,rc,rr,rs,ri,ro,rw',rg,rd⟩:=hR
 dsimp only at *
 subst e1 e2 e3 e4 e5 e6 e7 e8
 have jI:=hid (fun V=>je tn V rt)
 have QA:=hid (fun V=>je aD V rp)
 have zq:Hid (∀V,Below w.heap.size w V→Calls Tryz.prog 88 #[.slice a1 aC.length c1,.int .i64 1,.int .i64 8,.func (.func 89) #[] #[]] V fun e w'=>e = .returned (.bool (aR aC 1 8 iV))∧Below V.heap.size V w'):=hid (fun V hV=>Ai S 89 (enters_of Tryz.func89 (by kernel_rfl) rfl) iV aC _ 1 8 V (by omega) (by omega) (x1.to (by decide) (R:=fun _=>False) (T:=S) (ak.aA hV) (fun b hb _=>⟨id,hb⟩) (fun _ _ e=>e)) (hid (fun y hy U hU cs hcs=>by obtain rfl:=hcs;exact oO y U (rc y hy))))
 subst hk1
 have hrs:aQ ⟨1,tn,aC,aD,rows,sets,items,jn,on,wh,gr,od,desc,lim⟩=((aR aC 1 8 iV&&aU aD)&&(aU tn&&qj 0 [] rows.length sets.length items.length jn on.length wh.length gr.length od.length desc lim)):=by
  unfold aQ lY yF
  dsimp only
  simp only[if_true]
  rw[oH _ rfl rfl]
  rfl
 rw[hrs]
 clear hrs x1 x2 x3 x4 x5 x6 x7 x8 rt rp rj rl rc rr rs ri ro rw' rg rd
 generalize aR aC 1 8 iV=BC at zq ⊢
 generalize aU aD=BP at QA ⊢
 generalize aU tn=BT at jI ⊢
 generalize aC.length=n1 at *
 generalize rows.length=n2 at *
 generalize sets.length=n3 at *
 generalize items.length=n4 at *
 generalize on.length=n5 at *
 generalize wh.length=n6 at *
 generalize gr.length=n7 at *
 generalize od.length=n8 at *
 exact zT w tn aD jn desc lim a1 a2 a3 a4 a5 a6 a7 a8 n1 n2 n3 n4 n5 n6 n7 n8 c1 c2 c3 c4 c5 c6 c7 c8 BC BP BT zq QA jI
theorem Br (x:St) (hk1:x.k=1) (hr:aQ x=true) (cs:List Value) (g:Nat) (tb:Option Nat) (L:List Tk) (d m:Int) (w:World) (h:bO w g tb L d m) (hx:fD (fun b=>b<g) w x cs) (hL:L.length+(o7 x).length≤1000000000) (h0:0≤d) (jy:d≤m) (hm:m≤1000000000) (hd:d+(tQ x:Nat)≤1000000000) :
  Calls Tryz.prog 49 #[.pointer (some ⟨g,0,none⟩),.agg cs.toArray] w fun e w'=>e = .returned (.tuple #[])∧Wrote g tb w w' (L++o7 x) d (max m (d+(tQ x:Nat))):=by
 obtain⟨a1,a2,a3,a4,a5,a6,a7,a8,n1,n2,n3,n4,n5,n6,n7,n8,c1,c2,c3,c4,c5,c6,c7,c8,rfl,x1,x2,x3,x4,x5,x6,x7,x8⟩:=hx
 have hkB:lY x=true:=by unfold aQ at hr;simp only[aaC] at hr;exact hr.1
 unfold lY at hkB
 unfold o7 at hL ⊢
 unfold tQ at hd ⊢
 obtain⟨k,tn,aC,aD,rows,sets,items,jn,on,wh,gr,od,desc,lim⟩:=x
 dsimp only at *
 clear hr
 subst hk1
 simp only[if_true] at hkB hL
 simp only[aaC] at hkB
 have e0:max m (d+((tQ ⟨1,tn,aC,aD,rows,sets,items,jn,on,wh,gr,od,desc,lim⟩:Nat):Int))=m:=by show max m (d+((0:Nat):Int))=m;omega
 unfold tQ at e0
 dsimp only at e0
 rw[e0]
 clear e0 hd
 simp only[if_true]
 have NY:L.length+(aV (bg [44]) (aC.map mG)).length+11≤1000000000:=by simp[U4,ay] at hL;omega
 obtain⟨W,hW,hbW,aJ,hcW⟩:=aK w (.cells #[.int .i64 1,.string (aj tn),.slice a1 n1 c1,.string (aj aD),.slice a2 n2 c2,.slice a3 n3 c3,.slice a4 n4 c4,.string (aj jn),.slice a5 n5 c5,.slice a6 n6 c6,.slice a7 n7 c7,.slice a8 n8 c8,.bool desc,.int .i64 lim] 29)
 have rG:=au hcW
 have HB:=hid hbW
 have HW0:=hid (h.below hbW)
 have iD:=hid (fP.mk' h hcW (aaF _))
 have HT0:Hid (∀k,tb=some k→tb=some k∨W.heap.size≤k):=hid (fun k hk=>.inl hk)
 have o9:Hid (eP g tb W W):=hid (ak.refl _ _)
 have HX0:=hid (Fe aC hkB.1 tn aD jn desc lim a1 a2 a3 a4 a5 a6 a7 a8 n1 n2 n3 n4 n5 n6 n7 n8 c1 c2 c3 c4 c5 c6 c7 c8 g tb L d m W HW0.out (x1.to (by decide) (R:=fun _=>False) (T:=fun b=>b<g) (ak.aA hbW) (fun b hb _=>⟨id,hb⟩) (fun _ _ e=>e)) NY h0 jy hm)
 show Calls Tryz.prog 49 _ w fun e w'=>_∧Wrote g tb w w' (L++(ay [[67,82,69,65,84,69],[84,65,66,76,69]]++dQ tn::bg [40]::(aV (bg [44]) (aC.map mG)++(ay [[44],[80,82,73,77,65,82,89],[75,69,89],[40]]++dQ aD::ay [[41],[41]])))) d m
 generalize (ay [[67,82,69,65,84,69],[84,65,66,76,69]]++dQ tn::bg [40]::(aV (bg [44]) (aC.map mG)++(ay [[44],[80,82,73,77,65,82,89],[75,69,89],[40]]++dQ aD::ay [[41],[41]])))=T at HX0 ⊢
 clear x1 x2 x3 x4 x5 x6 x7 x8 hbW hcW h hkB hL NY
 go_enter Tryz.func49,Tryz.ntmps49
 go_wp2_with fail
 refine HX0.out.mono ?_
 rintro e w1 ⟨rfl,h1⟩
 have HQ:=hid (Wrote.new HB.out h1)
 clear h1 HX0
 go_wp2
 exact bodyPost_end (v:=.tuple #[]) (by simp[results,Tryz.results49,go_sem]) rfl ⟨rfl,HQ.out⟩
theorem uG (S:Nat→Prop) (l:List St) (v:Value) (w:World) (hT:iL w) (hk1 : ∀s∈l,s.k=1) (hR : ∀s∈l,vZ s) (hv:aM 14 fD S w l v) (hz:l.length≤8→∀s∈l,aQ s=true→∀e∈oM s,pX e≤5000) :
  Calls Tryz.prog 18 #[v] w fun e w'=>e = .returned (.tuple #[.string (aj (qg l).1),.int .i64 (qg l).2])∧Below w.heap.size w w':=by
 have HV:=hid hv
 obtain⟨aa,cc,css,rfl,h1,h2,_⟩:=hv
 unfold maxLen at h2
 unfold qg
 by_cases h8:8<l.length
 ·rw[if_pos h8]
  have h8':(8:Int)<(l.length:Int):=by omega
  clear hz hR HV hT
  go_enter Tryz.func18,Tryz.ntmps18
  go_wp2
  exact bodyPost_ret (v:=.tuple #[.string ⟨#[]⟩,.int .i64 2]) (by simp[results,Tryz.results18,go_sem]) rfl ⟨rfl,Below.refl _ _⟩
 ·rw[if_neg h8]
  have h8' : ¬(8:Int)<(l.length:Int):=by omega
  have HA:=hid (Ab S 47 (enters_of Tryz.func47 (by kernel_rfl) rfl) aQ l _ 1 8 w (by decide) (by decide) HV.out (hid (fun x hx V hb cs hcs=>Cr S x cs V (hk1 x hx) (hR x hx) hcs)))
  have QV:=hid hT
  clear hR hT
  cases ha:aR l 1 8 aQ with
  |
   false =>
   rw[ha] at HA
   rw[if_neg Bool.false_ne_true]
   clear ha hz HV QV
   go_enter Tryz.func18,Tryz.ntmps18
   go_wp2_with fail
   refine HA.out.mono ?_
   rintro e w1 ⟨rfl,hb1⟩
   have HB1:=hid hb1
   clear hb1 HA
   go_wp2
   exact bodyPost_ret (v:=.tuple #[.string ⟨#[]⟩,.int .i64 4]) (by simp[results,Tryz.results18,go_sem]) rfl ⟨rfl,HB1.out⟩
  |
   true =>
   rw[ha] at HA
   rw[if_pos rfl]
   have hall:=aP ha
   have hln:=(bG ha).2
   have hz2 : ∀s∈l,∀e∈oM s,pX e≤5000:=fun s hs=>hz hln s hs (hall s hs)
   have htl:=mQ (bg [59]) o7 501000 l (fun s hs=>La (hall s hs) (hz2 s hs))
   have hdl:aZ (l.map tQ)≤10000:=tu (fun n hn=>by
    obtain⟨s,hs,rfl⟩:=List.mem_map.1 hn
    exact Bu (hz2 s hs))
   have Sq:(aV (bg [59]) (l.map o7)).length≤4008008:=Nat.le_trans htl (Nat.mul_le_mul_right _ hln)
   have Tc:Hid (∀s∈l,tQ s≤10000):=hid (fun s hs=>Bu (hz2 s hs))
   have K6:Hid (∀t∈aV (bg [59]) (l.map o7),UE t):=hid (fun t ht=>(bD.sep (bL (by decide)) (fun x hx=>by
    obtain⟨s,hs,rfl⟩:=List.mem_map.1 hx
    exact xE (hall s hs)) t ht).ok)
   have Wu:=hid hall
   have Fj:Hid (∀(V:World) (g:Nat),bO V g none [] 0 0→aM 14 fD (fun b=>b<g) V l (.slice aa l.length cc)→Calls Tryz.prog 48 #[.pointer (some ⟨g,0,none⟩),.string ⟨#[59]⟩,.slice aa l.length cc,.func (.func 49) #[.pointer (some ⟨g,0,none⟩)] #[]] V fun e w'=>e = .returned (.tuple #[])∧Wrote g none V w' ([]++aV (bg [59]) (l.map o7)) 0 (max 0 (0+((aZ (l.map tQ):Nat):Int)))):=hid (fun V g hV hS=>Dj 49 (enters_of Tryz.func49 (by kernel_rfl) rfl) o7 tQ [59] (by decide) l _ g none [] 0 0 V hV hS (by decide) (by decide) (fun x hx=>by have:=Tc.out x hx;omega) (by show 0+_≤_;omega) (hid (fun x hxm U bX L2 m2 hU cs hcs hl2 h3 h4=>Br x (hk1 x hxm) (Wu.out x hxm) cs g bX L2 0 m2 U hU hcs hl2 (by decide) h3 h4 (by have:=Tc.out x hxm;omega))))
   obtain⟨R,hR⟩:∃R,tC (aV (bg [59]) (l.map o7)) ((aZ (l.map tQ):Nat):Int)=R:=⟨_,rfl⟩
   rw[hR]
   have HRR:=hid hR
   clear hR ha hall hz hz2 htl Wu Tc
   generalize aV (bg [59]) (l.map o7)=T at Fj K6 HRR Sq
   generalize aZ (l.map tQ)=D at Fj HRR hdl
   go_enter Tryz.func18,Tryz.ntmps18
   go_wp2_with fail
   refine HA.out.mono ?_
   rintro e w1 ⟨rfl,hb1⟩
   obtain⟨V,hV,mU,K4,Rs⟩:=FR w1 (QV.out.on hb1)
   have hB1:=hb1.trans (mU.mono hb1.size)
   have hle1:w.heap.size≤w1.heap.size:=hb1.size
   have Vp:aM 14 fD (fun b=>b<w1.heap.size) V l (.slice aa l.length cc):=by
    have hk:=ak.aA (S:=fun _=>False) hb1
    have hk2:=ak.aA (S:=fun _=>False) mU
    have a1:aM 14 fD (fun b=>b<w1.heap.size) w1 l (.slice aa l.length cc):=HV.out.to (by decide) hk (fun b _ hb=>⟨id,aa7 hb hb1.size⟩) (fun _ _ e=>e.to hk (fun b _ hb=>⟨id,aa7 hb hb1.size⟩))
    exact a1.to (by decide) hk2 (fun b hb _=>⟨id,hb⟩) (fun _ _ e=>e.to hk2 (fun b hb _=>⟨id,hb⟩))
   have HL:=hid (Fj.out V w1.heap.size Rs Vp)
   have zl:=hid hB1
   clear hb1 hB1 HA mU Rs Vp Fj
   go_wp2_with fail
   try rw[hV]
   refine HL.out.mono ?_
   rintro e w2 ⟨rfl,bX,hw2,ht2,hf2⟩
   rw[List.nil_append] at hw2
   have e1:max (0:Int) (0+(D:Int))=(D:Int):=by omega
   rw[e1] at hw2
   have HS:=hid (yG _ _ _ _ _ w2 hw2 K6.out (by omega))
   have HB2:Hid (Below w.heap.size w w2):=hid (zl.out.trans (hf2.below (fun i hi=>by
    rcases hi with rfl | e
    ·omega
    ·cases e) (by omega)))
   clear hw2 ht2 hf2 HL e1
   rw[HRR.out] at HS
   go_wp2_with fail
   refine HS.out.mono ?_
   rintro e w3 ⟨rfl,hb3⟩
   have HB3:=htr HB2 hb3
   clear hb3 HS
   go_wp2
   exact bodyPost_ret (v:=.tuple #[.string (aj R.1),.int .i64 R.2]) (by simp[results,Tryz.results18,go_sem]) rfl ⟨rfl,HB3.out⟩
end Go.Proofs.YtfeglkleoijlaaaGreatDoor
namespace Go.Proofs.YtfeglkleoijlaaaGreatDoor
open Go.Shelf
set_option linter.unusedVariables false
set_option maxRecDepth 100000
set_option maxHeartbeats 8000000
def Xm:Ren:=⟨fun x=>if x=41 then 81 else x,fun x=>if x=4 then 4 else if x=22 then 23 else if x=23 then 60 else x,fun x=>x⟩
theorem NT:SlLaysE0.n41 Tryz.prog Xm where
 mixed:=by kernel_rfl
 f41:=⟨"slices.Clone[[]vestry/api.Column,vestry/api.Column]", by decide,by kernel_rfl⟩
 t4:=by kernel_rfl
 a4:=fun w=>by kernel_rfl
 z4:=fun w=>by kernel_rfl
 v4:=fun w=>by kernel_rfl
 t22:=by kernel_rfl
 a22:=fun w=>by kernel_rfl
 z22:=fun w=>by kernel_rfl
 v22:=fun w=>by kernel_rfl
def Zi:Ren:=⟨fun x=>if x=6 then 110 else x,fun x=>if x=0 then 0 else if x=3 then 3 else if x=4 then 4 else if x=22 then 23 else if x=23 then 60 else if x=25 then 139 else x,fun x=>x⟩
theorem MS:SlLaysH0.n6 Tryz.prog Zi where
 mixed:=by kernel_rfl
 f6:=⟨"slices.IndexFunc[[]vestry/api.Column,vestry/api.Column]", by decide,by kernel_rfl⟩
 t0:=by kernel_rfl
 a0:=fun w=>by kernel_rfl
 z0:=fun w=>by kernel_rfl
 v0:=fun w=>by kernel_rfl
 t3:=by kernel_rfl
 a3:=fun w=>by kernel_rfl
 z3:=fun w=>by kernel_rfl
 v3:=fun w=>by kernel_rfl
 t4:=by kernel_rfl
 a4:=fun w=>by kernel_rfl
 z4:=fun w=>by kernel_rfl
 v4:=fun w=>by kernel_rfl
 t22:=by kernel_rfl
 a22:=fun w=>by kernel_rfl
 z22:=fun w=>by kernel_rfl
 v22:=fun w=>by kernel_rfl
 t25:=by kernel_rfl
 a25:=fun w=>by kernel_rfl
 z25:=fun w=>by kernel_rfl
 v25:=fun w=>by kernel_rfl
def YU:Ren:=⟨fun x=>if x=8 then 79 else x,fun x=>if x=0 then 0 else if x=3 then 3 else if x=4 then 4 else if x=22 then 23 else if x=24 then 60 else x,fun x=>x⟩
theorem UK:SlLaysQ.n8 Tryz.prog YU where
 mixed:=by kernel_rfl
 f8:=⟨"slices.Equal[[]vestry/api.Column,vestry/api.Column]", by decide,by kernel_rfl⟩
 t0:=by kernel_rfl
 a0:=fun w=>by kernel_rfl
 z0:=fun w=>by kernel_rfl
 v0:=fun w=>by kernel_rfl
 t3:=by kernel_rfl
 a3:=fun w=>by kernel_rfl
 z3:=fun w=>by kernel_rfl
 v3:=fun w=>by kernel_rfl
 t4:=by kernel_rfl
 a4:=fun w=>by kernel_rfl
 z4:=fun w=>by kernel_rfl
 v4:=fun w=>by kernel_rfl
 t22:=by kernel_rfl
 a22:=fun w=>by kernel_rfl
 z22:=fun w=>by kernel_rfl
 v22:=fun w=>by kernel_rfl
open Go.RowKit Go.Lib
set_option linter.unusedSimpArgs false
set_option maxRecDepth 20000
instance aat:Inhabited Co:=⟨⟨[],0,false,false⟩⟩
def mH (c:Co):List Value:=[.string (aj c.nm),.int .i64 c.k,.bool c.nn,.bool c.uq]
def fO (l:List Co):List Value:=(l.map mH).flatten
theorem jO (l:List Co):(fO l).length=l.length*4:=by
 unfold fO
 induction l with
 | nil=>rfl
 | cons c l ih=>rw[List.map_cons,List.flatten_cons,aaN,ih,aa1,Nat.succ_mul,Nat.add_comm];rfl
theorem LB (c:Co):∀u∈mH c,u.oneCell'=true:=fun u hu=>by
 simp only[mH,abg,List.not_mem_nil,or_false] at hu
 rcases hu with rfl | rfl | rfl | rfl<;>rfl
theorem zN (l:List Co):∀u∈fO l,u.oneCell'=true:=fun u hu=>by
 obtain⟨cs,hcs,hu⟩:=List.mem_flatten.1 hu
 obtain⟨c,_,rfl⟩:=List.mem_map.1 hcs
 exact LB c u hu
theorem wz (S:Nat→Prop) (w:World) (l:List Co):lH 4 ku S w l (l.map mH):=⟨by simp,fun j x cs hx hc=>by
 rw[List.getElem?_map,hx,Option.map_some,abf] at hc
 subst hc
 exact⟨rfl,rfl⟩⟩
def fG (S:Nat→Prop) (w:World) (t:Tb) (cs:List Value):Prop:=∃(aa:Option Addr) (nn cc:Nat),cs=[.string (aj t.nm),.slice aa nn cc,.int .i64 t.pr]∧aM 4 ku S w t.aC (.slice aa nn cc)
def Mf (base:Nat) (w:World) (t:Tb) (cs:List Value):Prop:=∃(aa:Option Addr) (nn cc:Nat),cs=[.string (aj t.nm),.slice aa nn cc,.int .i64 t.pr]∧w.ownsRow base 60 4 (.slice aa nn cc) t.aC.length (fO t.aC)
theorem Av {base:Nat} {w:World} {l:List Co} {v:Value} (h:w.ownsRow base 60 4 v l.length (fO l)):aM 4 ku (fun b=>base≤b) w l v :=
 aM.iM (by decide) h (wz _ w l) (fun b hb=>(h.lt b hb).1)
theorem Mf.e {base:Nat} {w:World} {t:Tb} {cs:List Value} (h:Mf base w t cs):fG (fun b=>base≤b) w t cs:=by
 obtain⟨aa,nn,cc,h1,h2⟩:=h
 exact⟨aa,nn,cc,h1,Av h2⟩
theorem fG.to {S R T:Nat→Prop} {w w':World} {t:Tb} {cs:List Value} (h:fG S w t cs) (hk:ak R w w') (hS : ∀b,S b→b<w.heap.size→¬R b∧T b):fG T w' t cs:=by
 obtain⟨aa,nn,cc,h1,h2⟩:=h
 exact⟨aa,nn,cc,h1,h2.to (by decide) hk hS (fun _ _ e=>e)⟩
theorem fG.on {S:Nat→Prop} {w w':World} {t:Tb} {cs:List Value} (h:fG S w t cs) (hb:Below w.heap.size w w'):fG S w' t cs:=h.to (R:=fun _=>False) (ak.aA hb) (fun b hS _=>⟨id,hS⟩)
theorem j3 (base:Nat) (w:World) (hb:base≤w.heap.size):Mf base w GN [.string ⟨#[]⟩,.slice none 0 0,.int .i64 0]:=⟨none,0,0,rfl,World.ownsRow_nil _ _ _ _⟩
theorem iX {S:Nat→Prop} {w:World} {l:List Co} {v:Value} (h:aM 4 ku S w l v) (hne:l≠[]):∃(b off c:Nat),v = .slice (some ⟨b,off,none⟩) l.length c∧l.length≤c∧c≤maxLen∧S b∧b<w.heap.size ∧
  ∀Z,Below w.heap.size w Z→∀(j:Nat) (x:Co),l[j]?=some x→∀(i:Nat) (u:Value),(mH x)[i]?=some u→Z.cell? ⟨b,off+j*4+i,none⟩=some u:=by
 obtain⟨a,c,css,h1,h2,h3,h4,h5⟩:=h
 obtain⟨b,off,rfl,hS,hc⟩:=h5 hne
 have hel : ∀(j:Nat) (x:Co),l[j]?=some x→css[j]?=some (mH x):=fun j x hx=>by
  have hj:j<css.length:=by rw[h4.1];exact (aam.1 hx).1
  rw[aaf hj,(h4.2 j x _ hx (aaf hj)).2]
  rfl
 have hlt:b<w.heap.size:=by
  cases l with
  | nil=>exact absurd rfl hne
  | cons x l=>exact World.block_lt_of_cell? w _ (hc 0 (mH x) (hel 0 x rfl) 0 _ rfl)
 exact⟨b,off,c,h1,h2,h3,hS,hlt,fun Z hZ j x hx i u hu=>(hZ.cell (p:=⟨b,_,none⟩) hlt).trans (hc j (mH x) (hel j x hx) i u hu)⟩
theorem GD (d:Nat) (s s':ByteArray) (k k':Int) (x y x' y':Bool) (w:World):(Op.equalIn (d+1+1) 60 (.agg #[.string s,.int .i64 k,.bool x,.bool y]) (.agg #[.string s',.int .i64 k',.bool x',.bool y'])).run Tryz.prog w = .ok (s.toList==s'.toList&&(k==k'&&(x==x'&&y==y'))) w:=by
 rw[run_equalIn_struct (P:=Tryz.prog) w (d+1) 60 _ _ Tryz.JC Tryz.Ng]
 exact Rf _ _ _ (.string s) (.int .i64 k) (.bool x) (.bool y) (.string s') (.int .i64 k') (.bool x') (.bool y') _ _ _ _ w (by simp[Go.part,go_sem]) (by simp[Go.part,go_sem]) (by simp[Go.part,go_sem]) (by simp[Go.part,go_sem]) (by simp[Go.part,go_sem]) (by simp[Go.part,go_sem]) (by simp[Go.part,go_sem]) (by simp[Go.part,go_sem])
  (run_equalIn_string (P:=Tryz.prog) w d 9 s s' Tryz.underlying9) (run_equalIn_int (P:=Tryz.prog) w d 3 .i64 .i64 k k' Tryz.underlying3) (run_equalIn_bool (P:=Tryz.prog) w d 4 x x' Tryz.underlying4) (run_equalIn_bool (P:=Tryz.prog) w d 4 y y' Tryz.underlying4)
theorem KD (a b:Co):((aj a.nm).toList==(aj b.nm).toList&&(a.k==b.k&&(a.nn==b.nn&&a.uq==b.uq)))=tV a b:=by
 obtain⟨a1,a2,a3,a4⟩:=a
 obtain⟨b1,b2,b3,b4⟩:=b
 simp only[aS,tV]
 by_cases h1:a1=b1<;>by_cases h2:a2=b2<;>by_cases h3:a3=b3<;>by_cases h4:a4=b4<;>simp[h1,h2,h3,h4]
theorem Ip (a b:Co) (w:World):(binOp .neq 60 (.agg #[.string (aj a.nm),.int .i64 a.k,.bool a.nn,.bool a.uq]) (.agg #[.string (aj b.nm),.int .i64 b.k,.bool b.nn,.bool b.uq])).run Tryz.prog w = .ok (.bool (!tV a b)) w:=by
 rw[run_neq_struct,show (10000:Nat)=9998+1+1 from rfl,GD,KD]
 rfl
theorem Pt:NeqAt Tryz.prog 60 (fun x=>.agg (mH x).toArray) tV:=⟨fun x y w=>Ip x y w,GuardAt.agg _ Tryz.yx⟩
def gG (l:List Co) (nm:List UInt8):Int:=if bF l nm<l.length then (bF l nm:Nat) else -1
theorem vE (l:List Co) (nm:List UInt8):Lib.idxBy (fun _ y=>decide (y.nm=nm)) (l.take l.length) default=gG l nm:=by
 unfold gG
 by_cases h:bF l nm<l.length
 ·rw[if_pos h]
  exact Lib.idxBy_hit _ l l.length (bF l nm) default h (aaF _) (by
   rw[getElem!_pos l _ h]
   exact aar (ou h)) (fun j hj=>by
   rw[getElem!_pos l j (by omega)]
   exact aaj (qR hj (by omega)))
 ·rw[if_neg h]
  exact Lib.idxBy_miss _ l l.length default (fun j hj=>by
   rw[getElem!_pos l j hj]
   exact aaj (qR (by omega) hj))
theorem KG (nm:List UInt8) (B:Nat) (w:World) (hB:B<w.heap.size) (hcell:w.cell? ⟨B,0,none⟩=some (.string (aj nm))) :
  PredBelow Tryz.prog 153 #[.pointer (some ⟨B,0,none⟩)] (fun x=>.agg (mH x).toArray) (fun x=>decide (x.nm=nm)) w:=fun W x hb=>by
 have hc:W.cell? ⟨B,0,none⟩=some (.string (aj nm)):=(hb.cell (p:=⟨B,0,none⟩) hB).trans hcell
 obtain⟨V,hV,mU,K4,wH⟩:=aK W (.cells #[.string (aj x.nm),.int .i64 x.k,.bool x.nn,.bool x.uq] 60)
 have k0:=uz wH
 have k1:V.cell? ⟨B,0,none⟩=some (.string (aj nm)):=(mU.cell (p:=⟨B,0,none⟩) (aa7 hB hb.size)).trans hc
 have HB:=hid (hb.trans (mU.mono hb.size))
 have he:((aj x.nm).toList==(aj nm).toList)=decide (x.nm=nm):=by
  rw[aS,aS]
  by_cases h:x.nm=nm<;>simp[h]
 show Calls Tryz.prog 153 #[.agg #[.string (aj x.nm),.int .i64 x.k,.bool x.nn,.bool x.uq],.pointer (some ⟨B,0,none⟩)] W _
 dsimp only
 rw[← he]
 clear hb mU wH hc hcell he
 go_enter Tryz.func153,Tryz.ntmps153
 go_wp2_with fail
 try rw[hV]
 go_wp2
 go_ret
 exact⟨rfl,HB.out⟩
theorem zP (S:Nat→Prop) (l:List Co) (v:Value) (nm:List UInt8) (w:World) (h:aM 4 ku S w l v) (hne:l≠[]) :
  Calls Tryz.prog 109 #[v,.string (aj nm)] w fun e w'=>e = .returned (.int .i64 (gG l nm))∧Below w.heap.size w w':=by
 obtain⟨b,off,c,rfl,h1,h2,hS,hlt,hel⟩:=iX h hne
 unfold maxLen at h2
 obtain⟨W,hW,hbW,aJ,hcW⟩:=aK w (.cells #[.string (aj nm)] 9)
 have hcell:W.cell? ⟨w.heap.size,0,none⟩=some (.string (aj nm)):=by rw[aB _ _ _ _ _ _ hcW];rfl
 have HC:=hid (AnyQ.slices_IndexFunc MS 4 Tryz.isAgg60 Tryz.sizeOf60 mH (fun _=>rfl) (fun x=>decide (x.nm=nm)) 153 #[.pointer (some ⟨w.heap.size,0,none⟩)] (enters_of Tryz.func153 (by kernel_rfl) rfl) b off l.length c l W
  (KG nm w.heap.size W aJ hcell) (aaF _) (by omega) (by omega) (fun j hj i u hu=>hel W hbW j l[j]! (by rw[getElem!_pos l j hj];exact aaf hj) i u hu))
 rw[vE] at HC
 generalize gG l nm=r at HC ⊢
 have HB:=hid hbW
 clear hel hcell hcW hbW h
 go_enter Tryz.func109,Tryz.ntmps109
 go_wp2_with fail
 try rw[hW]
 refine HC.out.mono ?_
 rintro e w1 ⟨rfl,hb1⟩
 have HB1:=htr HB hb1
 clear hb1
 go_wp2
 go_ret
 exact⟨rfl,HB1.out⟩
end Go.Proofs.YtfeglkleoijlaaaGreatDoor
