/- Packed for the hand-in: WOne CLays CTab -/
import Derived.Test.YtaaggohjmhifbaaGreatDoorY27
import Derived.Shelf.SlicesE.Clone
import Derived.Shelf.SlicesQ.IndexFunc
import Derived.Shelf.SlicesQ.Equal
import Derived.Test.YtaaggohjmhifbaaGreatDoorChecked
import Derived.Test.YtaaggohjmhifbaaGreatDoorY36
namespace Go.Proofs.YtaaggohjmhifbaaGreatDoor
open Go.RowKit Go.Shelf
set_option linter.unusedSimpArgs false
set_option linter.unusedVariables false
set_option maxRecDepth 20000
set_option maxHeartbeats 8000000
theorem xG (S:Nat→Prop) (s:St) (cs:List Value) (w:World) (hk1:s.k=1) (hR:yc s) (hx:jK S w s cs) :
  Calls Tryz.prog 59 #[.agg cs.toArray] w fun e w'=>e = .returned (.bool (aM s))∧Below w.heap.size w w':=by
 obtain⟨a1,a2,a3,a4,a5,a6,a7,a8,n1,n2,n3,n4,n5,n6,n7,n8,c1,c2,c3,c4,c5,c6,c7,c8,rfl,x1,x2,x3,x4,x5,x6,x7,x8⟩:=hx
 have e1:n1=s.cols.length:=by obtain⟨_,_,hf⟩:=x1.form;simp only[Value.slice.injEq] at hf;exact hf.2.1
 have e2:n2=s.rows.length:=by obtain⟨_,_,hf⟩:=x2.form;simp only[Value.slice.injEq] at hf;exact hf.2.1
 have e3:n3=s.sets.length:=by obtain⟨_,_,hf⟩:=x3.form;simp only[Value.slice.injEq] at hf;exact hf.2.1
 have e4:n4=s.items.length:=by obtain⟨_,_,hf⟩:=x4.form;simp only[Value.slice.injEq] at hf;exact hf.2.1
 have e5:n5=s.on.length:=by obtain⟨_,_,hf,_⟩:=x5.form;simp only[Value.slice.injEq] at hf;exact hf.2.1
 have e6:n6=s.wh.length:=by obtain⟨_,_,hf,_⟩:=x6.form;simp only[Value.slice.injEq] at hf;exact hf.2.1
 have e7:n7=s.gr.length:=by obtain⟨_,_,hf,_⟩:=x7.form;simp only[Value.slice.injEq] at hf;exact hf.2.1
 have e8:n8=s.od.length:=by obtain⟨_,_,hf,_⟩:=x8.form;simp only[Value.slice.injEq] at hf;exact hf.2.1
 obtain⟨k,tn,cols,prim,rows,sets,items,jn,on,wh,gr,od,desc,lim⟩:=s
 obtain⟨rt,rp,rj,rl,rc,rr,rs,ri,ro,rw',rg,rd⟩:=hR
 dsimp only at *
 subst e1 e2 e3 e4 e5 e6 e7 e8
 have HNT:=hid (fun V=>rA tn V rt)
 have HNP:=hid (fun V=>rA prim V rp)
 have HCO:Hid (∀V,Below w.heap.size w V→Calls Tryz.prog 86 #[.slice a1 cols.length c1,.int .i64 1,.int .i64 8,.func (.func 87) #[] #[]] V fun e w'=>e = .returned (.bool (aX cols 1 8 gB))∧Below V.heap.size V w'):=hid (fun V hV=>DJ S 87 (enters_of Tryz.func87 (by kernel_rfl) rfl) gB cols _ 1 8 V (by omega) (by omega) (x1.to (by decide) (R:=fun _=>False) (T:=S) (aj.aC hV) (fun b hb _=>⟨id,hb⟩) (fun _ _ e=>e)) (hid (fun y hy U hU cs hcs=>by obtain rfl:=hcs;exact tu y U (rc y hy))))
 subst hk1
 have hrs:aM ⟨1,tn,cols,prim,rows,sets,items,jn,on,wh,gr,od,desc,lim⟩=((aX cols 1 8 gB&&aQ prim)&&(aQ tn&&CZ 0 [] rows.length sets.length items.length jn on.length wh.length gr.length od.length desc lim)):=by
  unfold aM lu vY
  dsimp only
  simp only[if_true]
  rw[H9 _ rfl rfl]
  rfl
 rw[hrs]
 clear hrs x1 x2 x3 x4 x5 x6 x7 x8 rt rp rj rl rc rr rs ri ro rw' rg rd
 generalize aX cols 1 8 gB=BC at HCO ⊢
 generalize aQ prim=BP at HNP ⊢
 generalize aQ tn=BT at HNT ⊢
 generalize cols.length=n1 at *
 generalize rows.length=n2 at *
 generalize sets.length=n3 at *
 generalize items.length=n4 at *
 generalize on.length=n5 at *
 generalize wh.length=n6 at *
 generalize gr.length=n7 at *
 generalize od.length=n8 at *
 exact C9 w tn prim jn desc lim a1 a2 a3 a4 a5 a6 a7 a8 n1 n2 n3 n4 n5 n6 n7 n8 c1 c2 c3 c4 c5 c6 c7 c8 BC BP BT HCO HNP HNT
theorem xQ (x:St) (hk1:x.k=1) (hr:aM x=true) (cs:List Value) (g:Nat) (tb:Option Nat) (L:List Tk) (d m:Int) (w:World) (h:gN w g tb L d m) (hx:jK (fun b=>b<g) w x cs) (hL:L.length+(kW x).length≤1000000000) (h0:0≤d) (hdm:d≤m) (hm:m≤1000000000) (hd:d+(vJ x:Nat)≤1000000000) :
  Calls Tryz.prog 61 #[.pointer (some ⟨g,0,none⟩),.agg cs.toArray] w fun e w'=>e = .returned (.tuple #[])∧Wrote g tb w w' (L++kW x) d (max m (d+(vJ x:Nat))):=by
 obtain⟨a1,a2,a3,a4,a5,a6,a7,a8,n1,n2,n3,n4,n5,n6,n7,n8,c1,c2,c3,c4,c5,c6,c7,c8,rfl,x1,x2,x3,x4,x5,x6,x7,x8⟩:=hx
 have hkB:lu x=true:=by unfold aM at hr;simp only[Bool.and_eq_true] at hr;exact hr.1
 unfold lu at hkB
 unfold kW at hL ⊢
 unfold vJ at hd ⊢
 obtain⟨k,tn,cols,prim,rows,sets,items,jn,on,wh,gr,od,desc,lim⟩:=x
 dsimp only at *
 clear hr
 subst hk1
 simp only[if_true] at hkB hL
 simp only[Bool.and_eq_true] at hkB
 have e0:max m (d+((vJ ⟨1,tn,cols,prim,rows,sets,items,jn,on,wh,gr,od,desc,lim⟩:Nat):Int))=m:=by show max m (d+((0:Nat):Int))=m;omega
 unfold vJ at e0
 dsimp only at e0
 rw[e0]
 clear e0 hd
 simp only[if_true]
 have hL11:L.length+(bL (aJ [44]) (cols.map jD)).length+11≤1000000000:=by simp[KF,au] at hL;omega
 obtain⟨W,hW,hbW,hzW,hcW⟩:=bF w (.cells #[.int .i64 1,.string (ah tn),.slice a1 n1 c1,.string (ah prim),.slice a2 n2 c2,.slice a3 n3 c3,.slice a4 n4 c4,.string (ah jn),.slice a5 n5 c5,.slice a6 n6 c6,.slice a7 n7 c7,.slice a8 n8 c8,.bool desc,.int .i64 lim] 28)
 have kk0:=aG hcW
 have HB:=hid hbW
 have HW0:=hid (h.below hbW)
 have HBX0:=hid (lK.mk' h hcW (Nat.le_refl _))
 have HT0:Hid (∀k,tb=some k→tb=some k∨W.heap.size≤k):=hid (fun k hk=>.inl hk)
 have HF0:Hid (lZ g tb W W):=hid (aj.refl _ _)
 have HX0:=hid (Gu cols hkB.1 tn prim jn desc lim a1 a2 a3 a4 a5 a6 a7 a8 n1 n2 n3 n4 n5 n6 n7 n8 c1 c2 c3 c4 c5 c6 c7 c8 g tb L d m W HW0.out (x1.to (by decide) (R:=fun _=>False) (T:=fun b=>b<g) (aj.aC hbW) (fun b hb _=>⟨id,hb⟩) (fun _ _ e=>e)) hL11 h0 hdm hm)
 show Calls Tryz.prog 61 _ w fun e w'=>_∧Wrote g tb w w' (L++(au [[67,82,69,65,84,69],[84,65,66,76,69]]++cB tn::aJ [40]::(bL (aJ [44]) (cols.map jD)++(au [[44],[80,82,73,77,65,82,89],[75,69,89],[40]]++cB prim::au [[41],[41]])))) d m
 generalize (au [[67,82,69,65,84,69],[84,65,66,76,69]]++cB tn::aJ [40]::(bL (aJ [44]) (cols.map jD)++(au [[44],[80,82,73,77,65,82,89],[75,69,89],[40]]++cB prim::au [[41],[41]])))=T at HX0 ⊢
 clear x1 x2 x3 x4 x5 x6 x7 x8 hbW hcW h hkB hL hL11
 go_enter Tryz.func61,Tryz.ntmps61
 go_wp2_with fail
 refine HX0.out.mono ?_
 rintro e w1 ⟨rfl,h1⟩
 have HQ:=hid (Wrote.new HB.out h1)
 clear h1 HX0
 go_wp2
 exact bodyPost_end (v:=.tuple #[]) (by simp[results,Tryz.results61,go_sem]) rfl ⟨rfl,HQ.out⟩
theorem mo (S:Nat→Prop) (l:List St) (v:Value) (w:World) (hT:mh w) (hk1 : ∀s∈l,s.k=1) (hR : ∀s∈l,yc s) (hv:bP 14 jK S w l v) (hz:l.length≤8→∀s∈l,aM s=true→∀e∈nM s,qR e≤5000) :
  Calls Tryz.prog 34 #[v] w fun e w'=>e = .returned (.tuple #[.string (ah (jN l).1),.int .i64 (jN l).2])∧Below w.heap.size w w':=by
 have HV:=hid hv
 obtain⟨aa,cc,css,rfl,h1,h2,_⟩:=hv
 unfold maxLen at h2
 unfold jN
 by_cases h8:8<l.length
 ·rw[if_pos h8]
  have h8':(8:Int)<(l.length:Int):=by omega
  clear hz hR HV hT
  go_enter Tryz.func34,Tryz.ntmps34
  go_wp2
  exact bodyPost_ret (v:=.tuple #[.string ⟨#[]⟩,.int .i64 2]) (by simp[results,Tryz.results34,go_sem]) rfl ⟨rfl,Below.refl _ _⟩
 ·rw[if_neg h8]
  have h8' : ¬(8:Int)<(l.length:Int):=by omega
  have HA:=hid (Dv S 59 (enters_of Tryz.func59 (by kernel_rfl) rfl) aM l _ 1 8 w (by decide) (by decide) HV.out (hid (fun x hx V hb cs hcs=>xG S x cs V (hk1 x hx) (hR x hx) hcs)))
  have HTW:=hid hT
  clear hR hT
  cases ha:aX l 1 8 aM with
  |
   false =>
   rw[ha] at HA
   rw[if_neg Bool.false_ne_true]
   clear ha hz HV HTW
   go_enter Tryz.func34,Tryz.ntmps34
   go_wp2_with fail
   refine HA.out.mono ?_
   rintro e w1 ⟨rfl,hb1⟩
   have HB1:=hid hb1
   clear hb1 HA
   go_wp2
   exact bodyPost_ret (v:=.tuple #[.string ⟨#[]⟩,.int .i64 4]) (by simp[results,Tryz.results34,go_sem]) rfl ⟨rfl,HB1.out⟩
  |
   true =>
   rw[ha] at HA
   rw[if_pos rfl]
   have hall:=bC ha
   have hln:=(dO ha).2
   have hz2 : ∀s∈l,∀e∈nM s,qR e≤5000:=fun s hs=>hz hln s hs (hall s hs)
   have htl:=mV (aJ [59]) kW 501000 l (fun s hs=>JD (hall s hs) (hz2 s hs))
   have hdl:dJ (l.map vJ)≤10000:=tQ (fun n hn=>by
    obtain⟨s,hs,rfl⟩:=List.mem_map.1 hn
    exact Gr (hz2 s hs))
   have htl2:(bL (aJ [59]) (l.map kW)).length≤4008008:=Nat.le_trans htl (Nat.mul_le_mul_right _ hln)
   have HDP:Hid (∀s∈l,vJ s≤10000):=hid (fun s hs=>Gr (hz2 s hs))
   have HOK:Hid (∀t∈bL (aJ [59]) (l.map kW),KS t):=hid (fun t ht=>(bA.sep (bO (by decide)) (fun x hx=>by
    obtain⟨s,hs,rfl⟩:=List.mem_map.1 hx
    exact uO (hall s hs)) t ht).ok)
   have HAL:=hid hall
   have HSW:Hid (∀(V:World) (g:Nat),gN V g none [] 0 0→bP 14 jK (fun b=>b<g) V l (.slice aa l.length cc)→Calls Tryz.prog 60 #[.pointer (some ⟨g,0,none⟩),.string ⟨#[59]⟩,.slice aa l.length cc,.func (.func 61) #[.pointer (some ⟨g,0,none⟩)] #[]] V fun e w'=>e = .returned (.tuple #[])∧Wrote g none V w' ([]++bL (aJ [59]) (l.map kW)) 0 (max 0 (0+((dJ (l.map vJ):Nat):Int)))):=hid (fun V g hV hS=>EP 61 (enters_of Tryz.func61 (by kernel_rfl) rfl) kW vJ [59] (by decide) l _ g none [] 0 0 V hV hS (by decide) (by decide) (fun x hx=>by have:=HDP.out x hx;omega) (by show 0+_≤_;omega) (hid (fun x hxm U tb2 L2 m2 hU cs hcs hl2 h3 h4=>xQ x (hk1 x hxm) (HAL.out x hxm) cs g tb2 L2 0 m2 U hU hcs hl2 (by decide) h3 h4 (by have:=HDP.out x hxm;omega))))
   obtain⟨R,hR⟩:∃R,vo (bL (aJ [59]) (l.map kW)) ((dJ (l.map vJ):Nat):Int)=R:=⟨_,rfl⟩
   rw[hR]
   have HRR:=hid hR
   clear hR ha hall hz hz2 htl HAL HDP
   generalize bL (aJ [59]) (l.map kW)=T at HSW HOK HRR htl2
   generalize dJ (l.map vJ)=D at HSW HRR hdl
   go_enter Tryz.func34,Tryz.ntmps34
   go_wp2_with fail
   refine HA.out.mono ?_
   rintro e w1 ⟨rfl,hb1⟩
   obtain⟨V,hV,hbV,hzV,hwV⟩:=JW w1 (HTW.out.on hb1)
   have hB1:=hb1.trans (hbV.mono hb1.size)
   have hle1:w.heap.size≤w1.heap.size:=hb1.size
   have hsV:bP 14 jK (fun b=>b<w1.heap.size) V l (.slice aa l.length cc):=by
    have hk:=aj.aC (S:=fun _=>False) hb1
    have hk2:=aj.aC (S:=fun _=>False) hbV
    have a1:bP 14 jK (fun b=>b<w1.heap.size) w1 l (.slice aa l.length cc):=HV.out.to (by decide) hk (fun b _ hb=>⟨id,Nat.lt_of_lt_of_le hb hb1.size⟩) (fun _ _ e=>e.to hk (fun b _ hb=>⟨id,Nat.lt_of_lt_of_le hb hb1.size⟩))
    exact a1.to (by decide) hk2 (fun b hb _=>⟨id,hb⟩) (fun _ _ e=>e.to hk2 (fun b hb _=>⟨id,hb⟩))
   have HL:=hid (HSW.out V w1.heap.size hwV hsV)
   have HBV:=hid hB1
   clear hb1 hB1 HA hbV hwV hsV HSW
   go_wp2_with fail
   try rw[hV]
   refine HL.out.mono ?_
   rintro e w2 ⟨rfl,tb2,hw2,ht2,hf2⟩
   rw[List.nil_append] at hw2
   have e1:max (0:Int) (0+(D:Int))=(D:Int):=by omega
   rw[e1] at hw2
   have HS:=hid (ED _ _ _ _ _ w2 hw2 HOK.out (by omega))
   have HB2:Hid (Below w.heap.size w w2):=hid (HBV.out.trans (hf2.below (fun i hi=>by
    rcases hi with rfl | e
    ·omega
    ·cases e) (by omega)))
   clear hw2 ht2 hf2 HL e1
   rw[HRR.out] at HS
   go_wp2_with fail
   refine HS.out.mono ?_
   rintro e w3 ⟨rfl,hb3⟩
   have HB3:=hid (HB2.out.trans (hb3.mono HB2.out.size))
   clear hb3 HS
   go_wp2
   exact bodyPost_ret (v:=.tuple #[.string (ah R.1),.int .i64 R.2]) (by simp[results,Tryz.results34,go_sem]) rfl ⟨rfl,HB3.out⟩
end Go.Proofs.YtaaggohjmhifbaaGreatDoor
namespace Go.Proofs.YtaaggohjmhifbaaGreatDoor
open Go.Shelf
set_option linter.unusedVariables false
set_option maxRecDepth 100000
set_option maxHeartbeats 8000000
def KY:Ren:=⟨fun x=>if x=41 then 49 else x,fun x=>if x=4 then 4 else if x=22 then 22 else if x=23 then 37 else x,fun x=>x⟩
theorem J5:SlLaysE0.n41 Tryz.prog KY where
 mixed:=by kernel_rfl
 f41:=⟨"slices.Clone[[]vestry/api.Column,vestry/api.Column]", by decide,by kernel_rfl⟩
 t4:=by kernel_rfl
 a4:=fun w=>by kernel_rfl
 z4:=fun w=>by kernel_rfl
 v4:=fun w=>by kernel_rfl
 t22:=by kernel_rfl
 a22:=fun w=>by kernel_rfl
 z22:=fun w=>by kernel_rfl
 v22:=fun w=>by kernel_rfl
def KM:Ren:=⟨fun x=>if x=6 then 46 else x,fun x=>if x=0 then 0 else if x=3 then 3 else if x=4 then 4 else if x=22 then 22 else if x=23 then 37 else if x=25 then 84 else x,fun x=>x⟩
theorem JR:SlLaysH0.n6 Tryz.prog KM where
 mixed:=by kernel_rfl
 f6:=⟨"slices.IndexFunc[[]vestry/api.Column,vestry/api.Column]", by decide,by kernel_rfl⟩
 t0:=by kernel_rfl
 a0:=fun w=>by kernel_rfl
 z0:=fun w=>by kernel_rfl
 v0:=fun w=>by kernel_rfl
 t3:=by kernel_rfl
 a3:=fun w=>by kernel_rfl
 z3:=fun w=>by kernel_rfl
 v3:=fun w=>by kernel_rfl
 t4:=by kernel_rfl
 a4:=fun w=>by kernel_rfl
 z4:=fun w=>by kernel_rfl
 v4:=fun w=>by kernel_rfl
 t22:=by kernel_rfl
 a22:=fun w=>by kernel_rfl
 z22:=fun w=>by kernel_rfl
 v22:=fun w=>by kernel_rfl
 t25:=by kernel_rfl
 a25:=fun w=>by kernel_rfl
 z25:=fun w=>by kernel_rfl
 v25:=fun w=>by kernel_rfl
def K6:Ren:=⟨fun x=>if x=8 then 57 else x,fun x=>if x=0 then 0 else if x=3 then 3 else if x=4 then 4 else if x=22 then 22 else if x=24 then 37 else x,fun x=>x⟩
theorem JG:SlLaysQ.n8 Tryz.prog K6 where
 mixed:=by kernel_rfl
 f8:=⟨"slices.Equal[[]vestry/api.Column,vestry/api.Column]", by decide,by kernel_rfl⟩
 t0:=by kernel_rfl
 a0:=fun w=>by kernel_rfl
 z0:=fun w=>by kernel_rfl
 v0:=fun w=>by kernel_rfl
 t3:=by kernel_rfl
 a3:=fun w=>by kernel_rfl
 z3:=fun w=>by kernel_rfl
 v3:=fun w=>by kernel_rfl
 t4:=by kernel_rfl
 a4:=fun w=>by kernel_rfl
 z4:=fun w=>by kernel_rfl
 v4:=fun w=>by kernel_rfl
 t22:=by kernel_rfl
 a22:=fun w=>by kernel_rfl
 z22:=fun w=>by kernel_rfl
 v22:=fun w=>by kernel_rfl
end Go.Proofs.YtaaggohjmhifbaaGreatDoor
namespace Go.Proofs.YtaaggohjmhifbaaGreatDoor
open Go.RowKit Go.Shelf Go.Lib
set_option linter.unusedSimpArgs false
set_option linter.unusedVariables false
set_option maxRecDepth 20000
set_option maxHeartbeats 8000000
instance inhCoC:Inhabited Co:=⟨⟨[],0,false,false⟩⟩
def lH (c:Co):List Value:=[.string (ah c.nm),.int .i64 c.k,.bool c.nn,.bool c.uq]
def fG (l:List Co):List Value:=(l.map lH).flatten
theorem jw (l:List Co):(fG l).length=l.length*4:=by
 unfold fG
 induction l with
 | nil=>rfl
 | cons c l ih=>rw[List.map_cons,List.flatten_cons,List.length_append,ih,List.length_cons,Nat.succ_mul,Nat.add_comm];rfl
theorem EY (c:Co):∀u∈lH c,u.oneCell'=true:=fun u hu=>by
 simp only[lH,List.mem_cons,List.not_mem_nil,or_false] at hu
 rcases hu with rfl | rfl | rfl | rfl<;>rfl
theorem wH (l:List Co):∀u∈fG l,u.oneCell'=true:=fun u hu=>by
 obtain⟨cs,hcs,hu⟩:=List.mem_flatten.1 hu
 obtain⟨c,_,rfl⟩:=List.mem_map.1 hcs
 exact EY c u hu
theorem CK (S:Nat→Prop) (w:World) (l:List Co):kQ 4 iE S w l (l.map lH):=⟨by simp,fun j x cs hx hc=>by
 rw[List.getElem?_map,hx,Option.map_some,Option.some.injEq] at hc
 subst hc
 exact⟨rfl,rfl⟩⟩
def Aq (S:Nat→Prop) (w:World) (t:Tb) (cs:List Value):Prop:=∃(aa:Option Addr) (nn cc:Nat),cs=[.string (ah t.nm),.slice aa nn cc,.int .i64 t.pr]∧bP 4 iE S w t.cols (.slice aa nn cc)
def E9 (base:Nat) (w:World) (t:Tb) (cs:List Value):Prop:=∃(aa:Option Addr) (nn cc:Nat),cs=[.string (ah t.nm),.slice aa nn cc,.int .i64 t.pr]∧w.ownsRow base 37 4 (.slice aa nn cc) t.cols.length (fG t.cols)
theorem mq {base:Nat} {w:World} {l:List Co} {v:Value} (h:w.ownsRow base 37 4 v l.length (fG l)):bP 4 iE (fun b=>base≤b) w l v :=
 bP.mP (by decide) h (CK _ w l) (fun b hb=>(h.lt b hb).1)
theorem E9.e {base:Nat} {w:World} {t:Tb} {cs:List Value} (h:E9 base w t cs):Aq (fun b=>base≤b) w t cs:=by
 obtain⟨aa,nn,cc,h1,h2⟩:=h
 exact⟨aa,nn,cc,h1,mq h2⟩
theorem Aq.to {S R T:Nat→Prop} {w w':World} {t:Tb} {cs:List Value} (h:Aq S w t cs) (hk:aj R w w') (hS : ∀b,S b→b<w.heap.size→¬R b∧T b):Aq T w' t cs:=by
 obtain⟨aa,nn,cc,h1,h2⟩:=h
 exact⟨aa,nn,cc,h1,h2.to (by decide) hk hS (fun _ _ e=>e)⟩
theorem Aq.on {S:Nat→Prop} {w w':World} {t:Tb} {cs:List Value} (h:Aq S w t cs) (hb:Below w.heap.size w w'):Aq S w' t cs:=h.to (R:=fun _=>False) (aj.aC hb) (fun b hS _=>⟨id,hS⟩)
theorem E9.on {base:Nat} {w w':World} {t:Tb} {cs:List Value} (h:E9 base w t cs) (hb:Below w.heap.size w w'):E9 base w' t cs:=by
 obtain⟨aa,nn,cc,h1,h2⟩:=h
 exact⟨aa,nn,cc,h1,aj.row (aj.aC (S:=fun _=>False) hb) h2 (fun _ _=>id)⟩
theorem jc (base:Nat) (w:World) (hb:base≤w.heap.size):E9 base w vB [.string ⟨#[]⟩,.slice none 0 0,.int .i64 0]:=⟨none,0,0,rfl,World.ownsRow_nil _ _ _ _⟩
theorem jH {S:Nat→Prop} {w:World} {l:List Co} {v:Value} (h:bP 4 iE S w l v) (hne:l≠[]):∃(b off c:Nat),v = .slice (some ⟨b,off,none⟩) l.length c∧l.length≤c∧c≤maxLen∧S b∧b<w.heap.size ∧
  ∀Z,Below w.heap.size w Z→∀(j:Nat) (x:Co),l[j]?=some x→∀(i:Nat) (u:Value),(lH x)[i]?=some u→Z.cell? ⟨b,off+j*4+i,none⟩=some u:=by
 obtain⟨a,c,css,h1,h2,h3,h4,h5⟩:=h
 obtain⟨b,off,rfl,hS,hc⟩:=h5 hne
 have hel : ∀(j:Nat) (x:Co),l[j]?=some x→css[j]?=some (lH x):=fun j x hx=>by
  have hj:j<css.length:=by rw[h4.1];exact (List.getElem?_eq_some_iff.1 hx).1
  rw[List.getElem?_eq_getElem hj,(h4.2 j x _ hx (List.getElem?_eq_getElem hj)).2]
  rfl
 have hlt:b<w.heap.size:=by
  cases l with
  | nil=>exact absurd rfl hne
  | cons x l=>exact World.block_lt_of_cell? w _ (hc 0 (lH x) (hel 0 x rfl) 0 _ rfl)
 exact⟨b,off,c,h1,h2,h3,hS,hlt,fun Z hZ j x hx i u hu=>(hZ.cell (p:=⟨b,_,none⟩) hlt).trans (hc j (lH x) (hel j x hx) i u hu)⟩
theorem Al (d:Nat) (s s':ByteArray) (k k':Int) (x y x' y':Bool) (w:World):(Op.equalIn (d+1+1) 37 (.agg #[.string s,.int .i64 k,.bool x,.bool y]) (.agg #[.string s',.int .i64 k',.bool x',.bool y'])).run Tryz.prog w = .ok (s.toList==s'.toList&&(k==k'&&(x==x'&&y==y'))) w:=by
 rw[run_equalIn_struct (P:=Tryz.prog) w (d+1) 37 _ _ Tryz.Eo Tryz.EL]
 exact Ia _ _ _ (.string s) (.int .i64 k) (.bool x) (.bool y) (.string s') (.int .i64 k') (.bool x') (.bool y') _ _ _ _ w (by simp[Go.part,go_sem]) (by simp[Go.part,go_sem]) (by simp[Go.part,go_sem]) (by simp[Go.part,go_sem]) (by simp[Go.part,go_sem]) (by simp[Go.part,go_sem]) (by simp[Go.part,go_sem]) (by simp[Go.part,go_sem])
  (run_equalIn_string (P:=Tryz.prog) w d 9 s s' Tryz.underlying9) (run_equalIn_int (P:=Tryz.prog) w d 3 .i64 .i64 k k' Tryz.underlying3) (run_equalIn_bool (P:=Tryz.prog) w d 4 x x' Tryz.underlying4) (run_equalIn_bool (P:=Tryz.prog) w d 4 y y' Tryz.underlying4)
theorem Em (a b:Co):((ah a.nm).toList==(ah b.nm).toList&&(a.k==b.k&&(a.nn==b.nn&&a.uq==b.uq)))=qP a b:=by
 obtain⟨a1,a2,a3,a4⟩:=a
 obtain⟨b1,b2,b3,b4⟩:=b
 simp only[dx,qP]
 by_cases h1:a1=b1<;>by_cases h2:a2=b2<;>by_cases h3:a3=b3<;>by_cases h4:a4=b4<;>simp[h1,h2,h3,h4]
theorem Cn (a b:Co) (w:World):(binOp .neq 37 (.agg #[.string (ah a.nm),.int .i64 a.k,.bool a.nn,.bool a.uq]) (.agg #[.string (ah b.nm),.int .i64 b.k,.bool b.nn,.bool b.uq])).run Tryz.prog w = .ok (.bool (!qP a b)) w:=by
 rw[run_neq_struct,show (10000:Nat)=9998+1+1 from rfl,Al,Em]
 rfl
theorem I5:NeqAt Tryz.prog 37 (fun x=>.agg (lH x).toArray) qP:=⟨fun x y w=>Cn x y w,GuardAt.agg _ Tryz.tY⟩
def lI (l:List Co) (nm:List UInt8):Int:=if dQ l nm<l.length then (dQ l nm:Nat) else -1
theorem zF (l:List Co) (nm:List UInt8):Lib.idxBy (fun _ y=>decide (y.nm=nm)) (l.take l.length) default=lI l nm:=by
 unfold lI
 by_cases h:dQ l nm<l.length
 ·rw[if_pos h]
  exact Lib.idxBy_hit _ l l.length (dQ l nm) default h (Nat.le_refl _) (by
   rw[getElem!_pos l _ h]
   exact decide_eq_true (qw h)) (fun j hj=>by
   rw[getElem!_pos l j (by omega)]
   exact decide_eq_false (pz hj (by omega)))
 ·rw[if_neg h]
  exact Lib.idxBy_miss _ l l.length default (fun j hj=>by
   rw[getElem!_pos l j hj]
   exact decide_eq_false (pz (by omega) hj))
theorem Ei (nm:List UInt8) (B:Nat) (w:World) (hB:B<w.heap.size) (hcell:w.cell? ⟨B,0,none⟩=some (.string (ah nm))) :
  PredBelow Tryz.prog 47 #[.pointer (some ⟨B,0,none⟩)] (fun x=>.agg (lH x).toArray) (fun x=>decide (x.nm=nm)) w:=fun W x hb=>by
 have hc:W.cell? ⟨B,0,none⟩=some (.string (ah nm)):=(hb.cell (p:=⟨B,0,none⟩) hB).trans hcell
 obtain⟨V,hV,hbV,hzV,hcV⟩:=bF W (.cells #[.string (ah x.nm),.int .i64 x.k,.bool x.nn,.bool x.uq] 37)
 have k0:=aW hcV
 have k1:V.cell? ⟨B,0,none⟩=some (.string (ah nm)):=(hbV.cell (p:=⟨B,0,none⟩) (Nat.lt_of_lt_of_le hB hb.size)).trans hc
 have HB:=hid (hb.trans (hbV.mono hb.size))
 have he:((ah x.nm).toList==(ah nm).toList)=decide (x.nm=nm):=by
  rw[dx,dx]
  by_cases h:x.nm=nm<;>simp[h]
 show Calls Tryz.prog 47 #[.agg #[.string (ah x.nm),.int .i64 x.k,.bool x.nn,.bool x.uq],.pointer (some ⟨B,0,none⟩)] W _
 dsimp only
 rw[← he]
 clear hb hbV hcV hc hcell he
 go_enter Tryz.func47,Tryz.ntmps47
 go_wp2_with fail
 try rw[hV]
 go_wp2
 go_ret
 exact⟨rfl,HB.out⟩
theorem vK (S:Nat→Prop) (l:List Co) (v:Value) (nm:List UInt8) (w:World) (h:bP 4 iE S w l v) (hne:l≠[]) :
  Calls Tryz.prog 30 #[v,.string (ah nm)] w fun e w'=>e = .returned (.int .i64 (lI l nm))∧Below w.heap.size w w':=by
 obtain⟨b,off,c,rfl,h1,h2,hS,hlt,hel⟩:=jH h hne
 unfold maxLen at h2
 obtain⟨W,hW,hbW,hzW,hcW⟩:=bF w (.cells #[.string (ah nm)] 9)
 have hcell:W.cell? ⟨w.heap.size,0,none⟩=some (.string (ah nm)):=by rw[aN _ _ _ _ _ _ hcW];rfl
 have HC:=hid (AnyQ.slices_IndexFunc JR 4 Tryz.isAgg37 Tryz.sizeOf37 lH (fun _=>rfl) (fun x=>decide (x.nm=nm)) 47 #[.pointer (some ⟨w.heap.size,0,none⟩)] (enters_of Tryz.func47 (by kernel_rfl) rfl) b off l.length c l W
  (Ei nm w.heap.size W hzW hcell) (Nat.le_refl _) (by omega) (by omega) (fun j hj i u hu=>hel W hbW j l[j]! (by rw[getElem!_pos l j hj];exact List.getElem?_eq_getElem hj) i u hu))
 rw[zF] at HC
 generalize lI l nm=r at HC ⊢
 have HB:=hid hbW
 clear hel hcell hcW hbW h
 go_enter Tryz.func30,Tryz.ntmps30
 go_wp2_with fail
 try rw[hW]
 refine HC.out.mono ?_
 rintro e w1 ⟨rfl,hb1⟩
 have HB1:=hid (HB.out.trans (hb1.mono HB.out.size))
 clear hb1
 go_wp2
 go_ret
 exact⟨rfl,HB1.out⟩
end Go.Proofs.YtaaggohjmhifbaaGreatDoor
