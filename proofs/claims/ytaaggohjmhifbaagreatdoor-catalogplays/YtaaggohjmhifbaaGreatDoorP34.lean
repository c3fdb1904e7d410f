/- Packed for the hand-in: WOne CLays CTab -/
import Derived.Test.YtaaggohjmhifbaaGreatDoorP24
import Derived.Shelf.SlicesE.Clone
import Derived.Shelf.SlicesQ.IndexFunc
import Derived.Shelf.SlicesQ.Equal
import Derived.Test.YtaaggohjmhifbaaGreatDoorChecked
import Derived.Test.YtaaggohjmhifbaaGreatDoorP33
namespace Go.Proofs.YtaaggohjmhifbaaGreatDoor
open Go.RowKit Go.Shelf
set_option linter.unusedSimpArgs false
set_option linter.unusedVariables false
set_option maxRecDepth 20000
set_option maxHeartbeats 8000000
theorem rightSt1_any (S:Nat→Prop) (s:St) (cs:List Value) (w:World) (hk1:s.k=1) (hR:RgS s) (hx:StE S w s cs) :
  Calls Tryz.prog 59 #[.agg cs.toArray] w fun e w'=>e = .returned (.bool (rightS s))∧Below w.heap.size w w':=by
 obtain⟨a1,a2,a3,a4,a5,a6,a7,a8,n1,n2,n3,n4,n5,n6,n7,n8,c1,c2,c3,c4,c5,c6,c7,c8,rfl,x1,x2,x3,x4,x5,x6,x7,x8⟩:=hx
 have e1:n1=s.cols.length:=by obtain⟨_,_,hf⟩:=x1.form;simp only[Value.slice.injEq] at hf;exact hf.2.1
 have e2:n2=s.rows.length:=by obtain⟨_,_,hf⟩:=x2.form;simp only[Value.slice.injEq] at hf;exact hf.2.1
 have e3:n3=s.sets.length:=by obtain⟨_,_,hf⟩:=x3.form;simp only[Value.slice.injEq] at hf;exact hf.2.1
 have e4:n4=s.items.length:=by obtain⟨_,_,hf⟩:=x4.form;simp only[Value.slice.injEq] at hf;exact hf.2.1
 have e5:n5=s.on.length:=by obtain⟨_,_,hf,_⟩:=x5.form;simp only[Value.slice.injEq] at hf;exact hf.2.1
 have e6:n6=s.wh.length:=by obtain⟨_,_,hf,_⟩:=x6.form;simp only[Value.slice.injEq] at hf;exact hf.2.1
 have e7:n7=s.gr.length:=by obtain⟨_,_,hf,_⟩:=x7.form;simp only[Value.slice.injEq] at hf;exact hf.2.1
 have e8:n8=s.od.length:=by obtain⟨_,_,hf,_⟩:=x8.form;simp only[Value.slice.injEq] at hf;exact hf.2.1
 obtain⟨k,tn,cols,prim,rows,sets,items,jn,on,wh,gr,od,desc,lim⟩:=s
 obtain⟨rt,rp,rj,rl,rc,rr,rs,ri,ro,rw',rg,rd⟩:=hR
 dsimp only at *
 subst e1 e2 e3 e4 e5 e6 e7 e8
 have HNT:=hid (fun V=>lname_any tn V rt)
 have HNP:=hid (fun V=>lname_any prim V rp)
 have HCO:Hid (∀V,Below w.heap.size w V→Calls Tryz.prog 86 #[.slice a1 cols.length c1,.int .i64 1,.int .i64 8,.func (.func 87) #[] #[]] V fun e w'=>e = .returned (.bool (areB cols 1 8 colB))∧Below V.heap.size V w'):=hid (fun V hV=>areCo_any S 87 (enters_of Tryz.func87 (by kernel_rfl) rfl) colB cols _ 1 8 V (by omega) (by omega) (x1.to (by decide) (R:=fun _=>False) (T:=S) (Spares.of_new hV) (fun b hb _=>⟨id,hb⟩) (fun _ _ e=>e)) (hid (fun y hy U hU cs hcs=>by obtain rfl:=hcs;exact rightColumn_any y U (rc y hy))))
 subst hk1
 have hrs:rightS ⟨1,tn,cols,prim,rows,sets,items,jn,on,wh,gr,od,desc,lim⟩=((areB cols 1 8 colB&&nameOk prim)&&(nameOk tn&&empC 0 [] rows.length sets.length items.length jn on.length wh.length gr.length od.length desc lim)):=by
  unfold rightS kindB restS
  dsimp only
  simp only[if_true]
  rw[empS_eq _ rfl rfl]
  rfl
 rw[hrs]
 clear hrs x1 x2 x3 x4 x5 x6 x7 x8 rt rp rj rl rc rr rs ri ro rw' rg rd
 generalize areB cols 1 8 colB=BC at HCO ⊢
 generalize nameOk prim=BP at HNP ⊢
 generalize nameOk tn=BT at HNT ⊢
 generalize cols.length=n1 at *
 generalize rows.length=n2 at *
 generalize sets.length=n3 at *
 generalize items.length=n4 at *
 generalize on.length=n5 at *
 generalize wh.length=n6 at *
 generalize gr.length=n7 at *
 generalize od.length=n8 at *
 exact rightSt_1 w tn prim jn desc lim a1 a2 a3 a4 a5 a6 a7 a8 n1 n2 n3 n4 n5 n6 n7 n8 c1 c2 c3 c4 c5 c6 c7 c8 BC BP BT HCO HNP HNT
theorem statement1_w (x:St) (hk1:x.k=1) (hr:rightS x=true) (cs:List Value) (g:Nat) (tb:Option Nat) (L:List Tk) (d m:Int) (w:World) (h:WrAt w g tb L d m) (hx:StE (fun b=>b<g) w x cs) (hL:L.length+(tkS x).length≤1000000000) (h0:0≤d) (hdm:d≤m) (hm:m≤1000000000) (hd:d+(dpS x:Nat)≤1000000000) :
  Calls Tryz.prog 61 #[.pointer (some ⟨g,0,none⟩),.agg cs.toArray] w fun e w'=>e = .returned (.tuple #[])∧Wrote g tb w w' (L++tkS x) d (max m (d+(dpS x:Nat))):=by
 obtain⟨a1,a2,a3,a4,a5,a6,a7,a8,n1,n2,n3,n4,n5,n6,n7,n8,c1,c2,c3,c4,c5,c6,c7,c8,rfl,x1,x2,x3,x4,x5,x6,x7,x8⟩:=hx
 have hkB:kindB x=true:=by unfold rightS at hr;simp only[Bool.and_eq_true] at hr;exact hr.1
 unfold kindB at hkB
 unfold tkS at hL ⊢
 unfold dpS at hd ⊢
 obtain⟨k,tn,cols,prim,rows,sets,items,jn,on,wh,gr,od,desc,lim⟩:=x
 dsimp only at *
 clear hr
 subst hk1
 simp only[if_true] at hkB hL
 simp only[Bool.and_eq_true] at hkB
 have e0:max m (d+((dpS ⟨1,tn,cols,prim,rows,sets,items,jn,on,wh,gr,od,desc,lim⟩:Nat):Int))=m:=by show max m (d+((0:Nat):Int))=m;omega
 unfold dpS at e0
 dsimp only at e0
 rw[e0]
 clear e0 hd
 simp only[if_true]
 have hL11:L.length+(sepK (fxT [44]) (cols.map colK)).length+11≤1000000000:=by simp[crK,wordsK] at hL;omega
 obtain⟨W,hW,hbW,hzW,hcW⟩:=box8 w (.cells #[.int .i64 1,.string (str8 tn),.slice a1 n1 c1,.string (str8 prim),.slice a2 n2 c2,.slice a3 n3 c3,.slice a4 n4 c4,.string (str8 jn),.slice a5 n5 c5,.slice a6 n6 c6,.slice a7 n7 c7,.slice a8 n8 c8,.bool desc,.int .i64 lim] 28)
 have kk0:=cells14 hcW
 have HB:=hid hbW
 have HW0:=hid (h.below hbW)
 have HBX0:=hid (BoxW.mk' h hcW (Nat.le_refl _))
 have HT0:Hid (∀k,tb=some k→tb=some k∨W.heap.size≤k):=hid (fun k hk=>.inl hk)
 have HF0:Hid (FrW g tb W W):=hid (Spares.refl _ _)
 have HX0:=hid (create_w cols hkB.1 tn prim jn desc lim a1 a2 a3 a4 a5 a6 a7 a8 n1 n2 n3 n4 n5 n6 n7 n8 c1 c2 c3 c4 c5 c6 c7 c8 g tb L d m W HW0.out (x1.to (by decide) (R:=fun _=>False) (T:=fun b=>b<g) (Spares.of_new hbW) (fun b hb _=>⟨id,hb⟩) (fun _ _ e=>e)) hL11 h0 hdm hm)
 show Calls Tryz.prog 61 _ w fun e w'=>_∧Wrote g tb w w' (L++(wordsK [[67,82,69,65,84,69],[84,65,66,76,69]]++nmT tn::fxT [40]::(sepK (fxT [44]) (cols.map colK)++(wordsK [[44],[80,82,73,77,65,82,89],[75,69,89],[40]]++nmT prim::wordsK [[41],[41]])))) d m
 generalize (wordsK [[67,82,69,65,84,69],[84,65,66,76,69]]++nmT tn::fxT [40]::(sepK (fxT [44]) (cols.map colK)++(wordsK [[44],[80,82,73,77,65,82,89],[75,69,89],[40]]++nmT prim::wordsK [[41],[41]])))=T at HX0 ⊢
 clear x1 x2 x3 x4 x5 x6 x7 x8 hbW hcW h hkB hL hL11
 go_enter Tryz.func61,Tryz.ntmps61
 go_wp2_with fail
 refine HX0.out.mono ?_
 rintro e w1 ⟨rfl,h1⟩
 have HQ:=hid (Wrote.new HB.out h1)
 clear h1 HX0
 go_wp2
 exact bodyPost_end (v:=.tuple #[]) (by simp[results,Tryz.results61,go_sem]) rfl ⟨rfl,HQ.out⟩
theorem printScript1_any (S:Nat→Prop) (l:List St) (v:Value) (w:World) (hT:TabW w) (hk1 : ∀s∈l,s.k=1) (hR : ∀s∈l,RgS s) (hv:SlAt 14 StE S w l v) (hz:l.length≤8→∀s∈l,rightS s=true→∀e∈exsS s,exZ e≤5000) :
  Calls Tryz.prog 34 #[v] w fun e w'=>e = .returned (.tuple #[.string (str8 (scrA l).1),.int .i64 (scrA l).2])∧Below w.heap.size w w':=by
 have HV:=hid hv
 obtain⟨aa,cc,css,rfl,h1,h2,_⟩:=hv
 unfold maxLen at h2
 unfold scrA
 by_cases h8:8<l.length
 ·rw[if_pos h8]
  have h8':(8:Int)<(l.length:Int):=by omega
  clear hz hR HV hT
  go_enter Tryz.func34,Tryz.ntmps34
  go_wp2
  exact bodyPost_ret (v:=.tuple #[.string ⟨#[]⟩,.int .i64 2]) (by simp[results,Tryz.results34,go_sem]) rfl ⟨rfl,Below.refl _ _⟩
 ·rw[if_neg h8]
  have h8' : ¬(8:Int)<(l.length:Int):=by omega
  have HA:=hid (areSt_any S 59 (enters_of Tryz.func59 (by kernel_rfl) rfl) rightS l _ 1 8 w (by decide) (by decide) HV.out (hid (fun x hx V hb cs hcs=>rightSt1_any S x cs V (hk1 x hx) (hR x hx) hcs)))
  have HTW:=hid hT
  clear hR hT
  cases ha:areB l 1 8 rightS with
  |
   false =>
   rw[ha] at HA
   rw[if_neg Bool.false_ne_true]
   clear ha hz HV HTW
   go_enter Tryz.func34,Tryz.ntmps34
   go_wp2_with fail
   refine HA.out.mono ?_
   rintro e w1 ⟨rfl,hb1⟩
   have HB1:=hid hb1
   clear hb1 HA
   go_wp2
   exact bodyPost_ret (v:=.tuple #[.string ⟨#[]⟩,.int .i64 4]) (by simp[results,Tryz.results34,go_sem]) rfl ⟨rfl,HB1.out⟩
  |
   true =>
   rw[ha] at HA
   rw[if_pos rfl]
   have hall:=areB_mem ha
   have hln:=(areB_len ha).2
   have hz2 : ∀s∈l,∀e∈exsS s,exZ e≤5000:=fun s hs=>hz hln s hs (hall s hs)
   have htl:=sepK_le (fxT [59]) tkS 501000 l (fun s hs=>tkS_le (hall s hs) (hz2 s hs))
   have hdl:maxL (l.map dpS)≤10000:=maxL_up (fun n hn=>by
    obtain⟨s,hs,rfl⟩:=List.mem_map.1 hn
    exact dpS_le (hz2 s hs))
   have htl2:(sepK (fxT [59]) (l.map tkS)).length≤4008008:=Nat.le_trans htl (Nat.mul_le_mul_right _ hln)
   have HDP:Hid (∀s∈l,dpS s≤10000):=hid (fun s hs=>dpS_le (hz2 s hs))
   have HOK:Hid (∀t∈sepK (fxT [59]) (l.map tkS),OkT t):=hid (fun t ht=>(AllG.sep (good_fx (by decide)) (fun x hx=>by
    obtain⟨s,hs,rfl⟩:=List.mem_map.1 hx
    exact state_good (hall s hs)) t ht).ok)
   have HAL:=hid hall
   have HSW:Hid (∀(V:World) (g:Nat),WrAt V g none [] 0 0→SlAt 14 StE (fun b=>b<g) V l (.slice aa l.length cc)→Calls Tryz.prog 60 #[.pointer (some ⟨g,0,none⟩),.string ⟨#[59]⟩,.slice aa l.length cc,.func (.func 61) #[.pointer (some ⟨g,0,none⟩)] #[]] V fun e w'=>e = .returned (.tuple #[])∧Wrote g none V w' ([]++sepK (fxT [59]) (l.map tkS)) 0 (max 0 (0+((maxL (l.map dpS):Nat):Int)))):=hid (fun V g hV hS=>listSt_w 61 (enters_of Tryz.func61 (by kernel_rfl) rfl) tkS dpS [59] (by decide) l _ g none [] 0 0 V hV hS (by decide) (by decide) (fun x hx=>by have:=HDP.out x hx;omega) (by show 0+_≤_;omega) (hid (fun x hxm U tb2 L2 m2 hU cs hcs hl2 h3 h4=>statement1_w x (hk1 x hxm) (HAL.out x hxm) cs g tb2 L2 0 m2 U hU hcs hl2 (by decide) h3 h4 (by have:=HDP.out x hxm;omega))))
   obtain⟨R,hR⟩:∃R,srcA (sepK (fxT [59]) (l.map tkS)) ((maxL (l.map dpS):Nat):Int)=R:=⟨_,rfl⟩
   rw[hR]
   have HRR:=hid hR
   clear hR ha hall hz hz2 htl HAL HDP
   generalize sepK (fxT [59]) (l.map tkS)=T at HSW HOK HRR htl2
   generalize maxL (l.map dpS)=D at HSW HRR hdl
   go_enter Tryz.func34,Tryz.ntmps34
   go_wp2_with fail
   refine HA.out.mono ?_
   rintro e w1 ⟨rfl,hb1⟩
   obtain⟨V,hV,hbV,hzV,hwV⟩:=new_wr w1 (HTW.out.on hb1)
   have hB1:=hb1.trans (hbV.mono hb1.size)
   have hle1:w.heap.size≤w1.heap.size:=hb1.size
   have hsV:SlAt 14 StE (fun b=>b<w1.heap.size) V l (.slice aa l.length cc):=by
    have hk:=Spares.of_new (S:=fun _=>False) hb1
    have hk2:=Spares.of_new (S:=fun _=>False) hbV
    have a1:SlAt 14 StE (fun b=>b<w1.heap.size) w1 l (.slice aa l.length cc):=HV.out.to (by decide) hk (fun b _ hb=>⟨id,Nat.lt_of_lt_of_le hb hb1.size⟩) (fun _ _ e=>e.to hk (fun b _ hb=>⟨id,Nat.lt_of_lt_of_le hb hb1.size⟩))
    exact a1.to (by decide) hk2 (fun b hb _=>⟨id,hb⟩) (fun _ _ e=>e.to hk2 (fun b hb _=>⟨id,hb⟩))
   have HL:=hid (HSW.out V w1.heap.size hwV hsV)
   have HBV:=hid hB1
   clear hb1 hB1 HA hbV hwV hsV HSW
   go_wp2_with fail
   try rw[hV]
   refine HL.out.mono ?_
   rintro e w2 ⟨rfl,tb2,hw2,ht2,hf2⟩
   rw[List.nil_append] at hw2
   have e1:max (0:Int) (0+(D:Int))=(D:Int):=by omega
   rw[e1] at hw2
   have HS:=hid (source_w _ _ _ _ _ w2 hw2 HOK.out (by omega))
   have HB2:Hid (Below w.heap.size w w2):=hid (HBV.out.trans (hf2.below (fun i hi=>by
    rcases hi with rfl | e
    ·omega
    ·cases e) (by omega)))
   clear hw2 ht2 hf2 HL e1
   rw[HRR.out] at HS
   go_wp2_with fail
   refine HS.out.mono ?_
   rintro e w3 ⟨rfl,hb3⟩
   have HB3:=hid (HB2.out.trans (hb3.mono HB2.out.size))
   clear hb3 HS
   go_wp2
   exact bodyPost_ret (v:=.tuple #[.string (str8 R.1),.int .i64 R.2]) (by simp[results,Tryz.results34,go_sem]) rfl ⟨rfl,HB3.out⟩
end Go.Proofs.YtaaggohjmhifbaaGreatDoor
namespace Go.Proofs.YtaaggohjmhifbaaGreatDoor
open Go.Shelf
set_option linter.unusedVariables false
set_option maxRecDepth 100000
set_option maxHeartbeats 8000000
def renCl:Ren:=⟨fun x=>if x=41 then 49 else x,fun x=>if x=4 then 4 else if x=22 then 22 else if x=23 then 37 else x,fun x=>x⟩
theorem laysCl:SlLaysE0.n41 Tryz.prog renCl where
 mixed:=by kernel_rfl
 f41:=⟨"slices.Clone[[]vestry/api.Column,vestry/api.Column]", by decide,by kernel_rfl⟩
 t4:=by kernel_rfl
 a4:=fun w=>by kernel_rfl
 z4:=fun w=>by kernel_rfl
 v4:=fun w=>by kernel_rfl
 t22:=by kernel_rfl
 a22:=fun w=>by kernel_rfl
 z22:=fun w=>by kernel_rfl
 v22:=fun w=>by kernel_rfl
def renIf:Ren:=⟨fun x=>if x=6 then 46 else x,fun x=>if x=0 then 0 else if x=3 then 3 else if x=4 then 4 else if x=22 then 22 else if x=23 then 37 else if x=25 then 84 else x,fun x=>x⟩
theorem laysIf:SlLaysH0.n6 Tryz.prog renIf where
 mixed:=by kernel_rfl
 f6:=⟨"slices.IndexFunc[[]vestry/api.Column,vestry/api.Column]", by decide,by kernel_rfl⟩
 t0:=by kernel_rfl
 a0:=fun w=>by kernel_rfl
 z0:=fun w=>by kernel_rfl
 v0:=fun w=>by kernel_rfl
 t3:=by kernel_rfl
 a3:=fun w=>by kernel_rfl
 z3:=fun w=>by kernel_rfl
 v3:=fun w=>by kernel_rfl
 t4:=by kernel_rfl
 a4:=fun w=>by kernel_rfl
 z4:=fun w=>by kernel_rfl
 v4:=fun w=>by kernel_rfl
 t22:=by kernel_rfl
 a22:=fun w=>by kernel_rfl
 z22:=fun w=>by kernel_rfl
 v22:=fun w=>by kernel_rfl
 t25:=by kernel_rfl
 a25:=fun w=>by kernel_rfl
 z25:=fun w=>by kernel_rfl
 v25:=fun w=>by kernel_rfl
def renEq:Ren:=⟨fun x=>if x=8 then 57 else x,fun x=>if x=0 then 0 else if x=3 then 3 else if x=4 then 4 else if x=22 then 22 else if x=24 then 37 else x,fun x=>x⟩
theorem laysEq:SlLaysQ.n8 Tryz.prog renEq where
 mixed:=by kernel_rfl
 f8:=⟨"slices.Equal[[]vestry/api.Column,vestry/api.Column]", by decide,by kernel_rfl⟩
 t0:=by kernel_rfl
 a0:=fun w=>by kernel_rfl
 z0:=fun w=>by kernel_rfl
 v0:=fun w=>by kernel_rfl
 t3:=by kernel_rfl
 a3:=fun w=>by kernel_rfl
 z3:=fun w=>by kernel_rfl
 v3:=fun w=>by kernel_rfl
 t4:=by kernel_rfl
 a4:=fun w=>by kernel_rfl
 z4:=fun w=>by kernel_rfl
 v4:=fun w=>by kernel_rfl
 t22:=by kernel_rfl
 a22:=fun w=>by kernel_rfl
 z22:=fun w=>by kernel_rfl
 v22:=fun w=>by kernel_rfl
end Go.Proofs.YtaaggohjmhifbaaGreatDoor
namespace Go.Proofs.YtaaggohjmhifbaaGreatDoor
open Go.RowKit Go.Shelf Go.Lib
set_option linter.unusedSimpArgs false
set_option linter.unusedVariables false
set_option maxRecDepth 20000
set_option maxHeartbeats 8000000
instance inhCoC:Inhabited Co:=⟨⟨[],0,false,false⟩⟩
def colC (c:Co):List Value:=[.string (str8 c.nm),.int .i64 c.k,.bool c.nn,.bool c.uq]
def colsC (l:List Co):List Value:=(l.map colC).flatten
theorem colsC_len (l:List Co):(colsC l).length=l.length*4:=by
 unfold colsC
 induction l with
 | nil=>rfl
 | cons c l ih=>rw[List.map_cons,List.flatten_cons,List.length_append,ih,List.length_cons,Nat.succ_mul,Nat.add_comm];rfl
theorem colC_one (c:Co):∀u∈colC c,u.oneCell'=true:=fun u hu=>by
 simp only[colC,List.mem_cons,List.not_mem_nil,or_false] at hu
 rcases hu with rfl | rfl | rfl | rfl<;>rfl
theorem colsC_one (l:List Co):∀u∈colsC l,u.oneCell'=true:=fun u hu=>by
 obtain⟨cs,hcs,hu⟩:=List.mem_flatten.1 hu
 obtain⟨c,_,rfl⟩:=List.mem_map.1 hcs
 exact colC_one c u hu
theorem els_col (S:Nat→Prop) (w:World) (l:List Co):Els 4 ColE S w l (l.map colC):=⟨by simp,fun j x cs hx hc=>by
 rw[List.getElem?_map,hx,Option.map_some,Option.some.injEq] at hc
 subst hc
 exact⟨rfl,rfl⟩⟩
def TbE (S:Nat→Prop) (w:World) (t:Tb) (cs:List Value):Prop:=∃(aa:Option Addr) (nn cc:Nat),cs=[.string (str8 t.nm),.slice aa nn cc,.int .i64 t.pr]∧SlAt 4 ColE S w t.cols (.slice aa nn cc)
def TbO (base:Nat) (w:World) (t:Tb) (cs:List Value):Prop:=∃(aa:Option Addr) (nn cc:Nat),cs=[.string (str8 t.nm),.slice aa nn cc,.int .i64 t.pr]∧w.ownsRow base 37 4 (.slice aa nn cc) t.cols.length (colsC t.cols)
theorem owns_cols {base:Nat} {w:World} {l:List Co} {v:Value} (h:w.ownsRow base 37 4 v l.length (colsC l)):SlAt 4 ColE (fun b=>base≤b) w l v :=
 SlAt.of_owns (by decide) h (els_col _ w l) (fun b hb=>(h.lt b hb).1)
theorem TbO.e {base:Nat} {w:World} {t:Tb} {cs:List Value} (h:TbO base w t cs):TbE (fun b=>base≤b) w t cs:=by
 obtain⟨aa,nn,cc,h1,h2⟩:=h
 exact⟨aa,nn,cc,h1,owns_cols h2⟩
theorem TbE.to {S R T:Nat→Prop} {w w':World} {t:Tb} {cs:List Value} (h:TbE S w t cs) (hk:Spares R w w') (hS : ∀b,S b→b<w.heap.size→¬R b∧T b):TbE T w' t cs:=by
 obtain⟨aa,nn,cc,h1,h2⟩:=h
 exact⟨aa,nn,cc,h1,h2.to (by decide) hk hS (fun _ _ e=>e)⟩
theorem TbE.on {S:Nat→Prop} {w w':World} {t:Tb} {cs:List Value} (h:TbE S w t cs) (hb:Below w.heap.size w w'):TbE S w' t cs:=h.to (R:=fun _=>False) (Spares.of_new hb) (fun b hS _=>⟨id,hS⟩)
theorem TbO.on {base:Nat} {w w':World} {t:Tb} {cs:List Value} (h:TbO base w t cs) (hb:Below w.heap.size w w'):TbO base w' t cs:=by
 obtain⟨aa,nn,cc,h1,h2⟩:=h
 exact⟨aa,nn,cc,h1,Spares.row (Spares.of_new (S:=fun _=>False) hb) h2 (fun _ _=>id)⟩
theorem zTb_own (base:Nat) (w:World) (hb:base≤w.heap.size):TbO base w zTb [.string ⟨#[]⟩,.slice none 0 0,.int .i64 0]:=⟨none,0,0,rfl,World.ownsRow_nil _ _ _ _⟩
theorem cols_at {S:Nat→Prop} {w:World} {l:List Co} {v:Value} (h:SlAt 4 ColE S w l v) (hne:l≠[]):∃(b off c:Nat),v = .slice (some ⟨b,off,none⟩) l.length c∧l.length≤c∧c≤maxLen∧S b∧b<w.heap.size ∧
  ∀Z,Below w.heap.size w Z→∀(j:Nat) (x:Co),l[j]?=some x→∀(i:Nat) (u:Value),(colC x)[i]?=some u→Z.cell? ⟨b,off+j*4+i,none⟩=some u:=by
 obtain⟨a,c,css,h1,h2,h3,h4,h5⟩:=h
 obtain⟨b,off,rfl,hS,hc⟩:=h5 hne
 have hel : ∀(j:Nat) (x:Co),l[j]?=some x→css[j]?=some (colC x):=fun j x hx=>by
  have hj:j<css.length:=by rw[h4.1];exact (List.getElem?_eq_some_iff.1 hx).1
  rw[List.getElem?_eq_getElem hj,(h4.2 j x _ hx (List.getElem?_eq_getElem hj)).2]
  rfl
 have hlt:b<w.heap.size:=by
  cases l with
  | nil=>exact absurd rfl hne
  | cons x l=>exact World.block_lt_of_cell? w _ (hc 0 (colC x) (hel 0 x rfl) 0 _ rfl)
 exact⟨b,off,c,h1,h2,h3,hS,hlt,fun Z hZ j x hx i u hu=>(hZ.cell (p:=⟨b,_,none⟩) hlt).trans (hc j (colC x) (hel j x hx) i u hu)⟩
theorem eq_col_two (d:Nat) (s s':ByteArray) (k k':Int) (x y x' y':Bool) (w:World):(Op.equalIn (d+1+1) 37 (.agg #[.string s,.int .i64 k,.bool x,.bool y]) (.agg #[.string s',.int .i64 k',.bool x',.bool y'])).run Tryz.prog w = .ok (s.toList==s'.toList&&(k==k'&&(x==x'&&y==y'))) w:=by
 rw[run_equalIn_struct (P:=Tryz.prog) w (d+1) 37 _ _ Tryz.fieldsCol Tryz.stoodCol]
 exact eqf_col _ _ _ (.string s) (.int .i64 k) (.bool x) (.bool y) (.string s') (.int .i64 k') (.bool x') (.bool y') _ _ _ _ w (by simp[Go.part,go_sem]) (by simp[Go.part,go_sem]) (by simp[Go.part,go_sem]) (by simp[Go.part,go_sem]) (by simp[Go.part,go_sem]) (by simp[Go.part,go_sem]) (by simp[Go.part,go_sem]) (by simp[Go.part,go_sem])
  (run_equalIn_string (P:=Tryz.prog) w d 9 s s' Tryz.underlying9) (run_equalIn_int (P:=Tryz.prog) w d 3 .i64 .i64 k k' Tryz.underlying3) (run_equalIn_bool (P:=Tryz.prog) w d 4 x x' Tryz.underlying4) (run_equalIn_bool (P:=Tryz.prog) w d 4 y y' Tryz.underlying4)
theorem eqC_parts (a b:Co):((str8 a.nm).toList==(str8 b.nm).toList&&(a.k==b.k&&(a.nn==b.nn&&a.uq==b.uq)))=eqC a b:=by
 obtain⟨a1,a2,a3,a4⟩:=a
 obtain⟨b1,b2,b3,b4⟩:=b
 simp only[str8_toList,eqC]
 by_cases h1:a1=b1<;>by_cases h2:a2=b2<;>by_cases h3:a3=b3<;>by_cases h4:a4=b4<;>simp[h1,h2,h3,h4]
theorem run_neC (a b:Co) (w:World):(binOp .neq 37 (.agg #[.string (str8 a.nm),.int .i64 a.k,.bool a.nn,.bool a.uq]) (.agg #[.string (str8 b.nm),.int .i64 b.k,.bool b.nn,.bool b.uq])).run Tryz.prog w = .ok (.bool (!eqC a b)) w:=by
 rw[run_neq_struct,show (10000:Nat)=9998+1+1 from rfl,eq_col_two,eqC_parts]
 rfl
theorem neq_col:NeqAt Tryz.prog 37 (fun x=>.agg (colC x).toArray) eqC:=⟨fun x y w=>run_neC x y w,GuardAt.agg _ Tryz.eqGuardCol⟩
def placeC (l:List Co) (nm:List UInt8):Int:=if idxN l nm<l.length then (idxN l nm:Nat) else -1
theorem idxBy_place (l:List Co) (nm:List UInt8):Lib.idxBy (fun _ y=>decide (y.nm=nm)) (l.take l.length) default=placeC l nm:=by
 unfold placeC
 by_cases h:idxN l nm<l.length
 ·rw[if_pos h]
  exact Lib.idxBy_hit _ l l.length (idxN l nm) default h (Nat.le_refl _) (by
   rw[getElem!_pos l _ h]
   exact decide_eq_true (idxN_at h)) (fun j hj=>by
   rw[getElem!_pos l j (by omega)]
   exact decide_eq_false (idxN_first hj (by omega)))
 ·rw[if_neg h]
  exact Lib.idxBy_miss _ l l.length default (fun j hj=>by
   rw[getElem!_pos l j hj]
   exact decide_eq_false (idxN_first (by omega) hj))
theorem placePred (nm:List UInt8) (B:Nat) (w:World) (hB:B<w.heap.size) (hcell:w.cell? ⟨B,0,none⟩=some (.string (str8 nm))) :
  PredBelow Tryz.prog 47 #[.pointer (some ⟨B,0,none⟩)] (fun x=>.agg (colC x).toArray) (fun x=>decide (x.nm=nm)) w:=fun W x hb=>by
 have hc:W.cell? ⟨B,0,none⟩=some (.string (str8 nm)):=(hb.cell (p:=⟨B,0,none⟩) hB).trans hcell
 obtain⟨V,hV,hbV,hzV,hcV⟩:=box8 W (.cells #[.string (str8 x.nm),.int .i64 x.k,.bool x.nn,.bool x.uq] 37)
 have k0:=cells4 hcV
 have k1:V.cell? ⟨B,0,none⟩=some (.string (str8 nm)):=(hbV.cell (p:=⟨B,0,none⟩) (Nat.lt_of_lt_of_le hB hb.size)).trans hc
 have HB:=hid (hb.trans (hbV.mono hb.size))
 have he:((str8 x.nm).toList==(str8 nm).toList)=decide (x.nm=nm):=by
  rw[str8_toList,str8_toList]
  by_cases h:x.nm=nm<;>simp[h]
 show Calls Tryz.prog 47 #[.agg #[.string (str8 x.nm),.int .i64 x.k,.bool x.nn,.bool x.uq],.pointer (some ⟨B,0,none⟩)] W _
 dsimp only
 rw[← he]
 clear hb hbV hcV hc hcell he
 go_enter Tryz.func47,Tryz.ntmps47
 go_wp2_with fail
 try rw[hV]
 go_wp2
 go_ret
 exact⟨rfl,HB.out⟩
theorem place_any (S:Nat→Prop) (l:List Co) (v:Value) (nm:List UInt8) (w:World) (h:SlAt 4 ColE S w l v) (hne:l≠[]) :
  Calls Tryz.prog 30 #[v,.string (str8 nm)] w fun e w'=>e = .returned (.int .i64 (placeC l nm))∧Below w.heap.size w w':=by
 obtain⟨b,off,c,rfl,h1,h2,hS,hlt,hel⟩:=cols_at h hne
 unfold maxLen at h2
 obtain⟨W,hW,hbW,hzW,hcW⟩:=box8 w (.cells #[.string (str8 nm)] 9)
 have hcell:W.cell? ⟨w.heap.size,0,none⟩=some (.string (str8 nm)):=by rw[cell_row _ _ _ _ _ _ hcW];rfl
 have HC:=hid (AnyQ.slices_IndexFunc laysIf 4 Tryz.isAgg37 Tryz.sizeOf37 colC (fun _=>rfl) (fun x=>decide (x.nm=nm)) 47 #[.pointer (some ⟨w.heap.size,0,none⟩)] (enters_of Tryz.func47 (by kernel_rfl) rfl) b off l.length c l W
  (placePred nm w.heap.size W hzW hcell) (Nat.le_refl _) (by omega) (by omega) (fun j hj i u hu=>hel W hbW j l[j]! (by rw[getElem!_pos l j hj];exact List.getElem?_eq_getElem hj) i u hu))
 rw[idxBy_place] at HC
 generalize placeC l nm=r at HC ⊢
 have HB:=hid hbW
 clear hel hcell hcW hbW h
 go_enter Tryz.func30,Tryz.ntmps30
 go_wp2_with fail
 try rw[hW]
 refine HC.out.mono ?_
 rintro e w1 ⟨rfl,hb1⟩
 have HB1:=hid (HB.out.trans (hb1.mono HB.out.size))
 clear hb1
 go_wp2
 go_ret
 exact⟨rfl,HB1.out⟩
end Go.Proofs.YtaaggohjmhifbaaGreatDoor
