/- Packed for the hand-in: WWrite WExprB -/
import Derived.Test.YtfeglkleoijlaaaGreatDoorZ09
namespace Go.Proofs.YtfeglkleoijlaaaGreatDoor
open Go.RowKit Go.Shelf
set_option linter.unusedSimpArgs false
set_option linter.unusedVariables false
set_option maxRecDepth 20000
set_option maxHeartbeats 8000000
theorem Ak (B n:Nat) (v:Value) (ps:List (List UInt8)) (w:World) (hown:w.ownsRow B 9 1 v n (Gh ps)) (hl : ∀p∈ps,p.length≤100) (hn:ps.length≤10000000) :
  Calls Tryz.prog 152 #[v,.string ⟨#[32]⟩] w fun e w'=>e = .returned (.string (aj (Lib.join ps [32])))∧Below w.heap.size w w':=by
 have hlen:n=ps.length:=by have:=hown.1;simp[Gh] at this;omega
 subst hlen
 have hj:=join_le ps hl
 have hc:=hown
 rcases hown.2 with⟨rfl,hz⟩ | ⟨g,cap,cur,rfl,hb,hg,hnc,hcm,hcs,ht⟩
 ·obtain rfl:ps=[]:=List.eq_nil_of_length_eq_zero hz
  have:=Any.strings_Join_none Ew yF none 0 ⟨#[32]⟩ w
  rw[Gm.2.2.2.2.2.2.2.2.2] at this
  exact this.mono fun e w' ⟨he,hw⟩=>⟨he,hw ▸ Below.refl _ _⟩
 ·have k:=hc.cells (g:=g) rfl
  have hm:(ps.map aj).map (·.data.toList)=ps:=by
   rw[List.map_map]
   conv=>rhs;rw[← List.map_id ps]
   apply List.map_congr_left
   intro x _
   rfl
  have:=Any.strings_Join Ew yF g 0 cap (ps.map aj) ⟨#[32]⟩ w (fun j x hx=>by
   have:=k j (.string x) (by
    rw[List.getElem?_map] at hx
    simp only[Gh,List.getElem?_map]
    cases hp:ps[j]? with
    | none=>rw[hp] at hx;cases hx
    | some l=>rw[hp] at hx;simp at hx;simp[hx])
   rwa [Addr.add_lit] at this) (Array.getElem?_eq_some_iff.1 hg).1 (by rw[List.length_map];omega) (by rw[List.length_map];exact hnc) (by
    rw[hm]
    show (Lib.join ps [32]).length≤_
    omega)
  rw[Gm.2.2.2.2.2.2.2.2.2,hm,List.length_map] at this
  exact this
theorem uL (k n p:Int) (s:List UInt8) (w:World) (hT:eH w) (hs:s.length≤40) (hn0:0≤n) (hn1:n≤9223372036854775807) :
  Calls Tryz.prog 151 #[.agg #[.int .i64 k,.string (aj s),.int .i64 n,.int .i64 p]] w fun e w'=>e = .returned (.string (aj (wr ⟨k,s,n,p⟩)))∧Below w.heap.size w w':=by
 obtain⟨W,hW,hbW,hzW,hcW⟩:=Iw w (.int .i64 k) (.string (aj s)) (.int .i64 n) (.int .i64 p) 180
 have g0:=nG (hcW W (Below.refl _ _))
 have HI:=hid (wB n W (hT.on hbW).tv (by omega) hn1)
 have HL:=hid (vI 2 0 s W (hT.on hbW).tv (by decide) (by decide) (by omega))
 have HB:=hid hbW
 clear hcW hbW hT
 by_cases h3:k=3
 ·have hd:wr ⟨k,s,n,p⟩=Lib.itoa n:=by rw[wr,if_pos h3]
  rw[hd]
  clear hd
  subst h3
  go_enter Tryz.func151,Tryz.ntmps151
  go_wp2_with fail
  refine HI.out.mono ?_
  rintro e w1 ⟨rfl,hb1⟩
  go_wp2
  go_ret
  exact⟨rfl,HB.out.trans (hb1.mono HB.out.size)⟩
 ·have h3':(k==3)=false:=by simpa using h3
  by_cases h4:k=4
  ·have hd:wr ⟨k,s,n,p⟩=vP ⟨2,0,s⟩:=by rw[wr,if_neg h3,if_pos h4];rfl
   rw[hd]
   clear hd
   subst h4
   go_enter Tryz.func151,Tryz.ntmps151
   go_wp2_with fail
   refine HL.out.mono ?_
   rintro e w1 ⟨rfl,hb1⟩
   go_wp2
   go_ret
   exact⟨rfl,HB.out.trans (hb1.mono HB.out.size)⟩
  ·have h4':(k==4)=false:=by simpa using h4
   have hd:wr ⟨k,s,n,p⟩=s:=by rw[wr,if_neg h3,if_neg h4]
   rw[hd]
   clear hd
   go_enter Tryz.func151,Tryz.ntmps151
   go_wp2
   go_ret
   exact⟨rfl,HB.out⟩
theorem yc (B:Nat) (v:Value) (l:List Tk) (w:World) (hT:eH w) (hB:B≤w.heap.size) (hv:lX B w v l) (hok : ∀t∈l,GL t) (hn:l.length≤10000000) :
  Calls Tryz.prog 107 #[v] w fun e w'=>e = .returned (.string (aj (Lib.join (oI l) [32])))∧Below w.heap.size w w':=by
 obtain⟨i0,hi,hz0,hz1,hz2⟩:=info_parts Tryz.Fe
 obtain⟨a,c,rfl,h1,h2,h3⟩:=id hv
 unfold maxLen at h2
 have HV:=hid hv
 have HT:=hid hT
 have HOK:=hid hok
 have hwl : ∀k,∀p∈oI (l.take k),p.length≤100:=fun k p hp=>by
  unfold oI at hp
  obtain⟨t,ht,rfl⟩:=List.mem_map.1 hp
  exact Iy (hok t (List.mem_of_mem_take (List.mem_filter.1 ht).1))
 have HWL:=hid hwl
 clear hwl h3 hv hT hok
 obtain⟨S,hS⟩:∃S,aj (Lib.join (oI l) [32])=S:=⟨_,rfl⟩
 rw[hS]
 have HS:=hid hS
 clear hS
 go_enter Tryz.func107,Tryz.ntmps107
 go_wp2_with fail
 go_loopw [3,8] (fun u i wr=>∃k:Nat,k≤l.length∧i = .int .i64 k∧wr.ownsRow w.heap.size 9 1 u (oI (l.take k)).length (Gh (oI (l.take k)))∧Below w.heap.size w wr) (fun _ i _=>l.length-(intOf i).toNat)
 case atStart=>exact⟨0,Nat.zero_le _,rfl,World.ownsRow_nil _ _ _ _,Below.refl _ _⟩
 case round =>
  obtain⟨k,hk,rfl,hown,hbel⟩:=hrel
  have hszr:=hbel.size
  have hwl2:=Fq (l.take k)
  rw[List.length_take] at hwl2
  by_cases hlt:k<l.length
  ·obtain⟨x,hx⟩:∃x,l[k]?=some x:=⟨_,List.getElem?_eq_getElem hlt⟩
   obtain⟨a',c',hv',_,_,h3⟩:=HV.out.below (hbel.mono hB)
   simp only[Value.slice.injEq] at hv'
   obtain⟨rfl,_,rfl⟩:=hv'
   obtain⟨b,off,rfl,hbB,hcell⟩:=h3 (by intro e;rw[e] at hlt;simp at hlt)
   obtain⟨c0,c1,c2,c3⟩:=hcell k x hx
   have ht:=xZ l k x hx
   have hws:=CX (l.take k) x
   rw[← ht] at hws
   obtain⟨o1,o2,o3⟩:=HOK.out x (List.mem_of_getElem? hx)
   obtain⟨xk,xs,xn,xp⟩:=x
   dsimp only at c0 c1 c2 c3 hws o1 o2 o3
   clear h3 hcell ht hx
   by_cases h6:xk=6
   ·rw[if_pos h6] at hws
    have HW2:=hid hws
    subst h6
    have hown2:=hid (hown.alloc (.cells #[.int .i64 6,.string (aj xs),.int .i64 xn,.int .i64 xp] 180))
    have hbel2:=hid (hbel.alloc hszr (.cells #[.int .i64 6,.string (aj xs),.int .i64 xn,.int .i64 xp] 180))
    clear hws hown
    go_wp2
    go_roundw
    case rel=>exact⟨k+1,by omega,by go_num,by rw[HW2.out];exact hown2.out,hbel2.out⟩
    case measure=>simp[intOf];omega
   ·rw[if_neg h6] at hws
    have HW2:=hid hws
    have h6':(xk != 6)=true:=by rw[bne_iff_ne];exact h6
    obtain⟨W,hW,hbW,hzW,hcW⟩:=Iw wr (.int .i64 xk) (.string (aj xs)) (.int .i64 xn) (.int .i64 xp) 180
    have g0:=nG (hcW W (Below.refl _ _))
    have hownW:=hown.alloc (.cells #[.int .i64 xk,.string (aj xs),.int .i64 xn,.int .i64 xp] 180)
    rw[hW] at hownW
    have hbelW:=hbel.trans (hbW.mono hszr)
    have HWR:=hid (uL xk xn xp xs W (HT.out.on hbelW) o1 o2 o3)
    generalize Go.Proofs.YtfeglkleoijlaaaGreatDoor.wr ⟨xk,xs,xn,xp⟩=tx at HWR HW2
    generalize hPS:oI (l.take k)=PS at *
    clear hPS hws hown hcW h6
    go_wp2_with fail
    try rw[hW]
    clear hW
    refine HWR.out.mono ?_
    rintro e w2 ⟨rfl,hb2⟩
    have hown2:=vJ hownW hb2
    have hbel2:=hbelW.trans (hb2.mono hbelW.size)
    have hown22:=hown2.alloc (.cells #[.string (aj tx)] 9)
    have hbel22:=hbel2.alloc hbel2.size (.cells #[.string (aj tx)] 9)
    have HSA:=hid hbel22.size
    have HB22:=hid hbel22
    obtain⟨va,vcap,hvf⟩:∃va vcap,u3 = .slice va PS.length vcap:=by
     rcases hown2.2 with⟨rfl,hn⟩ | ⟨g,cap,cur,rfl,_⟩
     ·exact⟨_,_,by rw[hn]⟩
     ·exact⟨_,_,rfl⟩
    subst hvf
    have HL:=hid (fun q hq=>(hown22.lt q hq).1 : ∀q,(Value.slice va PS.length vcap).ownBlock=some q→w.heap.size≤q)
    have hnew : ∀(j:Nat) (u:Value),[Value.string (aj tx)][j]?=some u→(w2.alloc (.cells #[.string (aj tx)] 9)).cell? ((⟨w2.heap.size,0,none⟩:Addr).add j)=some u:=by
     intro j u hj
     match j,hj with
     | 0,hj=>simp at hj;subst hj;simp[Addr.add]
    have hone : ∀u∈[Value.string (aj tx)],u.oneCell'=true:=by intro u hu;simp at hu;rw[hu];rfl
    clear hb2 hownW hbelW HWR hown2 hbel2 hbel22
    go_wp2_with (first
     | (at_builtin;refine wpList_append_own _ rfl (.tmp 15) (.tmp 18) 177 rfl w.heap.size 9 i0 (.string ⟨#[]⟩) 1 16 Tryz.underlying177 hi hz0 hz1 hz2 rfl (by decide) _ _ _ rfl hown22 ⟨w2.heap.size,0,none⟩ 1 1 [.string (aj tx)] rfl rfl hnew hone (by unfold maxLen;omega) (by omega) HSA.out ?_;intro v3 w3 hown3 hg3 _)
     | fail)
    have HB3:Hid (Below w.heap.size w w3):=hid (HB22.out.grown hg3 HSA.out HL.out)
    go_roundw
    case rel =>
     refine ⟨k+1,by omega,by go_num,?_,HB3.out⟩
     rw[HW2.out,List.length_append,show Gh (PS++[tx])=Gh PS++[.string (aj tx)] from by simp[Gh]]
     exact hown3
    case measure=>simp[intOf];omega
  ·have hkl:k=l.length:=by omega
   have htk:l.take k=l:=List.take_of_length_le (by omega)
   have hwl3:=HWL.out k
   rw[htk] at hown hwl3 hwl2
   have HJ:=hid (Ak _ _ _ _ wr hown hwl3 (by omega))
   have hjl:=join_le (oI l) hwl3
   have HC:=hid (fun w=>fO (aj (Lib.join (oI l) [32])) w (by rw[dz];omega))
   rw[HS.out] at HJ HC
   clear hown hwl3 htk hjl
   go_wp2_with fail
   refine HJ.out.mono ?_
   rintro e w2 ⟨rfl,hb2⟩
   have hbel2:=hbel.trans (hb2.mono hszr)
   go_wp2_with fail
   refine (HC.out _).mono ?_
   rintro e w3 ⟨rfl,hb3⟩
   have HB3:=hid (hbel2.trans (hb3.mono hbel2.size))
   go_wp2
   go_ret
   exact⟨rfl,HB3.out⟩
theorem Fy (w:World) (A B C:Obj):∃W,((w.alloc A).alloc B).alloc C=W∧Below w.heap.size w W∧w.heap.size+1+1<W.heap.size∧W.heap[w.heap.size]?=some A∧W.heap[w.heap.size+1]?=some B∧W.heap[w.heap.size+1+1]?=some C:=by
 obtain⟨W,h1,h2,h3,h4⟩:=three w A B C
 refine ⟨W,h1,h2,World.lt_of_block h4,?_,h3,h4⟩
 rw[← h1,Below.heap_alloc _ _ _ (by simp;omega),Below.heap_alloc _ _ _ (by simp)]
 exact heap_alloc_new w A
theorem wT (o:Int) (h1:1≤o) (h2:o≤13) (a b:Tm) (hoka:a.ok) (hokb:b.ok) (hA:Ez a) (hB:Ez b) (va vb:Value)
  (g:Nat) (tb:Option Nat) (L:List Tk) (d m:Int) (w:World) (h:bJ w g tb L d m) (hxa:fB (fun b=>b<g) w a.ex va) (hxb:fB (fun b=>b<g) w b.ex vb) (hL:L.length+((jw (xE o) a.lv a.tk).length+((jw (cZ o+1) b.lv b.tk).length+1))≤1000000000) (h0:0≤d) (hdm:d≤m) (hda:d+(jI (xE o) a.lv a.dp:Nat)≤1000000000) (hdb:d+(jI (cZ o+1) b.lv b.dp:Nat)≤1000000000) (hm:m≤1000000000) :
  Calls Tryz.prog 133 #[.pointer (some ⟨g,0,none⟩),.agg #[.string (aj (oh o)),.int .i64 (cZ o)],va,vb] w fun e w'=>e = .returned (.tuple #[])∧Wrote g tb w w' (L++(Tm.op o a b).tk) d (max m (d+((Tm.op o a b).dp:Nat))):=by
 have hla:=fG (xE o) a.lv a.tk
 have hlb:=fG (cZ o+1) b.lv b.tk
 have hda2:=gY (xE o) a.lv a.dp
 have hdb2:=gY (cZ o+1) b.lv b.dp
 have HXA:=hid hxa
 have HXB:=hid hxb
 obtain⟨k,op,tn,nm,vk,vn,vs,ys,aa,nn,cc,he,rfl,ha⟩:=hxa
 obtain⟨k',op',tn',nm',vk',vn',vs',ys',aa',nn',cc',he',rfl,ha'⟩:=hxb
 obtain⟨W,hW,hbW,hzW,hc0,hc1,hc2⟩:=Fy w (.cells #[.string (aj (oh o)),.int .i64 (cZ o)] 168) (.cells #[.int .i64 k,.int .i64 op,.string (aj tn),.string (aj nm),.int .i64 vk,.int .i64 vn,.string (aj vs),.slice aa nn cc] 48) (.cells #[.int .i64 k',.int .i64 op',.string (aj tn'),.string (aj nm'),.int .i64 vk',.int .i64 vn',.string (aj vs'),.slice aa' nn' cc'] 48)
 have hsz0:w.heap.size<W.heap.size:=by omega
 have k0:=xX hc0
 have k1:=aN hc1
 have HB:=hid hbW
 have hw:=h.below hbW
 have HW:=hid hw
 have HBX0:=hid (dn.mk' h hc0 (Nat.le_refl _))
 have HBX2:=hid (dn.mk' h hc2 (by omega))
 have hne:oh o≠[]:=by rcases yL o h1 h2 with rfl | rfl | rfl | rfl | rfl | rfl | rfl | rfl | rfl | rfl | rfl | rfl | rfl<;>decide
 have hFA:=mJ (xE o) a hoka hA g tb L d m W _ hw (HXA.out.new hbW) (by omega) h0 hdm (by omega) hm
 have HFB:Hid (∀(tb':Option Nat) (L':List Tk) (m':Int) (V:World),bJ V g tb' L' d m'→fB (fun b=>b<g) V b.ex (.agg #[.int .i64 k',.int .i64 op',.string (aj tn'),.string (aj nm'),.int .i64 vk',.int .i64 vn',.string (aj vs'),.slice aa' nn' cc'])→L'.length+(jw (cZ o+1) b.lv b.tk).length≤1000000000→d≤m'→m'≤1000000000 →
   Calls Tryz.prog 161 #[.pointer (some ⟨g,0,none⟩),.int .i64 ((cZ o:Int)+1),.agg #[.int .i64 k',.int .i64 op',.string (aj tn'),.string (aj nm'),.int .i64 vk',.int .i64 vn',.string (aj vs'),.slice aa' nn' cc']] V fun e w'=>e = .returned (.tuple #[])∧Wrote g tb' V w' (L'++jw (cZ o+1) b.lv b.tk) d (max m' (d+(jI (cZ o+1) b.lv b.dp:Nat)))):=hid (fun tb' L' m' V hV hx hl hd hm'=>by
  have:=mJ (cZ o+1) b hokb hB g tb' L' d m' V _ hV hx (by omega) h0 hd (by omega) hm'
  rwa [show ((cZ o+1:Nat):Int)=(cZ o:Int)+1 by omega] at this)
 show Calls Tryz.prog 133 _ _ fun e w'=>_∧Wrote g tb w w' (L++(jw (xE o) a.lv a.tk++aK (oh o)::jw (cZ o+1) b.lv b.tk)) d (max m (d+(max (jI (xE o) a.lv a.dp) (jI (cZ o+1) b.lv b.dp):Nat)))
 have hlv5:cZ o≤5:=by have:=Iq o h1 h2;omega
 have hop:xE o=if cZ o=3 then 4 else cZ o:=rfl
 have HXB2:=hid (HXB.out.new hbW)
 clear hbW hc0 hc1 hc2 h ha ha' he he' hw HXA HXB
 generalize jw (xE o) a.lv a.tk=TA at hFA hla hL ⊢
 generalize jI (xE o) a.lv a.dp=DA at hFA hda2 hda ⊢
 generalize jw (cZ o+1) b.lv b.tk=TB at HFB hlb hL ⊢
 generalize jI (cZ o+1) b.lv b.dp=DB at HFB hdb2 hdb ⊢
 generalize oh o=tx at hne HBX0 k0 hW ⊢
 have hw1:IntKind.i64.wrap ((cZ o:Int)+1)=(cZ o:Int)+1:=by rw[IntKind.wrap_i64];omega
 have hlast : ∀(w1:World) (tb1:Option Nat),bJ w1 g tb1 (L++TA) d (max m (d+(DA:Int)))→(∀k,tb1=some k→tb=some k∨W.heap.size≤k)→cB g tb W w1→True:=fun _ _ _ _ _=>trivial
 clear hlast
 by_cases h3:cZ o=3
 ·rw[hop,if_pos h3] at hFA
  have h3':((cZ o:Int)==3)=true:=by rw[h3];rfl
  have h4:((4:Nat):Int)=(cZ o:Int)+1:=by omega
  rw[h4] at hFA
  have HFA:=hid hFA
  clear hFA h4 h3 hop
  generalize (cZ o:Int)=li at h3' hw1 HFA HFB HBX0 k0 hW ⊢
  go_enter Tryz.func133,Tryz.ntmps133
  go_wp2_with fail
  refine HFA.out.mono ?_
  rintro e w1 ⟨rfl,tb1,hw1',ht1,hf1⟩
  have hbx0:=HBX0.out.on ht1 hf1
  have hbx2:=HBX2.out.on ht1 hf1
  have k01:=xX hbx0.at'
  have HT:Hid (Calls Tryz.prog 98 #[.pointer (some ⟨g,0,none⟩),.slice (some ⟨w1.heap.size,0,none⟩) 1 1] (w1.drew.alloc (.cells #[.string (aj tx)] 9)) fun e w'=>e = .returned (.tuple #[])∧Wrote g tb1 w1.drew w' (L++TA++au [tx]) d (max m (d+(DA:Int)))):=hid (aG g tb1 _ d _ [tx] w1.drew (hw1'.below (Below.refl _ w1).drew) (by simp) (by simpa using hne) (by simp;omega))
  have HX1:=hid ((HXB2.out.qV HW.out hf1).new (Below.refl _ w1).drew)
  have HW1:=hid (hw1'.below (Below.refl _ w1).drew)
  have HBX21:=hid (hbx2.below (Below.refl _ w1).drew)
  have HT1:=hid ht1
  have HF1:=hid hf1
  clear hw1' ht1 hf1 HFA hbx0 hbx2
  go_wp2_with fail
  go_region_with (first
   | (
     go_at_call 98;refine HT.out.mono ?_
     rintro e w2 ⟨rfl,tb2,hw2,ht2,hf2⟩)
   | fail)
  all_goals
   have hbx2:=HBX21.out.on ht2 hf2
   have k2:=aN hbx2.at'
   have HFB2:=hid (HFB.out tb2 _ _ w2 hw2 (HX1.out.qV HW1.out hf2) (by simp[au];omega) (by omega) (by omega))
   have HT2:=hid ht2
   have HF2:=hid hf2
   clear hw2 ht2 hf2 hbx2 HT
   go_wp2_with fail
   refine HFB2.out.mono ?_
   rintro e w3 ⟨rfl,h3⟩
   have HQ:Hid (Wrote g tb w w3 (L++(TA++aK tx::TB)) d (max m (d+((max DA DB:Nat):Int)))):=hid (by
    have:=Wrote.new HB.out (Wrote.then HT1.out HF1.out (Wrote.new (Below.refl _ w1).drew (Wrote.then HT2.out HF2.out h3)))
    rw[show max (max m (d+(DA:Int))) (d+(DB:Int))=max m (d+((max DA DB:Nat):Int)) by omega] at this
    simpa [au] using this)
   clear h3 HFB2
   go_wp2
   exact bodyPost_end (v:=.tuple #[]) (by simp[results,Tryz.results133,go_sem]) rfl ⟨rfl,HQ.out⟩
 ·rw[hop,if_neg h3] at hFA
  have h3':((cZ o:Int)==3)=false:=by
   cases hh:((cZ o:Int)==3) with
   | false=>rfl
   | true =>
      have:(cZ o:Int)=3:=by simpa using hh
      omega
  have HFA:=hid hFA
  clear hFA h3 hop
  generalize (cZ o:Int)=li at h3' hw1 HFA HFB HBX0 k0 hW ⊢
  go_enter Tryz.func133,Tryz.ntmps133
  go_wp2_with fail
  refine HFA.out.mono ?_
  rintro e w1 ⟨rfl,tb1,hw1',ht1,hf1⟩
  have hbx0:=HBX0.out.on ht1 hf1
  have hbx2:=HBX2.out.on ht1 hf1
  have k01:=xX hbx0.at'
  have HT:Hid (Calls Tryz.prog 98 #[.pointer (some ⟨g,0,none⟩),.slice (some ⟨w1.heap.size,0,none⟩) 1 1] (w1.drew.alloc (.cells #[.string (aj tx)] 9)) fun e w'=>e = .returned (.tuple #[])∧Wrote g tb1 w1.drew w' (L++TA++au [tx]) d (max m (d+(DA:Int)))):=hid (aG g tb1 _ d _ [tx] w1.drew (hw1'.below (Below.refl _ w1).drew) (by simp) (by simpa using hne) (by simp;omega))
  have HX1:=hid ((HXB2.out.qV HW.out hf1).new (Below.refl _ w1).drew)
  have HW1:=hid (hw1'.below (Below.refl _ w1).drew)
  have HBX21:=hid (hbx2.below (Below.refl _ w1).drew)
  have HT1:=hid ht1
  have HF1:=hid hf1
  clear hw1' ht1 hf1 HFA hbx0 hbx2
  go_wp2_with fail
  go_region_with (first
   | (
     go_at_call 98;refine HT.out.mono ?_
     rintro e w2 ⟨rfl,tb2,hw2,ht2,hf2⟩)
   | fail)
  all_goals
   have hbx2:=HBX21.out.on ht2 hf2
   have k2:=aN hbx2.at'
   have HFB2:=hid (HFB.out tb2 _ _ w2 hw2 (HX1.out.qV HW1.out hf2) (by simp[au];omega) (by omega) (by omega))
   have HT2:=hid ht2
   have HF2:=hid hf2
   clear hw2 ht2 hf2 hbx2 HT
   go_wp2_with fail
   refine HFB2.out.mono ?_
   rintro e w3 ⟨rfl,h3⟩
   have HQ:Hid (Wrote g tb w w3 (L++(TA++aK tx::TB)) d (max m (d+((max DA DB:Nat):Int)))):=hid (by
    have:=Wrote.new HB.out (Wrote.then HT1.out HF1.out (Wrote.new (Below.refl _ w1).drew (Wrote.then HT2.out HF2.out h3)))
    rw[show max (max m (d+(DA:Int))) (d+(DB:Int))=max m (d+((max DA DB:Nat):Int)) by omega] at this
    simpa [au] using this)
   clear h3 HFB2
   go_wp2
   exact bodyPost_end (v:=.tuple #[]) (by simp[results,Tryz.results133,go_sem]) rfl ⟨rfl,HQ.out⟩
theorem Ik (a:Tm) (hok:a.ok) (hn:a.zI=false) (hX:Ez a) (op vk vn:Int) (tn nm vs:List UInt8) (aa:Option Addr) (nn cc:Nat)
  (g:Nat) (tb:Option Nat) (L:List Tk) (d m:Int) (w:World) (h:bJ w g tb L d m) (ha:bF (fun b=>b<g) w [a.ex] (.slice aa nn cc)) (hL:L.length+((jw 2 a.lv a.tk).length+1)≤1000000000) (h0:0≤d) (hdm:d≤m) (hd:d+(jI 2 a.lv a.dp+1:Nat)≤1000000000) (hm:m≤1000000000) :
  Calls Tryz.prog 134 #[.pointer (some ⟨g,0,none⟩),.agg #[.int .i64 4,.int .i64 op,.string (aj tn),.string (aj nm),.int .i64 vk,.int .i64 vn,.string (aj vs),.slice aa nn cc]] w fun e w'=>e = .returned (.tuple #[])∧Wrote g tb w w' (L++(Tm.not a).tk) d (max m (d+((Tm.not a).dp:Nat))):=by
 obtain⟨W,hW,hbW,hzW,hcW⟩:=aL w (.cells #[.int .i64 4,.int .i64 op,.string (aj tn),.string (aj nm),.int .i64 vk,.int .i64 vn,.string (aj vs),.slice aa nn cc] 48)
 have k0:=aN hcW
 have HB:=hid hbW
 have hla:=fG 2 a.lv a.tk
 have hda:=gY 2 a.lv a.dp
 have HN:=hid (gy (fun b=>b<g) a.ex tn nm vk vn vs op aa nn cc W (ha.new hbW))
 have h6:(jH a.ex==6)=false:=by have:=qM a hn;simpa using this
 rw[h6] at HN
 have HBX:=hid (dn.mk' h hcW (Nat.le_refl _))
 have HA:=hid ha
 have HH:=hid h
 show Calls Tryz.prog 134 _ _ fun e w'=>_∧Wrote g tb w w' (L++(AZ::jw 2 a.lv a.tk)) d (max m (d+((jI 2 a.lv a.dp+1:Nat):Int)))
 have hDE:=nJ 2 a hok hX
 generalize jw 2 a.lv a.tk=T at hDE hla hL ⊢
 generalize jI 2 a.lv a.dp=D at hDE hda hd ⊢
 clear hbW hcW h ha h6 hn hok
 go_enter Tryz.func134,Tryz.ntmps134
 go_wp2_with fail
 refine HN.out.mono ?_
 rintro e w1 ⟨rfl,hb1⟩
 have hB1:=HB.out.trans (hb1.mono HB.out.size)
 have hw1:=HH.out.below hB1
 have HT:Hid (Calls Tryz.prog 98 #[.pointer (some ⟨g,0,none⟩),.slice (some ⟨w1.heap.size,0,none⟩) 1 1] (w1.alloc (.cells #[.string ⟨#[78,79,84]⟩] 9)) fun e w'=>e = .returned (.tuple #[])∧Wrote g tb w1 w' (L++au [[78,79,84]]) d m):=hid (aG g tb L d m [[78,79,84]] w1 hw1 (by decide) (by decide) (by simp;omega))
 have HA1:=hid (HA.out.new hB1)
 have HW1:=hid hw1
 have HBX1:=hid (HBX.out.below hb1)
 have HB1:=hid hB1
 clear hb1 hB1 HN hw1
 go_wp2_with fail
 refine HT.out.mono ?_
 rintro e w2 ⟨rfl,tb2,hw2,ht2,hf2⟩
 have k2:=aN (HBX1.out.on ht2 hf2).at'
 obtain⟨h1,h2,h3,b,off,k1,op1,tb1,nm1,vk1,vn1,vs1,ys1,a1,n1,c1,hxe,rfl,_,h7,h8⟩:=dI (HA1.out.qV HW1.out hf2)
 rw[List.length_nil,Nat.zero_add] at h1
 subst h1
 unfold maxLen at h3
 have HD2:=hid (hDE g tb2 (L++au [[78,79,84]]) d m w2 _ hw2 (fB.mk' hxe h8) (by simp[au];omega) h0 hdm (by omega) hm)
 unfold Cells8 at h7
 have HT2:=hid ht2
 have HF2:=hid hf2
 clear hw2 ht2 hf2 HT hxe h8 HA HA1
 go_wp2_with fail
 refine HD2.out.mono ?_
 rintro e w3 ⟨rfl,h3⟩
 have HQ:Hid (Wrote g tb w w3 (L++AZ::T) d (max m (d+((D+1:Nat):Int)))):=hid (by
  have:=Wrote.new HB1.out (Wrote.then HT2.out HF2.out h3)
  rw[show L++au [[78,79,84]]++T=L++AZ::T by simp[au,AZ]] at this
  exact this)
 clear h3 HD2
 go_wp2
 exact bodyPost_end (v:=.tuple #[]) (by simp[results,Tryz.results134,go_sem]) rfl ⟨rfl,HQ.out⟩
theorem Gp (a:Tm) (hok:a.ok) (hX:Ez a) (op vk vn:Int) (tn nm vs:List UInt8) (aa:Option Addr) (nn cc:Nat)
  (g:Nat) (tb:Option Nat) (L:List Tk) (d m:Int) (w:World) (h:bJ w g tb L d m) (ha:bF (fun b=>b<g) w [gD 6 a.ex] (.slice aa nn cc)) (hL:L.length+((jw 4 a.lv a.tk).length+3)≤1000000000) (h0:0≤d) (hdm:d≤m) (hd:d+(jI 4 a.lv a.dp:Nat)≤1000000000) (hm:m≤1000000000) :
  Calls Tryz.prog 134 #[.pointer (some ⟨g,0,none⟩),.agg #[.int .i64 4,.int .i64 op,.string (aj tn),.string (aj nm),.int .i64 vk,.int .i64 vn,.string (aj vs),.slice aa nn cc]] w fun e w'=>e = .returned (.tuple #[])∧Wrote g tb w w' (L++(Tm.nnul a).tk) d (max m (d+((Tm.nnul a).dp:Nat))):=by
 obtain⟨W,hW,hbW,hzW,hcW⟩:=aL w (.cells #[.int .i64 4,.int .i64 op,.string (aj tn),.string (aj nm),.int .i64 vk,.int .i64 vn,.string (aj vs),.slice aa nn cc] 48)
 have k0:=aN hcW
 have HB:=hid hbW
 have HN:Hid (Calls Tryz.prog 162 #[.agg #[.int .i64 4,.int .i64 op,.string (aj tn),.string (aj nm),.int .i64 vk,.int .i64 vn,.string (aj vs),.slice aa nn cc]] W fun e w'=>e = .returned (.bool true)∧Below W.heap.size W w'):=hid (gy (fun b=>b<g) (gD 6 a.ex) tn nm vk vn vs op aa nn cc W (ha.new hbW))
 have HBX:=hid (dn.mk' h hcW (Nat.le_refl _))
 have HA:=hid ha
 have HH:=hid h
 show Calls Tryz.prog 134 _ _ fun e w'=>_∧Wrote g tb w w' (L++(jw 4 a.lv a.tk++au [[73,83],[78,79,84],[78,85,76,76]])) d (max m (d+(jI 4 a.lv a.dp:Nat)))
 clear hbW hcW h ha
 go_enter Tryz.func134,Tryz.ntmps134
 go_wp2_with fail
 refine HN.out.mono ?_
 rintro e w1 ⟨rfl,hb1⟩
 have hB1:=HB.out.trans (hb1.mono HB.out.size)
 have hw1:=HH.out.below hB1
 have k2:=aN (HBX.out.below hb1).at'
 obtain⟨h1,h2,h3,b,off,k1,op1,tb1,nm1,vk1,vn1,vs1,ys1,a1,n1,c1,hxe,rfl,_,h7,h8⟩:=dI (HA.out.new hB1)
 rw[List.length_nil,Nat.zero_add] at h1
 subst h1
 unfold maxLen at h3
 unfold Cells8 at h7
 obtain⟨V,hV,hbV,hzV,hcV⟩:=aL w1 (.cells #[.string ⟨#[73,83]⟩,.string ⟨#[78,79,84]⟩,.string ⟨#[78,85,76,76]⟩] 9)
 simp only[gD,Ex.mk.injEq] at hxe
 obtain⟨rfl,rfl,rfl,rfl,hve,rfl⟩:=hxe
 have hlt1:g<w1.heap.size:=hw1.lt
 have HNU:=hid (D5 a hok hX 6 0 vk1 vn1 [] [] vs1 a1 n1 c1 [[73,83],[78,79,84],[78,85,76,76]] (by decide) (by decide) (.slice (some ⟨w1.heap.size,0,none⟩) 3 3) g tb L d m V (hw1.below hbV) (h8.new hbV) ⟨_,_,rfl,by decide,fun _=>⟨_,rfl,by omega,fun e=>by have:=(hw1.EB _ e).2;omega,hzV,fun j t ht=>by
  rw[aD _ _ _ _ _ _ hcV]
  match j,ht with
  | 0,ht=>cases ht;rfl
  | 1,ht=>cases ht;rfl
  | 2,ht=>cases ht;rfl⟩⟩ hL h0 hdm hd hm)
 have HB1:=hid (hB1.trans (hbV.mono hB1.size))
 clear hb1 hB1 HN hw1 h8 hbV hcV HA HBX hve
 go_wp2_with fail
 try rw[hV]
 refine HNU.out.mono ?_
 rintro e w3 ⟨rfl,h3⟩
 have HQ:=hid (Wrote.new HB1.out h3)
 clear h3 HNU
 go_wp2
 exact bodyPost_ret (v:=.tuple #[]) (by simp[results,Tryz.results134,go_sem]) rfl ⟨rfl,HQ.out⟩
end Go.Proofs.YtfeglkleoijlaaaGreatDoor
