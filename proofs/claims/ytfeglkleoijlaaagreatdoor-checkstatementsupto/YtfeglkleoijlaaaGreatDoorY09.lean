import Derived.Test.YtfeglkleoijlaaaGreatDoorY08
namespace Go.Proofs.YtfeglkleoijlaaaGreatDoor
open Go.RowKit Go.Shelf
set_option linter.unusedSimpArgs false
set_option linter.unusedVariables false
set_option maxRecDepth 20000
set_option maxHeartbeats 8000000
theorem KO (B n:Nat) (v:Value) (ps:List (List UInt8)) (w:World) (hown:w.ownsRow B 9 1 v n (Ug ps)) (hl : ∀p∈ps,p.length≤100) (hn:ps.length≤10000000) :
  Calls Tryz.prog 152 #[v,.string ⟨#[32]⟩] w fun e w'=>e = .returned (.string (aj (Lib.join ps [32])))∧Below w.heap.size w w':=by
 have hlen:n=ps.length:=by have:=hown.1;simp[Ug] at this;omega
 subst hlen
 have hj:=join_le ps hl
 have hc:=hown
 rcases hown.2 with⟨rfl,hz⟩ | ⟨g,cap,cur,rfl,hb,hg,hnc,hcm,hcs,ht⟩
 ·obtain rfl:ps=[]:=aaR hz
  have:=Any.strings_Join_none NQ Gm none 0 ⟨#[32]⟩ w
  rw[UZ.2.2.2.2.2.2.2.2.2] at this
  exact this.mono fun e w' ⟨he,hw⟩=>⟨he,hw ▸ Below.refl _ _⟩
 ·have k:=hc.cells (g:=g) rfl
  have hm:(ps.map aj).map (·.data.toList)=ps:=by
   rw[List.map_map]
   conv=>rhs;rw[← List.map_id ps]
   apply List.map_congr_left
   intro x _
   rfl
  have:=Any.strings_Join NQ Gm g 0 cap (ps.map aj) ⟨#[32]⟩ w (fun j x hx=>by
   have:=k j (.string x) (by
    rw[List.getElem?_map] at hx
    simp only[Ug,List.getElem?_map]
    cases hp:ps[j]? with
    | none=>rw[hp] at hx;cases hx
    | some l=>rw[hp] at hx;simp at hx;simp[hx])
   rwa [Addr.add_lit] at this) (Array.getElem?_eq_some_iff.1 hg).1 (by rw[List.length_map];omega) (by rw[List.length_map];exact hnc) (by
    rw[hm]
    show (Lib.join ps [32]).length≤_
    omega)
  rw[UZ.2.2.2.2.2.2.2.2.2,hm,List.length_map] at this
  exact this
theorem BA (k n p:Int) (s:List UInt8) (w:World) (hT:iL w) (hs:s.length≤40) (hn0:0≤n) (hn1:n≤9223372036854775807) :
  Calls Tryz.prog 151 #[.agg #[.int .i64 k,.string (aj s),.int .i64 n,.int .i64 p]] w fun e w'=>e = .returned (.string (aj (wr ⟨k,s,n,p⟩)))∧Below w.heap.size w w':=by
 obtain⟨W,hW,hbW,aJ,hcW⟩:=Xx w (.int .i64 k) (.string (aj s)) (.int .i64 n) (.int .i64 p) 180
 have g0:=uz (hcW W (Below.refl _ _))
 have HI:=hid (CO n W (hT.on hbW).tv (by omega) hn1)
 have HL:=hid (Fb 2 0 s W (hT.on hbW).tv (by decide) (by decide) (by omega))
 have HB:=hid hbW
 clear hcW hbW hT
 by_cases h3:k=3
 ·have hd:wr ⟨k,s,n,p⟩=Lib.itoa n:=by rw[wr,if_pos h3]
  rw[hd]
  clear hd
  subst h3
  go_enter Tryz.func151,Tryz.ntmps151
  go_wp2_with fail
  refine HI.out.mono ?_
  rintro e w1 ⟨rfl,hb1⟩
  go_wp2
  go_ret
  exact⟨rfl,HB.out.trans (hb1.mono HB.out.size)⟩
 ·have h3':(k==3)=false:=by simpa using h3
  by_cases h4:k=4
  ·have hd:wr ⟨k,s,n,p⟩=CS ⟨2,0,s⟩:=by rw[wr,if_neg h3,if_pos h4];rfl
   rw[hd]
   clear hd
   subst h4
   go_enter Tryz.func151,Tryz.ntmps151
   go_wp2_with fail
   refine HL.out.mono ?_
   rintro e w1 ⟨rfl,hb1⟩
   go_wp2
   go_ret
   exact⟨rfl,HB.out.trans (hb1.mono HB.out.size)⟩
  ·have h4':(k==4)=false:=by simpa using h4
   have hd:wr ⟨k,s,n,p⟩=s:=by rw[wr,if_neg h3,if_neg h4]
   rw[hd]
   clear hd
   go_enter Tryz.func151,Tryz.ntmps151
   go_wp2
   go_ret
   exact⟨rfl,HB.out⟩
theorem GJ (B:Nat) (v:Value) (l:List Tk) (w:World) (hT:iL w) (hB:B≤w.heap.size) (hv:N9 B w v l) (hok : ∀t∈l,UE t) (hn:l.length≤10000000) :
  Calls Tryz.prog 107 #[v] w fun e w'=>e = .returned (.string (aj (Lib.join (wD l) [32])))∧Below w.heap.size w w':=by
 obtain⟨i0,hi,hz0,hz1,hz2⟩:=info_parts Tryz.PY
 obtain⟨a,c,rfl,h1,h2,h3⟩:=id hv
 unfold maxLen at h2
 have HV:=hid hv
 have HT:=hid hT
 have K6:=hid hok
 have hwl : ∀k,∀p∈wD (l.take k),p.length≤100:=fun k p hp=>by
  unfold wD at hp
  obtain⟨t,ht,rfl⟩:=List.mem_map.1 hp
  exact XO (hok t (List.mem_of_mem_take (List.mem_filter.1 ht).1))
 have HWL:=hid hwl
 clear hwl h3 hv hT hok
 obtain⟨S,hS⟩:∃S,aj (Lib.join (wD l) [32])=S:=⟨_,rfl⟩
 rw[hS]
 have HS:=hid hS
 clear hS
 go_enter Tryz.func107,Tryz.ntmps107
 go_wp2_with fail
 go_loopw [3,8] (fun u i wr=>∃k:Nat,k≤l.length∧i = .int .i64 k∧wr.ownsRow w.heap.size 9 1 u (wD (l.take k)).length (Ug (wD (l.take k)))∧Below w.heap.size w wr) (fun _ i _=>l.length-(intOf i).toNat)
 case atStart=>exact⟨0,aaV _,rfl,World.ownsRow_nil _ _ _ _,Below.refl _ _⟩
 case round =>
  obtain⟨k,hk,rfl,hown,hbel⟩:=hrel
  have qH:=hbel.size
  have Yo:=QJ (l.take k)
  rw[List.length_take] at Yo
  by_cases hlt:k<l.length
  ·obtain⟨x,hx⟩:∃x,l[k]?=some x:=⟨_,aaf hlt⟩
   obtain⟨a',c',hv',_,_,h3⟩:=HV.out.below (hbel.mono hB)
   simp only[aah] at hv'
   obtain⟨rfl,_,rfl⟩:=hv'
   obtain⟨b,off,rfl,hbB,hcell⟩:=h3 (by intro e;rw[e] at hlt;simp at hlt)
   obtain⟨c0,c1,c2,c3⟩:=hcell k x hx
   have ht:=GH l k x hx
   have hws:=Mg (l.take k) x
   rw[← ht] at hws
   obtain⟨o1,o2,o3⟩:=K6.out x (aaP hx)
   obtain⟨xk,xs,xn,xp⟩:=x
   dsimp only at c0 c1 c2 c3 hws o1 o2 o3
   clear h3 hcell ht hx
   by_cases h6:xk=6
   ·rw[if_pos h6] at hws
    have HW2:=hid hws
    subst h6
    have hown2:=hid (hown.alloc (.cells #[.int .i64 6,.string (aj xs),.int .i64 xn,.int .i64 xp] 180))
    have vF:=hid (hbel.alloc qH (.cells #[.int .i64 6,.string (aj xs),.int .i64 xn,.int .i64 xp] 180))
    clear hws hown
    go_wp2
    go_roundw
    case rel=>exact⟨k+1,by omega,by go_num,by rw[HW2.out];exact hown2.out,vF.out⟩
    case measure=>simp[intOf];omega
   ·rw[if_neg h6] at hws
    have HW2:=hid hws
    have h6':(xk != 6)=true:=by rw[bne_iff_ne];exact h6
    obtain⟨W,hW,hbW,aJ,hcW⟩:=Xx wr (.int .i64 xk) (.string (aj xs)) (.int .i64 xn) (.int .i64 xp) 180
    have g0:=uz (hcW W (Below.refl _ _))
    have OE:=hown.alloc (.cells #[.int .i64 xk,.string (aj xs),.int .i64 xn,.int .i64 xp] 180)
    rw[hW] at OE
    have hbelW:=hbel.trans (hbW.mono qH)
    have HWR:=hid (BA xk xn xp xs W (HT.out.on hbelW) o1 o2 o3)
    generalize Go.Proofs.YtfeglkleoijlaaaGreatDoor.wr ⟨xk,xs,xn,xp⟩=tx at HWR HW2
    generalize hPS:wD (l.take k)=PS at *
    clear hPS hws hown hcW h6
    go_wp2_with fail
    try rw[hW]
    clear hW
    refine HWR.out.mono ?_
    rintro e w2 ⟨rfl,hb2⟩
    have hown2:=Dp OE hb2
    have vF:=hbelW.trans (hb2.mono hbelW.size)
    have Nn:=hown2.alloc (.cells #[.string (aj tx)] 9)
    have F3:=vF.alloc vF.size (.cells #[.string (aj tx)] 9)
    have RB:=hid F3.size
    have acZ:=hid F3
    obtain⟨va,Uy,hvf⟩:∃va Uy,u3 = .slice va PS.length Uy:=by
     rcases hown2.2 with⟨rfl,hn⟩ | ⟨g,cap,cur,rfl,_⟩
     ·exact⟨_,_,by rw[hn]⟩
     ·exact⟨_,_,rfl⟩
    subst hvf
    have HL:=hid (fun q hq=>(Nn.lt q hq).1 : ∀q,(Value.slice va PS.length Uy).ownBlock=some q→w.heap.size≤q)
    have hnew : ∀(j:Nat) (u:Value),[Value.string (aj tx)][j]?=some u→(w2.alloc (.cells #[.string (aj tx)] 9)).cell? ((⟨w2.heap.size,0,none⟩:Addr).add j)=some u:=by
     intro j u hj
     match j,hj with
     | 0,hj=>simp at hj;subst hj;simp[Addr.add]
    have hone : ∀u∈[Value.string (aj tx)],u.oneCell'=true:=by intro u hu;simp at hu;rw[hu];rfl
    clear hb2 OE hbelW HWR hown2 vF F3
    go_wp2_with (first
     | (at_builtin;refine wpList_append_own _ rfl (.tmp 15) (.tmp 18) 177 rfl w.heap.size 9 i0 (.string ⟨#[]⟩) 1 16 Tryz.underlying177 hi hz0 hz1 hz2 rfl (by decide) _ _ _ rfl Nn ⟨w2.heap.size,0,none⟩ 1 1 [.string (aj tx)] rfl rfl hnew hone (by unfold maxLen;omega) (by omega) RB.out ?_;intro v3 w3 hown3 hg3 _)
     | fail)
    have HB3:Hid (Below w.heap.size w w3):=hid (acZ.out.grown hg3 RB.out HL.out)
    go_roundw
    case rel =>
     refine ⟨k+1,by omega,by go_num,?_,HB3.out⟩
     rw[HW2.out,aaN,show Ug (PS++[tx])=Ug PS++[.string (aj tx)] from by simp[Ug]]
     exact hown3
    case measure=>simp[intOf];omega
  ·have hkl:k=l.length:=by omega
   have htk:l.take k=l:=aaU (by omega)
   have Px:=HWL.out k
   rw[htk] at hown Px Yo
   have HJ:=hid (KO _ _ _ _ wr hown Px (by omega))
   have hjl:=join_le (wD l) Px
   have HC:=hid (fun w=>jC (aj (Lib.join (wD l) [32])) w (by rw[dW];omega))
   rw[HS.out] at HJ HC
   clear hown Px htk hjl
   go_wp2_with fail
   refine HJ.out.mono ?_
   rintro e w2 ⟨rfl,hb2⟩
   have vF:=hbel.trans (hb2.mono qH)
   go_wp2_with fail
   refine (HC.out _).mono ?_
   rintro e w3 ⟨rfl,hb3⟩
   have HB3:=hid (vF.trans (hb3.mono vF.size))
   go_wp2
   go_ret
   exact⟨rfl,HB3.out⟩
theorem Pp (w:World) (A B C:Obj):∃W,((w.alloc A).alloc B).alloc C=W∧Below w.heap.size w W∧w.heap.size+1+1<W.heap.size∧W.heap[w.heap.size]?=some A∧W.heap[w.heap.size+1]?=some B∧W.heap[w.heap.size+1+1]?=some C:=by
 obtain⟨W,h1,h2,h3,h4⟩:=three w A B C
 refine ⟨W,h1,h2,World.lt_of_block h4,?_,h3,h4⟩
 rw[← h1,Below.heap_alloc _ _ _ (by simp;omega),Below.heap_alloc _ _ _ (by simp)]
 exact heap_alloc_new w A
theorem CQ (o:Int) (h1:1≤o) (h2:o≤13) (a b:Tm) (abW:a.ok) (abb:b.ok) (hA:OY a) (hB:OY b) (va vb:Value)
  (g:Nat) (tb:Option Nat) (L:List Tk) (d m:Int) (w:World) (h:bO w g tb L d m) (hxa:gH (fun b=>b<g) w a.ex va) (hxb:gH (fun b=>b<g) w b.ex vb) (hL:L.length+((oV (Fh o) a.lv a.tk).length+((oV (eu o+1) b.lv b.tk).length+1))≤1000000000) (h0:0≤d) (jy:d≤m) (hda:d+(pO (Fh o) a.lv a.dp:Nat)≤1000000000) (hdb:d+(pO (eu o+1) b.lv b.dp:Nat)≤1000000000) (hm:m≤1000000000) :
  Calls Tryz.prog 133 #[.pointer (some ⟨g,0,none⟩),.agg #[.string (aj (vW o)),.int .i64 (eu o)],va,vb] w fun e w'=>e = .returned (.tuple #[])∧Wrote g tb w w' (L++(Tm.op o a b).tk) d (max m (d+((Tm.op o a b).dp:Nat))):=by
 have hla:=jA (Fh o) a.lv a.tk
 have hlb:=jA (eu o+1) b.lv b.tk
 have ab8:=mD (Fh o) a.lv a.dp
 have Z6:=mD (eu o+1) b.lv b.dp
 have OW:=hid hxa
 have HXB:=hid hxb
 obtain⟨k,op,tn,nm,vk,vn,vs,ys,aa,nn,cc,he,rfl,ha⟩:=hxa
 obtain⟨k',op',tn',nm',jM,QB,vs',ys',Fu,KL,cc',he',rfl,ha'⟩:=hxb
 obtain⟨W,hW,hbW,aJ,hc0,hc1,hc2⟩:=Pp w (.cells #[.string (aj (vW o)),.int .i64 (eu o)] 168) (.cells #[.int .i64 k,.int .i64 op,.string (aj tn),.string (aj nm),.int .i64 vk,.int .i64 vn,.string (aj vs),.slice aa nn cc] 48) (.cells #[.int .i64 k',.int .i64 op',.string (aj tn'),.string (aj nm'),.int .i64 jM,.int .i64 QB,.string (aj vs'),.slice Fu KL cc'] 48)
 have hsz0:w.heap.size<W.heap.size:=by omega
 have k0:=FC hc0
 have k1:=aG hc1
 have HB:=hid hbW
 have hw:=h.below hbW
 have HW:=hid hw
 have iD:=hid (fP.mk' h hc0 (aaF _))
 have kH:=hid (fP.mk' h hc2 (by omega))
 have hne:vW o≠[]:=by rcases FI o h1 h2 with rfl | rfl | rfl | rfl | rfl | rfl | rfl | rfl | rfl | rfl | rfl | rfl | rfl<;>decide
 have PL:=tF (Fh o) a abW hA g tb L d m W _ hw (OW.out.new hbW) (by omega) h0 jy (by omega) hm
 have VI:Hid (∀(tb':Option Nat) (L':List Tk) (m':Int) (V:World),bO V g tb' L' d m'→gH (fun b=>b<g) V b.ex (.agg #[.int .i64 k',.int .i64 op',.string (aj tn'),.string (aj nm'),.int .i64 jM,.int .i64 QB,.string (aj vs'),.slice Fu KL cc'])→L'.length+(oV (eu o+1) b.lv b.tk).length≤1000000000→d≤m'→m'≤1000000000 →
   Calls Tryz.prog 161 #[.pointer (some ⟨g,0,none⟩),.int .i64 ((eu o:Int)+1),.agg #[.int .i64 k',.int .i64 op',.string (aj tn'),.string (aj nm'),.int .i64 jM,.int .i64 QB,.string (aj vs'),.slice Fu KL cc']] V fun e w'=>e = .returned (.tuple #[])∧Wrote g tb' V w' (L'++oV (eu o+1) b.lv b.tk) d (max m' (d+(pO (eu o+1) b.lv b.dp:Nat)))):=hid (fun tb' L' m' V hV hx hl hd hm'=>by
  have:=tF (eu o+1) b abb hB g tb' L' d m' V _ hV hx (by omega) h0 hd (by omega) hm'
  rwa [show ((eu o+1:Nat):Int)=(eu o:Int)+1 by omega] at this)
 show Calls Tryz.prog 133 _ _ fun e w'=>_∧Wrote g tb w w' (L++(oV (Fh o) a.lv a.tk++bg (vW o)::oV (eu o+1) b.lv b.tk)) d (max m (d+(max (pO (Fh o) a.lv a.dp) (pO (eu o+1) b.lv b.dp):Nat)))
 have afG:eu o≤5:=by have:=WE o h1 h2;omega
 have hop:Fh o=if eu o=3 then 4 else eu o:=rfl
 have YD:=hid (HXB.out.new hbW)
 clear hbW hc0 hc1 hc2 h ha ha' he he' hw OW HXB
 generalize oV (Fh o) a.lv a.tk=TA at PL hla hL ⊢
 generalize pO (Fh o) a.lv a.dp=DA at PL ab8 hda ⊢
 generalize oV (eu o+1) b.lv b.tk=TB at VI hlb hL ⊢
 generalize pO (eu o+1) b.lv b.dp=DB at VI Z6 hdb ⊢
 generalize vW o=tx at hne iD k0 hW ⊢
 have hw1:IntKind.i64.wrap ((eu o:Int)+1)=(eu o:Int)+1:=by rw[IntKind.wrap_i64];omega
 have hlast : ∀(w1:World) (dN:Option Nat),bO w1 g dN (L++TA) d (max m (d+(DA:Int)))→(∀k,dN=some k→tb=some k∨W.heap.size≤k)→eP g tb W w1→True:=fun _ _ _ _ _=>trivial
 clear hlast
 by_cases h3:eu o=3
 ·rw[hop,if_pos h3] at PL
  have h3':((eu o:Int)==3)=true:=by rw[h3];rfl
  have h4:((4:Nat):Int)=(eu o:Int)+1:=by omega
  rw[h4] at PL
  have yN:=hid PL
  clear PL h4 h3 hop
  generalize (eu o:Int)=li at h3' hw1 yN VI iD k0 hW ⊢
  go_enter Tryz.func133,Tryz.ntmps133
  go_wp2_with fail
  refine yN.out.mono ?_
  rintro e w1 ⟨rfl,dN,FT,ht1,hf1⟩
  have hbx0:=iD.out.on ht1 hf1
  have pz:=kH.out.on ht1 hf1
  have k01:=FC hbx0.at'
  have HT:Hid (Calls Tryz.prog 98 #[.pointer (some ⟨g,0,none⟩),.slice (some ⟨w1.heap.size,0,none⟩) 1 1] (w1.drew.alloc (.cells #[.string (aj tx)] 9)) fun e w'=>e = .returned (.tuple #[])∧Wrote g dN w1.drew w' (L++TA++ay [tx]) d (max m (d+(DA:Int)))):=hid (aX g dN _ d _ [tx] w1.drew (FT.below (Below.refl _ w1).drew) (by simp) (by simpa using hne) (by simp;omega))
  have gP:=hid ((YD.out.zC HW.out hf1).new (Below.refl _ w1).drew)
  have HW1:=hid (FT.below (Below.refl _ w1).drew)
  have Nr:=hid (pz.below (Below.refl _ w1).drew)
  have HT1:=hid ht1
  have jG:=hid hf1
  clear FT ht1 hf1 yN hbx0 pz
  go_wp2_with fail
  go_region_with (first
   | (
     go_at_call 98;refine HT.out.mono ?_
     rintro e w2 ⟨rfl,bX,hw2,ht2,hf2⟩)
   | fail)
  all_goals
   have pz:=Nr.out.on ht2 hf2
   have k2:=aG pz.at'
   have NA:=hid (VI.out bX _ _ w2 hw2 (gP.out.zC HW1.out hf2) (by simp[ay];omega) (by omega) (by omega))
   have HT2:=hid ht2
   have jW:=hid hf2
   clear hw2 ht2 hf2 pz HT
   go_wp2_with fail
   refine NA.out.mono ?_
   rintro e w3 ⟨rfl,h3⟩
   have HQ:Hid (Wrote g tb w w3 (L++(TA++bg tx::TB)) d (max m (d+((max DA DB:Nat):Int)))):=hid (by
    have:=Wrote.new HB.out (Wrote.then HT1.out jG.out (Wrote.new (Below.refl _ w1).drew (Wrote.then HT2.out jW.out h3)))
    rw[show max (max m (d+(DA:Int))) (d+(DB:Int))=max m (d+((max DA DB:Nat):Int)) by omega] at this
    simpa [ay] using this)
   clear h3 NA
   go_wp2
   exact bodyPost_end (v:=.tuple #[]) (by simp[results,Tryz.results133,go_sem]) rfl ⟨rfl,HQ.out⟩
 ·rw[hop,if_neg h3] at PL
  have h3':((eu o:Int)==3)=false:=by
   cases hh:((eu o:Int)==3) with
   | false=>rfl
   | true =>
      have:(eu o:Int)=3:=by simpa using hh
      omega
  have yN:=hid PL
  clear PL h3 hop
  generalize (eu o:Int)=li at h3' hw1 yN VI iD k0 hW ⊢
  go_enter Tryz.func133,Tryz.ntmps133
  go_wp2_with fail
  refine yN.out.mono ?_
  rintro e w1 ⟨rfl,dN,FT,ht1,hf1⟩
  have hbx0:=iD.out.on ht1 hf1
  have pz:=kH.out.on ht1 hf1
  have k01:=FC hbx0.at'
  have HT:Hid (Calls Tryz.prog 98 #[.pointer (some ⟨g,0,none⟩),.slice (some ⟨w1.heap.size,0,none⟩) 1 1] (w1.drew.alloc (.cells #[.string (aj tx)] 9)) fun e w'=>e = .returned (.tuple #[])∧Wrote g dN w1.drew w' (L++TA++ay [tx]) d (max m (d+(DA:Int)))):=hid (aX g dN _ d _ [tx] w1.drew (FT.below (Below.refl _ w1).drew) (by simp) (by simpa using hne) (by simp;omega))
  have gP:=hid ((YD.out.zC HW.out hf1).new (Below.refl _ w1).drew)
  have HW1:=hid (FT.below (Below.refl _ w1).drew)
  have Nr:=hid (pz.below (Below.refl _ w1).drew)
  have HT1:=hid ht1
  have jG:=hid hf1
  clear FT ht1 hf1 yN hbx0 pz
  go_wp2_with fail
  go_region_with (first
   | (
     go_at_call 98;refine HT.out.mono ?_
     rintro e w2 ⟨rfl,bX,hw2,ht2,hf2⟩)
   | fail)
  all_goals
   have pz:=Nr.out.on ht2 hf2
   have k2:=aG pz.at'
   have NA:=hid (VI.out bX _ _ w2 hw2 (gP.out.zC HW1.out hf2) (by simp[ay];omega) (by omega) (by omega))
   have HT2:=hid ht2
   have jW:=hid hf2
   clear hw2 ht2 hf2 pz HT
   go_wp2_with fail
   refine NA.out.mono ?_
   rintro e w3 ⟨rfl,h3⟩
   have HQ:Hid (Wrote g tb w w3 (L++(TA++bg tx::TB)) d (max m (d+((max DA DB:Nat):Int)))):=hid (by
    have:=Wrote.new HB.out (Wrote.then HT1.out jG.out (Wrote.new (Below.refl _ w1).drew (Wrote.then HT2.out jW.out h3)))
    rw[show max (max m (d+(DA:Int))) (d+(DB:Int))=max m (d+((max DA DB:Nat):Int)) by omega] at this
    simpa [ay] using this)
   clear h3 NA
   go_wp2
   exact bodyPost_end (v:=.tuple #[]) (by simp[results,Tryz.results133,go_sem]) rfl ⟨rfl,HQ.out⟩
theorem Zd (a:Tm) (hok:a.ok) (hn:a.Hu=false) (hX:OY a) (op vk vn:Int) (tn nm vs:List UInt8) (aa:Option Addr) (nn cc:Nat)
  (g:Nat) (tb:Option Nat) (L:List Tk) (d m:Int) (w:World) (h:bO w g tb L d m) (ha:bA (fun b=>b<g) w [a.ex] (.slice aa nn cc)) (hL:L.length+((oV 2 a.lv a.tk).length+1)≤1000000000) (h0:0≤d) (jy:d≤m) (hd:d+(pO 2 a.lv a.dp+1:Nat)≤1000000000) (hm:m≤1000000000) :
  Calls Tryz.prog 134 #[.pointer (some ⟨g,0,none⟩),.agg #[.int .i64 4,.int .i64 op,.string (aj tn),.string (aj nm),.int .i64 vk,.int .i64 vn,.string (aj vs),.slice aa nn cc]] w fun e w'=>e = .returned (.tuple #[])∧Wrote g tb w w' (L++(Tm.not a).tk) d (max m (d+((Tm.not a).dp:Nat))):=by
 obtain⟨W,hW,hbW,aJ,hcW⟩:=aK w (.cells #[.int .i64 4,.int .i64 op,.string (aj tn),.string (aj nm),.int .i64 vk,.int .i64 vn,.string (aj vs),.slice aa nn cc] 48)
 have k0:=aG hcW
 have HB:=hid hbW
 have hla:=jA 2 a.lv a.tk
 have hda:=mD 2 a.lv a.dp
 have HN:=hid (jY (fun b=>b<g) a.ex tn nm vk vn vs op aa nn cc W (ha.new hbW))
 have h6:(fV a.ex==6)=false:=by have:=wZ a hn;simpa using this
 rw[h6] at HN
 have iq:=hid (fP.mk' h hcW (aaF _))
 have HA:=hid ha
 have HH:=hid h
 show Calls Tryz.prog 134 _ _ fun e w'=>_∧Wrote g tb w w' (L++(Ji::oV 2 a.lv a.tk)) d (max m (d+((pO 2 a.lv a.dp+1:Nat):Int)))
 have Da:=vH 2 a hok hX
 generalize oV 2 a.lv a.tk=T at Da hla hL ⊢
 generalize pO 2 a.lv a.dp=D at Da hda hd ⊢
 clear hbW hcW h ha h6 hn hok
 go_enter Tryz.func134,Tryz.ntmps134
 go_wp2_with fail
 refine HN.out.mono ?_
 rintro e w1 ⟨rfl,hb1⟩
 have hB1:=HB.out.trans (hb1.mono HB.out.size)
 have hw1:=HH.out.below hB1
 have HT:Hid (Calls Tryz.prog 98 #[.pointer (some ⟨g,0,none⟩),.slice (some ⟨w1.heap.size,0,none⟩) 1 1] (w1.alloc (.cells #[.string ⟨#[78,79,84]⟩] 9)) fun e w'=>e = .returned (.tuple #[])∧Wrote g tb w1 w' (L++ay [[78,79,84]]) d m):=hid (aX g tb L d m [[78,79,84]] w1 hw1 (by decide) (by decide) (by simp;omega))
 have HA1:=hid (HA.out.new hB1)
 have HW1:=hid hw1
 have iy:=hid (iq.out.below hb1)
 have HB1:=hid hB1
 clear hb1 hB1 HN hw1
 go_wp2_with fail
 refine HT.out.mono ?_
 rintro e w2 ⟨rfl,bX,hw2,ht2,hf2⟩
 have k2:=aG (iy.out.on ht2 hf2).at'
 obtain⟨h1,h2,h3,b,off,k1,op1,dN,fU,fJ,fI,vs1,ys1,a1,n1,c1,hxe,rfl,_,h7,h8⟩:=fH (HA1.out.zC HW1.out hf2)
 rw[List.length_nil,Nat.zero_add] at h1
 subst h1
 unfold maxLen at h3
 have HD2:=hid (Da g bX (L++ay [[78,79,84]]) d m w2 _ hw2 (gH.mk' hxe h8) (by simp[ay];omega) h0 jy (by omega) hm)
 unfold Cells8 at h7
 have HT2:=hid ht2
 have jW:=hid hf2
 clear hw2 ht2 hf2 HT hxe h8 HA HA1
 go_wp2_with fail
 refine HD2.out.mono ?_
 rintro e w3 ⟨rfl,h3⟩
 have HQ:Hid (Wrote g tb w w3 (L++Ji::T) d (max m (d+((D+1:Nat):Int)))):=hid (by
  have:=Wrote.new HB1.out (Wrote.then HT2.out jW.out h3)
  rw[show L++ay [[78,79,84]]++T=L++Ji::T by simp[ay,Ji]] at this
  exact this)
 clear h3 HD2
 go_wp2
 exact bodyPost_end (v:=.tuple #[]) (by simp[results,Tryz.results134,go_sem]) rfl ⟨rfl,HQ.out⟩
theorem Um (a:Tm) (hok:a.ok) (hX:OY a) (op vk vn:Int) (tn nm vs:List UInt8) (aa:Option Addr) (nn cc:Nat)
  (g:Nat) (tb:Option Nat) (L:List Tk) (d m:Int) (w:World) (h:bO w g tb L d m) (ha:bA (fun b=>b<g) w [nA 6 a.ex] (.slice aa nn cc)) (hL:L.length+((oV 4 a.lv a.tk).length+3)≤1000000000) (h0:0≤d) (jy:d≤m) (hd:d+(pO 4 a.lv a.dp:Nat)≤1000000000) (hm:m≤1000000000) :
  Calls Tryz.prog 134 #[.pointer (some ⟨g,0,none⟩),.agg #[.int .i64 4,.int .i64 op,.string (aj tn),.string (aj nm),.int .i64 vk,.int .i64 vn,.string (aj vs),.slice aa nn cc]] w fun e w'=>e = .returned (.tuple #[])∧Wrote g tb w w' (L++(Tm.ny a).tk) d (max m (d+((Tm.ny a).dp:Nat))):=by
 obtain⟨W,hW,hbW,aJ,hcW⟩:=aK w (.cells #[.int .i64 4,.int .i64 op,.string (aj tn),.string (aj nm),.int .i64 vk,.int .i64 vn,.string (aj vs),.slice aa nn cc] 48)
 have k0:=aG hcW
 have HB:=hid hbW
 have HN:Hid (Calls Tryz.prog 162 #[.agg #[.int .i64 4,.int .i64 op,.string (aj tn),.string (aj nm),.int .i64 vk,.int .i64 vn,.string (aj vs),.slice aa nn cc]] W fun e w'=>e = .returned (.bool true)∧Below W.heap.size W w'):=hid (jY (fun b=>b<g) (nA 6 a.ex) tn nm vk vn vs op aa nn cc W (ha.new hbW))
 have iq:=hid (fP.mk' h hcW (aaF _))
 have HA:=hid ha
 have HH:=hid h
 show Calls Tryz.prog 134 _ _ fun e w'=>_∧Wrote g tb w w' (L++(oV 4 a.lv a.tk++ay [[73,83],[78,79,84],[78,85,76,76]])) d (max m (d+(pO 4 a.lv a.dp:Nat)))
 clear hbW hcW h ha
 go_enter Tryz.func134,Tryz.ntmps134
 go_wp2_with fail
 refine HN.out.mono ?_
 rintro e w1 ⟨rfl,hb1⟩
 have hB1:=HB.out.trans (hb1.mono HB.out.size)
 have hw1:=HH.out.below hB1
 have k2:=aG (iq.out.below hb1).at'
 obtain⟨h1,h2,h3,b,off,k1,op1,dN,fU,fJ,fI,vs1,ys1,a1,n1,c1,hxe,rfl,_,h7,h8⟩:=fH (HA.out.new hB1)
 rw[List.length_nil,Nat.zero_add] at h1
 subst h1
 unfold maxLen at h3
 unfold Cells8 at h7
 obtain⟨V,hV,mU,K4,wH⟩:=aK w1 (.cells #[.string ⟨#[73,83]⟩,.string ⟨#[78,79,84]⟩,.string ⟨#[78,85,76,76]⟩] 9)
 simp only[nA,Ex.mk.injEq] at hxe
 obtain⟨rfl,rfl,rfl,rfl,Iq,rfl⟩:=hxe
 have hlt1:g<w1.heap.size:=hw1.lt
 have HNU:=hid (Oi a hok hX 6 0 fJ fI [] [] vs1 a1 n1 c1 [[73,83],[78,79,84],[78,85,76,76]] (by decide) (by decide) (.slice (some ⟨w1.heap.size,0,none⟩) 3 3) g tb L d m V (hw1.below mU) (h8.new mU) ⟨_,_,rfl,by decide,fun _=>⟨_,rfl,by omega,fun e=>by have:=(hw1.O1 _ e).2;omega,K4,fun j t ht=>by
  rw[aB _ _ _ _ _ _ wH]
  match j,ht with
  | 0,ht=>cases ht;rfl
  | 1,ht=>cases ht;rfl
  | 2,ht=>cases ht;rfl⟩⟩ hL h0 jy hd hm)
 have HB1:=hid (hB1.trans (mU.mono hB1.size))
 clear hb1 hB1 HN hw1 h8 mU wH HA iq Iq
 go_wp2_with fail
 try rw[hV]
 refine HNU.out.mono ?_
 rintro e w3 ⟨rfl,h3⟩
 have HQ:=hid (Wrote.new HB1.out h3)
 clear h3 HNU
 go_wp2
 exact bodyPost_ret (v:=.tuple #[]) (by simp[results,Tryz.results134,go_sem]) rfl ⟨rfl,HQ.out⟩
end Go.Proofs.YtfeglkleoijlaaaGreatDoor
