import Derived.Test.YtfeglkleoijlaaaGreatDoorY34
import Derived.Test.YtfeglkleoijlaaaGreatDoorY13
import Derived.Test.YtfeglkleoijlaaaGreatDoorY21
namespace Go.Proofs.YtfeglkleoijlaaaGreatDoor
open Go.RowKit Go.Shelf
set_option linter.unusedSimpArgs false
set_option linter.unusedVariables false
set_option maxRecDepth 20000
set_option maxHeartbeats 8000000
structure GoodS (s:St):Prop where
 sets : ∀x∈s.sets,gW x.e
 wh : ∀x∈s.wh,gW x
 acg : ∀x∈s.on++s.wh,gW x
 gr : ∀x∈s.gr,gW x
 items : ∀i∈s.items,∀x∈i.xs,gW x
 od : ∀x∈s.od,gW x
 lens:s.sets.length≤100∧s.gr.length≤1∧s.on.length+s.wh.length≤1000∧s.items.length≤1000
 names:s.tb.length≤16∧s.jn.length≤16
theorem bT {P:Ex→Prop} {l:List Ex} (h:l.length=0):∀x∈l,P x:=fun x hx=>by
 rw[aaR h] at hx
 cases hx
theorem NP {s:St} (hr:aQ s=true) (hR:vZ s) (hz : ∀e∈oM s,pX e≤5000):GoodS s:=by
 have hk0:=sI hr
 have hsz : ∀e,(e∈s.sets.map (fun x=>x.e)∨e∈s.items.flatMap (fun i=>i.xs)∨e∈s.on∨e∈s.wh∨e∈s.gr∨e∈s.od)→pX e≤1000000:=fun e he=>by
  refine Nat.le_trans (hz e ?_) (by omega)
  unfold oM
  simp only[List.mem_append]
  exact he
 unfold aQ at hr
 simp only[aaC] at hr
 obtain⟨hk,hn,he⟩:=hr
 unfold oF yF at he
 unfold lY at hk
 have htb:=jd hn
 have EW : ∀{x:Ex},dO x=true→aF x=true:=fun h=>by
  unfold dO at h
  simp only[aaC] at h
  exact h.2
 have hset : ∀{x:Se},j6 x=true→aF x.e=true:=fun h=>by
  unfold j6 at h
  simp only[aaC] at h
  exact h.2
 have hit : ∀{x:It},oQ x=true→∀e∈x.xs,aF e=true:=fun {x} h=>by
  unfold oQ at h
  split at h
  ·exact bT (by simpa using h)
  ·split at h
   ·exact aP h
   ·cases h
 have hnn : ∀{P:Se→Prop} {l:List Se},l.length=0→∀x∈l,P x:=fun h x hx=>by rw[aaR h] at hx;cases hx
 have hni : ∀{P:It→Prop} {l:List It},l.length=0→∀x∈l,P x:=fun h x hx=>by rw[aaR h] at hx;cases hx
 have happ:(∀x∈s.on,gW x)→(∀x∈s.wh,gW x)→∀x∈s.on++s.wh,gW x:=fun h1 h2 x hx=>(List.mem_append.1 hx).elim (h1 x) (h2 x)
 have ab9:(∀x∈s.sets,j6 x=true)→∀x∈s.sets,gW x.e:=fun h x hx=>⟨hset (h x hx),(hR.sets x hx).2,hsz _ (.inl (List.mem_map.2 ⟨x,hx,rfl⟩))⟩
 have gwh:(∀x∈s.wh,aF x=true)→∀x∈s.wh,gW x:=fun h x hx=>⟨h x hx,hR.wh x hx,hsz _ (.inr (.inr (.inr (.inl hx))))⟩
 rcases hk0 with e | e | e | e | e | e
 all_goals simp only[e,if_true,if_false,Int.reduceEq,reduceIte,aaI] at he hk
 ·obtain⟨_,_,_,_,h5,h6,h7,h8,h9,h10,h11,h12,_⟩:=he
  exact⟨hnn h6,bT h10,happ (bT h9) (bT h10),bT h11,hni h7,bT h12,⟨by omega,by omega,by omega,by omega⟩,htb,by rw[h8];exact aaV _⟩
 ·obtain⟨_,_,_,_,h5,h6,h7,h8,h9,h10,h11,h12,_⟩:=he
  exact⟨hnn h6,bT h10,happ (bT h9) (bT h10),bT h11,hni h7,bT h12,⟨by omega,by omega,by omega,by omega⟩,htb,by rw[h8];exact aaV _⟩
 ·obtain⟨_,_,_,_,h5,h6,h7,h8,h9,h10,h11,h12,_⟩:=he
  exact⟨hnn h6,bT h10,happ (bT h9) (bT h10),bT h11,hni h7,bT h12,⟨by omega,by omega,by omega,by omega⟩,htb,by rw[h8];exact aaV _⟩
 ·obtain⟨_,_,_,_,h5,h6,h7,h8,h9,h10,h11,h12,_⟩:=he
  simp only[aaC] at hk
  have l1:=bG hk.1
  have l2:=bG hk.2
  have g:=gwh (aP hk.2)
  exact⟨ab9 (aP hk.1),g,happ (bT h9) g,bT h11,hni h7,bT h12,⟨by omega,by omega,by omega,by omega⟩,htb,by rw[h8];exact aaV _⟩
 ·obtain⟨_,_,_,_,h5,h6,h7,h8,h9,h10,h11,h12,_⟩:=he
  have l2:=bG hk
  have g:=gwh (aP hk)
  exact⟨hnn h6,g,happ (bT h9) g,bT h11,hni h7,bT h12,⟨by omega,by omega,by omega,by omega⟩,htb,by rw[h8];exact aaV _⟩
 ·obtain⟨_,_,_,_,h5,h6,_⟩:=he
  unfold yA at hk
  simp only[aaC] at hk
  obtain⟨k1,k2,k3,k4,k5,k6,_⟩:=hk
  have l1:=bG k1
  have l3:=bG k3
  have l4:=bG k4
  have l5:=bG k5
  have l6:=bG k6
  have hj1:gB s.jn≤1:=by unfold gB;split<;>omega
  have hjn:s.jn.length≤16:=by
   unfold oI at k2
   simp only[Bool.or_eq_true,aaI] at k2
   rcases k2 with h | h
   ·rw[h];exact aaV _
   ·exact jd h
  have g:=gwh (aP k4)
  exact⟨hnn h6,g,happ (fun x hx=>⟨aP k3 x hx,hR.on x hx,hsz _ (.inr (.inr (.inl hx)))⟩) g,fun x hx=>⟨EW (aP k5 x hx),hR.gr x hx,hsz _ (.inr (.inr (.inr (.inr (.inl hx)))))⟩,
   fun i hi x hx=>⟨hit (aP k1 i hi) x hx,hR.items i hi x hx,hsz _ (.inr (.inl (List.mem_flatMap.2 ⟨i,hi,hx⟩)))⟩,fun x hx=>⟨EW (aP k6 x hx),hR.od x hx,hsz _ (.inr (.inr (.inr (.inr (.inr hx)))))⟩,⟨by omega,by omega,by omega,by omega⟩,htb,hjn⟩
theorem Rc (s:St):((qg [s]).2=4↔¬aQ s=true):=by
 unfold qg
 rw[if_neg (by simp)]
 by_cases h:aQ s=true
 ·have ha:aR [s] 1 8 aQ=true:=QZ (by simp) (by simp) (fun x hx=>by simp only[List.mem_singleton] at hx;rw[hx];exact h)
  rw[if_pos ha]
  refine ⟨fun e=>?_,fun e=>absurd h e⟩
  unfold tC at e
  split at e
  ·cases e
  ·split at e<;>cases e
 ·rw[if_neg (fun ha=>h (aP ha s (by simp)))]
  exact⟨fun _=>h,fun _=>rfl⟩
theorem P6 {S:Nat→Prop} {W:World} {s:St} {cs:List Value} {g:Nat} (hg:W.heap[g]?=some (.cells cs.toArray 29)) (ht:fD S W s cs):aM 14 fD (fun b=>S b∨b=g) W [s] (.slice (some ⟨g,0,none⟩) 1 1):=by
 have hl:cs.length=14:=by obtain⟨_,_,_,_,_,_,_,_,_,_,_,_,_,_,_,_,_,_,_,_,_,_,_,_,rfl,_⟩:=ht;rfl
 refine ⟨_,1,[cs],rfl,aaF _,by unfold maxLen;omega,⟨rfl,fun j x ds hx hd=>?_⟩,fun _=>⟨g,0,rfl,.inr rfl,fun j ds hd i u hu=>?_⟩⟩
 ·cases j with
  |
   zero =>
   simp only[List.getElem?_cons_zero,abf] at hx hd
   subst hx hd
   exact⟨hl,ht.to (R:=fun _=>False) (ak.refl _ W) (fun b hb _=>⟨id,.inl hb⟩)⟩
  | succ j=>simp at hx
 ·cases j with
  |
   zero =>
   simp only[List.getElem?_cons_zero,abf] at hd
   subst hd
   simp only[Nat.zero_mul,Nat.zero_add]
   rw[cell_of_row _ _ _ _ _ _ hg]
   simpa using hu
  | succ j=>simp at hd
theorem fD.RA {S:Nat→Prop} {w:World} {s:St} {v0 v1 v3 v7 v12 v13:Value} {b1 b2 b3 b4 b5 b6 b7 b8:Option Addr} {m1 m2 m3 m4 m5 m6 m7 m8 d1 d2 d3 d4 d5 d6 d7 d8:Nat}
  (h:fD S w s [v0,v1,.slice b1 m1 d1,v3,.slice b2 m2 d2,.slice b3 m3 d3,.slice b4 m4 d4,v7,.slice b5 m5 d5,.slice b6 m6 d6,.slice b7 m7 d7,.slice b8 m8 d8,v12,v13]):aM 1 Cw S w s.rows (.slice b2 m2 d2):=by
 obtain⟨e1,e2,e3,e4,e5,e6,e7,e8,f1,f2,f3,f4,f5,f6,f7,f8,g1,g2,g3,g4,g5,g6,g7,g8,he,_,h2,_⟩:=h
 simp only[List.cons.injEq,aah,and_true] at he
 obtain⟨_,_,_,_,⟨rfl,rfl,rfl⟩,_⟩:=he
 exact h2
theorem yC (sb mb:Nat) (E:DataW Value) (f:List UInt8→Value) (C:List Tb) (S2:Nat→Prop) (s:St) (sc:List Value) (w:World) (hW:iL w) (hC:iA w sb mb E f C S2) (Vd : ∀u∈C,mR u) (hs:fD (fun b=>b<w.heap.size) w s sc) (hR:vZ s) (hz:aQ s=true→∀e∈oM s,pX e≤5000) :
  Calls Tryz.prog 9 #[.pointer (some ⟨sb,0,none⟩),.agg sc.toArray] w fun e w'=>e = .returned (.int .i64 (l9 C s))∧Below w.heap.size w w':=by
 have hs0:=hs
 obtain⟨b1,b2,b3,b4,b5,b6,b7,b8,m1,m2,m3,m4,m5,m6,m7,m8,d1,d2,d3,d4,d5,d6,d7,d8,rfl,_⟩:=hs
 obtain⟨W,gI,hbW,aJ,hcA,hcB⟩:=two w (.cells #[.int .i64 s.k,.string (aj s.tb),.slice b1 m1 d1,.string (aj s.aD),.slice b2 m2 d2,.slice b3 m3 d3,.slice b4 m4 d4,.string (aj s.jn),.slice b5 m5 d5,.slice b6 m6 d6,.slice b7 m7 d7,.slice b8 m8 d8,.bool s.desc,.int .i64 s.lim] 29) (.cells #[.int .i64 s.k,.string (aj s.tb),.slice b1 m1 d1,.string (aj s.aD),.slice b2 m2 d2,.slice b3 m3 d3,.slice b4 m4 d4,.string (aj s.jn),.slice b5 m5 d5,.slice b6 m6 d6,.slice b7 m7 d7,.slice b8 m8 d8,.bool s.desc,.int .i64 s.lim] 29)
 have kA:=au hcA
 have hsW:fD (fun b=>b<w.heap.size) W s [.int .i64 s.k,.string (aj s.tb),.slice b1 m1 d1,.string (aj s.aD),.slice b2 m2 d2,.slice b3 m3 d3,.slice b4 m4 d4,.string (aj s.jn),.slice b5 m5 d5,.slice b6 m6 d6,.slice b7 m7 d7,.slice b8 m8 d8,.bool s.desc,.int .i64 s.lim]:=hs0.to (R:=fun _=>False) (ak.aA hbW) (fun b hb _=>⟨id,hb⟩)
 have HP:=hid (vN (fun b=>b<w.heap.size∨b=w.heap.size+1) [s] _ W (hW.on hbW) (fun x hx=>by simp only[List.mem_singleton] at hx;rw[hx];exact hR) (P6 hcB hsW) (fun _ x hx=>by simp only[List.mem_singleton] at hx;rw[hx];exact hz))
 have hso:=Rc s
 obtain⟨⟨st,sco⟩,hsc⟩:∃R,qg [s]=R:=⟨_,rfl⟩
 rw[hsc] at HP hso
 dsimp only at HP hso
 have jJ:=hid hs0
 have HB:=hid hbW
 have dw:=hid hcA
 have HW:=hid hW
 have HC:=hid hC
 have HKC:=hid Vd
 obtain⟨rr,hrr⟩:∃r,l9 C s=r:=⟨_,rfl⟩
 rw[hrr]
 have HRR:=hid hrr
 have HR:=hid hR
 unfold l9 at hrr
 by_cases hrs:aQ s=true
 ·rw[if_pos hrs] at hrr
  have h4:(sco==4)=false:=by rw[aai];exact fun e=>hso.1 e hrs
  have HG:=hid (NP hrs hR (hz hrs))
  have HNB:=hid HG.out.names
  have KZ:=hid hrr
  clear hbW hcA hcB hsW hs0 hso hsc hW hC Vd hR hz hrs hrr HRR
  go_enter Tryz.func9,Tryz.ntmps9
  go_wp2_with fail
  try rw[gI]
  refine HP.out.mono ?_
  rintro e w1 ⟨rfl,hb1⟩
  have hB1:=HB.out.trans (hb1.mono HB.out.size)
  have HB1:=hid hB1
  have Ub:=hid ((hb1.block w.heap.size (by omega)).trans dw.out)
  have kA:=au Ub.out
  have HF:=hid (zH sb mb E f C S2 s.tb w1 (HC.out.new hB1) (by have:=HNB.out.1;unfold maxLen;omega))
  have hs1:=hb1.size
  obtain⟨th,hth⟩:∃b,decide (s.tb∈C.map Tb.nm)=b:=⟨_,rfl⟩
  rw[hth] at HF
  have Vg:=hid hth
  clear hb1 hB1 HP dw hth
  go_wp2_with fail
  refine HF.out.mono ?_
  rintro e w2 ⟨ds,rfl,hto,hb2⟩
  obtain⟨u,hu⟩:∃u,fC C s.tb=u:=⟨_,rfl⟩
  rw[hu] at hto
  have hte:=hto.e
  obtain⟨a2,n2,c2,rfl,_⟩:=hto
  obtain⟨Y,hY,bV,kL,dJ⟩:=aK w2 (.cells #[.string (aj u.nm),.slice a2 n2 c2,.int .i64 u.pr] 42)
  have hB2:=HB1.out.trans (hb2.mono HB1.out.size)
  have bZ:=hid (hB2.trans (bV.mono hB2.size))
  have HT3:=hid dJ
  have hs2:=hb2.size
  have aal:=hid ((bV.block w.heap.size (by omega)).trans ((hb2.block w.heap.size (by omega)).trans Ub.out))
  have kS:=au aal.out
  have kT:=aH HT3.out
  have Ho:Hid (fG (fun b=>b<Y.heap.size) Y u [.string (aj u.nm),.slice a2 n2 c2,.int .i64 u.pr]):=hid (hte.to (R:=fun _=>False) (ak.aA bV) (fun b hb hlt=>⟨id,by show b<Y.heap.size;omega⟩))
  have XT:Hid (fD (fun b=>b<Y.heap.size) Y s [.int .i64 s.k,.string (aj s.tb),.slice b1 m1 d1,.string (aj s.aD),.slice b2 m2 d2,.slice b3 m3 d3,.slice b4 m4 d4,.string (aj s.jn),.slice b5 m5 d5,.slice b6 m6 d6,.slice b7 m7 d7,.slice b8 m8 d8,.bool s.desc,.int .i64 s.lim]):=hid (jJ.out.to (R:=fun _=>False) (ak.aA bZ.out) (fun b hb hlt=>⟨id,by show b<Y.heap.size;have:b<w.heap.size:=hb;omega⟩))
  have HU:=hid hu
  have hin:Hid (s.tb∈C.map Tb.nm→mR u):=hid (fun h=>by
   obtain⟨x,hx,e⟩:=List.mem_map.1 h
   rw[← hu]
   refine HKC.out _ ?_
   unfold fC
   cases hq:C.find? fun t=>decide (t.nm=s.tb) with
   |
    none =>
    have:=List.find?_eq_none.1 hq x hx
    simp[e] at this
   | some y=>exact List.mem_of_find?_eq_some hq)
  have F8:Hid ((if s.k=1 then (if (bU s).2=0∧s.tb∈C.map Tb.nm then 13 else (bU s).2) else if s.tb ∉ C.map Tb.nm then 11 else if s.k=3 then oh u s.rows else if s.k=4 then Je u s else if s.k=5 then fE [u] s.wh else if s.k=6 then mP C u s else 0)=rr):=hid (by rw[← hu];exact KZ.out)
  clear hb2 bV dJ hte hB2 HF kA Ub KZ hu
  by_cases e1:s.k=1
  ·have Fw:=hid e1
   have k1b:(s.k==1)=true:=by rw[e1];rfl
   have p9:=hid (Dh (fun b=>b<Y.heap.size) s _ th Y (HW.out.on bZ.out) HR.out XT.out)
   obtain⟨mc,hmc⟩:∃m,(bU s).2=m:=⟨_,rfl⟩
   rw[hmc] at p9
   have UA:=hid hmc
   clear hmc e1
   go_wp2_with (first | (refine eX hY ?_;clear hY) | fail)
   refine p9.out.mono ?_
   rintro e w3 ⟨rfl,hb3⟩
   have HB3:=htr bZ hb3
   clear hb3 p9
   go_wp2_with fail
   go_ret
   refine ⟨congrArg (fun x=>Ending.returned (Value.int .i64 x)) (show wm mc th=rr from ?_),HB3.out⟩
   rw[← F8.out,if_pos Fw.out,UA.out]
   unfold wm
   have hq:=Vg.out
   cases th with
   |
    true =>
    by_cases hm:mc=0
    ·rw[if_pos ⟨hm,rfl⟩,if_pos ⟨hm,of_decide_eq_true hq⟩]
    ·rw[if_neg (fun h=>hm h.1),if_neg (fun h=>hm h.1)]
   | false=>rw[if_neg (fun h=>by cases h.2),if_neg (fun h=>(of_decide_eq_false hq) h.2)]
  ·have Fw:=hid e1
   have k1b:(s.k==1)=false:=by rw[aai];exact e1
   cases th with
   |
    false =>
    have HNI:Hid (s.tb ∉ C.map Tb.nm):=hid (of_decide_eq_false Vg.out)
    clear e1
    go_wp2_with (first | (refine eX hY ?_;clear hY) | fail)
    go_ret
    exact⟨congrArg (fun x=>Ending.returned (Value.int .i64 x)) (show 11=rr from by rw[← F8.out,if_neg Fw.out,if_pos HNI.out]),bZ.out⟩
   |
    true =>
    have CB:Hid (s.tb∈C.map Tb.nm):=hid (of_decide_eq_true Vg.out)
    have HK:=hid (hin.out CB.out)
    by_cases e3:s.k=3
    ·have HE:=hid e3
     have k3b:(s.k==3)=true:=by rw[e3];rfl
     have p9:=hid (E9 (fun b=>b<Y.heap.size) (fun b=>b<Y.heap.size) u s.rows (.slice b2 m2 d2) _ Y (fD.RA XT.out) Ho.out HK.out)
     obtain⟨mc,hmc⟩:∃m,oh u s.rows=m:=⟨_,rfl⟩
     rw[hmc] at p9
     have UA:=hid hmc
     clear hmc e1 e3
     go_wp2_with (first | (refine eX hY ?_;clear hY) | fail)
     refine p9.out.mono ?_
     rintro e w3 ⟨rfl,hb3⟩
     have HB3:=htr bZ hb3
     clear hb3 p9
     go_wp2_with fail
     go_ret
     exact⟨congrArg (fun x=>Ending.returned (Value.int .i64 x)) (show mc=rr from by rw[← F8.out,if_neg Fw.out,if_neg (fun h=>h CB.out),if_pos HE.out,UA.out]),HB3.out⟩
    ·have Vr:=hid e3
     have k3b:(s.k==3)=false:=by rw[aai];exact e3
     by_cases e4:s.k=4
     ·have HE:=hid e4
      have k4b:(s.k==4)=true:=by rw[e4];rfl
      have p9:=hid (Gy u s _ _ Y (HW.out.on bZ.out) Ho.out HK.out XT.out HG.out.sets HG.out.wh HG.out.lens.1)
      obtain⟨mc,hmc⟩:∃m,Je u s=m:=⟨_,rfl⟩
      rw[hmc] at p9
      have UA:=hid hmc
      clear hmc e1 e3 e4
      go_wp2_with (first | (refine eX hY ?_;clear hY) | fail)
      refine p9.out.mono ?_
      rintro e w3 ⟨rfl,hb3⟩
      have HB3:=htr bZ hb3
      clear hb3 p9
      go_wp2_with fail
      go_ret
      exact⟨congrArg (fun x=>Ending.returned (Value.int .i64 x)) (show mc=rr from by rw[← F8.out,if_neg Fw.out,if_neg (fun h=>h CB.out),if_neg Vr.out,if_pos HE.out,UA.out]),HB3.out⟩
     ·have HE4:=hid e4
      have k4b:(s.k==4)=false:=by rw[aai];exact e4
      by_cases e5:s.k=5
      ·have HE:=hid e5
       have k5b:(s.k==5)=true:=by rw[e5];rfl
       clear e1 e3 e4 e5
       go_wp2_with (first | (refine eX hY ?_;clear hY) | fail)
       have RY:=hid kS.2.2.2.2.2.2.2.2.2.1
       have HWT:=hid (HW.out.on bZ.out)
       have DC:=hid (fD.slices XT.out).2.2.1
       have Vm:=hid Ho.out
       have KX:=hid HK.out
       have HGW:=hid HG.out.wh
       clear kS kT
       have Oh:Hid (∀V,Below Y.heap.size Y V→V.cell? ⟨w.heap.size,9,none⟩=some (.slice b6 m6 d6)∧V.cell? ⟨w2.heap.size,0,none⟩=some (.string (aj u.nm))∧(V.cell? ⟨w2.heap.size,1,none⟩=some (.slice a2 n2 c2)∧V.cell? ⟨w2.heap.size,2,none⟩=some (.int .i64 u.pr))):=hid (fun V hV=>by
        have q:=aH ((hV.block w2.heap.size (World.lt_of_block HT3.out)).trans HT3.out)
        exact⟨(hV.cell (p:=⟨w.heap.size,9,none⟩) (World.block_lt_of_cell? _ _ RY.out)).trans RY.out,q.1,q.2.1,q.2.2.1⟩)
       have hS0:=Oh.out Y.drew (Below.refl _ Y).drew
       refine dG (fun V:World=>V.cell? ⟨w.heap.size,9,none⟩=some (.slice b6 m6 d6)∧V.cell? ⟨w2.heap.size,0,none⟩=some (.string (aj u.nm))∧(V.cell? ⟨w2.heap.size,1,none⟩=some (.slice a2 n2 c2)∧V.cell? ⟨w2.heap.size,2,none⟩=some (.int .i64 u.pr))) [] (by kernel_rfl) ?_
       refine fF (i:=0) rfl (by assumption) ?_
       refine fF (i:=1) rfl (by assumption) ?_
       refine fF (i:=2) rfl (by assumption) ?_
       obtain⟨Y4,Sn,abM,aae,abD⟩:=aK Y.drew (.cells #[.string (aj u.nm),.slice a2 n2 c2,.int .i64 u.pr] 42)
       have M7:Below Y.heap.size Y Y4:=((Below.refl _ Y).drew).trans abM
       refine bH (i:=3) (by kernel_rfl) rfl rfl (aW (ql rfl (by rfl) _) ?_)
       rw[Sn]
       refine ⟨.inl (Oh.out Y4 M7),?_⟩
       simp only[Act.put,aas,aap,aaq,aag,aaw,aay]
       refine dM (i:=4) #[.slice (some ⟨Y.drew.heap.size,0,none⟩) 1 1] (fun v W=>v = .func (.func 58) #[] #[.pointer (some ⟨Y4.heap.size,0,none⟩)]∧W.heap[Y4.heap.size]?=some (.cells #[.slice (some ⟨Y.drew.heap.size,0,none⟩) 1 1] 22)∧Below Y4.heap.size Y4 W) (by kernel_rfl) rfl rfl rfl (by kernel_rfl) (enters_of Tryz.func24 (by kernel_rfl) rfl) ((yD _ _ _ Y4).mono (fun e W h=>⟨_,h.1,rfl,h.2.1,h.2.2⟩)) ?_
       rintro _ Z ⟨rfl,wB,o8⟩
       have jo:Below Y.heap.size Y Z:=M7.trans (o8.mono M7.size)
       refine ⟨Oh.out Z jo,?_⟩
       simp only[Act.put,aas,aap,aaq,aag,aaw,aay]
       have hTZ:=Vm.out.on jo
       have hcT:Z.heap[Y.drew.heap.size]?=some (.cells #[.string (aj u.nm),.slice a2 n2 c2,.int .i64 u.pr] 42):=(o8.block _ aae).trans abD
       refine dM (i:=5) #[.slice b6 m6 d6,.func (.func 58) #[] #[.pointer (some ⟨Y4.heap.size,0,none⟩)]] (fun v W=>v = .int .i64 (fE [u] s.wh)∧Below Z.heap.size Z W) (by kernel_rfl) rfl rfl rfl (by kernel_rfl) (enters_of Tryz.func23 (by kernel_rfl) rfl)
        ((tZ _ _ [u] s.wh _ _ Y4.heap.size Z (HWT.out.on jo) HGW.out (DC.out.to (by decide) (R:=fun _=>False) (ak.aA jo) (fun b hb _=>⟨id,hb⟩) (fun _ _ e=>e.to (R:=fun _=>False) (ak.aA jo) (fun b hb _=>⟨id,hb⟩))) (by rw[aB _ _ _ _ _ _ wB];rfl) (World.lt_of_block wB) (mX hcT hTZ) (fun t' ht'=>by simp only[List.mem_singleton] at ht';rw[ht'];exact KX.out) (by simp)).mono (fun e W h=>⟨_,h.1,rfl,h.2⟩)) ?_
       rintro _ wF ⟨rfl,RD⟩
       have zF:Below Y.heap.size Y wF:=jo.trans (RD.mono jo.size)
       refine ⟨Oh.out wF zF,?_⟩
       simp only[Act.put,aas,aap,aaq,aag,aaw,aay]
       refine fF (i:=6) rfl (Oh.out wF zF) ?_
       refine bN (by kernel_rfl) ?_ _
       show Only _ .normal _ _
       unfold Only
       clear hS0
       go_wp2
       go_ret
       exact⟨congrArg (fun x=>Ending.returned (Value.int .i64 x)) (show fE [u] s.wh=rr from by rw[← F8.out,if_neg Fw.out,if_neg (fun h=>h CB.out),if_neg Vr.out,if_neg HE4.out,if_pos HE.out]),bZ.out.trans (zF.mono bZ.out.size)⟩
      ·have HE5:=hid e5
       have k5b:(s.k==5)=false:=by rw[aai];exact e5
       by_cases e6:s.k=6
       ·have HE:=hid e6
        have k6b:(s.k==6)=true:=by rw[e6];rfl
        have p9:=hid (CX sb mb E f C S2 u s _ _ Y (HW.out.on bZ.out) (HC.out.new bZ.out) Ho.out HK.out HKC.out XT.out HG.out.acg HG.out.gr HG.out.items HG.out.od HG.out.lens.2.1 HG.out.lens.2.2.1 HG.out.lens.2.2.2 (by have:=HNB.out.2;unfold maxLen;omega))
        obtain⟨mc,hmc⟩:∃m,mP C u s=m:=⟨_,rfl⟩
        rw[hmc] at p9
        have UA:=hid hmc
        clear hmc e1 e3 e4 e5 e6
        go_wp2_with (first | (refine eX hY ?_;clear hY) | fail)
        refine p9.out.mono ?_
        rintro e w3 ⟨rfl,hb3⟩
        have HB3:=htr bZ hb3
        clear hb3 p9
        go_wp2_with fail
        go_ret
        exact⟨congrArg (fun x=>Ending.returned (Value.int .i64 x)) (show mc=rr from by rw[← F8.out,if_neg Fw.out,if_neg (fun h=>h CB.out),if_neg Vr.out,if_neg HE4.out,if_neg HE5.out,if_pos HE.out,UA.out]),HB3.out⟩
       ·have HE6:=hid e6
        have k6b:(s.k==6)=false:=by rw[aai];exact e6
        clear e1 e3 e4 e5 e6
        go_wp2_with (first | (refine eX hY ?_;clear hY) | fail)
        go_ret
        exact⟨congrArg (fun x=>Ending.returned (Value.int .i64 x)) (show 0=rr from by rw[← F8.out,if_neg Fw.out,if_neg (fun h=>h CB.out),if_neg Vr.out,if_neg HE4.out,if_neg HE5.out,if_neg HE6.out]),bZ.out⟩
 ·rw[if_neg hrs] at hrr
  have h4:(sco==4)=true:=by rw[beq_iff_eq];exact hso.2 hrs
  have HQ:=hid hrr
  clear hbW hcA hcB hsW hs0 hso hsc hW hC Vd hR hz hrs hrr HRR
  go_enter Tryz.func9,Tryz.ntmps9
  go_wp2_with fail
  try rw[gI]
  refine HP.out.mono ?_
  rintro e w1 ⟨rfl,hb1⟩
  have HB1:=htr HB hb1
  clear hb1 HP
  go_wp2_with fail
  go_ret
  exact⟨congrArg (fun x=>Ending.returned (Value.int .i64 x)) (show 4=rr from HQ.out),HB1.out⟩
def VU:Tb:=⟨[116],[⟨[105,100],1,true,true⟩,⟨[110],1,false,false⟩,⟨[115],2,false,false⟩],0⟩
def Yz:Tb:=⟨[117],[⟨[105,100],1,true,true⟩,⟨[107],2,false,false⟩],0⟩
def iw:List Tb:=[VU,Yz]
theorem wJ : ∀t∈iw,mR t:=fun t ht=>by
 simp only[iw,abg,List.not_mem_nil,or_false] at ht
 rcases ht with rfl | rfl
 ·refine ⟨by decide,by decide,by decide,fun c hc=>?_⟩
  simp only[VU,abg,List.not_mem_nil,or_false] at hc
  rcases hc with rfl | rfl | rfl<;>exact⟨by decide,by decide⟩
 ·refine ⟨by decide,by decide,by decide,fun c hc=>?_⟩
  simp only[Yz,abg,List.not_mem_nil,or_false] at hc
  rcases hc with rfl | rfl<;>exact⟨by decide,by decide⟩
theorem tH (w:World):Calls Tryz.prog 8 #[] w fun e w'=>∃(a:Option Addr) (c:Nat) (css:List (List Value)),e = .returned (.slice a 2 c)∧w'.ownsRow w.heap.size 42 3 (.slice a 2 c) 2 css.flatten∧lH 3 fG (fun b=>w.heap.size≤b) w' iw css∧(Value.slice a 2 c).ownBlock=some (w.heap.size+2)∧lH 3 fG (fun b=>w.heap.size≤b∧b<w.heap.size+2) w' iw css∧w'.heap.size=w.heap.size+3∧Below w.heap.size w w':=by
 obtain⟨W,gI,hbW,aJ,hcA,hcB,hcC⟩:=Gu w (.cells #[.string ⟨#[105,100]⟩,.int .i64 1,.bool true,.bool true,.string ⟨#[110]⟩,.int .i64 1,.bool false,.bool false,.string ⟨#[115]⟩,.int .i64 2,.bool false,.bool false] 60) (.cells #[.string ⟨#[105,100]⟩,.int .i64 1,.bool true,.bool true,.string ⟨#[107]⟩,.int .i64 2,.bool false,.bool false] 60) (.cells #[.string ⟨#[116]⟩,.slice (some ⟨w.heap.size,0,none⟩) 3 3,.int .i64 0,.string ⟨#[117]⟩,.slice (some ⟨w.heap.size+1,0,none⟩) 2 2,.int .i64 0] 42)
 have Rn:W.ownsRow w.heap.size 60 4 (.slice (some ⟨w.heap.size,0,none⟩) 3 3) VU.aC.length (fO VU.aC):=⟨by rfl,.inr ⟨w.heap.size,3,_,rfl,aaF _,hcA,by decide,by unfold maxLen;omega,rfl,rfl⟩⟩
 have hoB:W.ownsRow w.heap.size 60 4 (.slice (some ⟨w.heap.size+1,0,none⟩) 2 2) Yz.aC.length (fO Yz.aC):=⟨by rfl,.inr ⟨w.heap.size+1,2,_,rfl,by omega,hcB,by decide,by unfold maxLen;omega,rfl,rfl⟩⟩
 have hE : ∀(S:Nat→Prop),S w.heap.size→S (w.heap.size+1)→lH 3 fG S W iw [[.string ⟨#[116]⟩,.slice (some ⟨w.heap.size,0,none⟩) 3 3,.int .i64 0],[.string ⟨#[117]⟩,.slice (some ⟨w.heap.size+1,0,none⟩) 2 2,.int .i64 0]]:=fun S h0 h1=>⟨rfl,fun j x cs hx hc=>by
  match j,hx,hc with
  |
   0,hx,hc =>
   simp only[iw,List.getElem?_cons_zero,abf] at hx hc
   subst hx hc
   exact⟨rfl,_,_,_,rfl,aM.iM (by decide) Rn (wz _ _ _) (fun b hb=>by injection hb with hb;rw[← hb];exact h0)⟩
  |
   1,hx,hc =>
   simp only[iw,List.getElem?_cons_zero,List.getElem?_cons_succ,abf] at hx hc
   subst hx hc
   exact⟨rfl,_,_,_,rfl,aM.iM (by decide) hoB (wz _ _ _) (fun b hb=>by injection hb with hb;rw[← hb];exact h1)⟩
  | j+2,hx,_=>simp[iw] at hx⟩
 have hoC:W.ownsRow w.heap.size 42 3 (.slice (some ⟨w.heap.size+2,0,none⟩) 2 2) 2 ([[.string ⟨#[116]⟩,.slice (some ⟨w.heap.size,0,none⟩) 3 3,.int .i64 0],[.string ⟨#[117]⟩,.slice (some ⟨w.heap.size+1,0,none⟩) 2 2,.int .i64 0]]:List (List Value)).flatten:=⟨by rfl,.inr ⟨w.heap.size+2,2,_,rfl,by omega,hcC,by decide,by unfold maxLen;omega,rfl,rfl⟩⟩
 have HO:=hid hoC
 have HE:=hid hE
 have HB:=hid hbW
 clear Rn hoB hoC hE hbW hcA hcB hcC
 go_enter Tryz.func8,Tryz.ntmps8
 go_wp2_with fail
 try rw[gI]
 go_ret
 exact⟨_,_,_,rfl,HO.out,HE.out _ (aaF _) (by omega),rfl,HE.out _ ⟨aaF _,by omega⟩ ⟨by omega,by omega⟩,aJ,HB.out⟩
abbrev colE (tb nm:ByteArray):Array Value:=#[.int .i64 2,.int .i64 0,.string tb,.string nm,.int .i64 0,.int .i64 0,.string ⟨#[]⟩,.slice none 0 0]
theorem lQ (tb nm:ByteArray) (w:World):Calls Tryz.prog 13 #[.string tb,.string nm] w fun e w'=>e = .returned (.agg (colE tb nm))∧Below w.heap.size w w':=by
 obtain⟨W,gI,hbW,aJ,hcW⟩:=aK w (.cells (colE tb nm) 48)
 have k0:=aG hcW
 have HB:=hid hbW
 clear hbW hcW
 go_enter Tryz.func13,Tryz.ntmps13
 go_wp2_with (first | (refine eX gI ?_;clear gI) | fail)
 exact bodyPost_ret (v:=.agg (colE tb nm)) (by simp[results,Tryz.results13,go_sem,k0]) rfl ⟨rfl,HB.out⟩
theorem abR : ∀n:Int,0≤n→n<2 ^ 62→IntKind.i64.wrap n=n:=by
 intro n h0 h1
 rw[IntKind.wrap_i64]
 simp only[Int.reducePow] at h1
 omega
def jK:Nat→Ex→Bool
 | 0,_=>false
 | d+1,.mk _ _ tb nm v xs=>decide (xs.length≤3)&&(decide (tb.length≤4096)&&(decide (nm.length≤4096)&&(decide (v.s.length≤4096)&&xs.all (jK d))))
theorem qO : ∀(d:Nat) (t:Tm),t.ok→jK d t.ex=true→t.sz+1≤2 ^ d
 | 0,t,_,h=>by cases h
 |
  d+1,.val v,_,h=>by
  show 1+1≤2 ^ (d+1)
  have:=Nat.one_le_two_pow (n:=d)
  omega
 |
  d+1,.col _ _,_,h=>by
  show 1+1≤2 ^ (d+1)
  have:=Nat.one_le_two_pow (n:=d)
  omega
 |
  d+1,.op o a b,hok,h=>by
  have h':jK (d+1) (.mk 3 o [] [] zV [a.ex,b.ex])=true:=h
  simp only[jK,aaC,List.all_cons,List.all_nil,Bool.and_true] at h'
  have h1:=qO d a hok.2.2.1 h'.2.2.2.2.1
  have h2:=qO d b hok.2.2.2 h'.2.2.2.2.2
  show a.sz+b.sz+1+1≤2 ^ (d+1)
  omega
 |
  d+1,.not a,hok,h=>by
  have h':jK (d+1) (.mk 4 0 [] [] zV [a.ex])=true:=h
  simp only[jK,aaC,List.all_cons,List.all_nil,Bool.and_true] at h'
  have h1:=qO d a hok.2 h'.2.2.2.2
  have:=Nat.one_le_two_pow (n:=d)
  show a.sz+1+1≤2 ^ (d+1)
  omega
 |
  d+1,.neg a,hok,h=>by
  have h':jK (d+1) (.mk 5 0 [] [] zV [a.ex])=true:=h
  simp only[jK,aaC,List.all_cons,List.all_nil,Bool.and_true] at h'
  have h1:=qO d a hok h'.2.2.2.2
  have:=Nat.one_le_two_pow (n:=d)
  show a.sz+1+1≤2 ^ (d+1)
  omega
 |
  d+1,.zZ a,hok,h=>by
  have h':jK (d+1) (.mk 6 0 [] [] zV [a.ex])=true:=h
  simp only[jK,aaC,List.all_cons,List.all_nil,Bool.and_true] at h'
  have h1:=qO d a hok h'.2.2.2.2
  have:=Nat.one_le_two_pow (n:=d)
  show a.sz+1+1≤2 ^ (d+1)
  omega
 |
  1,.ny a,hok,h=>by
  have h':jK 1 (.mk 4 0 [] [] zV [.mk 6 0 [] [] zV [a.ex]])=true:=h
  simp[jK] at h'
 |
  d+2,.ny a,hok,h=>by
  have h':jK (d+2) (.mk 4 0 [] [] zV [.mk 6 0 [] [] zV [a.ex]])=true:=h
  simp only[jK,aaC,List.all_cons,List.all_nil,Bool.and_true] at h'
  have h1:=qO d a hok h'.2.2.2.2.2.2.2.2
  have:=Nat.one_le_two_pow (n:=d)
  have e:2 ^ (d+2)=4*2 ^ d:=by rw[Nat.pow_add];omega
  show a.sz+2+1≤2 ^ (d+2)
  omega
theorem pJ {x:Ex} (h:aF x=true) (hf:jK 12 x=true):pX x≤5000:=by
 obtain⟨h1,h2⟩:=tq h
 rw[← h2] at hf
 have:=qO 12 _ h1 hf
 unfold pX
 omega
theorem gX {α:Type} (p:α→Bool) {xs:List α} {k:Nat} {x:α} (hx:xs[k]?=some x):(xs.take (k+1)).all p=((xs.take k).all p&&p x):=by
 obtain⟨h1,h2⟩:=aam.1 hx
 rw[aaJ h1,h2,List.all_append]
 simp
theorem yO {α:Type} (p:α→Bool) {xs:List α} {k n:Nat} {x:α} (hx:xs[k]?=some x) (hk:k<n) (hp:p x=false):(xs.take n).all p=false:=by
 rw[Bool.eq_false_iff]
 intro h
 have hm:x∈xs.take n:=by
  obtain⟨h1,h2⟩:=aam.1 hx
  rw[← h2]
  exact aaP (i:=k) (by rw[List.getElem?_take,if_pos hk];exact aaf h1)
 have:=List.all_eq_true.1 h x hm
 rw[hp] at this
 cases this
theorem Pz (S:Nat→Prop):∀(d:Nat) (x:Ex) (v:Value) (w:World),d≤100→mO x→gH S w x v→Calls Tryz.prog 14 #[v,.int .i64 d] w fun e w'=>e = .returned (.bool (jK d x))∧Below w.heap.size w w':=by
 intro d
 induction d with
 |
  zero =>
  intro x v w hd hR hx
  obtain⟨k,op,tb,nm,vk,vn,vs,ys,aa,nn,cc,rfl,rfl,ha⟩:=hx
  obtain⟨W,hW,hbW,aJ,hcW⟩:=aK w (.cells #[.int .i64 k,.int .i64 op,.string (aj tb),.string (aj nm),.int .i64 vk,.int .i64 vn,.string (aj vs),.slice aa nn cc] 48)
  have k0:=aG hcW
  have HB:=hid hbW
  clear hbW hcW ha hR
  show Calls Tryz.prog 14 _ w fun e w'=>e = .returned (.bool false)∧_
  go_enter Tryz.func14,Tryz.ntmps14
  go_wp2
  go_ret
  exact⟨rfl,HB.out⟩
 |
  succ d ih =>
  intro x v w hd hR hx
  obtain⟨k,op,tb,nm,vk,vn,vs,ys,aa,nn,cc,rfl,rfl,ha⟩:=hx
  obtain⟨W,hW,hbW,aJ,hcW⟩:=aK w (.cells #[.int .i64 k,.int .i64 op,.string (aj tb),.string (aj nm),.int .i64 vk,.int .i64 vn,.string (aj vs),.slice aa nn cc] 48)
  have hsl:=eZ ha
  have HV:=hid (hsl.to (T:=S) (by decide) (R:=fun _=>False) (ak.aA hbW) (fun b hb _=>⟨id,hb⟩) (fun _ _ e=>e.to (R:=fun _=>False) (ak.aA hbW) (fun b hb _=>⟨id,hb⟩)))
  obtain⟨a',c',css,hv,h1,h2,_⟩:=hsl
  simp only[aah] at hv
  obtain⟨rfl,rfl,rfl⟩:=hv
  unfold maxLen at h2
  have hRy : ∀y∈ys,mO y:=by cases hR with | mk _ _ _ _ _ _ _ _ _ _ _ hx=>exact hx
  have k0:=aG hcW
  have dI:=hid hcW
  have HB:=hid hbW
  have zt:(aj tb).size=tb.length:=rfl
  have zn:(aj nm).size=nm.length:=rfl
  have zv:(aj vs).size=vs.length:=rfl
  have hd1:((((d+1:Nat):Int))==0)=false:=by
   rw[aai]
   omega
  have jy:IntKind.i64.wrap (((d+1:Nat):Int)-1)=(d:Int):=by
   have e:((d+1:Nat):Int)-1=(d:Int):=by omega
   rw[e]
   exact abR _ (by omega) (by simp only[Int.reducePow];omega)
  have HI:=hid (fun y (hy:y∈ys) u V (hV:gH S V y u)=>ih y u V (by omega) (hRy y hy) hV)
  clear ih hR hRy ha hbW hcW
  generalize (((d+1:Nat):Int))=D at hd1 jy ⊢
  show Calls Tryz.prog 14 _ w fun e w'=>e = .returned (.bool (decide (ys.length≤3)&&(decide (tb.length≤4096)&&(decide (nm.length≤4096)&&(decide (vs.length≤4096)&&ys.all (jK d))))))∧_
  by_cases c1:ys.length≤3
  ·rw[aar c1,aaA]
   have c1' : ¬((3:Int)<(ys.length:Int)):=by omega
   by_cases c2:tb.length≤4096
   ·rw[aar c2,aaA]
    have c2' : ¬((4096:Int)<((aj tb).size:Int)):=by rw[zt];omega
    by_cases c3:nm.length≤4096
    ·rw[aar c3,aaA]
     have c3' : ¬((4096:Int)<((aj nm).size:Int)):=by rw[zn];omega
     by_cases c4:vs.length≤4096
     ·rw[aar c4,aaA]
      have c4' : ¬((4096:Int)<((aj vs).size:Int)):=by rw[zv];omega
      clear zt zn zv c2 c3 c4
      obtain⟨X,hX⟩:∃X,ys.all (jK d)=X:=⟨_,rfl⟩
      rw[hX]
      have HX:=hid hX
      clear hX
      go_enter Tryz.func14,Tryz.ntmps14
      go_wp2_with fail
      go_loopw [5,6] (fun i _ wr=>∃(j:Nat),j≤ys.length∧i = .int .i64 j∧Below W.heap.size W wr∧Hid ((ys.take j).all (jK d)=true)) (fun i _ _=>ys.length-(intOf i).toNat)
      case atStart=>exact⟨0,aaV _,rfl,Below.refl _ _,hid rfl⟩
      case round =>
       obtain⟨j,hj,rfl,hbel,HK⟩:=hrel
       have kW:=aG ((hbel.block w.heap.size aJ).trans dI.out)
       by_cases hlt:j<ys.length
       ·obtain⟨y,hy⟩:∃y,ys[j]?=some y:=⟨_,aaf hlt⟩
        have hlt':((j:Int)<(ys.length:Int)):=by omega
        obtain⟨_,_,_,b,off,cs,rfl,_,hel,hcell⟩:=bC (HV.out.to (T:=S) (by decide) (R:=fun _=>False) (ak.aA hbel) (fun b hb _=>⟨id,hb⟩) (fun _ _ e=>e.to (R:=fun _=>False) (ak.aA hbel) (fun b hb _=>⟨id,hb⟩))) hy
        have HC:=hid (HI.out y (aaP hy) _ wr hel.v)
        have HT:=hid (gX (jK d) hy)
        have HFL:=hid (fun hp=>yO (jK d) (n:=ys.length) hy hlt hp)
        obtain⟨k1,op1,dN,fU,fJ,fI,vs1,ys1,eD,dF,eB,_,rfl,_⟩:=hel
        have q0:=hcell 0 _ rfl
        have q1:=hcell 1 _ rfl
        have q2:=hcell 2 _ rfl
        have q3:=hcell 3 _ rfl
        have q4:=hcell 4 _ rfl
        have q5:=hcell 5 _ rfl
        have q6:=hcell 6 _ rfl
        have q7:=hcell 7 _ rfl
        simp only[aa2] at q0
        have nZ:=hid hbel
        clear hbel hcell hy
        cases hp:jK d y with
        |
         true =>
         rw[hp] at HC HT
         have mE:Hid ((ys.take (j+1)).all (jK d)=true):=hid (by rw[HT.out,HK.out];rfl)
         clear HK hp HT HFL
         go_wp2_with fail
         refine HC.out.mono ?_
         rintro e w2 ⟨rfl,hb2⟩
         have HB2:=htr nZ hb2
         clear hb2 HC
         go_wp2
         go_roundw
         case rel=>exact⟨j+1,by omega,by go_num,HB2.out,mE⟩
         case measure=>simp[intOf];omega
        |
         false =>
         rw[hp] at HC
         have bE:Hid (X=false):=hid (by
          rw[← HX.out]
          have:=HFL.out hp
          rw[aaU (aaF _)] at this
          exact this)
         clear HK hp HT HFL
         go_wp2_with fail
         refine HC.out.mono ?_
         rintro e w2 ⟨rfl,hb2⟩
         have HB2:Hid (Below w.heap.size w w2):=hid (HB.out.trans ((nZ.out.trans (hb2.mono nZ.out.size)).mono HB.out.size))
         clear hb2 HC
         go_wp2
         go_ret
         exact⟨by rw[bE.out];rfl,HB2.out⟩
       ·have hlt' : ¬((j:Int)<(ys.length:Int)):=by omega
        have dz:Hid (X=true):=hid (by rw[← HX.out];have:=HK.out;rw[aaU (by omega)] at this;exact this)
        have HB2:=htr HB hbel
        clear hbel HK
        go_wp2
        go_ret
        exact⟨by rw[dz.out];rfl,HB2.out⟩
     ·rw[aaj c4,aaz]
      have c4':((4096:Int)<((aj vs).size:Int)):=by rw[zv];omega
      clear zt zn zv c2 c3 c4 HI HV dI
      go_enter Tryz.func14,Tryz.ntmps14
      go_wp2
      go_ret
      exact⟨rfl,HB.out⟩
    ·rw[aaj c3,aaz]
     have c3':((4096:Int)<((aj nm).size:Int)):=by rw[zn];omega
     clear zt zn zv c2 c3 HI HV dI
     go_enter Tryz.func14,Tryz.ntmps14
     go_wp2
     go_ret
     exact⟨rfl,HB.out⟩
   ·rw[aaj c2,aaz]
    have c2':((4096:Int)<((aj tb).size:Int)):=by rw[zt];omega
    clear zt zn zv c2 HI HV dI
    go_enter Tryz.func14,Tryz.ntmps14
    go_wp2
    go_ret
    exact⟨rfl,HB.out⟩
  ·rw[aaj c1,aaz]
   have c1':((3:Int)<(ys.length:Int)):=by omega
   clear zt zn zv c1 HI HV dI
   go_enter Tryz.func14,Tryz.ntmps14
   go_wp2
   go_ret
   exact⟨rfl,HB.out⟩
end Go.Proofs.YtfeglkleoijlaaaGreatDoor
