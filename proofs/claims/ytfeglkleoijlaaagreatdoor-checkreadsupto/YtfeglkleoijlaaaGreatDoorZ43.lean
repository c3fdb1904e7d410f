/- Packed for the hand-in: KState -/
import Derived.Test.YtfeglkleoijlaaaGreatDoorZ42
namespace Go.Proofs.YtfeglkleoijlaaaGreatDoor
open Go.RowKit Go.Shelf
set_option linter.unusedSimpArgs false
set_option linter.unusedVariables false
set_option maxRecDepth 20000
set_option maxHeartbeats 8000000
structure GoodS (s:St):Prop where
 sets : ∀x∈s.sets,dS x.e
 wh : ∀x∈s.wh,dS x
 onwh : ∀x∈s.on++s.wh,dS x
 gr : ∀x∈s.gr,dS x
 items : ∀i∈s.items,∀x∈i.xs,dS x
 od : ∀x∈s.od,dS x
 lens:s.sets.length≤100∧s.gr.length≤1∧s.on.length+s.wh.length≤1000∧s.items.length≤1000
 names:s.tb.length≤16∧s.jn.length≤16
theorem bR {P:Ex→Prop} {l:List Ex} (h:l.length=0):∀x∈l,P x:=fun x hx=>by
 rw[List.eq_nil_of_length_eq_zero h] at hx
 cases hx
theorem Er {s:St} (hr:aZ s=true) (hR:xH s) (hz : ∀e∈jv s,jE e≤5000):GoodS s:=by
 have hk0:=o8 hr
 have hsz : ∀e,(e∈s.sets.map (fun x=>x.e)∨e∈s.items.flatMap (fun i=>i.xs)∨e∈s.on∨e∈s.wh∨e∈s.gr∨e∈s.od)→jE e≤1000000:=fun e he=>by
  refine Nat.le_trans (hz e ?_) (by omega)
  unfold jv
  simp only[List.mem_append]
  exact he
 unfold aZ at hr
 simp only[Bool.and_eq_true] at hr
 obtain⟨hk,hn,he⟩:=hr
 unfold wK sj at he
 unfold iT at hk
 have htb:=fu hn
 have hcol : ∀{x:Ex},eF x=true→aJ x=true:=fun h=>by
  unfold eF at h
  simp only[Bool.and_eq_true] at h
  exact h.2
 have hset : ∀{x:Se},mP x=true→aJ x.e=true:=fun h=>by
  unfold mP at h
  simp only[Bool.and_eq_true] at h
  exact h.2
 have hit : ∀{x:It},sw x=true→∀e∈x.xs,aJ e=true:=fun {x} h=>by
  unfold sw at h
  split at h
  ·exact bR (by simpa using h)
  ·split at h
   ·exact aU h
   ·cases h
 have hnn : ∀{P:Se→Prop} {l:List Se},l.length=0→∀x∈l,P x:=fun h x hx=>by rw[List.eq_nil_of_length_eq_zero h] at hx;cases hx
 have hni : ∀{P:It→Prop} {l:List It},l.length=0→∀x∈l,P x:=fun h x hx=>by rw[List.eq_nil_of_length_eq_zero h] at hx;cases hx
 have happ:(∀x∈s.on,dS x)→(∀x∈s.wh,dS x)→∀x∈s.on++s.wh,dS x:=fun h1 h2 x hx=>(List.mem_append.1 hx).elim (h1 x) (h2 x)
 have gset:(∀x∈s.sets,mP x=true)→∀x∈s.sets,dS x.e:=fun h x hx=>⟨hset (h x hx),(hR.sets x hx).2,hsz _ (.inl (List.mem_map.2 ⟨x,hx,rfl⟩))⟩
 have gwh:(∀x∈s.wh,aJ x=true)→∀x∈s.wh,dS x:=fun h x hx=>⟨h x hx,hR.wh x hx,hsz _ (.inr (.inr (.inr (.inl hx))))⟩
 rcases hk0 with e | e | e | e | e | e
 all_goals simp only[e,if_true,if_false,Int.reduceEq,reduceIte,decide_eq_true_eq] at he hk
 ·obtain⟨_,_,_,_,h5,h6,h7,h8,h9,h10,h11,h12,_⟩:=he
  exact⟨hnn h6,bR h10,happ (bR h9) (bR h10),bR h11,hni h7,bR h12,⟨by omega,by omega,by omega,by omega⟩,htb,by rw[h8];exact Nat.zero_le _⟩
 ·obtain⟨_,_,_,_,h5,h6,h7,h8,h9,h10,h11,h12,_⟩:=he
  exact⟨hnn h6,bR h10,happ (bR h9) (bR h10),bR h11,hni h7,bR h12,⟨by omega,by omega,by omega,by omega⟩,htb,by rw[h8];exact Nat.zero_le _⟩
 ·obtain⟨_,_,_,_,h5,h6,h7,h8,h9,h10,h11,h12,_⟩:=he
  exact⟨hnn h6,bR h10,happ (bR h9) (bR h10),bR h11,hni h7,bR h12,⟨by omega,by omega,by omega,by omega⟩,htb,by rw[h8];exact Nat.zero_le _⟩
 ·obtain⟨_,_,_,_,h5,h6,h7,h8,h9,h10,h11,h12,_⟩:=he
  simp only[Bool.and_eq_true] at hk
  have l1:=bL hk.1
  have l2:=bL hk.2
  have g:=gwh (aU hk.2)
  exact⟨gset (aU hk.1),g,happ (bR h9) g,bR h11,hni h7,bR h12,⟨by omega,by omega,by omega,by omega⟩,htb,by rw[h8];exact Nat.zero_le _⟩
 ·obtain⟨_,_,_,_,h5,h6,h7,h8,h9,h10,h11,h12,_⟩:=he
  have l2:=bL hk
  have g:=gwh (aU hk)
  exact⟨hnn h6,g,happ (bR h9) g,bR h11,hni h7,bR h12,⟨by omega,by omega,by omega,by omega⟩,htb,by rw[h8];exact Nat.zero_le _⟩
 ·obtain⟨_,_,_,_,h5,h6,_⟩:=he
  unfold vB at hk
  simp only[Bool.and_eq_true] at hk
  obtain⟨k1,k2,k3,k4,k5,k6,_⟩:=hk
  have l1:=bL k1
  have l3:=bL k3
  have l4:=bL k4
  have l5:=bL k5
  have l6:=bL k6
  have hj1:fF s.jn≤1:=by unfold fF;split<;>omega
  have hjn:s.jn.length≤16:=by
   unfold kN at k2
   simp only[Bool.or_eq_true,decide_eq_true_eq] at k2
   rcases k2 with h | h
   ·rw[h];exact Nat.zero_le _
   ·exact fu h
  have g:=gwh (aU k4)
  exact⟨hnn h6,g,happ (fun x hx=>⟨aU k3 x hx,hR.on x hx,hsz _ (.inr (.inr (.inl hx)))⟩) g,fun x hx=>⟨hcol (aU k5 x hx),hR.gr x hx,hsz _ (.inr (.inr (.inr (.inr (.inl hx)))))⟩,
   fun i hi x hx=>⟨hit (aU k1 i hi) x hx,hR.items i hi x hx,hsz _ (.inr (.inl (List.mem_flatMap.2 ⟨i,hi,hx⟩)))⟩,fun x hx=>⟨hcol (aU k6 x hx),hR.od x hx,hsz _ (.inr (.inr (.inr (.inr (.inr hx)))))⟩,⟨by omega,by omega,by omega,by omega⟩,htb,hjn⟩
theorem Fp (s:St):((jK [s]).2=4↔¬aZ s=true):=by
 unfold jK
 rw[if_neg (by simp)]
 by_cases h:aZ s=true
 ·have ha:bf [s] 1 8 aZ=true:=EY (by simp) (by simp) (fun x hx=>by simp only[List.mem_singleton] at hx;rw[hx];exact h)
  rw[if_pos ha]
  refine ⟨fun e=>?_,fun e=>absurd h e⟩
  unfold mo at e
  split at e
  ·cases e
  ·split at e<;>cases e
 ·rw[if_neg (fun ha=>h (aU ha s (by simp)))]
  exact⟨fun _=>h,fun _=>rfl⟩
theorem FK {S:Nat→Prop} {W:World} {s:St} {cs:List Value} {g:Nat} (hg:W.heap[g]?=some (.cells cs.toArray 29)) (ht:eZ S W s cs):aQ 14 eZ (fun b=>S b∨b=g) W [s] (.slice (some ⟨g,0,none⟩) 1 1):=by
 have hl:cs.length=14:=by obtain⟨_,_,_,_,_,_,_,_,_,_,_,_,_,_,_,_,_,_,_,_,_,_,_,_,rfl,_⟩:=ht;rfl
 refine ⟨_,1,[cs],rfl,Nat.le_refl _,by unfold maxLen;omega,⟨rfl,fun j x ds hx hd=>?_⟩,fun _=>⟨g,0,rfl,.inr rfl,fun j ds hd i u hu=>?_⟩⟩
 ·cases j with
  |
   zero =>
   simp only[List.getElem?_cons_zero,Option.some.injEq] at hx hd
   subst hx hd
   exact⟨hl,ht.to (R:=fun _=>False) (aA.refl _ W) (fun b hb _=>⟨id,.inl hb⟩)⟩
  | succ j=>simp at hx
 ·cases j with
  |
   zero =>
   simp only[List.getElem?_cons_zero,Option.some.injEq] at hd
   subst hd
   simp only[Nat.zero_mul,Nat.zero_add]
   rw[cell_of_row _ _ _ _ _ _ hg]
   simpa using hu
  | succ j=>simp at hd
theorem eZ.H8 {S:Nat→Prop} {w:World} {s:St} {v0 v1 v3 v7 v12 v13:Value} {b1 b2 b3 b4 b5 b6 b7 b8:Option Addr} {m1 m2 m3 m4 m5 m6 m7 m8 d1 d2 d3 d4 d5 d6 d7 d8:Nat}
  (h:eZ S w s [v0,v1,.slice b1 m1 d1,v3,.slice b2 m2 d2,.slice b3 m3 d3,.slice b4 m4 d4,v7,.slice b5 m5 d5,.slice b6 m6 d6,.slice b7 m7 d7,.slice b8 m8 d8,v12,v13]):aQ 1 yV S w s.rows (.slice b2 m2 d2):=by
 obtain⟨e1,e2,e3,e4,e5,e6,e7,e8,f1,f2,f3,f4,f5,f6,f7,f8,g1,g2,g3,g4,g5,g6,g7,g8,he,_,h2,_⟩:=h
 simp only[List.cons.injEq,Value.slice.injEq,and_true] at he
 obtain⟨_,_,_,_,⟨rfl,rfl,rfl⟩,_⟩:=he
 exact h2
theorem jT (sb mb:Nat) (E:DataW Value) (f:List UInt8→Value) (C:List Tb) (S2:Nat→Prop) (s:St) (sc:List Value) (w:World) (hW:eH w) (hC:dY w sb mb E f C S2) (hKC : ∀u∈C,oo u) (hs:eZ (fun b=>b<w.heap.size) w s sc) (hR:xH s) (hz:aZ s=true→∀e∈jv s,jE e≤5000) :
  Calls Tryz.prog 9 #[.pointer (some ⟨sb,0,none⟩),.agg sc.toArray] w fun e w'=>e = .returned (.int .i64 (lI C s))∧Below w.heap.size w w':=by
 have hs0:=hs
 obtain⟨b1,b2,b3,b4,b5,b6,b7,b8,m1,m2,m3,m4,m5,m6,m7,m8,d1,d2,d3,d4,d5,d6,d7,d8,rfl,_⟩:=hs
 obtain⟨W,hWW,hbW,hzW,hcA,hcB⟩:=two w (.cells #[.int .i64 s.k,.string (aj s.tb),.slice b1 m1 d1,.string (aj s.prim),.slice b2 m2 d2,.slice b3 m3 d3,.slice b4 m4 d4,.string (aj s.jn),.slice b5 m5 d5,.slice b6 m6 d6,.slice b7 m7 d7,.slice b8 m8 d8,.bool s.desc,.int .i64 s.lim] 29) (.cells #[.int .i64 s.k,.string (aj s.tb),.slice b1 m1 d1,.string (aj s.prim),.slice b2 m2 d2,.slice b3 m3 d3,.slice b4 m4 d4,.string (aj s.jn),.slice b5 m5 d5,.slice b6 m6 d6,.slice b7 m7 d7,.slice b8 m8 d8,.bool s.desc,.int .i64 s.lim] 29)
 have kA:=ay hcA
 have hsW:eZ (fun b=>b<w.heap.size) W s [.int .i64 s.k,.string (aj s.tb),.slice b1 m1 d1,.string (aj s.prim),.slice b2 m2 d2,.slice b3 m3 d3,.slice b4 m4 d4,.string (aj s.jn),.slice b5 m5 d5,.slice b6 m6 d6,.slice b7 m7 d7,.slice b8 m8 d8,.bool s.desc,.int .i64 s.lim]:=hs0.to (R:=fun _=>False) (aA.aC hbW) (fun b hb _=>⟨id,hb⟩)
 have HP:=hid (og (fun b=>b<w.heap.size∨b=w.heap.size+1) [s] _ W (hW.on hbW) (fun x hx=>by simp only[List.mem_singleton] at hx;rw[hx];exact hR) (FK hcB hsW) (fun _ x hx=>by simp only[List.mem_singleton] at hx;rw[hx];exact hz))
 have hso:=Fp s
 obtain⟨⟨st,sco⟩,hsc⟩:∃R,jK [s]=R:=⟨_,rfl⟩
 rw[hsc] at HP hso
 dsimp only at HP hso
 have HS0:=hid hs0
 have HB:=hid hbW
 have HCA:=hid hcA
 have HW:=hid hW
 have HC:=hid hC
 have HKC:=hid hKC
 obtain⟨rr,hrr⟩:∃r,lI C s=r:=⟨_,rfl⟩
 rw[hrr]
 have HRR:=hid hrr
 have HR:=hid hR
 unfold lI at hrr
 by_cases hrs:aZ s=true
 ·rw[if_pos hrs] at hrr
  have h4:(sco==4)=false:=by rw[beq_eq_false_iff_ne];exact fun e=>hso.1 e hrs
  have HG:=hid (Er hrs hR (hz hrs))
  have HNB:=hid HG.out.names
  have HRS:=hid hrr
  clear hbW hcA hcB hsW hs0 hso hsc hW hC hKC hR hz hrs hrr HRR
  go_enter Tryz.func9,Tryz.ntmps9
  go_wp2_with fail
  try rw[hWW]
  refine HP.out.mono ?_
  rintro e w1 ⟨rfl,hb1⟩
  have hB1:=HB.out.trans (hb1.mono HB.out.size)
  have HB1:=hid hB1
  have HCA1:=hid ((hb1.block w.heap.size (by omega)).trans HCA.out)
  have kA:=ay HCA1.out
  have HF:=hid (sU sb mb E f C S2 s.tb w1 (HC.out.new hB1) (by have:=HNB.out.1;unfold maxLen;omega))
  have hs1:=hb1.size
  obtain⟨th,hth⟩:∃b,decide (s.tb∈C.map Tb.nm)=b:=⟨_,rfl⟩
  rw[hth] at HF
  have HTH:=hid hth
  clear hb1 hB1 HP HCA hth
  go_wp2_with fail
  refine HF.out.mono ?_
  rintro e w2 ⟨ds,rfl,hto,hb2⟩
  obtain⟨u,hu⟩:∃u,eu C s.tb=u:=⟨_,rfl⟩
  rw[hu] at hto
  have hte:=hto.e
  obtain⟨a2,n2,c2,rfl,_⟩:=hto
  obtain⟨Y,hY,hbY,hzY,hcY⟩:=aL w2 (.cells #[.string (aj u.nm),.slice a2 n2 c2,.int .i64 u.pr] 42)
  have hB2:=HB1.out.trans (hb2.mono HB1.out.size)
  have HBY:=hid (hB2.trans (hbY.mono hB2.size))
  have HT3:=hid hcY
  have hs2:=hb2.size
  have HCAY:=hid ((hbY.block w.heap.size (by omega)).trans ((hb2.block w.heap.size (by omega)).trans HCA1.out))
  have kS:=ay HCAY.out
  have kT:=aH HT3.out
  have HTY:Hid (dK (fun b=>b<Y.heap.size) Y u [.string (aj u.nm),.slice a2 n2 c2,.int .i64 u.pr]):=hid (hte.to (R:=fun _=>False) (aA.aC hbY) (fun b hb hlt=>⟨id,by show b<Y.heap.size;omega⟩))
  have HSY:Hid (eZ (fun b=>b<Y.heap.size) Y s [.int .i64 s.k,.string (aj s.tb),.slice b1 m1 d1,.string (aj s.prim),.slice b2 m2 d2,.slice b3 m3 d3,.slice b4 m4 d4,.string (aj s.jn),.slice b5 m5 d5,.slice b6 m6 d6,.slice b7 m7 d7,.slice b8 m8 d8,.bool s.desc,.int .i64 s.lim]):=hid (HS0.out.to (R:=fun _=>False) (aA.aC HBY.out) (fun b hb hlt=>⟨id,by show b<Y.heap.size;have:b<w.heap.size:=hb;omega⟩))
  have HU:=hid hu
  have hin:Hid (s.tb∈C.map Tb.nm→oo u):=hid (fun h=>by
   obtain⟨x,hx,e⟩:=List.mem_map.1 h
   rw[← hu]
   refine HKC.out _ ?_
   unfold eu
   cases hq:C.find? fun t=>decide (t.nm=s.tb) with
   |
    none =>
    have:=List.find?_eq_none.1 hq x hx
    simp[e] at this
   | some y=>exact List.mem_of_find?_eq_some hq)
  have HRS2:Hid ((if s.k=1 then (if (bP s).2=0∧s.tb∈C.map Tb.nm then 13 else (bP s).2) else if s.tb ∉ C.map Tb.nm then 11 else if s.k=3 then lY u s.rows else if s.k=4 then CJ u s else if s.k=5 then iB [u] s.wh else if s.k=6 then j5 C u s else 0)=rr):=hid (by rw[← hu];exact HRS.out)
  clear hb2 hbY hcY hte hB2 HF kA HCA1 HRS hu
  by_cases e1:s.k=1
  ·have HE1:=hid e1
   have k1b:(s.k==1)=true:=by rw[e1];rfl
   have HCR:=hid (vQ (fun b=>b<Y.heap.size) s _ th Y (HW.out.on HBY.out) HR.out HSY.out)
   obtain⟨mc,hmc⟩:∃m,(bP s).2=m:=⟨_,rfl⟩
   rw[hmc] at HCR
   have HMC:=hid hmc
   clear hmc e1
   go_wp2_with (first | (refine wpList_store_row rfl 42 (.tmp 7) (.tmp 22) rfl w2.heap.size #[.string (aj u.nm),.slice a2 n2 c2,.int .i64 u.pr] rfl rfl 42 #[.string ⟨#[]⟩,.slice none 0 0,.int .i64 0] (heap_alloc_new w2 _) Tryz.bW rfl (fV _ _ _ _ _) ?_;rw[aB,hY];clear hY) | fail)
   refine HCR.out.mono ?_
   rintro e w3 ⟨rfl,hb3⟩
   have HB3:=hid (HBY.out.trans (hb3.mono HBY.out.size))
   clear hb3 HCR
   go_wp2_with fail
   go_ret
   refine ⟨congrArg (fun x=>Ending.returned (Value.int .i64 x)) (show oH mc th=rr from ?_),HB3.out⟩
   rw[← HRS2.out,if_pos HE1.out,HMC.out]
   unfold oH
   have hq:=HTH.out
   cases th with
   |
    true =>
    by_cases hm:mc=0
    ·rw[if_pos ⟨hm,rfl⟩,if_pos ⟨hm,of_decide_eq_true hq⟩]
    ·rw[if_neg (fun h=>hm h.1),if_neg (fun h=>hm h.1)]
   | false=>rw[if_neg (fun h=>by cases h.2),if_neg (fun h=>(of_decide_eq_false hq) h.2)]
  ·have HE1:=hid e1
   have k1b:(s.k==1)=false:=by rw[beq_eq_false_iff_ne];exact e1
   cases th with
   |
    false =>
    have HNI:Hid (s.tb ∉ C.map Tb.nm):=hid (of_decide_eq_false HTH.out)
    clear e1
    go_wp2_with (first | (refine wpList_store_row rfl 42 (.tmp 7) (.tmp 22) rfl w2.heap.size #[.string (aj u.nm),.slice a2 n2 c2,.int .i64 u.pr] rfl rfl 42 #[.string ⟨#[]⟩,.slice none 0 0,.int .i64 0] (heap_alloc_new w2 _) Tryz.bW rfl (fV _ _ _ _ _) ?_;rw[aB,hY];clear hY) | fail)
    go_ret
    exact⟨congrArg (fun x=>Ending.returned (Value.int .i64 x)) (show 11=rr from by rw[← HRS2.out,if_neg HE1.out,if_pos HNI.out]),HBY.out⟩
   |
    true =>
    have HIN:Hid (s.tb∈C.map Tb.nm):=hid (of_decide_eq_true HTH.out)
    have HK:=hid (hin.out HIN.out)
    by_cases e3:s.k=3
    ·have HE:=hid e3
     have k3b:(s.k==3)=true:=by rw[e3];rfl
     have HCR:=hid (vR (fun b=>b<Y.heap.size) (fun b=>b<Y.heap.size) u s.rows (.slice b2 m2 d2) _ Y (eZ.H8 HSY.out) HTY.out HK.out)
     obtain⟨mc,hmc⟩:∃m,lY u s.rows=m:=⟨_,rfl⟩
     rw[hmc] at HCR
     have HMC:=hid hmc
     clear hmc e1 e3
     go_wp2_with (first | (refine wpList_store_row rfl 42 (.tmp 7) (.tmp 22) rfl w2.heap.size #[.string (aj u.nm),.slice a2 n2 c2,.int .i64 u.pr] rfl rfl 42 #[.string ⟨#[]⟩,.slice none 0 0,.int .i64 0] (heap_alloc_new w2 _) Tryz.bW rfl (fV _ _ _ _ _) ?_;rw[aB,hY];clear hY) | fail)
     refine HCR.out.mono ?_
     rintro e w3 ⟨rfl,hb3⟩
     have HB3:=hid (HBY.out.trans (hb3.mono HBY.out.size))
     clear hb3 HCR
     go_wp2_with fail
     go_ret
     exact⟨congrArg (fun x=>Ending.returned (Value.int .i64 x)) (show mc=rr from by rw[← HRS2.out,if_neg HE1.out,if_neg (fun h=>h HIN.out),if_pos HE.out,HMC.out]),HB3.out⟩
    ·have HE3:=hid e3
     have k3b:(s.k==3)=false:=by rw[beq_eq_false_iff_ne];exact e3
     by_cases e4:s.k=4
     ·have HE:=hid e4
      have k4b:(s.k==4)=true:=by rw[e4];rfl
      have HCR:=hid (yh u s _ _ Y (HW.out.on HBY.out) HTY.out HK.out HSY.out HG.out.sets HG.out.wh HG.out.lens.1)
      obtain⟨mc,hmc⟩:∃m,CJ u s=m:=⟨_,rfl⟩
      rw[hmc] at HCR
      have HMC:=hid hmc
      clear hmc e1 e3 e4
      go_wp2_with (first | (refine wpList_store_row rfl 42 (.tmp 7) (.tmp 22) rfl w2.heap.size #[.string (aj u.nm),.slice a2 n2 c2,.int .i64 u.pr] rfl rfl 42 #[.string ⟨#[]⟩,.slice none 0 0,.int .i64 0] (heap_alloc_new w2 _) Tryz.bW rfl (fV _ _ _ _ _) ?_;rw[aB,hY];clear hY) | fail)
      refine HCR.out.mono ?_
      rintro e w3 ⟨rfl,hb3⟩
      have HB3:=hid (HBY.out.trans (hb3.mono HBY.out.size))
      clear hb3 HCR
      go_wp2_with fail
      go_ret
      exact⟨congrArg (fun x=>Ending.returned (Value.int .i64 x)) (show mc=rr from by rw[← HRS2.out,if_neg HE1.out,if_neg (fun h=>h HIN.out),if_neg HE3.out,if_pos HE.out,HMC.out]),HB3.out⟩
     ·have HE4:=hid e4
      have k4b:(s.k==4)=false:=by rw[beq_eq_false_iff_ne];exact e4
      by_cases e5:s.k=5
      ·have HE:=hid e5
       have k5b:(s.k==5)=true:=by rw[e5];rfl
       clear e1 e3 e4 e5
       go_wp2_with (first | (refine wpList_store_row rfl 42 (.tmp 7) (.tmp 22) rfl w2.heap.size #[.string (aj u.nm),.slice a2 n2 c2,.int .i64 u.pr] rfl rfl 42 #[.string ⟨#[]⟩,.slice none 0 0,.int .i64 0] (heap_alloc_new w2 _) Tryz.bW rfl (fV _ _ _ _ _) ?_;rw[aB,hY];clear hY) | fail)
       have HS9:=hid kS.2.2.2.2.2.2.2.2.2.1
       have HWT:=hid (HW.out.on HBY.out)
       have HWH:=hid (eZ.slices HSY.out).2.2.1
       have HTE:=hid HTY.out
       have HKT:=hid HK.out
       have HGW:=hid HG.out.wh
       clear kS kT
       have HS3:Hid (∀V,Below Y.heap.size Y V→V.cell? ⟨w.heap.size,9,none⟩=some (.slice b6 m6 d6)∧V.cell? ⟨w2.heap.size,0,none⟩=some (.string (aj u.nm))∧(V.cell? ⟨w2.heap.size,1,none⟩=some (.slice a2 n2 c2)∧V.cell? ⟨w2.heap.size,2,none⟩=some (.int .i64 u.pr))):=hid (fun V hV=>by
        have q:=aH ((hV.block w2.heap.size (World.lt_of_block HT3.out)).trans HT3.out)
        exact⟨(hV.cell (p:=⟨w.heap.size,9,none⟩) (World.block_lt_of_cell? _ _ HS9.out)).trans HS9.out,q.1,q.2.1,q.2.2.1⟩)
       have hS0:=HS3.out Y.drew (Below.refl _ Y).drew
       refine dB (fun V:World=>V.cell? ⟨w.heap.size,9,none⟩=some (.slice b6 m6 d6)∧V.cell? ⟨w2.heap.size,0,none⟩=some (.string (aj u.nm))∧(V.cell? ⟨w2.heap.size,1,none⟩=some (.slice a2 n2 c2)∧V.cell? ⟨w2.heap.size,2,none⟩=some (.int .i64 u.pr))) [] (by kernel_rfl) ?_
       refine aP (i:=0) (v:=?_) rfl (by kernel_rfl) (by kernel_rfl) (by kernel_rfl) (by kernel_rfl) (by kernel_rfl) (fun _ _ _ h=>h) (Or.inl ⟨by rfl,?_⟩) (by assumption) ?_;rotate_left;(focus (intro w hSw;(try dsimp only at hSw);(try obtain⟨hSw1,hSw2,hSw3⟩:=hSw);go_simp<;>with_reducible rfl));(try simp only[Act.put,List.getElem_toArray,List.getElem_cons_zero,List.getElem_cons_succ,List.setIfInBounds_toArray,List.set_cons_zero,List.set_cons_succ])
       refine aP (i:=1) (v:=?_) rfl (by kernel_rfl) (by kernel_rfl) (by kernel_rfl) (by kernel_rfl) (by kernel_rfl) (fun _ _ _ h=>h) (Or.inl ⟨by rfl,?_⟩) (by assumption) ?_;rotate_left;(focus (intro w hSw;(try dsimp only at hSw);(try obtain⟨hSw1,hSw2,hSw3⟩:=hSw);go_simp<;>with_reducible rfl));(try simp only[Act.put,List.getElem_toArray,List.getElem_cons_zero,List.getElem_cons_succ,List.setIfInBounds_toArray,List.set_cons_zero,List.set_cons_succ])
       refine aP (i:=2) (v:=?_) rfl (by kernel_rfl) (by kernel_rfl) (by kernel_rfl) (by kernel_rfl) (by kernel_rfl) (fun _ _ _ h=>h) (Or.inl ⟨by rfl,?_⟩) (by assumption) ?_;rotate_left;(focus (intro w hSw;(try dsimp only at hSw);(try obtain⟨hSw1,hSw2,hSw3⟩:=hSw);go_simp<;>with_reducible rfl));(try simp only[Act.put,List.getElem_toArray,List.getElem_cons_zero,List.getElem_cons_succ,List.setIfInBounds_toArray,List.set_cons_zero,List.set_cons_succ])
       obtain⟨Y4,hY4,hbY4,hzY4,hcY4⟩:=aL Y.drew (.cells #[.string (aj u.nm),.slice a2 n2 c2,.int .i64 u.pr] 42)
       have hbY41:Below Y.heap.size Y Y4:=((Below.refl _ Y).drew).trans hbY4
       refine bD (i:=3) (by kernel_rfl) rfl rfl (aT (vV rfl (by rfl) _) ?_)
       rw[hY4]
       refine ⟨.inl (HS3.out Y4 hbY41),?_⟩
       simp only[Act.put,List.getElem_toArray,List.getElem_cons_zero,List.getElem_cons_succ,List.setIfInBounds_toArray,List.set_cons_zero,List.set_cons_succ]
       refine dL (i:=4) #[.slice (some ⟨Y.drew.heap.size,0,none⟩) 1 1] (fun v W=>v = .func (.func 58) #[] #[.pointer (some ⟨Y4.heap.size,0,none⟩)]∧W.heap[Y4.heap.size]?=some (.cells #[.slice (some ⟨Y.drew.heap.size,0,none⟩) 1 1] 22)∧Below Y4.heap.size Y4 W) (by kernel_rfl) rfl rfl rfl (by kernel_rfl) (enters_of Tryz.func24 (by kernel_rfl) rfl) ((pR _ _ _ Y4).mono (fun e W h=>⟨_,h.1,rfl,h.2.1,h.2.2⟩)) ?_
       rintro _ Z ⟨rfl,hcZ,hbZ⟩
       have hbZ1:Below Y.heap.size Y Z:=hbY41.trans (hbZ.mono hbY41.size)
       refine ⟨HS3.out Z hbZ1,?_⟩
       simp only[Act.put,List.getElem_toArray,List.getElem_cons_zero,List.getElem_cons_succ,List.setIfInBounds_toArray,List.set_cons_zero,List.set_cons_succ]
       have hTZ:=HTE.out.on hbZ1
       have hcT:Z.heap[Y.drew.heap.size]?=some (.cells #[.string (aj u.nm),.slice a2 n2 c2,.int .i64 u.pr] 42):=(hbZ.block _ hzY4).trans hcY4
       refine dL (i:=5) #[.slice b6 m6 d6,.func (.func 58) #[] #[.pointer (some ⟨Y4.heap.size,0,none⟩)]] (fun v W=>v = .int .i64 (iB [u] s.wh)∧Below Z.heap.size Z W) (by kernel_rfl) rfl rfl rfl (by kernel_rfl) (enters_of Tryz.func23 (by kernel_rfl) rfl)
        ((nu _ _ [u] s.wh _ _ Y4.heap.size Z (HWT.out.on hbZ1) HGW.out (HWH.out.to (by decide) (R:=fun _=>False) (aA.aC hbZ1) (fun b hb _=>⟨id,hb⟩) (fun _ _ e=>e.to (R:=fun _=>False) (aA.aC hbZ1) (fun b hb _=>⟨id,hb⟩))) (by rw[aD _ _ _ _ _ _ hcZ];rfl) (World.lt_of_block hcZ) (oD hcT hTZ) (fun t' ht'=>by simp only[List.mem_singleton] at ht';rw[ht'];exact HKT.out) (by simp)).mono (fun e W h=>⟨_,h.1,rfl,h.2⟩)) ?_
       rintro _ wF ⟨rfl,hbF⟩
       have hbF1:Below Y.heap.size Y wF:=hbZ1.trans (hbF.mono hbZ1.size)
       refine ⟨HS3.out wF hbF1,?_⟩
       simp only[Act.put,List.getElem_toArray,List.getElem_cons_zero,List.getElem_cons_succ,List.setIfInBounds_toArray,List.set_cons_zero,List.set_cons_succ]
       refine bD (i:=6) (by kernel_rfl) rfl rfl (aT (iR rfl (by rfl) _) ⟨.inl (HS3.out wF hbF1),?_⟩)
       simp only[Act.put,List.getElem_toArray,List.getElem_cons_zero,List.getElem_cons_succ,List.setIfInBounds_toArray,List.set_cons_zero,List.set_cons_succ]
       refine bV (by kernel_rfl) ?_ _
       show Only _ .normal _ _
       unfold Only
       clear hS0
       go_wp2
       go_ret
       exact⟨congrArg (fun x=>Ending.returned (Value.int .i64 x)) (show iB [u] s.wh=rr from by rw[← HRS2.out,if_neg HE1.out,if_neg (fun h=>h HIN.out),if_neg HE3.out,if_neg HE4.out,if_pos HE.out]),HBY.out.trans (hbF1.mono HBY.out.size)⟩
      ·have HE5:=hid e5
       have k5b:(s.k==5)=false:=by rw[beq_eq_false_iff_ne];exact e5
       by_cases e6:s.k=6
       ·have HE:=hid e6
        have k6b:(s.k==6)=true:=by rw[e6];rfl
        have HCR:=hid (wE sb mb E f C S2 u s _ _ Y (HW.out.on HBY.out) (HC.out.new HBY.out) HTY.out HK.out HKC.out HSY.out HG.out.onwh HG.out.gr HG.out.items HG.out.od HG.out.lens.2.1 HG.out.lens.2.2.1 HG.out.lens.2.2.2 (by have:=HNB.out.2;unfold maxLen;omega))
        obtain⟨mc,hmc⟩:∃m,j5 C u s=m:=⟨_,rfl⟩
        rw[hmc] at HCR
        have HMC:=hid hmc
        clear hmc e1 e3 e4 e5 e6
        go_wp2_with (first | (refine wpList_store_row rfl 42 (.tmp 7) (.tmp 22) rfl w2.heap.size #[.string (aj u.nm),.slice a2 n2 c2,.int .i64 u.pr] rfl rfl 42 #[.string ⟨#[]⟩,.slice none 0 0,.int .i64 0] (heap_alloc_new w2 _) Tryz.bW rfl (fV _ _ _ _ _) ?_;rw[aB,hY];clear hY) | fail)
        refine HCR.out.mono ?_
        rintro e w3 ⟨rfl,hb3⟩
        have HB3:=hid (HBY.out.trans (hb3.mono HBY.out.size))
        clear hb3 HCR
        go_wp2_with fail
        go_ret
        exact⟨congrArg (fun x=>Ending.returned (Value.int .i64 x)) (show mc=rr from by rw[← HRS2.out,if_neg HE1.out,if_neg (fun h=>h HIN.out),if_neg HE3.out,if_neg HE4.out,if_neg HE5.out,if_pos HE.out,HMC.out]),HB3.out⟩
       ·have HE6:=hid e6
        have k6b:(s.k==6)=false:=by rw[beq_eq_false_iff_ne];exact e6
        clear e1 e3 e4 e5 e6
        go_wp2_with (first | (refine wpList_store_row rfl 42 (.tmp 7) (.tmp 22) rfl w2.heap.size #[.string (aj u.nm),.slice a2 n2 c2,.int .i64 u.pr] rfl rfl 42 #[.string ⟨#[]⟩,.slice none 0 0,.int .i64 0] (heap_alloc_new w2 _) Tryz.bW rfl (fV _ _ _ _ _) ?_;rw[aB,hY];clear hY) | fail)
        go_ret
        exact⟨congrArg (fun x=>Ending.returned (Value.int .i64 x)) (show 0=rr from by rw[← HRS2.out,if_neg HE1.out,if_neg (fun h=>h HIN.out),if_neg HE3.out,if_neg HE4.out,if_neg HE5.out,if_neg HE6.out]),HBY.out⟩
 ·rw[if_neg hrs] at hrr
  have h4:(sco==4)=true:=by rw[beq_iff_eq];exact hso.2 hrs
  have HQ:=hid hrr
  clear hbW hcA hcB hsW hs0 hso hsc hW hC hKC hR hz hrs hrr HRR
  go_enter Tryz.func9,Tryz.ntmps9
  go_wp2_with fail
  try rw[hWW]
  refine HP.out.mono ?_
  rintro e w1 ⟨rfl,hb1⟩
  have HB1:=hid (HB.out.trans (hb1.mono HB.out.size))
  clear hb1 HP
  go_wp2_with fail
  go_ret
  exact⟨congrArg (fun x=>Ending.returned (Value.int .i64 x)) (show 4=rr from HQ.out),HB1.out⟩
end Go.Proofs.YtfeglkleoijlaaaGreatDoor
