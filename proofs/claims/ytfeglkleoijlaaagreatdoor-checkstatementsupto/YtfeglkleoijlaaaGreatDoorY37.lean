import Derived.Test.YtfeglkleoijlaaaGreatDoorY36
import Derived.Test.YtfeglkleoijlaaaGreatDoorY14
import Derived.Test.YtfeglkleoijlaaaGreatDoorY22
import Derived.Test.YtfeglkleoijlaaaGreatDoorY25
import Derived.Test.YtfeglkleoijlaaaGreatDoorY10
import Derived.Test.YtfeglkleoijlaaaGreatDoorY02
import Derived.Deep.RegionWith
import Derived.Lib.ItoaMem
import Derived.Lib.Strings
import Derived.Test.YtfeglkleoijlaaaGreatDoorY11
namespace Go.Proofs.YtfeglkleoijlaaaGreatDoor
open Go.RowKit Go.Shelf Go.Lib
set_option linter.unusedSimpArgs false
set_option linter.unusedVariables false
set_option maxRecDepth 20000
set_option maxHeartbeats 8000000
def U1 (T:List Tb) (nm:List UInt8) (k:Nat):Prop:=k≤T.length∧(∀(i:Nat) (x:Tb),i<k→T[i]?=some x→Op.bytesLess x.nm nm=true)∧∀x:Tb,T[k]?=some x→Op.bytesLess x.nm nm=false
theorem Ir (S:Nat→Prop) (T:List Tb) (nm:List UInt8) (rb:Nat) (v:Value) (w:World) (hc:w.cell? ⟨rb,0,none⟩=some v) (hv:aM 3 fG S w T v) :
  Calls Tryz.prog 44 #[.pointer (some ⟨rb,0,none⟩),.string (aj nm)] w fun e w'=>∃k:Nat,e = .returned (.int .i64 k)∧U1 T nm k∧w'=w:=by
 by_cases hne:T=[]
 ·subst hne
  obtain⟨a1,c1,rfl⟩:=hv.form
  simp only[List.length_nil] at hc
  clear hv
  go_enter Tryz.func44,Tryz.ntmps44
  go_wp2_with fail
  go_rounds 1
  go_ret
  exact⟨0,rfl,⟨aaF _,fun i x h=>absurd h (Nat.not_lt_zero _),fun x h=>by simp at h⟩,rfl⟩
 ·obtain⟨b,off,c,rfl,hlc,hcm,hel⟩:=hv.opened (by decide) hne
  unfold maxLen at hcm
  have HA:=hid hel
  clear hv hel
  go_enter Tryz.func44,Tryz.ntmps44
  go_wp2_with fail
  go_loopw [5] (fun i wr=>∃k:Nat,k≤T.length∧i = .int .i64 k∧wr=w∧Hid (∀(i:Nat) (x:Tb),i<k→T[i]?=some x→Op.bytesLess x.nm nm=true)) (fun i _=>T.length-(intOf i).toNat)
  case atStart=>exact⟨0,aaV _,rfl,rfl,hid (fun i x h=>absurd h (Nat.not_lt_zero _))⟩
  case round =>
   obtain⟨j,hj,rfl,rfl,HL⟩:=hrel
   by_cases hlt:j<T.length
   ·obtain⟨x,hx⟩:∃x,T[j]?=some x:=⟨_,aaf hlt⟩
    have hlt':((j:Int)<(T.length:Int)):=by omega
    obtain⟨cs,hE,hcl⟩:=HA.out j x hx
    obtain⟨aa,nn,cc,rfl,_⟩:=hE
    have p0:=hcl wr (Below.refl _ _) 0 _ rfl
    rw[aa2] at p0
    have HX:=hid hx
    clear hx hcl
    cases hless:Op.bytesLess x.nm nm with
    |
     true =>
     have hl1:Op.bytesLess (aj x.nm).toList (aj nm).toList=true:=by rw[aS,aS];exact hless
     have HS:=hid hless
     clear hless
     go_wp2
     go_roundw
     case rel =>
      refine ⟨j+1,by omega,by go_num,trivial,hid (fun i y hi hy=>?_)⟩
      rcases Nat.lt_or_ge i j with h1 | h1
      ·exact HL.out i y h1 hy
      ·obtain rfl:i=j:=by omega
       have:=HX.out
       rw[hy] at this
       injection this with e
       rw[e]
       exact HS.out
     case measure=>simp[intOf];omega
    |
     false =>
     have hl1:Op.bytesLess (aj x.nm).toList (aj nm).toList=false:=by rw[aS,aS];exact hless
     have HS:=hid hless
     clear hless
     go_wp2
     go_ret
     exact⟨j,rfl,⟨hj,HL.out,fun y hy=>by have:=HX.out;rw[hy] at this;injection this with e;rw[e];exact HS.out⟩,rfl⟩
   ·have hlt' : ¬((j:Int)<(T.length:Int)):=by omega
    go_wp2
    go_ret
    exact⟨j,rfl,⟨hj,HL.out,fun y hy=>by have:=(aam.1 hy).1;omega⟩,rfl⟩
end Go.Proofs.YtfeglkleoijlaaaGreatDoor
namespace Go.Proofs.YtfeglkleoijlaaaGreatDoor
open Go.RowKit
set_option linter.unusedSimpArgs false
set_option linter.unusedVariables false
set_option maxHeartbeats 8000000
def OU (T:List Tb):Prop:=T.Pairwise (fun a b=>Op.bytesLess a.nm b.nm=true)
theorem R6 {T:List Tb} {nm:List UInt8} {k:Nat} (hR:OU T) (h:U1 T nm k) {x:Tb} (hx:x∈T) (e:x.nm=nm):T[k]?=some x:=by
 obtain⟨i,hi,rfl⟩:=List.getElem_of_mem hx
 have hp:=List.pairwise_iff_getElem.1 hR
 rcases Nat.lt_trichotomy i k with h1 | h1 | h1
 ·have:=h.2.1 i _ h1 (aaf hi)
  rw[e,wV] at this
  cases this
 ·subst h1;exact aaf hi
 ·have h2:=hp k i (by omega) hi h1
  have h3:=h.2.2 _ (aaf (by omega))
  rw[e] at h2
  rw[h2] at h3
  cases h3
theorem beneath {T:List Tb} {nm:List UInt8} {k:Nat} (h:U1 T nm k) {y:Tb} (hy:y∈T.take k):Op.bytesLess y.nm nm=true:=by
 obtain⟨i,hi,rfl⟩:=List.getElem_of_mem hy
 rw[List.length_take] at hi
 rw[List.getElem_take]
 exact h.2.1 i _ (by omega) (aaf (by omega))
open Go.Shelf Go.Lib
set_option maxRecDepth 20000
theorem OU.once {T:List Tb} (h:OU T):(T.map Tb.nm).Nodup:=by
 refine List.pairwise_map.2 (h.imp (fun {a b} hl e=>?_))
 rw[e,wV] at hl
 cases hl
theorem Jv {T L:List Tb} (h:T.Perm L) (t:Tb):nT T t=nT L t:=by
 unfold nT
 rw[h.length_eq]
 have:(t.nm∈T.map Tb.nm)=(t.nm∈L.map Tb.nm):=propext ((h.map Tb.nm).mem_iff)
 simp only[this]
theorem Kj {T L:List Tb} (h:T.Perm L) (t:Tb):(lI T t).Perm (lI L t):=by
 unfold lI
 rw[Jv h t]
 split
 ·exact h.cons t
 ·exact h
theorem F7 {T L:List Tb} (h:T.Perm L) (hT:(T.map Tb.nm).Nodup) (hL:(L.map Tb.nm).Nodup) (nm:List UInt8):fC T nm=fC L nm:=by
 by_cases hm:nm∈T.map Tb.nm
 ·obtain⟨t,ht,rfl⟩:=List.mem_map.1 hm
  rw[rU hT ht,rU hL (h.mem_iff.1 ht)]
 ·rw[qE hm,qE (fun h2=>hm ((h.map Tb.nm).mem_iff.2 h2))]
theorem Nc {T:List Tb} {nm:List UInt8} {k:Nat} (hR:OU T) (h:U1 T nm k):nm∈T.map Tb.nm↔∃x,T[k]?=some x∧x.nm=nm :=
 ⟨fun hm=>by obtain⟨x,hx,e⟩:=List.mem_map.1 hm;exact⟨x,R6 hR h hx e,e⟩,fun ⟨x,hx,e⟩=>List.mem_map.2 ⟨x,aaP hx,e⟩⟩
theorem above {T:List Tb} {nm:List UInt8} {k:Nat} (hR:OU T) (h:U1 T nm k) (hn:nm ∉ T.map Tb.nm) {y:Tb} (hy:y∈T.drop k):Op.bytesLess nm y.nm=true:=by
 obtain⟨i,hi,rfl⟩:=List.getElem_of_mem hy
 rw[List.getElem_drop]
 rw[List.length_drop] at hi
 have hk:k<T.length:=by omega
 have h0:Op.bytesLess nm (T[k]).nm=true:=by
  have h3:=h.2.2 _ (aaf hk)
  cases h4:Op.bytesLess nm (T[k]).nm with
  | true=>rfl
  | false=>exact absurd (List.mem_map.2 ⟨T[k],List.getElem_mem hk,Eo _ _ h3 h4⟩) hn
 rcases aa9 i with h1 | h1
 ·subst h1;exact h0
 ·exact Cn _ _ _ h0 (List.pairwise_iff_getElem.1 hR k (k+i) hk (by omega) (by omega))
theorem QO {T:List Tb} {t:Tb} {k:Nat} (hR:OU T) (h:U1 T t.nm k) (hn:t.nm ∉ T.map Tb.nm):OU (T.take k++t::T.drop k)∧(T.take k++t::T.drop k).Perm (t::T):=by
 refine ⟨?_,List.perm_middle.trans (by rw[List.take_append_drop])⟩
 unfold OU
 rw[List.pairwise_append,List.pairwise_cons]
 refine ⟨hR.sublist (List.take_sublist _ _),⟨fun y hy=>above hR h hn hy,hR.sublist (List.drop_sublist _ _)⟩,fun x hx y hy=>?_⟩
 rcases abg.1 hy with rfl | hy
 ·exact beneath h hx
 ·exact Cn _ _ _ (beneath h hx) (above hR h hn hy)
structure fM (w:World) (rb:Nat) (v:Value) (css:List (List Value)) (T:List Tb) (S:Nat→Prop):Prop where
 box:w.heap[rb]?=some (.cells #[v] 92)
 own:w.ownsRow 0 42 3 v T.length css.flatten
 els:lH 3 fG S w T css
 dh : ∀b,v.ownBlock=some b→S b
 lt : ∀b,S b→b<w.heap.size
 ne : ¬S rb
 VZ:OU T
 ok : ∀t∈T,lK t=true
 six:T.length≤6
theorem fM.keeps {w w':World} {rb:Nat} {v:Value} {css:List (List Value)} {T:List Tb} {S R:Nat→Prop} (h:fM w rb v css T S) (hk:ak R w w') (hR : ∀b,S b→¬R b) (hr : ¬R rb):fM w' rb v css T S :=
 ⟨(hk.block rb (World.lt_of_block h.box) hr).trans h.box,hk.row h.own (fun g hg=>hR g (h.dh g hg)),h.els.to (fun _ _ e=>e.to hk (fun b hb _=>⟨hR b hb,hb⟩)),h.dh,fun b hb=>aa7 (h.lt b hb) hk.size,h.ne,h.VZ,h.ok,h.six⟩
theorem fM.new {w w':World} {rb:Nat} {v:Value} {css:List (List Value)} {T:List Tb} {S:Nat→Prop} (h:fM w rb v css T S) (hb:Below w.heap.size w w'):fM w' rb v css T S :=
 h.keeps (R:=fun _=>False) (ak.aA hb) (fun _ _=>id) id
theorem fM.sl {w:World} {rb:Nat} {v:Value} {css:List (List Value)} {T:List Tb} {S:Nat→Prop} (h:fM w rb v css T S):aM 3 fG S w T v:=aM.iM (by decide) h.own h.els h.dh
theorem fM.cell {w:World} {rb:Nat} {v:Value} {css:List (List Value)} {T:List Tb} {S:Nat→Prop} (h:fM w rb v css T S):w.cell? ⟨rb,0,none⟩=some v:=by rw[aB _ _ _ _ _ _ h.box];rfl
theorem pE : ∀(css:List (List Value)),(∀cs∈css,cs.length=3)→∀(j:Nat) (u:Value),css.flatten[j]?=some u→∃cs,css[j / 3]?=some cs∧cs[j % 3]?=some u
 | [],_,j,u,h=>by simp at h
 |
  c::css,h,j,u,hj=>by
  have hc:=h c (by simp)
  rw[List.flatten_cons] at hj
  rcases Nat.lt_or_ge j 3 with h3 | h3
  ·rw[List.getElem?_append_left (by omega)] at hj
   exact⟨c,by rw[Nat.div_eq_of_lt h3];rfl,by rw[Nat.mod_eq_of_lt h3];exact hj⟩
  ·rw[List.getElem?_append_right (by omega),hc] at hj
   obtain⟨cs,h1,h2⟩:=pE css (fun x hx=>h x (by simp[hx])) (j-3) u hj
   refine ⟨cs,?_,by rw[show j % 3=(j-3) % 3 by omega];exact h2⟩
   rw[show j / 3=(j-3) / 3+1 by omega,List.getElem?_cons_succ]
   exact h1
theorem BF {S:Nat→Prop} {w:World} {T:List Tb} {css:List (List Value)} (h:lH 3 fG S w T css):∀cs∈css,cs.length=3∧∀u∈cs,u.oneCell'=true:=fun cs hc=>by
 obtain⟨j,hj,e⟩:=List.getElem_of_mem hc
 have hx:T[j]?=some (T[j]'(by rw[← h.1];exact hj)):=aaf _
 obtain⟨h1,aa,nn,cc,h2,_⟩:=h.2 j _ cs hx (by rw[aaf hj,e])
 refine ⟨h1,fun u hu=>?_⟩
 rw[h2] at hu
 simp only[abg,List.not_mem_nil,or_false] at hu
 rcases hu with rfl | rfl | rfl<;>rfl
theorem lH.take {S:Nat→Prop} {w:World} {T:List Tb} {css:List (List Value)} (h:lH 3 fG S w T css) (k:Nat):lH 3 fG S w (T.take k) (css.take k) :=
 ⟨by rw[List.length_take,List.length_take,h.1],fun j x cs hx hc=>by
  rw[List.getElem?_take] at hx hc
  split at hx
  ·rename_i hj
   rw[if_pos hj] at hc
   exact h.2 j x cs hx hc
  ·cases hx⟩
theorem lH.drop {S:Nat→Prop} {w:World} {T:List Tb} {css:List (List Value)} (h:lH 3 fG S w T css) (k:Nat):lH 3 fG S w (T.drop k) (css.drop k) :=
 ⟨by rw[List.length_drop,List.length_drop,h.1],fun j x cs hx hc=>by
  rw[List.getElem?_drop] at hx hc
  exact h.2 (k+j) x cs hx hc⟩
theorem lH.append' {S:Nat→Prop} {w:World} {T U:List Tb} {css nY:List (List Value)} (h:lH 3 fG S w T css) (k:lH 3 fG S w U nY):lH 3 fG S w (T++U) (css++nY) :=
 ⟨by rw[aaN,aaN,h.1,k.1],fun j x cs hx hc=>by
  rcases Nat.lt_or_ge j T.length with hj | hj
  ·rw[List.getElem?_append_left hj] at hx
   rw[List.getElem?_append_left (by rw[h.1];exact hj)] at hc
   exact h.2 j x cs hx hc
  ·rw[List.getElem?_append_right hj] at hx
   rw[List.getElem?_append_right (by rw[h.1];exact hj),h.1] at hc
   exact k.2 _ x cs hx hc⟩
theorem yY {w:World} {base n g cap:Nat} {css:List (List Value)} (h:w.ownsRow base 42 3 (.slice (some ⟨g,0,none⟩) n cap) n css.flatten) (hc : ∀cs∈css,cs.length=3) (i m:Nat):∀(j:Nat) (u:Value),((css.drop i).take m).flatten[j]?=some u→w.cell? ((⟨g,i*3,none⟩:Addr).add j)=some u:=fun j u hu=>by
 obtain⟨cs,h1,h2⟩:=pE ((css.drop i).take m) (fun x hx=>hc x (List.mem_of_mem_drop (List.mem_of_mem_take hx))) j u hu
 rw[List.getElem?_take] at h1
 split at h1
 ·rw[List.getElem?_drop] at h1
  have h3:=oJ 3 css hc (i+j / 3) (j % 3) cs u h1 h2
  have h4:=h.cells (g:=g) rfl _ _ h3
  rw[Addr.add_lit] at h4 ⊢
  rw[show i*3+j=0+((i+j / 3)*3+j % 3) by omega]
  exact h4
 ·cases h1
theorem pG {w:World} {base:Nat} {v:Value} {n:Nat} {css:List (List Value)} (hown:w.ownsRow base 42 3 v n css.flatten) (a:Addr) (m c:Nat) (nY:List (List Value)) (hlen:nY.length=m) (h3 : ∀ds∈nY,ds.length=3∧∀u∈ds,u.oneCell'=true)
  (hcells : ∀(j:Nat) (u:Value),nY.flatten[j]?=some u→w.cell? (a.add j)=some u) (hn:n+m≤1000) (hb:base≤w.heap.size) (ty:TypeId) :
  ∃a2 n2 c2 w',(Builtin.append_ #[22,22] ty #[v,.slice (some a) m c]).run Tryz.prog w = .ok (.slice a2 n2 c2) w'∧w'.ownsRow base 42 3 (.slice a2 n2 c2) (n+m) (css++nY).flatten∧ak (fun k=>v.ownBlock=some k) w w':=by
 obtain⟨i0,hi,hy0,hy1,hy2⟩:=info_parts Tryz.Bb
 have hfl:nY.flatten.length=m*3:=by
  rw[← hlen]
  clear hcells hlen
  induction nY with
  | nil=>rfl
  |
   cons d nY ih =>
   rw[List.flatten_cons,aaN,ih (fun x hx=>h3 x (by simp[hx])),(h3 d (by simp)).1,aa1]
   omega
 obtain⟨v',w',hr,ho,hg2,_⟩:=run_append_own (P:=Tryz.prog) w base 22 ty 42 i0 _ 3 48 Tryz.underlying22 hi hy0 hy1 hy2 rfl (by decide) v n _ hown a m c nY.flatten hfl hcells (fun u hu=>by
  obtain⟨ds,h1,h2⟩:=List.mem_flatten.1 hu
  exact (h3 ds h1).2 u h2) (by unfold maxLen;omega) (by omega) hb
 rw[← List.flatten_append] at ho
 obtain⟨a2,n2,c2,rfl⟩:∃a2 n2 c2,v' = .slice a2 n2 c2:=by
  rcases ho.2 with⟨rfl,_⟩ | ⟨_,_,_,rfl,_⟩<;>exact⟨_,_,_,rfl⟩
 exact⟨a2,n2,c2,w',hr,ho,ak.gU (S:=fun k=>v.ownBlock=some k) hg2 (fun k e=>e)⟩
theorem qL {w:World} {base:Nat} {v:Value} {n:Nat} {xs:List Value} (hown:w.ownsRow base 42 3 v n xs) (ty:TypeId):(Builtin.append_ #[22,22] ty #[v,.slice none 0 0]).run Tryz.prog w = .ok v w:=by
 obtain⟨i0,hi,hy0,hy1,hy2⟩:=info_parts Tryz.Bb
 exact run_append_owned_none (P:=Tryz.prog) w base 22 ty 42 i0 3 Tryz.underlying22 hi v n xs hown
theorem LC (w:World):Calls Tryz.prog 16 #[] w fun e w'=>e = .returned (.pointer (some ⟨w.heap.size,0,none⟩))∧fM w' w.heap.size (.slice none 0 0) [] [] (fun _=>False)∧Below w.heap.size w w':=by
 obtain⟨W,hW,hbW,aJ,hcW⟩:=aK w (.cells #[.slice none 0 0] 92)
 have HD:Hid (fM W w.heap.size (.slice none 0 0) [] [] (fun _=>False)):=hid ⟨hcW,World.ownsRow_nil _ _ _ _,lH.nil,(fun b hb=>by cases hb),(fun b hb=>hb.elim),id,List.Pairwise.nil,(fun t ht=>by cases ht),by decide⟩
 have HB:=hid hbW
 clear hbW hcW
 go_enter Tryz.func16,Tryz.ntmps16
 go_wp2
 try rw[hW]
 go_ret
 exact⟨rfl,HD.out,HB.out⟩
theorem zS (rb:Nat) (v:Value) (css:List (List Value)) (T:List Tb) (D:Nat→Prop) (nm:List UInt8) (w:World) (h:fM w rb v css T D) :
  Calls Tryz.prog 27 #[.pointer (some ⟨rb,0,none⟩),.string (aj nm)] w fun e w'=>∃ds:List Value,e = .returned (.tuple #[.agg ds.toArray,.bool (decide (nm∈T.map Tb.nm))])∧Mf w.heap.size w' (fC T nm) ds∧Below w.heap.size w w':=by
 obtain⟨W,hW,hbW,aJ,hcW⟩:=aK w (.cells #[.string ⟨#[]⟩,.slice none 0 0,.int .i64 0] 42)
 have hD:=h.new hbW
 have HAT:=hid (Ir D T nm rb v W hD.cell hD.sl)
 have hcR:=hD.cell
 have HB:=hid hbW
 have rJ:=hid hcW
 have HD:=hid hD
 have HR:=hid h.VZ
 have kZ:=aH hcW
 have HT0:=hid (aN kZ.1)
 have HT1:=hid (aN kZ.2.1)
 have HT2:=hid (aN kZ.2.2.1)
 obtain⟨a1,c1,rfl⟩:=h.sl.form
 by_cases hm:nm∈T.map Tb.nm
 ·rw[aar hm]
  obtain⟨t,ht,rfl⟩:=List.mem_map.1 hm
  rw[rU h.VZ.once ht]
  have h8:=(nS (h.ok t ht)).1.2.1
  have HTI:=hid ht
  have hne:T≠[]:=fun e=>by rw[e] at ht;cases ht
  obtain⟨b,off,c,hv,hlc,hcm,hel⟩:=hD.sl.opened (by decide) hne
  simp only[aah] at hv
  obtain⟨rfl,_,rfl⟩:=hv
  unfold maxLen at hcm
  have vP:=hid hel
  clear h hD hbW hcW hm ht hel hne kZ
  go_enter Tryz.func27,Tryz.ntmps27
  go_wp2_with fail
  try rw[hW]
  refine HAT.out.mono ?_
  rintro e w1 ⟨k,rfl,hat,hw1⟩
  obtain rfl:W=w1:=hw1.symm
  have hx:=R6 HR.out hat HTI.out rfl
  have hk:k<T.length:=(aam.1 hx).1
  obtain⟨cs,hE,hcl⟩:=vP.out k t hx
  have zq:=hid (rY D t cs W hE (by omega))
  obtain⟨aa,nn,cc,rfl,_⟩:=hE
  have p0:=hcl W (Below.refl _ _) 0 _ rfl
  have p1:=hcl W (Below.refl _ _) 1 _ rfl
  have p2:=hcl W (Below.refl _ _) 2 _ rfl
  rw[aa2] at p0
  have hk1:((k:Int)==(T.length:Int))=false:=by
   have:(k:Int)≠(T.length:Int):=by omega
   simpa using this
  have hk2:(k:Int)<(T.length:Int):=by omega
  have Sr:((aj t.nm).toList==(aj t.nm).toList)=true:=by simp
  clear hat hx hcl HAT hW
  go_wp2_with fail
  refine zq.out.mono ?_
  rintro e w3 ⟨ds,rfl,hds,hb3⟩
  have hs3:=hb3.size
  obtain⟨a3,n3,c3,rfl,hown⟩:=hds
  have k3:=aH ((hb3.block w.heap.size (by omega)).trans rJ.out)
  have HB3:=htr HB hb3
  have HOW:=hid hown
  clear hb3 hown zq p0 p1 p2
  go_wp2
  have hSp:ak (fun k=>k=w.heap.size) w3 (((w3.setCell ⟨w.heap.size,0,none⟩ (.string (aj t.nm))).setCell ⟨w.heap.size,1,none⟩ (.slice a3 n3 c3)).setCell ⟨w.heap.size,2,none⟩ (.int .i64 t.pr)):=(((ak.refl (fun k=>k=w.heap.size) w3).own _ _).own _ _).own _ _
  have hB:Below w.heap.size w (((w3.setCell ⟨w.heap.size,0,none⟩ (.string (aj t.nm))).setCell ⟨w.heap.size,1,none⟩ (.slice a3 n3 c3)).setCell ⟨w.heap.size,2,none⟩ (.int .i64 t.pr)):=HB3.out.trans (hSp.below (fun i hi=>by omega) HB3.out.size)
  refine bodyPost_ret (v:=.tuple #[.agg #[.string (aj t.nm),.slice a3 n3 c3,.int .i64 t.pr],.bool true]) (by simp[results,Tryz.results27,go_sem,k3]) rfl ⟨_,rfl,⟨_,_,_,rfl,?_⟩,hB⟩
  exact gM (hSp.row HOW.out (fun g hg=>by have:=(HOW.out.lt g hg).1;omega)) (fun g hg=>by have:=(HOW.out.lt g hg).1;have:=HB.out.size;omega)
 ·rw[aaj hm,qE hm]
  have HM:=hid hm
  clear h hbW hcW hm
  go_enter Tryz.func27,Tryz.ntmps27
  go_wp2_with fail
  try rw[hW]
  refine HAT.out.mono ?_
  rintro e w1 ⟨k,rfl,hat,hw1⟩
  obtain rfl:W=w1:=hw1.symm
  by_cases hk:k=T.length
  ·have hk1:((k:Int)==(T.length:Int))=true:=by simp[hk]
   clear hat hk HAT hW hD
   go_wp2
   rw[HT0.out,HT1.out,HT2.out]
   exact bodyPost_ret (v:=.tuple #[KS,.bool false]) (by simp[results,Tryz.results27,go_sem,kZ]) rfl ⟨_,rfl,j3 _ _ HB.out.size,HB.out⟩
  ·have hkl:k<T.length:=Nat.lt_of_le_of_ne hat.1 hk
   have hk1:((k:Int)==(T.length:Int))=false:=by
    have:(k:Int)≠(T.length:Int):=by omega
    simpa using this
   have hk2:(k:Int)<(T.length:Int):=by omega
   obtain⟨x,hx⟩:∃x,T[k]?=some x:=⟨_,aaf hkl⟩
   have hnx:x.nm≠nm:=fun e=>HM.out (List.mem_map.2 ⟨x,aaP hx,e⟩)
   have Sr:((aj x.nm).toList==(aj nm).toList)=false:=by rw[aS,aS];simp[hnx]
   obtain⟨b,off,c,hv,hlc,hcm,hel⟩:=hD.sl.opened (by decide) (fun e=>by rw[e] at hkl;exact absurd hkl (Nat.not_lt_zero _))
   simp only[aah] at hv
   obtain⟨rfl,_,rfl⟩:=hv
   unfold maxLen at hcm
   obtain⟨cs,hE,hcl⟩:=hel k x hx
   obtain⟨aa,nn,cc,rfl,_⟩:=hE
   have p0:=hcl W (Below.refl _ _) 0 _ rfl
   rw[aa2] at p0
   clear hat hk HAT hW hD hel hcl hx hnx
   go_wp2
   rw[HT0.out,HT1.out,HT2.out]
   exact bodyPost_ret (v:=.tuple #[KS,.bool false]) (by simp[results,Tryz.results27,go_sem,kZ]) rfl ⟨_,rfl,j3 _ _ HB.out.size,HB.out⟩
theorem Kt (g N c k:Nat) (hk:k≤N) (hN:N≤c) (w:World):(Instr.slice 22 (.slice (some ⟨g,0,none⟩) N c) none (some (.int .i64 (k:Int))) none).run Tryz.prog w = .ok (.slice (some ⟨g,0,none⟩) k c) w:=by
 go_simp
 intro h
 omega
theorem EA (g N c k:Nat) (hk:k≤N) (hN:N≤c):∃a,(k<c→a=(⟨g,k*3,none⟩:Addr))∧∀w:World,(Instr.slice 22 (.slice (some ⟨g,0,none⟩) N c) (some (.int .i64 (k:Int))) none none).run Tryz.prog w = .ok (.slice (some a) (N-k) (c-k)) w:=by
 by_cases h:k=c
 ·subst h
  obtain rfl:N=k:=by omega
  refine ⟨⟨g,0,none⟩,fun h=>absurd h (Nat.lt_irrefl _),fun w=>?_⟩
  go_simp
 ·refine ⟨⟨g,k*3,none⟩,fun _=>rfl,fun w=>?_⟩
  go_simp
  intro e
  omega
theorem zA (w:World):(Instr.slice 22 (.slice none 0 0) none (some (.int .i64 0)) none).run Tryz.prog w = .ok (.slice none 0 0) w:=by
 go_simp
theorem vQ (w:World):(Instr.slice 22 (.slice none 0 0) (some (.int .i64 0)) none none).run Tryz.prog w = .ok (.slice none 0 0) w:=by
 go_simp
theorem Mc {w:World} {rb:Nat} {v:Value} {css:List (List Value)} {T:List Tb} {D:Nat→Prop} (h:fM w rb v css T D) {k:Nat} (hk:k≤T.length) :
  ∃x1 y1 z1,(∀W:World,(Instr.slice 22 v none (some (.int .i64 (k:Int))) none).run Tryz.prog W = .ok (.slice x1 y1 z1) W)∧∃a2 n2 c2 w2,(Builtin.append_ #[22,22] 22 #[.slice none 0 0,.slice x1 y1 z1]).run Tryz.prog w = .ok (.slice a2 n2 c2) w2∧w2.ownsRow w.heap.size 42 3 (.slice a2 n2 c2) k (css.take k).flatten∧Below w.heap.size w w2:=by
 have h6:=h.six
 have hcl:=h.els.1
 have hl3:=BF h.els
 have hown:=h.own
 rcases h.own.2 with⟨rfl,h0⟩ | ⟨g,cap,cur,rfl,hb,hg,hnc,hcm,_⟩
 ·obtain rfl:k=0:=by omega
  refine ⟨none,0,0,zA,none,0,0,w,qL (World.ownsRow_nil w 0 _ _) _,?_,Below.refl _ _⟩
  rw[List.take_zero]
  exact World.ownsRow_nil _ _ _ _
 ·obtain⟨a2,n2,c2,w2,h1,h2,h3⟩:=pG (w:=w) (base:=w.heap.size) (css:=[]) (World.ownsRow_nil w w.heap.size _ _) ⟨g,0,none⟩ k cap (css.take k) (by rw[List.length_take];omega) (fun ds hds=>hl3 ds (List.mem_of_mem_take hds)) (fun j u hu=>by
   have:=yY hown (fun cs hc=>(hl3 cs hc).1) 0 k j u (by rw[List.drop_zero];exact hu)
   rw[Nat.zero_mul] at this
   exact this) (by omega) (aaF _) 22
  rw[Nat.zero_add,List.nil_append] at h2
  exact⟨some ⟨g,0,none⟩,k,cap,Kt g T.length cap k hk hnc,a2,n2,c2,w2,h1,h2,h3.below (fun i hi=>by cases hi) (aaF _)⟩
theorem Ju {w:World} {rb:Nat} {v:Value} {css:List (List Value)} {T:List Tb} {D:Nat→Prop} (h:fM w rb v css T D) {k:Nat} (hk:k≤T.length) {base n5:Nat} {x5:Option Addr} {y5 z5:Nat} {nY:List (List Value)} (ho:w.ownsRow base 42 3 (.slice x5 y5 z5) n5 nY.flatten) (hn:n5≤100) (hb:base≤w.heap.size) :
  ∃x1 y1 z1,(∀W:World,(Instr.slice 22 v (some (.int .i64 (k:Int))) none none).run Tryz.prog W = .ok (.slice x1 y1 z1) W)∧∃a2 n2 c2 w2,(Builtin.append_ #[22,22] 22 #[.slice x5 y5 z5,.slice x1 y1 z1]).run Tryz.prog w = .ok (.slice a2 n2 c2) w2∧w2.ownsRow base 42 3 (.slice a2 n2 c2) (n5+(T.length-k)) (nY++css.drop k).flatten∧ak (fun b=>(Value.slice x5 y5 z5).ownBlock=some b) w w2:=by
 have h6:=h.six
 have hcl:=h.els.1
 have hl3:=BF h.els
 have hown:=h.own
 rcases h.own.2 with⟨rfl,h0⟩ | ⟨g,cap,cur,rfl,_,hg,hnc,hcm,_⟩
 ·obtain rfl:k=0:=by omega
  refine ⟨none,0,0,vQ,x5,y5,z5,w,qL ho _,?_,ak.refl _ _⟩
  obtain rfl:css=[]:=aaR (by omega)
  rw[List.drop_nil,List.append_nil,h0,Nat.sub_self,aa2]
  exact ho
 ·obtain⟨a,ha,hs⟩:=EA g T.length cap k hk hnc
  obtain⟨a2,n2,c2,w2,h1,h2,h3⟩:=pG ho a (T.length-k) (cap-k) (css.drop k) (by rw[List.length_drop];omega) (fun ds hds=>hl3 ds (List.mem_of_mem_drop hds)) (fun j u hu=>by
   by_cases hkc:k<cap
   ·rw[ha hkc]
    exact yY hown (fun cs hc=>(hl3 cs hc).1) k (T.length-k) j u (by rw[aaU (by rw[List.length_drop];omega)];exact hu)
   ·have:css.drop k=[]:=List.drop_eq_nil_of_le (by omega)
    rw[this] at hu
    simp at hu) (by omega) hb 22
  exact⟨some a,T.length-k,cap-k,hs,a2,n2,c2,w2,h1,h2,h3⟩
theorem fM.put {w w':World} {rb:Nat} {v v':Value} {css Cb:List (List Value)} {T T':List Tb} {D:Nat→Prop} (h:fM w rb v css T D) (abZ:w'.heap[rb]?=some (.cells #[v'] 92)) (hown:w'.ownsRow w.heap.size 42 3 v' T'.length Cb.flatten)
  (hels:lH 3 fG (fun b=>D b∨(w.heap.size≤b∧b<w'.heap.size)) w' T' Cb) (hs:w.heap.size≤w'.heap.size) (hris:OU T') (hok : ∀t∈T',lK t=true) (acR:T'.length≤6):fM w' rb v' Cb T' (fun b=>D b∨(w.heap.size≤b∧b<w'.heap.size)) :=
 ⟨abZ,gM hown (fun _ _=>aaV _),hels,fun b hb=>.inr (hown.lt b hb),fun b hb=>hb.elim (fun h1=>aa7 (h.lt b h1) hs) (fun h1=>h1.2),fun hb=>hb.elim h.ne (fun h1=>by have:=World.lt_of_block h.box;omega),hris,hok,acR⟩
theorem aaG {w:World} {b:Nat} {a0:Value} {t:TypeId} (h:w.heap[b]?=some (.cells #[a0] t)) (v:Value) :
  ∃X,w.setCell ⟨b,0,none⟩ v=X∧X.heap[b]?=some (.cells #[v] t)∧ak (fun k=>k=b) w X:=by
 refine ⟨_,rfl,?_,(ak.refl (fun k=>k=b) w).own _ _⟩
 rw[setCell_eq_setRow w b 0 _ t _ v h,setRow_heap w b _ _ t _ h]
 simp only[aag,aaw]
theorem Bt {w:World} {g:Nat} {a:Value} {t:TypeId} (h:w.heap[g]?=some (.cells #[a] t)):w.cell? ⟨g,0,none⟩=some a∧∀i,w.frozen? ⟨g,i,none⟩=false :=
 ⟨by rw[aB _ _ _ _ _ _ h];rfl,fun i=>by simp[World.frozen?,h]⟩
end Go.Proofs.YtfeglkleoijlaaaGreatDoor
namespace Go.Proofs.YtfeglkleoijlaaaGreatDoor
open Go.RowKit Go.Shelf
set_option linter.unusedSimpArgs false
set_option linter.unusedVariables false
set_option maxRecDepth 20000
set_option maxHeartbeats 8000000
theorem Jp (n:Int):eY ⟨1,n,[]⟩=0:=by
 have:eqv ⟨1,n,[]⟩ (gN ⟨1,n,[]⟩)=true:=by rw[jB];rfl
 rw[eY,if_neg (by rw[this];simp)]
 rfl
theorem FZ (s:List UInt8):eY ⟨2,0,s⟩=if 40<s.length then 2 else 0:=by
 have:eqv ⟨2,0,s⟩ (gN ⟨2,0,s⟩)=true:=by rw[jB];rfl
 rw[eY,if_neg (by rw[this];simp)]
theorem lT {k n:Int} {s:List UInt8} (h : ¬(k=0∧n=0∧s=[]∨k=1∧s=[]∨k=2∧n=0)):eY ⟨k,n,s⟩=4:=by
 have : ¬eqv ⟨k,n,s⟩ (gN ⟨k,n,s⟩)=true:=by
  rw[jB]
  intro e
  unfold gN at e
  dsimp only at e
  split at e
  ·simp only[Vl.mk.injEq] at e;exact h (.inr (.inl ⟨e.1,e.2.2⟩))
  ·split at e
   ·simp only[Vl.mk.injEq] at e;exact h (.inr (.inr ⟨e.1,e.2.1⟩))
   ·simp only[Vl.mk.injEq] at e;exact h (.inl e)
 rw[eY,if_pos (by simpa using this)]
theorem J5 (s:List UInt8):(aj s).toList.isEmpty=decide (s=[]):=by
 rw[aS]
 cases s<;>simp
theorem FW (k n:Int) (s:List UInt8) (w:World) (hs:s.length≤9223372036854775807) :
  Calls Tryz.prog 157 #[.agg #[.int .i64 k,.int .i64 n,.string (aj s)]] w fun e w'=>e = .returned (.int .i64 (eY ⟨k,n,s⟩))∧Below w.heap.size w w':=by
 have hb:Hid (∀(o:Obj),Below w.heap.size w (w.alloc o)):=hid fun o=>(Below.refl _ _).alloc (aaF _) _
 have he:=J5 s
 by_cases hk0:k<0
 ·have hd:=lT (k:=k) (n:=n) (s:=s) (by omega)
  rw[hd]
  have hk0':decide (k<0)=true:=aar hk0
  clear hd he
  go_enter Tryz.func157,Tryz.ntmps157
  go_wp2
  go_ret
  exact⟨rfl,hb.out _⟩
 ·have hk0':decide (k<0)=false:=aaj hk0
  by_cases hk2:2<k
  ·have hd:=lT (k:=k) (n:=n) (s:=s) (by omega)
   rw[hd]
   have Cj:decide (2<k)=true:=aar hk2
   clear hd he
   go_enter Tryz.func157,Tryz.ntmps157
   go_wp2
   go_ret
   exact⟨rfl,hb.out _⟩
  ·obtain rfl | rfl | rfl:k=0∨k=1∨k=2:=by omega
   ·clear hk0 hk0' hk2
    by_cases hn:n=0
    ·subst hn
     by_cases hs0:s=[]
     ·subst hs0
      rw[show eY ⟨0,0,[]⟩=0 from rfl,show aj []=⟨#[]⟩ from rfl]
      clear he
      go_enter Tryz.func157,Tryz.ntmps157
      go_wp2
      go_ret
      exact⟨rfl,hb.out _⟩
     ·rw[lT (k:=0) (n:=0) (s:=s) (by simp[hs0])]
      rw[aaj hs0] at he
      go_enter Tryz.func157,Tryz.ntmps157
      go_wp2
      go_ret
      exact⟨rfl,hb.out _⟩
    ·rw[lT (k:=0) (n:=n) (s:=s) (by simp[hn])]
     have hn1:(n==0)=false:=by simpa using hn
     have hn2:(n != 0)=true:=by simpa using hn
     clear he
     go_enter Tryz.func157,Tryz.ntmps157
     go_wp2
     go_ret
     exact⟨rfl,hb.out _⟩
   ·clear hk0 hk0' hk2
    by_cases hs0:s=[]
    ·subst hs0
     rw[Jp,show aj []=⟨#[]⟩ from rfl]
     clear he
     go_enter Tryz.func157,Tryz.ntmps157
     go_wp2
     go_ret
     exact⟨rfl,hb.out _⟩
    ·rw[lT (k:=1) (n:=n) (s:=s) (by simp[hs0])]
     rw[aaj hs0] at he
     go_enter Tryz.func157,Tryz.ntmps157
     go_wp2
     go_ret
     exact⟨rfl,hb.out _⟩
   ·clear hk0 hk0' hk2
    by_cases hn:n=0
    ·subst hn
     rw[FZ]
     clear he
     by_cases hl:40<s.length
     ·have hl':(40:Int)<((aj s).size:Int):=by rw[dW];omega
      rw[if_pos hl]
      go_enter Tryz.func157,Tryz.ntmps157
      go_wp2
      go_ret
      exact⟨rfl,hb.out _⟩
     ·have hl' : ¬((40:Int)<((aj s).size:Int)):=by rw[dW];omega
      rw[if_neg hl]
      go_enter Tryz.func157,Tryz.ntmps157
      go_wp2
      go_ret
      exact⟨rfl,hb.out _⟩
    ·rw[lT (k:=2) (n:=n) (s:=s) (by simp[hn])]
     have hn1:(n==0)=false:=by simpa using hn
     have hn2:(n != 0)=true:=by simpa using hn
     clear he
     go_enter Tryz.func157,Tryz.ntmps157
     go_wp2
     go_ret
     exact⟨rfl,hb.out _⟩
theorem LY (c:UInt8):dh gZ c=(decide (97≤c.toNat∧c.toNat≤122)||decide (c.toNat=95)):=by
 have : ∀n:Fin 256,dh gZ (UInt8.ofNat n.1)=(decide (97≤n.1∧n.1≤122)||decide (n.1=95)):=by decide +kernel
 have h:=this ⟨c.toNat,c.toNat_lt⟩
 simpa using h
theorem K8 (c:UInt8):dh fT c=decide (48≤c.toNat∧c.toNat≤57):=by
 have : ∀n:Fin 256,dh fT (UInt8.ofNat n.1)=decide (48≤n.1∧n.1≤57):=by decide +kernel
 have h:=this ⟨c.toNat,c.toNat_lt⟩
 simpa using h
theorem KP (c:UInt8):dh fK c=(dh gZ c||dh fT c):=by
 have : ∀n:Fin 256,dh fK (UInt8.ofNat n.1)=(dh gZ (UInt8.ofNat n.1)||dh fT (UInt8.ofNat n.1)):=by decide +kernel
 have h:=this ⟨c.toNat,c.toNat_lt⟩
 simpa using h
theorem AJ (c:UInt8) (w:World):Calls Tryz.prog 118 #[.int .u8 (c.toNat:Int)] w fun e w'=>e = .returned (.bool (dh gZ c))∧w'=w:=by
 rw[LY]
 generalize c.toNat=n
 by_cases h1:97≤n
 ·have h1':((97:Int)≤(n:Int)):=by omega
  by_cases h2:n≤122
  ·have h2':((n:Int)≤122):=by omega
   rw[aar ⟨h1,h2⟩,Bool.true_or]
   clear h1 h2
   generalize (n:Int)=m at h1' h2' ⊢
   go_enter Tryz.func118,Tryz.ntmps118
   go_wp2
   go_ret
   exact⟨rfl,rfl⟩
  ·have h2' : ¬((n:Int)≤122):=by omega
   have h3:(((n:Int))==95)=false:=by rw[aai];omega
   rw[aaj (fun h=>h2 h.2),aaj (by omega),Bool.false_or]
   clear h1 h2
   generalize (n:Int)=m at h1' h2' h3 ⊢
   go_enter Tryz.func118,Tryz.ntmps118
   go_wp2
   go_ret
   exact⟨rfl,rfl⟩
 ·have h1' : ¬((97:Int)≤(n:Int)):=by omega
  rw[aaj (fun h=>h1 h.1),Bool.false_or]
  by_cases h3:n=95
  ·subst h3
   go_enter Tryz.func118,Tryz.ntmps118
   go_wp2
   go_ret
   exact⟨rfl,rfl⟩
  ·have h3':(((n:Int))==95)=false:=by rw[aai];omega
   rw[aaj h3]
   clear h1 h3
   generalize (n:Int)=m at h1' h3' ⊢
   go_enter Tryz.func118,Tryz.ntmps118
   go_wp2
   go_ret
   exact⟨rfl,rfl⟩
theorem FY (c:UInt8) (w:World):Calls Tryz.prog 155 #[.int .u8 (c.toNat:Int)] w fun e w'=>(∃b,e = .returned b∧(b = .bool true∨b = .bool false))∧w'=w:=by
 generalize c.toNat=n
 by_cases h1:65≤n
 ·have h1':((65:Int)≤(n:Int)):=by omega
  clear h1
  by_cases h2:n≤90
  ·have h2':((n:Int)≤90):=by omega
   clear h2
   generalize (n:Int)=m at h1' h2' ⊢
   go_enter Tryz.func155,Tryz.ntmps155
   go_wp2
   go_ret
   exact⟨⟨_,rfl,.inl rfl⟩,rfl⟩
  ·have h2' : ¬((n:Int)≤90):=by omega
   clear h2
   generalize (n:Int)=m at h1' h2' ⊢
   go_enter Tryz.func155,Tryz.ntmps155
   go_wp2
   go_ret
   exact⟨⟨_,rfl,.inr rfl⟩,rfl⟩
 ·have h1' : ¬((65:Int)≤(n:Int)):=by omega
  clear h1
  generalize (n:Int)=m at h1' ⊢
  go_enter Tryz.func155,Tryz.ntmps155
  go_wp2
  go_ret
  exact⟨⟨_,rfl,.inr rfl⟩,rfl⟩
theorem J3 (c:UInt8) (w:World):Calls Tryz.prog 156 #[.int .u8 (c.toNat:Int)] w fun e w'=>e = .returned (.bool (dh fT c))∧w'=w:=by
 rw[K8]
 generalize c.toNat=n
 by_cases h1:48≤n
 ·have h1':((48:Int)≤(n:Int)):=by omega
  by_cases h2:n≤57
  ·have h2':((n:Int)≤57):=by omega
   rw[aar ⟨h1,h2⟩]
   clear h1 h2
   generalize (n:Int)=m at h1' h2' ⊢
   go_enter Tryz.func156,Tryz.ntmps156
   go_wp2
   go_ret
   exact⟨rfl,rfl⟩
  ·have h2' : ¬((n:Int)≤57):=by omega
   rw[aaj (fun h=>h2 h.2)]
   clear h1 h2
   generalize (n:Int)=m at h1' h2' ⊢
   go_enter Tryz.func156,Tryz.ntmps156
   go_wp2
   go_ret
   exact⟨rfl,rfl⟩
 ·have h1' : ¬((48:Int)≤(n:Int)):=by omega
  rw[aaj (fun h=>h1 h.1)]
  clear h1
  generalize (n:Int)=m at h1' ⊢
  go_enter Tryz.func156,Tryz.ntmps156
  go_wp2
  go_ret
  exact⟨rfl,rfl⟩
theorem LU (s:List UInt8) (w:World) (hs:s.length≤140737488351232) :
  Calls Tryz.prog 119 #[.string (aj s),.int .i64 0,.int .i64 1] w fun e w'=>e = .returned (.int .i64 (row (dh fK) s:Nat))∧w'=w:=by
 have hsz:(aj s).size=s.length:=rfl
 have HL:=hid (fun c=>AJ c w)
 have HU:=hid (fun c=>FY c w)
 have HD:=hid (fun c=>J3 c w)
 go_enter Tryz.func119,Tryz.ntmps119
 go_wp2_with fail
 go_loopw [7,8,9,10] (fun i _ _ _ wr=>∃k:Nat,k≤s.length∧i = .int .i64 k∧wr=w∧Hid (row (dh fK) s=k+row (dh fK) (s.drop k))) (fun i _ _ _ _=>s.length-(intOf i).toNat)
 case atStart=>exact⟨0,aaV _,rfl,rfl,hid (by simp)⟩
 case round =>
  obtain⟨k,hk,rfl,rfl,HR⟩:=hrel
  by_cases hlt:k<s.length
  ·obtain⟨c,hc⟩:∃c,s[k]?=some c:=⟨_,aaf hlt⟩
   have hix:=BN s k c hc
   have hd:s.drop k=c::s.drop (k+1):=by
    obtain⟨h1,h2⟩:=aam.1 hc
    rw[List.drop_eq_getElem_cons h1,h2]
   have hlt':((k:Int)<((aj s).size:Int)):=by rw[hsz];omega
   have h1:=HL.out c
   have h2:=HU.out c
   have h3:=HD.out c
   have hnb:=KP c
   cases hl:dh gZ c with
   |
    true =>
    rw[hl] at h1 hnb
    have HR2:Hid (row (dh fK) s=(k+1)+row (dh fK) (s.drop (k+1))):=hid (by rw[HR.out,hd,gL (by rw[hnb];rfl)];omega)
    obtain⟨bd,hbd⟩:∃b,dh fT c=b:=⟨_,rfl⟩
    rw[hbd] at h3
    clear HR hd hc hl hnb hbd
    go_wp2_with (first
     | (go_at_call 118;refine h1.mono ?_;rintro e w1 ⟨rfl,rfl⟩)
     | (go_at_call 155;refine h2.mono ?_;rintro e w1 ⟨⟨bu,rfl,hbu⟩,rfl⟩;clear hbu)
     | (go_at_call 156;refine h3.mono ?_;rintro e w1 ⟨rfl,rfl⟩))
    go_roundw
    case rel=>exact⟨k+1,by omega,by go_num,by first | rfl | trivial,HR2⟩
    case measure=>simp[intOf];omega
   |
    false =>
    rw[hl] at h1 hnb
    cases hdg:dh fT c with
    |
     true =>
     rw[hdg] at h3 hnb
     have HR2:Hid (row (dh fK) s=(k+1)+row (dh fK) (s.drop (k+1))):=hid (by rw[HR.out,hd,gL (by rw[hnb];rfl)];omega)
     clear HR hd hc hl hnb hdg
     go_wp2_with (first
      | (go_at_call 118;refine h1.mono ?_;rintro e w1 ⟨rfl,rfl⟩)
      | (go_at_call 155;refine h2.mono ?_;rintro e w1 ⟨⟨bu,rfl,hbu⟩,rfl⟩;clear hbu)
      | (go_at_call 156;refine h3.mono ?_;rintro e w1 ⟨rfl,rfl⟩))
     go_roundw
     case rel=>exact⟨k+1,by omega,by go_num,by first | rfl | trivial,HR2⟩
     case measure=>simp[intOf];omega
    |
     false =>
     rw[hdg] at h3 hnb
     have HR2:Hid (row (dh fK) s=k):=hid (by rw[HR.out,hd,iJ (by rw[hnb];rfl)];omega)
     clear HR hd hc hl hnb hdg
     go_wp2_with (first
      | (go_at_call 118;refine h1.mono ?_;rintro e w1 ⟨rfl,rfl⟩)
      | (go_at_call 155;refine h2.mono ?_;rintro e w1 ⟨⟨bu,rfl,hbu⟩,rfl⟩;clear hbu)
      | (go_at_call 156;refine h3.mono ?_;rintro e w1 ⟨rfl,rfl⟩))
     go_ret
     exact⟨by rw[HR2.out];rfl,rfl⟩
  ·have hlt' : ¬((k:Int)<((aj s).size:Int)):=by rw[hsz];omega
   have HR2:Hid (row (dh fK) s=s.length):=hid (by rw[HR.out,List.drop_of_length_le (by omega),Ih];omega)
   have hkl:k=s.length:=by omega
   subst hkl
   clear HR
   go_wp2
   go_ret
   exact⟨by rw[HR2.out];rfl,rfl⟩
theorem fA (s:List UInt8) (w:World) (hs:s.length≤9223372036854775807):Calls Tryz.prog 67 #[.string (aj s)] w fun e w'=>e = .returned (.bool (aU s))∧Below w.heap.size w w':=by
 have hsz:(aj s).size=s.length:=rfl
 have hem:=bf s
 unfold aU
 by_cases h0:s=[]
 ·subst h0
  rw[show (decide (0<([]:List UInt8).length)&&_)=false from rfl]
  go_enter Tryz.func67,Tryz.ntmps67
  go_wp2
  go_ret
  exact⟨rfl,Below.refl _ _⟩
 ·rw[aaj h0] at hem
  have hpos:0<s.length:=List.length_pos_iff.2 h0
  rw[aar hpos,aaA]
  by_cases h1:s.length≤16
  ·rw[aar h1,aaA]
   have h1':(((aj s).size:Int)≤16):=by rw[hsz];omega
   obtain⟨c,hc⟩:∃c,s[0]?=some c:=⟨_,aaf hpos⟩
   have hhd:s.headD 0=c:=by
    cases s with
    | nil=>exact absurd rfl h0
    | cons x l=>simpa using hc
   have hix : ∀w,(Instr.index 9 (.string (aj s)) (.int .i64 0)).run Tryz.prog w = .ok (.int .u8 (c.toNat:Int)) w:=BN s 0 c hc
   have HL:=hid (fun V=>AJ c V)
   have YF:=hid (fun V=>LU s V (by omega))
   rw[hhd]
   cases hl:dh gZ c with
   |
    false =>
    rw[hl] at HL
    rw[aaz]
    clear hhd hl hc h0 hpos h1 hs
    go_enter Tryz.func67,Tryz.ntmps67
    go_wp2_with fail
    refine (HL.out _).mono ?_
    rintro e w1 ⟨rfl,rfl⟩
    go_wp2
    go_ret
    exact⟨rfl,Below.refl _ _⟩
   |
    true =>
    rw[hl] at HL
    rw[aaA]
    have hrl:=uf (dh fK) s
    generalize row (dh fK) s=r at YF hrl ⊢
    by_cases hr:r=s.length
    ·rw[aar hr]
     have hr':(((r:Nat):Int)==((aj s).size:Int))=true:=by rw[hsz,beq_iff_eq];omega
     clear hhd hl hc h0 hpos h1 hs hr hrl
     generalize ((r:Nat):Int)=r' at YF hr'
     go_enter Tryz.func67,Tryz.ntmps67
     go_wp2_with fail
     refine (HL.out _).mono ?_
     rintro e w1 ⟨rfl,rfl⟩
     go_wp2_with fail
     refine (YF.out _).mono ?_
     rintro e w1 ⟨rfl,rfl⟩
     go_wp2
     go_ret
     exact⟨by rw[hsz] at hr';simp[hr'],Below.refl _ _⟩
    ·rw[aaj hr]
     have hr':(((r:Nat):Int)==((aj s).size:Int))=false:=by rw[hsz,aai];omega
     clear hhd hl hc h0 hpos h1 hs hr hrl
     generalize ((r:Nat):Int)=r' at YF hr'
     go_enter Tryz.func67,Tryz.ntmps67
     go_wp2_with fail
     refine (HL.out _).mono ?_
     rintro e w1 ⟨rfl,rfl⟩
     go_wp2_with fail
     refine (YF.out _).mono ?_
     rintro e w1 ⟨rfl,rfl⟩
     go_wp2
     go_ret
     exact⟨by rw[hsz] at hr';simp[hr'],Below.refl _ _⟩
  ·rw[aaj h1,aaz]
   have h1' : ¬(((aj s).size:Int)≤16):=by rw[hsz];omega
   clear h1 h0 hpos hs
   go_enter Tryz.func67,Tryz.ntmps67
   go_wp2
   go_ret
   exact⟨rfl,Below.refl _ _⟩
theorem xu (k n:Int) (s:List UInt8) (w:World) (h1 : -9223372036854775808≤n) (h2:n≤9223372036854775807) (hs:s.length≤9223372036854775807) :
  Calls Tryz.prog 121 #[.agg #[.int .i64 k,.int .i64 n,.string (aj s)]] w fun e w'=>e = .returned (.bool (dV ⟨k,n,s⟩))∧Below w.heap.size w w':=by
 obtain⟨W,hW,hbW,aJ,hcW⟩:=aK w (.cells #[.int .i64 k,.int .i64 n,.string (aj s)] 46)
 have k0:=iZ hcW
 have HR:=hid (FW k n s W hs)
 have HB:=hid hbW
 have HC:=hid hcW
 have hd:dV ⟨k,n,s⟩=(decide (eY ⟨k,n,s⟩=0)&&decide (n≠-9223372036854775808)):=by
  unfold dV
  dsimp only
  congr 1
  rw[Bool.eq_iff_iff,aaI,aaI]
  omega
 rw[hd]
 clear hd hbW hcW
 by_cases h0:eY ⟨k,n,s⟩=0
 ·rw[h0] at HR
  rw[aar h0,aaA]
  clear h0
  by_cases hm:n = -9223372036854775808
  ·have hm':(n != -9223372036854775808)=false:=by rw[hm];rfl
   rw[aaj (fun h=>h hm)]
   clear hm h1 h2
   go_enter Tryz.func121,Tryz.ntmps121
   go_wp2_with fail
   refine HR.out.mono ?_
   rintro e w1 ⟨rfl,hb1⟩
   have k1:=iZ ((hb1.block w.heap.size aJ).trans HC.out)
   have HB1:=htr HB hb1
   clear hb1 HR
   go_wp2
   go_ret
   exact⟨rfl,HB1.out⟩
  ·have hm':(n != -9223372036854775808)=true:=by rw[bne_iff_ne];exact hm
   rw[aar hm]
   clear hm h1 h2
   go_enter Tryz.func121,Tryz.ntmps121
   go_wp2_with fail
   refine HR.out.mono ?_
   rintro e w1 ⟨rfl,hb1⟩
   have k1:=iZ ((hb1.block w.heap.size aJ).trans HC.out)
   have HB1:=htr HB hb1
   clear hb1 HR
   go_wp2
   go_ret
   exact⟨rfl,HB1.out⟩
 ·rw[aaj h0,aaz]
  have h0':(((eY ⟨k,n,s⟩:Nat):Int)==0)=false:=by rw[aai];omega
  generalize ((eY ⟨k,n,s⟩:Nat):Int)=r at HR h0'
  clear h0 h1 h2
  go_enter Tryz.func121,Tryz.ntmps121
  go_wp2_with fail
  refine HR.out.mono ?_
  rintro e w1 ⟨rfl,hb1⟩
  have HB1:=htr HB hb1
  clear hb1 HR
  go_wp2
  go_ret
  exact⟨rfl,HB1.out⟩
theorem Ay (S:Nat→Prop) (xs:List Ex) (v:Value) (w:World) (hx:bA S w xs v)
  (HF:Hid (∀y∈xs,∀u V,gH S V y u→Calls Tryz.prog 122 #[u] V fun e w'=>e = .returned (.bool (aF y))∧Below V.heap.size V w')) :
  Calls Tryz.prog 123 #[v] w fun e w'=>e = .returned (.bool (xs.all aF))∧Below w.heap.size w w':=by
 have hsl:=eZ hx
 have HV:=hid hsl
 obtain⟨aa,cc,css,rfl,h1,h2,_⟩:=hsl
 unfold maxLen at h2
 obtain⟨X,hX⟩:∃X,xs.all aF=X:=⟨_,rfl⟩
 rw[hX]
 have HX:=hid hX
 clear hX hx
 go_enter Tryz.func123,Tryz.ntmps123
 go_wp2_with fail
 go_loopw [3,4] (fun i _ wr=>∃(j:Nat),j≤xs.length∧i = .int .i64 j∧Below w.heap.size w wr∧Hid ((xs.take j).all aF=true)) (fun i _ _=>xs.length-(intOf i).toNat)
 case atStart=>exact⟨0,aaV _,rfl,Below.refl _ _,hid rfl⟩
 case round =>
  obtain⟨j,hj,rfl,hbel,HK⟩:=hrel
  by_cases hlt:j<xs.length
  ·have hlt':((j:Int)<(xs.length:Int)):=by omega
   obtain⟨y,hy⟩:∃y,xs[j]?=some y:=⟨_,aaf hlt⟩
   obtain⟨_,_,_,b,off,cs,rfl,_,hel,hcell⟩:=bC (HV.out.to (T:=S) (by decide) (R:=fun _=>False) (ak.aA hbel) (fun b hb _=>⟨id,hb⟩) (fun _ _ e=>e.to (R:=fun _=>False) (ak.aA hbel) (fun b hb _=>⟨id,hb⟩))) hy
   have HC:=hid (HF.out y (aaP hy) _ wr hel.v)
   have HT:Hid ((xs.take (j+1)).all aF=((xs.take j).all aF&&aF y)):=hid (by
    obtain⟨h1,h2⟩:=aam.1 hy
    rw[aaJ h1,h2,List.all_append]
    simp)
   have HM:=hid (aaP hy)
   obtain⟨k1,op1,dN,fU,fJ,fI,vs1,ys1,eD,dF,eB,_,rfl,_⟩:=hel
   have q0:=hcell 0 _ rfl
   have q1:=hcell 1 _ rfl
   have q2:=hcell 2 _ rfl
   have q3:=hcell 3 _ rfl
   have q4:=hcell 4 _ rfl
   have q5:=hcell 5 _ rfl
   have q6:=hcell 6 _ rfl
   have q7:=hcell 7 _ rfl
   simp only[aa2] at q0
   have nZ:=hid hbel
   clear hbel hcell hy
   cases hp:aF y with
   |
    true =>
    rw[hp] at HC HT
    have mE:Hid ((xs.take (j+1)).all aF=true):=hid (by rw[HT.out,HK.out];rfl)
    clear HK hp HT HM
    go_wp2_with fail
    refine HC.out.mono ?_
    rintro e w2 ⟨rfl,hb2⟩
    have HB2:=htr nZ hb2
    clear hb2 HC
    go_wp2
    go_roundw
    case rel=>exact⟨j+1,by omega,by go_num,HB2.out,mE⟩
    case measure=>simp[intOf];omega
   |
    false =>
    rw[hp] at HC
    have bE:Hid (X=false):=hid (by
     rw[← HX.out,Bool.eq_false_iff]
     intro h
     have:=List.all_eq_true.1 h y HM.out
     rw[hp] at this
     cases this)
    clear HK hp HT HM
    go_wp2_with fail
    refine HC.out.mono ?_
    rintro e w2 ⟨rfl,hb2⟩
    have HB2:=htr nZ hb2
    clear hb2 HC
    go_wp2
    go_ret
    exact⟨by rw[bE.out];rfl,HB2.out⟩
  ·have hlt' : ¬((j:Int)<(xs.length:Int)):=by omega
   have dz:Hid (X=true):=hid (by
    rw[← HX.out]
    have:=HK.out
    rw[aaU (by omega)] at this
    exact this)
   have HB2:=hid hbel
   clear hbel HK
   go_wp2
   go_ret
   exact⟨by rw[dz.out];rfl,HB2.out⟩
end Go.Proofs.YtfeglkleoijlaaaGreatDoor
