/- Packed for the hand-in: WGiveS WRg CDef CPure -/
import Derived.Test.YtaaggohjmhifbaaGreatDoorP32
import Derived.Test.YtaaggohjmhifbaaGreatDoorP31
import Derived.Test.YtaaggohjmhifbaaGreatDoorP24
import Derived.Test.YtaaggohjmhifbaaGreatDoorP23
import Derived.Lib.SlBy2
namespace Go.Proofs.YtaaggohjmhifbaaGreatDoor
set_option linter.unusedSimpArgs false
set_option linter.unusedVariables false
set_option maxHeartbeats 8000000
variable {N : Nat}
theorem Giv.bindN {α β:Type} {p:Pa α} {q:α→Pa β} {Q:α→Nat→Prop} {R:β→Nat→Prop} (hp:Giv N p Q) (hq : ∀a n,Q a n→Giv N (q a) (fun b m=>R b (n+m))) (hn : ∀a,Nice false 2001 (q a)):Giv N (bindP p q) R:=hp.bind hq (fun a=>nice_monoB (hn a))
theorem giv_list {α:Type} {one:Pa α} {more:Pa Bool} {P:α→Nat→Prop} (hP : ∀a n m,P a n→n≤m→P a m) (h1:Giv N one P) (h2:Giv N more (fun _ _=>True)) (n1:Nice false 2001 one) (n2:Nice false 2001 more) :
  ∀(m:Nat) (acc:List α) (k:Nat),(∀a∈acc,P a k)→Giv N (listL one more m acc) (fun l n=>(∀a∈l,P a (k+n))∧acc.length+1≤l.length∧l.length≤acc.length+m)
 | 0,acc,k,hacc=>(giv_fail (by decide) (Q:=fun _ _=>False)).bindN (fun a n h=>h.elim) (fun _=>nice_ret _)
 |
  m+1,acc,k,hacc=>by
  have hadd : ∀(x:α) (n j:Nat),P x n→∀a∈acc++[x],P a (k+n+j):=fun x n j hx a ha=>by
   rcases List.mem_append.1 ha with ha | ha
   ·exact hP _ _ _ (hacc a ha) (by omega)
   ·rw[List.mem_singleton] at ha
    subst ha
    exact hP _ _ _ hx (by omega)
  refine h1.bindN (fun x n hx=>h2.bindN (fun b j _=>?_) (fun b=>?_)) (fun x=>n2.bind fun b=>?_)
  ·split
   ·refine (giv_list hP h1 h2 n1 n2 m (acc++[x]) (k+n) (hadd x n 0 hx)).mp ?_
    rintro l i ⟨ha,hb,hc⟩
    simp only[List.length_append,List.length_cons,List.length_nil] at hb hc
    exact⟨fun a h=>hP _ _ _ (ha a h) (by omega),by omega,by omega⟩
   ·refine giv_ret _ ⟨fun a ha=>hP _ _ _ (hadd x n 0 hx a ha) (by omega),by simp,by simp⟩
  ·split
   ·exact nice_list n1 n2 m _
   ·exact nice_ret _
  ·split
   ·exact nice_list n1 n2 m _
   ·exact nice_ret _
theorem giv_skip (t:List UInt8):Giv N (skipP t) (fun _ _=>True):=giv_if (giv_ret _ trivial) (giv_ret _ trivial)
theorem nice_skipF (t:List UInt8):Nice false 2001 (skipP t):=nice_skip _ (fun h=>by cases h)
theorem giv_comma:Giv N commaP (fun _ _=>True):=giv_skip _
theorem giv_semi:Giv N semiP (fun _ _=>True):=giv_skip _
theorem giv_musts : ∀l:List (List UInt8),Giv N (mustsP l) (fun _ _=>True)
 | []=>giv_ret _ trivial
 | t::l=>giv_must.bindN (fun _ n _=>(giv_musts l).mp fun _ _ _=>trivial) (fun _=>nice_musts l)
theorem giv_part {read:Pa Ex} {P:Ex→Nat→Prop} (hP : ∀a n m,P a n→n≤m→P a m) (h:Giv N read P) (nr:Nice false 2001 read) (w:List UInt8) (ws:List (List UInt8)):Giv N (partP read w ws) (fun l n=>l.length≤1∧∀x∈l,P x n) :=
 giv_if ((giv_musts ws).bindN (fun _ n _=>h.bindN (fun e m he=>giv_ret _ ⟨Nat.le_refl _,fun x hx=>by
  rw[List.mem_singleton] at hx
  subst hx
  exact hP _ _ _ he (by omega)⟩) (fun e=>nice_ret _)) (fun _=>nr.bind fun e=>nice_ret _)) (giv_ret _ ⟨Nat.zero_le _,fun x hx=>by cases hx⟩)
theorem giv_column:Giv N columnP (fun c _=>colB c=true):=by
 unfold columnP
 have n4 : ∀(nm:List UInt8) (k:Int) (nn:Bool),Nice false 2001 (bindP (skipP [85,78,73,81,85,69]) fun uq=>retP (⟨nm,k,nn,uq⟩:Co)):=fun nm k nn=>(nice_skipF _).bind fun uq=>nice_ret _
 have n3 : ∀(nm:List UInt8) (k:Int),Nice false 2001 (bindP (ifP [78,79,84] (bindP (mustP [78,85,76,76]) fun _=>retP true) (retP false)) fun nn=>bindP (skipP [85,78,73,81,85,69]) fun uq=>retP (⟨nm,k,nn,uq⟩:Co)):=fun nm k=>(nice_if _ (fun h=>by cases h) ((nice_must _).bind fun _=>nice_ret _).ok (nice_ret _)).bind fun nn=>n4 nm k nn
 have n2 : ∀(nm:List UInt8) (k:Int),Nice false 2001 (bindP (if k=0 then failP 4 else retP ()) fun _=>bindP (ifP [78,79,84] (bindP (mustP [78,85,76,76]) fun _=>retP true) (retP false)) fun nn=>bindP (skipP [85,78,73,81,85,69]) fun uq=>retP (⟨nm,k,nn,uq⟩:Co)):=fun nm k=>NiceAt.bind (by
  split
  ·exact nice_fail 4 (by decide)
  ·exact nice_ret _) fun _=>n3 nm k
 refine giv_name.bindN (fun nm n hn=>(giv_choose kindsB).bindN (fun k m hk=>Giv.bindN (Q:=fun _ _=>k≠0) ?_ (fun _ i hk0=>?_) (fun _=>n3 nm k)) (fun k=>n2 nm k)) (fun nm=>(nice_choose _ (fun h=>by cases h)).bind fun k=>n2 nm k)
 ·split
  ·exact giv_fail (by decide)
  ·rename_i h0
   exact giv_ret _ h0
 ·have hc : ∀nn uq,colB ⟨nm,k,nn,uq⟩=true:=fun nn uq=>by
   have hk12:=(hk.resolve_left hk0).1
   have:k=1∨k=2:=by simpa [kindsB] using hk12
   unfold colB
   dsimp only
   rw[hn.1]
   simp[this]
  refine Giv.bindN (Q:=fun _ _=>True) (giv_if (giv_must.bindN (fun _ _ _=>giv_ret _ trivial) (fun _=>nice_ret _)) (giv_ret _ trivial)) (fun nn _ _=>(giv_skip _).bindN (fun uq _ _=>giv_ret _ (hc nn uq)) (fun uq=>nice_ret _)) (fun nn=>n4 nm k nn)
theorem areB_of {α:Type} {l:List α} {a b:Nat} {p:α→Bool} (h1:a≤l.length) (h2:l.length≤b) (h : ∀x∈l,p x=true):areB l a b p=true:=by
 unfold areB
 simp only[Bool.and_eq_true,decide_eq_true_eq,List.all_eq_true]
 exact⟨⟨h1,h2⟩,h⟩
theorem giv_values:Giv N valuesP (fun l _=>rowB l=true):=by
 unfold valuesP
 refine giv_must.bindN (fun _ n _=>(giv_list (P:=fun v _=>valOk v=true) (fun a n m h _=>h) (giv_lit.mp fun v n h=>h.1) giv_comma nice_lit nice_comma 8 [] 0 (fun a ha=>by cases ha)).bindN (fun l m hl=>giv_must.bindN (fun _ i _=>giv_ret _ (areB_of hl.2.1 hl.2.2 hl.1)) (fun _=>nice_ret _)) (fun l=>(nice_must _).bind fun _=>nice_ret _)) (fun _=>(nice_list nice_lit nice_comma 8 []).bind fun l=>(nice_must _).bind fun _=>nice_ret _)
def StQ (s:St) (n:Nat):Prop:=rightS s=true∧∀e∈exsS s,exZ e≤n
theorem giv_create:Giv N createP StQ:=by
 unfold createP
 refine giv_must.bindN (fun _ _ _=>giv_name.bindN (fun tb _ ht=>giv_must.bindN (fun _ _ _=>(giv_list (P:=fun v _=>colB v=true) (fun a n m h _=>h) giv_column (giv_if (Q:=fun _ _=>True) (Giv.bindN (Q:=fun _ _=>True) ⟨fun r h=>h,fun r hr _ _ _=>⟨hr,rfl,0,Nat.le_refl _,trivial⟩⟩ (fun b _ _=>giv_ret _ trivial) (fun b=>nice_ret _)) ((giv_fail (by decide) (Q:=fun _ _=>True)).bindN (fun _ _ _=>giv_ret _ trivial) (fun _=>nice_ret _))) nice_column nice_moreColumns 8 [] 0 (fun a ha=>by cases ha)).bindN (fun cs _ hc=>(giv_musts _).bindN (fun _ _ _=>giv_name.bindN (fun pr _ hp=>(giv_musts _).bindN (fun _ _ _=>giv_ret _ ?_) (fun _=>nice_ret _)) (fun pr=>(nice_musts _).bind fun _=>nice_ret _)) (fun _=>nice_name.bind fun pr=>(nice_musts _).bind fun _=>nice_ret _)) (fun cs=>(nice_musts _).bind fun _=>nice_name.bind fun pr=>(nice_musts _).bind fun _=>nice_ret _)) (fun _=>(nice_list nice_column nice_moreColumns 8 []).bind fun cs=>(nice_musts _).bind fun _=>nice_name.bind fun pr=>(nice_musts _).bind fun _=>nice_ret _)) (fun tb=>(nice_must _).bind fun _=>(nice_list nice_column nice_moreColumns 8 []).bind fun cs=>(nice_musts _).bind fun _=>nice_name.bind fun pr=>(nice_musts _).bind fun _=>nice_ret _)) (fun _=>nice_name.bind fun tb=>(nice_must _).bind fun _=>(nice_list nice_column nice_moreColumns 8 []).bind fun cs=>(nice_musts _).bind fun _=>nice_name.bind fun pr=>(nice_musts _).bind fun _=>nice_ret _)
 refine ⟨?_,fun e he=>by simp[exsS,zSt] at he⟩
 have h8:areB cs 1 8 colB=true:=areB_of hc.2.1 hc.2.2 hc.1
 unfold rightS kindB
 simp only[if_pos]
 rw[h8,hp.1,ht.1]
 rfl
theorem giv_drop:Giv N dropP StQ:=by
 unfold dropP
 refine giv_must.bindN (fun _ _ _=>giv_name.bindN (fun tb _ ht=>giv_ret _ ⟨?_,fun e he=>by simp[exsS,zSt] at he⟩) (fun tb=>nice_ret _)) (fun _=>nice_name.bind fun tb=>nice_ret _)
 show (true&&(nameOk tb&&_))=true
 rw[ht.1]
 rfl
theorem giv_insert:Giv N insertP StQ:=by
 unfold insertP
 refine giv_must.bindN (fun _ _ _=>giv_name.bindN (fun tb _ ht=>giv_must.bindN (fun _ _ _=>(giv_list (P:=fun v _=>rowB v=true) (fun a n m h _=>h) giv_values giv_comma nice_values nice_comma 16 [] 0 (fun a ha=>by cases ha)).bindN (fun rs _ hr=>giv_ret _ ⟨?_,fun e he=>by simp[exsS,zSt] at he⟩) (fun rs=>nice_ret _)) (fun _=>(nice_list nice_values nice_comma 16 []).bind fun rs=>nice_ret _)) (fun tb=>(nice_must _).bind fun _=>(nice_list nice_values nice_comma 16 []).bind fun rs=>nice_ret _)) (fun _=>nice_name.bind fun tb=>(nice_must _).bind fun _=>(nice_list nice_values nice_comma 16 []).bind fun rs=>nice_ret _)
 show (areB rs 1 16 rowB&&(nameOk tb&&_))=true
 rw[areB_of (a:=1) (b:=16) hr.2.1 hr.2.2 hr.1,ht.1]
 rfl
theorem exq_mono : ∀a n m,ExQ a n→n≤m→ExQ a m:=fun a n m h hm=>h.mono hm
def SeQ (s:Se) (n:Nat):Prop:=setB s=true∧exZ s.e≤n
def ItQ (i:It) (n:Nat):Prop:=itB i=true∧∀e∈i.xs,exZ e≤n
theorem giv_set {ex:Pa Ex} (h:Giv N ex ExQ) (nx:Nice false 2001 ex):Giv N (setP ex) SeQ:=by
 unfold setP
 refine giv_name.bindN (fun nm n hn=>giv_must.bindN (fun _ m _=>h.bindN (fun e i he=>giv_ret _ ⟨?_,?_⟩) (fun e=>nice_ret _)) (fun _=>nx.bind fun e=>nice_ret _)) (fun nm=>(nice_must _).bind fun _=>nx.bind fun e=>nice_ret _)
 ·unfold setB
  dsimp only
  rw[hn.1,he.1]
  rfl
 ·show exZ e≤_
  have:=he.2
  omega
theorem giv_update {ex:Pa Ex} (h:Giv N ex ExQ) (nx:Nice false 2001 ex):Giv N (updateP ex) StQ:=by
 unfold updateP
 refine giv_name.bindN (fun tb n1 ht=>giv_must.bindN (fun _ n2 _=>(giv_list (P:=SeQ) (fun a n m h hm=>⟨h.1,Nat.le_trans h.2 hm⟩) (giv_set h nx) giv_comma (nice_set nx) nice_comma 8 [] 0 (fun a ha=>by cases ha)).bindN (fun ss n3 hs=>(giv_part exq_mono h nx _ _).bindN (fun wh n4 hw=>giv_ret _ ⟨?_,?_⟩) (fun wh=>nice_ret _)) (fun ss=>(nice_part nx _ _ (by decide)).bind fun wh=>nice_ret _)) (fun _=>(nice_list (nice_set nx) nice_comma 8 []).bind fun ss=>(nice_part nx _ _ (by decide)).bind fun wh=>nice_ret _)) (fun tb=>(nice_must _).bind fun _=>(nice_list (nice_set nx) nice_comma 8 []).bind fun ss=>(nice_part nx _ _ (by decide)).bind fun wh=>nice_ret _)
 ·show ((areB ss 1 8 setB&&areB wh 0 1 rightE)&&(nameOk tb&&_))=true
  rw[areB_of (a:=1) (b:=8) hs.2.1 hs.2.2 (fun x hx=>(hs.1 x hx).1),areB_of (Nat.zero_le _) hw.1 (fun x hx=>(hw.2 x hx).1),ht.1]
  rfl
 ·intro e he
  have he':e∈ss.map (fun x=>x.e)++wh:=by simpa [exsS,zSt] using he
  rcases List.mem_append.1 he' with he | he
  ·obtain⟨x,hx,rfl⟩:=List.mem_map.1 he
   have:=(hs.1 x hx).2
   omega
  ·have:=(hw.2 e he).2
   omega
theorem giv_delete {ex:Pa Ex} (h:Giv N ex ExQ) (nx:Nice false 2001 ex):Giv N (deleteP ex) StQ:=by
 unfold deleteP
 refine giv_must.bindN (fun _ n1 _=>giv_name.bindN (fun tb n2 ht=>(giv_part exq_mono h nx _ _).bindN (fun wh n4 hw=>giv_ret _ ⟨?_,?_⟩) (fun wh=>nice_ret _)) (fun tb=>(nice_part nx _ _ (by decide)).bind fun wh=>nice_ret _)) (fun _=>nice_name.bind fun tb=>(nice_part nx _ _ (by decide)).bind fun wh=>nice_ret _)
 ·show (areB wh 0 1 rightE&&(nameOk tb&&_))=true
  rw[areB_of (Nat.zero_le _) hw.1 (fun x hx=>(hw.2 x hx).1),ht.1]
  rfl
 ·intro e he
  have he':e∈wh:=by simpa [exsS,zSt] using he
  have:=(hw.2 e he').2
  omega
theorem giv_item {ex:Pa Ex} (h:Giv N ex ExQ) (nx:Nice false 2001 ex):Giv N (itemP ex) ItQ:=by
 unfold itemP
 have n1 : ∀i:It,Nice false 2001 (bindP (mustP [41]) fun _=>retP i):=fun i=>(nice_must _).bind fun _=>nice_ret _
 have n2 : ∀(k:Int) (b:Bool),Nice false 2001 (bindP (if b=true then retP ⟨3,[]⟩ else bindP ex fun e=>retP (⟨k,[e]⟩:It)) fun i=>bindP (mustP [41]) fun _=>retP i):=fun k b=>NiceAt.bind (by
  split
  ·exact nice_ret _
  ·exact nx.bind fun e=>nice_ret _) n1
 have n3 : ∀(k:Int),Nice false 2001 (bindP (if k=4 then skipP [42] else retP false) fun b=>bindP (if b=true then retP ⟨3,[]⟩ else bindP ex fun e=>retP (⟨k,[e]⟩:It)) fun i=>bindP (mustP [41]) fun _=>retP i):=fun k=>NiceAt.bind (by
  split
  ·exact nice_skipF _
  ·exact nice_ret _) (n2 k)
 have hone : ∀(k:Int) (e:Ex) (n:Nat),(k=2∨k=4∨k=5∨k=6∨k=7)→ExQ e n→ItQ ⟨k,[e]⟩ n:=fun k e n hk he=>by
  refine ⟨?_,fun x hx=>by rw[List.mem_singleton.1 hx];exact he.2⟩
  unfold itB
  dsimp only
  rw[if_neg (by omega),if_pos hk]
  exact areB_of (Nat.le_refl _) (Nat.le_refl _) (fun x hx=>by rw[List.mem_singleton.1 hx];exact he.1)
 refine giv_if (giv_ret _ ⟨rfl,fun e he=>by cases he⟩) ((giv_choose itemsB).bindN (fun k m hk=>?_) (fun k=>?_))
 ·split
  ·exact h.bindN (fun e i he=>giv_ret _ (hone 2 e _ (.inl rfl) (he.mono (by omega)))) (fun e=>nice_ret _)
  ·rename_i h0
   have hk4:k=4∨k=5∨k=6∨k=7:=by
    have:=(hk.resolve_left h0).1
    simpa [itemsB] using this
   refine giv_must.bindN (fun _ n1' _=>Giv.bindN (Q:=fun _ _=>True) ?_ (fun b n2' _=>Giv.bindN (Q:=fun i n=>ItQ i n) ?_ (fun i n3' hi=>giv_must.bindN (fun _ n4' _=>giv_ret _ ⟨hi.1,fun e he=>Nat.le_trans (hi.2 e he) (by omega)⟩) (fun _=>nice_ret _)) n1) (n2 k)) (fun _=>n3 k)
   ·split
    ·exact giv_skip _
    ·exact giv_ret _ trivial
   ·split
    ·exact giv_ret _ ⟨rfl,fun e he=>by cases he⟩
    ·exact h.bindN (fun e i he=>giv_ret _ (hone k e _ (.inr hk4) (he.mono (by omega)))) (fun e=>nice_ret _)
 ·split
  ·exact nx.bind fun e=>nice_ret _
  ·exact (nice_must _).bind fun _=>n3 k
theorem giv_join {ex:Pa Ex} (h:Giv N ex ExQ) (nx:Nice false 2001 ex):Giv N (joinP ex) (fun j n=>noeB j.1=true∧areB j.2 (joinN j.1) (joinN j.1) rightE=true∧∀e∈j.2,exZ e≤n):=by
 unfold joinP
 refine giv_if (giv_name.bindN (fun j n1 hj=>giv_must.bindN (fun _ n2 _=>h.bindN (fun e n3 he=>giv_ret _ ⟨?_,?_,fun x hx=>by rw[List.mem_singleton.1 hx];have:=he.2;omega⟩) (fun e=>nice_ret _)) (fun _=>nx.bind fun e=>nice_ret _)) (fun j=>(nice_must _).bind fun _=>nx.bind fun e=>nice_ret _)) (giv_ret _ ⟨rfl,rfl,fun e he=>by cases he⟩)
 ·unfold noeB
  dsimp only
  rw[hj.1]
  simp
 ·have:joinN j=1:=if_neg (name_ne hj.1)
  dsimp only
  rw[this]
  exact areB_of (Nat.le_refl _) (Nat.le_refl _) (fun x hx=>by rw[List.mem_singleton.1 hx];exact he.1)
theorem giv_select {ex:Pa Ex} (h:Giv N ex ExQ) (nx:Nice false 2001 ex):Giv N (selectP ex) StQ:=by
 unfold selectP
 have hcol:Giv N colP (fun e n=>ExQ e n∧colEB e=true):=giv_col
 have hcm : ∀(a:Ex) (n m:Nat),(ExQ a n∧colEB a=true)→n≤m→(ExQ a m∧colEB a=true):=fun a n m h hm=>⟨h.1.mono hm,h.2⟩
 have n1 : ∀(its:List It) (tb:List UInt8) (j:List UInt8 × List Ex) (wh gr od:List Ex) (de:Bool),Nice false 2001 (bindP (ifP [76,73,77,73,84] numP (retP (-1))) fun li=>retP { zSt 6 with tb:=tb,items:=its,jn:=j.1,on:=j.2,wh:=wh,gr:=gr,od:=od,desc:=de,lim:=li }):=fun its tb j wh gr od de=>(nice_if _ (fun h=>by cases h) nice_num.ok (nice_ret _)).bind fun li=>nice_ret _
 have n2 : ∀(its:List It) (tb:List UInt8) (j:List UInt8 × List Ex) (wh gr od:List Ex),Nice false 2001 (bindP (if od.length=0 then retP false else skipP [68,69,83,67]) fun de=>bindP (ifP [76,73,77,73,84] numP (retP (-1))) fun li=>retP { zSt 6 with tb:=tb,items:=its,jn:=j.1,on:=j.2,wh:=wh,gr:=gr,od:=od,desc:=de,lim:=li }):=fun its tb j wh gr od=>NiceAt.bind (by
  split
  ·exact nice_ret _
  ·exact nice_skipF _) (n1 its tb j wh gr od)
 refine (giv_list (P:=ItQ) (fun a n m h hm=>⟨h.1,fun e he=>Nat.le_trans (h.2 e he) hm⟩) (giv_item h nx) giv_comma (nice_item nx) nice_comma 8 [] 0 (fun a ha=>by cases ha)).bindN (fun its m1 hi=>giv_must.bindN (fun _ m2 _=>giv_name.bindN (fun tb m3 ht=>(giv_join h nx).bindN (fun j m4 hj=>(giv_part exq_mono h nx _ _).bindN (fun wh m5 hw=>(giv_part hcm hcol nice_col _ _).bindN (fun gr m6 hg=>(giv_part hcm hcol nice_col _ _).bindN (fun od m7 ho=>Giv.bindN (Q:=fun de _=>(!de||decide (od.length=1))=true) ?_ (fun de m8 hde=>Giv.bindN (Q:=fun li _=>-1≤li∧li≤9223372036854775807) (giv_if (giv_num.mp fun n m h=>⟨by omega,h.1.2⟩) (giv_ret _ (by decide))) (fun li m9 hli=>giv_ret _ ⟨?_,?_⟩) (fun li=>nice_ret _)) (n1 its tb j wh gr od)) (n2 its tb j wh gr)) (fun gr=>(nice_part nice_col _ _ (by decide)).bind (n2 its tb j wh gr))) (fun wh=>(nice_part nice_col _ _ (by decide)).bind fun gr=>(nice_part nice_col _ _ (by decide)).bind (n2 its tb j wh gr))) (fun j=>(nice_part nx _ _ (by decide)).bind fun wh=>(nice_part nice_col _ _ (by decide)).bind fun gr=>(nice_part nice_col _ _ (by decide)).bind (n2 its tb j wh gr)))
   (fun tb=>(nice_join nx).bind fun j=>(nice_part nx _ _ (by decide)).bind fun wh=>(nice_part nice_col _ _ (by decide)).bind fun gr=>(nice_part nice_col _ _ (by decide)).bind (n2 its tb j wh gr)))
   (fun _=>nice_name.bind fun tb=>(nice_join nx).bind fun j=>(nice_part nx _ _ (by decide)).bind fun wh=>(nice_part nice_col _ _ (by decide)).bind fun gr=>(nice_part nice_col _ _ (by decide)).bind (n2 its tb j wh gr)))
   (fun its=>(nice_must _).bind fun _=>nice_name.bind fun tb=>(nice_join nx).bind fun j=>(nice_part nx _ _ (by decide)).bind fun wh=>(nice_part nice_col _ _ (by decide)).bind fun gr=>(nice_part nice_col _ _ (by decide)).bind (n2 its tb j wh gr))
 ·split
  ·exact giv_ret _ rfl
  ·rename_i h0
   have:od.length=1:=by have:=ho.1;omega
   exact (giv_skip _).mp fun b n _=>by rw[this];simp
 ·show ((areB its 1 8 itB&&(noeB j.1&&(areB j.2 (joinN j.1) (joinN j.1) rightE&&(areB wh 0 1 rightE&&(areB gr 0 1 colEB&&(areB od 0 1 colEB&&((!de||decide (od.length=1))&&decide (-1≤li∧li≤9223372036854775807))))))))&&(nameOk tb&&_))=true
  rw[areB_of (a:=1) (b:=8) hi.2.1 hi.2.2 (fun x hx=>(hi.1 x hx).1),hj.1,hj.2.1,areB_of (Nat.zero_le _) hw.1 (fun x hx=>(hw.2 x hx).1),areB_of (Nat.zero_le _) hg.1 (fun x hx=>(hg.2 x hx).2),areB_of (Nat.zero_le _) ho.1 (fun x hx=>(ho.2 x hx).2),hde,decide_eq_true hli,ht.1]
  rfl
 ·intro e he
  have he':e∈its.flatMap (fun i=>i.xs)++(j.2++(wh++(gr++od))):=by simpa [exsS,zSt] using he
  rcases List.mem_append.1 he' with he | he
  ·obtain⟨x,hx,hxe⟩:=List.mem_flatMap.1 he
   have:=(hi.1 x hx).2 e hxe
   omega
  rcases List.mem_append.1 he with he | he
  ·have:=hj.2.2 e he
   omega
  rcases List.mem_append.1 he with he | he
  ·have:=(hw.2 e he).2
   omega
  rcases List.mem_append.1 he with he | he
  ·have:=(hg.2 e he).1.2
   omega
  ·have:=(ho.2 e he).1.2
   omega
theorem stq_mono : ∀a n m,StQ a n→n≤m→StQ a m:=fun a n m h hm=>⟨h.1,fun e he=>Nat.le_trans (h.2 e he) hm⟩
theorem giv_state {ex:Pa Ex} (h:Giv N ex ExQ) (nx:Nice false 2001 ex):Giv N (stateP ex) StQ:=by
 unfold stateP
 refine (giv_choose statesB).bindN (fun k n hk=>?_) (fun k=>?_)
 ·split
  ·exact giv_create.mp fun a m h=>stq_mono _ _ _ h (by omega)
  split
  ·exact giv_drop.mp fun a m h=>stq_mono _ _ _ h (by omega)
  split
  ·exact giv_insert.mp fun a m h=>stq_mono _ _ _ h (by omega)
  split
  ·exact (giv_update h nx).mp fun a m h=>stq_mono _ _ _ h (by omega)
  split
  ·exact (giv_delete h nx).mp fun a m h=>stq_mono _ _ _ h (by omega)
  split
  ·exact (giv_select h nx).mp fun a m h=>stq_mono _ _ _ h (by omega)
  ·exact (giv_fail (by decide) (Q:=fun _ _=>False)).bindN (fun _ _ h=>h.elim) (fun _=>nice_ret _)
 ·split
  ·exact nice_create
  split
  ·exact nice_drop
  split
  ·exact nice_insert
  split
  ·exact nice_update nx
  split
  ·exact nice_delete nx
  split
  ·exact nice_select nx
  ·exact (nice_fail 4 (by decide)).bind fun _=>nice_ret _
theorem scriptP_right (F:Nat) (hnx:Nice false 2001 (exprP F)) (r:Rd) (h1:TkAll r) (h2:r.d=0) (hb:(scriptP F r).2.bad=0):areB (scriptP F r).1 1 8 rightS=true∧∀x∈(scriptP F r).1,∀e∈exsS x,exZ e≤r.ts.length:=by
 have hb1:(listL (stateP (exprP F)) semiP 8 [] r).2.bad=0:=(end_ok (r:=(listL (stateP (exprP F)) semiP 8 [] r).2) hb).1
 obtain⟨_,_,n,h3,h4,h5,h6⟩:=(giv_list (P:=StQ) stq_mono (giv_state (giv_expr F) hnx) giv_semi (nice_state hnx) nice_semi 8 [] 0 (fun a ha=>by cases ha)).giv r h1 (by omega) (by omega) hb1
 refine ⟨areB_of h5 h6 (fun x hx=>(h4 x hx).1),fun x hx e he=>Nat.le_trans ((h4 x hx).2 e he) (by omega)⟩
theorem script_right {s:List UInt8} (h:(scriptA s).2.1=0):areB (scriptA s).1 1 8 rightS=true∧∀x∈(scriptA s).1,∀e∈exsS x,exZ e≤2001:=by
 have hg:=start_good s
 have ht:=start_tks s
 have hd:(startR s).d=0:=rfl
 unfold scriptA at h ⊢
 generalize startR s=r at hg ht hd h ⊢
 by_cases hb:(scriptP 2001 r).2.bad=0
 ·rw[if_pos hb]
  obtain⟨h1,h2⟩:=scriptP_right 2001 nice_expr r ht hd hb
  exact⟨h1,fun x hx e he=>Nat.le_trans (h2 x hx e he) hg.many⟩
 ·rw[if_neg hb] at h
  exact absurd h hb
theorem srcA_cases (L:List Tk) (m:Int):((srcA L m).2=10∨(srcA L m).2=2)∨(srcA L m=(Lib.join (wrs L) [32],0)∧m≤10∧(Lib.join (wrs L) [32]).length≤2000):=by
 unfold srcA
 by_cases h1:10<m
 ·rw[if_pos h1];exact .inl (.inl rfl)
 ·rw[if_neg h1]
  by_cases h2:2000<(Lib.join (wrs L) [32]).length
  ·rw[if_pos h2];exact .inl (.inr rfl)
  ·rw[if_neg h2];exact .inr ⟨rfl,by omega,by omega⟩
theorem script_plain {l:List St} (h:areB l 1 8 rightS=true):((scrA l).2=10∨(scrA l).2=2)∨((scrA l).2=0∧scriptA (scrA l).1=(l,0,0)∧(scrA l).1.length≤2000):=by
 unfold scrA
 rw[if_neg (by have:=(areB_len h).2;omega),if_pos h]
 rcases srcA_cases (sepK (fxT [59]) (l.map tkS)) ((maxL (l.map dpS):Nat):Int) with h1 | ⟨h1,h2,h3⟩
 ·exact .inl h1
 ·rw[h1]
  refine .inr ⟨rfl,script_text h (fun s hs=>maxL_le (show maxL (l.map dpS)≤10 by omega) _ (List.mem_map.2 ⟨s,hs,rfl⟩)) (AllG.sep (good_fx (by decide)) (fun x hx=>?_)) h3,h3⟩
  obtain⟨s,hs,rfl⟩:=List.mem_map.1 hx
  exact state_good (areB_mem h s hs)
end Go.Proofs.YtaaggohjmhifbaaGreatDoor
namespace Go.Proofs.YtaaggohjmhifbaaGreatDoor
open Go.RowKit Go.Shelf
set_option linter.unusedSimpArgs false
set_option linter.unusedVariables false
set_option maxRecDepth 20000
set_option maxHeartbeats 8000000
structure Tb where
 nm:List UInt8
 cols:List Co
 pr:Int
def zTb:Tb:=⟨[],[],0⟩
def nmAt (l:List Co) (i:Nat):List UInt8:=(l[i]?.map Co.nm).getD []
def createS (t:Tb):St:={ zSt 1 with tb:=t.nm,cols:=t.cols,prim:=nmAt t.cols t.pr.toNat }
def idxN (l:List Co) (nm:List UInt8):Nat:=l.findIdx fun c=>decide (c.nm=nm)
def keyC (c:Co):Co:={ c with nn:=true,uq:=true }
def keyed (l:List Co) (p:Nat):List Co:=l.modify p keyC
def eqC (a b:Co):Bool:=decide (a.nm=b.nm∧a.k=b.k∧a.nn=b.nn∧a.uq=b.uq)
theorem eqC_iff (a b:Co):eqC a b=true↔a=b:=by
 obtain⟨a1,a2,a3,a4⟩:=a
 obtain⟨b1,b2,b3,b4⟩:=b
 simp[eqC]
theorem allEq_iff : ∀(xs ys:List Co),Lib.allEq eqC xs ys=true↔xs=ys
 | [],[]=>by simp[Lib.allEq]
 | [],y::ys=>by simp[Lib.allEq]
 | x::xs,[]=>by simp[Lib.allEq]
 |
  x::xs,y::ys=>by
  rw[Lib.allEq,Bool.and_eq_true,eqC_iff,allEq_iff xs ys,List.cons.injEq]
theorem idxN_at {l:List Co} {nm:List UInt8} (h:idxN l nm<l.length):(l[idxN l nm]'h).nm=nm:=by
 have:=List.findIdx_getElem (w:=h) (p:=fun c:Co=>decide (c.nm=nm))
 exact of_decide_eq_true this
theorem idxN_first {l:List Co} {nm:List UInt8} {j:Nat} (h:j<idxN l nm) (hj:j<l.length):(l[j]'hj).nm≠nm:=fun e=>by
 have:=List.not_of_lt_findIdx (p:=fun c:Co=>decide (c.nm=nm)) h
 simp[e] at this
theorem idxN_lt {l:List Co} {nm:List UInt8} {j:Nat} (hj:j<l.length) (h:(l[j]'hj).nm=nm):idxN l nm≤j:=by
 rcases Nat.lt_or_ge j (idxN l nm) with h1 | h1
 ·exact absurd h (idxN_first h1 hj)
 ·exact h1
theorem idxN_nodup {l:List Co} (hn:(l.map Co.nm).Nodup) {j:Nat} (hj:j<l.length):idxN l (l[j]'hj).nm=j:=by
 have h1:=idxN_lt hj (rfl:(l[j]'hj).nm=_)
 have h2:idxN l (l[j]'hj).nm<l.length:=by omega
 have h3:=idxN_at h2
 have h4:(l.map Co.nm)[idxN l (l[j]'hj).nm]'(by simpa using h2)=(l.map Co.nm)[j]'(by simpa using hj):=by simpa using h3
 exact (List.getElem_inj hn).1 h4
theorem nodup_of_first {l:List Co} (h : ∀j (hj:j<l.length),idxN l (l[j]'hj).nm=j):(l.map Co.nm).Nodup:=by
 rw[List.nodup_iff_pairwise_ne,List.pairwise_iff_getElem]
 intro i j hi hj hij e
 simp only[List.getElem_map] at e
 simp only[List.length_map] at hi hj
 have h1:=h i hi
 have h2:=h j hj
 rw[e,h2] at h1
 omega
theorem keyed_len (l:List Co) (p:Nat):(keyed l p).length=l.length:=by simp[keyed]
theorem keyed_at (l:List Co) (p j:Nat):(keyed l p)[j]?=if p=j then l[j]?.map keyC else l[j]?:=by
 unfold keyed
 rw[List.getElem?_modify]
 split
 ·rfl
 ·simp
theorem keyed_nms (l:List Co) (p:Nat):(keyed l p).map Co.nm=l.map Co.nm:=by
 apply List.ext_getElem?
 intro j
 rw[List.getElem?_map,List.getElem?_map,keyed_at]
 split
 ·cases l[j]?<;>rfl
 ·rfl
theorem keyed_twice (l:List Co) (p:Nat):keyed (keyed l p) p=keyed l p:=by
 apply List.ext_getElem?
 intro j
 rw[keyed_at,keyed_at]
 split
 ·cases l[j]?<;>rfl
 ·rfl
theorem findIdx_nms (nm:List UInt8):∀l:List Co,idxN l nm=(l.map Co.nm).findIdx fun x=>decide (x=nm)
 | []=>rfl
 |
  c::l=>by
  unfold idxN
  rw[List.map_cons,List.findIdx_cons,List.findIdx_cons,← findIdx_nms nm l]
  rfl
theorem keyed_idx (l:List Co) (p:Nat) (nm:List UInt8):idxN (keyed l p) nm=idxN l nm:=by
 rw[findIdx_nms,findIdx_nms,keyed_nms]
theorem keyed_mem {l:List Co} {p:Nat} {c:Co} (h:c∈keyed l p):∃d∈l,c.nm=d.nm∧c.k=d.k:=by
 obtain⟨j,hj⟩:=List.getElem?_of_mem h
 rw[keyed_at] at hj
 split at hj
 ·cases hl:l[j]? with
  | none=>rw[hl] at hj;cases hj
  |
   some d =>
   rw[hl,Option.map_some,Option.some.injEq] at hj
   subst hj
   exact⟨d,List.mem_of_getElem? hl,rfl,rfl⟩
 ·exact⟨c,List.mem_of_getElem? hj,rfl,rfl⟩
theorem nmAt_nms {l m:List Co} (h:l.map Co.nm=m.map Co.nm) (i:Nat):nmAt l i=nmAt m i:=by
 unfold nmAt
 rw[← List.getElem?_map,← List.getElem?_map,h]
theorem nmAt_lt {l:List Co} {i:Nat} (h:i<l.length):nmAt l i=(l[i]'h).nm:=by
 unfold nmAt
 rw[List.getElem?_eq_getElem h]
 rfl
def makeA (s:St):Tb × Int :=
 if s.k=1∧rightS s=true then
  if (s.cols.map Co.nm).Nodup then
   (if idxN s.cols s.prim<s.cols.length then (⟨s.tb,keyed s.cols (idxN s.cols s.prim),(idxN s.cols s.prim:Nat)⟩,0) else (zTb,12))
  else (zTb,13)
 else (zTb,4)
def mayB (t:Tb):Bool:=decide (0≤t.pr∧t.pr<t.cols.length)&&(decide ((makeA (createS t)).2=0)&&Lib.allEq eqC (makeA (createS t)).1.cols t.cols)
def srcT (t:Tb):List UInt8 × Int:=if mayB t=true then scrA [createS t] else ([],4)
def readA (s:List UInt8):Tb × Int :=
 if (scriptA s).2.1=0∧(scriptA s).1.length=1 then
  (if (makeA ((scriptA s).1.headD (zSt 0))).2=0 then (if (srcT (makeA ((scriptA s).1.headD (zSt 0))).1).1=s then ((makeA ((scriptA s).1.headD (zSt 0))).1,0) else (zTb,4)) else (zTb,4))
 else (zTb,4)
theorem make_ok {s:St} (h:(makeA s).2=0):s.k=1∧rightS s=true∧(s.cols.map Co.nm).Nodup∧idxN s.cols s.prim<s.cols.length∧makeA s=(⟨s.tb,keyed s.cols (idxN s.cols s.prim),(idxN s.cols s.prim:Nat)⟩,0):=by
 unfold makeA at h ⊢
 by_cases h1:s.k=1∧rightS s=true
 ·rw[if_pos h1] at h ⊢
  by_cases h2:(s.cols.map Co.nm).Nodup
  ·rw[if_pos h2] at h ⊢
   by_cases h3:idxN s.cols s.prim<s.cols.length
   ·rw[if_pos h3] at h ⊢
    exact⟨h1.1,h1.2,h2,h3,rfl⟩
   ·rw[if_neg h3] at h;cases h
  ·rw[if_neg h2] at h;cases h
 ·rw[if_neg h1] at h;cases h
theorem right_create {s:St} (hk:s.k=1) (h:rightS s=true):areB s.cols 1 8 colB=true∧nameOk s.prim=true∧nameOk s.tb=true:=by
 unfold rightS kindB at h
 rw[if_pos hk] at h
 simp only[Bool.and_eq_true] at h
 exact⟨h.1.1,h.1.2,h.2.1⟩
theorem create_right {t:Tb} (h1:areB t.cols 1 8 colB=true) (h2:nameOk (nmAt t.cols t.pr.toNat)=true) (h3:nameOk t.nm=true):rightS (createS t)=true:=by
 unfold rightS kindB
 rw[if_pos (show (createS t).k=1 from rfl)]
 simp only[Bool.and_eq_true]
 refine ⟨⟨h1,h2⟩,h3,?_⟩
 unfold restS
 rw[if_pos (show (createS t).k=1 from rfl)]
 simp[createS,zSt,empS]
theorem make_again {s:St} (h:(makeA s).2=0):makeA (createS (makeA s).1)=makeA s:=by
 obtain⟨hk,hr,hn,hi,e⟩:=make_ok h
 obtain⟨r1,r2,r3⟩:=right_create hk hr
 rw[e]
 generalize hp:idxN s.cols s.prim=p at *
 have hpr:nmAt (keyed s.cols p) p=s.prim:=by
  rw[nmAt_nms (keyed_nms s.cols p),nmAt_lt hi]
  have:=idxN_at (l:=s.cols) (nm:=s.prim) (by rw[hp];exact hi)
  simp only[hp] at this
  exact this
 have hcr:createS ⟨s.tb,keyed s.cols p,(p:Nat)⟩ = { zSt 1 with tb:=s.tb,cols:=keyed s.cols p,prim:=s.prim }:=by
  unfold createS
  dsimp only
  rw[Int.toNat_natCast,hpr]
 have hri:rightS (createS ⟨s.tb,keyed s.cols p,(p:Nat)⟩)=true:=by
  refine create_right ?_ ?_ r3
  ·refine areB_of (by rw[keyed_len];exact (areB_len r1).1) (by rw[keyed_len];exact (areB_len r1).2) (fun c hc=>?_)
   obtain⟨d,hd,e1,e2⟩:=keyed_mem hc
   have:=areB_mem r1 d hd
   unfold colB at this ⊢
   rw[e1,e2]
   exact this
  ·dsimp only
   rw[Int.toNat_natCast,hpr]
   exact r2
 unfold makeA
 rw[if_pos ⟨rfl,hri⟩,hcr]
 dsimp only
 rw[keyed_nms,if_pos hn,keyed_idx,hp,keyed_len,if_pos hi,keyed_twice]
theorem make_may {s:St} (h:(makeA s).2=0):mayB (makeA s).1=true:=by
 have ha:=make_again h
 obtain⟨hk,hr,hn,hi,e⟩:=make_ok h
 unfold mayB
 rw[ha,h,decide_eq_true (rfl:(0:Int)=0),(allEq_iff _ _).2 rfl,Bool.true_and,Bool.and_true]
 rw[e]
 dsimp only
 rw[keyed_len]
 exact decide_eq_true ⟨by omega,by omega⟩
theorem may_make {t:Tb} (h:mayB t=true):makeA (createS t)=(t,0):=by
 unfold mayB at h
 simp only[Bool.and_eq_true,decide_eq_true_eq] at h
 obtain⟨⟨h1,h2⟩,h3,h4⟩:=h
 obtain⟨hk,hr,hn,hi,e⟩:=make_ok h3
 have hc:=(allEq_iff _ _).1 h4
 rw[e] at hc ⊢
 obtain⟨nm,cols,pr⟩:=t
 dsimp only[createS] at *
 obtain⟨p,rfl⟩:=Int.eq_ofNat_of_zero_le h1
 have hp:p<cols.length:=by omega
 have e1:idxN cols (nmAt cols p)=p:=by
  rw[nmAt_lt hp]
  exact idxN_nodup hn hp
 rw[Int.toNat_natCast,e1] at hc ⊢
 rw[hc]
theorem join_bound (n:Nat):∀(l:List (List UInt8)),(∀x∈l,x.length≤n)→(Lib.join l [32]).length≤l.length*(n+1)
 | [],_=>by simp[Lib.join_nil]
 |
  [x],h=>by
  rw[Lib.join_one]
  have:=h x (by simp)
  simp
  omega
 |
  x::y::l,h=>by
  have ih:=join_bound n (y::l) (fun z hz=>h z (by simp at hz ⊢;exact .inr hz))
  have hx:=h x (by simp)
  have e:Lib.join (x::y::l) [32]=x++32::Lib.join (y::l) [32]:=by
   rw[Lib.join_cons,Lib.join_cons]
   simp[Lib.joinTail]
  rw[e]
  simp only[List.length_append,List.length_cons] at ih ⊢
  rw[Nat.add_mul (l.length+1) 1]
  omega
def Sh (t:Tk):Prop:=(t.k=1∨t.k=2∨t.k=5)∧t.s.length≤16
theorem sh_fx {s:List UInt8} (h:s.length≤16):Sh (fxT s):=by
 unfold fxT
 split
 ·exact⟨.inr (.inl rfl),h⟩
 ·exact⟨.inr (.inr rfl),h⟩
theorem sh_nm {s:List UInt8} (h:nameOk s=true):Sh (nmT s):=⟨.inl rfl,nameOk_len h⟩
theorem sh_words {l:List (List UInt8)} (h : ∀s∈l,s.length≤16):∀t∈wordsK l,Sh t:=fun t ht=>by
 obtain⟨s,hs,rfl⟩:=List.mem_map.1 ht
 exact sh_fx (h s hs)
theorem sh_wr {t:Tk} (h:Sh t):(wr t).length≤16:=by
 unfold wr
 rw[if_neg (by rcases h.1 with e | e | e<;>rw[e]<;>decide),if_neg (by rcases h.1 with e | e | e<;>rw[e]<;>decide)]
 exact h.2
theorem sh_sep {sep:Tk} (hs:Sh sep):∀{l:List (List Tk)},(∀x∈l,∀t∈x,Sh t)→∀t∈sepK sep l,Sh t
 | [],_,t,ht=>by cases ht
 | [x],h,t,ht=>h x (by simp) t (by simpa [sepK] using ht)
 |
  x::y::l,h,t,ht=>by
  have e:sepK sep (x::y::l)=x++sep::sepK sep (y::l):=rfl
  rw[e] at ht
  rcases List.mem_append.1 ht with ht | ht
  ·exact h x (by simp) t ht
  ·rcases List.mem_cons.1 ht with rfl | ht
   ·exact hs
   ·exact sh_sep hs (fun z hz=>h z (by simp at hz ⊢;exact .inr hz)) t ht
theorem sh_col {c:Co} (h:colB c=true):∀t∈colK c,Sh t:=fun t ht=>by
 unfold colB at h
 rw[Bool.and_eq_true] at h
 unfold colK at ht
 rcases List.mem_cons.1 ht with rfl | ht
 ·exact sh_nm h.1
 ·rcases List.mem_cons.1 ht with rfl | ht
  ·split<;>exact sh_fx (by decide)
  ·rcases List.mem_append.1 ht with ht | ht
   ·split at ht
    ·exact sh_words (by decide) t ht
    ·cases ht
   ·split at ht
    ·exact sh_words (by decide) t ht
    ·cases ht
theorem sh_create {s:St} (hk:s.k=1) (h:rightS s=true):∀t∈tkS s,Sh t:=fun t ht=>by
 obtain⟨h1,h2,h3⟩:=right_create hk h
 unfold tkS at ht
 rw[if_pos hk] at ht
 unfold crK at ht
 rcases List.mem_append.1 ht with ht | ht
 ·exact sh_words (by decide) t ht
 ·rcases List.mem_cons.1 ht with rfl | ht
  ·exact sh_nm h3
  ·rcases List.mem_cons.1 ht with rfl | ht
   ·exact sh_fx (by decide)
   ·rcases List.mem_append.1 ht with ht | ht
    ·refine sh_sep (sh_fx (by decide)) (fun x hx=>?_) t ht
     obtain⟨c,hc,rfl⟩:=List.mem_map.1 hx
     exact sh_col (areB_mem h1 c hc)
    ·rcases List.mem_append.1 ht with ht | ht
     ·exact sh_words (by decide) t ht
     ·rcases List.mem_cons.1 ht with rfl | ht
      ·exact sh_nm h2
      ·exact sh_words (by decide) t ht
theorem create_len {s:St} (hk:s.k=1) (h:rightS s=true):(tkS s).length≤61:=by
 obtain⟨h1,h2,h3⟩:=right_create hk h
 have hc:=sepK_le (fxT [44]) colK 5 s.cols (fun c _=>colK_le c)
 have h8:=(areB_len h1).2
 unfold tkS
 rw[if_pos hk]
 unfold crK wordsK
 simp only[List.length_append,List.length_cons,List.length_map,List.length_nil]
 omega
theorem create_areB {s:St} (h:rightS s=true):areB [s] 1 8 rightS=true:=by
 unfold areB
 simp[h]
theorem create_zero {s:St} (hk:s.k=1) (h:rightS s=true):(scrA [s]).2=0∧(scrA [s]).1.length≤2000:=by
 have hA:=create_areB h
 have e:scrA [s]=srcA (tkS s) 0:=by
  unfold scrA
  rw[if_neg (by simp),if_pos hA]
  have e1:sepK (fxT [59]) ([s].map tkS)=tkS s:=by simp[sepK]
  have e2:maxL ([s].map dpS)=0:=by
   have:dpS s=0:=by
    unfold dpS
    rw[if_neg (by omega),if_neg (by omega),if_neg (by omega)]
   simp[maxL,this]
  rw[e1,e2]
  rfl
 have hb : ¬2000<(Lib.join (wrs (tkS s)) [32]).length:=by
  have h2:=join_bound 16 (wrs (tkS s)) (fun x hx=>by
   unfold wrs at hx
   obtain⟨t,ht,rfl⟩:=List.mem_map.1 hx
   exact sh_wr (sh_create hk h t (List.mem_filter.1 ht).1))
  have h3:(wrs (tkS s)).length≤61:=by
   unfold wrs
   rw[List.length_map]
   exact Nat.le_trans (List.length_filter_le _ _) (create_len hk h)
  have h4:(wrs (tkS s)).length*(16+1)≤61*17:=Nat.mul_le_mul_right _ h3
  omega
 rw[e]
 unfold srcA
 rw[if_neg (by decide),if_neg hb]
 exact⟨rfl,by show (Lib.join _ _).length≤2000;omega⟩
theorem create_plain {s:St} (hk:s.k=1) (h:rightS s=true):(scrA [s]).2=0∧scriptA (scrA [s]).1=([s],0,0)∧(scrA [s]).1.length≤2000:=by
 obtain⟨h0,hl⟩:=create_zero hk h
 rcases script_plain (create_areB h) with h1 | h1
 ·rw[h0] at h1
  rcases h1 with h1 | h1<;>exact absurd h1 (by decide)
 ·exact h1
theorem may_src {t:Tb} (h:mayB t=true):(srcT t).2=0∧readA (srcT t).1=(t,0)∧(srcT t).1.length≤2000:=by
 have hm:=may_make h
 have hk:=make_ok (s:=createS t) (by rw[hm])
 obtain⟨h1,h2,h3⟩:=create_plain hk.1 hk.2.1
 have e:srcT t=scrA [createS t]:=by unfold srcT;rw[if_pos h]
 refine ⟨by rw[e];exact h1,?_,by rw[e];exact h3⟩
 unfold readA
 rw[e,h2]
 have hh:(([createS t],(0:Int),(0:Int)).1.headD (zSt 0))=createS t:=rfl
 rw[if_pos ⟨rfl,rfl⟩,hh,if_pos (by rw[hm]),if_pos (by rw[hm,e]),hm]
end Go.Proofs.YtaaggohjmhifbaaGreatDoor
