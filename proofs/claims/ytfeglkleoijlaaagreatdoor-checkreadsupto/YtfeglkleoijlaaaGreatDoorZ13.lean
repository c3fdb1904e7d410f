/- Packed for the hand-in: WBack LBackL WGood WTop -/
import Derived.Test.YtfeglkleoijlaaaGreatDoorZ05
import Derived.Test.YtfeglkleoijlaaaGreatDoorZ03
import Derived.Laws.StructEq
import Derived.Deep.QuietTactic
import Derived.BigQuiet
import Derived.Test.YtfeglkleoijlaaaGreatDoorZ10
import Derived.Test.YtfeglkleoijlaaaGreatDoorZ11
import Derived.Test.YtfeglkleoijlaaaGreatDoorZ12
namespace Go.Proofs.YtfeglkleoijlaaaGreatDoor
set_option linter.unusedSimpArgs false
set_option linter.unusedVariables false
set_option maxHeartbeats 8000000
theorem ny {α:Type} {xs:List α} {b:Nat} {p:α→Bool} (h:bf xs 1 b p=true):∃x l,xs=x::l∧l.length+1≤b∧∀y∈x::l,p y=true:=by
 unfold bf at h
 simp only[Bool.and_eq_true,decide_eq_true_eq,List.all_eq_true] at h
 match xs,h with
 | [],h=>exact absurd h.1.1 (by simp)
 | x::l,h=>exact⟨x,l,rfl,h.1.2,h.2⟩
theorem aU {α:Type} {xs:List α} {a b:Nat} {p:α→Bool} (h:bf xs a b p=true):∀x∈xs,p x=true:=by
 unfold bf at h
 simp only[Bool.and_eq_true,List.all_eq_true] at h
 exact h.2
end Go.Proofs.YtfeglkleoijlaaaGreatDoor
namespace Go.Proofs.YtfeglkleoijlaaaGreatDoor
open Go.RowKit Go.Shelf
set_option linter.unusedSimpArgs false
set_option linter.unusedVariables false
set_option maxRecDepth 20000
set_option maxHeartbeats 8000000
theorem iK.ok {t:Tk} (h:iK t):GL t:=⟨h.len,h.n0,h.n1⟩
end Go.Proofs.YtfeglkleoijlaaaGreatDoor
namespace Go.Proofs.YtfeglkleoijlaaaGreatDoor
set_option linter.unusedSimpArgs false
set_option linter.unusedVariables false
set_option maxHeartbeats 8000000
theorem Fz {s:List UInt8} (h1:skip false s=0) (h2:jC s=(0,aK s,s.length)):iK (aK s):=by
 have:=xw h1 h2 0
 have e:(⟨(aK s).k,(aK s).s,(aK s).n,0⟩:Tk)=aK s:=by unfold aK;split<;>rfl
 rw[e] at this
 exact this
def Ht:List (List UInt8):=[[40],[41],[44],[59],[46],[42],[43],[45],[47],[37],[61],[60],[62],[60,62],[60,61],[62,61],[65,78,68],[66,89],[67,79,85,78,84],[67,82,69,65,84,69],[68,69,76,69,84,69],[68,69,83,67],[68,82,79,80],[70,82,79,77],[71,82,79,85,80],[73,78,83,69,82,84],[73,78,84],[73,78,84,79],[73,83],[74,79,73,78],[75,69,89],[76,73,77,73,84],[77,65,88],[77,73,78],[78,79,84],[78,85,76,76],[79,78],[79,82],[79,82,68,69,82],[80,82,73,77,65,82,89],[83,69,76,69,67,84],[83,69,84],[83,85,77],[84,65,66,76,69],[84,69,88,84],[85,78,73,81,85,69],[85,80,68,65,84,69],[86,65,76,85,69,83],[87,72,69,82,69]]
theorem BN : ∀s∈Ht,iK (aK s):=by
 unfold Ht
 simp only[List.forall_mem_cons]
 refine ⟨?_,?_,?_,?_,?_,?_,?_,?_,?_,?_,?_,?_,?_,?_,?_,?_,?_,?_,?_,?_,?_,?_,?_,?_,?_,?_,?_,?_,?_,?_,?_,?_,?_,?_,?_,?_,?_,?_,?_,?_,?_,?_,?_,?_,?_,?_,?_,?_,?_,?_⟩<;>first | (refine Fz ?_ ?_<;>rfl) | (intro x hx;cases hx)
theorem bI {s:List UInt8} (h:s∈Ht):iK (aK s):=BN s h
theorem fA {s:List UInt8} (h:bC s=true):iK (aW s):=by
 unfold bC at h
 simp only[Bool.and_eq_true,decide_eq_true_eq] at h
 obtain⟨h1,h2,h3,h4⟩:=h
 cases s with
 | nil=>simp at h1
 |
  cons c r =>
  have h3:bT dX c=true:=h3
  have hc:jC (c::r)=(0,aW (c::r),(c::r).length):=by
   unfold jC
   dsimp only
   rw[if_pos h3]
   unfold iY
   rw[h4,List.drop_length,List.take_length,if_neg (by decide),if_neg (by omega)]
   rfl
  have hs:skip false (c::r)=0:=by
   rw[skip,if_neg ?_]
   ·cases r with
    | nil=>rw[if_neg (by simp)]
    |
     cons d r' =>
     rw[if_neg ?_]
     rintro⟨rfl,_⟩
     exact absurd (show bT dX 45=true from h3) (by decide)
   ·intro hb
    have : ∀c∈CG,bT dX c=false:=by decide
    rw[this c (by simpa [bT] using hb)] at h3
    cases h3
  exact xw hs hc 0
def bB (ts:List Tk):Prop:=∀t∈ts,iK t
theorem bB.nil:bB []:=fun t h=>by cases h
theorem bB.cons {t:Tk} {ts:List Tk} (h:iK t) (hs:bB ts):bB (t::ts):=fun x hx=>by
 rcases List.mem_cons.1 hx with rfl | hx
 ·exact h
 ·exact hs x hx
theorem bB.app {a b:List Tk} (h:bB a) (hs:bB b):bB (a++b):=fun x hx=>by
 rcases List.mem_append.1 hx with hx | hx
 ·exact h x hx
 ·exact hs x hx
theorem bB.words {l:List (List UInt8)} (h : ∀s∈l,s∈Ht):bB (au l):=fun x hx=>by
 obtain⟨s,hs,rfl⟩:=List.mem_map.1 hx
 exact bI (h s hs)
theorem bB.sep {sep:Tk} {l:List (List Tk)} (hs:iK sep) (h : ∀x∈l,bB x):bB (aS sep l):=by
 cases l with
 | nil=>exact bB.nil
 |
  cons x l =>
  refine (h x (by simp)).app (fun t ht=>?_)
  obtain⟨y,hy,ht⟩:=List.mem_flatMap.1 ht
  exact bB.cons hs (h y (by simp[hy])) t ht
theorem bB.at' {l lv:Nat} {ts:List Tk} (h:bB ts):bB (jw l lv ts):=by
 unfold jw
 split
 ·exact h
 ·exact bB.cons (bI (by decide)) (h.app (bB.cons (bI (by decide)) bB.nil))
theorem vC {v:Vl} (hv:gK v=true):bB (iX v):=by
 unfold iX
 rcases u7 hv with⟨h1,h2,h3⟩ | ⟨h1,h2,h3⟩ | ⟨h1,h2,h3,h4⟩
 ·rw[if_pos h1]
  exact bB.cons (rO v.s 0 h3) bB.nil
 ·rw[if_neg (by omega),if_pos h1]
  exact bB.cons (bI (by decide)) bB.nil
 ·rw[if_neg (by omega),if_neg (by omega)]
  split
  ·exact bB.cons (bI (by decide)) (bB.cons (mF _ 0 (by omega) (by omega)) bB.nil)
  ·exact bB.cons (mF _ 0 (by omega) (by omega)) bB.nil
theorem G8 (o:Int) (h1:1≤o) (h2:o≤13):oh o∈Ht:=by
 rcases yL o h1 h2 with rfl | rfl | rfl | rfl | rfl | rfl | rfl | rfl | rfl | rfl | rfl | rfl | rfl<;>decide
theorem zJ (t:Tm) (h:t.ok):bB t.tk:=by
 induction t with
 | val v=>exact vC h
 |
  col a b =>
  simp only[Tm.tk]
  split
  ·exact bB.cons (fA h.1) bB.nil
  ·rename_i ha
   exact bB.cons (fA (h.2.resolve_left ha)) (bB.cons (bI (by decide)) (bB.cons (fA h.1) bB.nil))
 | op o a b ha hb=>exact (ha h.2.2.1).at'.app (bB.cons (bI (G8 o h.1 h.2.1)) (hb h.2.2.2).at')
 | not a ha=>exact bB.cons (bI (by decide)) (ha h.2).at'
 | neg a ha=>exact bB.cons (bI (by decide)) (ha h).at'
 | nul a ha=>exact (ha h).at'.app (bB.cons (bI (by decide)) (bB.cons (bI (by decide)) bB.nil))
 | nnul a ha=>exact (ha h).at'.app (bB.cons (bI (by decide)) (bB.cons (bI (by decide)) (bB.cons (bI (by decide)) bB.nil)))
theorem uj {e:Ex} (h:aJ e=true):bB (jG e):=zJ _ (l8 h).1
theorem gW {xs:List Ex} {ws:List (List UInt8)} (h : ∀x∈xs,aJ x=true) (hw : ∀s∈ws,s∈Ht):bB (bH xs ws):=fun t ht=>by
 obtain⟨x,hx,ht⟩:=List.mem_flatMap.1 ht
 exact ((bB.words hw).app (uj (h x hx))) t ht
theorem qD {e:Ex} (h:eF e=true):aJ e=true:=by
 unfold eF at h
 simp only[Bool.and_eq_true] at h
 exact h.2
theorem Ah {i:It} (h:sw i=true):bB (xG i):=by
 unfold sw at h
 unfold xG
 by_cases h1:i.k=1
 ·rw[if_pos h1];exact bB.cons (bI (by decide)) bB.nil
 ·rw[if_neg h1]
  by_cases h3:i.k=3
  ·rw[if_neg (by omega),if_pos h3];exact bB.words (by decide)
  ·rw[if_neg (by omega)] at h
   split at h
   ·rename_i hk
    obtain⟨x,l,hx,_,hp⟩:=ny h
    have hg:=uj (hp x (by simp))
    rw[hx]
    split
    ·exact hg
    ·refine (bB.words ?_).app (hg.app (bB.cons (bI (by decide)) bB.nil))
     have:i.k=4∨i.k=5∨i.k=6∨i.k=7:=by omega
     rcases this with e | e | e | e<;>rw[e]<;>decide
   ·cases h
theorem C8 {s:List UInt8} (h:kN s=true) (hs:s≠[]):iK (aW s):=by
 unfold kN at h
 simp only[Bool.or_eq_true,decide_eq_true_eq] at h
 exact fA (h.resolve_left hs)
theorem pF {s:St} (h:aZ s=true):bB (jF s):=by
 unfold aZ at h
 simp only[Bool.and_eq_true] at h
 obtain⟨hk,ht,_⟩:=h
 have hn:=fA ht
 unfold iT at hk
 unfold jF
 split at hk
 ·rename_i h1
  rw[if_pos h1]
  simp only[Bool.and_eq_true] at hk
  have hm:=aU hk.1
  refine (bB.words (by decide)).app (bB.cons hn (bB.cons (bI (by decide)) ((bB.sep (bI (by decide)) fun x hx=>?_).app ((bB.words (by decide)).app (bB.cons (fA hk.2) (bB.words (by decide)))))))
  obtain⟨c,hc,rfl⟩:=List.mem_map.1 hx
  have hcb:=hm c hc
  unfold eY at hcb
  simp only[Bool.and_eq_true] at hcb
  refine bB.cons (fA hcb.1) (bB.cons (bI (by split<;>decide)) (bB.app ?_ ?_))
  ·split
   ·exact bB.words (by decide)
   ·exact bB.nil
  ·split
   ·exact bB.words (by decide)
   ·exact bB.nil
 ·rename_i h1
  rw[if_neg h1]
  split at hk
  ·rename_i h2
   rw[if_pos h2]
   exact (bB.words (by decide)).app (bB.cons hn bB.nil)
  ·rename_i h2
   rw[if_neg h2]
   split at hk
   ·rename_i h3
    rw[if_pos h3]
    have hm:=aU hk
    refine (bB.words (by decide)).app (bB.cons hn (bB.cons (bI (by decide)) (bB.sep (bI (by decide)) fun x hx=>?_)))
    obtain⟨r,hr,rfl⟩:=List.mem_map.1 hx
    have hrm:=aU (hm r hr)
    refine bB.cons (bI (by decide)) ((bB.sep (bI (by decide)) fun y hy=>?_).app (bB.cons (bI (by decide)) bB.nil))
    obtain⟨v,hv,rfl⟩:=List.mem_map.1 hy
    exact vC (hrm v hv)
   ·rename_i h3
    rw[if_neg h3]
    split at hk
    ·rename_i h4
     rw[if_pos h4]
     simp only[Bool.and_eq_true] at hk
     have hm:=aU hk.1
     refine bB.cons (bI (by decide)) (bB.cons hn (bB.cons (bI (by decide)) ((bB.sep (bI (by decide)) fun x hx=>?_).app (gW (aU hk.2) (by decide)))))
     obtain⟨e,he,rfl⟩:=List.mem_map.1 hx
     have:=hm e he
     unfold mP at this
     simp only[Bool.and_eq_true] at this
     exact bB.cons (fA this.1) (bB.cons (bI (by decide)) (uj this.2))
    ·rename_i h4
     rw[if_neg h4]
     split at hk
     ·rename_i h5
      rw[if_pos h5]
      exact (bB.words (by decide)).app (bB.cons hn (gW (aU hk) (by decide)))
     ·rename_i h5
      rw[if_neg h5]
      split at hk
      ·unfold vB at hk
       simp only[Bool.and_eq_true,decide_eq_true_eq] at hk
       obtain⟨k1,k2,k3,k4,k5,k6,k7,k8⟩:=hk
       unfold EF
       refine bB.cons (bI (by decide)) ((bB.sep (bI (by decide)) fun x hx=>?_).app (bB.cons (bI (by decide)) (bB.cons hn (bB.app ?_ ((gW (aU k3) (by decide)).app ((gW (aU k4) (by decide)).app ((gW (fun x hx=>qD (aU k5 x hx)) (by decide)).app ((gW (fun x hx=>qD (aU k6 x hx)) (by decide)).app (bB.app ?_ ?_)))))))))
       ·obtain⟨i,hi,rfl⟩:=List.mem_map.1 hx
        exact Ah (aU k1 i hi)
       ·split
        ·exact bB.nil
        ·rename_i hj
         exact bB.cons (bI (by decide)) (bB.cons (C8 k2 hj) bB.nil)
       ·split
        ·exact bB.cons (bI (by decide)) bB.nil
        ·exact bB.nil
       ·split
        ·exact bB.nil
        ·rename_i hl
         exact bB.cons (bI (by decide)) (bB.cons (mF _ 0 (by omega) k8.2) bB.nil)
      ·cases hk
end Go.Proofs.YtfeglkleoijlaaaGreatDoor
namespace Go.Proofs.YtfeglkleoijlaaaGreatDoor
open Go.RowKit Go.Shelf
set_option linter.unusedSimpArgs false
set_option linter.unusedVariables false
set_option maxRecDepth 20000
set_option maxHeartbeats 8000000
def mo (L:List Tk) (m:Int):List UInt8 × Int:=if 10<m then ([],10) else if 2000<(Lib.join (oI L) [32]).length then ([],2) else (Lib.join (oI L) [32],0)
def qy (x:Ex):List UInt8 × Int:=if aJ x=true then mo (jG x) (fJ x) else ([],4)
theorem pz (g:Nat) (tb:Option Nat) (L:List Tk) (d m:Int) (w:World) (h:bJ w g tb L d m) (hok : ∀t∈L,GL t) (hn:L.length≤10000000) :
  Calls Tryz.prog 50 #[.pointer (some ⟨g,0,none⟩)] w fun e w'=>e = .returned (.tuple #[.string (aj (mo L m).1),.int .i64 (mo L m).2])∧Below w.heap.size w w':=by
 obtain⟨v,hv,ho,_⟩:=h.lie
 have hT:=(uK ho).2
 obtain⟨va,vb,vc,rfl⟩:∃va vb vc,v = .slice va vb vc:=by
  rcases ho.2 with⟨rfl,_⟩ | ⟨_,_,_,rfl,_⟩
  ·exact⟨_,_,_,rfl⟩
  ·exact⟨_,_,_,rfl⟩
 have k:=gN hv
 have HW:=hid (yc w.heap.size _ L w h.tab (Nat.le_refl _) hT hok hn)
 unfold mo
 generalize Lib.join (oI L) [32]=T at HW ⊢
 clear h hv ho hT hok hn
 by_cases hm:10<m
 ·rw[if_pos hm]
  clear HW
  go_enter Tryz.func50,Tryz.ntmps50
  go_wp2
  exact bodyPost_ret (v:=.tuple #[.string ⟨#[]⟩,.int .i64 10]) (by simp[results,Tryz.results50,go_sem]) rfl ⟨rfl,Below.refl _ _⟩
 ·rw[if_neg hm]
  have hsz:(aj T).size=T.length:=rfl
  by_cases hl:2000<T.length
  ·rw[if_pos hl]
   have hl':((2000:Int)<((aj T).size:Int)):=by rw[hsz];omega
   clear hl hsz
   generalize aj T=S at HW hl'
   go_enter Tryz.func50,Tryz.ntmps50
   go_wp2_with fail
   refine HW.out.mono ?_
   rintro e w1 ⟨rfl,hb1⟩
   have HB:=hid hb1
   clear hb1 HW
   go_wp2
   exact bodyPost_ret (v:=.tuple #[.string ⟨#[]⟩,.int .i64 2]) (by simp[results,Tryz.results50,go_sem]) rfl ⟨rfl,HB.out⟩
  ·rw[if_neg hl]
   have hl' : ¬((2000:Int)<((aj T).size:Int)):=by rw[hsz];omega
   clear hl hsz
   dsimp only
   generalize aj T=S at HW hl' ⊢
   go_enter Tryz.func50,Tryz.ntmps50
   go_wp2_with fail
   refine HW.out.mono ?_
   rintro e w1 ⟨rfl,hb1⟩
   have HB:=hid hb1
   clear hb1 HW
   go_wp2
   exact bodyPost_ret (v:=.tuple #[.string S,.int .i64 0]) (by simp[results,Tryz.results50,go_sem]) rfl ⟨rfl,HB.out⟩
theorem yG (w:World) (h:eH w):∃W,w.alloc (.cells #[.slice none 0 0,.int .i64 0,.int .i64 0] 100)=W∧Below w.heap.size w W∧w.heap.size<W.heap.size∧bJ W w.heap.size none [] 0 0:=by
 obtain⟨W,hW,hbW,hzW,hcW⟩:=aL w (.cells #[.slice none 0 0,.int .i64 0,.int .i64 0] 100)
 exact⟨W,hW,hbW,hzW,⟨⟨_,hcW,World.ownsRow_nil _ _ _ _,rfl⟩,h.on hbW,h.lt⟩⟩
theorem rC (S:Nat→Prop) (x:Ex) (v:Value) (w:World) (hT:eH w) (hR:jD x) (hx:fB S w x v) (hz:aJ x=true→jE x≤1000000) :
  Calls Tryz.prog 37 #[v] w fun e w'=>e = .returned (.tuple #[.string (aj (qy x).1),.int .i64 (qy x).2])∧Below w.heap.size w w':=by
 have HX:=hid hx
 obtain⟨k,op,tb,nm,vk,vn,vs,ys,aa,nn,cc,he,rfl,ha⟩:=hx
 obtain⟨W,hW,hbW,hzW,hcW⟩:=aL w (.cells #[.int .i64 k,.int .i64 op,.string (aj tb),.string (aj nm),.int .i64 vk,.int .i64 vn,.string (aj vs),.slice aa nn cc] 48)
 have k0:=aN hcW
 have HRE:=hid (lC S _ x _ W (Nat.lt_succ_self _) hR (HX.out.new hbW))
 have HB:=hid hbW
 have HC:=hid hcW
 have HTW:=hid (hT.on hbW)
 unfold qy
 clear hbW hcW ha he hT hR
 cases hr:aJ x with
 |
  false =>
  rw[hr] at HRE
  rw[if_neg Bool.false_ne_true]
  clear hr hz
  go_enter Tryz.func37,Tryz.ntmps37
  go_wp2_with fail
  refine HRE.out.mono ?_
  rintro e w1 ⟨rfl,hb1⟩
  have HB1:=hid (HB.out.trans (hb1.mono HB.out.size))
  clear hb1 HRE
  go_wp2
  exact bodyPost_ret (v:=.tuple #[.string ⟨#[]⟩,.int .i64 4]) (by simp[results,Tryz.results37,go_sem]) rfl ⟨rfl,HB1.out⟩
 |
  true =>
  rw[hr] at HRE
  rw[if_pos rfl]
  obtain⟨hok,hex⟩:=l8 hr
  have hz2:=hz hr
  unfold jE at hz2
  have hl:=BQ (iP x)
  have hd:=F3 (iP x)
  have hgd:=zJ _ hok
  have hXW:=Dm (iP x) hok
  show Calls Tryz.prog 37 _ w fun e w'=>e = .returned (.tuple #[.string (aj (mo (iP x).tk (iP x).dp).1),.int .i64 (mo (iP x).tk (iP x).dp).2])∧_
  obtain⟨R,hR⟩:∃R,mo (iP x).tk ((iP x).dp:Int)=R:=⟨_,rfl⟩
  rw[hR]
  have HRR:=hid hR
  clear hR
  have HOK:Hid (∀t∈(iP x).tk,GL t):=hid (fun t ht=>(hgd t ht).ok)
  clear hgd hr hz hok
  go_enter Tryz.func37,Tryz.ntmps37
  go_wp2_with fail
  refine HRE.out.mono ?_
  rintro e w1 ⟨rfl,hb1⟩
  have hB1:=HB.out.trans (hb1.mono HB.out.size)
  obtain⟨V,hV,hbV,hzV,hwV⟩:=yG w1 (HTW.out.on hb1)
  have hlt1:w.heap.size<w1.heap.size:=Nat.lt_of_lt_of_le hzW hb1.size
  have k1:=aN ((hbV.block w.heap.size hlt1).trans ((hb1.block w.heap.size hzW).trans HC.out))
  have hxV:fB (fun b=>b<w1.heap.size) V (iP x).ex (.agg #[.int .i64 k,.int .i64 op,.string (aj tb),.string (aj nm),.int .i64 vk,.int .i64 vn,.string (aj vs),.slice aa nn cc]):=by
   rw[hex]
   exact (HX.out.to (R:=fun _=>False) (T:=fun b=>b<w1.heap.size) (aA.aC hB1) (fun b _ hb=>⟨id,Nat.lt_of_lt_of_le hb hB1.size⟩)).new hbV
  have HE:=hid (hXW w1.heap.size none [] 0 0 V _ hwV hxV (by simp;omega) (by omega) (by omega) (by omega) (by omega))
  have HBV:=hid (hB1.trans (hbV.mono hB1.size))
  clear hb1 hB1 HRE hbV hwV hxV hXW
  go_wp2_with fail
  try rw[hV]
  refine HE.out.mono ?_
  rintro e w2 ⟨rfl,tb2,hw2,ht2,hf2⟩
  rw[List.nil_append] at hw2
  have e1:max (0:Int) (0+((iP x).dp:Int))=((iP x).dp:Int):=by omega
  rw[e1] at hw2
  have HS:=hid (pz _ _ _ _ _ w2 hw2 HOK.out (by omega))
  have HB2:Hid (Below w.heap.size w w2):=hid (HBV.out.trans (hf2.below (fun i hi=>by
   rcases hi with rfl | e
   ·omega
   ·cases e) (by omega)))
  clear hw2 ht2 hf2 HE e1
  rw[HRR.out] at HS
  go_wp2_with fail
  refine HS.out.mono ?_
  rintro e w3 ⟨rfl,hb3⟩
  have HB3:=hid (HB2.out.trans (hb3.mono HB2.out.size))
  clear hb3 HS
  go_wp2
  exact bodyPost_ret (v:=.tuple #[.string (aj R.1),.int .i64 R.2]) (by simp[results,Tryz.results37,go_sem]) rfl ⟨rfl,HB3.out⟩
end Go.Proofs.YtfeglkleoijlaaaGreatDoor
