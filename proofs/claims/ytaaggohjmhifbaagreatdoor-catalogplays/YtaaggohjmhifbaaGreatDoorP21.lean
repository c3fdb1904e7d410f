/- Packed for the hand-in: LBackL WGood WTop WList WRightS WStmA -/
import Derived.Test.YtaaggohjmhifbaaGreatDoorP06
import Derived.Laws.StructEq
import Derived.Deep.QuietTactic
import Derived.BigQuiet
import Derived.Test.YtaaggohjmhifbaaGreatDoorP17
import Derived.Test.YtaaggohjmhifbaaGreatDoorP20
import Derived.Test.YtaaggohjmhifbaaGreatDoorP18
import Derived.Deep.RegionHeld3
import Derived.Test.YtaaggohjmhifbaaGreatDoorP19
namespace Go.Proofs.YtaaggohjmhifbaaGreatDoor
open Go.RowKit Go.Shelf
set_option linter.unusedSimpArgs false
set_option linter.unusedVariables false
set_option maxRecDepth 20000
set_option maxHeartbeats 8000000
theorem GoodT.ok {t:Tk} (h:GoodT t):OkT t:=⟨h.len,h.n0,h.n1⟩
theorem tokens_good {s:List UInt8} (h:(tokens s).1=0):s.length≤2000∧(tokens s).2.1=0∧∃L,(tokens s).2.2=L++[⟨6,[],0,(s.length:Int)⟩]∧L.length≤s.length∧∀t∈L,GoodT t:=by
 have hl : ¬2000<s.length:=fun hl=>by rw[tokens,if_pos hl] at h;exact absurd (show (2:Nat)=0 from h) (by decide)
 have e:tokens s=toks (s.length+1) s 0:=by rw[tokens,if_neg hl]
 rw[e] at h ⊢
 refine ⟨by omega,(toks_form _ _ _).2 h,?_⟩
 obtain⟨L,h1,h2,h3⟩:=toks_good (s.length+1) s 0 (by omega) h
 exact⟨L,by rw[h1,Nat.zero_add],h2,h3⟩
theorem tokens_bad {s:List UInt8} (h:(tokens s).1≠0):(tokens s).2.2=[]:=by
 unfold tokens at h ⊢
 split
 ·rfl
 ·rename_i hl
  rw[if_neg hl] at h
  exact (toks_form _ _ _).1 h
theorem wrs_good {L:List Tk} (h : ∀t∈L,GoodT t) (e:Tk) (he:e.k=6):wrs (L++[e])=L.map wr:=by
 rw[wrs_snoc,if_pos he]
 unfold wrs
 rw[List.filter_eq_self.2]
 intro t ht
 have:=(h t ht).k6
 simpa using this
end Go.Proofs.YtaaggohjmhifbaaGreatDoor
namespace Go.Proofs.YtaaggohjmhifbaaGreatDoor
set_option linter.unusedSimpArgs false
set_option linter.unusedVariables false
set_option maxHeartbeats 8000000
theorem good_of {s:List UInt8} (h1:skip false s=0) (h2:cutT s=(0,fxT s,s.length)):GoodT (fxT s):=by
 have:=good_cut h1 h2 0
 have e:(⟨(fxT s).k,(fxT s).s,(fxT s).n,0⟩:Tk)=fxT s:=by unfold fxT;split<;>rfl
 rw[e] at this
 exact this
def fxs:List (List UInt8):=[[40],[41],[44],[59],[46],[42],[43],[45],[47],[37],[61],[60],[62],[60,62],[60,61],[62,61],[65,78,68],[66,89],[67,79,85,78,84],[67,82,69,65,84,69],[68,69,76,69,84,69],[68,69,83,67],[68,82,79,80],[70,82,79,77],[71,82,79,85,80],[73,78,83,69,82,84],[73,78,84],[73,78,84,79],[73,83],[74,79,73,78],[75,69,89],[76,73,77,73,84],[77,65,88],[77,73,78],[78,79,84],[78,85,76,76],[79,78],[79,82],[79,82,68,69,82],[80,82,73,77,65,82,89],[83,69,76,69,67,84],[83,69,84],[83,85,77],[84,65,66,76,69],[84,69,88,84],[85,78,73,81,85,69],[85,80,68,65,84,69],[86,65,76,85,69,83],[87,72,69,82,69]]
theorem good_all : ∀s∈fxs,GoodT (fxT s):=by
 unfold fxs
 simp only[List.forall_mem_cons]
 refine ⟨?_,?_,?_,?_,?_,?_,?_,?_,?_,?_,?_,?_,?_,?_,?_,?_,?_,?_,?_,?_,?_,?_,?_,?_,?_,?_,?_,?_,?_,?_,?_,?_,?_,?_,?_,?_,?_,?_,?_,?_,?_,?_,?_,?_,?_,?_,?_,?_,?_,?_⟩<;>first | (refine good_of ?_ ?_<;>rfl) | (intro x hx;cases hx)
theorem good_fx {s:List UInt8} (h:s∈fxs):GoodT (fxT s):=good_all s h
theorem good_name {s:List UInt8} (h:nameOk s=true):GoodT (nmT s):=by
 unfold nameOk at h
 simp only[Bool.and_eq_true,decide_eq_true_eq] at h
 obtain⟨h1,h2,h3,h4⟩:=h
 cases s with
 | nil=>simp at h1
 |
  cons c r =>
  have h3:inS lowsB c=true:=h3
  have hc:cutT (c::r)=(0,nmT (c::r),(c::r).length):=by
   unfold cutT
   dsimp only
   rw[if_pos h3]
   unfold cutNameT
   rw[h4,List.drop_length,List.take_length,if_neg (by decide),if_neg (by omega)]
   rfl
  have hs:skip false (c::r)=0:=by
   rw[skip,if_neg ?_]
   ·cases r with
    | nil=>rw[if_neg (by simp)]
    |
     cons d r' =>
     rw[if_neg ?_]
     rintro⟨rfl,_⟩
     exact absurd (show inS lowsB 45=true from h3) (by decide)
   ·intro hb
    have : ∀c∈blksB,inS lowsB c=false:=by decide
    rw[this c (by simpa [inS] using hb)] at h3
    cases h3
  exact good_cut hs hc 0
def AllG (ts:List Tk):Prop:=∀t∈ts,GoodT t
theorem AllG.nil:AllG []:=fun t h=>by cases h
theorem AllG.cons {t:Tk} {ts:List Tk} (h:GoodT t) (hs:AllG ts):AllG (t::ts):=fun x hx=>by
 rcases List.mem_cons.1 hx with rfl | hx
 ·exact h
 ·exact hs x hx
theorem AllG.app {a b:List Tk} (h:AllG a) (hs:AllG b):AllG (a++b):=fun x hx=>by
 rcases List.mem_append.1 hx with hx | hx
 ·exact h x hx
 ·exact hs x hx
theorem AllG.words {l:List (List UInt8)} (h : ∀s∈l,s∈fxs):AllG (wordsK l):=fun x hx=>by
 obtain⟨s,hs,rfl⟩:=List.mem_map.1 hx
 exact good_fx (h s hs)
theorem AllG.sep {sep:Tk} {l:List (List Tk)} (hs:GoodT sep) (h : ∀x∈l,AllG x):AllG (sepK sep l):=by
 cases l with
 | nil=>exact AllG.nil
 |
  cons x l =>
  refine (h x (by simp)).app (fun t ht=>?_)
  obtain⟨y,hy,ht⟩:=List.mem_flatMap.1 ht
  exact AllG.cons hs (h y (by simp[hy])) t ht
theorem AllG.at' {l lv:Nat} {ts:List Tk} (h:AllG ts):AllG (atK l lv ts):=by
 unfold atK
 split
 ·exact h
 ·exact AllG.cons (good_fx (by decide)) (h.app (AllG.cons (good_fx (by decide)) AllG.nil))
theorem lit_good {v:Vl} (hv:valOk v=true):AllG (litK v):=by
 unfold litK
 rcases val_kind hv with⟨h1,h2,h3⟩ | ⟨h1,h2,h3⟩ | ⟨h1,h2,h3,h4⟩
 ·rw[if_pos h1]
  exact AllG.cons (good_text v.s 0 h3) AllG.nil
 ·rw[if_neg (by omega),if_pos h1]
  exact AllG.cons (good_fx (by decide)) AllG.nil
 ·rw[if_neg (by omega),if_neg (by omega)]
  split
  ·exact AllG.cons (good_fx (by decide)) (AllG.cons (good_num _ 0 (by omega) (by omega)) AllG.nil)
  ·exact AllG.cons (good_num _ 0 (by omega) (by omega)) AllG.nil
theorem op_fxs (o:Int) (h1:1≤o) (h2:o≤13):opTx o∈fxs:=by
 rcases op_tab o h1 h2 with rfl | rfl | rfl | rfl | rfl | rfl | rfl | rfl | rfl | rfl | rfl | rfl | rfl<;>decide
theorem tk_good (t:Tm) (h:t.ok):AllG t.tk:=by
 induction t with
 | val v=>exact lit_good h
 |
  col a b =>
  simp only[Tm.tk]
  split
  ·exact AllG.cons (good_name h.1) AllG.nil
  ·rename_i ha
   exact AllG.cons (good_name (h.2.resolve_left ha)) (AllG.cons (good_fx (by decide)) (AllG.cons (good_name h.1) AllG.nil))
 | op o a b ha hb=>exact (ha h.2.2.1).at'.app (AllG.cons (good_fx (op_fxs o h.1 h.2.1)) (hb h.2.2.2).at')
 | not a ha=>exact AllG.cons (good_fx (by decide)) (ha h.2).at'
 | neg a ha=>exact AllG.cons (good_fx (by decide)) (ha h).at'
 | nul a ha=>exact (ha h).at'.app (AllG.cons (good_fx (by decide)) (AllG.cons (good_fx (by decide)) AllG.nil))
 | nnul a ha=>exact (ha h).at'.app (AllG.cons (good_fx (by decide)) (AllG.cons (good_fx (by decide)) (AllG.cons (good_fx (by decide)) AllG.nil)))
theorem ex_good {e:Ex} (h:rightE e=true):AllG (exK e):=tk_good _ (right_ok h).1
theorem part_good {xs:List Ex} {ws:List (List UInt8)} (h : ∀x∈xs,rightE x=true) (hw : ∀s∈ws,s∈fxs):AllG (partK xs ws):=fun t ht=>by
 obtain⟨x,hx,ht⟩:=List.mem_flatMap.1 ht
 exact ((AllG.words hw).app (ex_good (h x hx))) t ht
theorem colE_right {e:Ex} (h:colEB e=true):rightE e=true:=by
 unfold colEB at h
 simp only[Bool.and_eq_true] at h
 exact h.2
theorem item_good {i:It} (h:itB i=true):AllG (itK i):=by
 unfold itB at h
 unfold itK
 by_cases h1:i.k=1
 ·rw[if_pos h1];exact AllG.cons (good_fx (by decide)) AllG.nil
 ·rw[if_neg h1]
  by_cases h3:i.k=3
  ·rw[if_neg (by omega),if_pos h3];exact AllG.words (by decide)
  ·rw[if_neg (by omega)] at h
   split at h
   ·rename_i hk
    obtain⟨x,l,hx,_,hp⟩:=areB_cons h
    have hg:=ex_good (hp x (by simp))
    rw[hx]
    split
    ·exact hg
    ·refine (AllG.words ?_).app (hg.app (AllG.cons (good_fx (by decide)) AllG.nil))
     have:i.k=4∨i.k=5∨i.k=6∨i.k=7:=by omega
     rcases this with e | e | e | e<;>rw[e]<;>decide
   ·cases h
theorem noe_good {s:List UInt8} (h:noeB s=true) (hs:s≠[]):GoodT (nmT s):=by
 unfold noeB at h
 simp only[Bool.or_eq_true,decide_eq_true_eq] at h
 exact good_name (h.resolve_left hs)
theorem state_good {s:St} (h:rightS s=true):AllG (tkS s):=by
 unfold rightS at h
 simp only[Bool.and_eq_true] at h
 obtain⟨hk,ht,_⟩:=h
 have hn:=good_name ht
 unfold kindB at hk
 unfold tkS
 split at hk
 ·rename_i h1
  rw[if_pos h1]
  simp only[Bool.and_eq_true] at hk
  have hm:=areB_mem hk.1
  refine (AllG.words (by decide)).app (AllG.cons hn (AllG.cons (good_fx (by decide)) ((AllG.sep (good_fx (by decide)) fun x hx=>?_).app ((AllG.words (by decide)).app (AllG.cons (good_name hk.2) (AllG.words (by decide)))))))
  obtain⟨c,hc,rfl⟩:=List.mem_map.1 hx
  have hcb:=hm c hc
  unfold colB at hcb
  simp only[Bool.and_eq_true] at hcb
  refine AllG.cons (good_name hcb.1) (AllG.cons (good_fx (by split<;>decide)) (AllG.app ?_ ?_))
  ·split
   ·exact AllG.words (by decide)
   ·exact AllG.nil
  ·split
   ·exact AllG.words (by decide)
   ·exact AllG.nil
 ·rename_i h1
  rw[if_neg h1]
  split at hk
  ·rename_i h2
   rw[if_pos h2]
   exact (AllG.words (by decide)).app (AllG.cons hn AllG.nil)
  ·rename_i h2
   rw[if_neg h2]
   split at hk
   ·rename_i h3
    rw[if_pos h3]
    have hm:=areB_mem hk
    refine (AllG.words (by decide)).app (AllG.cons hn (AllG.cons (good_fx (by decide)) (AllG.sep (good_fx (by decide)) fun x hx=>?_)))
    obtain⟨r,hr,rfl⟩:=List.mem_map.1 hx
    have hrm:=areB_mem (hm r hr)
    refine AllG.cons (good_fx (by decide)) ((AllG.sep (good_fx (by decide)) fun y hy=>?_).app (AllG.cons (good_fx (by decide)) AllG.nil))
    obtain⟨v,hv,rfl⟩:=List.mem_map.1 hy
    exact lit_good (hrm v hv)
   ·rename_i h3
    rw[if_neg h3]
    split at hk
    ·rename_i h4
     rw[if_pos h4]
     simp only[Bool.and_eq_true] at hk
     have hm:=areB_mem hk.1
     refine AllG.cons (good_fx (by decide)) (AllG.cons hn (AllG.cons (good_fx (by decide)) ((AllG.sep (good_fx (by decide)) fun x hx=>?_).app (part_good (areB_mem hk.2) (by decide)))))
     obtain⟨e,he,rfl⟩:=List.mem_map.1 hx
     have:=hm e he
     unfold setB at this
     simp only[Bool.and_eq_true] at this
     exact AllG.cons (good_name this.1) (AllG.cons (good_fx (by decide)) (ex_good this.2))
    ·rename_i h4
     rw[if_neg h4]
     split at hk
     ·rename_i h5
      rw[if_pos h5]
      exact (AllG.words (by decide)).app (AllG.cons hn (part_good (areB_mem hk) (by decide)))
     ·rename_i h5
      rw[if_neg h5]
      split at hk
      ·unfold selB at hk
       simp only[Bool.and_eq_true,decide_eq_true_eq] at hk
       obtain⟨k1,k2,k3,k4,k5,k6,k7,k8⟩:=hk
       unfold selK
       refine AllG.cons (good_fx (by decide)) ((AllG.sep (good_fx (by decide)) fun x hx=>?_).app (AllG.cons (good_fx (by decide)) (AllG.cons hn (AllG.app ?_ ((part_good (areB_mem k3) (by decide)).app ((part_good (areB_mem k4) (by decide)).app ((part_good (fun x hx=>colE_right (areB_mem k5 x hx)) (by decide)).app ((part_good (fun x hx=>colE_right (areB_mem k6 x hx)) (by decide)).app (AllG.app ?_ ?_)))))))))
       ·obtain⟨i,hi,rfl⟩:=List.mem_map.1 hx
        exact item_good (areB_mem k1 i hi)
       ·split
        ·exact AllG.nil
        ·rename_i hj
         exact AllG.cons (good_fx (by decide)) (AllG.cons (noe_good k2 hj) AllG.nil)
       ·split
        ·exact AllG.cons (good_fx (by decide)) AllG.nil
        ·exact AllG.nil
       ·split
        ·exact AllG.nil
        ·rename_i hl
         exact AllG.cons (good_fx (by decide)) (AllG.cons (good_num _ 0 (by omega) k8.2) AllG.nil)
      ·cases hk
end Go.Proofs.YtaaggohjmhifbaaGreatDoor
namespace Go.Proofs.YtaaggohjmhifbaaGreatDoor
open Go.RowKit Go.Shelf
set_option linter.unusedSimpArgs false
set_option linter.unusedVariables false
set_option maxRecDepth 20000
set_option maxHeartbeats 8000000
def srcA (L:List Tk) (m:Int):List UInt8 × Int:=if 10<m then ([],10) else if 2000<(Lib.join (wrs L) [32]).length then ([],2) else (Lib.join (wrs L) [32],0)
theorem source_w (g:Nat) (tb:Option Nat) (L:List Tk) (d m:Int) (w:World) (h:WrAt w g tb L d m) (hok : ∀t∈L,OkT t) (hn:L.length≤10000000) :
  Calls Tryz.prog 62 #[.pointer (some ⟨g,0,none⟩)] w fun e w'=>e = .returned (.tuple #[.string (str8 (srcA L m).1),.int .i64 (srcA L m).2])∧Below w.heap.size w w':=by
 obtain⟨v,hv,ho,_⟩:=h.lie
 have hT:=(toks_of_owns ho).2
 obtain⟨va,vb,vc,rfl⟩:∃va vb vc,v = .slice va vb vc:=by
  rcases ho.2 with⟨rfl,_⟩ | ⟨_,_,_,rfl,_⟩
  ·exact⟨_,_,_,rfl⟩
  ·exact⟨_,_,_,rfl⟩
 have k:=cells3W hv
 have HW:=hid (writeW_any w.heap.size _ L w h.tab (Nat.le_refl _) hT hok hn)
 unfold srcA
 generalize Lib.join (wrs L) [32]=T at HW ⊢
 clear h hv ho hT hok hn
 by_cases hm:10<m
 ·rw[if_pos hm]
  clear HW
  go_enter Tryz.func62,Tryz.ntmps62
  go_wp2
  exact bodyPost_ret (v:=.tuple #[.string ⟨#[]⟩,.int .i64 10]) (by simp[results,Tryz.results62,go_sem]) rfl ⟨rfl,Below.refl _ _⟩
 ·rw[if_neg hm]
  have hsz:(str8 T).size=T.length:=rfl
  by_cases hl:2000<T.length
  ·rw[if_pos hl]
   have hl':((2000:Int)<((str8 T).size:Int)):=by rw[hsz];omega
   clear hl hsz
   generalize str8 T=S at HW hl'
   go_enter Tryz.func62,Tryz.ntmps62
   go_wp2_with fail
   refine HW.out.mono ?_
   rintro e w1 ⟨rfl,hb1⟩
   have HB:=hid hb1
   clear hb1 HW
   go_wp2
   exact bodyPost_ret (v:=.tuple #[.string ⟨#[]⟩,.int .i64 2]) (by simp[results,Tryz.results62,go_sem]) rfl ⟨rfl,HB.out⟩
  ·rw[if_neg hl]
   have hl' : ¬((2000:Int)<((str8 T).size:Int)):=by rw[hsz];omega
   clear hl hsz
   dsimp only
   generalize str8 T=S at HW hl' ⊢
   go_enter Tryz.func62,Tryz.ntmps62
   go_wp2_with fail
   refine HW.out.mono ?_
   rintro e w1 ⟨rfl,hb1⟩
   have HB:=hid hb1
   clear hb1 HW
   go_wp2
   exact bodyPost_ret (v:=.tuple #[.string S,.int .i64 0]) (by simp[results,Tryz.results62,go_sem]) rfl ⟨rfl,HB.out⟩
theorem new_wr (w:World) (h:TabW w):∃W,w.alloc (.cells #[.slice none 0 0,.int .i64 0,.int .i64 0] 98)=W∧Below w.heap.size w W∧w.heap.size<W.heap.size∧WrAt W w.heap.size none [] 0 0:=by
 obtain⟨W,hW,hbW,hzW,hcW⟩:=box8 w (.cells #[.slice none 0 0,.int .i64 0,.int .i64 0] 98)
 exact⟨W,hW,hbW,hzW,⟨⟨_,hcW,World.ownsRow_nil _ _ _ _,rfl⟩,h.on hbW,h.lt⟩⟩
theorem listCo_w (fr:Nat) (eg : ∀args w,(callFunc fr args).run Tryz.prog w = .ok (.enter fr args) w) (tk:Co→List Tk) (dp:Co→Nat) (sep:List UInt8) (hsep:sep≠[]) (xs:List (Co)) (v:Value)
  (g:Nat) (tb:Option Nat) (L:List Tk) (d m:Int) (w:World) (h:WrAt w g tb L d m) (hv:SlAt 4 ColE (fun b=>b<g) w xs v) (hdm:d≤m) (hm:m≤1000000000) (hd : ∀x∈xs,d+dp x≤1000000000) (hL:L.length+(sepK (fxT sep) (xs.map tk)).length≤1000000000)
  (HF:Hid (∀x∈xs,∀(V:World) (tb':Option Nat) (L':List Tk) (m':Int),WrAt V g tb' L' d m'→∀cs,ColE (fun b=>b<g) V x cs→L'.length+(tk x).length≤1000000000→d≤m'→m'≤1000000000→Calls Tryz.prog fr #[.pointer (some ⟨g,0,none⟩),.agg cs.toArray] V fun e w'=>e = .returned (.tuple #[])∧Wrote g tb' V w' (L'++tk x) d (max m' (d+dp x)))) :
  Calls Tryz.prog 164 #[.pointer (some ⟨g,0,none⟩),.string (str8 sep),v,.func (.func fr) #[.pointer (some ⟨g,0,none⟩)] #[]] w fun e w'=>e = .returned (.tuple #[])∧Wrote g tb w w' (L++sepK (fxT sep) (xs.map tk)) d (max m (d+(maxL (xs.map dp):Nat))):=by
 have HV:=hid hv
 have HW:=hid h
 have hdl : ∀k,d+(maxL ((xs.take k).map dp):Nat)≤1000000000:=fun k=>by
  have : ∀l:List (Co),(∀x∈l,d+dp x≤1000000000)→d+(maxL (l.map dp):Nat)≤1000000000:=fun l=>by
   induction l with
   | nil=>intro _;show d+((0:Nat):Int)≤_;omega
   |
    cons x l ih =>
    intro hh
    have h1:=hh x (by simp)
    have h2:=ih (fun y hy=>hh y (by simp[hy]))
    show d+((max (dp x) (maxL (l.map dp)):Nat):Int)≤_
    omega
  exact this _ (fun x hx=>hd x (List.mem_of_mem_take hx))
 have HDL:=hid hdl
 have hsl : ∀k,(sepK (fxT sep) ((xs.take k).map tk)).length≤(sepK (fxT sep) (xs.map tk)).length:=fun k=>by
  have e:xs.map tk=(xs.take k).map tk++(xs.drop k).map tk:=by rw[← List.map_append,List.take_append_drop]
  rw[e]
  cases (xs.take k).map tk with
  | nil=>simp[sepK]
  | cons a l=>simp[sepK,List.flatMap_append]
 have HSL:=hid hsl
 have hsnoc : ∀k x,xs[k]?=some x→sepK (fxT sep) ((xs.take (k+1)).map tk)=(if k=0 then tk x else sepK (fxT sep) ((xs.take k).map tk)++fxT sep::tk x)∧maxL ((xs.take (k+1)).map dp)=max (maxL ((xs.take k).map dp)) (dp x):=fun k x hx=>by
  obtain⟨h1,h2⟩:=List.getElem?_eq_some_iff.1 hx
  rw[List.take_succ_eq_append_getElem h1,h2,List.map_append,List.map_append]
  refine ⟨?_,?_⟩
  ·rw[show [x].map tk=[tk x] from rfl,sepK_snoc]
   by_cases e:k=0
   ·subst e;simp
   ·rw[if_neg e,if_neg (fun e2=>e (by have:=congrArg List.length e2;rw[List.length_map,List.length_take,List.length_nil] at this;omega))]
  ·have : ∀(l:List Nat) (n:Nat),maxL (l++[n])=max (maxL l) n:=fun l n=>by
    induction l with
    | nil=>show max n 0=max 0 n;omega
    | cons a l ih=>show max a (maxL (l++[n]))=max (max a (maxL l)) n;rw[ih];omega
   exact this _ _
 have HSN:=hid hsnoc
 obtain⟨aa,cc,css,rfl,h1,h2,_⟩:=hv
 unfold maxLen at h2
 clear h hdl hsl hsnoc hd
 go_enter Tryz.func164,Tryz.ntmps164
 go_wp2_with fail
 go_loopw [8,9,12] (fun _ _ i wr=>∃(k:Nat),k≤xs.length∧i = .int .i64 k∧Wrote g tb w wr (L++sepK (fxT sep) ((xs.take k).map tk)) d (max m (d+(maxL ((xs.take k).map dp):Nat)))) (fun _ _ i _=>xs.length-(intOf i).toNat)
 case atStart =>
  refine ⟨0,Nat.zero_le _,rfl,?_⟩
  have e:max m (d+(maxL ((xs.take 0).map dp):Nat))=m:=by show max m (d+((0:Nat):Int))=m;omega
  rw[e]
  simpa [sepK] using HW.out.here
 case round =>
  obtain⟨k,hk,rfl,hq⟩:=hrel
  by_cases hlt:k<xs.length
  ·obtain⟨x,hx⟩:∃x,xs[k]?=some x:=⟨_,List.getElem?_eq_getElem hlt⟩
   have hlt':((k:Int)<(xs.length:Int)):=by omega
   obtain⟨tw1,hw1,ht1,hf1⟩:=hq
   obtain⟨_,_,_,b,off,cs,rfl,_,hel,hcell⟩:=sl_get (HV.out.to (T:=fun b=>b<g) (by decide) hf1 (FrW.keeps HW.out hf1) (fun _ _ e=>e.to hf1 (FrW.keeps HW.out hf1))) hx
   obtain⟨hs1,hs2⟩:=HSN.out k x hx
   have hxm:=List.mem_of_getElem? hx
   have hll:=HSL.out (k+1)
   have hmm:=HDL.out k
   rw[hs1] at hll
   have HEL:=hid hel
   obtain rfl:=hel
   have q0:=hcell 0 _ rfl
   have q1:=hcell 1 _ rfl
   have q2:=hcell 2 _ rfl
   have q3:=hcell 3 _ rfl
   simp only[Nat.add_zero] at q0
   have hgt:g<wr.heap.size:=hw1.lt
   obtain⟨U,hU,hbU,hzU,hcU⟩:=box8 wr (.cells #[.string (str8 x.nm),.int .i64 x.k,.bool x.nn,.bool x.uq] 37)
   have kU:=fun i=>cell_row U wr.heap.size _ _ _ i hcU
   have kU':U.cell? ⟨wr.heap.size,0,none⟩=some (.string (str8 x.nm))∧U.cell? ⟨wr.heap.size,1,none⟩=some (.int .i64 x.k)∧U.cell? ⟨wr.heap.size,2,none⟩=some (.bool x.nn)∧U.cell? ⟨wr.heap.size,3,none⟩=some (.bool x.uq):=⟨(kU 0).trans rfl,(kU 1).trans rfl,(kU 2).trans rfl,(kU 3).trans rfl⟩
   clear kU
   have hwU:=hw1.below hbU
   have HBX:=hid (BoxW.mk' hw1 hcU (Nat.le_refl _))
   have HELU:=hid (HEL.out.to (R:=fun _=>False) (T:=fun b=>b<g) (Spares.of_new hbU) (fun b hb _=>⟨id,hb⟩))
   have HT1:=hid ht1
   have HF1:=hid hf1
   have HBU:=hid hbU
   clear ht1 hf1 hbU hcU hw1 HEL
   generalize hPT:sepK (fxT sep) ((xs.take k).map tk)=PT at *
   generalize hPD:maxL ((xs.take k).map dp)=PD at *
   by_cases hk0:k=0
   ·rw[if_pos hk0] at hs1 hll
    have hPT0:PT=[]:=by rw[← hPT,hk0];simp[sepK]
    have hCA:=HF.out x hxm U tw1 (L++PT) (max m (d+(PD:Int))) hwU _ HELU.out (by rw[hPT0];simp;omega) (by omega) (by omega)
    have HC:Hid (Calls Tryz.prog fr #[.pointer (some ⟨g,0,none⟩),.agg #[.string (str8 x.nm),.int .i64 x.k,.bool x.nn,.bool x.uq]] U fun e w'=>e = .returned (.tuple #[])∧Wrote g tw1 U w' (L++sepK (fxT sep) ((xs.take (k+1)).map tk)) d (max m (d+(maxL ((xs.take (k+1)).map dp):Nat)))):=hid (by
     rw[hs1,hs2]
     rw[hPT0,List.append_nil] at hCA
     rw[show max m (d+((max PD (dp x):Nat):Int))=max (max m (d+(PD:Int))) (d+(dp x:Int)) by omega]
     exact hCA)
    have HQ0:Hid (FrW g tb w U):=hid (HF1.out.thenNew HBU.out)
    clear hCA hs1 hs2 hll hmm hxm hwU hPT hPD hPT0 hcell hx
    have hk0' : ¬((0:Int)<(k:Int)):=by omega
    clear hk0
    go_wp2_with (first | (refine wpList_store_row rfl 37 (.tmp 9) (.tmp 16) rfl wr.heap.size #[.string (str8 x.nm),.int .i64 x.k,.bool x.nn,.bool x.uq] rfl rfl 37 #[.string ⟨#[]⟩,.int .i64 0,.bool false,.bool false] (heap_alloc_new wr _) Tryz.sizeCo rfl rfl ?_;rw[alloc_setRow,hU];clear hU) | fail)
    refine HC.out.mono ?_
    rintro e w2 ⟨rfl,h2⟩
    have HQ:=hid (Wrote.then HT1.out HQ0.out h2)
    clear h2 HC
    go_wp2
    go_roundw
    case rel=>exact⟨k+1,by omega,by go_num,HQ.out⟩
    case measure=>simp[intOf];omega
   ·rw[if_neg hk0] at hs1 hll
    have hk0':((0:Int)<(k:Int)):=by omega
    simp only[List.length_append,List.length_cons] at hll
    have HX:Hid (Calls Tryz.prog 97 #[.pointer (some ⟨g,0,none⟩),.slice (some ⟨U.heap.size,0,none⟩) 1 1] (U.alloc (.cells #[.string (str8 sep)] 9)) fun e w'=>e = .returned (.tuple #[])∧Wrote g tw1 U w' (L++PT++wordsK [sep]) d (max m (d+(PD:Int)))):=hid (fixed_new g tw1 _ d _ [sep] U hwU (by simp) (by simpa using hsep) (by simp;omega))
    have HWU:=hid hwU
    have HQ0:Hid (FrW g tb w U):=hid (HF1.out.thenNew HBU.out)
    have HS1:=hid hs1
    have HS2:=hid hs2
    have HM:=hid hxm
    clear hs1 hs2 hxm hwU hPT hPD hcell hx
    go_wp2_with (first | (refine wpList_store_row rfl 37 (.tmp 9) (.tmp 16) rfl wr.heap.size #[.string (str8 x.nm),.int .i64 x.k,.bool x.nn,.bool x.uq] rfl rfl 37 #[.string ⟨#[]⟩,.int .i64 0,.bool false,.bool false] (heap_alloc_new wr _) Tryz.sizeCo rfl rfl ?_;rw[alloc_setRow,hU];clear hU) | fail)
    refine HX.out.mono ?_
    rintro e w2 ⟨rfl,tw2,hw2,ht2,hf2⟩
    have hbx:=fun i=>cell_row w2 wr.heap.size _ _ _ i (HBX.out.on ht2 hf2).at'
    have kX:w2.cell? ⟨wr.heap.size,0,none⟩=some (.string (str8 x.nm))∧w2.cell? ⟨wr.heap.size,1,none⟩=some (.int .i64 x.k)∧w2.cell? ⟨wr.heap.size,2,none⟩=some (.bool x.nn)∧w2.cell? ⟨wr.heap.size,3,none⟩=some (.bool x.uq):=⟨(hbx 0).trans rfl,(hbx 1).trans rfl,(hbx 2).trans rfl,(hbx 3).trans rfl⟩
    clear hbx
    have hCA:=HF.out x HM.out w2 tw2 _ (max m (d+(PD:Int))) hw2 _ (HELU.out.to hf2 (FrW.keeps HWU.out hf2)) (by simp[wordsK];omega) (by omega) (by omega)
    have HC:Hid (Calls Tryz.prog fr #[.pointer (some ⟨g,0,none⟩),.agg #[.string (str8 x.nm),.int .i64 x.k,.bool x.nn,.bool x.uq]] w2 fun e w'=>e = .returned (.tuple #[])∧Wrote g tw2 w2 w' (L++sepK (fxT sep) ((xs.take (k+1)).map tk)) d (max m (d+(maxL ((xs.take (k+1)).map dp):Nat)))):=hid (by
     rw[HS1.out,HS2.out]
     rw[show max m (d+((max PD (dp x):Nat):Int))=max (max m (d+(PD:Int))) (d+(dp x:Int)) by omega]
     rw[show L++PT++wordsK [sep]++tk x=L++(PT++fxT sep::tk x) by simp[wordsK]] at hCA
     exact hCA)
    have HT2:=hid ht2
    have HF2:=hid hf2
    clear hCA ht2 hf2 hw2 HX
    go_wp2_with fail
    refine HC.out.mono ?_
    rintro e w3 ⟨rfl,h3⟩
    have HQ:=hid (Wrote.then HT1.out HQ0.out (Wrote.then HT2.out HF2.out h3))
    clear h3 HC
    go_wp2
    go_roundw
    case rel=>exact⟨k+1,by omega,by go_num,HQ.out⟩
    case measure=>simp[intOf];omega
  ·have hlt' : ¬((k:Int)<(xs.length:Int)):=by omega
   have HQ:Hid (Wrote g tb w wr (L++sepK (fxT sep) (xs.map tk)) d (max m (d+(maxL (xs.map dp):Nat)))):=hid (by rw[List.take_of_length_le (by omega)] at hq;exact hq)
   clear hq
   go_wp2
   exact bodyPost_end (v:=.tuple #[]) (by simp[results,Tryz.results164,go_sem]) rfl ⟨rfl,HQ.out⟩
theorem cells4W {w:World} {g:Nat} {a b c d:Value} {t:TypeId} (h:w.heap[g]?=some (.cells #[a,b,c,d] t)):w.cell? ⟨g,0,none⟩=some a∧w.cell? ⟨g,1,none⟩=some b∧w.cell? ⟨g,2,none⟩=some c∧w.cell? ⟨g,3,none⟩=some d :=
 ⟨by rw[cell_row _ _ _ _ _ _ h];rfl,by rw[cell_row _ _ _ _ _ _ h];rfl,by rw[cell_row _ _ _ _ _ _ h];rfl,by rw[cell_row _ _ _ _ _ _ h];rfl⟩
theorem rightColumn_any (c:Co) (w:World) (h1:c.nm.length≤9223372036854775807) :
  Calls Tryz.prog 87 #[.agg #[.string (str8 c.nm),.int .i64 c.k,.bool c.nn,.bool c.uq]] w fun e w'=>e = .returned (.bool (colB c))∧Below w.heap.size w w':=by
 obtain⟨nm,k,nn,uq⟩:=c
 dsimp only at h1 ⊢
 have HN:=hid (fun V=>lname_any nm V h1)
 have hd:colB ⟨nm,k,nn,uq⟩=(nameOk nm&&(decide (k=1)||decide (k=2))):=by unfold colB;simp
 rw[hd]
 clear hd h1
 obtain⟨W,hW,hbW,hzW,hcW⟩:=box8 w (.cells #[.string (str8 nm),.int .i64 k,.bool nn,.bool uq] 37)
 have k0:=cells4W hcW
 have HB:=hid hbW
 have HC:=hid hcW
 have HQ0:=hid (Below.refl W.heap.size W)
 clear hbW hcW
 cases hv0:nameOk nm with
 |
  true =>
  rw[Bool.true_and]
  rw[hv0] at HN
  clear hv0
  cases hv1:decide (k=1) with
  |
   true =>
   rw[Bool.true_or]
   have g1:(k==1)=true:=by rw[of_decide_eq_true hv1];rfl
   clear hv1
   go_enter Tryz.func87,Tryz.ntmps87
   go_wp2_with fail
   refine (HN.out _).mono ?_
   rintro e v1 ⟨rfl,hb1⟩
   have HQ1:Hid (Below W.heap.size W v1):=hid (HQ0.out.trans (hb1.mono HQ0.out.size))
   have kk1:=cells4W ((HQ1.out.block w.heap.size hzW).trans HC.out)
   clear hb1
   go_wp2
   go_ret
   exact⟨rfl,HB.out.trans (HQ1.out.mono HB.out.size)⟩
  |
   false =>
   rw[Bool.false_or]
   have g1:(k==1)=false:=by rw[beq_eq_false_iff_ne];exact of_decide_eq_false hv1
   clear hv1
   cases hv2:decide (k=2) with
   |
    true =>
    have g2:(k==2)=true:=by rw[of_decide_eq_true hv2];rfl
    clear hv2
    go_enter Tryz.func87,Tryz.ntmps87
    go_wp2_with fail
    refine (HN.out _).mono ?_
    rintro e v1 ⟨rfl,hb1⟩
    have HQ1:Hid (Below W.heap.size W v1):=hid (HQ0.out.trans (hb1.mono HQ0.out.size))
    have kk1:=cells4W ((HQ1.out.block w.heap.size hzW).trans HC.out)
    clear hb1
    go_wp2
    go_ret
    exact⟨rfl,HB.out.trans (HQ1.out.mono HB.out.size)⟩
   |
    false =>
    have g2:(k==2)=false:=by rw[beq_eq_false_iff_ne];exact of_decide_eq_false hv2
    clear hv2
    go_enter Tryz.func87,Tryz.ntmps87
    go_wp2_with fail
    refine (HN.out _).mono ?_
    rintro e v1 ⟨rfl,hb1⟩
    have HQ1:Hid (Below W.heap.size W v1):=hid (HQ0.out.trans (hb1.mono HQ0.out.size))
    have kk1:=cells4W ((HQ1.out.block w.heap.size hzW).trans HC.out)
    clear hb1
    go_wp2
    go_ret
    exact⟨rfl,HB.out.trans (HQ1.out.mono HB.out.size)⟩
 |
  false =>
  rw[Bool.false_and]
  rw[hv0] at HN
  clear hv0
  go_enter Tryz.func87,Tryz.ntmps87
  go_wp2_with fail
  refine (HN.out _).mono ?_
  rintro e v1 ⟨rfl,hb1⟩
  have HQ1:Hid (Below W.heap.size W v1):=hid (HQ0.out.trans (hb1.mono HQ0.out.size))
  have kk1:=cells4W ((HQ1.out.block w.heap.size hzW).trans HC.out)
  clear hb1
  go_wp2
  go_ret
  exact⟨rfl,HB.out.trans (HQ1.out.mono HB.out.size)⟩
def RgV (v:Vl):Prop:=-9223372036854775808≤v.n∧v.n≤9223372036854775807∧v.s.length≤9223372036854775807
theorem fr_step {g:Nat} {tb tb1 tb2:Option Nat} {W w1 w2:World} (h1 : ∀k,tb1=some k→tb=some k∨W.heap.size≤k) (hf:FrW g tb W w1) (h2 : ∀k,tb2=some k→tb1=some k∨w1.heap.size≤k) (hf2:FrW g tb1 w1 w2):(∀k,tb2=some k→tb=some k∨W.heap.size≤k)∧FrW g tb W w2:=by
 refine ⟨fun k hk=>?_,hf.andThen hf2 fun i hi=>?_⟩
 ·rcases h2 k hk with e | e
  ·exact h1 k e
  ·exact .inr (Nat.le_trans hf.size e)
 ·rcases hi with rfl | e
  ·exact .inl (.inl rfl)
  ·rcases h1 i e with e | e
   ·exact .inl (.inr e)
   ·exact .inr e
theorem fr_drew {g:Nat} {tb tb1 tb2:Option Nat} {W w1 w2:World} (h1 : ∀k,tb1=some k→tb=some k∨W.heap.size≤k) (hf:FrW g tb W w1) (h2 : ∀k,tb2=some k→tb1=some k∨w1.drew.heap.size≤k) (hf2:FrW g tb1 w1.drew w2):(∀k,tb2=some k→tb=some k∨W.heap.size≤k)∧FrW g tb W w2 :=
 fr_step h1 hf h2 ((Spares.of_new (Below.refl _ w1).drew).then hf2)
end Go.Proofs.YtaaggohjmhifbaaGreatDoor
