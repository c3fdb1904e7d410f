/- Packed for the hand-in: WBack LBackL WGood WTop -/
import Derived.Test.YtnidnipiihhnaaaGreatDoorX06
import Derived.Test.YtnidnipiihhnaaaGreatDoorX04
import Derived.Laws.StructEq
import Derived.Deep.QuietTactic
import Derived.BigQuiet
import Derived.Test.YtnidnipiihhnaaaGreatDoorX09
import Derived.Test.YtnidnipiihhnaaaGreatDoorX10
import Derived.Test.YtnidnipiihhnaaaGreatDoorX13
namespace Go.Proofs.YtnidnipiihhnaaaGreatDoor
set_option linter.unusedSimpArgs false
set_option linter.unusedVariables false
set_option maxHeartbeats 8000000
theorem areB_cons {α:Type} {xs:List α} {b:Nat} {p:α→Bool} (h:areB xs 1 b p=true):∃x l,xs=x::l∧l.length+1≤b∧∀y∈x::l,p y=true:=by
 unfold areB at h
 simp only[Bool.and_eq_true,decide_eq_true_eq,List.all_eq_true] at h
 match xs,h with
 | [],h=>exact absurd h.1.1 (by simp)
 | x::l,h=>exact⟨x,l,rfl,h.1.2,h.2⟩
theorem emp_parts {s:St} (h:empS s=true):s=zSt 0:=by
 unfold empS at h
 simp only[decide_eq_true_eq] at h
 obtain⟨k,tb,cols,prim,rows,sets,items,jn,on,wh,gr,od,desc,lim⟩:=s
 dsimp only at h
 obtain⟨h1,h2,h3,h4,h5,h6,h7,h8,h9,h10,h11,h12,h13,h14⟩:=h
 subst h1 h2 h4 h8 h13 h14
 obtain rfl:=List.eq_nil_of_length_eq_zero h3
 obtain rfl:=List.eq_nil_of_length_eq_zero h5
 obtain rfl:=List.eq_nil_of_length_eq_zero h6
 obtain rfl:=List.eq_nil_of_length_eq_zero h7
 obtain rfl:=List.eq_nil_of_length_eq_zero h9
 obtain rfl:=List.eq_nil_of_length_eq_zero h10
 obtain rfl:=List.eq_nil_of_length_eq_zero h11
 obtain rfl:=List.eq_nil_of_length_eq_zero h12
 rfl
theorem areB_mem {α:Type} {xs:List α} {a b:Nat} {p:α→Bool} (h:areB xs a b p=true):∀x∈xs,p x=true:=by
 unfold areB at h
 simp only[Bool.and_eq_true,List.all_eq_true] at h
 exact h.2
end Go.Proofs.YtnidnipiihhnaaaGreatDoor
namespace Go.Proofs.YtnidnipiihhnaaaGreatDoor
open Go.RowKit Go.Shelf
set_option linter.unusedSimpArgs false
set_option linter.unusedVariables false
set_option maxRecDepth 20000
set_option maxHeartbeats 8000000
theorem GoodT.ok {t:Tk} (h:GoodT t):OkT t:=⟨h.len,h.n0,h.n1⟩
end Go.Proofs.YtnidnipiihhnaaaGreatDoor
namespace Go.Proofs.YtnidnipiihhnaaaGreatDoor
set_option linter.unusedSimpArgs false
set_option linter.unusedVariables false
set_option maxHeartbeats 8000000
theorem good_of {s:List UInt8} (h1:skip false s=0) (h2:cutT s=(0,fxT s,s.length)):GoodT (fxT s):=by
 have:=good_cut h1 h2 0
 have e:(⟨(fxT s).k,(fxT s).s,(fxT s).n,0⟩:Tk)=fxT s:=by unfold fxT;split<;>rfl
 rw[e] at this
 exact this
def fxs:List (List UInt8):=[[40],[41],[44],[59],[46],[42],[43],[45],[47],[37],[61],[60],[62],[60,62],[60,61],[62,61],[65,78,68],[66,89],[67,79,85,78,84],[67,82,69,65,84,69],[68,69,76,69,84,69],[68,69,83,67],[68,82,79,80],[70,82,79,77],[71,82,79,85,80],[73,78,83,69,82,84],[73,78,84],[73,78,84,79],[73,83],[74,79,73,78],[75,69,89],[76,73,77,73,84],[77,65,88],[77,73,78],[78,79,84],[78,85,76,76],[79,78],[79,82],[79,82,68,69,82],[80,82,73,77,65,82,89],[83,69,76,69,67,84],[83,69,84],[83,85,77],[84,65,66,76,69],[84,69,88,84],[85,78,73,81,85,69],[85,80,68,65,84,69],[86,65,76,85,69,83],[87,72,69,82,69]]
theorem good_all : ∀s∈fxs,GoodT (fxT s):=by
 unfold fxs
 simp only[List.forall_mem_cons]
 refine ⟨?_,?_,?_,?_,?_,?_,?_,?_,?_,?_,?_,?_,?_,?_,?_,?_,?_,?_,?_,?_,?_,?_,?_,?_,?_,?_,?_,?_,?_,?_,?_,?_,?_,?_,?_,?_,?_,?_,?_,?_,?_,?_,?_,?_,?_,?_,?_,?_,?_,?_⟩<;>first | (refine good_of ?_ ?_<;>rfl) | (intro x hx;cases hx)
theorem good_fx {s:List UInt8} (h:s∈fxs):GoodT (fxT s):=good_all s h
theorem good_name {s:List UInt8} (h:nameOk s=true):GoodT (nmT s):=by
 unfold nameOk at h
 simp only[Bool.and_eq_true,decide_eq_true_eq] at h
 obtain⟨h1,h2,h3,h4⟩:=h
 cases s with
 | nil=>simp at h1
 |
  cons c r =>
  have h3:inS lowsB c=true:=h3
  have hc:cutT (c::r)=(0,nmT (c::r),(c::r).length):=by
   unfold cutT
   dsimp only
   rw[if_pos h3]
   unfold cutNameT
   rw[h4,List.drop_length,List.take_length,if_neg (by decide),if_neg (by omega)]
   rfl
  have hs:skip false (c::r)=0:=by
   rw[skip,if_neg ?_]
   ·cases r with
    | nil=>rw[if_neg (by simp)]
    |
     cons d r' =>
     rw[if_neg ?_]
     rintro⟨rfl,_⟩
     exact absurd (show inS lowsB 45=true from h3) (by decide)
   ·intro hb
    have : ∀c∈blksB,inS lowsB c=false:=by decide
    rw[this c (by simpa [inS] using hb)] at h3
    cases h3
  exact good_cut hs hc 0
def AllG (ts:List Tk):Prop:=∀t∈ts,GoodT t
theorem AllG.nil:AllG []:=fun t h=>by cases h
theorem AllG.cons {t:Tk} {ts:List Tk} (h:GoodT t) (hs:AllG ts):AllG (t::ts):=fun x hx=>by
 rcases List.mem_cons.1 hx with rfl | hx
 ·exact h
 ·exact hs x hx
theorem AllG.app {a b:List Tk} (h:AllG a) (hs:AllG b):AllG (a++b):=fun x hx=>by
 rcases List.mem_append.1 hx with hx | hx
 ·exact h x hx
 ·exact hs x hx
theorem AllG.words {l:List (List UInt8)} (h : ∀s∈l,s∈fxs):AllG (wordsK l):=fun x hx=>by
 obtain⟨s,hs,rfl⟩:=List.mem_map.1 hx
 exact good_fx (h s hs)
theorem AllG.sep {sep:Tk} {l:List (List Tk)} (hs:GoodT sep) (h : ∀x∈l,AllG x):AllG (sepK sep l):=by
 cases l with
 | nil=>exact AllG.nil
 |
  cons x l =>
  refine (h x (by simp)).app (fun t ht=>?_)
  obtain⟨y,hy,ht⟩:=List.mem_flatMap.1 ht
  exact AllG.cons hs (h y (by simp[hy])) t ht
theorem AllG.at' {l lv:Nat} {ts:List Tk} (h:AllG ts):AllG (atK l lv ts):=by
 unfold atK
 split
 ·exact h
 ·exact AllG.cons (good_fx (by decide)) (h.app (AllG.cons (good_fx (by decide)) AllG.nil))
theorem lit_good {v:Vl} (hv:valOk v=true):AllG (litK v):=by
 unfold litK
 rcases val_kind hv with⟨h1,h2,h3⟩ | ⟨h1,h2,h3⟩ | ⟨h1,h2,h3,h4⟩
 ·rw[if_pos h1]
  exact AllG.cons (good_text v.s 0 h3) AllG.nil
 ·rw[if_neg (by omega),if_pos h1]
  exact AllG.cons (good_fx (by decide)) AllG.nil
 ·rw[if_neg (by omega),if_neg (by omega)]
  split
  ·exact AllG.cons (good_fx (by decide)) (AllG.cons (good_num _ 0 (by omega) (by omega)) AllG.nil)
  ·exact AllG.cons (good_num _ 0 (by omega) (by omega)) AllG.nil
theorem op_fxs (o:Int) (h1:1≤o) (h2:o≤13):opTx o∈fxs:=by
 rcases op_tab o h1 h2 with rfl | rfl | rfl | rfl | rfl | rfl | rfl | rfl | rfl | rfl | rfl | rfl | rfl<;>decide
theorem tk_good (t:Tm) (h:t.ok):AllG t.tk:=by
 induction t with
 | val v=>exact lit_good h
 |
  col a b =>
  simp only[Tm.tk]
  split
  ·exact AllG.cons (good_name h.1) AllG.nil
  ·rename_i ha
   exact AllG.cons (good_name (h.2.resolve_left ha)) (AllG.cons (good_fx (by decide)) (AllG.cons (good_name h.1) AllG.nil))
 | op o a b ha hb=>exact (ha h.2.2.1).at'.app (AllG.cons (good_fx (op_fxs o h.1 h.2.1)) (hb h.2.2.2).at')
 | not a ha=>exact AllG.cons (good_fx (by decide)) (ha h.2).at'
 | neg a ha=>exact AllG.cons (good_fx (by decide)) (ha h).at'
 | nul a ha=>exact (ha h).at'.app (AllG.cons (good_fx (by decide)) (AllG.cons (good_fx (by decide)) AllG.nil))
 | nnul a ha=>exact (ha h).at'.app (AllG.cons (good_fx (by decide)) (AllG.cons (good_fx (by decide)) (AllG.cons (good_fx (by decide)) AllG.nil)))
theorem ex_good {e:Ex} (h:rightE e=true):AllG (exK e):=tk_good _ (right_ok h).1
theorem part_good {xs:List Ex} {ws:List (List UInt8)} (h : ∀x∈xs,rightE x=true) (hw : ∀s∈ws,s∈fxs):AllG (partK xs ws):=fun t ht=>by
 obtain⟨x,hx,ht⟩:=List.mem_flatMap.1 ht
 exact ((AllG.words hw).app (ex_good (h x hx))) t ht
theorem colE_right {e:Ex} (h:colEB e=true):rightE e=true:=by
 unfold colEB at h
 simp only[Bool.and_eq_true] at h
 exact h.2
theorem item_good {i:It} (h:itB i=true):AllG (itK i):=by
 unfold itB at h
 unfold itK
 by_cases h1:i.k=1
 ·rw[if_pos h1];exact AllG.cons (good_fx (by decide)) AllG.nil
 ·rw[if_neg h1]
  by_cases h3:i.k=3
  ·rw[if_neg (by omega),if_pos h3];exact AllG.words (by decide)
  ·rw[if_neg (by omega)] at h
   split at h
   ·rename_i hk
    obtain⟨x,l,hx,_,hp⟩:=areB_cons h
    have hg:=ex_good (hp x (by simp))
    rw[hx]
    split
    ·exact hg
    ·refine (AllG.words ?_).app (hg.app (AllG.cons (good_fx (by decide)) AllG.nil))
     have:i.k=4∨i.k=5∨i.k=6∨i.k=7:=by omega
     rcases this with e | e | e | e<;>rw[e]<;>decide
   ·cases h
theorem noe_good {s:List UInt8} (h:noeB s=true) (hs:s≠[]):GoodT (nmT s):=by
 unfold noeB at h
 simp only[Bool.or_eq_true,decide_eq_true_eq] at h
 exact good_name (h.resolve_left hs)
theorem state_good {s:St} (h:rightS s=true):AllG (tkS s):=by
 unfold rightS at h
 simp only[Bool.and_eq_true] at h
 obtain⟨hk,ht,_⟩:=h
 have hn:=good_name ht
 unfold kindB at hk
 unfold tkS
 split at hk
 ·rename_i h1
  rw[if_pos h1]
  simp only[Bool.and_eq_true] at hk
  have hm:=areB_mem hk.1
  refine (AllG.words (by decide)).app (AllG.cons hn (AllG.cons (good_fx (by decide)) ((AllG.sep (good_fx (by decide)) fun x hx=>?_).app ((AllG.words (by decide)).app (AllG.cons (good_name hk.2) (AllG.words (by decide)))))))
  obtain⟨c,hc,rfl⟩:=List.mem_map.1 hx
  have hcb:=hm c hc
  unfold colB at hcb
  simp only[Bool.and_eq_true] at hcb
  refine AllG.cons (good_name hcb.1) (AllG.cons (good_fx (by split<;>decide)) (AllG.app ?_ ?_))
  ·split
   ·exact AllG.words (by decide)
   ·exact AllG.nil
  ·split
   ·exact AllG.words (by decide)
   ·exact AllG.nil
 ·rename_i h1
  rw[if_neg h1]
  split at hk
  ·rename_i h2
   rw[if_pos h2]
   exact (AllG.words (by decide)).app (AllG.cons hn AllG.nil)
  ·rename_i h2
   rw[if_neg h2]
   split at hk
   ·rename_i h3
    rw[if_pos h3]
    have hm:=areB_mem hk
    refine (AllG.words (by decide)).app (AllG.cons hn (AllG.cons (good_fx (by decide)) (AllG.sep (good_fx (by decide)) fun x hx=>?_)))
    obtain⟨r,hr,rfl⟩:=List.mem_map.1 hx
    have hrm:=areB_mem (hm r hr)
    refine AllG.cons (good_fx (by decide)) ((AllG.sep (good_fx (by decide)) fun y hy=>?_).app (AllG.cons (good_fx (by decide)) AllG.nil))
    obtain⟨v,hv,rfl⟩:=List.mem_map.1 hy
    exact lit_good (hrm v hv)
   ·rename_i h3
    rw[if_neg h3]
    split at hk
    ·rename_i h4
     rw[if_pos h4]
     simp only[Bool.and_eq_true] at hk
     have hm:=areB_mem hk.1
     refine AllG.cons (good_fx (by decide)) (AllG.cons hn (AllG.cons (good_fx (by decide)) ((AllG.sep (good_fx (by decide)) fun x hx=>?_).app (part_good (areB_mem hk.2) (by decide)))))
     obtain⟨e,he,rfl⟩:=List.mem_map.1 hx
     have:=hm e he
     unfold setB at this
     simp only[Bool.and_eq_true] at this
     exact AllG.cons (good_name this.1) (AllG.cons (good_fx (by decide)) (ex_good this.2))
    ·rename_i h4
     rw[if_neg h4]
     split at hk
     ·rename_i h5
      rw[if_pos h5]
      exact (AllG.words (by decide)).app (AllG.cons hn (part_good (areB_mem hk) (by decide)))
     ·rename_i h5
      rw[if_neg h5]
      split at hk
      ·unfold selB at hk
       simp only[Bool.and_eq_true,decide_eq_true_eq] at hk
       obtain⟨k1,k2,k3,k4,k5,k6,k7,k8⟩:=hk
       unfold selK
       refine AllG.cons (good_fx (by decide)) ((AllG.sep (good_fx (by decide)) fun x hx=>?_).app (AllG.cons (good_fx (by decide)) (AllG.cons hn (AllG.app ?_ ((part_good (areB_mem k3) (by decide)).app ((part_good (areB_mem k4) (by decide)).app ((part_good (fun x hx=>colE_right (areB_mem k5 x hx)) (by decide)).app ((part_good (fun x hx=>colE_right (areB_mem k6 x hx)) (by decide)).app (AllG.app ?_ ?_)))))))))
       ·obtain⟨i,hi,rfl⟩:=List.mem_map.1 hx
        exact item_good (areB_mem k1 i hi)
       ·split
        ·exact AllG.nil
        ·rename_i hj
         exact AllG.cons (good_fx (by decide)) (AllG.cons (noe_good k2 hj) AllG.nil)
       ·split
        ·exact AllG.cons (good_fx (by decide)) AllG.nil
        ·exact AllG.nil
       ·split
        ·exact AllG.nil
        ·rename_i hl
         exact AllG.cons (good_fx (by decide)) (AllG.cons (good_num _ 0 (by omega) k8.2) AllG.nil)
      ·cases hk
end Go.Proofs.YtnidnipiihhnaaaGreatDoor
namespace Go.Proofs.YtnidnipiihhnaaaGreatDoor
open Go.RowKit Go.Shelf
set_option linter.unusedSimpArgs false
set_option linter.unusedVariables false
set_option maxRecDepth 20000
set_option maxHeartbeats 8000000
def srcA (L:List Tk) (m:Int):List UInt8 × Int:=if 10<m then ([],10) else if 2000<(Lib.join (wrs L) [32]).length then ([],2) else (Lib.join (wrs L) [32],0)
def exprA (x:Ex):List UInt8 × Int:=if rightE x=true then srcA (exK x) (exD x) else ([],4)
theorem source_w (g:Nat) (tb:Option Nat) (L:List Tk) (d m:Int) (w:World) (h:WrAt w g tb L d m) (hok : ∀t∈L,OkT t) (hn:L.length≤10000000) :
  Calls Tryz.prog 22 #[.pointer (some ⟨g,0,none⟩)] w fun e w'=>e = .returned (.tuple #[.string (str8 (srcA L m).1),.int .i64 (srcA L m).2])∧Below w.heap.size w w':=by
 obtain⟨v,hv,ho,_⟩:=h.lie
 have hT:=(toks_of_owns ho).2
 obtain⟨va,vb,vc,rfl⟩:∃va vb vc,v = .slice va vb vc:=by
  rcases ho.2 with⟨rfl,_⟩ | ⟨_,_,_,rfl,_⟩
  ·exact⟨_,_,_,rfl⟩
  ·exact⟨_,_,_,rfl⟩
 have k:=cells3W hv
 have HW:=hid (writeW_any w.heap.size _ L w h.tab (Nat.le_refl _) hT hok hn)
 unfold srcA
 generalize Lib.join (wrs L) [32]=T at HW ⊢
 clear h hv ho hT hok hn
 by_cases hm:10<m
 ·rw[if_pos hm]
  clear HW
  go_enter Tryz.func22,Tryz.ntmps22
  go_wp2
  exact bodyPost_ret (v:=.tuple #[.string ⟨#[]⟩,.int .i64 10]) (by simp[results,Tryz.results22,go_sem]) rfl ⟨rfl,Below.refl _ _⟩
 ·rw[if_neg hm]
  have hsz:(str8 T).size=T.length:=rfl
  by_cases hl:2000<T.length
  ·rw[if_pos hl]
   have hl':((2000:Int)<((str8 T).size:Int)):=by rw[hsz];omega
   clear hl hsz
   generalize str8 T=S at HW hl'
   go_enter Tryz.func22,Tryz.ntmps22
   go_wp2_with fail
   refine HW.out.mono ?_
   rintro e w1 ⟨rfl,hb1⟩
   have HB:=hid hb1
   clear hb1 HW
   go_wp2
   exact bodyPost_ret (v:=.tuple #[.string ⟨#[]⟩,.int .i64 2]) (by simp[results,Tryz.results22,go_sem]) rfl ⟨rfl,HB.out⟩
  ·rw[if_neg hl]
   have hl' : ¬((2000:Int)<((str8 T).size:Int)):=by rw[hsz];omega
   clear hl hsz
   dsimp only
   generalize str8 T=S at HW hl' ⊢
   go_enter Tryz.func22,Tryz.ntmps22
   go_wp2_with fail
   refine HW.out.mono ?_
   rintro e w1 ⟨rfl,hb1⟩
   have HB:=hid hb1
   clear hb1 HW
   go_wp2
   exact bodyPost_ret (v:=.tuple #[.string S,.int .i64 0]) (by simp[results,Tryz.results22,go_sem]) rfl ⟨rfl,HB.out⟩
theorem new_wr (w:World) (h:TabW w):∃W,w.alloc (.cells #[.slice none 0 0,.int .i64 0,.int .i64 0] 59)=W∧Below w.heap.size w W∧w.heap.size<W.heap.size∧WrAt W w.heap.size none [] 0 0:=by
 obtain⟨W,hW,hbW,hzW,hcW⟩:=box8 w (.cells #[.slice none 0 0,.int .i64 0,.int .i64 0] 59)
 exact⟨W,hW,hbW,hzW,⟨⟨_,hcW,World.ownsRow_nil _ _ _ _,rfl⟩,h.on hbW,h.lt⟩⟩
theorem printExpr_any (S:Nat→Prop) (x:Ex) (v:Value) (w:World) (hT:TabW w) (hR:RgE x) (hx:ExV S w x v) (hz:rightE x=true→exZ x≤1000000) :
  Calls Tryz.prog 11 #[v] w fun e w'=>e = .returned (.tuple #[.string (str8 (exprA x).1),.int .i64 (exprA x).2])∧Below w.heap.size w w':=by
 have HX:=hid hx
 obtain⟨k,op,tb,nm,vk,vn,vs,ys,aa,nn,cc,he,rfl,ha⟩:=hx
 obtain⟨W,hW,hbW,hzW,hcW⟩:=box8 w (.cells #[.int .i64 k,.int .i64 op,.string (str8 tb),.string (str8 nm),.int .i64 vk,.int .i64 vn,.string (str8 vs),.slice aa nn cc] 26)
 have k0:=cells8 hcW
 have HRE:=hid (rightExpr_any S _ x _ W (Nat.lt_succ_self _) hR (HX.out.new hbW))
 have HB:=hid hbW
 have HC:=hid hcW
 have HTW:=hid (hT.on hbW)
 unfold exprA
 clear hbW hcW ha he hT hR
 cases hr:rightE x with
 |
  false =>
  rw[hr] at HRE
  rw[if_neg Bool.false_ne_true]
  clear hr hz
  go_enter Tryz.func11,Tryz.ntmps11
  go_wp2_with fail
  refine HRE.out.mono ?_
  rintro e w1 ⟨rfl,hb1⟩
  have HB1:=hid (HB.out.trans (hb1.mono HB.out.size))
  clear hb1 HRE
  go_wp2
  exact bodyPost_ret (v:=.tuple #[.string ⟨#[]⟩,.int .i64 4]) (by simp[results,Tryz.results11,go_sem]) rfl ⟨rfl,HB1.out⟩
 |
  true =>
  rw[hr] at HRE
  rw[if_pos rfl]
  obtain⟨hok,hex⟩:=right_ok hr
  have hz2:=hz hr
  unfold exZ at hz2
  have hl:=tk_len (tmE x)
  have hd:=dp_le (tmE x)
  have hgd:=tk_good _ hok
  have hXW:=expr_w (tmE x) hok
  show Calls Tryz.prog 11 _ w fun e w'=>e = .returned (.tuple #[.string (str8 (srcA (tmE x).tk (tmE x).dp).1),.int .i64 (srcA (tmE x).tk (tmE x).dp).2])∧_
  obtain⟨R,hR⟩:∃R,srcA (tmE x).tk ((tmE x).dp:Int)=R:=⟨_,rfl⟩
  rw[hR]
  have HRR:=hid hR
  clear hR
  have HOK:Hid (∀t∈(tmE x).tk,OkT t):=hid (fun t ht=>(hgd t ht).ok)
  clear hgd hr hz hok
  go_enter Tryz.func11,Tryz.ntmps11
  go_wp2_with fail
  refine HRE.out.mono ?_
  rintro e w1 ⟨rfl,hb1⟩
  have hB1:=HB.out.trans (hb1.mono HB.out.size)
  obtain⟨V,hV,hbV,hzV,hwV⟩:=new_wr w1 (HTW.out.on hb1)
  have hlt1:w.heap.size<w1.heap.size:=Nat.lt_of_lt_of_le hzW hb1.size
  have k1:=cells8 ((hbV.block w.heap.size hlt1).trans ((hb1.block w.heap.size hzW).trans HC.out))
  have hxV:ExV (fun b=>b<w1.heap.size) V (tmE x).ex (.agg #[.int .i64 k,.int .i64 op,.string (str8 tb),.string (str8 nm),.int .i64 vk,.int .i64 vn,.string (str8 vs),.slice aa nn cc]):=by
   rw[hex]
   exact (HX.out.to (R:=fun _=>False) (T:=fun b=>b<w1.heap.size) (Spares.of_new hB1) (fun b _ hb=>⟨id,Nat.lt_of_lt_of_le hb hB1.size⟩)).new hbV
  have HE:=hid (hXW w1.heap.size none [] 0 0 V _ hwV hxV (by simp;omega) (by omega) (by omega) (by omega) (by omega))
  have HBV:=hid (hB1.trans (hbV.mono hB1.size))
  clear hb1 hB1 HRE hbV hwV hxV hXW
  go_wp2_with fail
  try rw[hV]
  refine HE.out.mono ?_
  rintro e w2 ⟨rfl,tb2,hw2,ht2,hf2⟩
  rw[List.nil_append] at hw2
  have e1:max (0:Int) (0+((tmE x).dp:Int))=((tmE x).dp:Int):=by omega
  rw[e1] at hw2
  have HS:=hid (source_w _ _ _ _ _ w2 hw2 HOK.out (by omega))
  have HB2:Hid (Below w.heap.size w w2):=hid (HBV.out.trans (hf2.below (fun i hi=>by
   rcases hi with rfl | e
   ·omega
   ·cases e) (by omega)))
  clear hw2 ht2 hf2 HE e1
  rw[HRR.out] at HS
  go_wp2_with fail
  refine HS.out.mono ?_
  rintro e w3 ⟨rfl,hb3⟩
  have HB3:=hid (HB2.out.trans (hb3.mono HB2.out.size))
  clear hb3 HS
  go_wp2
  exact bodyPost_ret (v:=.tuple #[.string (str8 R.1),.int .i64 R.2]) (by simp[results,Tryz.results11,go_sem]) rfl ⟨rfl,HB3.out⟩
end Go.Proofs.YtnidnipiihhnaaaGreatDoor
