/- Packed for the hand-in: WRightV WSize -/
import Derived.Test.YtnidnipiihhnaaaGreatDoorX23
import Derived.Test.YtnidnipiihhnaaaGreatDoorX24
import Derived.Test.YtnidnipiihhnaaaGreatDoorX25
import Derived.Test.YtnidnipiihhnaaaGreatDoorX14
namespace Go.Proofs.YtnidnipiihhnaaaGreatDoor
open Go.RowKit Go.Shelf
set_option linter.unusedSimpArgs false
set_option linter.unusedVariables false
set_option maxRecDepth 20000
set_option maxHeartbeats 8000000
theorem rightSt_no (w:World) (k:Int) (tn prim jn:List UInt8) (desc:Bool) (lim:Int) (a1 a2 a3 a4 a5 a6 a7 a8:Option Addr) (n1 n2 n3 n4 n5 n6 n7 n8 c1 c2 c3 c4 c5 c6 c7 c8:Nat) (h1:k≠1) (h2:k≠2) (h3:k≠3) (h4:k≠4) (h5:k≠5) (h6:k≠6) :
  Calls Tryz.prog 29 #[.agg #[.int .i64 k,.string (str8 tn),.slice a1 n1 c1,.string (str8 prim),.slice a2 n2 c2,.slice a3 n3 c3,.slice a4 n4 c4,.string (str8 jn),.slice a5 n5 c5,.slice a6 n6 c6,.slice a7 n7 c7,.slice a8 n8 c8,.bool desc,.int .i64 lim]] w fun e w'=>e = .returned (.bool false)∧Below w.heap.size w w':=by
 obtain⟨W,hW,hbW,hzW,hc0,hc1⟩:=restS_boxes w k tn prim jn desc lim a1 a2 a3 a4 a5 a6 a7 a8 n1 n2 n3 n4 n5 n6 n7 n8 c1 c2 c3 c4 c5 c6 c7 c8
 have q0:=cells14 hc0
 have q1:=cells14 hc1
 have q1f:=cells14F hc1
 have HB:=hid hbW
 have HC0:=hid hc0
 have HC1:=hid hc1
 have hz0:w.heap.size<W.heap.size:=by omega
 clear hbW hc0 hc1
 have hkb1:(k==1)=false:=by rw[beq_eq_false_iff_ne];exact h1
 have hkb2:(k==2)=false:=by rw[beq_eq_false_iff_ne];exact h2
 have hkb3:(k==3)=false:=by rw[beq_eq_false_iff_ne];exact h3
 have hkb4:(k==4)=false:=by rw[beq_eq_false_iff_ne];exact h4
 have hkb5:(k==5)=false:=by rw[beq_eq_false_iff_ne];exact h5
 have hkb6:(k==6)=false:=by rw[beq_eq_false_iff_ne];exact h6
 clear h1 h2 h3 h4 h5 h6
 go_enter Tryz.func29,Tryz.ntmps29
 go_wp2_with (first | (refine wpList_store_row rfl 42 (.tmp 3) (.tmp 5) rfl (w.heap.size+1) #[.int .i64 k,.string (str8 tn),.slice a1 n1 c1,.string (str8 prim),.slice a2 n2 c2,.slice a3 n3 c3,.slice a4 n4 c4,.string (str8 jn),.slice a5 n5 c5,.slice a6 n6 c6,.slice a7 n7 c7,.slice a8 n8 c8,.bool desc,.int .i64 lim] rfl rfl 42 #[.int .i64 0,.string ⟨#[]⟩,.slice none 0 0,.string ⟨#[]⟩,.slice none 0 0,.slice none 0 0,.slice none 0 0,.string ⟨#[]⟩,.slice none 0 0,.slice none 0 0,.slice none 0 0,.slice none 0 0,.bool false,.int .i64 0] (heap_alloc2_new w _ _) Tryz.sizeSt rfl rfl ?_;rw[rest_store]) | fail)
 try rw[hW]
 go_ret
 exact⟨rfl,HB.out⟩
theorem rightStatement_any (S:Nat→Prop) (s:St) (cs:List Value) (w:World) (hR:RgS s) (hx:StE S w s cs) :
  Calls Tryz.prog 29 #[.agg cs.toArray] w fun e w'=>e = .returned (.bool (rightS s))∧Below w.heap.size w w':=by
 obtain⟨a1,a2,a3,a4,a5,a6,a7,a8,n1,n2,n3,n4,n5,n6,n7,n8,c1,c2,c3,c4,c5,c6,c7,c8,rfl,x1,x2,x3,x4,x5,x6,x7,x8⟩:=hx
 have e1:n1=s.cols.length:=by obtain⟨_,_,hf⟩:=x1.form;simp only[Value.slice.injEq] at hf;exact hf.2.1
 have e2:n2=s.rows.length:=by obtain⟨_,_,hf⟩:=x2.form;simp only[Value.slice.injEq] at hf;exact hf.2.1
 have e3:n3=s.sets.length:=by obtain⟨_,_,hf⟩:=x3.form;simp only[Value.slice.injEq] at hf;exact hf.2.1
 have e4:n4=s.items.length:=by obtain⟨_,_,hf⟩:=x4.form;simp only[Value.slice.injEq] at hf;exact hf.2.1
 have e5:n5=s.on.length:=by obtain⟨_,_,hf,_⟩:=x5.form;simp only[Value.slice.injEq] at hf;exact hf.2.1
 have e6:n6=s.wh.length:=by obtain⟨_,_,hf,_⟩:=x6.form;simp only[Value.slice.injEq] at hf;exact hf.2.1
 have e7:n7=s.gr.length:=by obtain⟨_,_,hf,_⟩:=x7.form;simp only[Value.slice.injEq] at hf;exact hf.2.1
 have e8:n8=s.od.length:=by obtain⟨_,_,hf,_⟩:=x8.form;simp only[Value.slice.injEq] at hf;exact hf.2.1
 obtain⟨k,tn,cols,prim,rows,sets,items,jn,on,wh,gr,od,desc,lim⟩:=s
 obtain⟨rt,rp,rj,rl,rc,rr,rs,ri,ro,rw',rg,rd⟩:=hR
 dsimp only at *
 subst e1 e2 e3 e4 e5 e6 e7 e8
 have HNT:=hid (fun V=>lname_any tn V rt)
 have HNP:=hid (fun V=>lname_any prim V rp)
 have HCO:Hid (∀V,Below w.heap.size w V→Calls Tryz.prog 60 #[.slice a1 cols.length c1,.int .i64 1,.int .i64 8,.func (.func 61) #[] #[]] V fun e w'=>e = .returned (.bool (areB cols 1 8 colB))∧Below V.heap.size V w'):=hid (fun V hV=>areCo_any S 61 (enters_of Tryz.func61 (by kernel_rfl) rfl) colB cols _ 1 8 V (by omega) (by omega) (x1.to (by decide) (R:=fun _=>False) (T:=S) (Spares.of_new hV) (fun b hb _=>⟨id,hb⟩) (fun _ _ e=>e)) (hid (fun y hy U hU cs hcs=>by obtain rfl:=hcs;exact rightColumn_any y U (rc y hy))))
 have HRO:Hid (∀V,Below w.heap.size w V→Calls Tryz.prog 62 #[.slice a2 rows.length c2,.int .i64 1,.int .i64 16,.func (.func 63) #[] #[]] V fun e w'=>e = .returned (.bool (areB rows 1 16 rowB))∧Below V.heap.size V w'):=hid (fun V hV=>areVs_any S 63 (enters_of Tryz.func63 (by kernel_rfl) rfl) rowB rows _ 1 16 V (by omega) (by omega) (x2.to (by decide) (R:=fun _=>False) (T:=S) (Spares.of_new hV) (fun b hb _=>⟨id,hb⟩) (fun _ _ e=>e.to (R:=fun _=>False) (T:=S) (Spares.of_new hV) (fun b hb _=>⟨id,hb⟩))) (hid (fun y hy U hU cs hcs=>by obtain⟨aa,nn,cc,rfl,h⟩:=hcs;exact rightRow_any S y aa nn cc U (rr y hy) h)))
 have HSE:Hid (∀V,Below w.heap.size w V→Calls Tryz.prog 64 #[.slice a3 sets.length c3,.int .i64 1,.int .i64 8,.func (.func 65) #[] #[]] V fun e w'=>e = .returned (.bool (areB sets 1 8 setB))∧Below V.heap.size V w'):=hid (fun V hV=>areSe_any S 65 (enters_of Tryz.func65 (by kernel_rfl) rfl) setB sets _ 1 8 V (by omega) (by omega) (x3.to (by decide) (R:=fun _=>False) (T:=S) (Spares.of_new hV) (fun b hb _=>⟨id,hb⟩) (fun _ _ e=>e.to (R:=fun _=>False) (T:=S) (Spares.of_new hV) (fun b hb _=>⟨id,hb⟩))) (hid (fun y hy U hU cs hcs=>rightSet_any S y cs U (rs y hy).1 (rs y hy).2 hcs)))
 have HWH:Hid (∀V,Below w.heap.size w V→Calls Tryz.prog 46 #[.slice a6 wh.length c6,.int .i64 0,.int .i64 1,.func (.func 20) #[] #[]] V fun e w'=>e = .returned (.bool (areB wh 0 1 rightE))∧Below V.heap.size V w'):=hid (fun V hV=>rightEs_any S wh _ 0 1 V (by omega) (by omega) rw' (x6.new hV))
 have HSL:=hid (fun V (hV:Below w.heap.size w V)=>rightSelect_any S k tn items on wh gr od prim jn desc lim a1 a2 a3 a4 a5 a6 a7 a8 cols.length rows.length sets.length items.length on.length wh.length gr.length od.length c1 c2 c3 c4 c5 c6 c7 c8 V (x4.to (by decide) (R:=fun _=>False) (T:=S) (Spares.of_new hV) (fun b hb _=>⟨id,hb⟩) (fun _ _ e=>e.to (R:=fun _=>False) (T:=S) (Spares.of_new hV) (fun b hb _=>⟨id,hb⟩))) (x5.new hV) (x6.new hV) (x7.new hV) (x8.new hV) ri ro rw' rg rd rj rl)
 have hrs:rightS ⟨k,tn,cols,prim,rows,sets,items,jn,on,wh,gr,od,desc,lim⟩=(if k=1 then (areB cols 1 8 colB&&nameOk prim)&&(nameOk tn&&empC 0 [] rows.length sets.length items.length jn on.length wh.length gr.length od.length desc lim)
   else if k=2 then true&&(nameOk tn&&empC cols.length prim rows.length sets.length items.length jn on.length wh.length gr.length od.length desc lim)
   else if k=3 then areB rows 1 16 rowB&&(nameOk tn&&empC cols.length prim 0 sets.length items.length jn on.length wh.length gr.length od.length desc lim)
   else if k=4 then (areB sets 1 8 setB&&areB wh 0 1 rightE)&&(nameOk tn&&empC cols.length prim rows.length 0 items.length jn on.length 0 gr.length od.length desc lim)
   else if k=5 then areB wh 0 1 rightE&&(nameOk tn&&empC cols.length prim rows.length sets.length items.length jn on.length 0 gr.length od.length desc lim)
   else if k=6 then selB ⟨k,tn,cols,prim,rows,sets,items,jn,on,wh,gr,od,desc,lim⟩&&(nameOk tn&&empC cols.length prim rows.length sets.length 0 [] 0 0 0 0 false (-1))
   else false):=by
  unfold rightS kindB restS
  dsimp only
  by_cases k1:k=1
  ·simp only[if_pos k1];rw[empS_eq _ rfl rfl];rfl
  ·by_cases k2:k=2
   ·simp only[if_neg k1,if_pos k2,if_neg (show ¬k=3 by omega),if_neg (show ¬k=4 by omega),if_neg (show ¬k=5 by omega),if_neg (show ¬k=6 by omega)];rw[empS_eq _ rfl rfl]
   ·by_cases k3:k=3
    ·simp only[if_neg k1,if_neg k2,if_pos k3];rw[empS_eq _ rfl rfl];rfl
    ·by_cases k4:k=4
     ·simp only[if_neg k1,if_neg k2,if_neg k3,if_pos k4];rw[empS_eq _ rfl rfl];rfl
     ·by_cases k5:k=5
      ·simp only[if_neg k1,if_neg k2,if_neg k3,if_neg k4,if_pos k5];rw[empS_eq _ rfl rfl];rfl
      ·by_cases k6:k=6
       ·simp only[if_neg k1,if_neg k2,if_neg k3,if_neg k4,if_neg k5,if_pos k6];rw[empS_eq _ rfl rfl];rfl
       ·simp only[if_neg k1,if_neg k2,if_neg k3,if_neg k4,if_neg k5,if_neg k6,Bool.false_and]
 rw[hrs]
 clear hrs x1 x2 x3 x4 x5 x6 x7 x8 rt rp rj rl rc rr rs ri ro rw' rg rd
 have hsel:selB ⟨k,tn,cols,prim,rows,sets,items,jn,on,wh,gr,od,desc,lim⟩=(areB items 1 8 itB&&(noeB jn&&(areB on (joinN jn) (joinN jn) rightE&&(areB wh 0 1 rightE&&(areB gr 0 1 colEB&&(areB od 0 1 colEB&&((!desc||decide (od.length=1))&&decide (-1≤lim∧lim≤9223372036854775807)))))))):=rfl
 rw[hsel]
 clear hsel
 generalize (areB items 1 8 itB&&(noeB jn&&(areB on (joinN jn) (joinN jn) rightE&&(areB wh 0 1 rightE&&(areB gr 0 1 colEB&&(areB od 0 1 colEB&&((!desc||decide (od.length=1))&&decide (-1≤lim∧lim≤9223372036854775807))))))))=BS at HSL ⊢
 generalize areB cols 1 8 colB=BC at HCO ⊢
 generalize areB rows 1 16 rowB=BR at HRO ⊢
 generalize areB sets 1 8 setB=BE at HSE ⊢
 generalize areB wh 0 1 rightE=BW at HWH ⊢
 generalize nameOk prim=BP at HNP ⊢
 generalize nameOk tn=BT at HNT ⊢
 generalize cols.length=n1 at *
 generalize rows.length=n2 at *
 generalize sets.length=n3 at *
 generalize items.length=n4 at *
 generalize on.length=n5 at *
 generalize wh.length=n6 at *
 generalize gr.length=n7 at *
 generalize od.length=n8 at *
 by_cases hk1:k=1
 ·rw[if_pos hk1]
  subst hk1
  exact rightSt_1 w tn prim jn desc lim a1 a2 a3 a4 a5 a6 a7 a8 n1 n2 n3 n4 n5 n6 n7 n8 c1 c2 c3 c4 c5 c6 c7 c8 BC BP BT HCO HNP HNT
 ·rw[if_neg hk1]
  by_cases hk2:k=2
  ·rw[if_pos hk2]
   subst hk2
   exact rightSt_2 w tn prim jn desc lim a1 a2 a3 a4 a5 a6 a7 a8 n1 n2 n3 n4 n5 n6 n7 n8 c1 c2 c3 c4 c5 c6 c7 c8 BT HNT
  ·rw[if_neg hk2]
   by_cases hk3:k=3
   ·rw[if_pos hk3]
    subst hk3
    exact rightSt_3 w tn prim jn desc lim a1 a2 a3 a4 a5 a6 a7 a8 n1 n2 n3 n4 n5 n6 n7 n8 c1 c2 c3 c4 c5 c6 c7 c8 BR BT HRO HNT
   ·rw[if_neg hk3]
    by_cases hk4:k=4
    ·rw[if_pos hk4]
     subst hk4
     exact rightSt_4 w tn prim jn desc lim a1 a2 a3 a4 a5 a6 a7 a8 n1 n2 n3 n4 n5 n6 n7 n8 c1 c2 c3 c4 c5 c6 c7 c8 BE BW BT HSE HWH HNT
    ·rw[if_neg hk4]
     by_cases hk5:k=5
     ·rw[if_pos hk5]
      subst hk5
      exact rightSt_5 w tn prim jn desc lim a1 a2 a3 a4 a5 a6 a7 a8 n1 n2 n3 n4 n5 n6 n7 n8 c1 c2 c3 c4 c5 c6 c7 c8 BW BT HWH HNT
     ·rw[if_neg hk5]
      by_cases hk6:k=6
      ·rw[if_pos hk6]
       subst hk6
       exact rightSt_6 w tn prim jn desc lim a1 a2 a3 a4 a5 a6 a7 a8 n1 n2 n3 n4 n5 n6 n7 n8 c1 c2 c3 c4 c5 c6 c7 c8 BS BT HSL HNT
      ·rw[if_neg hk6]
       exact rightSt_no w k tn prim jn desc lim a1 a2 a3 a4 a5 a6 a7 a8 n1 n2 n3 n4 n5 n6 n7 n8 c1 c2 c3 c4 c5 c6 c7 c8 hk1 hk2 hk3 hk4 hk5 hk6
end Go.Proofs.YtnidnipiihhnaaaGreatDoor
namespace Go.Proofs.YtnidnipiihhnaaaGreatDoor
set_option linter.unusedSimpArgs false
set_option linter.unusedVariables false
set_option maxHeartbeats 8000000
def exsS (s:St):List Ex:=s.sets.map (fun x=>x.e)++(s.items.flatMap (fun i=>i.xs)++(s.on++(s.wh++(s.gr++s.od))))
theorem sepK_le {α:Type} (sep:Tk) (tk:α→List Tk) (B:Nat) (l:List α) (h : ∀x∈l,(tk x).length≤B):(sepK sep (l.map tk)).length≤l.length*(B+1):=by
 have h2 : ∀l:List α,(∀x∈l,(tk x).length≤B)→((l.map tk).flatMap fun y=>sep::y).length≤l.length*(B+1):=fun l=>by
  induction l with
  | nil=>intro _;simp
  |
   cons x l ih =>
   intro h
   have h1:=h x (by simp)
   have h3:=ih (fun y hy=>h y (by simp[hy]))
   simp only[List.map_cons,List.flatMap_cons,List.length_append,List.length_cons,Nat.add_mul]
   omega
 cases l with
 | nil=>simp[sepK]
 |
  cons x l =>
  have h1:=h x (by simp)
  have h3:=h2 l (fun y hy=>h y (by simp[hy]))
  simp only[List.map_cons,sepK,List.length_append,List.length_cons,Nat.add_mul]
  omega
theorem exK_le (e:Ex):(exK e).length≤8*exZ e:=by
 have:=(tk_len (tmE e)).2
 unfold exK exZ
 omega
theorem exD_le (e:Ex):exD e≤2*exZ e:=by
 have:=dp_le (tmE e)
 unfold exD exZ
 omega
theorem maxL_up {l:List Nat} {n:Nat} (h : ∀x∈l,x≤n):maxL l≤n:=by
 unfold maxL
 induction l with
 | nil=>simp
 |
  cons x l ih =>
  have h1:=h x (by simp)
  have h2:=ih (fun y hy=>h y (by simp[hy]))
  simp only[List.foldr_cons]
  omega
theorem partK_le {xs:List Ex} {ws:List (List UInt8)} {Z:Nat} (hl:xs.length≤1) (h : ∀e∈xs,exZ e≤Z):(partK xs ws).length≤ws.length+8*Z:=by
 match xs,hl with
 | [],_=>simp[partK]
 |
  [x],_ =>
  have h1:=exK_le x
  have h2:=h x (by simp)
  simp only[partK,wordsK,List.flatMap_cons,List.flatMap_nil,List.append_nil,List.length_append,List.length_map]
  omega
 | _::_::_,hl=>simp at hl
theorem areB_len {α:Type} {xs:List α} {a b:Nat} {p:α→Bool} (h:areB xs a b p=true):a≤xs.length∧xs.length≤b:=by
 unfold areB at h
 simp only[Bool.and_eq_true,decide_eq_true_eq] at h
 exact h.1
theorem litK_le (v:Vl):(litK v).length≤2:=(litK_len v).2
theorem colK_le (c:Co):(colK c).length≤5:=by
 unfold colK
 simp only[List.length_cons,List.length_append]
 split<;>split<;>simp[wordsK]
theorem vrowK_le {r:List Vl} (h:rowB r=true):(vrowK r).length≤26:=by
 have h1:=(areB_len h).2
 have h2:=sepK_le (fxT [44]) litK 2 r (fun x _=>litK_le x)
 unfold vrowK
 simp only[List.length_cons,List.length_append,List.length_nil]
 omega
theorem itK_le {i:It} {Z:Nat} (h:itB i=true) (hz : ∀e∈i.xs,exZ e≤Z):(itK i).length≤8*Z+4:=by
 have hd:(exK (i.xs.headD zEx)).length≤8*Z∨(i.k=1∨i.k=3):=by
  unfold itB at h
  by_cases h1:i.k=1∨i.k=3
  ·exact .inr h1
  ·rw[if_neg h1] at h
   split at h
   ·obtain⟨x,l,hx,_,_⟩:=areB_cons h
    refine .inl ?_
    rw[hx]
    have h3:=exK_le x
    have h4:=hz x (by rw[hx];simp)
    show (exK x).length≤_
    omega
   ·cases h
 unfold itK
 split
 ·simp
 ·rename_i h1
  split
  ·rename_i h2
   rcases hd with hd | hd
   ·omega
   ·omega
  ·split
   ·simp[wordsK]
   ·rename_i h3
    rcases hd with hd | hd
    ·simp only[wordsK,List.map_cons,List.map_nil,List.length_append,List.length_cons,List.length_nil]
     omega
    ·omega
theorem tkS_le {s:St} {Z:Nat} (h:rightS s=true) (hz : ∀e∈exsS s,exZ e≤Z):(tkS s).length≤100*Z+1000:=by
 unfold rightS at h
 simp only[Bool.and_eq_true] at h
 have hk:=h.1
 clear h
 unfold kindB at hk
 unfold exsS at hz
 have z1 : ∀x∈s.sets,exZ x.e≤Z:=fun x hx=>hz _ (List.mem_append_left _ (List.mem_map.2 ⟨x,hx,rfl⟩))
 have z2 : ∀x∈s.items,∀e∈x.xs,exZ e≤Z:=fun x hx e he=>hz _ (List.mem_append_right _ (List.mem_append_left _ (List.mem_flatMap.2 ⟨x,hx,he⟩)))
 have z3 : ∀e∈s.on,exZ e≤Z:=fun e he=>hz _ (by simp[he])
 have z4 : ∀e∈s.wh,exZ e≤Z:=fun e he=>hz _ (by simp[he])
 have z5 : ∀e∈s.gr,exZ e≤Z:=fun e he=>hz _ (by simp[he])
 have z6 : ∀e∈s.od,exZ e≤Z:=fun e he=>hz _ (by simp[he])
 clear hz
 unfold tkS
 split at hk
 ·rename_i h1
  rw[if_pos h1]
  rw[Bool.and_eq_true] at hk
  have h2:=(areB_len hk.1).2
  have h3:=sepK_le (fxT [44]) colK 5 s.cols (fun x _=>colK_le x)
  unfold crK
  simp only[wordsK,List.map_cons,List.map_nil,List.length_append,List.length_cons,List.length_nil]
  omega
 ·rename_i h1
  rw[if_neg h1]
  split at hk
  ·rename_i h2
   rw[if_pos h2]
   simp only[wordsK,List.map_cons,List.map_nil,List.length_append,List.length_cons,List.length_nil]
   omega
  ·rename_i h2
   rw[if_neg h2]
   split at hk
   ·rename_i h3
    rw[if_pos h3]
    have h4:=(areB_len hk).2
    have h5:=sepK_le (fxT [44]) vrowK 26 s.rows (fun x hx=>vrowK_le (areB_mem hk x hx))
    simp only[wordsK,List.map_cons,List.map_nil,List.length_append,List.length_cons,List.length_nil]
    omega
   ·rename_i h3
    rw[if_neg h3]
    split at hk
    ·rename_i h4
     rw[if_pos h4]
     rw[Bool.and_eq_true] at hk
     have h5:=(areB_len hk.1).2
     have h6:=sepK_le (fxT [44]) setK (8*Z+2) s.sets (fun x hx=>by
      have a1:=exK_le x.e
      have a2:=z1 x hx
      simp only[setK,List.length_cons]
      omega)
     have h7:=partK_le (ws:=[[87,72,69,82,69]]) (areB_len hk.2).2 z4
     have h8:s.sets.length*(8*Z+2+1)≤8*(8*Z+2+1):=Nat.mul_le_mul_right _ h5
     simp only[List.length_append,List.length_cons,List.length_nil] at h7 ⊢
     omega
    ·rename_i h4
     rw[if_neg h4]
     split at hk
     ·rename_i h5
      rw[if_pos h5]
      have h7:=partK_le (ws:=[[87,72,69,82,69]]) (areB_len hk).2 z4
      simp only[wordsK,List.map_cons,List.map_nil,List.length_append,List.length_cons,List.length_nil] at h7 ⊢
      omega
     ·rename_i h5
      rw[if_neg h5]
      split at hk
      ·unfold selB at hk
       simp only[Bool.and_eq_true] at hk
       obtain⟨q1,q2,q3,q4,q5,q6,q7,q8⟩:=hk
       have j1:joinN s.jn≤1:=by unfold joinN;split<;>omega
       have l1:=partK_le (ws:=[[79,78]]) (Nat.le_trans (areB_len q3).2 j1) z3
       have l2:=partK_le (ws:=[[87,72,69,82,69]]) (areB_len q4).2 z4
       have l3:=partK_le (ws:=[[71,82,79,85,80],[66,89]]) (areB_len q5).2 z5
       have l4:=partK_le (ws:=[[79,82,68,69,82],[66,89]]) (areB_len q6).2 z6
       have h5:=(areB_len q1).2
       have h6:=sepK_le (fxT [44]) itK (8*Z+4) s.items (fun x hx=>itK_le (areB_mem q1 x hx) (z2 x hx))
       have h8:s.items.length*(8*Z+4+1)≤8*(8*Z+4+1):=Nat.mul_le_mul_right _ h5
       have m1:(if s.jn=[] then [] else [fxT [74,79,73,78],nmT s.jn]).length≤2:=by split<;>simp
       have m2:(if s.desc=true then [fxT [68,69,83,67]] else []).length≤1:=by split<;>simp
       have m3:(if s.lim = -1 then [] else [fxT [76,73,77,73,84],nuT s.lim]).length≤2:=by split<;>simp
       unfold selK
       simp only[List.length_append,List.length_cons,List.length_nil] at l1 l2 l3 l4 ⊢
       omega
      ·cases hk
theorem dpS_le {s:St} {Z:Nat} (hz : ∀e∈exsS s,exZ e≤Z):dpS s≤2*Z:=by
 unfold exsS at hz
 have z1 : ∀x∈s.sets,exZ x.e≤Z:=fun x hx=>hz _ (List.mem_append_left _ (List.mem_map.2 ⟨x,hx,rfl⟩))
 have z2 : ∀x∈s.items,∀e∈x.xs,exZ e≤Z:=fun x hx e he=>hz _ (List.mem_append_right _ (List.mem_append_left _ (List.mem_flatMap.2 ⟨x,hx,he⟩)))
 have up : ∀l:List Ex,(∀e∈l,exZ e≤Z)→exDs l≤2*Z:=fun l h=>maxL_up (fun n hn=>by
  obtain⟨e,he,rfl⟩:=List.mem_map.1 hn
  have a1:=exD_le e
  have a2:=h e he
  omega)
 have u1:maxL (s.sets.map fun x=>exD x.e)≤2*Z:=maxL_up (fun n hn=>by
  obtain⟨x,hx,rfl⟩:=List.mem_map.1 hn
  have a1:=exD_le x.e
  have a2:=z1 x hx
  omega)
 have u2:maxL (s.items.map itD)≤2*Z:=maxL_up (fun n hn=>by
  obtain⟨x,hx,rfl⟩:=List.mem_map.1 hn
  exact up _ (z2 x hx))
 have u3:=up s.on (fun e he=>hz _ (by simp[he]))
 have u4:=up s.wh (fun e he=>hz _ (by simp[he]))
 have u5:=up s.gr (fun e he=>hz _ (by simp[he]))
 have u6:=up s.od (fun e he=>hz _ (by simp[he]))
 unfold dpS
 split
 ·omega
 ·split
  ·omega
  ·split
   ·omega
   ·omega
end Go.Proofs.YtnidnipiihhnaaaGreatDoor
