/- Packed for the hand-in: WRightV WSize -/
import Derived.Test.YtfeglkleoijlaaaGreatDoorZ22
import Derived.Test.YtfeglkleoijlaaaGreatDoorZ23
import Derived.Test.YtfeglkleoijlaaaGreatDoorZ24
import Derived.Test.YtfeglkleoijlaaaGreatDoorZ13
namespace Go.Proofs.YtfeglkleoijlaaaGreatDoor
open Go.RowKit Go.Shelf
set_option linter.unusedSimpArgs false
set_option linter.unusedVariables false
set_option maxRecDepth 20000
set_option maxHeartbeats 8000000
theorem xM (w:World) (k:Int) (tn prim jn:List UInt8) (desc:Bool) (lim:Int) (a1 a2 a3 a4 a5 a6 a7 a8:Option Addr) (n1 n2 n3 n4 n5 n6 n7 n8 c1 c2 c3 c4 c5 c6 c7 c8:Nat) (h1:k≠1) (h2:k≠2) (h3:k≠3) (h4:k≠4) (h5:k≠5) (h6:k≠6) :
  Calls Tryz.prog 47 #[.agg #[.int .i64 k,.string (aj tn),.slice a1 n1 c1,.string (aj prim),.slice a2 n2 c2,.slice a3 n3 c3,.slice a4 n4 c4,.string (aj jn),.slice a5 n5 c5,.slice a6 n6 c6,.slice a7 n7 c7,.slice a8 n8 c8,.bool desc,.int .i64 lim]] w fun e w'=>e = .returned (.bool false)∧Below w.heap.size w w':=by
 obtain⟨W,hW,hbW,hzW,hc0,hc1⟩:=eG w k tn prim jn desc lim a1 a2 a3 a4 a5 a6 a7 a8 n1 n2 n3 n4 n5 n6 n7 n8 c1 c2 c3 c4 c5 c6 c7 c8
 have q0:=ay hc0
 have q1:=ay hc1
 have q1f:=aO hc1
 have HB:=hid hbW
 have HC0:=hid hc0
 have HC1:=hid hc1
 have hz0:w.heap.size<W.heap.size:=by omega
 clear hbW hc0 hc1
 have hkb1:(k==1)=false:=by rw[beq_eq_false_iff_ne];exact h1
 have hkb2:(k==2)=false:=by rw[beq_eq_false_iff_ne];exact h2
 have hkb3:(k==3)=false:=by rw[beq_eq_false_iff_ne];exact h3
 have hkb4:(k==4)=false:=by rw[beq_eq_false_iff_ne];exact h4
 have hkb5:(k==5)=false:=by rw[beq_eq_false_iff_ne];exact h5
 have hkb6:(k==6)=false:=by rw[beq_eq_false_iff_ne];exact h6
 clear h1 h2 h3 h4 h5 h6
 go_enter Tryz.func47,Tryz.ntmps47
 go_wp2_with (first | (refine wpList_store_row rfl 29 (.tmp 3) (.tmp 5) rfl (w.heap.size+1) #[.int .i64 k,.string (aj tn),.slice a1 n1 c1,.string (aj prim),.slice a2 n2 c2,.slice a3 n3 c3,.slice a4 n4 c4,.string (aj jn),.slice a5 n5 c5,.slice a6 n6 c6,.slice a7 n7 c7,.slice a8 n8 c8,.bool desc,.int .i64 lim] rfl rfl 29 #[.int .i64 0,.string ⟨#[]⟩,.slice none 0 0,.string ⟨#[]⟩,.slice none 0 0,.slice none 0 0,.slice none 0 0,.string ⟨#[]⟩,.slice none 0 0,.slice none 0 0,.slice none 0 0,.slice none 0 0,.bool false,.int .i64 0] (heap_alloc2_new w _ _) Tryz.dh rfl rfl ?_;rw[aV]) | fail)
 try rw[hW]
 go_ret
 exact⟨rfl,HB.out⟩
theorem lK (S:Nat→Prop) (s:St) (cs:List Value) (w:World) (hR:xH s) (hx:eZ S w s cs) :
  Calls Tryz.prog 47 #[.agg cs.toArray] w fun e w'=>e = .returned (.bool (aZ s))∧Below w.heap.size w w':=by
 obtain⟨a1,a2,a3,a4,a5,a6,a7,a8,n1,n2,n3,n4,n5,n6,n7,n8,c1,c2,c3,c4,c5,c6,c7,c8,rfl,x1,x2,x3,x4,x5,x6,x7,x8⟩:=hx
 have e1:n1=s.cols.length:=by obtain⟨_,_,hf⟩:=x1.form;simp only[Value.slice.injEq] at hf;exact hf.2.1
 have e2:n2=s.rows.length:=by obtain⟨_,_,hf⟩:=x2.form;simp only[Value.slice.injEq] at hf;exact hf.2.1
 have e3:n3=s.sets.length:=by obtain⟨_,_,hf⟩:=x3.form;simp only[Value.slice.injEq] at hf;exact hf.2.1
 have e4:n4=s.items.length:=by obtain⟨_,_,hf⟩:=x4.form;simp only[Value.slice.injEq] at hf;exact hf.2.1
 have e5:n5=s.on.length:=by obtain⟨_,_,hf,_⟩:=x5.form;simp only[Value.slice.injEq] at hf;exact hf.2.1
 have e6:n6=s.wh.length:=by obtain⟨_,_,hf,_⟩:=x6.form;simp only[Value.slice.injEq] at hf;exact hf.2.1
 have e7:n7=s.gr.length:=by obtain⟨_,_,hf,_⟩:=x7.form;simp only[Value.slice.injEq] at hf;exact hf.2.1
 have e8:n8=s.od.length:=by obtain⟨_,_,hf,_⟩:=x8.form;simp only[Value.slice.injEq] at hf;exact hf.2.1
 obtain⟨k,tn,cols,prim,rows,sets,items,jn,on,wh,gr,od,desc,lim⟩:=s
 obtain⟨rt,rp,rj,rl,rc,rr,rs,ri,ro,rw',rg,rd⟩:=hR
 dsimp only at *
 subst e1 e2 e3 e4 e5 e6 e7 e8
 have HNT:=hid (fun V=>fD tn V rt)
 have HNP:=hid (fun V=>fD prim V rp)
 have HCO:Hid (∀V,Below w.heap.size w V→Calls Tryz.prog 88 #[.slice a1 cols.length c1,.int .i64 1,.int .i64 8,.func (.func 89) #[] #[]] V fun e w'=>e = .returned (.bool (bf cols 1 8 eY))∧Below V.heap.size V w'):=hid (fun V hV=>rM S 89 (enters_of Tryz.func89 (by kernel_rfl) rfl) eY cols _ 1 8 V (by omega) (by omega) (x1.to (by decide) (R:=fun _=>False) (T:=S) (aA.aC hV) (fun b hb _=>⟨id,hb⟩) (fun _ _ e=>e)) (hid (fun y hy U hU cs hcs=>by obtain rfl:=hcs;exact jy y U (rc y hy))))
 have HRO:Hid (∀V,Below w.heap.size w V→Calls Tryz.prog 91 #[.slice a2 rows.length c2,.int .i64 1,.int .i64 16,.func (.func 92) #[] #[]] V fun e w'=>e = .returned (.bool (bf rows 1 16 uQ))∧Below V.heap.size V w'):=hid (fun V hV=>Bh S 92 (enters_of Tryz.func92 (by kernel_rfl) rfl) uQ rows _ 1 16 V (by omega) (by omega) (x2.to (by decide) (R:=fun _=>False) (T:=S) (aA.aC hV) (fun b hb _=>⟨id,hb⟩) (fun _ _ e=>e.to (R:=fun _=>False) (T:=S) (aA.aC hV) (fun b hb _=>⟨id,hb⟩))) (hid (fun y hy U hU cs hcs=>by obtain⟨aa,nn,cc,rfl,h⟩:=hcs;exact uI S y aa nn cc U (rr y hy) h)))
 have HSE:Hid (∀V,Below w.heap.size w V→Calls Tryz.prog 93 #[.slice a3 sets.length c3,.int .i64 1,.int .i64 8,.func (.func 94) #[] #[]] V fun e w'=>e = .returned (.bool (bf sets 1 8 mP))∧Below V.heap.size V w'):=hid (fun V hV=>Bv S 94 (enters_of Tryz.func94 (by kernel_rfl) rfl) mP sets _ 1 8 V (by omega) (by omega) (x3.to (by decide) (R:=fun _=>False) (T:=S) (aA.aC hV) (fun b hb _=>⟨id,hb⟩) (fun _ _ e=>e.to (R:=fun _=>False) (T:=S) (aA.aC hV) (fun b hb _=>⟨id,hb⟩))) (hid (fun y hy U hU cs hcs=>tJ S y cs U (rs y hy).1 (rs y hy).2 hcs)))
 have HWH:Hid (∀V,Below w.heap.size w V→Calls Tryz.prog 95 #[.slice a6 wh.length c6,.int .i64 0,.int .i64 1,.func (.func 82) #[] #[]] V fun e w'=>e = .returned (.bool (bf wh 0 1 aJ))∧Below V.heap.size V w'):=hid (fun V hV=>iH S wh _ 0 1 V (by omega) (by omega) rw' (x6.new hV))
 have HSL:=hid (fun V (hV:Below w.heap.size w V)=>nY S k tn items on wh gr od prim jn desc lim a1 a2 a3 a4 a5 a6 a7 a8 cols.length rows.length sets.length items.length on.length wh.length gr.length od.length c1 c2 c3 c4 c5 c6 c7 c8 V (x4.to (by decide) (R:=fun _=>False) (T:=S) (aA.aC hV) (fun b hb _=>⟨id,hb⟩) (fun _ _ e=>e.to (R:=fun _=>False) (T:=S) (aA.aC hV) (fun b hb _=>⟨id,hb⟩))) (x5.new hV) (x6.new hV) (x7.new hV) (x8.new hV) ri ro rw' rg rd rj rl)
 have hrs:aZ ⟨k,tn,cols,prim,rows,sets,items,jn,on,wh,gr,od,desc,lim⟩=(if k=1 then (bf cols 1 8 eY&&bC prim)&&(bC tn&&jU 0 [] rows.length sets.length items.length jn on.length wh.length gr.length od.length desc lim)
   else if k=2 then true&&(bC tn&&jU cols.length prim rows.length sets.length items.length jn on.length wh.length gr.length od.length desc lim)
   else if k=3 then bf rows 1 16 uQ&&(bC tn&&jU cols.length prim 0 sets.length items.length jn on.length wh.length gr.length od.length desc lim)
   else if k=4 then (bf sets 1 8 mP&&bf wh 0 1 aJ)&&(bC tn&&jU cols.length prim rows.length 0 items.length jn on.length 0 gr.length od.length desc lim)
   else if k=5 then bf wh 0 1 aJ&&(bC tn&&jU cols.length prim rows.length sets.length items.length jn on.length 0 gr.length od.length desc lim)
   else if k=6 then vB ⟨k,tn,cols,prim,rows,sets,items,jn,on,wh,gr,od,desc,lim⟩&&(bC tn&&jU cols.length prim rows.length sets.length 0 [] 0 0 0 0 false (-1))
   else false):=by
  unfold aZ iT sj
  dsimp only
  by_cases k1:k=1
  ·simp only[if_pos k1];rw[jo _ rfl rfl];rfl
  ·by_cases k2:k=2
   ·simp only[if_neg k1,if_pos k2,if_neg (show ¬k=3 by omega),if_neg (show ¬k=4 by omega),if_neg (show ¬k=5 by omega),if_neg (show ¬k=6 by omega)];rw[jo _ rfl rfl]
   ·by_cases k3:k=3
    ·simp only[if_neg k1,if_neg k2,if_pos k3];rw[jo _ rfl rfl];rfl
    ·by_cases k4:k=4
     ·simp only[if_neg k1,if_neg k2,if_neg k3,if_pos k4];rw[jo _ rfl rfl];rfl
     ·by_cases k5:k=5
      ·simp only[if_neg k1,if_neg k2,if_neg k3,if_neg k4,if_pos k5];rw[jo _ rfl rfl];rfl
      ·by_cases k6:k=6
       ·simp only[if_neg k1,if_neg k2,if_neg k3,if_neg k4,if_neg k5,if_pos k6];rw[jo _ rfl rfl];rfl
       ·simp only[if_neg k1,if_neg k2,if_neg k3,if_neg k4,if_neg k5,if_neg k6,Bool.false_and]
 rw[hrs]
 clear hrs x1 x2 x3 x4 x5 x6 x7 x8 rt rp rj rl rc rr rs ri ro rw' rg rd
 have hsel:vB ⟨k,tn,cols,prim,rows,sets,items,jn,on,wh,gr,od,desc,lim⟩=(bf items 1 8 sw&&(kN jn&&(bf on (fF jn) (fF jn) aJ&&(bf wh 0 1 aJ&&(bf gr 0 1 eF&&(bf od 0 1 eF&&((!desc||decide (od.length=1))&&decide (-1≤lim∧lim≤9223372036854775807)))))))):=rfl
 rw[hsel]
 clear hsel
 generalize (bf items 1 8 sw&&(kN jn&&(bf on (fF jn) (fF jn) aJ&&(bf wh 0 1 aJ&&(bf gr 0 1 eF&&(bf od 0 1 eF&&((!desc||decide (od.length=1))&&decide (-1≤lim∧lim≤9223372036854775807))))))))=BS at HSL ⊢
 generalize bf cols 1 8 eY=BC at HCO ⊢
 generalize bf rows 1 16 uQ=BR at HRO ⊢
 generalize bf sets 1 8 mP=BE at HSE ⊢
 generalize bf wh 0 1 aJ=BW at HWH ⊢
 generalize bC prim=BP at HNP ⊢
 generalize bC tn=BT at HNT ⊢
 generalize cols.length=n1 at *
 generalize rows.length=n2 at *
 generalize sets.length=n3 at *
 generalize items.length=n4 at *
 generalize on.length=n5 at *
 generalize wh.length=n6 at *
 generalize gr.length=n7 at *
 generalize od.length=n8 at *
 by_cases hk1:k=1
 ·rw[if_pos hk1]
  subst hk1
  exact sO w tn prim jn desc lim a1 a2 a3 a4 a5 a6 a7 a8 n1 n2 n3 n4 n5 n6 n7 n8 c1 c2 c3 c4 c5 c6 c7 c8 BC BP BT HCO HNP HNT
 ·rw[if_neg hk1]
  by_cases hk2:k=2
  ·rw[if_pos hk2]
   subst hk2
   exact Bu w tn prim jn desc lim a1 a2 a3 a4 a5 a6 a7 a8 n1 n2 n3 n4 n5 n6 n7 n8 c1 c2 c3 c4 c5 c6 c7 c8 BT HNT
  ·rw[if_neg hk2]
   by_cases hk3:k=3
   ·rw[if_pos hk3]
    subst hk3
    exact Aw w tn prim jn desc lim a1 a2 a3 a4 a5 a6 a7 a8 n1 n2 n3 n4 n5 n6 n7 n8 c1 c2 c3 c4 c5 c6 c7 c8 BR BT HRO HNT
   ·rw[if_neg hk3]
    by_cases hk4:k=4
    ·rw[if_pos hk4]
     subst hk4
     exact Ap w tn prim jn desc lim a1 a2 a3 a4 a5 a6 a7 a8 n1 n2 n3 n4 n5 n6 n7 n8 c1 c2 c3 c4 c5 c6 c7 c8 BE BW BT HSE HWH HNT
    ·rw[if_neg hk4]
     by_cases hk5:k=5
     ·rw[if_pos hk5]
      subst hk5
      exact zZ w tn prim jn desc lim a1 a2 a3 a4 a5 a6 a7 a8 n1 n2 n3 n4 n5 n6 n7 n8 c1 c2 c3 c4 c5 c6 c7 c8 BW BT HWH HNT
     ·rw[if_neg hk5]
      by_cases hk6:k=6
      ·rw[if_pos hk6]
       subst hk6
       exact Ai w tn prim jn desc lim a1 a2 a3 a4 a5 a6 a7 a8 n1 n2 n3 n4 n5 n6 n7 n8 c1 c2 c3 c4 c5 c6 c7 c8 BS BT HSL HNT
      ·rw[if_neg hk6]
       exact xM w k tn prim jn desc lim a1 a2 a3 a4 a5 a6 a7 a8 n1 n2 n3 n4 n5 n6 n7 n8 c1 c2 c3 c4 c5 c6 c7 c8 hk1 hk2 hk3 hk4 hk5 hk6
end Go.Proofs.YtfeglkleoijlaaaGreatDoor
namespace Go.Proofs.YtfeglkleoijlaaaGreatDoor
set_option linter.unusedSimpArgs false
set_option linter.unusedVariables false
set_option maxHeartbeats 8000000
def jv (s:St):List Ex:=s.sets.map (fun x=>x.e)++(s.items.flatMap (fun i=>i.xs)++(s.on++(s.wh++(s.gr++s.od))))
theorem iJ {α:Type} (sep:Tk) (tk:α→List Tk) (B:Nat) (l:List α) (h : ∀x∈l,(tk x).length≤B):(aS sep (l.map tk)).length≤l.length*(B+1):=by
 have h2 : ∀l:List α,(∀x∈l,(tk x).length≤B)→((l.map tk).flatMap fun y=>sep::y).length≤l.length*(B+1):=fun l=>by
  induction l with
  | nil=>intro _;simp
  |
   cons x l ih =>
   intro h
   have h1:=h x (by simp)
   have h3:=ih (fun y hy=>h y (by simp[hy]))
   simp only[List.map_cons,List.flatMap_cons,List.length_append,List.length_cons,Nat.add_mul]
   omega
 cases l with
 | nil=>simp[aS]
 |
  cons x l =>
  have h1:=h x (by simp)
  have h3:=h2 l (fun y hy=>h y (by simp[hy]))
  simp only[List.map_cons,aS,List.length_append,List.length_cons,Nat.add_mul]
  omega
theorem yB (e:Ex):(jG e).length≤8*jE e:=by
 have:=(BQ (iP e)).2
 unfold jG jE
 omega
theorem Ev (e:Ex):fJ e≤2*jE e:=by
 have:=F3 (iP e)
 unfold fJ jE
 omega
theorem lZ {l:List Nat} {n:Nat} (h : ∀x∈l,x≤n):aY l≤n:=by
 unfold aY
 induction l with
 | nil=>simp
 |
  cons x l ih =>
  have h1:=h x (by simp)
  have h2:=ih (fun y hy=>h y (by simp[hy]))
  simp only[List.foldr_cons]
  omega
theorem jg {xs:List Ex} {ws:List (List UInt8)} {Z:Nat} (hl:xs.length≤1) (h : ∀e∈xs,jE e≤Z):(bH xs ws).length≤ws.length+8*Z:=by
 match xs,hl with
 | [],_=>simp[bH]
 |
  [x],_ =>
  have h1:=yB x
  have h2:=h x (by simp)
  simp only[bH,au,List.flatMap_cons,List.flatMap_nil,List.append_nil,List.length_append,List.length_map]
  omega
 | _::_::_,hl=>simp at hl
theorem bL {α:Type} {xs:List α} {a b:Nat} {p:α→Bool} (h:bf xs a b p=true):a≤xs.length∧xs.length≤b:=by
 unfold bf at h
 simp only[Bool.and_eq_true,decide_eq_true_eq] at h
 exact h.1
theorem EH (v:Vl):(iX v).length≤2:=(pJ v).2
theorem zG (c:Co):(iN c).length≤5:=by
 unfold iN
 simp only[List.length_cons,List.length_append]
 split<;>split<;>simp[au]
theorem Ec {r:List Vl} (h:uQ r=true):(jA r).length≤26:=by
 have h1:=(bL h).2
 have h2:=iJ (aK [44]) iX 2 r (fun x _=>EH x)
 unfold jA
 simp only[List.length_cons,List.length_append,List.length_nil]
 omega
theorem GY {i:It} {Z:Nat} (h:sw i=true) (hz : ∀e∈i.xs,jE e≤Z):(xG i).length≤8*Z+4:=by
 have hd:(jG (i.xs.headD mW)).length≤8*Z∨(i.k=1∨i.k=3):=by
  unfold sw at h
  by_cases h1:i.k=1∨i.k=3
  ·exact .inr h1
  ·rw[if_neg h1] at h
   split at h
   ·obtain⟨x,l,hx,_,_⟩:=ny h
    refine .inl ?_
    rw[hx]
    have h3:=yB x
    have h4:=hz x (by rw[hx];simp)
    show (jG x).length≤_
    omega
   ·cases h
 unfold xG
 split
 ·simp
 ·rename_i h1
  split
  ·rename_i h2
   rcases hd with hd | hd
   ·omega
   ·omega
  ·split
   ·simp[au]
   ·rename_i h3
    rcases hd with hd | hd
    ·simp only[au,List.map_cons,List.map_nil,List.length_append,List.length_cons,List.length_nil]
     omega
    ·omega
theorem DR {s:St} {Z:Nat} (h:aZ s=true) (hz : ∀e∈jv s,jE e≤Z):(jF s).length≤100*Z+1000:=by
 unfold aZ at h
 simp only[Bool.and_eq_true] at h
 have hk:=h.1
 clear h
 unfold iT at hk
 unfold jv at hz
 have z1 : ∀x∈s.sets,jE x.e≤Z:=fun x hx=>hz _ (List.mem_append_left _ (List.mem_map.2 ⟨x,hx,rfl⟩))
 have z2 : ∀x∈s.items,∀e∈x.xs,jE e≤Z:=fun x hx e he=>hz _ (List.mem_append_right _ (List.mem_append_left _ (List.mem_flatMap.2 ⟨x,hx,he⟩)))
 have z3 : ∀e∈s.on,jE e≤Z:=fun e he=>hz _ (by simp[he])
 have z4 : ∀e∈s.wh,jE e≤Z:=fun e he=>hz _ (by simp[he])
 have z5 : ∀e∈s.gr,jE e≤Z:=fun e he=>hz _ (by simp[he])
 have z6 : ∀e∈s.od,jE e≤Z:=fun e he=>hz _ (by simp[he])
 clear hz
 unfold jF
 split at hk
 ·rename_i h1
  rw[if_pos h1]
  rw[Bool.and_eq_true] at hk
  have h2:=(bL hk.1).2
  have h3:=iJ (aK [44]) iN 5 s.cols (fun x _=>zG x)
  unfold Hy
  simp only[au,List.map_cons,List.map_nil,List.length_append,List.length_cons,List.length_nil]
  omega
 ·rename_i h1
  rw[if_neg h1]
  split at hk
  ·rename_i h2
   rw[if_pos h2]
   simp only[au,List.map_cons,List.map_nil,List.length_append,List.length_cons,List.length_nil]
   omega
  ·rename_i h2
   rw[if_neg h2]
   split at hk
   ·rename_i h3
    rw[if_pos h3]
    have h4:=(bL hk).2
    have h5:=iJ (aK [44]) jA 26 s.rows (fun x hx=>Ec (aU hk x hx))
    simp only[au,List.map_cons,List.map_nil,List.length_append,List.length_cons,List.length_nil]
    omega
   ·rename_i h3
    rw[if_neg h3]
    split at hk
    ·rename_i h4
     rw[if_pos h4]
     rw[Bool.and_eq_true] at hk
     have h5:=(bL hk.1).2
     have h6:=iJ (aK [44]) pY (8*Z+2) s.sets (fun x hx=>by
      have a1:=yB x.e
      have a2:=z1 x hx
      simp only[pY,List.length_cons]
      omega)
     have h7:=jg (ws:=[[87,72,69,82,69]]) (bL hk.2).2 z4
     have h8:s.sets.length*(8*Z+2+1)≤8*(8*Z+2+1):=Nat.mul_le_mul_right _ h5
     simp only[List.length_append,List.length_cons,List.length_nil] at h7 ⊢
     omega
    ·rename_i h4
     rw[if_neg h4]
     split at hk
     ·rename_i h5
      rw[if_pos h5]
      have h7:=jg (ws:=[[87,72,69,82,69]]) (bL hk).2 z4
      simp only[au,List.map_cons,List.map_nil,List.length_append,List.length_cons,List.length_nil] at h7 ⊢
      omega
     ·rename_i h5
      rw[if_neg h5]
      split at hk
      ·unfold vB at hk
       simp only[Bool.and_eq_true] at hk
       obtain⟨q1,q2,q3,q4,q5,q6,q7,q8⟩:=hk
       have j1:fF s.jn≤1:=by unfold fF;split<;>omega
       have l1:=jg (ws:=[[79,78]]) (Nat.le_trans (bL q3).2 j1) z3
       have l2:=jg (ws:=[[87,72,69,82,69]]) (bL q4).2 z4
       have l3:=jg (ws:=[[71,82,79,85,80],[66,89]]) (bL q5).2 z5
       have l4:=jg (ws:=[[79,82,68,69,82],[66,89]]) (bL q6).2 z6
       have h5:=(bL q1).2
       have h6:=iJ (aK [44]) xG (8*Z+4) s.items (fun x hx=>GY (aU q1 x hx) (z2 x hx))
       have h8:s.items.length*(8*Z+4+1)≤8*(8*Z+4+1):=Nat.mul_le_mul_right _ h5
       have m1:(if s.jn=[] then [] else [aK [74,79,73,78],aW s.jn]).length≤2:=by split<;>simp
       have m2:(if s.desc=true then [aK [68,69,83,67]] else []).length≤1:=by split<;>simp
       have m3:(if s.lim = -1 then [] else [aK [76,73,77,73,84],mV s.lim]).length≤2:=by split<;>simp
       unfold EF
       simp only[List.length_append,List.length_cons,List.length_nil] at l1 l2 l3 l4 ⊢
       omega
      ·cases hk
theorem uT {s:St} {Z:Nat} (hz : ∀e∈jv s,jE e≤Z):mR s≤2*Z:=by
 unfold jv at hz
 have z1 : ∀x∈s.sets,jE x.e≤Z:=fun x hx=>hz _ (List.mem_append_left _ (List.mem_map.2 ⟨x,hx,rfl⟩))
 have z2 : ∀x∈s.items,∀e∈x.xs,jE e≤Z:=fun x hx e he=>hz _ (List.mem_append_right _ (List.mem_append_left _ (List.mem_flatMap.2 ⟨x,hx,he⟩)))
 have up : ∀l:List Ex,(∀e∈l,jE e≤Z)→bY l≤2*Z:=fun l h=>lZ (fun n hn=>by
  obtain⟨e,he,rfl⟩:=List.mem_map.1 hn
  have a1:=Ev e
  have a2:=h e he
  omega)
 have u1:aY (s.sets.map fun x=>fJ x.e)≤2*Z:=lZ (fun n hn=>by
  obtain⟨x,hx,rfl⟩:=List.mem_map.1 hn
  have a1:=Ev x.e
  have a2:=z1 x hx
  omega)
 have u2:aY (s.items.map z8)≤2*Z:=lZ (fun n hn=>by
  obtain⟨x,hx,rfl⟩:=List.mem_map.1 hn
  exact up _ (z2 x hx))
 have u3:=up s.on (fun e he=>hz _ (by simp[he]))
 have u4:=up s.wh (fun e he=>hz _ (by simp[he]))
 have u5:=up s.gr (fun e he=>hz _ (by simp[he]))
 have u6:=up s.od (fun e he=>hz _ (by simp[he]))
 unfold mR
 split
 ·omega
 ·split
  ·omega
  ·split
   ·omega
   ·omega
end Go.Proofs.YtfeglkleoijlaaaGreatDoor
