/- Packed for the hand-in: WRightV WSize WTopS -/
import Derived.Test.YtnidnipiihhnaaaGreatDoorZ34
import Derived.Test.YtnidnipiihhnaaaGreatDoorZ35
import Derived.Test.YtnidnipiihhnaaaGreatDoorZ36
import Derived.Test.YtnidnipiihhnaaaGreatDoorZ24
import Derived.Test.YtnidnipiihhnaaaGreatDoorZ31
import Derived.Test.YtnidnipiihhnaaaGreatDoorZ32
namespace Go.Proofs.YtnidnipiihhnaaaGreatDoor
open Go.RowKit Go.Shelf
set_option linter.unusedSimpArgs false
set_option linter.unusedVariables false
set_option maxRecDepth 20000
set_option maxHeartbeats 8000000
theorem AP (w:World) (k:Int) (tn prim jn:List UInt8) (desc:Bool) (lim:Int) (a1 a2 a3 a4 a5 a6 a7 a8:Option Addr) (n1 n2 n3 n4 n5 n6 n7 n8 c1 c2 c3 c4 c5 c6 c7 c8:Nat) (h1:k≠1) (h2:k≠2) (h3:k≠3) (h4:k≠4) (h5:k≠5) (h6:k≠6) :
  Calls Tryz.prog 29 #[.agg #[.int .i64 k,.string (aj tn),.slice a1 n1 c1,.string (aj prim),.slice a2 n2 c2,.slice a3 n3 c3,.slice a4 n4 c4,.string (aj jn),.slice a5 n5 c5,.slice a6 n6 c6,.slice a7 n7 c7,.slice a8 n8 c8,.bool desc,.int .i64 lim]] w fun e w'=>e = .returned (.bool false)∧Below w.heap.size w w':=by
 obtain⟨W,hW,hbW,hzW,hc0,hc1⟩:=iy w k tn prim jn desc lim a1 a2 a3 a4 a5 a6 a7 a8 n1 n2 n3 n4 n5 n6 n7 n8 c1 c2 c3 c4 c5 c6 c7 c8
 have q0:=au hc0
 have q1:=au hc1
 have q1f:=aR hc1
 have HB:=hid hbW
 have HC0:=hid hc0
 have HC1:=hid hc1
 have hz0:w.heap.size<W.heap.size:=by omega
 clear hbW hc0 hc1
 have hkb1:(k==1)=false:=by rw[beq_eq_false_iff_ne];exact h1
 have hkb2:(k==2)=false:=by rw[beq_eq_false_iff_ne];exact h2
 have hkb3:(k==3)=false:=by rw[beq_eq_false_iff_ne];exact h3
 have hkb4:(k==4)=false:=by rw[beq_eq_false_iff_ne];exact h4
 have hkb5:(k==5)=false:=by rw[beq_eq_false_iff_ne];exact h5
 have hkb6:(k==6)=false:=by rw[beq_eq_false_iff_ne];exact h6
 clear h1 h2 h3 h4 h5 h6
 go_enter Tryz.func29,Tryz.ntmps29
 go_wp2_with (first | (refine wpList_store_row rfl 42 (.tmp 3) (.tmp 5) rfl (w.heap.size+1) #[.int .i64 k,.string (aj tn),.slice a1 n1 c1,.string (aj prim),.slice a2 n2 c2,.slice a3 n3 c3,.slice a4 n4 c4,.string (aj jn),.slice a5 n5 c5,.slice a6 n6 c6,.slice a7 n7 c7,.slice a8 n8 c8,.bool desc,.int .i64 lim] rfl rfl 42 #[.int .i64 0,.string ⟨#[]⟩,.slice none 0 0,.string ⟨#[]⟩,.slice none 0 0,.slice none 0 0,.slice none 0 0,.string ⟨#[]⟩,.slice none 0 0,.slice none 0 0,.slice none 0 0,.slice none 0 0,.bool false,.int .i64 0] (heap_alloc2_new w _ _) Tryz.eP rfl rfl ?_;rw[aX]) | fail)
 try rw[hW]
 go_ret
 exact⟨rfl,HB.out⟩
theorem qj (S:Nat→Prop) (s:St) (cs:List Value) (w:World) (hR:IY s) (hx:nE S w s cs) :
  Calls Tryz.prog 29 #[.agg cs.toArray] w fun e w'=>e = .returned (.bool (dQ s))∧Below w.heap.size w w':=by
 obtain⟨a1,a2,a3,a4,a5,a6,a7,a8,n1,n2,n3,n4,n5,n6,n7,n8,c1,c2,c3,c4,c5,c6,c7,c8,rfl,x1,x2,x3,x4,x5,x6,x7,x8⟩:=hx
 have e1:n1=s.cols.length:=by obtain⟨_,_,hf⟩:=x1.form;simp only[Value.slice.injEq] at hf;exact hf.2.1
 have e2:n2=s.rows.length:=by obtain⟨_,_,hf⟩:=x2.form;simp only[Value.slice.injEq] at hf;exact hf.2.1
 have e3:n3=s.sets.length:=by obtain⟨_,_,hf⟩:=x3.form;simp only[Value.slice.injEq] at hf;exact hf.2.1
 have e4:n4=s.items.length:=by obtain⟨_,_,hf⟩:=x4.form;simp only[Value.slice.injEq] at hf;exact hf.2.1
 have e5:n5=s.on.length:=by obtain⟨_,_,hf,_⟩:=x5.form;simp only[Value.slice.injEq] at hf;exact hf.2.1
 have e6:n6=s.wh.length:=by obtain⟨_,_,hf,_⟩:=x6.form;simp only[Value.slice.injEq] at hf;exact hf.2.1
 have e7:n7=s.gr.length:=by obtain⟨_,_,hf,_⟩:=x7.form;simp only[Value.slice.injEq] at hf;exact hf.2.1
 have e8:n8=s.od.length:=by obtain⟨_,_,hf,_⟩:=x8.form;simp only[Value.slice.injEq] at hf;exact hf.2.1
 obtain⟨k,tn,cols,prim,rows,sets,items,jn,on,wh,gr,od,desc,lim⟩:=s
 obtain⟨rt,rp,rj,rl,rc,rr,rs,ri,ro,rw',rg,rd⟩:=hR
 dsimp only at *
 subst e1 e2 e3 e4 e5 e6 e7 e8
 have HNT:=hid (fun V=>kK tn V rt)
 have HNP:=hid (fun V=>kK prim V rp)
 have HCO:Hid (∀V,Below w.heap.size w V→Calls Tryz.prog 60 #[.slice a1 cols.length c1,.int .i64 1,.int .i64 8,.func (.func 61) #[] #[]] V fun e w'=>e = .returned (.bool (bf cols 1 8 lU))∧Below V.heap.size V w'):=hid (fun V hV=>DF S 61 (enters_of Tryz.func61 (by kernel_rfl) rfl) lU cols _ 1 8 V (by omega) (by omega) (x1.to (by decide) (R:=fun _=>False) (T:=S) (ay.aA hV) (fun b hb _=>⟨id,hb⟩) (fun _ _ e=>e)) (hid (fun y hy U hU cs hcs=>by obtain rfl:=hcs;exact sU y U (rc y hy))))
 have HRO:Hid (∀V,Below w.heap.size w V→Calls Tryz.prog 62 #[.slice a2 rows.length c2,.int .i64 1,.int .i64 16,.func (.func 63) #[] #[]] V fun e w'=>e = .returned (.bool (bf rows 1 16 qN))∧Below V.heap.size V w'):=hid (fun V hV=>D8 S 63 (enters_of Tryz.func63 (by kernel_rfl) rfl) qN rows _ 1 16 V (by omega) (by omega) (x2.to (by decide) (R:=fun _=>False) (T:=S) (ay.aA hV) (fun b hb _=>⟨id,hb⟩) (fun _ _ e=>e.to (R:=fun _=>False) (T:=S) (ay.aA hV) (fun b hb _=>⟨id,hb⟩))) (hid (fun y hy U hU cs hcs=>by obtain⟨aa,nn,cc,rfl,h⟩:=hcs;exact xU S y aa nn cc U (rr y hy) h)))
 have HSE:Hid (∀V,Below w.heap.size w V→Calls Tryz.prog 64 #[.slice a3 sets.length c3,.int .i64 1,.int .i64 8,.func (.func 65) #[] #[]] V fun e w'=>e = .returned (.bool (bf sets 1 8 nY))∧Below V.heap.size V w'):=hid (fun V hV=>Ed S 65 (enters_of Tryz.func65 (by kernel_rfl) rfl) nY sets _ 1 8 V (by omega) (by omega) (x3.to (by decide) (R:=fun _=>False) (T:=S) (ay.aA hV) (fun b hb _=>⟨id,hb⟩) (fun _ _ e=>e.to (R:=fun _=>False) (T:=S) (ay.aA hV) (fun b hb _=>⟨id,hb⟩))) (hid (fun y hy U hU cs hcs=>xW S y cs U (rs y hy).1 (rs y hy).2 hcs)))
 have HWH:Hid (∀V,Below w.heap.size w V→Calls Tryz.prog 46 #[.slice a6 wh.length c6,.int .i64 0,.int .i64 1,.func (.func 20) #[] #[]] V fun e w'=>e = .returned (.bool (bf wh 0 1 aN))∧Below V.heap.size V w'):=hid (fun V hV=>lI S wh _ 0 1 V (by omega) (by omega) rw' (x6.new hV))
 have HSL:=hid (fun V (hV:Below w.heap.size w V)=>sV S k tn items on wh gr od prim jn desc lim a1 a2 a3 a4 a5 a6 a7 a8 cols.length rows.length sets.length items.length on.length wh.length gr.length od.length c1 c2 c3 c4 c5 c6 c7 c8 V (x4.to (by decide) (R:=fun _=>False) (T:=S) (ay.aA hV) (fun b hb _=>⟨id,hb⟩) (fun _ _ e=>e.to (R:=fun _=>False) (T:=S) (ay.aA hV) (fun b hb _=>⟨id,hb⟩))) (x5.new hV) (x6.new hV) (x7.new hV) (x8.new hV) ri ro rw' rg rd rj rl)
 have hrs:dQ ⟨k,tn,cols,prim,rows,sets,items,jn,on,wh,gr,od,desc,lim⟩=(if k=1 then (bf cols 1 8 lU&&bM prim)&&(bM tn&&pK 0 [] rows.length sets.length items.length jn on.length wh.length gr.length od.length desc lim)
   else if k=2 then true&&(bM tn&&pK cols.length prim rows.length sets.length items.length jn on.length wh.length gr.length od.length desc lim)
   else if k=3 then bf rows 1 16 qN&&(bM tn&&pK cols.length prim 0 sets.length items.length jn on.length wh.length gr.length od.length desc lim)
   else if k=4 then (bf sets 1 8 nY&&bf wh 0 1 aN)&&(bM tn&&pK cols.length prim rows.length 0 items.length jn on.length 0 gr.length od.length desc lim)
   else if k=5 then bf wh 0 1 aN&&(bM tn&&pK cols.length prim rows.length sets.length items.length jn on.length 0 gr.length od.length desc lim)
   else if k=6 then xQ ⟨k,tn,cols,prim,rows,sets,items,jn,on,wh,gr,od,desc,lim⟩&&(bM tn&&pK cols.length prim rows.length sets.length 0 [] 0 0 0 0 false (-1))
   else false):=by
  unfold dQ nC zu
  dsimp only
  by_cases k1:k=1
  ·simp only[if_pos k1];rw[o8 _ rfl rfl];rfl
  ·by_cases k2:k=2
   ·simp only[if_neg k1,if_pos k2,if_neg (show ¬k=3 by omega),if_neg (show ¬k=4 by omega),if_neg (show ¬k=5 by omega),if_neg (show ¬k=6 by omega)];rw[o8 _ rfl rfl]
   ·by_cases k3:k=3
    ·simp only[if_neg k1,if_neg k2,if_pos k3];rw[o8 _ rfl rfl];rfl
    ·by_cases k4:k=4
     ·simp only[if_neg k1,if_neg k2,if_neg k3,if_pos k4];rw[o8 _ rfl rfl];rfl
     ·by_cases k5:k=5
      ·simp only[if_neg k1,if_neg k2,if_neg k3,if_neg k4,if_pos k5];rw[o8 _ rfl rfl];rfl
      ·by_cases k6:k=6
       ·simp only[if_neg k1,if_neg k2,if_neg k3,if_neg k4,if_neg k5,if_pos k6];rw[o8 _ rfl rfl];rfl
       ·simp only[if_neg k1,if_neg k2,if_neg k3,if_neg k4,if_neg k5,if_neg k6,Bool.false_and]
 rw[hrs]
 clear hrs x1 x2 x3 x4 x5 x6 x7 x8 rt rp rj rl rc rr rs ri ro rw' rg rd
 have hsel:xQ ⟨k,tn,cols,prim,rows,sets,items,jn,on,wh,gr,od,desc,lim⟩=(bf items 1 8 tN&&(mD jn&&(bf on (fI jn) (fI jn) aN&&(bf wh 0 1 aN&&(bf gr 0 1 eu&&(bf od 0 1 eu&&((!desc||decide (od.length=1))&&decide (-1≤lim∧lim≤9223372036854775807)))))))):=rfl
 rw[hsel]
 clear hsel
 generalize (bf items 1 8 tN&&(mD jn&&(bf on (fI jn) (fI jn) aN&&(bf wh 0 1 aN&&(bf gr 0 1 eu&&(bf od 0 1 eu&&((!desc||decide (od.length=1))&&decide (-1≤lim∧lim≤9223372036854775807))))))))=BS at HSL ⊢
 generalize bf cols 1 8 lU=BC at HCO ⊢
 generalize bf rows 1 16 qN=BR at HRO ⊢
 generalize bf sets 1 8 nY=BE at HSE ⊢
 generalize bf wh 0 1 aN=BW at HWH ⊢
 generalize bM prim=BP at HNP ⊢
 generalize bM tn=BT at HNT ⊢
 generalize cols.length=n1 at *
 generalize rows.length=n2 at *
 generalize sets.length=n3 at *
 generalize items.length=n4 at *
 generalize on.length=n5 at *
 generalize wh.length=n6 at *
 generalize gr.length=n7 at *
 generalize od.length=n8 at *
 by_cases hk1:k=1
 ·rw[if_pos hk1]
  subst hk1
  exact Eb w tn prim jn desc lim a1 a2 a3 a4 a5 a6 a7 a8 n1 n2 n3 n4 n5 n6 n7 n8 c1 c2 c3 c4 c5 c6 c7 c8 BC BP BT HCO HNP HNT
 ·rw[if_neg hk1]
  by_cases hk2:k=2
  ·rw[if_pos hk2]
   subst hk2
   exact CW w tn prim jn desc lim a1 a2 a3 a4 a5 a6 a7 a8 n1 n2 n3 n4 n5 n6 n7 n8 c1 c2 c3 c4 c5 c6 c7 c8 BT HNT
  ·rw[if_neg hk2]
   by_cases hk3:k=3
   ·rw[if_pos hk3]
    subst hk3
    exact Dy w tn prim jn desc lim a1 a2 a3 a4 a5 a6 a7 a8 n1 n2 n3 n4 n5 n6 n7 n8 c1 c2 c3 c4 c5 c6 c7 c8 BR BT HRO HNT
   ·rw[if_neg hk3]
    by_cases hk4:k=4
    ·rw[if_pos hk4]
     subst hk4
     exact DZ w tn prim jn desc lim a1 a2 a3 a4 a5 a6 a7 a8 n1 n2 n3 n4 n5 n6 n7 n8 c1 c2 c3 c4 c5 c6 c7 c8 BE BW BT HSE HWH HNT
    ·rw[if_neg hk4]
     by_cases hk5:k=5
     ·rw[if_pos hk5]
      subst hk5
      exact CV w tn prim jn desc lim a1 a2 a3 a4 a5 a6 a7 a8 n1 n2 n3 n4 n5 n6 n7 n8 c1 c2 c3 c4 c5 c6 c7 c8 BW BT HWH HNT
     ·rw[if_neg hk5]
      by_cases hk6:k=6
      ·rw[if_pos hk6]
       subst hk6
       exact Dl w tn prim jn desc lim a1 a2 a3 a4 a5 a6 a7 a8 n1 n2 n3 n4 n5 n6 n7 n8 c1 c2 c3 c4 c5 c6 c7 c8 BS BT HSL HNT
      ·rw[if_neg hk6]
       exact AP w k tn prim jn desc lim a1 a2 a3 a4 a5 a6 a7 a8 n1 n2 n3 n4 n5 n6 n7 n8 c1 c2 c3 c4 c5 c6 c7 c8 hk1 hk2 hk3 hk4 hk5 hk6
end Go.Proofs.YtnidnipiihhnaaaGreatDoor
namespace Go.Proofs.YtnidnipiihhnaaaGreatDoor
set_option linter.unusedSimpArgs false
set_option linter.unusedVariables false
set_option maxHeartbeats 8000000
def nS (s:St):List Ex:=s.sets.map (fun x=>x.e)++(s.items.flatMap (fun i=>i.xs)++(s.on++(s.wh++(s.gr++s.od))))
theorem pz {α:Type} (sep:Tk) (tk:α→List Tk) (B:Nat) (l:List α) (h : ∀x∈l,(tk x).length≤B):(aQ sep (l.map tk)).length≤l.length*(B+1):=by
 have h2 : ∀l:List α,(∀x∈l,(tk x).length≤B)→((l.map tk).flatMap fun y=>sep::y).length≤l.length*(B+1):=fun l=>by
  induction l with
  | nil=>intro _;simp
  |
   cons x l ih =>
   intro h
   have h1:=h x (by simp)
   have h3:=ih (fun y hy=>h y (by simp[hy]))
   simp only[List.map_cons,List.flatMap_cons,List.length_append,List.length_cons,Nat.add_mul]
   omega
 cases l with
 | nil=>simp[aQ]
 |
  cons x l =>
  have h1:=h x (by simp)
  have h3:=h2 l (fun y hy=>h y (by simp[hy]))
  simp only[List.map_cons,aQ,List.length_append,List.length_cons,Nat.add_mul]
  omega
theorem Aj (e:Ex):(je e).length≤8*nA e:=by
 have:=(ED (lD e)).2
 unfold je nA
 omega
theorem Er (e:Ex):iM e≤2*nA e:=by
 have:=Ir (lD e)
 unfold iM nA
 omega
theorem tH {l:List Nat} {n:Nat} (h : ∀x∈l,x≤n):bq l≤n:=by
 unfold bq
 induction l with
 | nil=>simp
 |
  cons x l ih =>
  have h1:=h x (by simp)
  have h2:=ih (fun y hy=>h y (by simp[hy]))
  simp only[List.foldr_cons]
  omega
theorem mo {xs:List Ex} {ws:List (List UInt8)} {Z:Nat} (hl:xs.length≤1) (h : ∀e∈xs,nA e≤Z):(aW xs ws).length≤ws.length+8*Z:=by
 match xs,hl with
 | [],_=>simp[aW]
 |
  [x],_ =>
  have h1:=Aj x
  have h2:=h x (by simp)
  simp only[aW,ah,List.flatMap_cons,List.flatMap_nil,List.append_nil,List.length_append,List.length_map]
  omega
 | _::_::_,hl=>simp at hl
theorem dA {α:Type} {xs:List α} {a b:Nat} {p:α→Bool} (h:bf xs a b p=true):a≤xs.length∧xs.length≤b:=by
 unfold bf at h
 simp only[Bool.and_eq_true,decide_eq_true_eq] at h
 exact h.1
theorem Ib (v:Vl):(gX v).length≤2:=(uw v).2
theorem Hf (c:Co):(kE c).length≤5:=by
 unfold kE
 simp only[List.length_cons,List.length_append]
 split<;>split<;>simp[ah]
theorem Fa {r:List Vl} (h:qN r=true):(jW r).length≤26:=by
 have h1:=(dA h).2
 have h2:=pz (aI [44]) gX 2 r (fun x _=>Ib x)
 unfold jW
 simp only[List.length_cons,List.length_append,List.length_nil]
 omega
theorem Je {i:It} {Z:Nat} (h:tN i=true) (hz : ∀e∈i.xs,nA e≤Z):(sO i).length≤8*Z+4:=by
 have hd:(je (i.xs.headD Ag)).length≤8*Z∨(i.k=1∨i.k=3):=by
  unfold tN at h
  by_cases h1:i.k=1∨i.k=3
  ·exact .inr h1
  ·rw[if_neg h1] at h
   split at h
   ·obtain⟨x,l,hx,_,_⟩:=fT h
    refine .inl ?_
    rw[hx]
    have h3:=Aj x
    have h4:=hz x (by rw[hx];simp)
    show (je x).length≤_
    omega
   ·cases h
 unfold sO
 split
 ·simp
 ·rename_i h1
  split
  ·rename_i h2
   rcases hd with hd | hd
   ·omega
   ·omega
  ·split
   ·simp[ah]
   ·rename_i h3
    rcases hd with hd | hd
    ·simp only[ah,List.map_cons,List.map_nil,List.length_append,List.length_cons,List.length_nil]
     omega
    ·omega
theorem Jf {s:St} {Z:Nat} (h:dQ s=true) (hz : ∀e∈nS s,nA e≤Z):(pI s).length≤100*Z+1000:=by
 unfold dQ at h
 simp only[Bool.and_eq_true] at h
 have hk:=h.1
 clear h
 unfold nC at hk
 unfold nS at hz
 have z1 : ∀x∈s.sets,nA x.e≤Z:=fun x hx=>hz _ (List.mem_append_left _ (List.mem_map.2 ⟨x,hx,rfl⟩))
 have z2 : ∀x∈s.items,∀e∈x.xs,nA e≤Z:=fun x hx e he=>hz _ (List.mem_append_right _ (List.mem_append_left _ (List.mem_flatMap.2 ⟨x,hx,he⟩)))
 have z3 : ∀e∈s.on,nA e≤Z:=fun e he=>hz _ (by simp[he])
 have z4 : ∀e∈s.wh,nA e≤Z:=fun e he=>hz _ (by simp[he])
 have z5 : ∀e∈s.gr,nA e≤Z:=fun e he=>hz _ (by simp[he])
 have z6 : ∀e∈s.od,nA e≤Z:=fun e he=>hz _ (by simp[he])
 clear hz
 unfold pI
 split at hk
 ·rename_i h1
  rw[if_pos h1]
  rw[Bool.and_eq_true] at hk
  have h2:=(dA hk.1).2
  have h3:=pz (aI [44]) kE 5 s.cols (fun x _=>Hf x)
  unfold J7
  simp only[ah,List.map_cons,List.map_nil,List.length_append,List.length_cons,List.length_nil]
  omega
 ·rename_i h1
  rw[if_neg h1]
  split at hk
  ·rename_i h2
   rw[if_pos h2]
   simp only[ah,List.map_cons,List.map_nil,List.length_append,List.length_cons,List.length_nil]
   omega
  ·rename_i h2
   rw[if_neg h2]
   split at hk
   ·rename_i h3
    rw[if_pos h3]
    have h4:=(dA hk).2
    have h5:=pz (aI [44]) jW 26 s.rows (fun x hx=>Fa (aS hk x hx))
    simp only[ah,List.map_cons,List.map_nil,List.length_append,List.length_cons,List.length_nil]
    omega
   ·rename_i h3
    rw[if_neg h3]
    split at hk
    ·rename_i h4
     rw[if_pos h4]
     rw[Bool.and_eq_true] at hk
     have h5:=(dA hk.1).2
     have h6:=pz (aI [44]) lF (8*Z+2) s.sets (fun x hx=>by
      have a1:=Aj x.e
      have a2:=z1 x hx
      simp only[lF,List.length_cons]
      omega)
     have h7:=mo (ws:=[[87,72,69,82,69]]) (dA hk.2).2 z4
     have h8:s.sets.length*(8*Z+2+1)≤8*(8*Z+2+1):=Nat.mul_le_mul_right _ h5
     simp only[List.length_append,List.length_cons,List.length_nil] at h7 ⊢
     omega
    ·rename_i h4
     rw[if_neg h4]
     split at hk
     ·rename_i h5
      rw[if_pos h5]
      have h7:=mo (ws:=[[87,72,69,82,69]]) (dA hk).2 z4
      simp only[ah,List.map_cons,List.map_nil,List.length_append,List.length_cons,List.length_nil] at h7 ⊢
      omega
     ·rename_i h5
      rw[if_neg h5]
      split at hk
      ·unfold xQ at hk
       simp only[Bool.and_eq_true] at hk
       obtain⟨q1,q2,q3,q4,q5,q6,q7,q8⟩:=hk
       have j1:fI s.jn≤1:=by unfold fI;split<;>omega
       have l1:=mo (ws:=[[79,78]]) (Nat.le_trans (dA q3).2 j1) z3
       have l2:=mo (ws:=[[87,72,69,82,69]]) (dA q4).2 z4
       have l3:=mo (ws:=[[71,82,79,85,80],[66,89]]) (dA q5).2 z5
       have l4:=mo (ws:=[[79,82,68,69,82],[66,89]]) (dA q6).2 z6
       have h5:=(dA q1).2
       have h6:=pz (aI [44]) sO (8*Z+4) s.items (fun x hx=>Je (aS q1 x hx) (z2 x hx))
       have h8:s.items.length*(8*Z+4+1)≤8*(8*Z+4+1):=Nat.mul_le_mul_right _ h5
       have m1:(if s.jn=[] then [] else [aI [74,79,73,78],aT s.jn]).length≤2:=by split<;>simp
       have m2:(if s.desc=true then [aI [68,69,83,67]] else []).length≤1:=by split<;>simp
       have m3:(if s.lim = -1 then [] else [aI [76,73,77,73,84],ny s.lim]).length≤2:=by split<;>simp
       unfold Hg
       simp only[List.length_append,List.length_cons,List.length_nil] at l1 l2 l3 l4 ⊢
       omega
      ·cases hk
theorem Ga {s:St} {Z:Nat} (hz : ∀e∈nS s,nA e≤Z):x9 s≤2*Z:=by
 unfold nS at hz
 have z1 : ∀x∈s.sets,nA x.e≤Z:=fun x hx=>hz _ (List.mem_append_left _ (List.mem_map.2 ⟨x,hx,rfl⟩))
 have z2 : ∀x∈s.items,∀e∈x.xs,nA e≤Z:=fun x hx e he=>hz _ (List.mem_append_right _ (List.mem_append_left _ (List.mem_flatMap.2 ⟨x,hx,he⟩)))
 have up : ∀l:List Ex,(∀e∈l,nA e≤Z)→dG l≤2*Z:=fun l h=>tH (fun n hn=>by
  obtain⟨e,he,rfl⟩:=List.mem_map.1 hn
  have a1:=Er e
  have a2:=h e he
  omega)
 have u1:bq (s.sets.map fun x=>iM x.e)≤2*Z:=tH (fun n hn=>by
  obtain⟨x,hx,rfl⟩:=List.mem_map.1 hn
  have a1:=Er x.e
  have a2:=z1 x hx
  omega)
 have u2:bq (s.items.map yZ)≤2*Z:=tH (fun n hn=>by
  obtain⟨x,hx,rfl⟩:=List.mem_map.1 hn
  exact up _ (z2 x hx))
 have u3:=up s.on (fun e he=>hz _ (by simp[he]))
 have u4:=up s.wh (fun e he=>hz _ (by simp[he]))
 have u5:=up s.gr (fun e he=>hz _ (by simp[he]))
 have u6:=up s.od (fun e he=>hz _ (by simp[he]))
 unfold x9
 split
 ·omega
 ·split
  ·omega
  ·split
   ·omega
   ·omega
end Go.Proofs.YtnidnipiihhnaaaGreatDoor
namespace Go.Proofs.YtnidnipiihhnaaaGreatDoor
open Go.RowKit Go.Shelf
set_option linter.unusedSimpArgs false
set_option linter.unusedVariables false
set_option maxRecDepth 20000
set_option maxHeartbeats 8000000
def om (l:List St):List UInt8 × Int:=if 8<l.length then ([],2) else if bf l 1 8 dQ=true then qg (aQ (aI [59]) (l.map pI)) ((bq (l.map x9):Nat):Int) else ([],4)
theorem j4 (S:Nat→Prop) (l:List St) (v:Value) (w:World) (hT:j6 w) (hR : ∀s∈l,IY s) (hv:bJ 14 nE S w l v) (hz:l.length≤8→∀s∈l,dQ s=true→∀e∈nS s,nA e≤5000) :
  Calls Tryz.prog 15 #[v] w fun e w'=>e = .returned (.tuple #[.string (aj (om l).1),.int .i64 (om l).2])∧Below w.heap.size w w':=by
 have HV:=hid hv
 obtain⟨aa,cc,css,rfl,h1,h2,_⟩:=hv
 unfold maxLen at h2
 unfold om
 by_cases h8:8<l.length
 ·rw[if_pos h8]
  have h8':(8:Int)<(l.length:Int):=by omega
  clear hz hR HV hT
  go_enter Tryz.func15,Tryz.ntmps15
  go_wp2
  exact bodyPost_ret (v:=.tuple #[.string ⟨#[]⟩,.int .i64 2]) (by simp[results,Tryz.results15,go_sem]) rfl ⟨rfl,Below.refl _ _⟩
 ·rw[if_neg h8]
  have h8' : ¬(8:Int)<(l.length:Int):=by omega
  have HA:=hid (Ef S 29 (enters_of Tryz.func29 (by kernel_rfl) rfl) dQ l _ 1 8 w (by decide) (by decide) HV.out (hid (fun x hx V hb cs hcs=>qj S x cs V (hR x hx) hcs)))
  have HTW:=hid hT
  clear hR hT
  cases ha:bf l 1 8 dQ with
  |
   false =>
   rw[ha] at HA
   rw[if_neg Bool.false_ne_true]
   clear ha hz HV HTW
   go_enter Tryz.func15,Tryz.ntmps15
   go_wp2_with fail
   refine HA.out.mono ?_
   rintro e w1 ⟨rfl,hb1⟩
   have HB1:=hid hb1
   clear hb1 HA
   go_wp2
   exact bodyPost_ret (v:=.tuple #[.string ⟨#[]⟩,.int .i64 4]) (by simp[results,Tryz.results15,go_sem]) rfl ⟨rfl,HB1.out⟩
  |
   true =>
   rw[ha] at HA
   rw[if_pos rfl]
   have hall:=aS ha
   have hln:=(dA ha).2
   have hz2 : ∀s∈l,∀e∈nS s,nA e≤5000:=fun s hs=>hz hln s hs (hall s hs)
   have htl:=pz (aI [59]) pI 501000 l (fun s hs=>Jf (hall s hs) (hz2 s hs))
   have hdl:bq (l.map x9)≤10000:=tH (fun n hn=>by
    obtain⟨s,hs,rfl⟩:=List.mem_map.1 hn
    exact Ga (hz2 s hs))
   have htl2:(aQ (aI [59]) (l.map pI)).length≤4008008:=Nat.le_trans htl (Nat.mul_le_mul_right _ hln)
   have HDP:Hid (∀s∈l,x9 s≤10000):=hid (fun s hs=>Ga (hz2 s hs))
   have HOK:Hid (∀t∈aQ (aI [59]) (l.map pI),JB t):=hid (fun t ht=>(bG.sep (bS (by decide)) (fun x hx=>by
    obtain⟨s,hs,rfl⟩:=List.mem_map.1 hx
    exact uV (hall s hs)) t ht).ok)
   have HAL:=hid hall
   have HSW:Hid (∀(V:World) (g:Nat),bY V g none [] 0 0→bJ 14 nE (fun b=>b<g) V l (.slice aa l.length cc)→Calls Tryz.prog 30 #[.pointer (some ⟨g,0,none⟩),.string ⟨#[59]⟩,.slice aa l.length cc,.func (.func 31) #[.pointer (some ⟨g,0,none⟩)] #[]] V fun e w'=>e = .returned (.tuple #[])∧Wrote g none V w' ([]++aQ (aI [59]) (l.map pI)) 0 (max 0 (0+((bq (l.map x9):Nat):Int)))):=hid (fun V g hV hS=>FI 31 (enters_of Tryz.func31 (by kernel_rfl) rfl) pI x9 [59] (by decide) l _ g none [] 0 0 V hV hS (by decide) (by decide) (fun x hx=>by have:=HDP.out x hx;omega) (by show 0+_≤_;omega) (hid (fun x hxm U tb2 L2 m2 hU cs hcs hl2 h3 h4=>yO x (HAL.out x hxm) cs g tb2 L2 0 m2 U hU hcs hl2 (by decide) h3 h4 (by have:=HDP.out x hxm;omega))))
   obtain⟨R,hR⟩:∃R,qg (aQ (aI [59]) (l.map pI)) ((bq (l.map x9):Nat):Int)=R:=⟨_,rfl⟩
   rw[hR]
   have HRR:=hid hR
   clear hR ha hall hz hz2 htl HAL HDP
   generalize aQ (aI [59]) (l.map pI)=T at HSW HOK HRR htl2
   generalize bq (l.map x9)=D at HSW HRR hdl
   go_enter Tryz.func15,Tryz.ntmps15
   go_wp2_with fail
   refine HA.out.mono ?_
   rintro e w1 ⟨rfl,hb1⟩
   obtain⟨V,hV,hbV,hzV,hwV⟩:=Et w1 (HTW.out.on hb1)
   have hB1:=hb1.trans (hbV.mono hb1.size)
   have hle1:w.heap.size≤w1.heap.size:=hb1.size
   have hsV:bJ 14 nE (fun b=>b<w1.heap.size) V l (.slice aa l.length cc):=by
    have hk:=ay.aA (S:=fun _=>False) hb1
    have hk2:=ay.aA (S:=fun _=>False) hbV
    have a1:bJ 14 nE (fun b=>b<w1.heap.size) w1 l (.slice aa l.length cc):=HV.out.to (by decide) hk (fun b _ hb=>⟨id,Nat.lt_of_lt_of_le hb hb1.size⟩) (fun _ _ e=>e.to hk (fun b _ hb=>⟨id,Nat.lt_of_lt_of_le hb hb1.size⟩))
    exact a1.to (by decide) hk2 (fun b hb _=>⟨id,hb⟩) (fun _ _ e=>e.to hk2 (fun b hb _=>⟨id,hb⟩))
   have HL:=hid (HSW.out V w1.heap.size hwV hsV)
   have HBV:=hid hB1
   clear hb1 hB1 HA hbV hwV hsV HSW
   go_wp2_with fail
   try rw[hV]
   refine HL.out.mono ?_
   rintro e w2 ⟨rfl,tb2,hw2,ht2,hf2⟩
   rw[List.nil_append] at hw2
   have e1:max (0:Int) (0+(D:Int))=(D:Int):=by omega
   rw[e1] at hw2
   have HS:=hid (yN _ _ _ _ _ w2 hw2 HOK.out (by omega))
   have HB2:Hid (Below w.heap.size w w2):=hid (HBV.out.trans (hf2.below (fun i hi=>by
    rcases hi with rfl | e
    ·omega
    ·cases e) (by omega)))
   clear hw2 ht2 hf2 HL e1
   rw[HRR.out] at HS
   go_wp2_with fail
   refine HS.out.mono ?_
   rintro e w3 ⟨rfl,hb3⟩
   have HB3:=hid (HB2.out.trans (hb3.mono HB2.out.size))
   clear hb3 HS
   go_wp2
   exact bodyPost_ret (v:=.tuple #[.string (aj R.1),.int .i64 R.2]) (by simp[results,Tryz.results15,go_sem]) rfl ⟨rfl,HB3.out⟩
end Go.Proofs.YtnidnipiihhnaaaGreatDoor
