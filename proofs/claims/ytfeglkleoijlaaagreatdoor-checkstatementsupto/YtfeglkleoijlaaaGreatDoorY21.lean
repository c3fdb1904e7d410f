import Derived.Test.YtfeglkleoijlaaaGreatDoorY19
import Derived.Test.YtfeglkleoijlaaaGreatDoorY20
import Derived.Test.YtfeglkleoijlaaaGreatDoorY11
import Derived.Test.YtfeglkleoijlaaaGreatDoorY16
import Derived.Test.YtfeglkleoijlaaaGreatDoorY17
import Derived.Test.YtfeglkleoijlaaaGreatDoorY04
import Derived.Deep.Cut
import Derived.Deep.DeepCutAuto
import Derived.Test.YtfeglkleoijlaaaGreatDoorY14
import Derived.Lib.SlBy2
namespace Go.Proofs.YtfeglkleoijlaaaGreatDoor
open Go.RowKit Go.Shelf
set_option linter.unusedSimpArgs false
set_option linter.unusedVariables false
set_option maxRecDepth 20000
set_option maxHeartbeats 8000000
theorem FB (w:World) (k:Int) (tn aD jn:List UInt8) (desc:Bool) (lim:Int) (a1 a2 a3 a4 a5 a6 a7 a8:Option Addr) (n1 n2 n3 n4 n5 n6 n7 n8 c1 c2 c3 c4 c5 c6 c7 c8:Nat) (h1:k≠1) (h2:k≠2) (h3:k≠3) (h4:k≠4) (h5:k≠5) (h6:k≠6) :
  Calls Tryz.prog 47 #[.agg #[.int .i64 k,.string (aj tn),.slice a1 n1 c1,.string (aj aD),.slice a2 n2 c2,.slice a3 n3 c3,.slice a4 n4 c4,.string (aj jn),.slice a5 n5 c5,.slice a6 n6 c6,.slice a7 n7 c7,.slice a8 n8 c8,.bool desc,.int .i64 lim]] w fun e w'=>e = .returned (.bool false)∧Below w.heap.size w w':=by
 obtain⟨W,hW,hbW,aJ,hc0,hc1⟩:=iB w k tn aD jn desc lim a1 a2 a3 a4 a5 a6 a7 a8 n1 n2 n3 n4 n5 n6 n7 n8 c1 c2 c3 c4 c5 c6 c7 c8
 have q0:=au hc0
 have q1:=au hc1
 have wY:=aT hc1
 have HB:=hid hbW
 have dI:=hid hc0
 have dB:=hid hc1
 have hz0:w.heap.size<W.heap.size:=by omega
 clear hbW hc0 hc1
 have ahJ:(k==1)=false:=by rw[aai];exact h1
 have hkb2:(k==2)=false:=by rw[aai];exact h2
 have afW:(k==3)=false:=by rw[aai];exact h3
 have ahR:(k==4)=false:=by rw[aai];exact h4
 have ahG:(k==5)=false:=by rw[aai];exact h5
 have ag4:(k==6)=false:=by rw[aai];exact h6
 clear h1 h2 h3 h4 h5 h6
 go_enter Tryz.func47,Tryz.ntmps47
 go_wp2_with (first | (refine lC (heap_alloc2_new w _ _) ?_;rw[aY]) | fail)
 try rw[hW]
 go_ret
 exact⟨rfl,HB.out⟩
theorem qP (S:Nat→Prop) (s:St) (cs:List Value) (w:World) (hR:vZ s) (hx:fD S w s cs) :
  Calls Tryz.prog 47 #[.agg cs.toArray] w fun e w'=>e = .returned (.bool (aQ s))∧Below w.heap.size w w':=by
 obtain⟨a1,a2,a3,a4,a5,a6,a7,a8,n1,n2,n3,n4,n5,n6,n7,n8,c1,c2,c3,c4,c5,c6,c7,c8,rfl,x1,x2,x3,x4,x5,x6,x7,x8⟩:=hx
 have e1:n1=s.aC.length:=by obtain⟨_,_,hf⟩:=x1.form;simp only[aah] at hf;exact hf.2.1
 have e2:n2=s.rows.length:=by obtain⟨_,_,hf⟩:=x2.form;simp only[aah] at hf;exact hf.2.1
 have e3:n3=s.sets.length:=by obtain⟨_,_,hf⟩:=x3.form;simp only[aah] at hf;exact hf.2.1
 have e4:n4=s.items.length:=by obtain⟨_,_,hf⟩:=x4.form;simp only[aah] at hf;exact hf.2.1
 have e5:n5=s.on.length:=by obtain⟨_,_,hf,_⟩:=x5.form;simp only[aah] at hf;exact hf.2.1
 have e6:n6=s.wh.length:=by obtain⟨_,_,hf,_⟩:=x6.form;simp only[aah] at hf;exact hf.2.1
 have e7:n7=s.gr.length:=by obtain⟨_,_,hf,_⟩:=x7.form;simp only[aah] at hf;exact hf.2.1
 have e8:n8=s.od.length:=by obtain⟨_,_,hf,_⟩:=x8.form;simp only[aah] at hf;exact hf.2.1
 obtain⟨k,tn,aC,aD,rows,sets,items,jn,on,wh,gr,od,desc,lim⟩:=s
 obtain⟨rt,rp,rj,rl,rc,rr,rs,ri,ro,rw',rg,rd⟩:=hR
 dsimp only at *
 subst e1 e2 e3 e4 e5 e6 e7 e8
 have jI:=hid (fun V=>je tn V rt)
 have QA:=hid (fun V=>je aD V rp)
 have zq:Hid (∀V,Below w.heap.size w V→Calls Tryz.prog 88 #[.slice a1 aC.length c1,.int .i64 1,.int .i64 8,.func (.func 89) #[] #[]] V fun e w'=>e = .returned (.bool (aR aC 1 8 iV))∧Below V.heap.size V w'):=hid (fun V hV=>Ai S 89 (enters_of Tryz.func89 (by kernel_rfl) rfl) iV aC _ 1 8 V (by omega) (by omega) (x1.to (by decide) (R:=fun _=>False) (T:=S) (ak.aA hV) (fun b hb _=>⟨id,hb⟩) (fun _ _ e=>e)) (hid (fun y hy U hU cs hcs=>by obtain rfl:=hcs;exact oO y U (rc y hy))))
 have U8:Hid (∀V,Below w.heap.size w V→Calls Tryz.prog 91 #[.slice a2 rows.length c2,.int .i64 1,.int .i64 16,.func (.func 92) #[] #[]] V fun e w'=>e = .returned (.bool (aR rows 1 16 om))∧Below V.heap.size V w'):=hid (fun V hV=>Kc S 92 (enters_of Tryz.func92 (by kernel_rfl) rfl) om rows _ 1 16 V (by omega) (by omega) (x2.to (by decide) (R:=fun _=>False) (T:=S) (ak.aA hV) (fun b hb _=>⟨id,hb⟩) (fun _ _ e=>e.to (R:=fun _=>False) (T:=S) (ak.aA hV) (fun b hb _=>⟨id,hb⟩))) (hid (fun y hy U hU cs hcs=>by obtain⟨aa,nn,cc,rfl,h⟩:=hcs;exact Bv S y aa nn cc U (rr y hy) h)))
 have Jm:Hid (∀V,Below w.heap.size w V→Calls Tryz.prog 93 #[.slice a3 sets.length c3,.int .i64 1,.int .i64 8,.func (.func 94) #[] #[]] V fun e w'=>e = .returned (.bool (aR sets 1 8 j6))∧Below V.heap.size V w'):=hid (fun V hV=>Kq S 94 (enters_of Tryz.func94 (by kernel_rfl) rfl) j6 sets _ 1 8 V (by omega) (by omega) (x3.to (by decide) (R:=fun _=>False) (T:=S) (ak.aA hV) (fun b hb _=>⟨id,hb⟩) (fun _ _ e=>e.to (R:=fun _=>False) (T:=S) (ak.aA hV) (fun b hb _=>⟨id,hb⟩))) (hid (fun y hy U hU cs hcs=>BQ S y cs U (rs y hy).1 (rs y hy).2 hcs)))
 have DC:Hid (∀V,Below w.heap.size w V→Calls Tryz.prog 95 #[.slice a6 wh.length c6,.int .i64 0,.int .i64 1,.func (.func 82) #[] #[]] V fun e w'=>e = .returned (.bool (aR wh 0 1 aF))∧Below V.heap.size V w'):=hid (fun V hV=>mJ S wh _ 0 1 V (by omega) (by omega) rw' (x6.new hV))
 have HSL:=hid (fun V (hV:Below w.heap.size w V)=>vO S k tn items on wh gr od aD jn desc lim a1 a2 a3 a4 a5 a6 a7 a8 aC.length rows.length sets.length items.length on.length wh.length gr.length od.length c1 c2 c3 c4 c5 c6 c7 c8 V (x4.to (by decide) (R:=fun _=>False) (T:=S) (ak.aA hV) (fun b hb _=>⟨id,hb⟩) (fun _ _ e=>e.to (R:=fun _=>False) (T:=S) (ak.aA hV) (fun b hb _=>⟨id,hb⟩))) (x5.new hV) (x6.new hV) (x7.new hV) (x8.new hV) ri ro rw' rg rd rj rl)
 have hrs:aQ ⟨k,tn,aC,aD,rows,sets,items,jn,on,wh,gr,od,desc,lim⟩=(if k=1 then (aR aC 1 8 iV&&aU aD)&&(aU tn&&qj 0 [] rows.length sets.length items.length jn on.length wh.length gr.length od.length desc lim)
   else if k=2 then true&&(aU tn&&qj aC.length aD rows.length sets.length items.length jn on.length wh.length gr.length od.length desc lim)
   else if k=3 then aR rows 1 16 om&&(aU tn&&qj aC.length aD 0 sets.length items.length jn on.length wh.length gr.length od.length desc lim)
   else if k=4 then (aR sets 1 8 j6&&aR wh 0 1 aF)&&(aU tn&&qj aC.length aD rows.length 0 items.length jn on.length 0 gr.length od.length desc lim)
   else if k=5 then aR wh 0 1 aF&&(aU tn&&qj aC.length aD rows.length sets.length items.length jn on.length 0 gr.length od.length desc lim)
   else if k=6 then yA ⟨k,tn,aC,aD,rows,sets,items,jn,on,wh,gr,od,desc,lim⟩&&(aU tn&&qj aC.length aD rows.length sets.length 0 [] 0 0 0 0 false (-1))
   else false):=by
  unfold aQ lY yF
  dsimp only
  by_cases k1:k=1
  ·simp only[if_pos k1];rw[oH _ rfl rfl];rfl
  ·by_cases k2:k=2
   ·simp only[if_neg k1,if_pos k2,if_neg (show ¬k=3 by omega),if_neg (show ¬k=4 by omega),if_neg (show ¬k=5 by omega),if_neg (show ¬k=6 by omega)];rw[oH _ rfl rfl]
   ·by_cases k3:k=3
    ·simp only[if_neg k1,if_neg k2,if_pos k3];rw[oH _ rfl rfl];rfl
    ·by_cases k4:k=4
     ·simp only[if_neg k1,if_neg k2,if_neg k3,if_pos k4];rw[oH _ rfl rfl];rfl
     ·by_cases k5:k=5
      ·simp only[if_neg k1,if_neg k2,if_neg k3,if_neg k4,if_pos k5];rw[oH _ rfl rfl];rfl
      ·by_cases k6:k=6
       ·simp only[if_neg k1,if_neg k2,if_neg k3,if_neg k4,if_neg k5,if_pos k6];rw[oH _ rfl rfl];rfl
       ·simp only[if_neg k1,if_neg k2,if_neg k3,if_neg k4,if_neg k5,if_neg k6,aaz]
 rw[hrs]
 clear hrs x1 x2 x3 x4 x5 x6 x7 x8 rt rp rj rl rc rr rs ri ro rw' rg rd
 have hsel:yA ⟨k,tn,aC,aD,rows,sets,items,jn,on,wh,gr,od,desc,lim⟩=(aR items 1 8 oQ&&(oI jn&&(aR on (gB jn) (gB jn) aF&&(aR wh 0 1 aF&&(aR gr 0 1 dO&&(aR od 0 1 dO&&((!desc||decide (od.length=1))&&decide (-1≤lim∧lim≤9223372036854775807)))))))):=rfl
 rw[hsel]
 clear hsel
 generalize (aR items 1 8 oQ&&(oI jn&&(aR on (gB jn) (gB jn) aF&&(aR wh 0 1 aF&&(aR gr 0 1 dO&&(aR od 0 1 dO&&((!desc||decide (od.length=1))&&decide (-1≤lim∧lim≤9223372036854775807))))))))=BS at HSL ⊢
 generalize aR aC 1 8 iV=BC at zq ⊢
 generalize aR rows 1 16 om=BR at U8 ⊢
 generalize aR sets 1 8 j6=BE at Jm ⊢
 generalize aR wh 0 1 aF=BW at DC ⊢
 generalize aU aD=BP at QA ⊢
 generalize aU tn=BT at jI ⊢
 generalize aC.length=n1 at *
 generalize rows.length=n2 at *
 generalize sets.length=n3 at *
 generalize items.length=n4 at *
 generalize on.length=n5 at *
 generalize wh.length=n6 at *
 generalize gr.length=n7 at *
 generalize od.length=n8 at *
 by_cases hk1:k=1
 ·rw[if_pos hk1]
  subst hk1
  exact zT w tn aD jn desc lim a1 a2 a3 a4 a5 a6 a7 a8 n1 n2 n3 n4 n5 n6 n7 n8 c1 c2 c3 c4 c5 c6 c7 c8 BC BP BT zq QA jI
 ·rw[if_neg hk1]
  by_cases hk2:k=2
  ·rw[if_pos hk2]
   subst hk2
   exact Kg w tn aD jn desc lim a1 a2 a3 a4 a5 a6 a7 a8 n1 n2 n3 n4 n5 n6 n7 n8 c1 c2 c3 c4 c5 c6 c7 c8 BT jI
  ·rw[if_neg hk2]
   by_cases hk3:k=3
   ·rw[if_pos hk3]
    subst hk3
    exact KR w tn aD jn desc lim a1 a2 a3 a4 a5 a6 a7 a8 n1 n2 n3 n4 n5 n6 n7 n8 c1 c2 c3 c4 c5 c6 c7 c8 BR BT U8 jI
   ·rw[if_neg hk3]
    by_cases hk4:k=4
    ·rw[if_pos hk4]
     subst hk4
     exact KC w tn aD jn desc lim a1 a2 a3 a4 a5 a6 a7 a8 n1 n2 n3 n4 n5 n6 n7 n8 c1 c2 c3 c4 c5 c6 c7 c8 BE BW BT Jm DC jI
    ·rw[if_neg hk4]
     by_cases hk5:k=5
     ·rw[if_pos hk5]
      subst hk5
      exact J7 w tn aD jn desc lim a1 a2 a3 a4 a5 a6 a7 a8 n1 n2 n3 n4 n5 n6 n7 n8 c1 c2 c3 c4 c5 c6 c7 c8 BW BT DC jI
     ·rw[if_neg hk5]
      by_cases IV:k=6
      ·rw[if_pos IV]
       subst IV
       exact Jg w tn aD jn desc lim a1 a2 a3 a4 a5 a6 a7 a8 n1 n2 n3 n4 n5 n6 n7 n8 c1 c2 c3 c4 c5 c6 c7 c8 BS BT HSL jI
      ·rw[if_neg IV]
       exact FB w k tn aD jn desc lim a1 a2 a3 a4 a5 a6 a7 a8 n1 n2 n3 n4 n5 n6 n7 n8 c1 c2 c3 c4 c5 c6 c7 c8 hk1 hk2 hk3 hk4 hk5 IV
end Go.Proofs.YtfeglkleoijlaaaGreatDoor
namespace Go.Proofs.YtfeglkleoijlaaaGreatDoor
set_option linter.unusedSimpArgs false
set_option linter.unusedVariables false
set_option maxHeartbeats 8000000
def oM (s:St):List Ex:=s.sets.map (fun x=>x.e)++(s.items.flatMap (fun i=>i.xs)++(s.on++(s.wh++(s.gr++s.od))))
theorem mQ {α:Type} (sep:Tk) (tk:α→List Tk) (B:Nat) (l:List α) (h : ∀x∈l,(tk x).length≤B):(aV sep (l.map tk)).length≤l.length*(B+1):=by
 have h2 : ∀l:List α,(∀x∈l,(tk x).length≤B)→((l.map tk).flatMap fun y=>sep::y).length≤l.length*(B+1):=fun l=>by
  induction l with
  | nil=>intro _;simp
  |
   cons x l ih =>
   intro h
   have h1:=h x (by simp)
   have h3:=ih (fun y hy=>h y (by simp[hy]))
   simp only[List.map_cons,List.flatMap_cons,aaN,aa1,Nat.add_mul]
   omega
 cases l with
 | nil=>simp[aV]
 |
  cons x l =>
  have h1:=h x (by simp)
  have h3:=h2 l (fun y hy=>h y (by simp[hy]))
  simp only[List.map_cons,aV,aaN,aa1,Nat.add_mul]
  omega
theorem FP (e:Ex):(qb e).length≤8*pX e:=by
 have:=(L8 (nD e)).2
 unfold qb pX
 omega
theorem OO (e:Ex):jw e≤2*pX e:=by
 have:=Rl (nD e)
 unfold jw pX
 omega
theorem tu {l:List Nat} {n:Nat} (h : ∀x∈l,x≤n):aZ l≤n:=by
 unfold aZ
 induction l with
 | nil=>simp
 |
  cons x l ih =>
  have h1:=h x (by simp)
  have h2:=ih (fun y hy=>h y (by simp[hy]))
  simp only[List.foldr_cons]
  omega
theorem nM {xs:List Ex} {ws:List (List UInt8)} {Z:Nat} (hl:xs.length≤1) (h : ∀e∈xs,pX e≤Z):(bM xs ws).length≤ws.length+8*Z:=by
 match xs,hl with
 | [],_=>simp[bM]
 |
  [x],_ =>
  have h1:=FP x
  have h2:=h x (by simp)
  simp only[bM,ay,List.flatMap_cons,List.flatMap_nil,List.append_nil,aaN,List.length_map]
  omega
 | _::_::_,hl=>simp at hl
theorem bG {α:Type} {xs:List α} {a b:Nat} {p:α→Bool} (h:aR xs a b p=true):a≤xs.length∧xs.length≤b:=by
 unfold aR at h
 simp only[aaC,aaI] at h
 exact h.1
theorem Pw (v:Vl):(nK v).length≤2:=(wK v).2
theorem I8 (c:Co):(mG c).length≤5:=by
 unfold mG
 simp only[aa1,aaN]
 split<;>split<;>simp[ay]
theorem Ot {r:List Vl} (h:om r=true):(oU r).length≤26:=by
 have h1:=(bG h).2
 have h2:=mQ (bg [44]) nK 2 r (fun x _=>Pw x)
 unfold oU
 simp only[aa1,aaN,List.length_nil]
 omega
theorem UL {i:It} {Z:Nat} (h:oQ i=true) (hz : ∀e∈i.xs,pX e≤Z):(Fx i).length≤8*Z+4:=by
 have hd:(qb (i.xs.headD tO)).length≤8*Z∨(i.k=1∨i.k=3):=by
  unfold oQ at h
  by_cases h1:i.k=1∨i.k=3
  ·exact .inr h1
  ·rw[if_neg h1] at h
   split at h
   ·obtain⟨x,l,hx,_,_⟩:=ug h
    refine .inl ?_
    rw[hx]
    have h3:=FP x
    have h4:=hz x (by rw[hx];simp)
    show (qb x).length≤_
    omega
   ·cases h
 unfold Fx
 split
 ·simp
 ·rename_i h1
  split
  ·rename_i h2
   rcases hd with hd | hd
   ·omega
   ·omega
  ·split
   ·simp[ay]
   ·rename_i h3
    rcases hd with hd | hd
    ·simp only[ay,List.map_cons,List.map_nil,aaN,aa1,List.length_nil]
     omega
    ·omega
theorem La {s:St} {Z:Nat} (h:aQ s=true) (hz : ∀e∈oM s,pX e≤Z):(o7 s).length≤100*Z+1000:=by
 unfold aQ at h
 simp only[aaC] at h
 have hk:=h.1
 clear h
 unfold lY at hk
 unfold oM at hz
 have z1 : ∀x∈s.sets,pX x.e≤Z:=fun x hx=>hz _ (List.mem_append_left _ (List.mem_map.2 ⟨x,hx,rfl⟩))
 have z2 : ∀x∈s.items,∀e∈x.xs,pX e≤Z:=fun x hx e he=>hz _ (List.mem_append_right _ (List.mem_append_left _ (List.mem_flatMap.2 ⟨x,hx,he⟩)))
 have z3 : ∀e∈s.on,pX e≤Z:=fun e he=>hz _ (by simp[he])
 have z4 : ∀e∈s.wh,pX e≤Z:=fun e he=>hz _ (by simp[he])
 have z5 : ∀e∈s.gr,pX e≤Z:=fun e he=>hz _ (by simp[he])
 have z6 : ∀e∈s.od,pX e≤Z:=fun e he=>hz _ (by simp[he])
 clear hz
 unfold o7
 split at hk
 ·rename_i h1
  rw[if_pos h1]
  rw[aaC] at hk
  have h2:=(bG hk.1).2
  have h3:=mQ (bg [44]) mG 5 s.aC (fun x _=>I8 x)
  unfold U4
  simp only[ay,List.map_cons,List.map_nil,aaN,aa1,List.length_nil]
  omega
 ·rename_i h1
  rw[if_neg h1]
  split at hk
  ·rename_i h2
   rw[if_pos h2]
   simp only[ay,List.map_cons,List.map_nil,aaN,aa1,List.length_nil]
   omega
  ·rename_i h2
   rw[if_neg h2]
   split at hk
   ·rename_i h3
    rw[if_pos h3]
    have h4:=(bG hk).2
    have h5:=mQ (bg [44]) oU 26 s.rows (fun x hx=>Ot (aP hk x hx))
    simp only[ay,List.map_cons,List.map_nil,aaN,aa1,List.length_nil]
    omega
   ·rename_i h3
    rw[if_neg h3]
    split at hk
    ·rename_i h4
     rw[if_pos h4]
     rw[aaC] at hk
     have h5:=(bG hk.1).2
     have h6:=mQ (bg [44]) xR (8*Z+2) s.sets (fun x hx=>by
      have a1:=FP x.e
      have a2:=z1 x hx
      simp only[xR,aa1]
      omega)
     have h7:=nM (ws:=[[87,72,69,82,69]]) (bG hk.2).2 z4
     have h8:s.sets.length*(8*Z+2+1)≤8*(8*Z+2+1):=Nat.mul_le_mul_right _ h5
     simp only[aaN,aa1,List.length_nil] at h7 ⊢
     omega
    ·rename_i h4
     rw[if_neg h4]
     split at hk
     ·rename_i h5
      rw[if_pos h5]
      have h7:=nM (ws:=[[87,72,69,82,69]]) (bG hk).2 z4
      simp only[ay,List.map_cons,List.map_nil,aaN,aa1,List.length_nil] at h7 ⊢
      omega
     ·rename_i h5
      rw[if_neg h5]
      split at hk
      ·unfold yA at hk
       simp only[aaC] at hk
       obtain⟨q1,q2,q3,q4,q5,q6,q7,q8⟩:=hk
       have j1:gB s.jn≤1:=by unfold gB;split<;>omega
       have l1:=nM (ws:=[[79,78]]) (Nat.le_trans (bG q3).2 j1) z3
       have l2:=nM (ws:=[[87,72,69,82,69]]) (bG q4).2 z4
       have l3:=nM (ws:=[[71,82,79,85,80],[66,89]]) (bG q5).2 z5
       have l4:=nM (ws:=[[79,82,68,69,82],[66,89]]) (bG q6).2 z6
       have h5:=(bG q1).2
       have h6:=mQ (bg [44]) Fx (8*Z+4) s.items (fun x hx=>UL (aP q1 x hx) (z2 x hx))
       have h8:s.items.length*(8*Z+4+1)≤8*(8*Z+4+1):=Nat.mul_le_mul_right _ h5
       have m1:(if s.jn=[] then [] else [bg [74,79,73,78],dQ s.jn]).length≤2:=by split<;>simp
       have m2:(if s.desc=true then [bg [68,69,83,67]] else []).length≤1:=by split<;>simp
       have m3:(if s.lim = -1 then [] else [bg [76,73,77,73,84],IW s.lim]).length≤2:=by split<;>simp
       unfold QT
       simp only[aaN,aa1,List.length_nil] at l1 l2 l3 l4 ⊢
       omega
      ·cases hk
theorem Bu {s:St} {Z:Nat} (hz : ∀e∈oM s,pX e≤Z):tQ s≤2*Z:=by
 unfold oM at hz
 have z1 : ∀x∈s.sets,pX x.e≤Z:=fun x hx=>hz _ (List.mem_append_left _ (List.mem_map.2 ⟨x,hx,rfl⟩))
 have z2 : ∀x∈s.items,∀e∈x.xs,pX e≤Z:=fun x hx e he=>hz _ (List.mem_append_right _ (List.mem_append_left _ (List.mem_flatMap.2 ⟨x,hx,he⟩)))
 have up : ∀l:List Ex,(∀e∈l,pX e≤Z)→dH l≤2*Z:=fun l h=>tu (fun n hn=>by
  obtain⟨e,he,rfl⟩:=List.mem_map.1 hn
  have a1:=OO e
  have a2:=h e he
  omega)
 have u1:aZ (s.sets.map fun x=>jw x.e)≤2*Z:=tu (fun n hn=>by
  obtain⟨x,hx,rfl⟩:=List.mem_map.1 hn
  have a1:=OO x.e
  have a2:=z1 x hx
  omega)
 have u2:aZ (s.items.map KJ)≤2*Z:=tu (fun n hn=>by
  obtain⟨x,hx,rfl⟩:=List.mem_map.1 hn
  exact up _ (z2 x hx))
 have u3:=up s.on (fun e he=>hz _ (by simp[he]))
 have u4:=up s.wh (fun e he=>hz _ (by simp[he]))
 have u5:=up s.gr (fun e he=>hz _ (by simp[he]))
 have u6:=up s.od (fun e he=>hz _ (by simp[he]))
 unfold tQ
 split
 ·omega
 ·split
  ·omega
  ·split
   ·omega
   ·omega
open Go.RowKit Go.Shelf
set_option maxRecDepth 20000
def qg (l:List St):List UInt8 × Int:=if 8<l.length then ([],2) else if aR l 1 8 aQ=true then tC (aV (bg [59]) (l.map o7)) ((aZ (l.map tQ):Nat):Int) else ([],4)
theorem vN (S:Nat→Prop) (l:List St) (v:Value) (w:World) (hT:iL w) (hR : ∀s∈l,vZ s) (hv:aM 14 fD S w l v) (hz:l.length≤8→∀s∈l,aQ s=true→∀e∈oM s,pX e≤5000) :
  Calls Tryz.prog 18 #[v] w fun e w'=>e = .returned (.tuple #[.string (aj (qg l).1),.int .i64 (qg l).2])∧Below w.heap.size w w':=by
 have HV:=hid hv
 obtain⟨aa,cc,css,rfl,h1,h2,_⟩:=hv
 unfold maxLen at h2
 unfold qg
 by_cases h8:8<l.length
 ·rw[if_pos h8]
  have h8':(8:Int)<(l.length:Int):=by omega
  clear hz hR HV hT
  go_enter Tryz.func18,Tryz.ntmps18
  go_wp2
  exact bodyPost_ret (v:=.tuple #[.string ⟨#[]⟩,.int .i64 2]) (by simp[results,Tryz.results18,go_sem]) rfl ⟨rfl,Below.refl _ _⟩
 ·rw[if_neg h8]
  have h8' : ¬(8:Int)<(l.length:Int):=by omega
  have HA:=hid (Ab S 47 (enters_of Tryz.func47 (by kernel_rfl) rfl) aQ l _ 1 8 w (by decide) (by decide) HV.out (hid (fun x hx V hb cs hcs=>qP S x cs V (hR x hx) hcs)))
  have QV:=hid hT
  clear hR hT
  cases ha:aR l 1 8 aQ with
  |
   false =>
   rw[ha] at HA
   rw[if_neg Bool.false_ne_true]
   clear ha hz HV QV
   go_enter Tryz.func18,Tryz.ntmps18
   go_wp2_with fail
   refine HA.out.mono ?_
   rintro e w1 ⟨rfl,hb1⟩
   have HB1:=hid hb1
   clear hb1 HA
   go_wp2
   exact bodyPost_ret (v:=.tuple #[.string ⟨#[]⟩,.int .i64 4]) (by simp[results,Tryz.results18,go_sem]) rfl ⟨rfl,HB1.out⟩
  |
   true =>
   rw[ha] at HA
   rw[if_pos rfl]
   have hall:=aP ha
   have hln:=(bG ha).2
   have hz2 : ∀s∈l,∀e∈oM s,pX e≤5000:=fun s hs=>hz hln s hs (hall s hs)
   have htl:=mQ (bg [59]) o7 501000 l (fun s hs=>La (hall s hs) (hz2 s hs))
   have hdl:aZ (l.map tQ)≤10000:=tu (fun n hn=>by
    obtain⟨s,hs,rfl⟩:=List.mem_map.1 hn
    exact Bu (hz2 s hs))
   have Sq:(aV (bg [59]) (l.map o7)).length≤4008008:=Nat.le_trans htl (Nat.mul_le_mul_right _ hln)
   have Tc:Hid (∀s∈l,tQ s≤10000):=hid (fun s hs=>Bu (hz2 s hs))
   have K6:Hid (∀t∈aV (bg [59]) (l.map o7),UE t):=hid (fun t ht=>(bD.sep (bL (by decide)) (fun x hx=>by
    obtain⟨s,hs,rfl⟩:=List.mem_map.1 hx
    exact xE (hall s hs)) t ht).ok)
   have Wu:=hid hall
   have Fj:Hid (∀(V:World) (g:Nat),bO V g none [] 0 0→aM 14 fD (fun b=>b<g) V l (.slice aa l.length cc)→Calls Tryz.prog 48 #[.pointer (some ⟨g,0,none⟩),.string ⟨#[59]⟩,.slice aa l.length cc,.func (.func 49) #[.pointer (some ⟨g,0,none⟩)] #[]] V fun e w'=>e = .returned (.tuple #[])∧Wrote g none V w' ([]++aV (bg [59]) (l.map o7)) 0 (max 0 (0+((aZ (l.map tQ):Nat):Int)))):=hid (fun V g hV hS=>Dj 49 (enters_of Tryz.func49 (by kernel_rfl) rfl) o7 tQ [59] (by decide) l _ g none [] 0 0 V hV hS (by decide) (by decide) (fun x hx=>by have:=Tc.out x hx;omega) (by show 0+_≤_;omega) (hid (fun x hxm U bX L2 m2 hU cs hcs hl2 h3 h4=>Dz x (Wu.out x hxm) cs g bX L2 0 m2 U hU hcs hl2 (by decide) h3 h4 (by have:=Tc.out x hxm;omega))))
   obtain⟨R,hR⟩:∃R,tC (aV (bg [59]) (l.map o7)) ((aZ (l.map tQ):Nat):Int)=R:=⟨_,rfl⟩
   rw[hR]
   have HRR:=hid hR
   clear hR ha hall hz hz2 htl Wu Tc
   generalize aV (bg [59]) (l.map o7)=T at Fj K6 HRR Sq
   generalize aZ (l.map tQ)=D at Fj HRR hdl
   go_enter Tryz.func18,Tryz.ntmps18
   go_wp2_with fail
   refine HA.out.mono ?_
   rintro e w1 ⟨rfl,hb1⟩
   obtain⟨V,hV,mU,K4,Rs⟩:=FR w1 (QV.out.on hb1)
   have hB1:=hb1.trans (mU.mono hb1.size)
   have hle1:w.heap.size≤w1.heap.size:=hb1.size
   have Vp:aM 14 fD (fun b=>b<w1.heap.size) V l (.slice aa l.length cc):=by
    have hk:=ak.aA (S:=fun _=>False) hb1
    have hk2:=ak.aA (S:=fun _=>False) mU
    have a1:aM 14 fD (fun b=>b<w1.heap.size) w1 l (.slice aa l.length cc):=HV.out.to (by decide) hk (fun b _ hb=>⟨id,aa7 hb hb1.size⟩) (fun _ _ e=>e.to hk (fun b _ hb=>⟨id,aa7 hb hb1.size⟩))
    exact a1.to (by decide) hk2 (fun b hb _=>⟨id,hb⟩) (fun _ _ e=>e.to hk2 (fun b hb _=>⟨id,hb⟩))
   have HL:=hid (Fj.out V w1.heap.size Rs Vp)
   have zl:=hid hB1
   clear hb1 hB1 HA mU Rs Vp Fj
   go_wp2_with fail
   try rw[hV]
   refine HL.out.mono ?_
   rintro e w2 ⟨rfl,bX,hw2,ht2,hf2⟩
   rw[List.nil_append] at hw2
   have e1:max (0:Int) (0+(D:Int))=(D:Int):=by omega
   rw[e1] at hw2
   have HS:=hid (yG _ _ _ _ _ w2 hw2 K6.out (by omega))
   have HB2:Hid (Below w.heap.size w w2):=hid (zl.out.trans (hf2.below (fun i hi=>by
    rcases hi with rfl | e
    ·omega
    ·cases e) (by omega)))
   clear hw2 ht2 hf2 HL e1
   rw[HRR.out] at HS
   go_wp2_with fail
   refine HS.out.mono ?_
   rintro e w3 ⟨rfl,hb3⟩
   have HB3:=htr HB2 hb3
   clear hb3 HS
   go_wp2
   exact bodyPost_ret (v:=.tuple #[.string (aj R.1),.int .i64 R.2]) (by simp[results,Tryz.results18,go_sem]) rfl ⟨rfl,HB3.out⟩
end Go.Proofs.YtfeglkleoijlaaaGreatDoor
namespace Go.Proofs.YtfeglkleoijlaaaGreatDoor
set_option linter.unusedSimpArgs false
set_option linter.unusedVariables false
set_option maxHeartbeats 8000000
theorem jd {s:List UInt8} (h:aU s=true):s.length≤16:=by
 unfold aU at h
 simp only[aaC,aaI] at h
 exact h.2.1
variable {N : Nat}
theorem QZ {α:Type} {l:List α} {a b:Nat} {p:α→Bool} (h1:a≤l.length) (h2:l.length≤b) (h : ∀x∈l,p x=true):aR l a b p=true:=by
 unfold aR
 simp only[aaC,aaI,List.all_eq_true]
 exact⟨⟨h1,h2⟩,h⟩
open Go.RowKit Go.Shelf
set_option maxRecDepth 20000
structure Tb where
 nm:List UInt8
 aC:List Co
 pr:Int
def GN:Tb:=⟨[],[],0⟩
def Ch (l:List Co) (i:Nat):List UInt8:=(l[i]?.map Co.nm).getD []
def dx (t:Tb):St:={ zSt 1 with tb:=t.nm,aC:=t.aC,aD:=Ch t.aC t.pr.toNat }
def bF (l:List Co) (nm:List UInt8):Nat:=l.findIdx fun c=>decide (c.nm=nm)
def WS (c:Co):Co:={ c with nn:=true,uq:=true }
def keyed (l:List Co) (p:Nat):List Co:=l.modify p WS
def tV (a b:Co):Bool:=decide (a.nm=b.nm∧a.k=b.k∧a.nn=b.nn∧a.uq=b.uq)
theorem Cq (a b:Co):tV a b=true↔a=b:=by
 obtain⟨a1,a2,a3,a4⟩:=a
 obtain⟨b1,b2,b3,b4⟩:=b
 simp[tV]
theorem lS : ∀(xs ys:List Co),Lib.allEq tV xs ys=true↔xs=ys
 | [],[]=>by simp[Lib.allEq]
 | [],y::ys=>by simp[Lib.allEq]
 | x::xs,[]=>by simp[Lib.allEq]
 |
  x::xs,y::ys=>by
  rw[Lib.allEq,aaC,Cq,lS xs ys,List.cons.injEq]
theorem ou {l:List Co} {nm:List UInt8} (h:bF l nm<l.length):(l[bF l nm]'h).nm=nm:=by
 have:=List.findIdx_getElem (w:=h) (p:=fun c:Co=>decide (c.nm=nm))
 exact of_decide_eq_true this
theorem qR {l:List Co} {nm:List UInt8} {j:Nat} (h:j<bF l nm) (hj:j<l.length):(l[j]'hj).nm≠nm:=fun e=>by
 have:=List.not_of_lt_findIdx (p:=fun c:Co=>decide (c.nm=nm)) h
 simp[e] at this
theorem I4 (l:List Co) (nm:List UInt8):bF l nm≤l.length:=List.findIdx_le_length
theorem su {l:List Co} {nm:List UInt8} {j:Nat} (hj:j<l.length) (h:(l[j]'hj).nm=nm):bF l nm≤j:=by
 rcases Nat.lt_or_ge j (bF l nm) with h1 | h1
 ·exact absurd h (qR h1 hj)
 ·exact h1
theorem yJ {l:List Co} (hn:(l.map Co.nm).Nodup) {j:Nat} (hj:j<l.length):bF l (l[j]'hj).nm=j:=by
 have h1:=su hj (rfl:(l[j]'hj).nm=_)
 have h2:bF l (l[j]'hj).nm<l.length:=by omega
 have h3:=ou h2
 have h4:(l.map Co.nm)[bF l (l[j]'hj).nm]'(by simpa using h2)=(l.map Co.nm)[j]'(by simpa using hj):=by simpa using h3
 exact (List.getElem_inj hn).1 h4
theorem yH {l:List Co} (h : ∀j (hj:j<l.length),bF l (l[j]'hj).nm=j):(l.map Co.nm).Nodup:=by
 rw[List.nodup_iff_pairwise_ne,List.pairwise_iff_getElem]
 intro i j hi hj hij e
 simp only[List.getElem_map] at e
 simp only[List.length_map] at hi hj
 have h1:=h i hi
 have h2:=h j hj
 rw[e,h2] at h1
 omega
theorem jh (l:List Co) (p:Nat):(keyed l p).length=l.length:=by simp[keyed]
theorem DJ (l:List Co) (p j:Nat):(keyed l p)[j]?=if p=j then l[j]?.map WS else l[j]?:=by
 unfold keyed
 rw[List.getElem?_modify]
 split
 ·rfl
 ·simp
theorem JF {l:List Co} {p:Nat} {c:Co} (h:c∈keyed l p):∃d∈l,c.nm=d.nm∧c.k=d.k:=by
 obtain⟨j,hj⟩:=List.getElem?_of_mem h
 rw[DJ] at hj
 split at hj
 ·cases hl:l[j]? with
  | none=>rw[hl] at hj;cases hj
  |
   some d =>
   rw[hl,Option.map_some,abf] at hj
   subst hj
   exact⟨d,aaP hl,rfl,rfl⟩
 ·exact⟨c,aaP hj,rfl,rfl⟩
theorem Bg {l:List Co} {i:Nat} (h:i<l.length):Ch l i=(l[i]'h).nm:=by
 unfold Ch
 rw[aaf h]
 rfl
def bU (s:St):Tb × Int :=
 if s.k=1∧aQ s=true then
  if (s.aC.map Co.nm).Nodup then
   (if bF s.aC s.aD<s.aC.length then (⟨s.tb,keyed s.aC (bF s.aC s.aD),(bF s.aC s.aD:Nat)⟩,0) else (GN,12))
  else (GN,13)
 else (GN,4)
def lK (t:Tb):Bool:=decide (0≤t.pr∧t.pr<t.aC.length)&&(decide ((bU (dx t)).2=0)&&Lib.allEq tV (bU (dx t)).1.aC t.aC)
theorem wG {s:St} (h:(bU s).2=0):s.k=1∧aQ s=true∧(s.aC.map Co.nm).Nodup∧bF s.aC s.aD<s.aC.length∧bU s=(⟨s.tb,keyed s.aC (bF s.aC s.aD),(bF s.aC s.aD:Nat)⟩,0):=by
 unfold bU at h ⊢
 by_cases h1:s.k=1∧aQ s=true
 ·rw[if_pos h1] at h ⊢
  by_cases h2:(s.aC.map Co.nm).Nodup
  ·rw[if_pos h2] at h ⊢
   by_cases h3:bF s.aC s.aD<s.aC.length
   ·rw[if_pos h3] at h ⊢
    exact⟨h1.1,h1.2,h2,h3,rfl⟩
   ·rw[if_neg h3] at h;cases h
  ·rw[if_neg h2] at h;cases h
 ·rw[if_neg h1] at h;cases h
theorem lM {s:St} (hk:s.k=1) (h:aQ s=true):aR s.aC 1 8 iV=true∧aU s.aD=true∧aU s.tb=true:=by
 unfold aQ lY at h
 rw[if_pos hk] at h
 simp only[aaC] at h
 exact⟨h.1.1,h.1.2,h.2.1⟩
theorem xP {t:Tb} (h:lK t=true):bU (dx t)=(t,0):=by
 unfold lK at h
 simp only[aaC,aaI] at h
 obtain⟨⟨h1,h2⟩,h3,h4⟩:=h
 obtain⟨hk,hr,hn,hi,e⟩:=wG h3
 have hc:=(lS _ _).1 h4
 rw[e] at hc ⊢
 obtain⟨nm,aC,pr⟩:=t
 dsimp only[dx] at *
 obtain⟨p,rfl⟩:=Int.eq_ofNat_of_zero_le h1
 have hp:p<aC.length:=by omega
 have e1:bF aC (Ch aC p)=p:=by
  rw[Bg hp]
  exact yJ hn hp
 rw[Int.toNat_natCast,e1] at hc ⊢
 rw[hc]
theorem x9 (n:Nat):∀(l:List (List UInt8)),(∀x∈l,x.length≤n)→(Lib.join l [32]).length≤l.length*(n+1)
 | [],_=>by simp[Lib.join_nil]
 |
  [x],h=>by
  rw[Lib.join_one]
  have:=h x (by simp)
  simp
  omega
 |
  x::y::l,h=>by
  have ih:=x9 n (y::l) (fun z hz=>h z (by simp at hz ⊢;exact .inr hz))
  have hx:=h x (by simp)
  have e:Lib.join (x::y::l) [32]=x++32::Lib.join (y::l) [32]:=by
   rw[Lib.join_cons,Lib.join_cons]
   simp[Lib.joinTail]
  rw[e]
  simp only[aaN,aa1] at ih ⊢
  rw[Nat.add_mul (l.length+1) 1]
  omega
def Sh (t:Tk):Prop:=(t.k=1∨t.k=2∨t.k=5)∧t.s.length≤16
theorem Io {s:List UInt8} (h:s.length≤16):Sh (bg s):=by
 unfold bg
 split
 ·exact⟨.inr (.inl rfl),h⟩
 ·exact⟨.inr (.inr rfl),h⟩
theorem NC {s:List UInt8} (h:aU s=true):Sh (dQ s):=⟨.inl rfl,jd h⟩
theorem pV {l:List (List UInt8)} (h : ∀s∈l,s.length≤16):∀t∈ay l,Sh t:=fun t ht=>by
 obtain⟨s,hs,rfl⟩:=List.mem_map.1 ht
 exact Io (h s hs)
theorem VR {t:Tk} (h:Sh t):(wr t).length≤16:=by
 unfold wr
 rw[if_neg (by rcases h.1 with e | e | e<;>rw[e]<;>decide),if_neg (by rcases h.1 with e | e | e<;>rw[e]<;>decide)]
 exact h.2
theorem LX {sep:Tk} (hs:Sh sep):∀{l:List (List Tk)},(∀x∈l,∀t∈x,Sh t)→∀t∈aV sep l,Sh t
 | [],_,t,ht=>by cases ht
 | [x],h,t,ht=>h x (by simp) t (by simpa [aV] using ht)
 |
  x::y::l,h,t,ht=>by
  have e:aV sep (x::y::l)=x++sep::aV sep (y::l):=rfl
  rw[e] at ht
  rcases List.mem_append.1 ht with ht | ht
  ·exact h x (by simp) t ht
  ·rcases abg.1 ht with rfl | ht
   ·exact hs
   ·exact LX hs (fun z hz=>h z (by simp at hz ⊢;exact .inr hz)) t ht
theorem UM {c:Co} (h:iV c=true):∀t∈mG c,Sh t:=fun t ht=>by
 unfold iV at h
 rw[aaC] at h
 unfold mG at ht
 rcases abg.1 ht with rfl | ht
 ·exact NC h.1
 ·rcases abg.1 ht with rfl | ht
  ·split<;>exact Io (by decide)
  ·rcases List.mem_append.1 ht with ht | ht
   ·split at ht
    ·exact pV (by decide) t ht
    ·cases ht
   ·split at ht
    ·exact pV (by decide) t ht
    ·cases ht
theorem Jl {s:St} (hk:s.k=1) (h:aQ s=true):∀t∈o7 s,Sh t:=fun t ht=>by
 obtain⟨h1,h2,h3⟩:=lM hk h
 unfold o7 at ht
 rw[if_pos hk] at ht
 unfold U4 at ht
 rcases List.mem_append.1 ht with ht | ht
 ·exact pV (by decide) t ht
 ·rcases abg.1 ht with rfl | ht
  ·exact NC h3
  ·rcases abg.1 ht with rfl | ht
   ·exact Io (by decide)
   ·rcases List.mem_append.1 ht with ht | ht
    ·refine LX (Io (by decide)) (fun x hx=>?_) t ht
     obtain⟨c,hc,rfl⟩:=List.mem_map.1 hx
     exact UM (aP h1 c hc)
    ·rcases List.mem_append.1 ht with ht | ht
     ·exact pV (by decide) t ht
     ·rcases abg.1 ht with rfl | ht
      ·exact NC h2
      ·exact pV (by decide) t ht
theorem G9 {s:St} (hk:s.k=1) (h:aQ s=true):(o7 s).length≤61:=by
 obtain⟨h1,h2,h3⟩:=lM hk h
 have hc:=mQ (bg [44]) mG 5 s.aC (fun c _=>I8 c)
 have h8:=(bG h1).2
 unfold o7
 rw[if_pos hk]
 unfold U4 ay
 simp only[aaN,aa1,List.length_map,List.length_nil]
 omega
theorem CV {s:St} (h:aQ s=true):aR [s] 1 8 aQ=true:=by
 unfold aR
 simp[h]
theorem Ed {s:St} (hk:s.k=1) (h:aQ s=true):(qg [s]).2=0∧(qg [s]).1.length≤2000:=by
 have hA:=CV h
 have e:qg [s]=tC (o7 s) 0:=by
  unfold qg
  rw[if_neg (by simp),if_pos hA]
  have e1:aV (bg [59]) ([s].map o7)=o7 s:=by simp[aV]
  have e2:aZ ([s].map tQ)=0:=by
   have:tQ s=0:=by
    unfold tQ
    rw[if_neg (by omega),if_neg (by omega),if_neg (by omega)]
   simp[aZ,this]
  rw[e1,e2]
  rfl
 have hb : ¬2000<(Lib.join (wD (o7 s)) [32]).length:=by
  have h2:=x9 16 (wD (o7 s)) (fun x hx=>by
   unfold wD at hx
   obtain⟨t,ht,rfl⟩:=List.mem_map.1 hx
   exact VR (Jl hk h t (List.mem_filter.1 ht).1))
  have h3:(wD (o7 s)).length≤61:=by
   unfold wD
   rw[List.length_map]
   exact Nat.le_trans (List.length_filter_le _ _) (G9 hk h)
  have h4:(wD (o7 s)).length*(16+1)≤61*17:=Nat.mul_le_mul_right _ h3
  omega
 rw[e]
 unfold tC
 rw[if_neg (by decide),if_neg hb]
 exact⟨rfl,by show (Lib.join _ _).length≤2000;omega⟩
end Go.Proofs.YtfeglkleoijlaaaGreatDoor
