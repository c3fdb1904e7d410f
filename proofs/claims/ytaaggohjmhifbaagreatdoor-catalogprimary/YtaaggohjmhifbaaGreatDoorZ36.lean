/- Packed for the hand-in: WRightV WSize WTopS WRgA -/
import Derived.Test.YtaaggohjmhifbaaGreatDoorZ33
import Derived.Test.YtaaggohjmhifbaaGreatDoorZ34
import Derived.Test.YtaaggohjmhifbaaGreatDoorZ35
import Derived.Test.YtaaggohjmhifbaaGreatDoorZ24
import Derived.Test.YtaaggohjmhifbaaGreatDoorZ30
import Derived.Test.YtaaggohjmhifbaaGreatDoorZ31
namespace Go.Proofs.YtaaggohjmhifbaaGreatDoor
open Go.RowKit Go.Shelf
set_option linter.unusedSimpArgs false
set_option linter.unusedVariables false
set_option maxRecDepth 20000
set_option maxHeartbeats 8000000
theorem BM (w:World) (k:Int) (tn prim jn:List UInt8) (desc:Bool) (lim:Int) (a1 a2 a3 a4 a5 a6 a7 a8:Option Addr) (n1 n2 n3 n4 n5 n6 n7 n8 c1 c2 c3 c4 c5 c6 c7 c8:Nat) (h1:k≠1) (h2:k≠2) (h3:k≠3) (h4:k≠4) (h5:k≠5) (h6:k≠6) :
  Calls Tryz.prog 59 #[.agg #[.int .i64 k,.string (aj tn),.slice a1 n1 c1,.string (aj prim),.slice a2 n2 c2,.slice a3 n3 c3,.slice a4 n4 c4,.string (aj jn),.slice a5 n5 c5,.slice a6 n6 c6,.slice a7 n7 c7,.slice a8 n8 c8,.bool desc,.int .i64 lim]] w fun e w'=>e = .returned (.bool false)∧Below w.heap.size w w':=by
 obtain⟨W,hW,hbW,hzW,hc0,hc1⟩:=iB w k tn prim jn desc lim a1 a2 a3 a4 a5 a6 a7 a8 n1 n2 n3 n4 n5 n6 n7 n8 c1 c2 c3 c4 c5 c6 c7 c8
 have q0:=au hc0
 have q1:=au hc1
 have q1f:=aO hc1
 have HB:=hid hbW
 have HC0:=hid hc0
 have HC1:=hid hc1
 have hz0:w.heap.size<W.heap.size:=by omega
 clear hbW hc0 hc1
 have hkb1:(k==1)=false:=by rw[beq_eq_false_iff_ne];exact h1
 have hkb2:(k==2)=false:=by rw[beq_eq_false_iff_ne];exact h2
 have hkb3:(k==3)=false:=by rw[beq_eq_false_iff_ne];exact h3
 have hkb4:(k==4)=false:=by rw[beq_eq_false_iff_ne];exact h4
 have hkb5:(k==5)=false:=by rw[beq_eq_false_iff_ne];exact h5
 have hkb6:(k==6)=false:=by rw[beq_eq_false_iff_ne];exact h6
 clear h1 h2 h3 h4 h5 h6
 go_enter Tryz.func59,Tryz.ntmps59
 go_wp2_with (first | (refine wpList_store_row rfl 28 (.tmp 3) (.tmp 5) rfl (w.heap.size+1) #[.int .i64 k,.string (aj tn),.slice a1 n1 c1,.string (aj prim),.slice a2 n2 c2,.slice a3 n3 c3,.slice a4 n4 c4,.string (aj jn),.slice a5 n5 c5,.slice a6 n6 c6,.slice a7 n7 c7,.slice a8 n8 c8,.bool desc,.int .i64 lim] rfl rfl 28 #[.int .i64 0,.string ⟨#[]⟩,.slice none 0 0,.string ⟨#[]⟩,.slice none 0 0,.slice none 0 0,.slice none 0 0,.string ⟨#[]⟩,.slice none 0 0,.slice none 0 0,.slice none 0 0,.slice none 0 0,.bool false,.int .i64 0] (heap_alloc2_new w _ _) Tryz.eY rfl rfl ?_;rw[aW]) | fail)
 try rw[hW]
 go_ret
 exact⟨rfl,HB.out⟩
theorem qE (S:Nat→Prop) (s:St) (cs:List Value) (w:World) (hR:Gp s) (hx:mO S w s cs) :
  Calls Tryz.prog 59 #[.agg cs.toArray] w fun e w'=>e = .returned (.bool (bP s))∧Below w.heap.size w w':=by
 obtain⟨a1,a2,a3,a4,a5,a6,a7,a8,n1,n2,n3,n4,n5,n6,n7,n8,c1,c2,c3,c4,c5,c6,c7,c8,rfl,x1,x2,x3,x4,x5,x6,x7,x8⟩:=hx
 have e1:n1=s.cols.length:=by obtain⟨_,_,hf⟩:=x1.form;simp only[Value.slice.injEq] at hf;exact hf.2.1
 have e2:n2=s.rows.length:=by obtain⟨_,_,hf⟩:=x2.form;simp only[Value.slice.injEq] at hf;exact hf.2.1
 have e3:n3=s.sets.length:=by obtain⟨_,_,hf⟩:=x3.form;simp only[Value.slice.injEq] at hf;exact hf.2.1
 have e4:n4=s.items.length:=by obtain⟨_,_,hf⟩:=x4.form;simp only[Value.slice.injEq] at hf;exact hf.2.1
 have e5:n5=s.on.length:=by obtain⟨_,_,hf,_⟩:=x5.form;simp only[Value.slice.injEq] at hf;exact hf.2.1
 have e6:n6=s.wh.length:=by obtain⟨_,_,hf,_⟩:=x6.form;simp only[Value.slice.injEq] at hf;exact hf.2.1
 have e7:n7=s.gr.length:=by obtain⟨_,_,hf,_⟩:=x7.form;simp only[Value.slice.injEq] at hf;exact hf.2.1
 have e8:n8=s.od.length:=by obtain⟨_,_,hf,_⟩:=x8.form;simp only[Value.slice.injEq] at hf;exact hf.2.1
 obtain⟨k,tn,cols,prim,rows,sets,items,jn,on,wh,gr,od,desc,lim⟩:=s
 obtain⟨rt,rp,rj,rl,rc,rr,rs,ri,ro,rw',rg,rd⟩:=hR
 dsimp only at *
 subst e1 e2 e3 e4 e5 e6 e7 e8
 have HNT:=hid (fun V=>kN tn V rt)
 have HNP:=hid (fun V=>kN prim V rp)
 have HCO:Hid (∀V,Below w.heap.size w V→Calls Tryz.prog 86 #[.slice a1 cols.length c1,.int .i64 1,.int .i64 8,.func (.func 87) #[] #[]] V fun e w'=>e = .returned (.bool (aZ cols 1 8 jT))∧Below V.heap.size V w'):=hid (fun V hV=>Em S 87 (enters_of Tryz.func87 (by kernel_rfl) rfl) jT cols _ 1 8 V (by omega) (by omega) (x1.to (by decide) (R:=fun _=>False) (T:=S) (ay.aI hV) (fun b hb _=>⟨id,hb⟩) (fun _ _ e=>e)) (hid (fun y hy U hU cs hcs=>by obtain rfl:=hcs;exact um y U (rc y hy))))
 have HRO:Hid (∀V,Below w.heap.size w V→Calls Tryz.prog 89 #[.slice a2 rows.length c2,.int .i64 1,.int .i64 16,.func (.func 90) #[] #[]] V fun e w'=>e = .returned (.bool (aZ rows 1 16 ru))∧Below V.heap.size V w'):=hid (fun V hV=>Fh S 90 (enters_of Tryz.func90 (by kernel_rfl) rfl) ru rows _ 1 16 V (by omega) (by omega) (x2.to (by decide) (R:=fun _=>False) (T:=S) (ay.aI hV) (fun b hb _=>⟨id,hb⟩) (fun _ _ e=>e.to (R:=fun _=>False) (T:=S) (ay.aI hV) (fun b hb _=>⟨id,hb⟩))) (hid (fun y hy U hU cs hcs=>by obtain⟨aa,nn,cc,rfl,h⟩:=hcs;exact yK S y aa nn cc U (rr y hy) h)))
 have HSE:Hid (∀V,Below w.heap.size w V→Calls Tryz.prog 91 #[.slice a3 sets.length c3,.int .i64 1,.int .i64 8,.func (.func 92) #[] #[]] V fun e w'=>e = .returned (.bool (aZ sets 1 8 pW))∧Below V.heap.size V w'):=hid (fun V hV=>Fq S 92 (enters_of Tryz.func92 (by kernel_rfl) rfl) pW sets _ 1 8 V (by omega) (by omega) (x3.to (by decide) (R:=fun _=>False) (T:=S) (ay.aI hV) (fun b hb _=>⟨id,hb⟩) (fun _ _ e=>e.to (R:=fun _=>False) (T:=S) (ay.aI hV) (fun b hb _=>⟨id,hb⟩))) (hid (fun y hy U hU cs hcs=>yR S y cs U (rs y hy).1 (rs y hy).2 hcs)))
 have HWH:Hid (∀V,Below w.heap.size w V→Calls Tryz.prog 93 #[.slice a6 wh.length c6,.int .i64 0,.int .i64 1,.func (.func 94) #[] #[]] V fun e w'=>e = .returned (.bool (aZ wh 0 1 aP))∧Below V.heap.size V w'):=hid (fun V hV=>l8 S wh _ 0 1 V (by omega) (by omega) rw' (x6.new hV))
 have HSL:=hid (fun V (hV:Below w.heap.size w V)=>uw S k tn items on wh gr od prim jn desc lim a1 a2 a3 a4 a5 a6 a7 a8 cols.length rows.length sets.length items.length on.length wh.length gr.length od.length c1 c2 c3 c4 c5 c6 c7 c8 V (x4.to (by decide) (R:=fun _=>False) (T:=S) (ay.aI hV) (fun b hb _=>⟨id,hb⟩) (fun _ _ e=>e.to (R:=fun _=>False) (T:=S) (ay.aI hV) (fun b hb _=>⟨id,hb⟩))) (x5.new hV) (x6.new hV) (x7.new hV) (x8.new hV) ri ro rw' rg rd rj rl)
 have hrs:bP ⟨k,tn,cols,prim,rows,sets,items,jn,on,wh,gr,od,desc,lim⟩=(if k=1 then (aZ cols 1 8 jT&&bL prim)&&(bL tn&&pX 0 [] rows.length sets.length items.length jn on.length wh.length gr.length od.length desc lim)
   else if k=2 then true&&(bL tn&&pX cols.length prim rows.length sets.length items.length jn on.length wh.length gr.length od.length desc lim)
   else if k=3 then aZ rows 1 16 ru&&(bL tn&&pX cols.length prim 0 sets.length items.length jn on.length wh.length gr.length od.length desc lim)
   else if k=4 then (aZ sets 1 8 pW&&aZ wh 0 1 aP)&&(bL tn&&pX cols.length prim rows.length 0 items.length jn on.length 0 gr.length od.length desc lim)
   else if k=5 then aZ wh 0 1 aP&&(bL tn&&pX cols.length prim rows.length sets.length items.length jn on.length 0 gr.length od.length desc lim)
   else if k=6 then Ag ⟨k,tn,cols,prim,rows,sets,items,jn,on,wh,gr,od,desc,lim⟩&&(bL tn&&pX cols.length prim rows.length sets.length 0 [] 0 0 0 0 false (-1))
   else false):=by
  unfold bP mK xQ
  dsimp only
  by_cases k1:k=1
  ·simp only[if_pos k1];rw[o9 _ rfl rfl];rfl
  ·by_cases k2:k=2
   ·simp only[if_neg k1,if_pos k2,if_neg (show ¬k=3 by omega),if_neg (show ¬k=4 by omega),if_neg (show ¬k=5 by omega),if_neg (show ¬k=6 by omega)];rw[o9 _ rfl rfl]
   ·by_cases k3:k=3
    ·simp only[if_neg k1,if_neg k2,if_pos k3];rw[o9 _ rfl rfl];rfl
    ·by_cases k4:k=4
     ·simp only[if_neg k1,if_neg k2,if_neg k3,if_pos k4];rw[o9 _ rfl rfl];rfl
     ·by_cases k5:k=5
      ·simp only[if_neg k1,if_neg k2,if_neg k3,if_neg k4,if_pos k5];rw[o9 _ rfl rfl];rfl
      ·by_cases k6:k=6
       ·simp only[if_neg k1,if_neg k2,if_neg k3,if_neg k4,if_neg k5,if_pos k6];rw[o9 _ rfl rfl];rfl
       ·simp only[if_neg k1,if_neg k2,if_neg k3,if_neg k4,if_neg k5,if_neg k6,Bool.false_and]
 rw[hrs]
 clear hrs x1 x2 x3 x4 x5 x6 x7 x8 rt rp rj rl rc rr rs ri ro rw' rg rd
 have hsel:Ag ⟨k,tn,cols,prim,rows,sets,items,jn,on,wh,gr,od,desc,lim⟩=(aZ items 1 8 uQ&&(mV jn&&(aZ on (gJ jn) (gJ jn) aP&&(aZ wh 0 1 aP&&(aZ gr 0 1 fq&&(aZ od 0 1 fq&&((!desc||decide (od.length=1))&&decide (-1≤lim∧lim≤9223372036854775807)))))))):=rfl
 rw[hsel]
 clear hsel
 generalize (aZ items 1 8 uQ&&(mV jn&&(aZ on (gJ jn) (gJ jn) aP&&(aZ wh 0 1 aP&&(aZ gr 0 1 fq&&(aZ od 0 1 fq&&((!desc||decide (od.length=1))&&decide (-1≤lim∧lim≤9223372036854775807))))))))=BS at HSL ⊢
 generalize aZ cols 1 8 jT=BC at HCO ⊢
 generalize aZ rows 1 16 ru=BR at HRO ⊢
 generalize aZ sets 1 8 pW=BE at HSE ⊢
 generalize aZ wh 0 1 aP=BW at HWH ⊢
 generalize bL prim=BP at HNP ⊢
 generalize bL tn=BT at HNT ⊢
 generalize cols.length=n1 at *
 generalize rows.length=n2 at *
 generalize sets.length=n3 at *
 generalize items.length=n4 at *
 generalize on.length=n5 at *
 generalize wh.length=n6 at *
 generalize gr.length=n7 at *
 generalize od.length=n8 at *
 by_cases hk1:k=1
 ·rw[if_pos hk1]
  subst hk1
  exact Fe w tn prim jn desc lim a1 a2 a3 a4 a5 a6 a7 a8 n1 n2 n3 n4 n5 n6 n7 n8 c1 c2 c3 c4 c5 c6 c7 c8 BC BP BT HCO HNP HNT
 ·rw[if_neg hk1]
  by_cases hk2:k=2
  ·rw[if_pos hk2]
   subst hk2
   exact EK w tn prim jn desc lim a1 a2 a3 a4 a5 a6 a7 a8 n1 n2 n3 n4 n5 n6 n7 n8 c1 c2 c3 c4 c5 c6 c7 c8 BT HNT
  ·rw[if_neg hk2]
   by_cases hk3:k=3
   ·rw[if_pos hk3]
    subst hk3
    exact Fa w tn prim jn desc lim a1 a2 a3 a4 a5 a6 a7 a8 n1 n2 n3 n4 n5 n6 n7 n8 c1 c2 c3 c4 c5 c6 c7 c8 BR BT HRO HNT
   ·rw[if_neg hk3]
    by_cases hk4:k=4
    ·rw[if_pos hk4]
     subst hk4
     exact Ee w tn prim jn desc lim a1 a2 a3 a4 a5 a6 a7 a8 n1 n2 n3 n4 n5 n6 n7 n8 c1 c2 c3 c4 c5 c6 c7 c8 BE BW BT HSE HWH HNT
    ·rw[if_neg hk4]
     by_cases hk5:k=5
     ·rw[if_pos hk5]
      subst hk5
      exact Eo w tn prim jn desc lim a1 a2 a3 a4 a5 a6 a7 a8 n1 n2 n3 n4 n5 n6 n7 n8 c1 c2 c3 c4 c5 c6 c7 c8 BW BT HWH HNT
     ·rw[if_neg hk5]
      by_cases hk6:k=6
      ·rw[if_pos hk6]
       subst hk6
       exact EJ w tn prim jn desc lim a1 a2 a3 a4 a5 a6 a7 a8 n1 n2 n3 n4 n5 n6 n7 n8 c1 c2 c3 c4 c5 c6 c7 c8 BS BT HSL HNT
      ·rw[if_neg hk6]
       exact BM w k tn prim jn desc lim a1 a2 a3 a4 a5 a6 a7 a8 n1 n2 n3 n4 n5 n6 n7 n8 c1 c2 c3 c4 c5 c6 c7 c8 hk1 hk2 hk3 hk4 hk5 hk6
end Go.Proofs.YtaaggohjmhifbaaGreatDoor
namespace Go.Proofs.YtaaggohjmhifbaaGreatDoor
set_option linter.unusedSimpArgs false
set_option linter.unusedVariables false
set_option maxHeartbeats 8000000
def oK (s:St):List Ex:=s.sets.map (fun x=>x.e)++(s.items.flatMap (fun i=>i.xs)++(s.on++(s.wh++(s.gr++s.od))))
theorem ny {α:Type} (sep:Tk) (tk:α→List Tk) (B:Nat) (l:List α) (h : ∀x∈l,(tk x).length≤B):(aN sep (l.map tk)).length≤l.length*(B+1):=by
 have h2 : ∀l:List α,(∀x∈l,(tk x).length≤B)→((l.map tk).flatMap fun y=>sep::y).length≤l.length*(B+1):=fun l=>by
  induction l with
  | nil=>intro _;simp
  |
   cons x l ih =>
   intro h
   have h1:=h x (by simp)
   have h3:=ih (fun y hy=>h y (by simp[hy]))
   simp only[List.map_cons,List.flatMap_cons,List.length_append,List.length_cons,Nat.add_mul]
   omega
 cases l with
 | nil=>simp[aN]
 |
  cons x l =>
  have h1:=h x (by simp)
  have h3:=h2 l (fun y hy=>h y (by simp[hy]))
  simp only[List.map_cons,aN,List.length_append,List.length_cons,Nat.add_mul]
  omega
theorem Bu (e:Ex):(jV e).length≤8*rQ e:=by
 have:=(J5 (p8 e)).2
 unfold jV rQ
 omega
theorem Gd (e:Ex):iX e≤2*rQ e:=by
 have:=LM (p8 e)
 unfold iX rQ
 omega
theorem uG {l:List Nat} {n:Nat} (h : ∀x∈l,x≤n):bq l≤n:=by
 unfold bq
 induction l with
 | nil=>simp
 |
  cons x l ih =>
  have h1:=h x (by simp)
  have h2:=ih (fun y hy=>h y (by simp[hy]))
  simp only[List.foldr_cons]
  omega
theorem mX {xs:List Ex} {ws:List (List UInt8)} {Z:Nat} (hl:xs.length≤1) (h : ∀e∈xs,rQ e≤Z):(aT xs ws).length≤ws.length+8*Z:=by
 match xs,hl with
 | [],_=>simp[aT]
 |
  [x],_ =>
  have h1:=Bu x
  have h2:=h x (by simp)
  simp only[aT,ah,List.flatMap_cons,List.flatMap_nil,List.append_nil,List.length_append,List.length_map]
  omega
 | _::_::_,hl=>simp at hl
theorem dZ {α:Type} {xs:List α} {a b:Nat} {p:α→Bool} (h:aZ xs a b p=true):a≤xs.length∧xs.length≤b:=by
 unfold aZ at h
 simp only[Bool.and_eq_true,decide_eq_true_eq] at h
 exact h.1
theorem Iz (v:Vl):(iy v).length≤2:=(uO v).2
theorem Df (c:Co):(jQ c).length≤5:=by
 unfold jQ
 simp only[List.length_cons,List.length_append]
 split<;>split<;>simp[ah]
theorem FN {r:List Vl} (h:ru r=true):(jZ r).length≤26:=by
 have h1:=(dZ h).2
 have h2:=ny (aH [44]) iy 2 r (fun x _=>Iz x)
 unfold jZ
 simp only[List.length_cons,List.length_append,List.length_nil]
 omega
theorem Kq {i:It} {Z:Nat} (h:uQ i=true) (hz : ∀e∈i.xs,rQ e≤Z):(tK i).length≤8*Z+4:=by
 have hd:(jV (i.xs.headD Dr)).length≤8*Z∨(i.k=1∨i.k=3):=by
  unfold uQ at h
  by_cases h1:i.k=1∨i.k=3
  ·exact .inr h1
  ·rw[if_neg h1] at h
   split at h
   ·obtain⟨x,l,hx,_,_⟩:=gq h
    refine .inl ?_
    rw[hx]
    have h3:=Bu x
    have h4:=hz x (by rw[hx];simp)
    show (jV x).length≤_
    omega
   ·cases h
 unfold tK
 split
 ·simp
 ·rename_i h1
  split
  ·rename_i h2
   rcases hd with hd | hd
   ·omega
   ·omega
  ·split
   ·simp[ah]
   ·rename_i h3
    rcases hd with hd | hd
    ·simp only[ah,List.map_cons,List.map_nil,List.length_append,List.length_cons,List.length_nil]
     omega
    ·omega
theorem KE {s:St} {Z:Nat} (h:bP s=true) (hz : ∀e∈oK s,rQ e≤Z):(lY s).length≤100*Z+1000:=by
 unfold bP at h
 simp only[Bool.and_eq_true] at h
 have hk:=h.1
 clear h
 unfold mK at hk
 unfold oK at hz
 have z1 : ∀x∈s.sets,rQ x.e≤Z:=fun x hx=>hz _ (List.mem_append_left _ (List.mem_map.2 ⟨x,hx,rfl⟩))
 have z2 : ∀x∈s.items,∀e∈x.xs,rQ e≤Z:=fun x hx e he=>hz _ (List.mem_append_right _ (List.mem_append_left _ (List.mem_flatMap.2 ⟨x,hx,he⟩)))
 have z3 : ∀e∈s.on,rQ e≤Z:=fun e he=>hz _ (by simp[he])
 have z4 : ∀e∈s.wh,rQ e≤Z:=fun e he=>hz _ (by simp[he])
 have z5 : ∀e∈s.gr,rQ e≤Z:=fun e he=>hz _ (by simp[he])
 have z6 : ∀e∈s.od,rQ e≤Z:=fun e he=>hz _ (by simp[he])
 clear hz
 unfold lY
 split at hk
 ·rename_i h1
  rw[if_pos h1]
  rw[Bool.and_eq_true] at hk
  have h2:=(dZ hk.1).2
  have h3:=ny (aH [44]) jQ 5 s.cols (fun x _=>Df x)
  unfold KZ
  simp only[ah,List.map_cons,List.map_nil,List.length_append,List.length_cons,List.length_nil]
  omega
 ·rename_i h1
  rw[if_neg h1]
  split at hk
  ·rename_i h2
   rw[if_pos h2]
   simp only[ah,List.map_cons,List.map_nil,List.length_append,List.length_cons,List.length_nil]
   omega
  ·rename_i h2
   rw[if_neg h2]
   split at hk
   ·rename_i h3
    rw[if_pos h3]
    have h4:=(dZ hk).2
    have h5:=ny (aH [44]) jZ 26 s.rows (fun x hx=>FN (aX hk x hx))
    simp only[ah,List.map_cons,List.map_nil,List.length_append,List.length_cons,List.length_nil]
    omega
   ·rename_i h3
    rw[if_neg h3]
    split at hk
    ·rename_i h4
     rw[if_pos h4]
     rw[Bool.and_eq_true] at hk
     have h5:=(dZ hk.1).2
     have h6:=ny (aH [44]) lU (8*Z+2) s.sets (fun x hx=>by
      have a1:=Bu x.e
      have a2:=z1 x hx
      simp only[lU,List.length_cons]
      omega)
     have h7:=mX (ws:=[[87,72,69,82,69]]) (dZ hk.2).2 z4
     have h8:s.sets.length*(8*Z+2+1)≤8*(8*Z+2+1):=Nat.mul_le_mul_right _ h5
     simp only[List.length_append,List.length_cons,List.length_nil] at h7 ⊢
     omega
    ·rename_i h4
     rw[if_neg h4]
     split at hk
     ·rename_i h5
      rw[if_pos h5]
      have h7:=mX (ws:=[[87,72,69,82,69]]) (dZ hk).2 z4
      simp only[ah,List.map_cons,List.map_nil,List.length_append,List.length_cons,List.length_nil] at h7 ⊢
      omega
     ·rename_i h5
      rw[if_neg h5]
      split at hk
      ·unfold Ag at hk
       simp only[Bool.and_eq_true] at hk
       obtain⟨q1,q2,q3,q4,q5,q6,q7,q8⟩:=hk
       have j1:gJ s.jn≤1:=by unfold gJ;split<;>omega
       have l1:=mX (ws:=[[79,78]]) (Nat.le_trans (dZ q3).2 j1) z3
       have l2:=mX (ws:=[[87,72,69,82,69]]) (dZ q4).2 z4
       have l3:=mX (ws:=[[71,82,79,85,80],[66,89]]) (dZ q5).2 z5
       have l4:=mX (ws:=[[79,82,68,69,82],[66,89]]) (dZ q6).2 z6
       have h5:=(dZ q1).2
       have h6:=ny (aH [44]) tK (8*Z+4) s.items (fun x hx=>Kq (aX q1 x hx) (z2 x hx))
       have h8:s.items.length*(8*Z+4+1)≤8*(8*Z+4+1):=Nat.mul_le_mul_right _ h5
       have m1:(if s.jn=[] then [] else [aH [74,79,73,78],aR s.jn]).length≤2:=by split<;>simp
       have m2:(if s.desc=true then [aH [68,69,83,67]] else []).length≤1:=by split<;>simp
       have m3:(if s.lim = -1 then [] else [aH [76,73,77,73,84],nP s.lim]).length≤2:=by split<;>simp
       unfold IY
       simp only[List.length_append,List.length_cons,List.length_nil] at l1 l2 l3 l4 ⊢
       omega
      ·cases hk
theorem FY {s:St} {Z:Nat} (hz : ∀e∈oK s,rQ e≤Z):wH s≤2*Z:=by
 unfold oK at hz
 have z1 : ∀x∈s.sets,rQ x.e≤Z:=fun x hx=>hz _ (List.mem_append_left _ (List.mem_map.2 ⟨x,hx,rfl⟩))
 have z2 : ∀x∈s.items,∀e∈x.xs,rQ e≤Z:=fun x hx e he=>hz _ (List.mem_append_right _ (List.mem_append_left _ (List.mem_flatMap.2 ⟨x,hx,he⟩)))
 have up : ∀l:List Ex,(∀e∈l,rQ e≤Z)→dH l≤2*Z:=fun l h=>uG (fun n hn=>by
  obtain⟨e,he,rfl⟩:=List.mem_map.1 hn
  have a1:=Gd e
  have a2:=h e he
  omega)
 have u1:bq (s.sets.map fun x=>iX x.e)≤2*Z:=uG (fun n hn=>by
  obtain⟨x,hx,rfl⟩:=List.mem_map.1 hn
  have a1:=Gd x.e
  have a2:=z1 x hx
  omega)
 have u2:bq (s.items.map zT)≤2*Z:=uG (fun n hn=>by
  obtain⟨x,hx,rfl⟩:=List.mem_map.1 hn
  exact up _ (z2 x hx))
 have u3:=up s.on (fun e he=>hz _ (by simp[he]))
 have u4:=up s.wh (fun e he=>hz _ (by simp[he]))
 have u5:=up s.gr (fun e he=>hz _ (by simp[he]))
 have u6:=up s.od (fun e he=>hz _ (by simp[he]))
 unfold wH
 split
 ·omega
 ·split
  ·omega
  ·split
   ·omega
   ·omega
end Go.Proofs.YtaaggohjmhifbaaGreatDoor
namespace Go.Proofs.YtaaggohjmhifbaaGreatDoor
open Go.RowKit Go.Shelf
set_option linter.unusedSimpArgs false
set_option linter.unusedVariables false
set_option maxRecDepth 20000
set_option maxHeartbeats 8000000
def kJ (l:List St):List UInt8 × Int:=if 8<l.length then ([],2) else if aZ l 1 8 bP=true then vJ (aN (aH [59]) (l.map lY)) ((bq (l.map wH):Nat):Int) else ([],4)
theorem nN (S:Nat→Prop) (l:List St) (v:Value) (w:World) (hT:lV w) (hR : ∀s∈l,Gp s) (hv:bT 14 mO S w l v) (hz:l.length≤8→∀s∈l,bP s=true→∀e∈oK s,rQ e≤5000) :
  Calls Tryz.prog 34 #[v] w fun e w'=>e = .returned (.tuple #[.string (aj (kJ l).1),.int .i64 (kJ l).2])∧Below w.heap.size w w':=by
 have HV:=hid hv
 obtain⟨aa,cc,css,rfl,h1,h2,_⟩:=hv
 unfold maxLen at h2
 unfold kJ
 by_cases h8:8<l.length
 ·rw[if_pos h8]
  have h8':(8:Int)<(l.length:Int):=by omega
  clear hz hR HV hT
  go_enter Tryz.func34,Tryz.ntmps34
  go_wp2
  exact bodyPost_ret (v:=.tuple #[.string ⟨#[]⟩,.int .i64 2]) (by simp[results,Tryz.results34,go_sem]) rfl ⟨rfl,Below.refl _ _⟩
 ·rw[if_neg h8]
  have h8' : ¬(8:Int)<(l.length:Int):=by omega
  have HA:=hid (ES S 59 (enters_of Tryz.func59 (by kernel_rfl) rfl) bP l _ 1 8 w (by decide) (by decide) HV.out (hid (fun x hx V hb cs hcs=>qE S x cs V (hR x hx) hcs)))
  have HTW:=hid hT
  clear hR hT
  cases ha:aZ l 1 8 bP with
  |
   false =>
   rw[ha] at HA
   rw[if_neg Bool.false_ne_true]
   clear ha hz HV HTW
   go_enter Tryz.func34,Tryz.ntmps34
   go_wp2_with fail
   refine HA.out.mono ?_
   rintro e w1 ⟨rfl,hb1⟩
   have HB1:=hid hb1
   clear hb1 HA
   go_wp2
   exact bodyPost_ret (v:=.tuple #[.string ⟨#[]⟩,.int .i64 4]) (by simp[results,Tryz.results34,go_sem]) rfl ⟨rfl,HB1.out⟩
  |
   true =>
   rw[ha] at HA
   rw[if_pos rfl]
   have hall:=aX ha
   have hln:=(dZ ha).2
   have hz2 : ∀s∈l,∀e∈oK s,rQ e≤5000:=fun s hs=>hz hln s hs (hall s hs)
   have htl:=ny (aH [59]) lY 501000 l (fun s hs=>KE (hall s hs) (hz2 s hs))
   have hdl:bq (l.map wH)≤10000:=uG (fun n hn=>by
    obtain⟨s,hs,rfl⟩:=List.mem_map.1 hn
    exact FY (hz2 s hs))
   have htl2:(aN (aH [59]) (l.map lY)).length≤4008008:=Nat.le_trans htl (Nat.mul_le_mul_right _ hln)
   have HDP:Hid (∀s∈l,wH s≤10000):=hid (fun s hs=>FY (hz2 s hs))
   have HOK:Hid (∀t∈aN (aH [59]) (l.map lY),Lx t):=hid (fun t ht=>(bJ.sep (bW (by decide)) (fun x hx=>by
    obtain⟨s,hs,rfl⟩:=List.mem_map.1 hx
    exact vL (hall s hs)) t ht).ok)
   have HAL:=hid hall
   have HSW:Hid (∀(V:World) (g:Nat),cB V g none [] 0 0→bT 14 mO (fun b=>b<g) V l (.slice aa l.length cc)→Calls Tryz.prog 60 #[.pointer (some ⟨g,0,none⟩),.string ⟨#[59]⟩,.slice aa l.length cc,.func (.func 61) #[.pointer (some ⟨g,0,none⟩)] #[]] V fun e w'=>e = .returned (.tuple #[])∧Wrote g none V w' ([]++aN (aH [59]) (l.map lY)) 0 (max 0 (0+((bq (l.map wH):Nat):Int)))):=hid (fun V g hV hS=>Gb 61 (enters_of Tryz.func61 (by kernel_rfl) rfl) lY wH [59] (by decide) l _ g none [] 0 0 V hV hS (by decide) (by decide) (fun x hx=>by have:=HDP.out x hx;omega) (by show 0+_≤_;omega) (hid (fun x hxm U tb2 L2 m2 hU cs hcs hl2 h3 h4=>Az x (HAL.out x hxm) cs g tb2 L2 0 m2 U hU hcs hl2 (by decide) h3 h4 (by have:=HDP.out x hxm;omega))))
   obtain⟨R,hR⟩:∃R,vJ (aN (aH [59]) (l.map lY)) ((bq (l.map wH):Nat):Int)=R:=⟨_,rfl⟩
   rw[hR]
   have HRR:=hid hR
   clear hR ha hall hz hz2 htl HAL HDP
   generalize aN (aH [59]) (l.map lY)=T at HSW HOK HRR htl2
   generalize bq (l.map wH)=D at HSW HRR hdl
   go_enter Tryz.func34,Tryz.ntmps34
   go_wp2_with fail
   refine HA.out.mono ?_
   rintro e w1 ⟨rfl,hb1⟩
   obtain⟨V,hV,hbV,hzV,hwV⟩:=J9 w1 (HTW.out.on hb1)
   have hB1:=hb1.trans (hbV.mono hb1.size)
   have hle1:w.heap.size≤w1.heap.size:=hb1.size
   have hsV:bT 14 mO (fun b=>b<w1.heap.size) V l (.slice aa l.length cc):=by
    have hk:=ay.aI (S:=fun _=>False) hb1
    have hk2:=ay.aI (S:=fun _=>False) hbV
    have a1:bT 14 mO (fun b=>b<w1.heap.size) w1 l (.slice aa l.length cc):=HV.out.to (by decide) hk (fun b _ hb=>⟨id,Nat.lt_of_lt_of_le hb hb1.size⟩) (fun _ _ e=>e.to hk (fun b _ hb=>⟨id,Nat.lt_of_lt_of_le hb hb1.size⟩))
    exact a1.to (by decide) hk2 (fun b hb _=>⟨id,hb⟩) (fun _ _ e=>e.to hk2 (fun b hb _=>⟨id,hb⟩))
   have HL:=hid (HSW.out V w1.heap.size hwV hsV)
   have HBV:=hid hB1
   clear hb1 hB1 HA hbV hwV hsV HSW
   go_wp2_with fail
   try rw[hV]
   refine HL.out.mono ?_
   rintro e w2 ⟨rfl,tb2,hw2,ht2,hf2⟩
   rw[List.nil_append] at hw2
   have e1:max (0:Int) (0+(D:Int))=(D:Int):=by omega
   rw[e1] at hw2
   have HS:=hid (Ij _ _ _ _ _ w2 hw2 HOK.out (by omega))
   have HB2:Hid (Below w.heap.size w w2):=hid (HBV.out.trans (hf2.below (fun i hi=>by
    rcases hi with rfl | e
    ·omega
    ·cases e) (by omega)))
   clear hw2 ht2 hf2 HL e1
   rw[HRR.out] at HS
   go_wp2_with fail
   refine HS.out.mono ?_
   rintro e w3 ⟨rfl,hb3⟩
   have HB3:=hid (HB2.out.trans (hb3.mono HB2.out.size))
   clear hb3 HS
   go_wp2
   exact bodyPost_ret (v:=.tuple #[.string (aj R.1),.int .i64 R.2]) (by simp[results,Tryz.results34,go_sem]) rfl ⟨rfl,HB3.out⟩
end Go.Proofs.YtaaggohjmhifbaaGreatDoor
namespace Go.Proofs.YtaaggohjmhifbaaGreatDoor
set_option linter.unusedSimpArgs false
set_option linter.unusedVariables false
set_option maxHeartbeats 8000000
theorem fP {s:List UInt8} (h:bL s=true):s.length≤16:=by
 unfold bL at h
 simp only[Bool.and_eq_true,decide_eq_true_eq] at h
 exact h.2.1
theorem Ao {v:Vl} (h:gG v=true):K3 v:=by
 rcases nW h with⟨_,h2,h3⟩ | ⟨_,h2,h3⟩ | ⟨_,h2,h3,h4⟩
 ·refine ⟨by omega,by omega,by omega⟩
 ·refine ⟨by omega,by omega,by rw[h3];simp⟩
 ·refine ⟨by omega,by omega,by rw[h2];simp⟩
theorem Lb (t:Tm) (h:t.ok):rT t.ex:=by
 have z:K3 zV:=⟨by decide,by decide,by decide⟩
 have one : ∀(k op:Int) (l:List Ex),(∀x∈l,rT x)→rT (.mk k op [] [] zV l):=fun k op l hl=>.mk k op _ _ _ _ z.1 z.2.1 z.2.2 (by simp) (by simp) hl
 induction t with
 |
  val v =>
  have hv:=Ao (v:=v) h
  exact .mk 1 0 _ _ _ _ hv.1 hv.2.1 hv.2.2 (by simp) (by simp) (by simp)
 |
  col t n =>
  have hn:=fP h.1
  have ht:t.length≤16:=by
   rcases h.2 with e | e
   ·rw[e];simp
   ·exact fP e
  exact .mk 2 0 _ _ _ _ z.1 z.2.1 z.2.2 (by omega) (by omega) (by simp)
 |
  op o a b ha hb =>
  refine one 3 o _ (fun x hx=>?_)
  rcases List.mem_cons.1 hx with rfl | hx
  ·exact ha h.2.2.1
  ·rw[List.mem_singleton.1 hx];exact hb h.2.2.2
 | not a ha=>exact one 4 0 _ (fun x hx=>by rw[List.mem_singleton.1 hx];exact ha h.2)
 | neg a ha=>exact one 5 0 _ (fun x hx=>by rw[List.mem_singleton.1 hx];exact ha h)
 | nul a ha=>exact one 6 0 _ (fun x hx=>by rw[List.mem_singleton.1 hx];exact ha h)
 | nnul a ha=>exact one 4 0 _ (fun x hx=>by rw[List.mem_singleton.1 hx];exact one 6 0 _ (fun x hx=>by rw[List.mem_singleton.1 hx];exact ha h))
theorem lT {x:Ex} (h:aP x=true):rT x:=by
 obtain⟨h1,h2⟩:=lS h
 rw[← h2]
 exact Lb _ h1
theorem Dx {x:Ex} (h:fq x=true):rT x:=lT (qJ h)
theorem xJ {s:St} (h:bP s=true):Gp s:=by
 have hk0:=Ap h
 unfold bP at h
 simp only[Bool.and_eq_true] at h
 obtain⟨hk,hn,he⟩:=h
 have hz:=xI he
 have htb:s.tb.length≤9223372036854775807:=by have:=fP hn;omega
 clear he hn
 obtain⟨k,tb,cols,prim,rows,sets,items,jn,on,wh,gr,od,desc,lim⟩:=s
 unfold mK at hk
 unfold xQ gQ at hz
 dsimp only at hk hz hk0 htb
 rcases hk0 with rfl | rfl | rfl | rfl | rfl | rfl
 ·rw[if_pos rfl] at hk hz
  simp only[St.mk.injEq,true_and,and_true] at hz
  obtain⟨rfl,rfl,rfl,rfl,rfl,rfl,rfl,rfl,rfl,rfl⟩:=hz
  rw[Bool.and_eq_true] at hk
  refine ⟨htb,by have:=fP hk.2;show prim.length≤_;omega,by simp,by simp,fun c hc=>?_,by simp,by simp,by simp,by simp,by simp,by simp,by simp⟩
  have:=aX hk.1 c hc
  unfold jT at this
  simp only[Bool.and_eq_true] at this
  have:=fP this.1
  omega
 ·rw[if_neg (by decide),if_neg (by decide),if_neg (by decide),if_neg (by decide),if_neg (by decide)] at hz
  simp only[St.mk.injEq,true_and,and_true] at hz
  obtain⟨rfl,rfl,rfl,rfl,rfl,rfl,rfl,rfl,rfl,rfl,rfl,rfl⟩:=hz
  exact⟨htb,by simp,by simp,by simp,by simp,by simp,by simp,by simp,by simp,by simp,by simp,by simp⟩
 ·rw[if_neg (by decide),if_neg (by decide),if_pos rfl] at hk
  rw[if_neg (by decide),if_pos rfl] at hz
  simp only[St.mk.injEq,true_and,and_true] at hz
  obtain⟨rfl,rfl,rfl,rfl,rfl,rfl,rfl,rfl,rfl,rfl,rfl⟩:=hz
  exact⟨htb,by simp,by simp,by simp,by simp,fun r hr v hv=>Ao (aX (aX hk r hr) v hv),by simp,by simp,by simp,by simp,by simp,by simp⟩
 ·rw[if_neg (by decide),if_neg (by decide),if_neg (by decide),if_pos rfl,Bool.and_eq_true] at hk
  rw[if_neg (by decide),if_neg (by decide),if_pos rfl] at hz
  simp only[St.mk.injEq,true_and,and_true] at hz
  obtain⟨rfl,rfl,rfl,rfl,rfl,rfl,rfl,rfl,rfl,rfl⟩:=hz
  refine ⟨htb,by simp,by simp,by simp,by simp,by simp,fun x hx=>?_,by simp,by simp,fun x hx=>lT (aX hk.2 x hx),by simp,by simp⟩
  have:=aX hk.1 x hx
  unfold pW at this
  simp only[Bool.and_eq_true] at this
  have h1:=fP this.1
  exact⟨by omega,lT this.2⟩
 ·rw[if_neg (by decide),if_neg (by decide),if_neg (by decide),if_neg (by decide),if_pos rfl] at hk
  rw[if_neg (by decide),if_neg (by decide),if_neg (by decide),if_pos rfl] at hz
  simp only[St.mk.injEq,true_and,and_true] at hz
  obtain⟨rfl,rfl,rfl,rfl,rfl,rfl,rfl,rfl,rfl,rfl,rfl⟩:=hz
  exact⟨htb,by simp,by simp,by simp,by simp,by simp,by simp,by simp,by simp,fun x hx=>lT (aX hk x hx),by simp,by simp⟩
 ·rw[if_neg (by decide),if_neg (by decide),if_neg (by decide),if_neg (by decide),if_neg (by decide),if_pos rfl] at hk
  rw[if_neg (by decide),if_neg (by decide),if_neg (by decide),if_neg (by decide),if_pos rfl] at hz
  simp only[St.mk.injEq,true_and,and_true] at hz
  obtain⟨rfl,rfl,rfl,rfl⟩:=hz
  unfold Ag at hk
  simp only[Bool.and_eq_true,decide_eq_true_eq] at hk
  obtain⟨q1,q2,q3,q4,q5,q6,q7,q8⟩:=hk
  refine ⟨htb,by simp,?_,q8.2,by simp,by simp,by simp,fun i hi x hx=>?_,fun x hx=>lT (aX q3 x hx),fun x hx=>lT (aX q4 x hx),fun x hx=>Dx (aX q5 x hx),fun x hx=>Dx (aX q6 x hx)⟩
  ·unfold mV at q2
   dsimp only at q2 ⊢
   rw[Bool.or_eq_true,decide_eq_true_eq] at q2
   rcases q2 with e | e
   ·rw[e];simp
   ·have:=fP e;omega
  ·have hb:=aX q1 i hi
   unfold uQ at hb
   split at hb
   ·have:i.xs=[]:=List.eq_nil_of_length_eq_zero (by simpa using hb)
    rw[this] at hx;cases hx
   ·split at hb
    ·exact lT (aX hb x hx)
    ·cases hb
end Go.Proofs.YtaaggohjmhifbaaGreatDoor
