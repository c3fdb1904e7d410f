/- Packed for the hand-in: WSize WTopS WRgA -/
import Derived.Test.YtaaggohjmhifbaaGreatDoorY22
import Derived.Test.YtaaggohjmhifbaaGreatDoorY23
import Derived.Test.YtaaggohjmhifbaaGreatDoorY25
import Derived.Test.YtaaggohjmhifbaaGreatDoorY26
namespace Go.Proofs.YtaaggohjmhifbaaGreatDoor
set_option linter.unusedSimpArgs false
set_option linter.unusedVariables false
set_option maxHeartbeats 8000000
def nM (s:St):List Ex:=s.sets.map (fun x=>x.e)++(s.items.flatMap (fun i=>i.xs)++(s.on++(s.wh++(s.gr++s.od))))
theorem mV {α:Type} (sep:Tk) (tk:α→List Tk) (B:Nat) (l:List α) (h : ∀x∈l,(tk x).length≤B):(bL sep (l.map tk)).length≤l.length*(B+1):=by
 have h2 : ∀l:List α,(∀x∈l,(tk x).length≤B)→((l.map tk).flatMap fun y=>sep::y).length≤l.length*(B+1):=fun l=>by
  induction l with
  | nil=>intro _;simp
  |
   cons x l ih =>
   intro h
   have h1:=h x (by simp)
   have h3:=ih (fun y hy=>h y (by simp[hy]))
   simp only[List.map_cons,List.flatMap_cons,List.length_append,List.length_cons,Nat.add_mul]
   omega
 cases l with
 | nil=>simp[bL]
 |
  cons x l =>
  have h1:=h x (by simp)
  have h3:=h2 l (fun y hy=>h y (by simp[hy]))
  simp only[List.map_cons,bL,List.length_append,List.length_cons,Nat.add_mul]
  omega
theorem Bw (e:Ex):(qg e).length≤8*qR e:=by
 have:=(Jz (pF e)).2
 unfold qg qR
 omega
theorem E8 (e:Ex):G6 e≤2*qR e:=by
 have:=K4 (pF e)
 unfold G6 qR
 omega
theorem tQ {l:List Nat} {n:Nat} (h : ∀x∈l,x≤n):dJ l≤n:=by
 unfold dJ
 induction l with
 | nil=>simp
 |
  cons x l ih =>
  have h1:=h x (by simp)
  have h2:=ih (fun y hy=>h y (by simp[hy]))
  simp only[List.foldr_cons]
  omega
theorem mD {xs:List Ex} {ws:List (List UInt8)} {Z:Nat} (hl:xs.length≤1) (h : ∀e∈xs,qR e≤Z):(bX xs ws).length≤ws.length+8*Z:=by
 match xs,hl with
 | [],_=>simp[bX]
 |
  [x],_ =>
  have h1:=Bw x
  have h2:=h x (by simp)
  simp only[bX,au,List.flatMap_cons,List.flatMap_nil,List.append_nil,List.length_append,List.length_map]
  omega
 | _::_::_,hl=>simp at hl
theorem dO {α:Type} {xs:List α} {a b:Nat} {p:α→Bool} (h:aX xs a b p=true):a≤xs.length∧xs.length≤b:=by
 unfold aX at h
 simp only[Bool.and_eq_true,decide_eq_true_eq] at h
 exact h.1
theorem Hw (v:Vl):(jS v).length≤2:=(yT v).2
theorem CF (c:Co):(jD c).length≤5:=by
 unfold jD
 simp only[List.length_cons,List.length_append]
 split<;>split<;>simp[au]
theorem FZ {r:List Vl} (h:nG r=true):(qD r).length≤26:=by
 have h1:=(dO h).2
 have h2:=mV (aJ [44]) jS 2 r (fun x _=>Hw x)
 unfold qD
 simp only[List.length_cons,List.length_append,List.length_nil]
 omega
theorem JX {i:It} {Z:Nat} (h:rJ i=true) (hz : ∀e∈i.xs,qR e≤Z):(z8 i).length≤8*Z+4:=by
 have hd:(qg (i.xs.headD Ef)).length≤8*Z∨(i.k=1∨i.k=3):=by
  unfold rJ at h
  by_cases h1:i.k=1∨i.k=3
  ·exact .inr h1
  ·rw[if_neg h1] at h
   split at h
   ·obtain⟨x,l,hx,_,_⟩:=gG h
    refine .inl ?_
    rw[hx]
    have h3:=Bw x
    have h4:=hz x (by rw[hx];simp)
    show (qg x).length≤_
    omega
   ·cases h
 unfold z8
 split
 ·simp
 ·rename_i h1
  split
  ·rename_i h2
   rcases hd with hd | hd
   ·omega
   ·omega
  ·split
   ·simp[au]
   ·rename_i h3
    rcases hd with hd | hd
    ·simp only[au,List.map_cons,List.map_nil,List.length_append,List.length_cons,List.length_nil]
     omega
    ·omega
theorem JD {s:St} {Z:Nat} (h:aM s=true) (hz : ∀e∈nM s,qR e≤Z):(kW s).length≤100*Z+1000:=by
 unfold aM at h
 simp only[Bool.and_eq_true] at h
 have hk:=h.1
 clear h
 unfold lu at hk
 unfold nM at hz
 have z1 : ∀x∈s.sets,qR x.e≤Z:=fun x hx=>hz _ (List.mem_append_left _ (List.mem_map.2 ⟨x,hx,rfl⟩))
 have z2 : ∀x∈s.items,∀e∈x.xs,qR e≤Z:=fun x hx e he=>hz _ (List.mem_append_right _ (List.mem_append_left _ (List.mem_flatMap.2 ⟨x,hx,he⟩)))
 have z3 : ∀e∈s.on,qR e≤Z:=fun e he=>hz _ (by simp[he])
 have z4 : ∀e∈s.wh,qR e≤Z:=fun e he=>hz _ (by simp[he])
 have z5 : ∀e∈s.gr,qR e≤Z:=fun e he=>hz _ (by simp[he])
 have z6 : ∀e∈s.od,qR e≤Z:=fun e he=>hz _ (by simp[he])
 clear hz
 unfold kW
 split at hk
 ·rename_i h1
  rw[if_pos h1]
  rw[Bool.and_eq_true] at hk
  have h2:=(dO hk.1).2
  have h3:=mV (aJ [44]) jD 5 s.cols (fun x _=>CF x)
  unfold KF
  simp only[au,List.map_cons,List.map_nil,List.length_append,List.length_cons,List.length_nil]
  omega
 ·rename_i h1
  rw[if_neg h1]
  split at hk
  ·rename_i h2
   rw[if_pos h2]
   simp only[au,List.map_cons,List.map_nil,List.length_append,List.length_cons,List.length_nil]
   omega
  ·rename_i h2
   rw[if_neg h2]
   split at hk
   ·rename_i h3
    rw[if_pos h3]
    have h4:=(dO hk).2
    have h5:=mV (aJ [44]) qD 26 s.rows (fun x hx=>FZ (bC hk x hx))
    simp only[au,List.map_cons,List.map_nil,List.length_append,List.length_cons,List.length_nil]
    omega
   ·rename_i h3
    rw[if_neg h3]
    split at hk
    ·rename_i h4
     rw[if_pos h4]
     rw[Bool.and_eq_true] at hk
     have h5:=(dO hk.1).2
     have h6:=mV (aJ [44]) qA (8*Z+2) s.sets (fun x hx=>by
      have a1:=Bw x.e
      have a2:=z1 x hx
      simp only[qA,List.length_cons]
      omega)
     have h7:=mD (ws:=[[87,72,69,82,69]]) (dO hk.2).2 z4
     have h8:s.sets.length*(8*Z+2+1)≤8*(8*Z+2+1):=Nat.mul_le_mul_right _ h5
     simp only[List.length_append,List.length_cons,List.length_nil] at h7 ⊢
     omega
    ·rename_i h4
     rw[if_neg h4]
     split at hk
     ·rename_i h5
      rw[if_pos h5]
      have h7:=mD (ws:=[[87,72,69,82,69]]) (dO hk).2 z4
      simp only[au,List.map_cons,List.map_nil,List.length_append,List.length_cons,List.length_nil] at h7 ⊢
      omega
     ·rename_i h5
      rw[if_neg h5]
      split at hk
      ·unfold Af at hk
       simp only[Bool.and_eq_true] at hk
       obtain⟨q1,q2,q3,q4,q5,q6,q7,q8⟩:=hk
       have j1:kF s.jn≤1:=by unfold kF;split<;>omega
       have l1:=mD (ws:=[[79,78]]) (Nat.le_trans (dO q3).2 j1) z3
       have l2:=mD (ws:=[[87,72,69,82,69]]) (dO q4).2 z4
       have l3:=mD (ws:=[[71,82,79,85,80],[66,89]]) (dO q5).2 z5
       have l4:=mD (ws:=[[79,82,68,69,82],[66,89]]) (dO q6).2 z6
       have h5:=(dO q1).2
       have h6:=mV (aJ [44]) z8 (8*Z+4) s.items (fun x hx=>JX (bC q1 x hx) (z2 x hx))
       have h8:s.items.length*(8*Z+4+1)≤8*(8*Z+4+1):=Nat.mul_le_mul_right _ h5
       have m1:(if s.jn=[] then [] else [aJ [74,79,73,78],cB s.jn]).length≤2:=by split<;>simp
       have m2:(if s.desc=true then [aJ [68,69,83,67]] else []).length≤1:=by split<;>simp
       have m3:(if s.lim = -1 then [] else [aJ [76,73,77,73,84],BZ s.lim]).length≤2:=by split<;>simp
       unfold Km
       simp only[List.length_append,List.length_cons,List.length_nil] at l1 l2 l3 l4 ⊢
       omega
      ·cases hk
theorem Gr {s:St} {Z:Nat} (hz : ∀e∈nM s,qR e≤Z):vJ s≤2*Z:=by
 unfold nM at hz
 have z1 : ∀x∈s.sets,qR x.e≤Z:=fun x hx=>hz _ (List.mem_append_left _ (List.mem_map.2 ⟨x,hx,rfl⟩))
 have z2 : ∀x∈s.items,∀e∈x.xs,qR e≤Z:=fun x hx e he=>hz _ (List.mem_append_right _ (List.mem_append_left _ (List.mem_flatMap.2 ⟨x,hx,he⟩)))
 have up : ∀l:List Ex,(∀e∈l,qR e≤Z)→mY l≤2*Z:=fun l h=>tQ (fun n hn=>by
  obtain⟨e,he,rfl⟩:=List.mem_map.1 hn
  have a1:=E8 e
  have a2:=h e he
  omega)
 have u1:dJ (s.sets.map fun x=>G6 x.e)≤2*Z:=tQ (fun n hn=>by
  obtain⟨x,hx,rfl⟩:=List.mem_map.1 hn
  have a1:=E8 x.e
  have a2:=z1 x hx
  omega)
 have u2:dJ (s.items.map KA)≤2*Z:=tQ (fun n hn=>by
  obtain⟨x,hx,rfl⟩:=List.mem_map.1 hn
  exact up _ (z2 x hx))
 have u3:=up s.on (fun e he=>hz _ (by simp[he]))
 have u4:=up s.wh (fun e he=>hz _ (by simp[he]))
 have u5:=up s.gr (fun e he=>hz _ (by simp[he]))
 have u6:=up s.od (fun e he=>hz _ (by simp[he]))
 unfold vJ
 split
 ·omega
 ·split
  ·omega
  ·split
   ·omega
   ·omega
end Go.Proofs.YtaaggohjmhifbaaGreatDoor
namespace Go.Proofs.YtaaggohjmhifbaaGreatDoor
open Go.RowKit Go.Shelf
set_option linter.unusedSimpArgs false
set_option linter.unusedVariables false
set_option maxRecDepth 20000
set_option maxHeartbeats 8000000
def jN (l:List St):List UInt8 × Int:=if 8<l.length then ([],2) else if aX l 1 8 aM=true then vo (bL (aJ [59]) (l.map kW)) ((dJ (l.map vJ):Nat):Int) else ([],4)
end Go.Proofs.YtaaggohjmhifbaaGreatDoor
namespace Go.Proofs.YtaaggohjmhifbaaGreatDoor
set_option linter.unusedSimpArgs false
set_option linter.unusedVariables false
set_option maxHeartbeats 8000000
theorem fE {s:List UInt8} (h:aQ s=true):s.length≤16:=by
 unfold aQ at h
 simp only[Bool.and_eq_true,decide_eq_true_eq] at h
 exact h.2.1
theorem zH {v:Vl} (h:dL v=true):KD v:=by
 rcases qI h with⟨_,h2,h3⟩ | ⟨_,h2,h3⟩ | ⟨_,h2,h3,h4⟩
 ·refine ⟨by omega,by omega,by omega⟩
 ·refine ⟨by omega,by omega,by rw[h3];simp⟩
 ·refine ⟨by omega,by omega,by rw[h2];simp⟩
theorem KL (t:Tm) (h:t.ok):tH t.ex:=by
 have z:KD zV:=⟨by decide,by decide,by decide⟩
 have one : ∀(k op:Int) (l:List Ex),(∀x∈l,tH x)→tH (.mk k op [] [] zV l):=fun k op l hl=>.mk k op _ _ _ _ z.1 z.2.1 z.2.2 (by simp) (by simp) hl
 induction t with
 |
  val v =>
  have hv:=zH (v:=v) h
  exact .mk 1 0 _ _ _ _ hv.1 hv.2.1 hv.2.2 (by simp) (by simp) (by simp)
 |
  col t n =>
  have hn:=fE h.1
  have ht:t.length≤16:=by
   rcases h.2 with e | e
   ·rw[e];simp
   ·exact fE e
  exact .mk 2 0 _ _ _ _ z.1 z.2.1 z.2.2 (by omega) (by omega) (by simp)
 |
  op o a b ha hb =>
  refine one 3 o _ (fun x hx=>?_)
  rcases List.mem_cons.1 hx with rfl | hx
  ·exact ha h.2.2.1
  ·rw[List.mem_singleton.1 hx];exact hb h.2.2.2
 | not a ha=>exact one 4 0 _ (fun x hx=>by rw[List.mem_singleton.1 hx];exact ha h.2)
 | neg a ha=>exact one 5 0 _ (fun x hx=>by rw[List.mem_singleton.1 hx];exact ha h)
 | nul a ha=>exact one 6 0 _ (fun x hx=>by rw[List.mem_singleton.1 hx];exact ha h)
 | nnul a ha=>exact one 4 0 _ (fun x hx=>by rw[List.mem_singleton.1 hx];exact one 6 0 _ (fun x hx=>by rw[List.mem_singleton.1 hx];exact ha h))
theorem ko {x:Ex} (h:aK x=true):tH x:=by
 obtain⟨h1,h2⟩:=lX h
 rw[← h2]
 exact KL _ h1
theorem Cz {x:Ex} (h:fJ x=true):tH x:=ko (pG h)
theorem vX {s:St} (h:aM s=true):yc s:=by
 have hk0:=FN h
 unfold aM at h
 simp only[Bool.and_eq_true] at h
 obtain⟨hk,hn,he⟩:=h
 have hz:=vM he
 have htb:s.tb.length≤9223372036854775807:=by have:=fE hn;omega
 clear he hn
 obtain⟨k,tb,cols,prim,rows,sets,items,jn,on,wh,gr,od,desc,lim⟩:=s
 unfold lu at hk
 unfold vY gZ at hz
 dsimp only at hk hz hk0 htb
 rcases hk0 with rfl | rfl | rfl | rfl | rfl | rfl
 ·rw[if_pos rfl] at hk hz
  simp only[St.mk.injEq,true_and,and_true] at hz
  obtain⟨rfl,rfl,rfl,rfl,rfl,rfl,rfl,rfl,rfl,rfl⟩:=hz
  rw[Bool.and_eq_true] at hk
  refine ⟨htb,by have:=fE hk.2;show prim.length≤_;omega,by simp,by simp,fun c hc=>?_,by simp,by simp,by simp,by simp,by simp,by simp,by simp⟩
  have:=bC hk.1 c hc
  unfold gB at this
  simp only[Bool.and_eq_true] at this
  have:=fE this.1
  omega
 ·rw[if_neg (by decide),if_neg (by decide),if_neg (by decide),if_neg (by decide),if_neg (by decide)] at hz
  simp only[St.mk.injEq,true_and,and_true] at hz
  obtain⟨rfl,rfl,rfl,rfl,rfl,rfl,rfl,rfl,rfl,rfl,rfl,rfl⟩:=hz
  exact⟨htb,by simp,by simp,by simp,by simp,by simp,by simp,by simp,by simp,by simp,by simp,by simp⟩
 ·rw[if_neg (by decide),if_neg (by decide),if_pos rfl] at hk
  rw[if_neg (by decide),if_pos rfl] at hz
  simp only[St.mk.injEq,true_and,and_true] at hz
  obtain⟨rfl,rfl,rfl,rfl,rfl,rfl,rfl,rfl,rfl,rfl,rfl⟩:=hz
  exact⟨htb,by simp,by simp,by simp,by simp,fun r hr v hv=>zH (bC (bC hk r hr) v hv),by simp,by simp,by simp,by simp,by simp,by simp⟩
 ·rw[if_neg (by decide),if_neg (by decide),if_neg (by decide),if_pos rfl,Bool.and_eq_true] at hk
  rw[if_neg (by decide),if_neg (by decide),if_pos rfl] at hz
  simp only[St.mk.injEq,true_and,and_true] at hz
  obtain⟨rfl,rfl,rfl,rfl,rfl,rfl,rfl,rfl,rfl,rfl⟩:=hz
  refine ⟨htb,by simp,by simp,by simp,by simp,by simp,fun x hx=>?_,by simp,by simp,fun x hx=>ko (bC hk.2 x hx),by simp,by simp⟩
  have:=bC hk.1 x hx
  unfold mR at this
  simp only[Bool.and_eq_true] at this
  have h1:=fE this.1
  exact⟨by omega,ko this.2⟩
 ·rw[if_neg (by decide),if_neg (by decide),if_neg (by decide),if_neg (by decide),if_pos rfl] at hk
  rw[if_neg (by decide),if_neg (by decide),if_neg (by decide),if_pos rfl] at hz
  simp only[St.mk.injEq,true_and,and_true] at hz
  obtain⟨rfl,rfl,rfl,rfl,rfl,rfl,rfl,rfl,rfl,rfl,rfl⟩:=hz
  exact⟨htb,by simp,by simp,by simp,by simp,by simp,by simp,by simp,by simp,fun x hx=>ko (bC hk x hx),by simp,by simp⟩
 ·rw[if_neg (by decide),if_neg (by decide),if_neg (by decide),if_neg (by decide),if_neg (by decide),if_pos rfl] at hk
  rw[if_neg (by decide),if_neg (by decide),if_neg (by decide),if_neg (by decide),if_pos rfl] at hz
  simp only[St.mk.injEq,true_and,and_true] at hz
  obtain⟨rfl,rfl,rfl,rfl⟩:=hz
  unfold Af at hk
  simp only[Bool.and_eq_true,decide_eq_true_eq] at hk
  obtain⟨q1,q2,q3,q4,q5,q6,q7,q8⟩:=hk
  refine ⟨htb,by simp,?_,q8.2,by simp,by simp,by simp,fun i hi x hx=>?_,fun x hx=>ko (bC q3 x hx),fun x hx=>ko (bC q4 x hx),fun x hx=>Cz (bC q5 x hx),fun x hx=>Cz (bC q6 x hx)⟩
  ·unfold qW at q2
   dsimp only at q2 ⊢
   rw[Bool.or_eq_true,decide_eq_true_eq] at q2
   rcases q2 with e | e
   ·rw[e];simp
   ·have:=fE e;omega
  ·have hb:=bC q1 i hi
   unfold rJ at hb
   split at hb
   ·have:i.xs=[]:=List.eq_nil_of_length_eq_zero (by simpa using hb)
    rw[this] at hx;cases hx
   ·split at hb
    ·exact ko (bC hb x hx)
    ·cases hb
end Go.Proofs.YtaaggohjmhifbaaGreatDoor
