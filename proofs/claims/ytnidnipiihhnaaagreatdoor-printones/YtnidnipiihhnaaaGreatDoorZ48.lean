/- Packed for the hand-in: WFew WFewS -/
import Derived.Test.YtnidnipiihhnaaaGreatDoorZ26
import Derived.Test.YtnidnipiihhnaaaGreatDoorZ37
namespace Go.Proofs.YtnidnipiihhnaaaGreatDoor
open Go.RowKit Go.Shelf
set_option linter.unusedSimpArgs false
set_option linter.unusedVariables false
set_option maxRecDepth 20000
set_option maxHeartbeats 8000000
theorem Ka : ∀n:Int,0≤n→n<2 ^ 62→IntKind.i64.wrap n=n:=by
 intro n h0 h1
 rw[IntKind.wrap_i64]
 simp only[Int.reducePow] at h1
 omega
def gH:Nat→Ex→Bool
 | 0,_=>false
 | d+1,.mk _ _ tb nm v xs=>decide (xs.length≤3)&&(decide (tb.length≤4096)&&(decide (nm.length≤4096)&&(decide (v.s.length≤4096)&&xs.all (gH d))))
theorem pX : ∀(d:Nat) (t:Tm),t.ok→gH d t.ex=true→t.sz+1≤2 ^ d
 | 0,t,_,h=>by cases h
 |
  d+1,.val v,_,h=>by
  show 1+1≤2 ^ (d+1)
  have:=Nat.one_le_two_pow (n:=d)
  omega
 |
  d+1,.col _ _,_,h=>by
  show 1+1≤2 ^ (d+1)
  have:=Nat.one_le_two_pow (n:=d)
  omega
 |
  d+1,.op o a b,hok,h=>by
  have h':gH (d+1) (.mk 3 o [] [] zV [a.ex,b.ex])=true:=h
  simp only[gH,Bool.and_eq_true,List.all_cons,List.all_nil,Bool.and_true] at h'
  have h1:=pX d a hok.2.2.1 h'.2.2.2.2.1
  have h2:=pX d b hok.2.2.2 h'.2.2.2.2.2
  show a.sz+b.sz+1+1≤2 ^ (d+1)
  omega
 |
  d+1,.not a,hok,h=>by
  have h':gH (d+1) (.mk 4 0 [] [] zV [a.ex])=true:=h
  simp only[gH,Bool.and_eq_true,List.all_cons,List.all_nil,Bool.and_true] at h'
  have h1:=pX d a hok.2 h'.2.2.2.2
  have:=Nat.one_le_two_pow (n:=d)
  show a.sz+1+1≤2 ^ (d+1)
  omega
 |
  d+1,.neg a,hok,h=>by
  have h':gH (d+1) (.mk 5 0 [] [] zV [a.ex])=true:=h
  simp only[gH,Bool.and_eq_true,List.all_cons,List.all_nil,Bool.and_true] at h'
  have h1:=pX d a hok h'.2.2.2.2
  have:=Nat.one_le_two_pow (n:=d)
  show a.sz+1+1≤2 ^ (d+1)
  omega
 |
  d+1,.nul a,hok,h=>by
  have h':gH (d+1) (.mk 6 0 [] [] zV [a.ex])=true:=h
  simp only[gH,Bool.and_eq_true,List.all_cons,List.all_nil,Bool.and_true] at h'
  have h1:=pX d a hok h'.2.2.2.2
  have:=Nat.one_le_two_pow (n:=d)
  show a.sz+1+1≤2 ^ (d+1)
  omega
 |
  1,.nnul a,hok,h=>by
  have h':gH 1 (.mk 4 0 [] [] zV [.mk 6 0 [] [] zV [a.ex]])=true:=h
  simp[gH] at h'
 |
  d+2,.nnul a,hok,h=>by
  have h':gH (d+2) (.mk 4 0 [] [] zV [.mk 6 0 [] [] zV [a.ex]])=true:=h
  simp only[gH,Bool.and_eq_true,List.all_cons,List.all_nil,Bool.and_true] at h'
  have h1:=pX d a hok h'.2.2.2.2.2.2.2.2
  have:=Nat.one_le_two_pow (n:=d)
  have e:2 ^ (d+2)=4*2 ^ d:=by rw[Nat.pow_add];omega
  show a.sz+2+1≤2 ^ (d+2)
  omega
theorem uS {x:Ex} (h:aN x=true) (hf:gH 12 x=true):nA x≤5000:=by
 obtain⟨h1,h2⟩:=jo h
 rw[← h2] at hf
 have:=pX 12 _ h1 hf
 unfold nA
 omega
def lX (l:List Ex):Bool:=(l.take 20).all (gH 12)
def uZ (s:St):Bool:=(s.sets.take 20).all (fun x=>gH 12 x.e)&&((s.items.take 20).all (fun i=>lX i.xs)&&(decide (s.rows.length<100)&&(decide (s.tb.length≤4096)&&(decide (s.jn.length≤4096)&&(decide (s.prim.length≤4096)&&(lX s.on&&(lX s.wh&&(lX s.gr&&lX s.od))))))))
theorem CY {s:St} (h:dQ s=true) (hf:uZ s=true):∀e∈nS s,nA e≤5000:=by
 unfold uZ at hf
 simp only[Bool.and_eq_true] at hf
 obtain⟨f1,f2,_,_,_,_,f3,f4,f5,f6⟩:=hf
 have one : ∀(l:List Ex),l.length≤20→(∀e∈l,aN e=true)→lX l=true→∀e∈l,nA e≤5000:=fun l hl hr hfa e he=>by
  unfold lX at hfa
  rw[List.take_of_length_le hl,List.all_eq_true] at hfa
  exact uS (hr e he) (hfa e he)
 have col : ∀{l:List Ex},bf l 0 1 eu=true→∀e∈l,aN e=true:=fun {l} hl e he=>by
  have:=aS hl e he
  unfold eu at this
  rw[Bool.and_eq_true] at this
  exact this.2
 unfold dQ at h
 simp only[Bool.and_eq_true] at h
 obtain⟨hk,_,he⟩:=h
 have hz:=rD he
 clear he
 obtain⟨k,tb,cols,prim,rows,sets,items,jn,on,wh,gr,od,desc,lim⟩:=s
 unfold nC at hk
 unfold zu iP at hz
 dsimp only at hk hz f1 f2 f3 f4 f5 f6
 intro e he
 unfold nS at he
 dsimp only at he
 split at hk
 ·rename_i h1
  rw[if_pos h1] at hz
  simp only[St.mk.injEq,true_and,and_true] at hz
  obtain⟨rfl,rfl,rfl,rfl,rfl,rfl,rfl,rfl,rfl,rfl⟩:=hz
  simp at he
 ·rename_i h1
  rw[if_neg h1] at hz
  split at hk
  ·rename_i h2
   rw[if_neg (by omega),if_neg (by omega),if_neg (by omega),if_neg (by omega)] at hz
   simp only[St.mk.injEq,true_and,and_true] at hz
   obtain⟨rfl,rfl,rfl,rfl,rfl,rfl,rfl,rfl,rfl,rfl,rfl,rfl⟩:=hz
   simp at he
  ·rename_i h2
   split at hk
   ·rename_i h3
    rw[if_pos h3] at hz
    simp only[St.mk.injEq,true_and,and_true] at hz
    obtain⟨rfl,rfl,rfl,rfl,rfl,rfl,rfl,rfl,rfl,rfl,rfl⟩:=hz
    simp at he
   ·rename_i h3
    rw[if_neg h3] at hz
    split at hk
    ·rename_i h4
     rw[if_pos h4] at hz
     simp only[St.mk.injEq,true_and,and_true] at hz
     obtain⟨rfl,rfl,rfl,rfl,rfl,rfl,rfl,rfl,rfl,rfl⟩:=hz
     rw[Bool.and_eq_true] at hk
     have he':e∈sets.map (fun x=>x.e)++wh:=by simpa using he
     rcases List.mem_append.1 he' with he | he
     ·obtain⟨x,hx,rfl⟩:=List.mem_map.1 he
      have hs:=aS hk.1 x hx
      unfold nY at hs
      rw[Bool.and_eq_true] at hs
      rw[List.take_of_length_le (by have:=(dA hk.1).2;omega),List.all_eq_true] at f1
      exact uS hs.2 (f1 x hx)
     ·exact one wh (by have:=(dA hk.2).2;omega) (aS hk.2) f4 e he
    ·rename_i h4
     rw[if_neg h4] at hz
     split at hk
     ·rename_i h5
      rw[if_pos h5] at hz
      simp only[St.mk.injEq,true_and,and_true] at hz
      obtain⟨rfl,rfl,rfl,rfl,rfl,rfl,rfl,rfl,rfl,rfl,rfl⟩:=hz
      have he':e∈wh:=by simpa using he
      exact one wh (by have:=(dA hk).2;omega) (aS hk) f4 e he'
     ·rename_i h5
      rw[if_neg h5] at hz
      split at hk
      ·rename_i h6
       rw[if_pos h6] at hz
       simp only[St.mk.injEq,true_and,and_true] at hz
       obtain⟨rfl,rfl,rfl,rfl⟩:=hz
       unfold xQ at hk
       simp only[Bool.and_eq_true] at hk
       obtain⟨q1,q2,q3,q4,q5,q6,q7,q8⟩:=hk
       have j1:fI jn≤1:=by unfold fI;split<;>omega
       have he':e∈items.flatMap (fun i=>i.xs)++(on++(wh++(gr++od))):=by simpa using he
       rcases List.mem_append.1 he' with he | he
       ·obtain⟨x,hx,hxe⟩:=List.mem_flatMap.1 he
        have hb:=aS q1 x hx
        rw[List.take_of_length_le (by have:=(dA q1).2;omega),List.all_eq_true] at f2
        unfold tN at hb
        split at hb
        ·have:x.xs=[]:=List.eq_nil_of_length_eq_zero (by simpa using hb)
         rw[this] at hxe;cases hxe
        ·split at hb
         ·exact one x.xs (by have:=(dA hb).2;omega) (aS hb) (f2 x hx) e hxe
         ·cases hb
       rcases List.mem_append.1 he with he | he
       ·exact one on (by have:=(dA q3).2;omega) (aS q3) f3 e he
       rcases List.mem_append.1 he with he | he
       ·exact one wh (by have:=(dA q4).2;omega) (aS q4) f4 e he
       rcases List.mem_append.1 he with he | he
       ·exact one gr (by have:=(dA q5).2;omega) (col q5) f5 e he
       ·exact one od (by have:=(dA q6).2;omega) (col q6) f6 e he
      ·cases hk
theorem iV {α:Type} (p:α→Bool) {xs:List α} {k:Nat} {x:α} (hx:xs[k]?=some x):(xs.take (k+1)).all p=((xs.take k).all p&&p x):=by
 obtain⟨h1,h2⟩:=List.getElem?_eq_some_iff.1 hx
 rw[List.take_succ_eq_append_getElem h1,h2,List.all_append]
 simp
theorem jC {α:Type} (p:α→Bool) {xs:List α} {k n:Nat} {x:α} (hx:xs[k]?=some x) (hk:k<n) (hp:p x=false):(xs.take n).all p=false:=by
 rw[Bool.eq_false_iff]
 intro h
 have hm:x∈xs.take n:=by
  obtain⟨h1,h2⟩:=List.getElem?_eq_some_iff.1 hx
  rw[← h2]
  exact List.mem_of_getElem? (i:=k) (by rw[List.getElem?_take,if_pos hk];exact List.getElem?_eq_getElem h1)
 have:=List.all_eq_true.1 h x hm
 rw[hp] at this
 cases this
theorem xP (S:Nat→Prop):∀(d:Nat) (x:Ex) (v:Value) (w:World),d≤100→oK x→iQ S w x v→Calls Tryz.prog 9 #[v,.int .i64 d] w fun e w'=>e = .returned (.bool (gH d x))∧Below w.heap.size w w':=by
 intro d
 induction d with
 |
  zero =>
  intro x v w hd hR hx
  obtain⟨k,op,tb,nm,vk,vn,vs,ys,aa,nn,cc,rfl,rfl,ha⟩:=hx
  obtain⟨W,hW,hbW,hzW,hcW⟩:=aY w (.cells #[.int .i64 k,.int .i64 op,.string (aj tb),.string (aj nm),.int .i64 vk,.int .i64 vn,.string (aj vs),.slice aa nn cc] 26)
  have k0:=aP hcW
  have HB:=hid hbW
  clear hbW hcW ha hR
  show Calls Tryz.prog 9 _ w fun e w'=>e = .returned (.bool false)∧_
  go_enter Tryz.func9,Tryz.ntmps9
  go_wp2
  go_ret
  exact⟨rfl,HB.out⟩
 |
  succ d ih =>
  intro x v w hd hR hx
  obtain⟨k,op,tb,nm,vk,vn,vs,ys,aa,nn,cc,rfl,rfl,ha⟩:=hx
  obtain⟨W,hW,hbW,hzW,hcW⟩:=aY w (.cells #[.int .i64 k,.int .i64 op,.string (aj tb),.string (aj nm),.int .i64 vk,.int .i64 vn,.string (aj vs),.slice aa nn cc] 26)
  have hsl:=mU ha
  have HV:=hid (hsl.to (T:=S) (by decide) (R:=fun _=>False) (ay.aA hbW) (fun b hb _=>⟨id,hb⟩) (fun _ _ e=>e.to (R:=fun _=>False) (ay.aA hbW) (fun b hb _=>⟨id,hb⟩)))
  obtain⟨a',c',css,hv,h1,h2,_⟩:=hsl
  simp only[Value.slice.injEq] at hv
  obtain⟨rfl,rfl,rfl⟩:=hv
  unfold maxLen at h2
  have hRy : ∀y∈ys,oK y:=by cases hR with | mk _ _ _ _ _ _ _ _ _ _ _ hx=>exact hx
  have k0:=aP hcW
  have HC0:=hid hcW
  have HB:=hid hbW
  have zt:(aj tb).size=tb.length:=rfl
  have zn:(aj nm).size=nm.length:=rfl
  have zv:(aj vs).size=vs.length:=rfl
  have hd1:((((d+1:Nat):Int))==0)=false:=by
   rw[beq_eq_false_iff_ne]
   omega
  have hdm:IntKind.i64.wrap (((d+1:Nat):Int)-1)=(d:Int):=by
   have e:((d+1:Nat):Int)-1=(d:Int):=by omega
   rw[e]
   exact Ka _ (by omega) (by simp only[Int.reducePow];omega)
  have HI:=hid (fun y (hy:y∈ys) u V (hV:iQ S V y u)=>ih y u V (by omega) (hRy y hy) hV)
  clear ih hR hRy ha hbW hcW
  generalize (((d+1:Nat):Int))=D at hd1 hdm ⊢
  show Calls Tryz.prog 9 _ w fun e w'=>e = .returned (.bool (decide (ys.length≤3)&&(decide (tb.length≤4096)&&(decide (nm.length≤4096)&&(decide (vs.length≤4096)&&ys.all (gH d))))))∧_
  by_cases c1:ys.length≤3
  ·rw[decide_eq_true c1,Bool.true_and]
   have c1' : ¬((3:Int)<(ys.length:Int)):=by omega
   by_cases c2:tb.length≤4096
   ·rw[decide_eq_true c2,Bool.true_and]
    have c2' : ¬((4096:Int)<((aj tb).size:Int)):=by rw[zt];omega
    by_cases c3:nm.length≤4096
    ·rw[decide_eq_true c3,Bool.true_and]
     have c3' : ¬((4096:Int)<((aj nm).size:Int)):=by rw[zn];omega
     by_cases c4:vs.length≤4096
     ·rw[decide_eq_true c4,Bool.true_and]
      have c4' : ¬((4096:Int)<((aj vs).size:Int)):=by rw[zv];omega
      clear zt zn zv c2 c3 c4
      obtain⟨X,hX⟩:∃X,ys.all (gH d)=X:=⟨_,rfl⟩
      rw[hX]
      have HX:=hid hX
      clear hX
      go_enter Tryz.func9,Tryz.ntmps9
      go_wp2_with fail
      go_loopw [5,6] (fun i _ wr=>∃(j:Nat),j≤ys.length∧i = .int .i64 j∧Below W.heap.size W wr∧Hid ((ys.take j).all (gH d)=true)) (fun i _ _=>ys.length-(intOf i).toNat)
      case atStart=>exact⟨0,Nat.zero_le _,rfl,Below.refl _ _,hid rfl⟩
      case round =>
       obtain⟨j,hj,rfl,hbel,HK⟩:=hrel
       have kW:=aP ((hbel.block w.heap.size hzW).trans HC0.out)
       by_cases hlt:j<ys.length
       ·obtain⟨y,hy⟩:∃y,ys[j]?=some y:=⟨_,List.getElem?_eq_getElem hlt⟩
        have hlt':((j:Int)<(ys.length:Int)):=by omega
        obtain⟨_,_,_,b,off,cs,rfl,_,hel,hcell⟩:=gy (HV.out.to (T:=S) (by decide) (R:=fun _=>False) (ay.aA hbel) (fun b hb _=>⟨id,hb⟩) (fun _ _ e=>e.to (R:=fun _=>False) (ay.aA hbel) (fun b hb _=>⟨id,hb⟩))) hy
        have HC:=hid (HI.out y (List.mem_of_getElem? hy) _ wr hel.v)
        have HT:=hid (iV (gH d) hy)
        have HFL:=hid (fun hp=>jC (gH d) (n:=ys.length) hy hlt hp)
        obtain⟨k1,op1,tb1,nm1,vk1,vn1,vs1,ys1,aa1,nn1,cc1,_,rfl,_⟩:=hel
        have q0:=hcell 0 _ rfl
        have q1:=hcell 1 _ rfl
        have q2:=hcell 2 _ rfl
        have q3:=hcell 3 _ rfl
        have q4:=hcell 4 _ rfl
        have q5:=hcell 5 _ rfl
        have q6:=hcell 6 _ rfl
        have q7:=hcell 7 _ rfl
        simp only[Nat.add_zero] at q0
        have HBR:=hid hbel
        clear hbel hcell hy
        cases hp:gH d y with
        |
         true =>
         rw[hp] at HC HT
         have HK2:Hid ((ys.take (j+1)).all (gH d)=true):=hid (by rw[HT.out,HK.out];rfl)
         clear HK hp HT HFL
         go_wp2_with fail
         refine HC.out.mono ?_
         rintro e w2 ⟨rfl,hb2⟩
         have HB2:Hid (Below W.heap.size W w2):=hid (HBR.out.trans (hb2.mono HBR.out.size))
         clear hb2 HC
         go_wp2
         go_roundw
         case rel=>exact⟨j+1,by omega,by go_num,HB2.out,HK2⟩
         case measure=>simp[intOf];omega
        |
         false =>
         rw[hp] at HC
         have HXF:Hid (X=false):=hid (by
          rw[← HX.out]
          have:=HFL.out hp
          rw[List.take_of_length_le (Nat.le_refl _)] at this
          exact this)
         clear HK hp HT HFL
         go_wp2_with fail
         refine HC.out.mono ?_
         rintro e w2 ⟨rfl,hb2⟩
         have HB2:Hid (Below w.heap.size w w2):=hid (HB.out.trans ((HBR.out.trans (hb2.mono HBR.out.size)).mono HB.out.size))
         clear hb2 HC
         go_wp2
         go_ret
         exact⟨by rw[HXF.out];rfl,HB2.out⟩
       ·have hlt' : ¬((j:Int)<(ys.length:Int)):=by omega
        have HXT:Hid (X=true):=hid (by rw[← HX.out];have:=HK.out;rw[List.take_of_length_le (by omega)] at this;exact this)
        have HB2:Hid (Below w.heap.size w wr):=hid (HB.out.trans (hbel.mono HB.out.size))
        clear hbel HK
        go_wp2
        go_ret
        exact⟨by rw[HXT.out];rfl,HB2.out⟩
     ·rw[decide_eq_false c4,Bool.false_and]
      have c4':((4096:Int)<((aj vs).size:Int)):=by rw[zv];omega
      clear zt zn zv c2 c3 c4 HI HV HC0
      go_enter Tryz.func9,Tryz.ntmps9
      go_wp2
      go_ret
      exact⟨rfl,HB.out⟩
    ·rw[decide_eq_false c3,Bool.false_and]
     have c3':((4096:Int)<((aj nm).size:Int)):=by rw[zn];omega
     clear zt zn zv c2 c3 HI HV HC0
     go_enter Tryz.func9,Tryz.ntmps9
     go_wp2
     go_ret
     exact⟨rfl,HB.out⟩
   ·rw[decide_eq_false c2,Bool.false_and]
    have c2':((4096:Int)<((aj tb).size:Int)):=by rw[zt];omega
    clear zt zn zv c2 HI HV HC0
    go_enter Tryz.func9,Tryz.ntmps9
    go_wp2
    go_ret
    exact⟨rfl,HB.out⟩
  ·rw[decide_eq_false c1,Bool.false_and]
   have c1':((3:Int)<(ys.length:Int)):=by omega
   clear zt zn zv c1 HI HV HC0
   go_enter Tryz.func9,Tryz.ntmps9
   go_wp2
   go_ret
   exact⟨rfl,HB.out⟩
theorem lg (S:Nat→Prop) (xs:List Ex) (v:Value) (w:World) (hR : ∀x∈xs,oK x) (hx:aO S w xs v):Calls Tryz.prog 27 #[v] w fun e w'=>e = .returned (.bool (lX xs))∧Below w.heap.size w w':=by
 have hsl:=mU hx
 have HV:=hid hsl
 obtain⟨aa,cc,css,rfl,h1,h2,_⟩:=hsl
 unfold maxLen at h2
 have HF:=hid (fun y (hy:y∈xs) u V (hV:iQ S V y u)=>xP S 12 y u V (by decide) (hR y hy) hV)
 obtain⟨X,hX⟩:∃X,lX xs=X:=⟨_,rfl⟩
 rw[hX]
 unfold lX at hX
 have HX:=hid hX
 clear hX hR hx
 go_enter Tryz.func27,Tryz.ntmps27
 go_wp2_with fail
 go_loopw [3,4] (fun i _ wr=>∃(j:Nat),j≤xs.length∧j≤20∧i = .int .i64 j∧Below w.heap.size w wr∧Hid ((xs.take j).all (gH 12)=true)) (fun i _ _=>xs.length-(intOf i).toNat)
 case atStart=>exact⟨0,Nat.zero_le _,Nat.zero_le _,rfl,Below.refl _ _,hid rfl⟩
 case round =>
  obtain⟨j,hj,hj20,rfl,hbel,HK⟩:=hrel
  by_cases hlt:j<xs.length
  ·have hlt':((j:Int)<(xs.length:Int)):=by omega
   by_cases hl2:j<20
   ·have hl2':((j:Int)<20):=by omega
    obtain⟨y,hy⟩:∃y,xs[j]?=some y:=⟨_,List.getElem?_eq_getElem hlt⟩
    obtain⟨_,_,_,b,off,cs,rfl,_,hel,hcell⟩:=gy (HV.out.to (T:=S) (by decide) (R:=fun _=>False) (ay.aA hbel) (fun b hb _=>⟨id,hb⟩) (fun _ _ e=>e.to (R:=fun _=>False) (ay.aA hbel) (fun b hb _=>⟨id,hb⟩))) hy
    have HC:=hid (HF.out y (List.mem_of_getElem? hy) _ wr hel.v)
    have HT:=hid (iV (gH 12) hy)
    have HFL:=hid (fun hp=>jC (gH 12) (n:=20) hy hl2 hp)
    obtain⟨k1,op1,tb1,nm1,vk1,vn1,vs1,ys1,aa1,nn1,cc1,_,rfl,_⟩:=hel
    have q0:=hcell 0 _ rfl
    have q1:=hcell 1 _ rfl
    have q2:=hcell 2 _ rfl
    have q3:=hcell 3 _ rfl
    have q4:=hcell 4 _ rfl
    have q5:=hcell 5 _ rfl
    have q6:=hcell 6 _ rfl
    have q7:=hcell 7 _ rfl
    simp only[Nat.add_zero] at q0
    have HBR:=hid hbel
    clear hbel hcell hy
    cases hp:gH 12 y with
    |
     true =>
     rw[hp] at HC HT
     have HK2:Hid ((xs.take (j+1)).all (gH 12)=true):=hid (by rw[HT.out,HK.out];rfl)
     clear HK hp HT HFL
     go_wp2_with fail
     refine HC.out.mono ?_
     rintro e w2 ⟨rfl,hb2⟩
     have HB2:Hid (Below w.heap.size w w2):=hid (HBR.out.trans (hb2.mono HBR.out.size))
     clear hb2 HC
     go_wp2
     go_roundw
     case rel=>exact⟨j+1,by omega,by omega,by go_num,HB2.out,HK2⟩
     case measure=>simp[intOf];omega
    |
     false =>
     rw[hp] at HC
     have HXF:Hid (X=false):=hid (by
      rw[← HX.out]
      exact HFL.out hp)
     clear HK hp HT HFL
     go_wp2_with fail
     refine HC.out.mono ?_
     rintro e w2 ⟨rfl,hb2⟩
     have HB2:Hid (Below w.heap.size w w2):=hid (HBR.out.trans (hb2.mono HBR.out.size))
     clear hb2 HC
     go_wp2
     go_ret
     exact⟨by rw[HXF.out];rfl,HB2.out⟩
   ·have hl2' : ¬((j:Int)<20):=by omega
    have HXT:Hid (X=true):=hid (by rw[← HX.out];have:=HK.out;rw[show j=20 by omega] at this;exact this)
    have HB2:=hid hbel
    clear hbel HK
    go_wp2
    go_ret
    exact⟨by rw[HXT.out];rfl,HB2.out⟩
  ·have hlt' : ¬((j:Int)<(xs.length:Int)):=by omega
   have HXT:Hid (X=true):=hid (by
    rw[← HX.out]
    have:=HK.out
    rw[List.take_of_length_le (by omega)] at this
    rw[List.all_eq_true] at this ⊢
    exact fun y hy=>this y (List.mem_of_mem_take hy))
   have HB2:=hid hbel
   clear hbel HK
   go_wp2
   go_ret
   exact⟨by rw[HXT.out];rfl,HB2.out⟩
theorem zO.Kc {S:Nat→Prop} {w:World} {x:Se} {cs:List Value} (h:sP S w x cs):∃ds,cs = .string (aj x.nm)::ds∧zO S w x.e ds:=by
 obtain⟨k,op,tb,nm,vk,vn,vs,ys,aa,nn,cc,h1,rfl,h3⟩:=h
 exact⟨_,rfl,k,op,tb,nm,vk,vn,vs,ys,aa,nn,cc,h1,rfl,h3⟩
theorem wY (S:Nat→Prop) (x:St) (cs:List Value) (w:World) (hR:IY x) (hx:nE S w x cs):Calls Tryz.prog 14 #[.agg cs.toArray] w fun e w'=>e = .returned (.bool (uZ x))∧Below w.heap.size w w':=by
 obtain⟨a1,a2,a3,a4,a5,a6,a7,a8,n1,n2,n3,n4,n5,n6,n7,n8,c1,c2,c3,c4,c5,c6,c7,c8,rfl,x1,x2,x3,x4,x5,x6,x7,x8⟩:=hx
 have e3:n3=x.sets.length∧n3≤c3∧c3≤maxLen:=by obtain⟨_,_,_,hf,h1,h2,_⟩:=x3;simp only[Value.slice.injEq] at hf;obtain⟨_,rfl,rfl⟩:=hf;exact⟨rfl,h1,h2⟩
 have e4:n4=x.items.length∧n4≤c4∧c4≤maxLen:=by obtain⟨_,_,_,hf,h1,h2,_⟩:=x4;simp only[Value.slice.injEq] at hf;obtain⟨_,rfl,rfl⟩:=hf;exact⟨rfl,h1,h2⟩
 have e2:n2=x.rows.length∧n2≤c2∧c2≤maxLen:=by obtain⟨_,_,_,hf,h1,h2,_⟩:=x2;simp only[Value.slice.injEq] at hf;obtain⟨_,rfl,rfl⟩:=hf;exact⟨rfl,h1,h2⟩
 unfold maxLen at e2 e3 e4
 obtain⟨W,hW,hbW,hzW,hcW⟩:=aY w (.cells #[.int .i64 x.k,.string (aj x.tb),.slice a1 n1 c1,.string (aj x.prim),.slice a2 n2 c2,.slice a3 n3 c3,.slice a4 n4 c4,.string (aj x.jn),.slice a5 n5 c5,.slice a6 n6 c6,.slice a7 n7 c7,.slice a8 n8 c8,.bool x.desc,.int .i64 x.lim] 42)
 have hk:=ay.aA (S:=fun _=>False) hbW
 have H3:=hid (x3.to (T:=S) (by decide) hk (fun b hb _=>⟨id,hb⟩) (fun _ _ e=>e.to hk (fun b hb _=>⟨id,hb⟩)))
 have H4:=hid (x4.to (T:=S) (by decide) hk (fun b hb _=>⟨id,hb⟩) (fun _ _ e=>e.to hk (fun b hb _=>⟨id,hb⟩)))
 have HF:=hid (fun y (hy:y∈x.sets) u V (hV:iQ S V y.e u)=>xP S 12 y.e u V (by decide) (hR.sets y hy).2 hV)
 have HG:=hid (fun y (hy:y∈x.items) u V (hV:aO S V y.xs u)=>lg S y.xs u V (hR.items y hy) hV)
 have HA5:=hid (fun V (hV:Below W.heap.size W V)=>lg S x.on _ V hR.on ((x5.new hbW).new hV))
 have HA6:=hid (fun V (hV:Below W.heap.size W V)=>lg S x.wh _ V hR.wh ((x6.new hbW).new hV))
 have HA7:=hid (fun V (hV:Below W.heap.size W V)=>lg S x.gr _ V hR.gr ((x7.new hbW).new hV))
 have HA8:=hid (fun V (hV:Below W.heap.size W V)=>lg S x.od _ V hR.od ((x8.new hbW).new hV))
 obtain⟨b5,h5⟩:∃b,lX x.on=b:=⟨_,rfl⟩
 obtain⟨b6,h6⟩:∃b,lX x.wh=b:=⟨_,rfl⟩
 obtain⟨b7,h7⟩:∃b,lX x.gr=b:=⟨_,rfl⟩
 obtain⟨b8,h8⟩:∃b,lX x.od=b:=⟨_,rfl⟩
 obtain⟨X,hX⟩:∃X,uZ x=X:=⟨_,rfl⟩
 rw[hX]
 unfold uZ at hX
 rw[h5,h6,h7,h8] at hX
 rw[h5] at HA5
 rw[h6] at HA6
 rw[h7] at HA7
 rw[h8] at HA8
 have HX:=hid hX
 have k0:=au hcW
 have HC0:=hid hcW
 have HB:=hid hbW
 have zt:(aj x.tb).size=x.tb.length:=rfl
 have zj:(aj x.jn).size=x.jn.length:=rfl
 have zp:(aj x.prim).size=x.prim.length:=rfl
 obtain⟨k,tb,cols,prim,rows,sets,items,jn,on,wh,gr,od,desc,lim⟩:=x
 dsimp only at *
 obtain⟨rfl,e3a,e3b⟩:=e3
 obtain⟨rfl,e4a,e4b⟩:=e4
 obtain⟨rfl,e2a,e2b⟩:=e2
 clear hX hR x1 x2 x3 x4 x5 x6 x7 x8 h5 h6 h7 h8 hk hbW hcW
 go_enter Tryz.func14,Tryz.ntmps14
 go_wp2_with fail
 go_loopw [3,4] (fun i _ wr=>∃(j:Nat),j≤sets.length∧j≤20∧i = .int .i64 j∧Below W.heap.size W wr∧Hid ((sets.take j).all (fun x=>gH 12 x.e)=true)) (fun i _ _=>sets.length-(intOf i).toNat)
 case atStart=>exact⟨0,Nat.zero_le _,Nat.zero_le _,rfl,Below.refl _ _,hid rfl⟩
 case round =>
  obtain⟨j,hj,hj20,rfl,hbel,HK⟩:=hrel
  have kW:=au ((hbel.block w.heap.size hzW).trans HC0.out)
  by_cases hgo:j<sets.length∧j<20
  ·obtain⟨hlt,hl2⟩:=hgo
   have hlt':((j:Int)<(sets.length:Int)):=by omega
   have hl2':((j:Int)<20):=by omega
   obtain⟨y,hy⟩:∃y,sets[j]?=some y:=⟨_,List.getElem?_eq_getElem hlt⟩
   have hks:=ay.aA (S:=fun _=>False) hbel
   obtain⟨_,_,_,b,off,cs,rfl,_,hel,hcell⟩:=gy (H3.out.to (T:=S) (by decide) hks (fun b hb _=>⟨id,hb⟩) (fun _ _ e=>e.to hks (fun b hb _=>⟨id,hb⟩))) hy
   obtain⟨ds,rfl,hex⟩:=zO.Kc hel
   have HC:=hid (HF.out y (List.mem_of_getElem? hy) _ wr hex.v)
   have HT:=hid (iV (fun x:Se=>gH 12 x.e) hy)
   have HFL:=hid (fun hp=>jC (fun x:Se=>gH 12 x.e) (n:=20) hy hl2 hp)
   obtain⟨k1,op1,tb1,nm1,vk1,vn1,vs1,ys1,aa1,nn1,cc1,_,rfl,_⟩:=hex
   have q1:=hcell 1 _ rfl
   have q2:=hcell 2 _ rfl
   have q3:=hcell 3 _ rfl
   have q4:=hcell 4 _ rfl
   have q5:=hcell 5 _ rfl
   have q6:=hcell 6 _ rfl
   have q7:=hcell 7 _ rfl
   have q8:=hcell 8 _ rfl
   have HBR:=hid hbel
   clear hbel hcell hy hks hel
   cases hp:gH 12 y.e with
   |
    true =>
    rw[hp] at HC HT
    have HK2:Hid ((sets.take (j+1)).all (fun x=>gH 12 x.e)=true):=hid (by rw[HT.out,HK.out];rfl)
    clear HK hp HT HFL
    go_wp2_with fail
    refine HC.out.mono ?_
    rintro e w2 ⟨rfl,hb2⟩
    have HB2:Hid (Below W.heap.size W w2):=hid (HBR.out.trans (hb2.mono HBR.out.size))
    clear hb2 HC
    go_wp2
    go_roundw
    case rel=>exact⟨j+1,by omega,by omega,by go_num,HB2.out,HK2⟩
    case measure=>simp[intOf];omega
   |
    false =>
    rw[hp] at HC
    have HXF:Hid (X=false):=hid (by
     rw[← HX.out,HFL.out hp]
     rfl)
    clear HK hp HT HFL
    go_wp2_with fail
    refine HC.out.mono ?_
    rintro e w2 ⟨rfl,hb2⟩
    have HB2:Hid (Below w.heap.size w w2):=hid (HB.out.trans ((HBR.out.trans (hb2.mono HBR.out.size)).mono HB.out.size))
    clear hb2 HC
    go_wp2
    go_ret
    exact⟨by rw[HXF.out];rfl,HB2.out⟩
  ·have hend:(((j:Int)<(sets.length:Int))∧¬((j:Int)<20))∨¬((j:Int)<(sets.length:Int)):=by omega
   have HS:Hid ((sets.take 20).all (fun x=>gH 12 x.e)=true):=hid (by
    have:=HK.out
    by_cases h20:j=20
    ·rw[h20] at this;exact this
    ·rw[List.take_of_length_le (by omega)] at this
     rw[List.all_eq_true] at this ⊢
     exact fun y hy=>this y (List.mem_of_mem_take hy))
   obtain⟨wo,hwo⟩:∃wo,wo=wr:=⟨_,rfl⟩
   have HBO:Hid (Below W.heap.size W wo):=hid (by rw[hwo];exact hbel)
   clear hbel HK hgo hj hj20
   rcases hend with⟨hlt',hl2'⟩ | hlt'
   all_goals
    go_wp2_with fail
    clear kW
    subst hwo
    go_loopw [5,6] (fun i _ wr=>∃(j:Nat),j≤items.length∧j≤20∧i = .int .i64 j∧Below W.heap.size W wr∧Hid ((items.take j).all (fun x=>lX x.xs)=true)) (fun i _ _=>items.length-(intOf i).toNat)
    case atStart=>exact⟨0,Nat.zero_le _,Nat.zero_le _,rfl,HBO.out,hid rfl⟩
    case round =>
     clear HBO
     obtain⟨j,hj,hj20,rfl,hbel,HK⟩:=hrel
     have kW:=au ((hbel.block w.heap.size hzW).trans HC0.out)
     by_cases hgo:j<items.length∧j<20
     ·obtain⟨hlt,hl2⟩:=hgo
      have hlt':((j:Int)<(items.length:Int)):=by omega
      have hl2':((j:Int)<20):=by omega
      obtain⟨y,hy⟩:∃y,items[j]?=some y:=⟨_,List.getElem?_eq_getElem hlt⟩
      have hks:=ay.aA (S:=fun _=>False) hbel
      obtain⟨_,_,_,b,off,cs,rfl,_,hel,hcell⟩:=gy (H4.out.to (T:=S) (by decide) hks (fun b hb _=>⟨id,hb⟩) (fun _ _ e=>e.to hks (fun b hb _=>⟨id,hb⟩))) hy
      obtain⟨aa1,nn1,cc1,rfl,hargs⟩:=hel
      have HC:=hid (HG.out y (List.mem_of_getElem? hy) _ wr hargs)
      have HT:=hid (iV (fun x:It=>lX x.xs) hy)
      have HFL:=hid (fun hp=>jC (fun x:It=>lX x.xs) (n:=20) hy hl2 hp)
      have q1:=hcell 1 _ rfl
      have HBR:=hid hbel
      clear hbel hcell hy hks hargs
      cases hp:lX y.xs with
      |
       true =>
       rw[hp] at HC HT
       have HK2:Hid ((items.take (j+1)).all (fun x=>lX x.xs)=true):=hid (by rw[HT.out,HK.out];rfl)
       clear HK hp HT HFL
       go_wp2_with fail
       refine HC.out.mono ?_
       rintro e w2 ⟨rfl,hb2⟩
       have HB2:Hid (Below W.heap.size W w2):=hid (HBR.out.trans (hb2.mono HBR.out.size))
       clear hb2 HC
       go_wp2
       go_roundw
       case rel=>exact⟨j+1,by omega,by omega,by go_num,HB2.out,HK2⟩
       case measure=>simp[intOf];omega
      |
       false =>
       rw[hp] at HC
       have HXF:Hid (X=false):=hid (by
        rw[← HX.out,HS.out,HFL.out hp]
        rfl)
       clear HK hp HT HFL
       go_wp2_with fail
       refine HC.out.mono ?_
       rintro e w2 ⟨rfl,hb2⟩
       have HB2:Hid (Below w.heap.size w w2):=hid (HB.out.trans ((HBR.out.trans (hb2.mono HBR.out.size)).mono HB.out.size))
       clear hb2 HC
       go_wp2
       go_ret
       exact⟨by rw[HXF.out];rfl,HB2.out⟩
     ·have hend:(((j:Int)<(items.length:Int))∧¬((j:Int)<20))∨¬((j:Int)<(items.length:Int)):=by omega
      have HI:Hid ((items.take 20).all (fun x=>lX x.xs)=true):=hid (by
       have:=HK.out
       by_cases h20:j=20
       ·rw[h20] at this;exact this
       ·rw[List.take_of_length_le (by omega)] at this
        rw[List.all_eq_true] at this ⊢
        exact fun y hy=>this y (List.mem_of_mem_take hy))
      have HX2:Hid ((decide (rows.length<100)&&(decide (tb.length≤4096)&&(decide (jn.length≤4096)&&(decide (prim.length≤4096)&&(b5&&(b6&&(b7&&b8)))))))=X):=hid (by
       have:=HX.out
       rw[HS.out,HI.out,Bool.true_and,Bool.true_and] at this
       exact this)
      obtain⟨wo,hwo⟩:∃wo,wo=wr:=⟨_,rfl⟩
      have HBO:Hid (Below W.heap.size W wo):=hid (by rw[hwo];exact hbel)
      have HBo:Hid (∀V,Below wo.heap.size wo V→Below w.heap.size w V):=hid (fun V hV=>HB.out.trans ((HBO.out.trans (hV.mono HBO.out.size)).mono HB.out.size))
      have HKo:Hid (∀V,Below wo.heap.size wo V→V.heap[w.heap.size]?=some (.cells #[.int .i64 k,.string (aj tb),.slice a1 n1 c1,.string (aj prim),.slice a2 rows.length c2,.slice a3 sets.length c3,.slice a4 items.length c4,.string (aj jn),.slice a5 n5 c5,.slice a6 n6 c6,.slice a7 n7 c7,.slice a8 n8 c8,.bool desc,.int .i64 lim] 42)):=hid (fun V hV=>((HBO.out.trans (hV.mono HBO.out.size)).block w.heap.size hzW).trans HC0.out)
      have HAo5:=hid (fun V (hV:Below wo.heap.size wo V)=>HA5.out V (HBO.out.trans (hV.mono HBO.out.size)))
      have HAo6:=hid (fun V (hV:Below wo.heap.size wo V)=>HA6.out V (HBO.out.trans (hV.mono HBO.out.size)))
      have HAo7:=hid (fun V (hV:Below wo.heap.size wo V)=>HA7.out V (HBO.out.trans (hV.mono HBO.out.size)))
      have HAo8:=hid (fun V (hV:Below wo.heap.size wo V)=>HA8.out V (HBO.out.trans (hV.mono HBO.out.size)))
      clear hbel HK hgo hj hj20 HA5 HA6 HA7 HA8 HBO HX HS HI H3 H4 HF HG HC0
      rcases hend with⟨hlt',hl2'⟩ | hlt'
      all_goals
       subst hwo
       by_cases d0:rows.length<100
       ·have d0':((rows.length:Int)<100):=by omega
        have HD0:=hid (decide_eq_true d0)
        clear d0
        by_cases d1:tb.length≤4096
        ·have d1':(((aj tb).size:Int)≤4096):=by rw[zt];omega
         have HD1:=hid (decide_eq_true d1)
         clear d1
         by_cases d2:jn.length≤4096
         ·have d2':(((aj jn).size:Int)≤4096):=by rw[zj];omega
          have HD2:=hid (decide_eq_true d2)
          clear d2
          by_cases d3:prim.length≤4096
          ·have d3':(((aj prim).size:Int)≤4096):=by rw[zp];omega
           have HD3:=hid (decide_eq_true d3)
           clear d3
           cases b5 with
           |
            false =>
            have HXF:Hid (X=false):=hid (by rw[← HX2.out];simp)
            go_wp2_with fail
            refine (HAo5.out wo (Below.refl _ _)).mono ?_
            rintro e v1 ⟨rfl,hbv⟩
            have HBv1:=hid hbv
            have kv1:=au (HKo.out v1 HBv1.out)
            clear hbv kW
            go_wp2
            go_ret
            exact⟨by rw[HXF.out];simp,HBo.out _ HBv1.out⟩
           |
            true =>
            cases b6 with
            |
             false =>
             have HXF:Hid (X=false):=hid (by rw[← HX2.out];simp)
             go_wp2_with fail
             refine (HAo5.out wo (Below.refl _ _)).mono ?_
             rintro e v1 ⟨rfl,hbv⟩
             have HBv1:=hid hbv
             have kv1:=au (HKo.out v1 HBv1.out)
             clear hbv kW
             go_wp2_with fail
             refine (HAo6.out v1 HBv1.out).mono ?_
             rintro e v2 ⟨rfl,hbv⟩
             have HBv2:Hid (Below wo.heap.size wo v2):=hid (HBv1.out.trans (hbv.mono HBv1.out.size))
             have kv2:=au (HKo.out v2 HBv2.out)
             clear hbv kv1
             go_wp2
             go_ret
             exact⟨by rw[HXF.out];simp,HBo.out _ HBv2.out⟩
            |
             true =>
             cases b7 with
             |
              false =>
              have HXF:Hid (X=false):=hid (by rw[← HX2.out];simp)
              go_wp2_with fail
              refine (HAo5.out wo (Below.refl _ _)).mono ?_
              rintro e v1 ⟨rfl,hbv⟩
              have HBv1:=hid hbv
              have kv1:=au (HKo.out v1 HBv1.out)
              clear hbv kW
              go_wp2_with fail
              refine (HAo6.out v1 HBv1.out).mono ?_
              rintro e v2 ⟨rfl,hbv⟩
              have HBv2:Hid (Below wo.heap.size wo v2):=hid (HBv1.out.trans (hbv.mono HBv1.out.size))
              have kv2:=au (HKo.out v2 HBv2.out)
              clear hbv kv1
              go_wp2_with fail
              refine (HAo7.out v2 HBv2.out).mono ?_
              rintro e v3 ⟨rfl,hbv⟩
              have HBv3:Hid (Below wo.heap.size wo v3):=hid (HBv2.out.trans (hbv.mono HBv2.out.size))
              have kv3:=au (HKo.out v3 HBv3.out)
              clear hbv kv2
              go_wp2
              go_ret
              exact⟨by rw[HXF.out];simp,HBo.out _ HBv3.out⟩
             |
              true =>
              cases b8 with
              |
               false =>
               have HXF:Hid (X=false):=hid (by rw[← HX2.out];simp)
               go_wp2_with fail
               refine (HAo5.out wo (Below.refl _ _)).mono ?_
               rintro e v1 ⟨rfl,hbv⟩
               have HBv1:=hid hbv
               have kv1:=au (HKo.out v1 HBv1.out)
               clear hbv kW
               go_wp2_with fail
               refine (HAo6.out v1 HBv1.out).mono ?_
               rintro e v2 ⟨rfl,hbv⟩
               have HBv2:Hid (Below wo.heap.size wo v2):=hid (HBv1.out.trans (hbv.mono HBv1.out.size))
               have kv2:=au (HKo.out v2 HBv2.out)
               clear hbv kv1
               go_wp2_with fail
               refine (HAo7.out v2 HBv2.out).mono ?_
               rintro e v3 ⟨rfl,hbv⟩
               have HBv3:Hid (Below wo.heap.size wo v3):=hid (HBv2.out.trans (hbv.mono HBv2.out.size))
               have kv3:=au (HKo.out v3 HBv3.out)
               clear hbv kv2
               go_wp2_with fail
               refine (HAo8.out v3 HBv3.out).mono ?_
               rintro e v4 ⟨rfl,hbv⟩
               have HBv4:Hid (Below wo.heap.size wo v4):=hid (HBv3.out.trans (hbv.mono HBv3.out.size))
               have kv4:=au (HKo.out v4 HBv4.out)
               clear hbv kv3
               go_wp2
               go_ret
               exact⟨by rw[HXF.out];simp,HBo.out _ HBv4.out⟩
              |
               true =>
               have HXT:Hid (X=true):=hid (by rw[← HX2.out,HD0.out,HD1.out,HD2.out,HD3.out];rfl)
               go_wp2_with fail
               refine (HAo5.out wo (Below.refl _ _)).mono ?_
               rintro e v1 ⟨rfl,hbv⟩
               have HBv1:=hid hbv
               have kv1:=au (HKo.out v1 HBv1.out)
               clear hbv kW
               go_wp2_with fail
               refine (HAo6.out v1 HBv1.out).mono ?_
               rintro e v2 ⟨rfl,hbv⟩
               have HBv2:Hid (Below wo.heap.size wo v2):=hid (HBv1.out.trans (hbv.mono HBv1.out.size))
               have kv2:=au (HKo.out v2 HBv2.out)
               clear hbv kv1
               go_wp2_with fail
               refine (HAo7.out v2 HBv2.out).mono ?_
               rintro e v3 ⟨rfl,hbv⟩
               have HBv3:Hid (Below wo.heap.size wo v3):=hid (HBv2.out.trans (hbv.mono HBv2.out.size))
               have kv3:=au (HKo.out v3 HBv3.out)
               clear hbv kv2
               go_wp2_with fail
               refine (HAo8.out v3 HBv3.out).mono ?_
               rintro e v4 ⟨rfl,hbv⟩
               have HBv4:Hid (Below wo.heap.size wo v4):=hid (HBv3.out.trans (hbv.mono HBv3.out.size))
               have kv4:=au (HKo.out v4 HBv4.out)
               clear hbv kv3
               go_wp2
               go_ret
               exact⟨by rw[HXT.out];simp,HBo.out _ HBv4.out⟩
          ·have d3' : ¬(((aj prim).size:Int)≤4096):=by rw[zp];omega
           have HXF:Hid (X=false):=hid (by rw[← HX2.out,decide_eq_false d3];simp)
           clear d3
           go_wp2
           go_ret
           exact⟨by rw[HXF.out];rfl,HBo.out _ (Below.refl _ _)⟩
         ·have d2' : ¬(((aj jn).size:Int)≤4096):=by rw[zj];omega
          have HXF:Hid (X=false):=hid (by rw[← HX2.out,decide_eq_false d2];simp)
          clear d2
          go_wp2
          go_ret
          exact⟨by rw[HXF.out];rfl,HBo.out _ (Below.refl _ _)⟩
        ·have d1' : ¬(((aj tb).size:Int)≤4096):=by rw[zt];omega
         have HXF:Hid (X=false):=hid (by rw[← HX2.out,decide_eq_false d1];simp)
         clear d1
         go_wp2
         go_ret
         exact⟨by rw[HXF.out];rfl,HBo.out _ (Below.refl _ _)⟩
       ·have d0' : ¬((rows.length:Int)<100):=by omega
        have HXF:Hid (X=false):=hid (by rw[← HX2.out,decide_eq_false d0];simp)
        clear d0
        go_wp2
        go_ret
        exact⟨by rw[HXF.out];rfl,HBo.out _ (Below.refl _ _)⟩
end Go.Proofs.YtnidnipiihhnaaaGreatDoor
