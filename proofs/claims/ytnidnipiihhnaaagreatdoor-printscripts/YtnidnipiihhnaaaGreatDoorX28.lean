/- Packed for the hand-in: WFew -/
import Derived.Test.YtnidnipiihhnaaaGreatDoorX16
import Derived.Test.YtnidnipiihhnaaaGreatDoorX26
namespace Go.Proofs.YtnidnipiihhnaaaGreatDoor
open Go.RowKit Go.Shelf
set_option linter.unusedSimpArgs false
set_option linter.unusedVariables false
set_option maxRecDepth 20000
set_option maxHeartbeats 8000000
theorem i64F : ∀n:Int,0≤n→n<2 ^ 62→IntKind.i64.wrap n=n:=by
 intro n h0 h1
 rw[IntKind.wrap_i64]
 simp only[Int.reducePow] at h1
 omega
def fewB:Nat→Ex→Bool
 | 0,_=>false
 | d+1,.mk _ _ tb nm v xs=>decide (xs.length≤3)&&(decide (tb.length≤4096)&&(decide (nm.length≤4096)&&(decide (v.s.length≤4096)&&xs.all (fewB d))))
theorem few_tm : ∀(d:Nat) (t:Tm),t.ok→fewB d t.ex=true→t.sz+1≤2 ^ d
 | 0,t,_,h=>by cases h
 |
  d+1,.val v,_,h=>by
  show 1+1≤2 ^ (d+1)
  have:=Nat.one_le_two_pow (n:=d)
  omega
 |
  d+1,.col _ _,_,h=>by
  show 1+1≤2 ^ (d+1)
  have:=Nat.one_le_two_pow (n:=d)
  omega
 |
  d+1,.op o a b,hok,h=>by
  have h':fewB (d+1) (.mk 3 o [] [] zV [a.ex,b.ex])=true:=h
  simp only[fewB,Bool.and_eq_true,List.all_cons,List.all_nil,Bool.and_true] at h'
  have h1:=few_tm d a hok.2.2.1 h'.2.2.2.2.1
  have h2:=few_tm d b hok.2.2.2 h'.2.2.2.2.2
  show a.sz+b.sz+1+1≤2 ^ (d+1)
  omega
 |
  d+1,.not a,hok,h=>by
  have h':fewB (d+1) (.mk 4 0 [] [] zV [a.ex])=true:=h
  simp only[fewB,Bool.and_eq_true,List.all_cons,List.all_nil,Bool.and_true] at h'
  have h1:=few_tm d a hok.2 h'.2.2.2.2
  have:=Nat.one_le_two_pow (n:=d)
  show a.sz+1+1≤2 ^ (d+1)
  omega
 |
  d+1,.neg a,hok,h=>by
  have h':fewB (d+1) (.mk 5 0 [] [] zV [a.ex])=true:=h
  simp only[fewB,Bool.and_eq_true,List.all_cons,List.all_nil,Bool.and_true] at h'
  have h1:=few_tm d a hok h'.2.2.2.2
  have:=Nat.one_le_two_pow (n:=d)
  show a.sz+1+1≤2 ^ (d+1)
  omega
 |
  d+1,.nul a,hok,h=>by
  have h':fewB (d+1) (.mk 6 0 [] [] zV [a.ex])=true:=h
  simp only[fewB,Bool.and_eq_true,List.all_cons,List.all_nil,Bool.and_true] at h'
  have h1:=few_tm d a hok h'.2.2.2.2
  have:=Nat.one_le_two_pow (n:=d)
  show a.sz+1+1≤2 ^ (d+1)
  omega
 |
  1,.nnul a,hok,h=>by
  have h':fewB 1 (.mk 4 0 [] [] zV [.mk 6 0 [] [] zV [a.ex]])=true:=h
  simp[fewB] at h'
 |
  d+2,.nnul a,hok,h=>by
  have h':fewB (d+2) (.mk 4 0 [] [] zV [.mk 6 0 [] [] zV [a.ex]])=true:=h
  simp only[fewB,Bool.and_eq_true,List.all_cons,List.all_nil,Bool.and_true] at h'
  have h1:=few_tm d a hok h'.2.2.2.2.2.2.2.2
  have:=Nat.one_le_two_pow (n:=d)
  have e:2 ^ (d+2)=4*2 ^ d:=by rw[Nat.pow_add];omega
  show a.sz+2+1≤2 ^ (d+2)
  omega
theorem few_size {x:Ex} (h:rightE x=true) (hf:fewB 12 x=true):exZ x≤5000:=by
 obtain⟨h1,h2⟩:=right_ok h
 rw[← h2] at hf
 have:=few_tm 12 _ h1 hf
 unfold exZ
 omega
def fewA (l:List Ex):Bool:=(l.take 20).all (fewB 12)
def fewS (s:St):Bool:=(s.sets.take 20).all (fun x=>fewB 12 x.e)&&((s.items.take 20).all (fun i=>fewA i.xs)&&(decide (s.rows.length<100)&&(decide (s.tb.length≤4096)&&(decide (s.jn.length≤4096)&&(decide (s.prim.length≤4096)&&(fewA s.on&&(fewA s.wh&&(fewA s.gr&&fewA s.od))))))))
theorem fewS_size {s:St} (h:rightS s=true) (hf:fewS s=true):∀e∈exsS s,exZ e≤5000:=by
 unfold fewS at hf
 simp only[Bool.and_eq_true] at hf
 obtain⟨f1,f2,_,_,_,_,f3,f4,f5,f6⟩:=hf
 have one : ∀(l:List Ex),l.length≤20→(∀e∈l,rightE e=true)→fewA l=true→∀e∈l,exZ e≤5000:=fun l hl hr hfa e he=>by
  unfold fewA at hfa
  rw[List.take_of_length_le hl,List.all_eq_true] at hfa
  exact few_size (hr e he) (hfa e he)
 have col : ∀{l:List Ex},areB l 0 1 colEB=true→∀e∈l,rightE e=true:=fun {l} hl e he=>by
  have:=areB_mem hl e he
  unfold colEB at this
  rw[Bool.and_eq_true] at this
  exact this.2
 unfold rightS at h
 simp only[Bool.and_eq_true] at h
 obtain⟨hk,_,he⟩:=h
 have hz:=emp_parts he
 clear he
 obtain⟨k,tb,cols,prim,rows,sets,items,jn,on,wh,gr,od,desc,lim⟩:=s
 unfold kindB at hk
 unfold restS zSt at hz
 dsimp only at hk hz f1 f2 f3 f4 f5 f6
 intro e he
 unfold exsS at he
 dsimp only at he
 split at hk
 ·rename_i h1
  rw[if_pos h1] at hz
  simp only[St.mk.injEq,true_and,and_true] at hz
  obtain⟨rfl,rfl,rfl,rfl,rfl,rfl,rfl,rfl,rfl,rfl⟩:=hz
  simp at he
 ·rename_i h1
  rw[if_neg h1] at hz
  split at hk
  ·rename_i h2
   rw[if_neg (by omega),if_neg (by omega),if_neg (by omega),if_neg (by omega)] at hz
   simp only[St.mk.injEq,true_and,and_true] at hz
   obtain⟨rfl,rfl,rfl,rfl,rfl,rfl,rfl,rfl,rfl,rfl,rfl,rfl⟩:=hz
   simp at he
  ·rename_i h2
   split at hk
   ·rename_i h3
    rw[if_pos h3] at hz
    simp only[St.mk.injEq,true_and,and_true] at hz
    obtain⟨rfl,rfl,rfl,rfl,rfl,rfl,rfl,rfl,rfl,rfl,rfl⟩:=hz
    simp at he
   ·rename_i h3
    rw[if_neg h3] at hz
    split at hk
    ·rename_i h4
     rw[if_pos h4] at hz
     simp only[St.mk.injEq,true_and,and_true] at hz
     obtain⟨rfl,rfl,rfl,rfl,rfl,rfl,rfl,rfl,rfl,rfl⟩:=hz
     rw[Bool.and_eq_true] at hk
     have he':e∈sets.map (fun x=>x.e)++wh:=by simpa using he
     rcases List.mem_append.1 he' with he | he
     ·obtain⟨x,hx,rfl⟩:=List.mem_map.1 he
      have hs:=areB_mem hk.1 x hx
      unfold setB at hs
      rw[Bool.and_eq_true] at hs
      rw[List.take_of_length_le (by have:=(areB_len hk.1).2;omega),List.all_eq_true] at f1
      exact few_size hs.2 (f1 x hx)
     ·exact one wh (by have:=(areB_len hk.2).2;omega) (areB_mem hk.2) f4 e he
    ·rename_i h4
     rw[if_neg h4] at hz
     split at hk
     ·rename_i h5
      rw[if_pos h5] at hz
      simp only[St.mk.injEq,true_and,and_true] at hz
      obtain⟨rfl,rfl,rfl,rfl,rfl,rfl,rfl,rfl,rfl,rfl,rfl⟩:=hz
      have he':e∈wh:=by simpa using he
      exact one wh (by have:=(areB_len hk).2;omega) (areB_mem hk) f4 e he'
     ·rename_i h5
      rw[if_neg h5] at hz
      split at hk
      ·rename_i h6
       rw[if_pos h6] at hz
       simp only[St.mk.injEq,true_and,and_true] at hz
       obtain⟨rfl,rfl,rfl,rfl⟩:=hz
       unfold selB at hk
       simp only[Bool.and_eq_true] at hk
       obtain⟨q1,q2,q3,q4,q5,q6,q7,q8⟩:=hk
       have j1:joinN jn≤1:=by unfold joinN;split<;>omega
       have he':e∈items.flatMap (fun i=>i.xs)++(on++(wh++(gr++od))):=by simpa using he
       rcases List.mem_append.1 he' with he | he
       ·obtain⟨x,hx,hxe⟩:=List.mem_flatMap.1 he
        have hb:=areB_mem q1 x hx
        rw[List.take_of_length_le (by have:=(areB_len q1).2;omega),List.all_eq_true] at f2
        unfold itB at hb
        split at hb
        ·have:x.xs=[]:=List.eq_nil_of_length_eq_zero (by simpa using hb)
         rw[this] at hxe;cases hxe
        ·split at hb
         ·exact one x.xs (by have:=(areB_len hb).2;omega) (areB_mem hb) (f2 x hx) e hxe
         ·cases hb
       rcases List.mem_append.1 he with he | he
       ·exact one on (by have:=(areB_len q3).2;omega) (areB_mem q3) f3 e he
       rcases List.mem_append.1 he with he | he
       ·exact one wh (by have:=(areB_len q4).2;omega) (areB_mem q4) f4 e he
       rcases List.mem_append.1 he with he | he
       ·exact one gr (by have:=(areB_len q5).2;omega) (col q5) f5 e he
       ·exact one od (by have:=(areB_len q6).2;omega) (col q6) f6 e he
      ·cases hk
theorem all_take_succ {α:Type} (p:α→Bool) {xs:List α} {k:Nat} {x:α} (hx:xs[k]?=some x):(xs.take (k+1)).all p=((xs.take k).all p&&p x):=by
 obtain⟨h1,h2⟩:=List.getElem?_eq_some_iff.1 hx
 rw[List.take_succ_eq_append_getElem h1,h2,List.all_append]
 simp
theorem all_take_false {α:Type} (p:α→Bool) {xs:List α} {k n:Nat} {x:α} (hx:xs[k]?=some x) (hk:k<n) (hp:p x=false):(xs.take n).all p=false:=by
 rw[Bool.eq_false_iff]
 intro h
 have hm:x∈xs.take n:=by
  obtain⟨h1,h2⟩:=List.getElem?_eq_some_iff.1 hx
  rw[← h2]
  exact List.mem_of_getElem? (i:=k) (by rw[List.getElem?_take,if_pos hk];exact List.getElem?_eq_getElem h1)
 have:=List.all_eq_true.1 h x hm
 rw[hp] at this
 cases this
theorem few_any (S:Nat→Prop):∀(d:Nat) (x:Ex) (v:Value) (w:World),d≤100→RgE x→ExV S w x v→Calls Tryz.prog 9 #[v,.int .i64 d] w fun e w'=>e = .returned (.bool (fewB d x))∧Below w.heap.size w w':=by
 intro d
 induction d with
 |
  zero =>
  intro x v w hd hR hx
  obtain⟨k,op,tb,nm,vk,vn,vs,ys,aa,nn,cc,rfl,rfl,ha⟩:=hx
  obtain⟨W,hW,hbW,hzW,hcW⟩:=box8 w (.cells #[.int .i64 k,.int .i64 op,.string (str8 tb),.string (str8 nm),.int .i64 vk,.int .i64 vn,.string (str8 vs),.slice aa nn cc] 26)
  have k0:=cells8 hcW
  have HB:=hid hbW
  clear hbW hcW ha hR
  show Calls Tryz.prog 9 _ w fun e w'=>e = .returned (.bool false)∧_
  go_enter Tryz.func9,Tryz.ntmps9
  go_wp2
  go_ret
  exact⟨rfl,HB.out⟩
 |
  succ d ih =>
  intro x v w hd hR hx
  obtain⟨k,op,tb,nm,vk,vn,vs,ys,aa,nn,cc,rfl,rfl,ha⟩:=hx
  obtain⟨W,hW,hbW,hzW,hcW⟩:=box8 w (.cells #[.int .i64 k,.int .i64 op,.string (str8 tb),.string (str8 nm),.int .i64 vk,.int .i64 vn,.string (str8 vs),.slice aa nn cc] 26)
  have hsl:=args_sl ha
  have HV:=hid (hsl.to (T:=S) (by decide) (R:=fun _=>False) (Spares.of_new hbW) (fun b hb _=>⟨id,hb⟩) (fun _ _ e=>e.to (R:=fun _=>False) (Spares.of_new hbW) (fun b hb _=>⟨id,hb⟩)))
  obtain⟨a',c',css,hv,h1,h2,_⟩:=hsl
  simp only[Value.slice.injEq] at hv
  obtain⟨rfl,rfl,rfl⟩:=hv
  unfold maxLen at h2
  have hRy : ∀y∈ys,RgE y:=by cases hR with | mk _ _ _ _ _ _ _ _ _ _ _ hx=>exact hx
  have k0:=cells8 hcW
  have HC0:=hid hcW
  have HB:=hid hbW
  have zt:(str8 tb).size=tb.length:=rfl
  have zn:(str8 nm).size=nm.length:=rfl
  have zv:(str8 vs).size=vs.length:=rfl
  have hd1:((((d+1:Nat):Int))==0)=false:=by
   rw[beq_eq_false_iff_ne]
   omega
  have hdm:IntKind.i64.wrap (((d+1:Nat):Int)-1)=(d:Int):=by
   have e:((d+1:Nat):Int)-1=(d:Int):=by omega
   rw[e]
   exact i64F _ (by omega) (by simp only[Int.reducePow];omega)
  have HI:=hid (fun y (hy:y∈ys) u V (hV:ExV S V y u)=>ih y u V (by omega) (hRy y hy) hV)
  clear ih hR hRy ha hbW hcW
  generalize (((d+1:Nat):Int))=D at hd1 hdm ⊢
  show Calls Tryz.prog 9 _ w fun e w'=>e = .returned (.bool (decide (ys.length≤3)&&(decide (tb.length≤4096)&&(decide (nm.length≤4096)&&(decide (vs.length≤4096)&&ys.all (fewB d))))))∧_
  by_cases c1:ys.length≤3
  ·rw[decide_eq_true c1,Bool.true_and]
   have c1' : ¬((3:Int)<(ys.length:Int)):=by omega
   by_cases c2:tb.length≤4096
   ·rw[decide_eq_true c2,Bool.true_and]
    have c2' : ¬((4096:Int)<((str8 tb).size:Int)):=by rw[zt];omega
    by_cases c3:nm.length≤4096
    ·rw[decide_eq_true c3,Bool.true_and]
     have c3' : ¬((4096:Int)<((str8 nm).size:Int)):=by rw[zn];omega
     by_cases c4:vs.length≤4096
     ·rw[decide_eq_true c4,Bool.true_and]
      have c4' : ¬((4096:Int)<((str8 vs).size:Int)):=by rw[zv];omega
      clear zt zn zv c2 c3 c4
      obtain⟨X,hX⟩:∃X,ys.all (fewB d)=X:=⟨_,rfl⟩
      rw[hX]
      have HX:=hid hX
      clear hX
      go_enter Tryz.func9,Tryz.ntmps9
      go_wp2_with fail
      go_loopw [5,6] (fun i _ wr=>∃(j:Nat),j≤ys.length∧i = .int .i64 j∧Below W.heap.size W wr∧Hid ((ys.take j).all (fewB d)=true)) (fun i _ _=>ys.length-(intOf i).toNat)
      case atStart=>exact⟨0,Nat.zero_le _,rfl,Below.refl _ _,hid rfl⟩
      case round =>
       obtain⟨j,hj,rfl,hbel,HK⟩:=hrel
       have kW:=cells8 ((hbel.block w.heap.size hzW).trans HC0.out)
       by_cases hlt:j<ys.length
       ·obtain⟨y,hy⟩:∃y,ys[j]?=some y:=⟨_,List.getElem?_eq_getElem hlt⟩
        have hlt':((j:Int)<(ys.length:Int)):=by omega
        obtain⟨_,_,_,b,off,cs,rfl,_,hel,hcell⟩:=sl_get (HV.out.to (T:=S) (by decide) (R:=fun _=>False) (Spares.of_new hbel) (fun b hb _=>⟨id,hb⟩) (fun _ _ e=>e.to (R:=fun _=>False) (Spares.of_new hbel) (fun b hb _=>⟨id,hb⟩))) hy
        have HC:=hid (HI.out y (List.mem_of_getElem? hy) _ wr hel.v)
        have HT:=hid (all_take_succ (fewB d) hy)
        have HFL:=hid (fun hp=>all_take_false (fewB d) (n:=ys.length) hy hlt hp)
        obtain⟨k1,op1,tb1,nm1,vk1,vn1,vs1,ys1,aa1,nn1,cc1,_,rfl,_⟩:=hel
        have q0:=hcell 0 _ rfl
        have q1:=hcell 1 _ rfl
        have q2:=hcell 2 _ rfl
        have q3:=hcell 3 _ rfl
        have q4:=hcell 4 _ rfl
        have q5:=hcell 5 _ rfl
        have q6:=hcell 6 _ rfl
        have q7:=hcell 7 _ rfl
        simp only[Nat.add_zero] at q0
        have HBR:=hid hbel
        clear hbel hcell hy
        cases hp:fewB d y with
        |
         true =>
         rw[hp] at HC HT
         have HK2:Hid ((ys.take (j+1)).all (fewB d)=true):=hid (by rw[HT.out,HK.out];rfl)
         clear HK hp HT HFL
         go_wp2_with fail
         refine HC.out.mono ?_
         rintro e w2 ⟨rfl,hb2⟩
         have HB2:Hid (Below W.heap.size W w2):=hid (HBR.out.trans (hb2.mono HBR.out.size))
         clear hb2 HC
         go_wp2
         go_roundw
         case rel=>exact⟨j+1,by omega,by go_num,HB2.out,HK2⟩
         case measure=>simp[intOf];omega
        |
         false =>
         rw[hp] at HC
         have HXF:Hid (X=false):=hid (by
          rw[← HX.out]
          have:=HFL.out hp
          rw[List.take_of_length_le (Nat.le_refl _)] at this
          exact this)
         clear HK hp HT HFL
         go_wp2_with fail
         refine HC.out.mono ?_
         rintro e w2 ⟨rfl,hb2⟩
         have HB2:Hid (Below w.heap.size w w2):=hid (HB.out.trans ((HBR.out.trans (hb2.mono HBR.out.size)).mono HB.out.size))
         clear hb2 HC
         go_wp2
         go_ret
         exact⟨by rw[HXF.out];rfl,HB2.out⟩
       ·have hlt' : ¬((j:Int)<(ys.length:Int)):=by omega
        have HXT:Hid (X=true):=hid (by rw[← HX.out];have:=HK.out;rw[List.take_of_length_le (by omega)] at this;exact this)
        have HB2:Hid (Below w.heap.size w wr):=hid (HB.out.trans (hbel.mono HB.out.size))
        clear hbel HK
        go_wp2
        go_ret
        exact⟨by rw[HXT.out];rfl,HB2.out⟩
     ·rw[decide_eq_false c4,Bool.false_and]
      have c4':((4096:Int)<((str8 vs).size:Int)):=by rw[zv];omega
      clear zt zn zv c2 c3 c4 HI HV HC0
      go_enter Tryz.func9,Tryz.ntmps9
      go_wp2
      go_ret
      exact⟨rfl,HB.out⟩
    ·rw[decide_eq_false c3,Bool.false_and]
     have c3':((4096:Int)<((str8 nm).size:Int)):=by rw[zn];omega
     clear zt zn zv c2 c3 HI HV HC0
     go_enter Tryz.func9,Tryz.ntmps9
     go_wp2
     go_ret
     exact⟨rfl,HB.out⟩
   ·rw[decide_eq_false c2,Bool.false_and]
    have c2':((4096:Int)<((str8 tb).size:Int)):=by rw[zt];omega
    clear zt zn zv c2 HI HV HC0
    go_enter Tryz.func9,Tryz.ntmps9
    go_wp2
    go_ret
    exact⟨rfl,HB.out⟩
  ·rw[decide_eq_false c1,Bool.false_and]
   have c1':((3:Int)<(ys.length:Int)):=by omega
   clear zt zn zv c1 HI HV HC0
   go_enter Tryz.func9,Tryz.ntmps9
   go_wp2
   go_ret
   exact⟨rfl,HB.out⟩
theorem fewAll_any (S:Nat→Prop) (xs:List Ex) (v:Value) (w:World) (hR : ∀x∈xs,RgE x) (hx:ArgsAt S w xs v):Calls Tryz.prog 27 #[v] w fun e w'=>e = .returned (.bool (fewA xs))∧Below w.heap.size w w':=by
 have hsl:=args_sl hx
 have HV:=hid hsl
 obtain⟨aa,cc,css,rfl,h1,h2,_⟩:=hsl
 unfold maxLen at h2
 have HF:=hid (fun y (hy:y∈xs) u V (hV:ExV S V y u)=>few_any S 12 y u V (by decide) (hR y hy) hV)
 obtain⟨X,hX⟩:∃X,fewA xs=X:=⟨_,rfl⟩
 rw[hX]
 unfold fewA at hX
 have HX:=hid hX
 clear hX hR hx
 go_enter Tryz.func27,Tryz.ntmps27
 go_wp2_with fail
 go_loopw [3,4] (fun i _ wr=>∃(j:Nat),j≤xs.length∧j≤20∧i = .int .i64 j∧Below w.heap.size w wr∧Hid ((xs.take j).all (fewB 12)=true)) (fun i _ _=>xs.length-(intOf i).toNat)
 case atStart=>exact⟨0,Nat.zero_le _,Nat.zero_le _,rfl,Below.refl _ _,hid rfl⟩
 case round =>
  obtain⟨j,hj,hj20,rfl,hbel,HK⟩:=hrel
  by_cases hlt:j<xs.length
  ·have hlt':((j:Int)<(xs.length:Int)):=by omega
   by_cases hl2:j<20
   ·have hl2':((j:Int)<20):=by omega
    obtain⟨y,hy⟩:∃y,xs[j]?=some y:=⟨_,List.getElem?_eq_getElem hlt⟩
    obtain⟨_,_,_,b,off,cs,rfl,_,hel,hcell⟩:=sl_get (HV.out.to (T:=S) (by decide) (R:=fun _=>False) (Spares.of_new hbel) (fun b hb _=>⟨id,hb⟩) (fun _ _ e=>e.to (R:=fun _=>False) (Spares.of_new hbel) (fun b hb _=>⟨id,hb⟩))) hy
    have HC:=hid (HF.out y (List.mem_of_getElem? hy) _ wr hel.v)
    have HT:=hid (all_take_succ (fewB 12) hy)
    have HFL:=hid (fun hp=>all_take_false (fewB 12) (n:=20) hy hl2 hp)
    obtain⟨k1,op1,tb1,nm1,vk1,vn1,vs1,ys1,aa1,nn1,cc1,_,rfl,_⟩:=hel
    have q0:=hcell 0 _ rfl
    have q1:=hcell 1 _ rfl
    have q2:=hcell 2 _ rfl
    have q3:=hcell 3 _ rfl
    have q4:=hcell 4 _ rfl
    have q5:=hcell 5 _ rfl
    have q6:=hcell 6 _ rfl
    have q7:=hcell 7 _ rfl
    simp only[Nat.add_zero] at q0
    have HBR:=hid hbel
    clear hbel hcell hy
    cases hp:fewB 12 y with
    |
     true =>
     rw[hp] at HC HT
     have HK2:Hid ((xs.take (j+1)).all (fewB 12)=true):=hid (by rw[HT.out,HK.out];rfl)
     clear HK hp HT HFL
     go_wp2_with fail
     refine HC.out.mono ?_
     rintro e w2 ⟨rfl,hb2⟩
     have HB2:Hid (Below w.heap.size w w2):=hid (HBR.out.trans (hb2.mono HBR.out.size))
     clear hb2 HC
     go_wp2
     go_roundw
     case rel=>exact⟨j+1,by omega,by omega,by go_num,HB2.out,HK2⟩
     case measure=>simp[intOf];omega
    |
     false =>
     rw[hp] at HC
     have HXF:Hid (X=false):=hid (by
      rw[← HX.out]
      exact HFL.out hp)
     clear HK hp HT HFL
     go_wp2_with fail
     refine HC.out.mono ?_
     rintro e w2 ⟨rfl,hb2⟩
     have HB2:Hid (Below w.heap.size w w2):=hid (HBR.out.trans (hb2.mono HBR.out.size))
     clear hb2 HC
     go_wp2
     go_ret
     exact⟨by rw[HXF.out];rfl,HB2.out⟩
   ·have hl2' : ¬((j:Int)<20):=by omega
    have HXT:Hid (X=true):=hid (by rw[← HX.out];have:=HK.out;rw[show j=20 by omega] at this;exact this)
    have HB2:=hid hbel
    clear hbel HK
    go_wp2
    go_ret
    exact⟨by rw[HXT.out];rfl,HB2.out⟩
  ·have hlt' : ¬((j:Int)<(xs.length:Int)):=by omega
   have HXT:Hid (X=true):=hid (by
    rw[← HX.out]
    have:=HK.out
    rw[List.take_of_length_le (by omega)] at this
    rw[List.all_eq_true] at this ⊢
    exact fun y hy=>this y (List.mem_of_mem_take hy))
   have HB2:=hid hbel
   clear hbel HK
   go_wp2
   go_ret
   exact⟨by rw[HXT.out];rfl,HB2.out⟩
end Go.Proofs.YtnidnipiihhnaaaGreatDoor
