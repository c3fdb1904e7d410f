/- Packed for the hand-in: KTabs WFew KSmall -/
import Derived.Test.YtfeglkleoijlaaaGreatDoorZ43
import Derived.Test.YtfeglkleoijlaaaGreatDoorZ15
import Derived.Test.YtfeglkleoijlaaaGreatDoorZ25
namespace Go.Proofs.YtfeglkleoijlaaaGreatDoor
open Go.RowKit Go.Shelf
set_option linter.unusedSimpArgs false
set_option linter.unusedVariables false
set_option maxRecDepth 20000
set_option maxHeartbeats 8000000
def Io:Tb:=⟨[116],[⟨[105,100],1,true,true⟩,⟨[110],1,false,false⟩,⟨[115],2,false,false⟩],0⟩
def Ig:Tb:=⟨[117],[⟨[105,100],1,true,true⟩,⟨[107],2,false,false⟩],0⟩
def eB:List Tb:=[Io,Ig]
theorem oL : ∀t∈eB,oo t:=fun t ht=>by
 simp only[eB,List.mem_cons,List.not_mem_nil,or_false] at ht
 rcases ht with rfl | rfl
 ·refine ⟨by decide,by decide,by decide,fun c hc=>?_⟩
  simp only[Io,List.mem_cons,List.not_mem_nil,or_false] at hc
  rcases hc with rfl | rfl | rfl<;>exact⟨by decide,by decide⟩
 ·refine ⟨by decide,by decide,by decide,fun c hc=>?_⟩
  simp only[Ig,List.mem_cons,List.not_mem_nil,or_false] at hc
  rcases hc with rfl | rfl<;>exact⟨by decide,by decide⟩
theorem mI (w:World):Calls Tryz.prog 8 #[] w fun e w'=>∃(a:Option Addr) (c:Nat) (css:List (List Value)),e = .returned (.slice a 2 c)∧w'.ownsRow w.heap.size 42 3 (.slice a 2 c) 2 css.flatten∧gJ 3 dK (fun b=>w.heap.size≤b) w' eB css∧(Value.slice a 2 c).ownBlock=some (w.heap.size+2)∧gJ 3 dK (fun b=>w.heap.size≤b∧b<w.heap.size+2) w' eB css∧w'.heap.size=w.heap.size+3∧Below w.heap.size w w':=by
 obtain⟨W,hWW,hbW,hzW,hcA,hcB,hcC⟩:=x9 w (.cells #[.string ⟨#[105,100]⟩,.int .i64 1,.bool true,.bool true,.string ⟨#[110]⟩,.int .i64 1,.bool false,.bool false,.string ⟨#[115]⟩,.int .i64 2,.bool false,.bool false] 60) (.cells #[.string ⟨#[105,100]⟩,.int .i64 1,.bool true,.bool true,.string ⟨#[107]⟩,.int .i64 2,.bool false,.bool false] 60) (.cells #[.string ⟨#[116]⟩,.slice (some ⟨w.heap.size,0,none⟩) 3 3,.int .i64 0,.string ⟨#[117]⟩,.slice (some ⟨w.heap.size+1,0,none⟩) 2 2,.int .i64 0] 42)
 have hoA:W.ownsRow w.heap.size 60 4 (.slice (some ⟨w.heap.size,0,none⟩) 3 3) Io.cols.length (dx Io.cols):=⟨by rfl,.inr ⟨w.heap.size,3,_,rfl,Nat.le_refl _,hcA,by decide,by unfold maxLen;omega,rfl,rfl⟩⟩
 have hoB:W.ownsRow w.heap.size 60 4 (.slice (some ⟨w.heap.size+1,0,none⟩) 2 2) Ig.cols.length (dx Ig.cols):=⟨by rfl,.inr ⟨w.heap.size+1,2,_,rfl,by omega,hcB,by decide,by unfold maxLen;omega,rfl,rfl⟩⟩
 have hE : ∀(S:Nat→Prop),S w.heap.size→S (w.heap.size+1)→gJ 3 dK S W eB [[.string ⟨#[116]⟩,.slice (some ⟨w.heap.size,0,none⟩) 3 3,.int .i64 0],[.string ⟨#[117]⟩,.slice (some ⟨w.heap.size+1,0,none⟩) 2 2,.int .i64 0]]:=fun S h0 h1=>⟨rfl,fun j x cs hx hc=>by
  match j,hx,hc with
  |
   0,hx,hc =>
   simp only[eB,List.getElem?_cons_zero,Option.some.injEq] at hx hc
   subst hx hc
   exact⟨rfl,_,_,_,rfl,aQ.dW (by decide) hoA (l7 _ _ _) (fun b hb=>by injection hb with hb;rw[← hb];exact h0)⟩
  |
   1,hx,hc =>
   simp only[eB,List.getElem?_cons_zero,List.getElem?_cons_succ,Option.some.injEq] at hx hc
   subst hx hc
   exact⟨rfl,_,_,_,rfl,aQ.dW (by decide) hoB (l7 _ _ _) (fun b hb=>by injection hb with hb;rw[← hb];exact h1)⟩
  | j+2,hx,_=>simp[eB] at hx⟩
 have hoC:W.ownsRow w.heap.size 42 3 (.slice (some ⟨w.heap.size+2,0,none⟩) 2 2) 2 ([[.string ⟨#[116]⟩,.slice (some ⟨w.heap.size,0,none⟩) 3 3,.int .i64 0],[.string ⟨#[117]⟩,.slice (some ⟨w.heap.size+1,0,none⟩) 2 2,.int .i64 0]]:List (List Value)).flatten:=⟨by rfl,.inr ⟨w.heap.size+2,2,_,rfl,by omega,hcC,by decide,by unfold maxLen;omega,rfl,rfl⟩⟩
 have HO:=hid hoC
 have HE:=hid hE
 have HB:=hid hbW
 clear hoA hoB hoC hE hbW hcA hcB hcC
 go_enter Tryz.func8,Tryz.ntmps8
 go_wp2_with fail
 try rw[hWW]
 go_ret
 exact⟨_,_,_,rfl,HO.out,HE.out _ (Nat.le_refl _) (by omega),rfl,HE.out _ ⟨Nat.le_refl _,by omega⟩ ⟨by omega,by omega⟩,hzW,HB.out⟩
abbrev colE (tb nm:ByteArray):Array Value:=#[.int .i64 2,.int .i64 0,.string tb,.string nm,.int .i64 0,.int .i64 0,.string ⟨#[]⟩,.slice none 0 0]
theorem gV (tb nm:ByteArray) (w:World):Calls Tryz.prog 13 #[.string tb,.string nm] w fun e w'=>e = .returned (.agg (colE tb nm))∧Below w.heap.size w w':=by
 obtain⟨W,hWW,hbW,hzW,hcW⟩:=aL w (.cells (colE tb nm) 48)
 have k0:=aN hcW
 have HB:=hid hbW
 clear hbW hcW
 go_enter Tryz.func13,Tryz.ntmps13
 go_wp2_with (first | (refine wpList_store_row rfl 48 (.tmp 4) (.tmp 7) rfl w.heap.size (colE tb nm) rfl rfl 48 bS (heap_alloc_new w _) Tryz.bA rfl (bE _ _ _ _ _ _ _ _ _ _) ?_;rw[aB,hWW];clear hWW) | fail)
 exact bodyPost_ret (v:=.agg (colE tb nm)) (by simp[results,Tryz.results13,go_sem,k0]) rfl ⟨rfl,HB.out⟩
theorem Jt : ∀n:Int,0≤n→n<2 ^ 62→IntKind.i64.wrap n=n:=by
 intro n h0 h1
 rw[IntKind.wrap_i64]
 simp only[Int.reducePow] at h1
 omega
def fQ:Nat→Ex→Bool
 | 0,_=>false
 | d+1,.mk _ _ tb nm v xs=>decide (xs.length≤3)&&(decide (tb.length≤4096)&&(decide (nm.length≤4096)&&(decide (v.s.length≤4096)&&xs.all (fQ d))))
theorem lW : ∀(d:Nat) (t:Tm),t.ok→fQ d t.ex=true→t.sz+1≤2 ^ d
 | 0,t,_,h=>by cases h
 |
  d+1,.val v,_,h=>by
  show 1+1≤2 ^ (d+1)
  have:=Nat.one_le_two_pow (n:=d)
  omega
 |
  d+1,.col _ _,_,h=>by
  show 1+1≤2 ^ (d+1)
  have:=Nat.one_le_two_pow (n:=d)
  omega
 |
  d+1,.op o a b,hok,h=>by
  have h':fQ (d+1) (.mk 3 o [] [] zV [a.ex,b.ex])=true:=h
  simp only[fQ,Bool.and_eq_true,List.all_cons,List.all_nil,Bool.and_true] at h'
  have h1:=lW d a hok.2.2.1 h'.2.2.2.2.1
  have h2:=lW d b hok.2.2.2 h'.2.2.2.2.2
  show a.sz+b.sz+1+1≤2 ^ (d+1)
  omega
 |
  d+1,.not a,hok,h=>by
  have h':fQ (d+1) (.mk 4 0 [] [] zV [a.ex])=true:=h
  simp only[fQ,Bool.and_eq_true,List.all_cons,List.all_nil,Bool.and_true] at h'
  have h1:=lW d a hok.2 h'.2.2.2.2
  have:=Nat.one_le_two_pow (n:=d)
  show a.sz+1+1≤2 ^ (d+1)
  omega
 |
  d+1,.neg a,hok,h=>by
  have h':fQ (d+1) (.mk 5 0 [] [] zV [a.ex])=true:=h
  simp only[fQ,Bool.and_eq_true,List.all_cons,List.all_nil,Bool.and_true] at h'
  have h1:=lW d a hok h'.2.2.2.2
  have:=Nat.one_le_two_pow (n:=d)
  show a.sz+1+1≤2 ^ (d+1)
  omega
 |
  d+1,.nul a,hok,h=>by
  have h':fQ (d+1) (.mk 6 0 [] [] zV [a.ex])=true:=h
  simp only[fQ,Bool.and_eq_true,List.all_cons,List.all_nil,Bool.and_true] at h'
  have h1:=lW d a hok h'.2.2.2.2
  have:=Nat.one_le_two_pow (n:=d)
  show a.sz+1+1≤2 ^ (d+1)
  omega
 |
  1,.nnul a,hok,h=>by
  have h':fQ 1 (.mk 4 0 [] [] zV [.mk 6 0 [] [] zV [a.ex]])=true:=h
  simp[fQ] at h'
 |
  d+2,.nnul a,hok,h=>by
  have h':fQ (d+2) (.mk 4 0 [] [] zV [.mk 6 0 [] [] zV [a.ex]])=true:=h
  simp only[fQ,Bool.and_eq_true,List.all_cons,List.all_nil,Bool.and_true] at h'
  have h1:=lW d a hok h'.2.2.2.2.2.2.2.2
  have:=Nat.one_le_two_pow (n:=d)
  have e:2 ^ (d+2)=4*2 ^ d:=by rw[Nat.pow_add];omega
  show a.sz+2+1≤2 ^ (d+2)
  omega
theorem jS {x:Ex} (h:aJ x=true) (hf:fQ 12 x=true):jE x≤5000:=by
 obtain⟨h1,h2⟩:=l8 h
 rw[← h2] at hf
 have:=lW 12 _ h1 hf
 unfold jE
 omega
theorem lF {α:Type} (p:α→Bool) {xs:List α} {k:Nat} {x:α} (hx:xs[k]?=some x):(xs.take (k+1)).all p=((xs.take k).all p&&p x):=by
 obtain⟨h1,h2⟩:=List.getElem?_eq_some_iff.1 hx
 rw[List.take_succ_eq_append_getElem h1,h2,List.all_append]
 simp
theorem qF {α:Type} (p:α→Bool) {xs:List α} {k n:Nat} {x:α} (hx:xs[k]?=some x) (hk:k<n) (hp:p x=false):(xs.take n).all p=false:=by
 rw[Bool.eq_false_iff]
 intro h
 have hm:x∈xs.take n:=by
  obtain⟨h1,h2⟩:=List.getElem?_eq_some_iff.1 hx
  rw[← h2]
  exact List.mem_of_getElem? (i:=k) (by rw[List.getElem?_take,if_pos hk];exact List.getElem?_eq_getElem h1)
 have:=List.all_eq_true.1 h x hm
 rw[hp] at this
 cases this
theorem FQ (S:Nat→Prop):∀(d:Nat) (x:Ex) (v:Value) (w:World),d≤100→jD x→fB S w x v→Calls Tryz.prog 14 #[v,.int .i64 d] w fun e w'=>e = .returned (.bool (fQ d x))∧Below w.heap.size w w':=by
 intro d
 induction d with
 |
  zero =>
  intro x v w hd hR hx
  obtain⟨k,op,tb,nm,vk,vn,vs,ys,aa,nn,cc,rfl,rfl,ha⟩:=hx
  obtain⟨W,hW,hbW,hzW,hcW⟩:=aL w (.cells #[.int .i64 k,.int .i64 op,.string (aj tb),.string (aj nm),.int .i64 vk,.int .i64 vn,.string (aj vs),.slice aa nn cc] 48)
  have k0:=aN hcW
  have HB:=hid hbW
  clear hbW hcW ha hR
  show Calls Tryz.prog 14 _ w fun e w'=>e = .returned (.bool false)∧_
  go_enter Tryz.func14,Tryz.ntmps14
  go_wp2
  go_ret
  exact⟨rfl,HB.out⟩
 |
  succ d ih =>
  intro x v w hd hR hx
  obtain⟨k,op,tb,nm,vk,vn,vs,ys,aa,nn,cc,rfl,rfl,ha⟩:=hx
  obtain⟨W,hW,hbW,hzW,hcW⟩:=aL w (.cells #[.int .i64 k,.int .i64 op,.string (aj tb),.string (aj nm),.int .i64 vk,.int .i64 vn,.string (aj vs),.slice aa nn cc] 48)
  have hsl:=dN ha
  have HV:=hid (hsl.to (T:=S) (by decide) (R:=fun _=>False) (aA.aC hbW) (fun b hb _=>⟨id,hb⟩) (fun _ _ e=>e.to (R:=fun _=>False) (aA.aC hbW) (fun b hb _=>⟨id,hb⟩)))
  obtain⟨a',c',css,hv,h1,h2,_⟩:=hsl
  simp only[Value.slice.injEq] at hv
  obtain⟨rfl,rfl,rfl⟩:=hv
  unfold maxLen at h2
  have hRy : ∀y∈ys,jD y:=by cases hR with | mk _ _ _ _ _ _ _ _ _ _ _ hx=>exact hx
  have k0:=aN hcW
  have HC0:=hid hcW
  have HB:=hid hbW
  have zt:(aj tb).size=tb.length:=rfl
  have zn:(aj nm).size=nm.length:=rfl
  have zv:(aj vs).size=vs.length:=rfl
  have hd1:((((d+1:Nat):Int))==0)=false:=by
   rw[beq_eq_false_iff_ne]
   omega
  have hdm:IntKind.i64.wrap (((d+1:Nat):Int)-1)=(d:Int):=by
   have e:((d+1:Nat):Int)-1=(d:Int):=by omega
   rw[e]
   exact Jt _ (by omega) (by simp only[Int.reducePow];omega)
  have HI:=hid (fun y (hy:y∈ys) u V (hV:fB S V y u)=>ih y u V (by omega) (hRy y hy) hV)
  clear ih hR hRy ha hbW hcW
  generalize (((d+1:Nat):Int))=D at hd1 hdm ⊢
  show Calls Tryz.prog 14 _ w fun e w'=>e = .returned (.bool (decide (ys.length≤3)&&(decide (tb.length≤4096)&&(decide (nm.length≤4096)&&(decide (vs.length≤4096)&&ys.all (fQ d))))))∧_
  by_cases c1:ys.length≤3
  ·rw[decide_eq_true c1,Bool.true_and]
   have c1' : ¬((3:Int)<(ys.length:Int)):=by omega
   by_cases c2:tb.length≤4096
   ·rw[decide_eq_true c2,Bool.true_and]
    have c2' : ¬((4096:Int)<((aj tb).size:Int)):=by rw[zt];omega
    by_cases c3:nm.length≤4096
    ·rw[decide_eq_true c3,Bool.true_and]
     have c3' : ¬((4096:Int)<((aj nm).size:Int)):=by rw[zn];omega
     by_cases c4:vs.length≤4096
     ·rw[decide_eq_true c4,Bool.true_and]
      have c4' : ¬((4096:Int)<((aj vs).size:Int)):=by rw[zv];omega
      clear zt zn zv c2 c3 c4
      obtain⟨X,hX⟩:∃X,ys.all (fQ d)=X:=⟨_,rfl⟩
      rw[hX]
      have HX:=hid hX
      clear hX
      go_enter Tryz.func14,Tryz.ntmps14
      go_wp2_with fail
      go_loopw [5,6] (fun i _ wr=>∃(j:Nat),j≤ys.length∧i = .int .i64 j∧Below W.heap.size W wr∧Hid ((ys.take j).all (fQ d)=true)) (fun i _ _=>ys.length-(intOf i).toNat)
      case atStart=>exact⟨0,Nat.zero_le _,rfl,Below.refl _ _,hid rfl⟩
      case round =>
       obtain⟨j,hj,rfl,hbel,HK⟩:=hrel
       have kW:=aN ((hbel.block w.heap.size hzW).trans HC0.out)
       by_cases hlt:j<ys.length
       ·obtain⟨y,hy⟩:∃y,ys[j]?=some y:=⟨_,List.getElem?_eq_getElem hlt⟩
        have hlt':((j:Int)<(ys.length:Int)):=by omega
        obtain⟨_,_,_,b,off,cs,rfl,_,hel,hcell⟩:=bN (HV.out.to (T:=S) (by decide) (R:=fun _=>False) (aA.aC hbel) (fun b hb _=>⟨id,hb⟩) (fun _ _ e=>e.to (R:=fun _=>False) (aA.aC hbel) (fun b hb _=>⟨id,hb⟩))) hy
        have HC:=hid (HI.out y (List.mem_of_getElem? hy) _ wr hel.v)
        have HT:=hid (lF (fQ d) hy)
        have HFL:=hid (fun hp=>qF (fQ d) (n:=ys.length) hy hlt hp)
        obtain⟨k1,op1,tb1,nm1,vk1,vn1,vs1,ys1,aa1,nn1,cc1,_,rfl,_⟩:=hel
        have q0:=hcell 0 _ rfl
        have q1:=hcell 1 _ rfl
        have q2:=hcell 2 _ rfl
        have q3:=hcell 3 _ rfl
        have q4:=hcell 4 _ rfl
        have q5:=hcell 5 _ rfl
        have q6:=hcell 6 _ rfl
        have q7:=hcell 7 _ rfl
        simp only[Nat.add_zero] at q0
        have HBR:=hid hbel
        clear hbel hcell hy
        cases hp:fQ d y with
        |
         true =>
         rw[hp] at HC HT
         have HK2:Hid ((ys.take (j+1)).all (fQ d)=true):=hid (by rw[HT.out,HK.out];rfl)
         clear HK hp HT HFL
         go_wp2_with fail
         refine HC.out.mono ?_
         rintro e w2 ⟨rfl,hb2⟩
         have HB2:Hid (Below W.heap.size W w2):=hid (HBR.out.trans (hb2.mono HBR.out.size))
         clear hb2 HC
         go_wp2
         go_roundw
         case rel=>exact⟨j+1,by omega,by go_num,HB2.out,HK2⟩
         case measure=>simp[intOf];omega
        |
         false =>
         rw[hp] at HC
         have HXF:Hid (X=false):=hid (by
          rw[← HX.out]
          have:=HFL.out hp
          rw[List.take_of_length_le (Nat.le_refl _)] at this
          exact this)
         clear HK hp HT HFL
         go_wp2_with fail
         refine HC.out.mono ?_
         rintro e w2 ⟨rfl,hb2⟩
         have HB2:Hid (Below w.heap.size w w2):=hid (HB.out.trans ((HBR.out.trans (hb2.mono HBR.out.size)).mono HB.out.size))
         clear hb2 HC
         go_wp2
         go_ret
         exact⟨by rw[HXF.out];rfl,HB2.out⟩
       ·have hlt' : ¬((j:Int)<(ys.length:Int)):=by omega
        have HXT:Hid (X=true):=hid (by rw[← HX.out];have:=HK.out;rw[List.take_of_length_le (by omega)] at this;exact this)
        have HB2:Hid (Below w.heap.size w wr):=hid (HB.out.trans (hbel.mono HB.out.size))
        clear hbel HK
        go_wp2
        go_ret
        exact⟨by rw[HXT.out];rfl,HB2.out⟩
     ·rw[decide_eq_false c4,Bool.false_and]
      have c4':((4096:Int)<((aj vs).size:Int)):=by rw[zv];omega
      clear zt zn zv c2 c3 c4 HI HV HC0
      go_enter Tryz.func14,Tryz.ntmps14
      go_wp2
      go_ret
      exact⟨rfl,HB.out⟩
    ·rw[decide_eq_false c3,Bool.false_and]
     have c3':((4096:Int)<((aj nm).size:Int)):=by rw[zn];omega
     clear zt zn zv c2 c3 HI HV HC0
     go_enter Tryz.func14,Tryz.ntmps14
     go_wp2
     go_ret
     exact⟨rfl,HB.out⟩
   ·rw[decide_eq_false c2,Bool.false_and]
    have c2':((4096:Int)<((aj tb).size:Int)):=by rw[zt];omega
    clear zt zn zv c2 HI HV HC0
    go_enter Tryz.func14,Tryz.ntmps14
    go_wp2
    go_ret
    exact⟨rfl,HB.out⟩
  ·rw[decide_eq_false c1,Bool.false_and]
   have c1':((3:Int)<(ys.length:Int)):=by omega
   clear zt zn zv c1 HI HV HC0
   go_enter Tryz.func14,Tryz.ntmps14
   go_wp2
   go_ret
   exact⟨rfl,HB.out⟩
def smA:Ex:=.mk 3 3 [] [] zV [.mk 2 0 [117] [107] zV [],.mk 2 0 [] [115] zV []]
def Hu:Ex:=.mk 2 0 [] [105,100] zV []
def Hw:Ex:=.mk 2 0 [] [122,122] zV []
def Hr:Ex:=.mk 3 9 [] [] zV [.mk 2 0 [] [110] zV [],.mk 2 0 [] [115] zV []]
theorem sV (tb nm:List UInt8) (h1:tb.length≤1000) (h2:nm.length≤1000):jD (.mk 2 0 tb nm zV []):=.mk _ _ _ _ _ _ (by decide) (by decide) (by decide) (by omega) (by omega) (fun x hx=>by cases hx)
theorem Gd (op:Int) (a b:Ex) (ha:jD a) (hb:jD b):jD (.mk 3 op [] [] zV [a,b]):=.mk _ _ _ _ _ _ (by decide) (by decide) (by decide) (by decide) (by decide) (fun x hx=>by
 simp only[List.mem_cons,List.not_mem_nil,or_false] at hx
 rcases hx with rfl | rfl
 ·exact ha
 ·exact hb)
theorem rZ {tb nm:List UInt8} (h:((bC nm&&(decide (tb=[])||bC tb))&&(decide ((0:Int)=0)&&eqv zV zV&&decide (([]:List Ex).length=0)))=true):aJ (.mk 2 0 tb nm zV [])=true:=by
 rw[iW,if_neg (by decide),if_pos rfl]
 exact h
theorem FZ {op:Int} {a b:Ex} (h1:1≤op∧op≤13) (ha:aJ a=true) (hb:aJ b=true):aJ (.mk 3 op [] [] zV [a,b])=true:=by
 rw[iW,if_neg (by decide),if_neg (by decide),if_pos rfl,decide_eq_true h1,Dr]
 simp[ha,hb]
theorem JA:aJ smA=true:=FZ (by decide) (rZ (by decide)) (rZ (by decide))
theorem Jz:aJ Hu=true:=rZ (by decide)
theorem JB:aJ Hw=true:=rZ (by decide)
theorem Jw:aJ Hr=true:=FZ (by decide) (rZ (by decide)) (rZ (by decide))
theorem JM:jD smA:=Gd _ _ _ (sV _ _ (by decide) (by decide)) (sV _ _ (by decide) (by decide))
theorem JE:jD Hu:=sV _ _ (by decide) (by decide)
theorem JL:jD Hw:=sV _ _ (by decide) (by decide)
theorem JQ:jD Hr:=Gd _ _ _ (sV _ _ (by decide) (by decide)) (sV _ _ (by decide) (by decide))
theorem zo (L:List Tb) (tb nm:List UInt8):aR L (.mk 2 0 tb nm zV [])=yA L tb nm:=by
 rw[mQ,if_neg (by simp[aX]),if_neg (by decide),if_pos rfl]
theorem JN:eX eB smA=(.mk 3 3 [] [] zV [.mk 2 0 [] [] ⟨1,4,[]⟩ [],.mk 2 0 [] [] ⟨1,2,[]⟩ []],1,0):=by
 unfold eX
 rw[if_pos JA]
 unfold smA
 rw[mQ]
 simp only[List.map_cons,List.map_nil,zo]
 kernel_rfl
theorem JF:eX eB Hu=(mW,0,13):=by
 unfold eX
 rw[if_pos Jz]
 unfold Hu
 rw[zo]
 kernel_rfl
theorem JI:eX eB Hw=(mW,0,12):=by
 unfold eX
 rw[if_pos JB]
 unfold Hw
 rw[zo]
 kernel_rfl
theorem JJ:eX eB Hr=(mW,0,9):=by
 unfold eX
 rw[if_pos Jw]
 unfold Hr
 rw[mQ]
 simp only[List.map_cons,List.map_nil,zo]
 kernel_rfl
theorem szA:jE smA≤1000000:=Nat.le_trans (jS JA (by kernel_rfl)) (by decide)
theorem szB:jE Hu≤1000000:=Nat.le_trans (jS Jz (by kernel_rfl)) (by decide)
theorem JG:jE Hw≤1000000:=Nat.le_trans (jS JB (by kernel_rfl)) (by decide)
theorem JD:jE Hr≤1000000:=Nat.le_trans (jS Jw (by kernel_rfl)) (by decide)
theorem zl (S:Nat→Prop) (tb nm:List UInt8) (w:World):fB S w (.mk 2 0 tb nm zV []) (.agg (colE (aj tb) (aj nm))):=⟨2,0,tb,nm,0,0,[],[],none,0,0,rfl,rfl,.nil none 0 (by unfold maxLen;omega)⟩
theorem zx (op:Int) (t1 n1 t2 n2:List UInt8) (b:Nat) (w:World) (hb:w.heap[b]?=some (.cells #[.int .i64 2,.int .i64 0,.string (aj t1),.string (aj n1),.int .i64 0,.int .i64 0,.string ⟨#[]⟩,.slice none 0 0,.int .i64 2,.int .i64 0,.string (aj t2),.string (aj n2),.int .i64 0,.int .i64 0,.string ⟨#[]⟩,.slice none 0 0] 48)) :
  fB (fun _=>True) w (.mk 3 op [] [] zV [.mk 2 0 t1 n1 zV [],.mk 2 0 t2 n2 zV []]) (.agg #[.int .i64 3,.int .i64 op,.string ⟨#[]⟩,.string ⟨#[]⟩,.int .i64 0,.int .i64 0,.string ⟨#[]⟩,.slice (some ⟨b,0,none⟩) 2 2]) :=
 ⟨3,op,[],[],0,0,[],_,_,2,2,rfl,rfl,Cb (vs:=[]) (vs2:=[]) trivial hb (.nil none 0 (by unfold maxLen;omega)) (.nil none 0 (by unfold maxLen;omega))⟩
theorem kL {S:Nat→Prop} {w:World} {x:Ex} {v:Value} (h:fB S w x v):∃k op tb nm vk vn vs aa nn cc,v = .agg #[.int .i64 k,.int .i64 op,.string (aj tb),.string (aj nm),.int .i64 vk,.int .i64 vn,.string (aj vs),.slice aa nn cc]:=by
 obtain⟨k,op,tb,nm,vk,vn,vs,ys,aa,nn,cc,_,rfl,_⟩:=h
 exact⟨k,op,tb,nm,vk,vn,vs,aa,nn,cc,rfl⟩
theorem wZ (w:World) (hV:rE w) (hO:sZ w) (h8:7<w.heap.size):Calls Tryz.prog 5 #[] w fun e w'=>e = .returned (.bool true)∧Below w.heap.size w w':=by
 have HT:Hid (∀V,Below w.heap.size w V→10<V.heap.size→eH V):=hid (fun V hb hz=>⟨hV.below hb (by omega),fun o ho=>⟨(hb.cell (p:=⟨0,o*2,none⟩) (by show 0<w.heap.size;omega)).trans (hO o ho).1,(hb.cell (p:=⟨0,o*2+1,none⟩) (by show 0<w.heap.size;omega)).trans (hO o ho).2⟩,hz⟩)
 clear hV hO
 go_enter Tryz.func5,Tryz.ntmps5
 go_wp2_with fail
 refine (mI w).mono ?_
 rintro e w1 ⟨la,lc,css,rfl,ho,he,_,_,hz1,hb1⟩
 have HL:Hid (∀V,Below w1.heap.size w1 V→aQ 3 dK (fun b=>w.heap.size≤b) V eB (.slice la 2 lc)):=hid (fun V hV=>(aQ.dW (by decide) ho he (fun b hb=>(ho.lt b hb).1)).to (by decide) (R:=fun _=>False) (aA.aC hV) (fun b hb _=>⟨id,hb⟩) (fun _ _ e=>e.to (R:=fun _=>False) (aA.aC hV) (fun b hb _=>⟨id,hb⟩)))
 have HB1:=hid hb1
 have hz10:10<w1.heap.size:=by omega
 clear ho he hb1 hz1
 have HB_w1:Hid (Below w1.heap.size w1 w1):=hid (Below.refl _ _)
 go_wp2_with fail
 refine (gV _ _ w1).mono ?_
 rintro e v1 ⟨rfl,hb⟩
 have HB_v1:=hid hb
 clear hb
 go_wp2_with fail
 refine (gV _ _ v1).mono ?_
 rintro e v2 ⟨rfl,hb⟩
 have HB_v2:=hid (HB_v1.out.trans (hb.mono HB_v1.out.size))
 clear hb
 obtain⟨v3,hv3,hbv3,hzv3,hcv3⟩:=aL v2 (.cells #[.int .i64 2,.int .i64 0,.string ⟨#[117]⟩,.string ⟨#[107]⟩,.int .i64 0,.int .i64 0,.string ⟨#[]⟩,.slice none 0 0,.int .i64 2,.int .i64 0,.string ⟨#[]⟩,.string ⟨#[115]⟩,.int .i64 0,.int .i64 0,.string ⟨#[]⟩,.slice none 0 0] 48)
 have HB_v3:=hid (HB_v2.out.trans (hbv3.mono HB_v2.out.size))
 have HX1:=hid (zx 3 [117] [107] [] [115] v2.heap.size v3 hcv3)
 clear hbv3 hcv3
 go_wp2_with fail
 try rw[hv3]
 have HBI1:=hid (fM (fun b=>w.heap.size≤b) (fun _=>True) eB smA (.slice la 2 lc) _ v3 (HT.out v3 (HB1.out.trans (HB_v3.out.mono HB1.out.size)) (Nat.lt_of_lt_of_le hz10 HB_v3.out.size)) JM HX1.out (HL.out v3 HB_v3.out) oL (by decide) (fun _=>szA))
 rw[JN] at HBI1
 dsimp only at HBI1
 go_wp2_with fail
 refine HBI1.out.mono ?_
 rintro e u1a ⟨u,rfl,hxu,hb⟩
 have hxu0:=hxu
 obtain⟨k2,op2,tb2,nm2,vk2,vn2,vs2,aa2,nn2,cc2,rfl⟩:=kL hxu
 obtain⟨u1,hY,hbY,hzY,hcY⟩:=aL u1a (.cells #[.int .i64 k2,.int .i64 op2,.string (aj tb2),.string (aj nm2),.int .i64 vk2,.int .i64 vn2,.string (aj vs2),.slice aa2 nn2 cc2] 48)
 have HB_u1a:=hid (HB_v3.out.trans (hb.mono HB_v3.out.size))
 have HB_u1:=hid (HB_u1a.out.trans (hbY.mono HB_u1a.out.size))
 obtain⟨k3,op3,tb3,nm3,vk3,vn3,vs3,ys3,aa3,nn3,cc3,hXe,hve,hau⟩:=hxu0
 simp only[Value.agg.injEq,Array.mk.injEq,List.cons.injEq,Value.slice.injEq,and_true] at hve
 obtain⟨_,_,_,_,_,_,_,rfl,rfl,rfl⟩:=hve
 obtain rfl:=(Ex.mk.inj hXe).2.2.2.2.2
 have HAS:=hid (dN (hau.to (T:=fun _=>True) (R:=fun _=>False) (aA.aC hbY) (fun b hb _=>⟨id,trivial⟩)))
 have HP:=hid hcY
 obtain⟨p2,hp2⟩:∃p,u1a.heap.size=p:=⟨_,rfl⟩
 rw[hp2] at HP
 clear hau hXe
 clear hxu hb hbY hcY HBI1
 go_wp2_with (first | (refine wpList_store_row rfl 48 (.tmp 2) (.tmp 22) rfl u1a.heap.size #[.int .i64 k2,.int .i64 op2,.string (aj tb2),.string (aj nm2),.int .i64 vk2,.int .i64 vn2,.string (aj vs2),.slice aa2 nn2 cc2] rfl rfl 48 bS (heap_alloc_new u1a _) Tryz.bA rfl (bE _ _ _ _ _ _ _ _ _ _) ?_;rw[aB,hY];clear hY) | fail)
 try rw[hp2]
 have hp2s:=World.lt_of_block HP.out
 clear hp2
 have hnn:nn2=2:=by obtain⟨_,_,hf⟩:=HAS.out.form;simp only[Value.slice.injEq] at hf;exact hf.2.1
 subst hnn
 have HF:Hid (∀V,Below u1.heap.size u1 V→V.heap[p2]?=some (.cells #[.int .i64 k2,.int .i64 op2,.string (aj tb2),.string (aj nm2),.int .i64 vk2,.int .i64 vn2,.string (aj vs2),.slice aa2 2 cc2] 48)∧aQ 8 gu (fun _=>True) V [.mk 2 0 [] [] ⟨1,4,[]⟩ [],.mk 2 0 [] [] ⟨1,2,[]⟩ []] (.slice aa2 2 cc2)):=hid (fun V hV=>⟨(hV.block _ hp2s).trans HP.out,HAS.out.to (by decide) (R:=fun _=>False) (aA.aC hV) (fun b hb _=>⟨id,hb⟩) (fun _ _ e=>e.to (R:=fun _=>False) (aA.aC hV) (fun b hb _=>⟨id,hb⟩))⟩)
 have HL2:=hid (fun (V:World) (hV:Below u1.heap.size u1 V)=>HL.out V (HB_u1.out.trans (hV.mono HB_u1.out.size)))
 have HB2:=hid (HB1.out.trans (HB_u1.out.mono HB1.out.size))
 have hz11:10<u1.heap.size:=Nat.lt_of_lt_of_le hz10 HB_u1.out.size
 clear HL HB1 hz10 HP HAS HB_w1 HB_v1 HB_v2 HB_v3 HB_u1a HB_u1 HX1
 have HL:=HL2
 have HB1:=HB2
 have hz10:=hz11
 have HB_u1:Hid (Below u1.heap.size u1 u1):=hid (Below.refl _ _)
 clear HL2 HB2 hz11
 refine (gV _ _ u1).mono ?_
 rintro e v4 ⟨rfl,hb⟩
 have HB_v4:=hid (HB_u1.out.trans (hb.mono HB_u1.out.size))
 clear hb
 have HBI2:=hid (fM (fun b=>w.heap.size≤b) (fun _=>True) eB Hu (.slice la 2 lc) _ v4 (HT.out v4 (HB1.out.trans (HB_v4.out.mono HB1.out.size)) (Nat.lt_of_lt_of_le hz10 HB_v4.out.size)) JE (zl (fun _=>True) [] [105,100] v4) (HL.out v4 HB_v4.out) oL (by decide) (fun _=>szB))
 rw[JF] at HBI2
 dsimp only at HBI2
 go_wp2_with fail
 refine HBI2.out.mono ?_
 rintro e u2a ⟨u,rfl,hxu,hb⟩
 obtain⟨k2,op2,tb2,nm2,vk2,vn2,vs2,aa2,nn2,cc2,rfl⟩:=kL hxu
 obtain⟨u2,hY,hbY,hzY,hcY⟩:=aL u2a (.cells #[.int .i64 k2,.int .i64 op2,.string (aj tb2),.string (aj nm2),.int .i64 vk2,.int .i64 vn2,.string (aj vs2),.slice aa2 nn2 cc2] 48)
 have HB_u2a:=hid (HB_v4.out.trans (hb.mono HB_v4.out.size))
 have HB_u2:=hid (HB_u2a.out.trans (hbY.mono HB_u2a.out.size))
 clear hxu hb hbY hcY HBI2
 go_wp2_with (first | (refine wpList_store_row rfl 48 (.tmp 5) (.tmp 29) rfl u2a.heap.size #[.int .i64 k2,.int .i64 op2,.string (aj tb2),.string (aj nm2),.int .i64 vk2,.int .i64 vn2,.string (aj vs2),.slice aa2 nn2 cc2] rfl rfl 48 bS (heap_alloc_new u2a _) Tryz.bA rfl (bE _ _ _ _ _ _ _ _ _ _) ?_;rw[aB,hY];clear hY) | fail)
 refine (gV _ _ u2).mono ?_
 rintro e v5 ⟨rfl,hb⟩
 have HB_v5:=hid (HB_u2.out.trans (hb.mono HB_u2.out.size))
 clear hb
 have HBI3:=hid (fM (fun b=>w.heap.size≤b) (fun _=>True) eB Hw (.slice la 2 lc) _ v5 (HT.out v5 (HB1.out.trans (HB_v5.out.mono HB1.out.size)) (Nat.lt_of_lt_of_le hz10 HB_v5.out.size)) JL (zl (fun _=>True) [] [122,122] v5) (HL.out v5 HB_v5.out) oL (by decide) (fun _=>JG))
 rw[JI] at HBI3
 dsimp only at HBI3
 go_wp2_with fail
 refine HBI3.out.mono ?_
 rintro e u3a ⟨u,rfl,hxu,hb⟩
 obtain⟨k2,op2,tb2,nm2,vk2,vn2,vs2,aa2,nn2,cc2,rfl⟩:=kL hxu
 obtain⟨u3,hY,hbY,hzY,hcY⟩:=aL u3a (.cells #[.int .i64 k2,.int .i64 op2,.string (aj tb2),.string (aj nm2),.int .i64 vk2,.int .i64 vn2,.string (aj vs2),.slice aa2 nn2 cc2] 48)
 have HB_u3a:=hid (HB_v5.out.trans (hb.mono HB_v5.out.size))
 have HB_u3:=hid (HB_u3a.out.trans (hbY.mono HB_u3a.out.size))
 clear hxu hb hbY hcY HBI3
 go_wp2_with (first | (refine wpList_store_row rfl 48 (.tmp 8) (.tmp 36) rfl u3a.heap.size #[.int .i64 k2,.int .i64 op2,.string (aj tb2),.string (aj nm2),.int .i64 vk2,.int .i64 vn2,.string (aj vs2),.slice aa2 nn2 cc2] rfl rfl 48 bS (heap_alloc_new u3a _) Tryz.bA rfl (bE _ _ _ _ _ _ _ _ _ _) ?_;rw[aB,hY];clear hY) | fail)
 refine (gV _ _ u3).mono ?_
 rintro e v6 ⟨rfl,hb⟩
 have HB_v6:=hid (HB_u3.out.trans (hb.mono HB_u3.out.size))
 clear hb
 go_wp2_with fail
 refine (gV _ _ v6).mono ?_
 rintro e v7 ⟨rfl,hb⟩
 have HB_v7:=hid (HB_v6.out.trans (hb.mono HB_v6.out.size))
 clear hb
 obtain⟨v8,hv8,hbv8,hzv8,hcv8⟩:=aL v7 (.cells #[.int .i64 2,.int .i64 0,.string ⟨#[]⟩,.string ⟨#[110]⟩,.int .i64 0,.int .i64 0,.string ⟨#[]⟩,.slice none 0 0,.int .i64 2,.int .i64 0,.string ⟨#[]⟩,.string ⟨#[115]⟩,.int .i64 0,.int .i64 0,.string ⟨#[]⟩,.slice none 0 0] 48)
 have HB_v8:=hid (HB_v7.out.trans (hbv8.mono HB_v7.out.size))
 have HX4:=hid (zx 9 [] [110] [] [115] v7.heap.size v8 hcv8)
 clear hbv8 hcv8
 go_wp2_with fail
 try rw[hv8]
 have HBI4:=hid (fM (fun b=>w.heap.size≤b) (fun _=>True) eB Hr (.slice la 2 lc) _ v8 (HT.out v8 (HB1.out.trans (HB_v8.out.mono HB1.out.size)) (Nat.lt_of_lt_of_le hz10 HB_v8.out.size)) JQ HX4.out (HL.out v8 HB_v8.out) oL (by decide) (fun _=>JD))
 rw[JJ] at HBI4
 dsimp only at HBI4
 go_wp2_with fail
 refine HBI4.out.mono ?_
 rintro e u4a ⟨u,rfl,hxu,hb⟩
 obtain⟨k2,op2,tb2,nm2,vk2,vn2,vs2,aa2,nn2,cc2,rfl⟩:=kL hxu
 obtain⟨u4,hY,hbY,hzY,hcY⟩:=aL u4a (.cells #[.int .i64 k2,.int .i64 op2,.string (aj tb2),.string (aj nm2),.int .i64 vk2,.int .i64 vn2,.string (aj vs2),.slice aa2 nn2 cc2] 48)
 have HB_u4a:=hid (HB_v8.out.trans (hb.mono HB_v8.out.size))
 have HB_u4:=hid (HB_u4a.out.trans (hbY.mono HB_u4a.out.size))
 clear hxu hb hbY hcY HBI4
 obtain⟨hp4,hs4⟩:=HF.out u4 HB_u4.out
 have kP:=aN hp4
 have HBF:=hid (HB1.out.trans (HB_u4.out.mono HB1.out.size))
 obtain⟨hl1,hl2,hl3,b,off,ds,rfl,_,hel,hcell⟩:=bN hs4 (j:=0) rfl
 clear hl1 hl2 hl3
 obtain⟨_,_,_,_,_,_,_,_,_,_,_,hx1,rfl,_⟩:=hel
 have e1:=(Ex.mk.inj hx1).2.2.2.2.1
 injection e1 with e10 e1 e11
 clear e10 e11
 subst e1
 have q0:=hcell 5 _ rfl
 obtain⟨hl1,hl2,hl3,b',off',ds,hbb,_,hel,hcell'⟩:=bN hs4 (j:=1) rfl
 clear hl1 hl2 hl3
 injection hbb with hbb
 injection hbb with hb1 hb2
 subst hb1 hb2
 obtain⟨_,_,_,_,_,_,_,_,_,_,_,hx2,rfl,_⟩:=hel
 have e2:=(Ex.mk.inj hx2).2.2.2.2.1
 injection e2 with e20 e2 e21
 clear e20 e21
 subst e2
 have q1:=hcell' 5 _ rfl
 simp only[Nat.zero_mul,Nat.one_mul,Nat.add_zero,Nat.add_assoc,Nat.reduceAdd] at q0 q1
 clear hcell hcell' hs4 hx1 hx2 hp4 HF HL
 go_wp2_with (first | (refine wpList_store_row rfl 48 (.tmp 11) (.tmp 46) rfl u4a.heap.size #[.int .i64 k2,.int .i64 op2,.string (aj tb2),.string (aj nm2),.int .i64 vk2,.int .i64 vn2,.string (aj vs2),.slice aa2 nn2 cc2] rfl rfl 48 bS (heap_alloc_new u4a _) Tryz.bA rfl (bE _ _ _ _ _ _ _ _ _ _) ?_;rw[aB,hY];clear hY) | fail)
 go_ret
 exact⟨rfl,HBF.out⟩
end Go.Proofs.YtfeglkleoijlaaaGreatDoor
