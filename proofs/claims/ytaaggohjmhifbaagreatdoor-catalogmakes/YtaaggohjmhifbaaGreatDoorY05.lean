/- Packed for the hand-in: LCutG LCutH -/
import Derived.Test.YtaaggohjmhifbaaGreatDoorY04
namespace Go.Proofs.YtaaggohjmhifbaaGreatDoor
open Go.RowKit Go.Shelf
set_option linter.unusedSimpArgs false
set_option linter.unusedVariables false
set_option maxRecDepth 20000
set_option maxHeartbeats 8000000
theorem qG : ∀(l:List UInt8) (acc:Nat),(∀c∈l,bK bU c=true)→Lib.parseUint10 acc l≠.syntax
 | [],acc,_=>by simp[Lib.parseUint10]
 |
  c::r,acc,h=>by
  have hc:=h c (by simp)
  have hc2:48≤c.toNat∧c.toNat≤57:=by
   simp only[bK,bU,List.contains_iff_mem,List.mem_cons,List.not_mem_nil,or_false] at hc
   rcases hc with rfl | rfl | rfl | rfl | rfl | rfl | rfl | rfl | rfl | rfl<;>decide
  have ih:=qG r (acc*10+(c.toNat-48)) (fun d hd=>h d (by simp[hd]))
  simp only[Lib.parseUint10]
  rw[if_pos hc2]
  split
  ·simp
  ·split
   ·simp
   ·exact ih
theorem sZ {l:List UInt8} (h : ∀c∈l,bK bU c=true) (hne:l≠[]):Lib.atoiAll l≠.syntax:=by
 match l,hne with
 |
  c::r,_ =>
  have hc:=h c (by simp)
  have hc2 : ¬(c.toNat=43∨c.toNat=45)∧¬c.toNat=45:=by
   simp only[bK,bU,List.contains_iff_mem,List.mem_cons,List.not_mem_nil,or_false] at hc
   rcases hc with rfl | rfl | rfl | rfl | rfl | rfl | rfl | rfl | rfl | rfl<;>decide
  unfold Lib.atoiAll
  dsimp only
  rw[if_neg hc2.1,Lib.parseMag,if_neg (by simp)]
  have:=qG (c::r) 0 h
  cases hp:Lib.parseUint10 0 (c::r) with
  |
   ok u =>
   dsimp only
   split
   ·simp
   ·split
    ·simp
    ·simp
  | «syntax»=>exact absurd hp this
  | range=>simp
theorem below_bytesWorld (w:World) (e:TypeId) (t:ByteArray):Below w.heap.size w (Lib.bytesWorld w e t):=by
 unfold Lib.bytesWorld
 exact⟨rfl,rfl,rfl,by simp[World.freeze],fun j hj=>by
  simp only[World.freeze]
  have:(w.drew.alloc (.cells (Lib.bytesCells w e t) e)).heap[j]?=w.heap[j]?:=((below_drewN (Below.refl _ w) 1).alloc (Nat.le_refl _) _).block j hj
  split
  ·exact this
  ·show ((w.drew.alloc (.cells (Lib.bytesCells w e t) e)).heap.modify w.heap.size _)[j]?=_
   rw[Array.getElem?_modify,if_neg (by omega)];exact this⟩
theorem GR (t:List UInt8) (w:World) (hT:kN w) (hl:t.length≤140737488351232) (hd : ∀c∈t,bK bU c=true) (hne:t≠[]) :
  Calls Tryz.prog 258 #[.string (ah t)] w fun e w'=>((∃v,Lib.atoiAll t = .ok v∧e = .returned (.tuple #[.int .i64 v,.nilIface]))∨(∃v ty pt,Lib.atoiAll t = .range∧e = .returned (.tuple #[.int .i64 v,.iface ty pt])))∧Below w.heap.size w w':=by
 have hns:=sZ hd hne
 cases ha:Lib.atoiAll t with
 |
  ok v =>
  have:=Any.strconv_Atoi_ok Fa (ah t) (by rw[cu];omega) v ha w
  rw[sV.2.2.2.2.2.1] at this
  refine this.mono fun e w' ⟨he,hw⟩=>⟨.inl ⟨v,rfl,he⟩,?_⟩
  rcases hw with rfl | ⟨t,rfl⟩
  ·exact Below.refl _ _
  ·exact below_bytesWorld _ _ _
 |
  range =>
  obtain⟨ev,h1,h2⟩:=hT.rng
  have:=Any.strconv_Atoi_range Fa (ah t) (by rw[cu];omega) ha ev w (by rw[KI.2];exact h1) h2
  rw[sV.2.2.2.2.2.1] at this
  exact this.mono fun e w' ⟨N,he,_,_,hb⟩=>⟨.inr ⟨_,_,_,rfl,he⟩,hb⟩
 | «syntax»=>exact absurd ha hns
theorem vC (s:List UInt8) (w:World) (hT:kN w) (hs:s.length≤140737488351232) (h1:1≤row (bK bU) s):Calls Tryz.prog 228 #[.string (ah s)] w fun e w'=>e = .returned (jV (iW s))∧Below w.heap.size w w':=by
 have HO:Hid (∀w,Calls Tryz.prog 153 #[.string ⟨#[48,49,50,51,52,53,54,55,56,57]⟩] w fun e w'=>(e = .returned (.func (.func 208) #[] #[.pointer (some ⟨w.heap.size,0,none⟩)])∧kM 208 #[.pointer (some ⟨w.heap.size,0,none⟩)] (bK bU) w')∧Below w.heap.size w w'):=hid (fun w=>fQ bU w)
 have hle:=kK (bK bU) s
 have HW:=hid (fun B w1 hp=>kH s bU B w1 hs hp)
 have HR:=hid (fun w=>pO (s.drop (row (bK bU) s)) w (by rw[List.length_drop];omega))
 have hd:iW s=if l7 (s.drop (row (bK bU) s))=true then (4,jl,0) else FB (row (bK bU) s) (Lib.atoiAll (s.take (row (bK bU) s))):=rfl
 rw[hd]
 clear hd
 have hall:=qO (bK bU) s
 have hne:s.take (row (bK bU) s)≠[]:=fun e=>by have:=congrArg List.length e;rw[List.length_take,List.length_nil] at this;omega
 generalize hrow:row (bK bU) s=n at HW HR hle hall hne h1 ⊢
 clear hrow
 have hs1:=gX s n hle
 have hs2:=rQ s n hle
 have hlt:(s.take n).length≤s.length:=by rw[List.length_take];omega
 obtain⟨W,hW,hbW,hzW,hcW⟩:=yg w (.int .i64 0) (.string ⟨#[]⟩) (.int .i64 0) (.int .i64 0) 162
 have HCW:=hid hcW
 have HB:=hid hbW
 clear hcW hbW
 have HTW:=hid (hT.on HB.out)
 have HA:=hid (fun w (h:kN w)=>GR (s.take n) w h (by omega) hall hne)
 clear hlt hall hne hT
 generalize s.drop n=r at HR hs1 ⊢
 generalize s.take n=t at HA hs2 ⊢
 cases hr:l7 r with
 |
  true =>
  rw[hr] at HR
  rw[if_pos rfl,e4]
  clear hr
  go_enter Tryz.func228,Tryz.ntmps228
  go_wp2_with fail
  try rw[hW]
  clear hW
  refine (HO.out _).mono ?_
  rintro e w1 ⟨⟨rfl,hp⟩,hb1⟩
  go_wp2_with fail
  refine (HW.out _ _ hp).mono ?_
  rintro e w2 ⟨rfl,hw⟩
  obtain rfl:w1=w2:=hw.symm
  clear hw hp
  go_wp2_with fail
  refine (HR.out _).mono ?_
  rintro e w3 ⟨rfl,hb3⟩
  have HD:=hid (hb1.trans (hb3.mono hb1.size))
  clear hb1 hb3
  have HE:Hid (Below w.heap.size w w3):=hid (HB.out.trans (HD.out.mono (Nat.le_of_lt hzW)))
  have g0:=aW (HCW.out w3 HD.out)
  go_wp2
  exact bodyPost_ret (v:=.tuple #[.agg #[.int .i64 0,.string ⟨#[]⟩,.int .i64 0,.int .i64 0],.int .i64 0,.int .i64 4]) (by simp[results,Tryz.results228,go_sem,g0]) rfl ⟨rfl,(((HE.out.setCell (Nat.le_refl _) _).setCell (Nat.le_refl _) _).setCell (Nat.le_refl _) _).setCell (Nat.le_refl _) _⟩
 |
  false =>
  rw[hr] at HR
  rw[if_neg (by simp)]
  clear hr
  go_enter Tryz.func228,Tryz.ntmps228
  go_wp2_with fail
  try rw[hW]
  clear hW
  refine (HO.out _).mono ?_
  rintro e w1 ⟨⟨rfl,hp⟩,hb1⟩
  go_wp2_with fail
  refine (HW.out _ _ hp).mono ?_
  rintro e w2 ⟨rfl,hw⟩
  obtain rfl:w1=w2:=hw.symm
  clear hw hp
  go_wp2_with fail
  refine (HR.out _).mono ?_
  rintro e w3 ⟨rfl,hb3⟩
  have HD:=hid (hb1.trans (hb3.mono hb1.size))
  clear hb1 hb3
  have HA3:=hid (HA.out w3 (HTW.out.on HD.out))
  go_wp2_with fail
  refine HA3.out.mono ?_
  rintro e w4 ⟨hcase,hb4⟩
  have HD4:=hid (HD.out.trans (hb4.mono HD.out.size))
  have HE:Hid (Below w.heap.size w w4):=hid (HB.out.trans (HD4.out.mono (Nat.le_of_lt hzW)))
  have g0:=aW (HCW.out w4 HD4.out)
  clear hb4
  rcases hcase with⟨v,hv,rfl⟩ | ⟨v,ty,pt,hv,rfl⟩
  ·have HV:=hid (show jV (FB n (Lib.atoiAll t)) = .tuple #[.agg #[.int .i64 3,.string ⟨#[]⟩,.int .i64 v,.int .i64 0],.int .i64 (n:Int),.int .i64 0] by rw[hv];rfl)
   clear hv
   go_wp2
   exact bodyPost_ret (v:=.tuple #[.agg #[.int .i64 3,.string ⟨#[]⟩,.int .i64 v,.int .i64 0],.int .i64 (n:Int),.int .i64 0]) (by simp[results,Tryz.results228,go_sem,g0]) rfl ⟨by rw[HV.out],(((HE.out.setCell (Nat.le_refl _) _).setCell (Nat.le_refl _) _).setCell (Nat.le_refl _) _).setCell (Nat.le_refl _) _⟩
  ·have HV:=hid (show jV (FB n (Lib.atoiAll t)) = .tuple #[.agg #[.int .i64 0,.string ⟨#[]⟩,.int .i64 0,.int .i64 0],.int .i64 0,.int .i64 7] by rw[hv];rfl)
   clear hv
   go_wp2
   exact bodyPost_ret (v:=.tuple #[.agg #[.int .i64 0,.string ⟨#[]⟩,.int .i64 0,.int .i64 0],.int .i64 0,.int .i64 7]) (by simp[results,Tryz.results228,go_sem,g0]) rfl ⟨by rw[HV.out],(((HE.out.setCell (Nat.le_refl _) _).setCell (Nat.le_refl _) _).setCell (Nat.le_refl _) _).setCell (Nat.le_refl _) _⟩
def gQ:List UInt8→List UInt8 × List UInt8 × Bool
 | []=>([],[],false)
 | c::r=>if c=39 then ([],r,true) else (c::(gQ r).1,(gQ r).2)
theorem Hu (s:List UInt8):Lib.cut s [39]=gQ s:=by
 unfold Lib.cut
 rw[Lib.index_one]
 induction s with
 | nil=>simp[Lib.indexByte,gQ]
 |
  cons c r ih =>
  have hge:=Lib.indexByte_ge r 39
  unfold Lib.indexByte gQ
  by_cases hc:c=39
  ·subst hc
   simp
  ·have hc':(c==39)=false:=by simpa using hc
   rw[hc',if_neg hc]
   simp only[Bool.false_eq_true,if_false]
   rw[← ih]
   by_cases hm:Lib.indexByte r 39 = -1
   ·simp[hm]
   ·have hm':(Lib.indexByte r 39==-1)=false:=by simpa using hm
    rw[hm']
    simp only[Bool.false_eq_true,if_false]
    rw[if_pos (by omega),if_pos (by omega)]
    have e:(Lib.indexByte r 39+1).toNat=(Lib.indexByte r 39).toNat+1:=by omega
    rw[e]
    simp
theorem CB (s:List UInt8):(gQ s).1.length+(gQ s).2.1.length≤s.length:=by
 induction s with
 | nil=>simp[gQ]
 | cons c r ih=>unfold gQ;split<;>simp<;>omega
def o7 (acc rest:List UInt8) (cl:Bool):List UInt8 × List UInt8 × Bool :=
 if rest.head?=some 39 then (acc++39::(txt (rest.drop 1)).1,(txt (rest.drop 1)).2) else (acc,rest,cl)
theorem zI (acc a rest:List UInt8) (cl:Bool):o7 (acc++a) rest cl=(acc++(o7 a rest cl).1,(o7 a rest cl).2):=by
 unfold o7
 split<;>simp
theorem yM (s:List UInt8):txt s=o7 (gQ s).1 (gQ s).2.1 (gQ s).2.2:=by
 fun_induction txt s with
 | case1=>simp[gQ,o7]
 | case2=>simp[gQ,o7]
 | case3 c h=>simp[gQ,o7,h]
 | case4 r ih=>simp[gQ,o7]
 | case5 d r hd=>simp[gQ,o7,hd]
 |
  case6 c d r hc ih =>
  have e:gQ (c::d::r)=(c::(gQ (d::r)).1,(gQ (d::r)).2):=by rw[gQ,if_neg hc]
  rw[e]
  have:=zI [c] (gQ (d::r)).1 (gQ (d::r)).2.1 (gQ (d::r)).2.2
  rw[← ih] at this
  exact this.symm
theorem DL (acc r:List UInt8) (cl:Bool):o7 acc (39::r) cl=o7 (acc++39::(gQ r).1) (gQ r).2.1 (gQ r).2.2:=by
 rw[show acc++39::(gQ r).1=(acc++[39])++(gQ r).1 by simp,zI,← yM]
 simp[o7]
theorem Gf {acc rest:List UInt8} {cl:Bool} (h:rest.head?≠some 39):o7 acc rest cl=(acc,rest,cl):=if_neg h
def Bd (g:Nat) (acc:List UInt8) (w:World):Prop:=Lib.IsBuilder 239 5 g g (Lib.byteCells acc) w
theorem Bd.drewN {g:Nat} {acc:List UInt8} {w:World} (h:Bd g acc w) (n:Nat):Bd g acc (w.drewN n):=h
theorem nu:iy.t 72=239∧iy.t 5=5:=by decide
theorem pE (g:Nat) (acc t:List UInt8) (w:World) (h:Bd g acc w) (hl:acc.length+t.length≤140737488355328) (hg:g≤w.heap.size) :
  Calls Tryz.prog 221 #[.pointer (some ⟨g,0,none⟩),.string (ah t)] w fun e w'=>e = .returned (.tuple #[.int .i64 (t.length:Int),.nilIface])∧Bd g (acc++t) w'∧Below g w w':=by
 have hB:=Any.Builder_WriteString Ke uM g g (Lib.byteCells acc) (ah t) w (by rw[nu.1,nu.2];exact h) (by rw[Lib.byteCells_length,cu];exact hl) hg
 rw[sV.2.2.2.2.2.2.1,nu.1,nu.2] at hB
 refine hB.mono fun e w' ⟨he,hb,hbel⟩=>⟨he,.inr ?_,hbel⟩
 have e2:Lib.byteCells acc++Lib.strCells (ah t)=Lib.byteCells (acc++t):=by
  rw[Lib.strCells_eq]
  show _++Lib.byteCells t=_
  simp[Lib.byteCells]
 rwa [e2] at hb
theorem EN (g:Nat) (acc:List UInt8) (w:World) (h:Bd g acc w):Calls Tryz.prog 260 #[.pointer (some ⟨g,0,none⟩)] w fun e w'=>e = .returned (.int .i64 (acc.length:Int))∧w'=w:=by
 have hB:=Any.Builder_Len J8 g g (Lib.byteCells acc) w (by rw[nu.1,nu.2];exact h)
 rw[sV.2.2.2.2.2.2.2.2.1,Lib.byteCells_length] at hB
 exact hB
theorem zW (g:Nat) (acc:List UInt8) (w:World) (h:Bd g acc w) (hg:g≤w.heap.size):Calls Tryz.prog 222 #[.pointer (some ⟨g,0,none⟩)] w fun e w'=>e = .returned (.string (ah acc))∧Below g w w':=by
 have hB:=Any.Builder_String_any Ku uM g g acc w (by rw[nu.1,nu.2];exact h) hg
 rw[sV.2.2.2.2.2.2.2.1] at hB
 exact hB
theorem zu (s:List UInt8) (w:World) (hT:kN w) (hs:s.length≤2147483648):Calls Tryz.prog 259 #[.string (ah s),.string ⟨#[39]⟩] w fun e w'=>e = .returned (.tuple #[.string (ah (gQ s).1),.string (ah (gQ s).2.1),.bool (gQ s).2.2])∧∃n,w'=w.drewN n:=by
 obtain⟨m,hm⟩:=hT.tv.max
 have:=Any.strings_Cut JA (ah s) ⟨#[39]⟩ m w (by rw[cu];omega) (by rw[Fg.2.2.1];exact hm)
 rw[sV.2.2.1] at this
 have e:Lib.cut (ah s).data.toList [39]=gQ s:=Hu s
 have e2:Lib.cut (ah s).data.toList (⟨#[39]⟩:ByteArray).data.toList=gQ s:=e
 rw[e2] at this
 exact this
theorem Jb (rest:List UInt8):[39].isPrefixOf rest=decide (rest.head?=some 39):=by
 cases rest with
 | nil=>simp[List.isPrefixOf]
 |
  cons c r =>
  simp only[List.isPrefixOf,List.head?_cons,Option.some.injEq,Bool.and_true]
  rw[Bool.eq_iff_iff,beq_iff_eq,decide_eq_true_eq]
  exact eq_comm
theorem yD (s:List UInt8) (w:World) (hT:kN w) (hs:s.length≤2147483648) (h1:1≤s.length):Calls Tryz.prog 229 #[.string (ah s)] w fun e w'=>e = .returned (jV (iw s))∧Below w.heap.size w w':=by
 have hsz:(ah s).size=s.length:=rfl
 have hs1 : ∀w,(Instr.slice 9 (.string (ah s)) (some (.int .i64 1)) none none).run Tryz.prog w = .ok (.string (ah (s.drop 1))) w:=gX s 1 h1
 have hdl:(s.drop 1).length=s.length-1:=by simp
 have hq:=CB (s.drop 1)
 have hd:iw s=nX s.length (txt (s.drop 1)):=rfl
 rw[hd,yM]
 clear hd
 obtain⟨W0,hW0,hbW0,hzW0,hcW0⟩:=yg w (.int .i64 0) (.string ⟨#[]⟩) (.int .i64 0) (.int .i64 0) 162
 obtain⟨W,hW⟩:∃W,W0.alloc (.cells #[.pointer none,.slice none 0 0] 239)=W:=⟨_,rfl⟩
 have hbd:Bd W0.heap.size [] W:=by rw[← hW];exact Lib.fresh_isBuilder _ _ W0
 have hbW1:Below W0.heap.size W0 W:=by rw[← hW];exact (Below.refl _ _).alloc (Nat.le_refl _) _
 have hzW1:W0.heap.size<W.heap.size:=by rw[← hW];simp
 have HT0:=hid (hT.on hbW0)
 have HTW:=hid (HT0.out.on hbW1)
 have HC0:=hid (zu (s.drop 1) W HTW.out (by omega))
 have HCW:=hid hcW0
 have HB:=hid hbW0
 have HB1:=hid hbW1
 have HBD:=hid hbd
 clear hcW0 hbW0 hbW1 hbd hT
 obtain⟨⟨a0,r0,c0⟩,hx0⟩:∃x,gQ (s.drop 1)=x:=⟨_,rfl⟩
 rw[hx0] at HC0 hq ⊢
 dsimp only at HC0 hq ⊢
 clear hx0
 generalize hs':s.drop 1=s1 at hs1 HC0 hdl hq
 clear hs'
 obtain⟨X,hX⟩:∃X,o7 a0 r0 c0=X:=⟨_,rfl⟩
 rw[hX]
 go_enter Tryz.func229,Tryz.ntmps229
 go_wp2_with fail
 try rw[hW0]
 try rw[hW]
 clear hW0 hW
 refine HC0.out.mono ?_
 rintro e w1 ⟨rfl,n1,hn1⟩
 have HW1:Hid (Below W.heap.size W w1):=hid (by rw[hn1];exact below_drewN (Below.refl _ _) n1)
 have HBD1:Hid (Bd W0.heap.size [] w1):=hid (by rw[hn1];exact HBD.out)
 clear hn1 HC0
 have HWR:=hid (pE W0.heap.size [] a0 w1 HBD1.out (by simp;omega) (by have:=HW1.out.size;omega))
 go_wp2_with fail
 refine HWR.out.mono ?_
 rintro e w2 ⟨rfl,hbd2,hb2⟩
 have hbel2:Below W0.heap.size W0 w2:=HB1.out.trans ((HW1.out.mono (Nat.le_of_lt hzW1)).trans hb2)
 rw[List.nil_append] at hbd2
 have HX:=hid hX
 clear hb2 HWR HBD1 HW1 hX
 go_wp2_with fail
 go_loopw [6,7,8] (fun _ v7 v8 wr=>∃(acc rest:List UInt8) (cl:Bool),v7 = .string (ah rest)∧v8 = .bool cl∧acc.length+rest.length≤s.length∧Hid (Bd W0.heap.size acc wr)∧Hid (Below W0.heap.size W0 wr)∧Hid (o7 acc rest cl=X)) (fun _ v7 _ _=>match v7 with | .string b=>b.size | _=>0)
 case atStart=>exact⟨a0,r0,c0,rfl,rfl,by omega,hid hbd2,hid hbel2,HX⟩
 case round =>
  obtain⟨acc,rest,cl,rfl,rfl,hlen,HBDr,HBr,HXr⟩:=hrel
  have hszr:=HBr.out.size
  have HP:Hid (∀w,Calls Tryz.prog 223 #[.string (ah rest),.string ⟨#[39]⟩] w fun e w'=>e = .returned (.bool ([39].isPrefixOf rest))∧w'=w):=hid (fun w=>lG rest [39] w)
  rw[Jb] at HP
  by_cases hh:rest.head?=some 39
  ·obtain⟨r,rfl⟩:∃r,rest=39::r:=by
    cases rest with
    | nil=>simp at hh
    | cons c r=>simp at hh;exact⟨r,by rw[hh]⟩
   rw[decide_eq_true hh] at HP
   have hss : ∀w,(Instr.slice 9 (.string (ah (39::r))) (some (.int .i64 1)) none none).run Tryz.prog w = .ok (.string (ah r)) w:=gX (39::r) 1 (by simp)
   have hstep:=DL acc r cl
   have hqr:=CB r
   rw[List.length_cons] at hlen
   have HC:=hid (zu r wr (HT0.out.on HBr.out) (by omega))
   obtain⟨⟨a1,r1,c1⟩,hx1⟩:∃x,gQ r=x:=⟨_,rfl⟩
   rw[hx1] at HC hqr hstep
   dsimp only at HC hqr hstep
   have HS:=hid (hstep.symm.trans HXr.out)
   clear hx1 hstep hh HXr
   have hm:(ah (39::r)).size=r.length+1:=rfl
   have HM:=hid hm
   clear hm
   go_wp2_with fail
   refine (HP.out _).mono ?_
   rintro e w3 ⟨rfl,hw3⟩
   obtain rfl:wr=w3:=hw3.symm
   clear hw3
   go_wp2_with fail
   refine HC.out.mono ?_
   rintro e w4 ⟨rfl,n4,hn4⟩
   have HB4:Hid (Below W0.heap.size W0 w4):=hid (by rw[hn4];exact below_drewN HBr.out n4)
   have HBD4:Hid (Bd W0.heap.size acc w4):=hid (by rw[hn4];exact HBDr.out)
   clear hn4 HC HP
   have HW4:=hid (show Calls Tryz.prog 221 #[.pointer (some ⟨W0.heap.size,0,none⟩),.string ⟨#[39]⟩] w4 _ from pE W0.heap.size acc [39] w4 HBD4.out (by simp;omega) HB4.out.size)
   go_wp2_with fail
   refine HW4.out.mono ?_
   rintro e w5 ⟨rfl,hbd5,hb5⟩
   have HB5:Hid (Below W0.heap.size W0 w5):=hid (HB4.out.trans hb5)
   have HW5:=hid (pE W0.heap.size (acc++[39]) a1 w5 hbd5 (by simp;omega) HB5.out.size)
   clear HW4 hbd5 hb5 HBD4 HB4
   go_wp2_with fail
   refine HW5.out.mono ?_
   rintro e w6 ⟨rfl,hbd6,hb6⟩
   have HB6:Hid (Below W0.heap.size W0 w6):=hid (HB5.out.trans hb6)
   have HBD6:=hid hbd6
   clear HW5 hbd6 hb6
   go_wp2
   go_roundw
   case rel=>exact⟨acc++[39]++a1,r1,c1,rfl,rfl,by simp;omega,HBD6,HB6,hid (by rw[← HS.out];simp)⟩
   case measure =>
    show (ah r1).size<(ah (39::r)).size
    rw[HM.out,cu]
    omega
  ·rw[decide_eq_false hh] at HP
   have HXe:Hid (X=(acc,rest,cl)):=hid (by rw[← HXr.out,Gf hh])
   have HL:=hid (EN W0.heap.size acc wr HBDr.out)
   have HSt:=hid (zW W0.heap.size acc wr HBDr.out HBr.out.size)
   have g0:=aW (HCW.out wr HBr.out)
   have HE:Hid (Below w.heap.size w wr):=hid (HB.out.trans (HBr.out.mono (Nat.le_of_lt hzW0)))
   clear HXr hh
   rw[HXe.out]
   have ht:nX s.length (acc,rest,cl)=if 40<acc.length then (2,jl,0) else if cl=false then (3,jl,0) else (0,⟨4,acc,0,0⟩,s.length-rest.length):=rfl
   have HTX:=hid ht
   clear ht
   go_wp2_with fail
   refine (HP.out _).mono ?_
   rintro e w3 ⟨rfl,hw3⟩
   obtain rfl:wr=w3:=hw3.symm
   clear hw3
   go_wp2_with fail
   refine HL.out.mono ?_
   rintro e w4 ⟨rfl,hw4⟩
   obtain rfl:wr=w4:=hw4.symm
   clear hw4 HL
   by_cases h40:40<acc.length
   ·have HTa:Hid (jV (nX s.length (acc,rest,cl)) = .tuple #[.agg #[.int .i64 0,.string ⟨#[]⟩,.int .i64 0,.int .i64 0],.int .i64 0,.int .i64 2]):=hid (by rw[HTX.out,if_pos h40];rfl)
    go_wp2
    exact bodyPost_ret (v:=.tuple #[.agg #[.int .i64 0,.string ⟨#[]⟩,.int .i64 0,.int .i64 0],.int .i64 0,.int .i64 2]) (by simp[results,Tryz.results229,go_sem,g0]) rfl ⟨by rw[HXe.out,HTa.out],(((HE.out.setCell (Nat.le_refl _) _).setCell (Nat.le_refl _) _).setCell (Nat.le_refl _) _).setCell (Nat.le_refl _) _⟩
   ·cases cl with
    |
     false =>
     have HTa:Hid (jV (nX s.length (acc,rest,false)) = .tuple #[.agg #[.int .i64 0,.string ⟨#[]⟩,.int .i64 0,.int .i64 0],.int .i64 0,.int .i64 3]):=hid (by rw[HTX.out,if_neg h40];rfl)
     go_wp2
     exact bodyPost_ret (v:=.tuple #[.agg #[.int .i64 0,.string ⟨#[]⟩,.int .i64 0,.int .i64 0],.int .i64 0,.int .i64 3]) (by simp[results,Tryz.results229,go_sem,g0]) rfl ⟨by rw[HXe.out,HTa.out],(((HE.out.setCell (Nat.le_refl _) _).setCell (Nat.le_refl _) _).setCell (Nat.le_refl _) _).setCell (Nat.le_refl _) _⟩
    |
     true =>
     have HTa:Hid (jV (nX s.length (acc,rest,true)) = .tuple #[.agg #[.int .i64 4,.string (ah acc),.int .i64 0,.int .i64 0],.int .i64 ((s.length:Int)-(rest.length:Int)),.int .i64 0]):=hid (by
      rw[HTX.out,if_neg h40,if_neg (by simp)]
      show Value.tuple #[_,.int .i64 ((s.length-rest.length:Nat):Int),_]=_
      rw[show ((s.length-rest.length:Nat):Int)=(s.length:Int)-(rest.length:Int) by omega]
      rfl)
     have HWr:Hid (wrap64 ((s.length:Int)-((ah rest).size:Int))=(s.length:Int)-(rest.length:Int)):=hid (by
      rw[cu]
      unfold wrap64;omega)
     go_wp2_with fail
     refine HSt.out.mono ?_
     rintro e w5 ⟨rfl,hb5⟩
     have HB5:Hid (Below W0.heap.size W0 w5):=hid (HBr.out.trans hb5)
     have g1:=aW (HCW.out w5 HB5.out)
     have HE5:Hid (Below w.heap.size w w5):=hid (HB.out.trans (HB5.out.mono (Nat.le_of_lt hzW0)))
     clear hb5 HSt g0 HE
     go_wp2
     exact bodyPost_ret (v:=.tuple #[.agg #[.int .i64 4,.string (ah acc),.int .i64 0,.int .i64 0],.int .i64 ((s.length:Int)-(rest.length:Int)),.int .i64 0]) (by simp[results,Tryz.results229,go_sem,g1,HWr.out]) rfl ⟨by rw[HXe.out,HTa.out],(((HE5.out.setCell (Nat.le_refl _) _).setCell (Nat.le_refl _) _).setCell (Nat.le_refl _) _).setCell (Nat.le_refl _) _⟩
end Go.Proofs.YtaaggohjmhifbaaGreatDoor
