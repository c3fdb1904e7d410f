/- Packed for the hand-in: VDbl VLit LPure LLow -/
import Derived.Lib.ReplaceLaws
import Derived.Lib.IndexBytes
import Derived.Test.YtaaggohjmhifbaaGreatDoorP01
import Derived.Lib.AtoiAll
import Derived.Lib.ItoaNum
import Derived.Lib.Fields
import Derived.Shelf.Pu.Clone
import Derived.Deep.QuietTactic
import Derived.BigQuiet
namespace Go.Proofs.YtaaggohjmhifbaaGreatDoor
set_option linter.unusedVariables false
set_option maxHeartbeats 8000000
def dbl (s:List UInt8):List UInt8:=s.flatMap fun c=>if c=39 then [39,39] else [c]
theorem dbl_append (a b:List UInt8):dbl (a++b)=dbl a++dbl b:=by simp[dbl]
theorem dbl_none : ∀(s:List UInt8),(∀k:Nat,s[k]?≠some 39)→dbl s=s
 | [],_=>rfl
 |
  c::s,h=>by
  have hc:c≠39:=fun e=>h 0 (by simp[e])
  have ih:=dbl_none s fun k=>by simpa using h (k+1)
  have e:dbl (c::s)=[c]++dbl s:=by simp[dbl,hc]
  rw[e,ih]
  rfl
theorem dbl_le (s:List UInt8):(dbl s).length≤2*s.length:=by
 induction s with
 | nil=>simp[dbl]
 |
  cons c s ih =>
  have e:dbl (c::s)=(if c=39 then [39,39] else [c])++dbl s:=by simp[dbl]
  rw[e,List.length_append,List.length_cons]
  split<;>simp<;>omega
theorem replaceK_dbl : ∀(k:Nat) (s:List UInt8),Lib.count s [39]≤k→Lib.replaceK [39] [39,39] k s=dbl s:=by
 have miss : ∀s:List UInt8,Lib.index s [39] = -1→dbl s=s:=fun s h=>by
  rw[Lib.index_one] at h
  exact dbl_none s (Lib.indexByte_none h)
 have hit : ∀(s:List UInt8) (i:Nat),Lib.index s [39]=i→Lib.count s [39]=Lib.count (s.drop (i+1)) [39]+1∧dbl s=s.take i++[39,39]++dbl (s.drop (i+1)):=fun s i h=>by
  refine ⟨by have:=Lib.count_hit (s:=s) (sub:=[39]) (i:=i) (by simp) h;simpa [Nat.add_comm] using this,?_⟩
  rw[Lib.index_one] at h
  obtain⟨h1,h2⟩:=Lib.indexByte_some h
  have hi:i<s.length:=(List.getElem?_eq_some_iff.1 h1).1
  have e:s=s.take i++(39::s.drop (i+1)):=by
   have e1:=(List.take_append_drop i s).symm
   rw[List.drop_eq_getElem_cons hi,(List.getElem?_eq_some_iff.1 h1).2] at e1
   exact e1
  have e2:dbl (s.take i)=s.take i:=dbl_none _ fun k hk=>by
   rw[List.getElem?_take] at hk
   split at hk
   ·rename_i hlt
    exact h2 k hlt hk
   ·cases hk
  have e3:dbl (39::s.drop (i+1))=[39,39]++dbl (s.drop (i+1)):=by simp[dbl]
  conv=>lhs;rw[e]
  rw[dbl_append,e2,e3,List.append_assoc]
 intro k
 induction k with
 |
  zero =>
  intro s h
  rw[Lib.replaceK]
  have hge:=Lib.index_ge s [39]
  by_cases hm:Lib.index s [39] = -1
  ·exact (miss s hm).symm
  ·obtain⟨i,hi⟩:∃i:Nat,Lib.index s [39]=i:=⟨(Lib.index s [39]).toNat,by omega⟩
   have:=(hit s i hi).1
   omega
 |
  succ k ih =>
  intro s h
  have hge:=Lib.index_ge s [39]
  by_cases hm:Lib.index s [39] = -1
  ·rw[miss s hm,Lib.replaceK,if_pos (by rw[hm];rfl)]
  ·obtain⟨i,hi⟩:∃i:Nat,Lib.index s [39]=i:=⟨(Lib.index s [39]).toNat,by omega⟩
   obtain⟨h1,h2⟩:=hit s i hi
   rw[Lib.replaceK_hit _ _ k s i hi,h2,ih _ (by simp;omega)]
   rfl
theorem replaceAll_dbl (s:List UInt8):Lib.replaceAll s [39] [39,39]=dbl s:=by
 unfold Lib.replaceAll Lib.replace
 rw[if_neg (by decide)]
 have e:Lib.replaceNum s [39] (-1)=Lib.count s [39]:=by
  unfold Lib.replaceNum
  rw[if_pos (by left;decide)]
 rw[e]
 exact replaceK_dbl _ s (Nat.le_refl _)
end Go.Proofs.YtaaggohjmhifbaaGreatDoor
namespace Go.Proofs.YtaaggohjmhifbaaGreatDoor
open Go.RowKit Go.Shelf
set_option linter.unusedSimpArgs false
set_option linter.unusedVariables false
set_option maxRecDepth 20000
set_option maxHeartbeats 8000000
structure TabV (w:World):Prop where
 lt:5<w.heap.size
 max : ∃m,w.cell? ⟨2,0,none⟩=some (.int .i64 m)
 pow:Lib.TabIs Tryz.prog w "internal/strconv.uint64pow10" .u64 Lib.pow10Tab
theorem TabV.below {w w':World} {B:Nat} (h:TabV w) (hb:Below B w w') (hB:5<B):TabV w':=by
 refine ⟨Nat.lt_of_lt_of_le h.lt hb.size,?_,?_⟩
 ·obtain⟨m,hm⟩:=h.max
  exact⟨m,by rw[hb.cell (p:=⟨2,0,none⟩) (by show 2<B;omega)];exact hm⟩
 ·have hp:=h.pow
  unfold Lib.TabIs World.var? at hp ⊢
  rw[laysI.m17] at hp ⊢
  have e:w'.heap[renV.g 17]?=w.heap[renV.g 17]?:=hb.block _ (by rw[numR.2.2.2];omega)
  simp only[Option.bind_some] at hp ⊢
  rw[e]
  exact hp
theorem str8_add (a b:List UInt8):str8 a++str8 b=str8 (a++b):=by
 apply ByteArray.ext
 simp[str8]
def litV (x:Vl):List UInt8:=if x.k=1 then Lib.itoa x.n else if x.k=2 then [39]++(dbl x.s++[39]) else [78,85,76,76]
theorem replaceAll_any (s:List UInt8) (w:World) (hT:TabV w) (hs:s.length<4294967281) :
  Calls Tryz.prog 251 #[.string (str8 s),.string ⟨#[39]⟩,.string ⟨#[39,39]⟩] w fun e w'=>e = .returned (.string (str8 (dbl s)))∧Below w.heap.size w w':=by
 obtain⟨m,hm⟩:=hT.max
 have hc:=Lib.countB_mul_le ⟨#[39]⟩ (by decide) (str8 s).size (str8 s) (Nat.le_refl _)
 have h1:(⟨#[39]⟩:ByteArray).size=1:=rfl
 have h2:(⟨#[39,39]⟩:ByteArray).size=2:=rfl
 rw[h1,str8_size] at hc
 have:=Any.strings_ReplaceAll laysR extraR (str8 s) ⟨#[39]⟩ ⟨#[39,39]⟩ m w (by rw[str8_size];exact hs) (by rw[numR.2.2.1];exact hm) (by decide) (by rw[h2,str8_size];omega)
 rw[numR.1] at this
 rw[← replaceAll_dbl]
 exact this
theorem itoa_any (n:Int) (w:World) (hT:TabV w) (h0 : -9223372036854775808≤n) (h1:n≤9223372036854775807) :
  Calls Tryz.prog 218 #[.int .i64 n] w fun e w'=>e = .returned (.string (str8 (Lib.itoa n)))∧Below w.heap.size w w':=by
 have:=Any.strconv_Itoa laysI n h0 h1 w hT.pow
 rw[numR.2.1] at this
 refine this.mono fun e w' ⟨he,k,os,hw⟩=>⟨he,?_⟩
 subst hw
 exact⟨rfl,rfl,rfl,by simp[Sort.grow,World.drewN],fun j hj=>by simp[Sort.grow,World.drewN,Array.getElem?_append_left hj]⟩
set_option maxRecDepth 100000 in
theorem literal_any (k n:Int) (s:List UInt8) (w:World) (hT:TabV w) (h0 : -9223372036854775808≤n) (h1:n≤9223372036854775807) (hs:s.length<4294967281) :
  Calls Tryz.prog 219 #[.agg #[.int .i64 k,.int .i64 n,.string (str8 s)]] w fun e w'=>e = .returned (.string (str8 (litV ⟨k,n,s⟩)))∧Below w.heap.size w w':=by
 obtain⟨W,hW,hbW,hzW,hcW⟩:=box3 w (.int .i64 k) (.int .i64 n) (.string (str8 s)) 128
 have c0:=hcW W (Below.refl _ _)
 have HI:=hid (itoa_any n W (hT.below hbW hT.lt) h0 h1)
 have HR:=hid (replaceAll_any s W (hT.below hbW hT.lt) hs)
 have HB:=hid hbW
 clear hcW hbW
 by_cases hk1:k=1
 ·have hd:litV ⟨k,n,s⟩=Lib.itoa n:=by rw[litV,if_pos hk1]
  rw[hd]
  clear hd
  subst hk1
  go_enter Tryz.func219,Tryz.ntmps219
  go_wp2_with fail
  refine HI.out.mono ?_
  rintro e w1 ⟨rfl,hb1⟩
  go_wp2
  go_ret
  exact⟨rfl,HB.out.trans (hb1.mono HB.out.size)⟩
 ·have hk1':(k==1)=false:=by simpa using hk1
  by_cases hk2:k=2
  ·have hd:litV ⟨k,n,s⟩=[39]++(dbl s++[39]):=by rw[litV,if_neg hk1,if_pos hk2]
   have hle:=dbl_le s
   obtain⟨L,hL⟩:∃L,dbl s=L:=⟨_,rfl⟩
   rw[hL] at hd HR hle
   rw[hd]
   clear hd hL
   subst hk2
   go_enter Tryz.func219,Tryz.ntmps219
   go_wp2_with fail
   refine HR.out.mono ?_
   rintro e w1 ⟨rfl,hb1⟩
   have ha1 : ∀w,(Op.stringOp .add ⟨#[39]⟩ (str8 L)).run Tryz.prog w = .ok (.string (str8 (39::L))) w:=fun w=>by
    rw[run_string_add_sum w _ _ (by rw[str8_size];show 1+L.length≤_;omega)]
    exact congrArg (fun x=>Result.ok (Value.string x) w) (str8_add [39] L)
   have ha2 : ∀w,(Op.stringOp .add (str8 (39::L)) ⟨#[39]⟩).run Tryz.prog w = .ok (.string (str8 ([39]++(L++[39])))) w:=fun w=>by
    rw[run_string_add_sum w _ _ (by rw[str8_size,List.length_cons];show L.length+1+1≤_;omega)]
    exact congrArg (fun x=>Result.ok (Value.string x) w) (str8_add (39::L) [39])
   clear hle
   go_wp2
   go_ret
   exact⟨rfl,HB.out.trans (hb1.mono HB.out.size)⟩
  ·have hk2':(k==2)=false:=by simpa using hk2
   have hd:litV ⟨k,n,s⟩=[78,85,76,76]:=by rw[litV,if_neg hk1,if_neg hk2]
   rw[hd]
   clear hd
   go_enter Tryz.func219,Tryz.ntmps219
   go_wp2
   go_ret
   exact⟨rfl,HB.out⟩
end Go.Proofs.YtaaggohjmhifbaaGreatDoor
namespace Go.Proofs.YtaaggohjmhifbaaGreatDoor
set_option linter.unusedSimpArgs false
set_option linter.unusedVariables false
set_option maxHeartbeats 8000000
def lowsB:List UInt8:=[97,98,99,100,101,102,103,104,105,106,107,108,109,110,111,112,113,114,115,116,117,118,119,120,121,122,95]
def digsB:List UInt8:=[48,49,50,51,52,53,54,55,56,57]
def upsB:List UInt8:=[65,66,67,68,69,70,71,72,73,74,75,76,77,78,79,80,81,82,83,84,85,86,87,88,89,90]
def blksB:List UInt8:=[9,10,13,32]
def nameB:List UInt8:=lowsB++digsB
def gluedB:List UInt8:=lowsB++(upsB++digsB)
def inS (l:List UInt8) (c:UInt8):Bool:=l.contains c
theorem index_inS : ∀(l:List UInt8) (c:UInt8),decide (0≤Lib.indexByte l c)=inS l c
 | [],c=>by simp[Lib.indexByte,inS]
 |
  b::l,c=>by
  have ih:=index_inS l c
  have hge:=Lib.indexByte_ge l c
  unfold Lib.indexByte
  by_cases h:b=c
  ·subst h;simp[inS]
  ·have h':(b==c)=false:=by simpa using h
   have h2 : ¬c=b:=fun e=>h e.symm
   rw[h']
   simp only[Bool.false_eq_true,if_false]
   have e:inS (b::l) c=inS l c:=by simp[inS,h2]
   rw[e,← ih]
   by_cases hm:Lib.indexByte l c = -1
   ·simp[hm]
   ·have:(Lib.indexByte l c==-1)=false:=by simpa using hm
    rw[this]
    simp only[Bool.false_eq_true,if_false]
    rw[decide_eq_true (by omega),decide_eq_true (by omega)]
def row (p:UInt8→Bool) (s:List UInt8):Nat:=(s.takeWhile p).length
theorem row_le (p:UInt8→Bool) (s:List UInt8):row p s≤s.length:=by
 unfold row
 induction s with
 | nil=>simp
 | cons c s ih=>rw[List.takeWhile_cons];split<;>simp<;>omega
theorem take_row (p:UInt8→Bool) (s:List UInt8):s.take (row p s)=s.takeWhile p:=by
 unfold row
 induction s with
 | nil=>simp
 |
  cons c s ih =>
  rw[List.takeWhile_cons]
  split
  ·simp[ih]
  ·simp
theorem row_cons_pos {p:UInt8→Bool} {c:UInt8} {s:List UInt8} (h:p c=true):row p (c::s)=row p s+1:=by
 simp[row,List.takeWhile_cons,h]
theorem row_cons_neg {p:UInt8→Bool} {c:UInt8} {s:List UInt8} (h:p c=false):row p (c::s)=0:=by
 simp[row,List.takeWhile_cons,h]
theorem row_nil (p:UInt8→Bool):row p []=0:=rfl
theorem row_append {p:UInt8→Bool} {a x:List UInt8} (ha : ∀c∈a,p c=true) (hx:row p x=0):row p (a++x)=a.length:=by
 induction a with
 | nil=>simpa using hx
 |
  cons c a ih =>
  rw[List.cons_append,row_cons_pos (ha c (by simp)),ih (fun d hd=>ha d (by simp[hd]))]
  simp
theorem takeWhile_all (p:UInt8→Bool) (s:List UInt8):∀c∈s.takeWhile p,p c=true:=by
 induction s with
 | nil=>simp
 |
  cons c s ih =>
  rw[List.takeWhile_cons]
  split
  ·intro d hd
   rcases List.mem_cons.1 hd with rfl | hd
   ·assumption
   ·exact ih d hd
  ·simp
theorem take_row_all (p:UInt8→Bool) (s:List UInt8):∀c∈s.take (row p s),p c=true:=by
 rw[take_row];exact takeWhile_all p s
structure Tk where
 k:Int
 s:List UInt8
 n:Int
 p:Int
def zTk:Tk:=⟨0,[],0,0⟩
def Tk.z (t:Tk):Tk:=⟨t.k,t.s,t.n,0⟩
def wordsB:List (List UInt8):=[[65,78,68],[66,89],[67,79,85,78,84],[67,82,69,65,84,69],[68,69,76,69,84,69],[68,69,83,67],[68,82,79,80],[70,82,79,77],[71,82,79,85,80],[73,78,83,69,82,84],[73,78,84],[73,78,84,79],[73,83],[74,79,73,78],[75,69,89],[76,73,77,73,84],[77,65,88],[77,73,78],[78,79,84],[78,85,76,76],[79,78],[79,82],[79,82,68,69,82],[80,82,73,77,65,82,89],[83,69,76,69,67,84],[83,69,84],[83,85,77],[84,65,66,76,69],[84,69,88,84],[85,78,73,81,85,69],[85,80,68,65,84,69],[86,65,76,85,69,83],[87,72,69,82,69]]
def signsB:List (List UInt8):=[[60,62],[60,61],[62,61],[40],[41],[44],[59],[46],[42],[43],[45],[47],[37],[61],[60],[62]]
def runsB (r:List UInt8):Bool:=decide (0<row (inS gluedB) r)
def cutNameT (s:List UInt8):Nat × Tk × Nat :=
 if runsB (s.drop (row (inS nameB) s))=true then (4,zTk,0) else if 16<row (inS nameB) s then (2,zTk,0) else (0,⟨1,s.take (row (inS nameB) s),0,0⟩,row (inS nameB) s)
def cutWordT (s:List UInt8):Nat × Tk × Nat :=
 if runsB (s.drop (row (inS upsB) s))=true then (4,zTk,0) else if wordsB.contains (s.take (row (inS upsB) s))=false then (4,zTk,0) else (0,⟨2,s.take (row (inS upsB) s),0,0⟩,row (inS upsB) s)
def numT (n:Nat):Lib.NumEnd Int→Nat × Tk × Nat
 | .ok v=>(0,⟨3,[],v,0⟩,n)
 | _=>(7,zTk,0)
def cutNumT (s:List UInt8):Nat × Tk × Nat :=
 if runsB (s.drop (row (inS digsB) s))=true then (4,zTk,0) else numT (row (inS digsB) s) (Lib.atoiAll (s.take (row (inS digsB) s)))
def txt:List UInt8→List UInt8 × List UInt8 × Bool
 | []=>([],[],false)
 | [c]=>if c=39 then ([],[],true) else ([c],[],false)
 | c::d::r=>if c=39 then (if d=39 then (39::(txt r).1,(txt r).2) else ([],d::r,true)) else (c::(txt (d::r)).1,(txt (d::r)).2)
def textT (n:Nat) (x:List UInt8 × List UInt8 × Bool):Nat × Tk × Nat :=
 if 40<x.1.length then (2,zTk,0) else if x.2.2=false then (3,zTk,0) else (0,⟨4,x.1,0,0⟩,n-x.2.1.length)
def cutTextT (s:List UInt8):Nat × Tk × Nat:=textT s.length (txt (s.drop 1))
def signT:List (List UInt8)→List UInt8→Nat × Tk × Nat
 | [],_=>(4,zTk,0)
 | g::r,s=>if g.isPrefixOf s=true then (0,⟨5,g,0,0⟩,g.length) else signT r s
def cutSignT (s:List UInt8):Nat × Tk × Nat:=signT signsB s
def cutT (s:List UInt8):Nat × Tk × Nat :=
 match s with
 | []=>(4,zTk,0)
 | c::_=>if inS lowsB c=true then cutNameT s else if inS upsB c=true then cutWordT s else if inS digsB c=true then cutNumT s else if inS [39] c=true then cutTextT s else cutSignT s
def skip:Bool→List UInt8→Nat
 | _,[]=>0
 | true,c::r=>1+skip (c != 10) r
 | false,c::r=>if inS blksB c=true then 1+skip false r else if c=45∧r.head?=some 45 then 1+skip true r else 0
theorem skip_le : ∀(s:List UInt8) (b:Bool),skip b s≤s.length
 | [],b=>by cases b<;>simp[skip]
 |
  c::r,true=>by
  have:=skip_le r (c != 10)
  simp only[skip,List.length_cons];omega
 |
  c::r,false=>by
  have h1:=skip_le r false
  have h2:=skip_le r true
  simp only[skip,List.length_cons]
  split
  ·omega
  ·split<;>omega
theorem skip_remark : ∀(s:List UInt8),skip true s=row (fun c=>c != 10) s+skip false (s.drop (row (fun c=>c != 10) s))
 | []=>rfl
 |
  c::r=>by
  have ih:=skip_remark r
  by_cases h:c=10
  ·subst h
   rw[row_cons_neg (by decide)]
   simp[skip,inS,blksB]
  ·have hp:(c != 10)=true:=by simpa using h
   rw[row_cons_pos (p:=fun c=>c != 10) hp,List.drop_succ_cons]
   rw[skip,hp,ih]
   omega
theorem skip_drop : ∀(s:List UInt8) (b:Bool),skip false (s.drop (skip b s))=0
 | [],b=>by cases b<;>rfl
 |
  c::r,true=>by
  have ih:=skip_drop r (c != 10)
  rw[skip,Nat.add_comm,List.drop_succ_cons]
  exact ih
 |
  c::r,false=>by
  have h1:=skip_drop r false
  have h2:=skip_drop r true
  by_cases hb:inS blksB c=true
  ·rw[skip,if_pos hb,Nat.add_comm,List.drop_succ_cons];exact h1
  ·by_cases hr:c=45∧r.head?=some 45
   ·rw[skip,if_neg hb,if_pos hr,Nat.add_comm,List.drop_succ_cons];exact h2
   ·have e:skip false (c::r)=0:=by rw[skip,if_neg hb,if_neg hr]
    rw[e,List.drop_zero,e]
def Stop (x:List UInt8):Prop:=x=[]∨∃c r,x=c::r∧(c=9∨c=10∨c=13∨c=32∨c=45)
theorem stop_row {x:List UInt8} (h:Stop x):row (inS nameB) x=0∧row (inS upsB) x=0∧row (inS digsB) x=0∧row (inS gluedB) x=0:=by
 rcases h with rfl | ⟨c,r,rfl,h⟩
 ·exact⟨rfl,rfl,rfl,rfl⟩
 ·rcases h with rfl | rfl | rfl | rfl | rfl<;>exact⟨row_cons_neg (by decide),row_cons_neg (by decide),row_cons_neg (by decide),row_cons_neg (by decide)⟩
theorem stop_runs {x:List UInt8} (h:Stop x):runsB x=false:=by
 rw[runsB,(stop_row h).2.2.2];rfl
theorem row_first {p:UInt8→Bool} {c:UInt8} {r:List UInt8} (h:p c=true):1≤row p (c::r):=by
 rw[row_cons_pos h];omega
end Go.Proofs.YtaaggohjmhifbaaGreatDoor
namespace Go.Proofs.YtaaggohjmhifbaaGreatDoor
open Go.RowKit Go.Shelf
set_option linter.unusedSimpArgs false
set_option linter.unusedVariables false
set_option maxRecDepth 20000
set_option maxHeartbeats 8000000
theorem run_ix (s:List UInt8) (j:Nat) (c:UInt8) (h:s[j]?=some c) (w:World):(Instr.index 9 (.string (str8 s)) (.int .i64 (j:Int))).run Tryz.prog w = .ok (.int .u8 (c.toNat:Int)) w:=by
 obtain⟨hj,e⟩:=List.getElem?_eq_some_iff.1 h
 have hsz:(str8 s).size=s.length:=rfl
 rw[run_index_string w 9 (str8 s) .i64 _ Tryz.underlying9,dif_pos ⟨by omega,by rw[hsz];omega⟩]
 rw[← e]
 rfl
theorem run_cutfrom (s:List UInt8) (j:Nat) (h:j≤s.length) (w:World):(Instr.slice 9 (.string (str8 s)) (some (.int .i64 (j:Int))) none none).run Tryz.prog w = .ok (.string (str8 (s.drop j))) w:=by
 have hsz:(str8 s).size=s.length:=rfl
 rw[run_slice_string_from_if w 9 (str8 s) .i64 _ Tryz.underlying9,if_pos ⟨by omega,by rw[hsz];omega⟩]
 refine congrArg (fun x=>Result.ok (Value.string x) w) ?_
 apply ByteArray.ext
 apply Array.ext'
 rw[show ((j:Int)).toNat=j by omega,Lib.extract_data]
 show (s.drop j).take (s.length-j)=s.drop j
 exact List.take_of_length_le (by simp)
theorem run_cutto (s:List UInt8) (j:Nat) (h:j≤s.length) (w:World):(Instr.slice 9 (.string (str8 s)) none (some (.int .i64 (j:Int))) none).run Tryz.prog w = .ok (.string (str8 (s.take j))) w:=by
 have hsz:(str8 s).size=s.length:=rfl
 rw[run_slice_string_to_if w 9 (str8 s) .i64 _ Tryz.underlying9,if_pos ⟨by omega,by rw[hsz];omega⟩]
 refine congrArg (fun x=>Result.ok (Value.string x) w) ?_
 apply ByteArray.ext
 apply Array.ext'
 rw[show ((j:Int)).toNat=j by omega,Lib.extract_data]
 show (s.drop 0).take (j-0)=s.take j
 simp
structure TabL (w:World):Prop where
 tv:TabV w
 lt:9<w.heap.size
 spc:Lib.TabIs Tryz.prog w "strings.asciiSpace" .u8 Lib.asciiSpaceTab
 rng : ∃ev,w.cell? ⟨6,0,none⟩=some ev∧(ev = .nilIface∨∃te pe,ev = .iface te pe)
theorem TabL.below {w w':World} {B:Nat} (h:TabL w) (hb:Below B w w') (hB:9<B):TabL w':=by
 refine ⟨h.tv.below hb (by omega),Nat.lt_of_lt_of_le h.lt hb.size,?_,?_⟩
 ·have hp:=h.spc
  have hg:Tryz.prog.globalNamed "strings.asciiSpace" = some 1:=by kernel_rfl
  unfold Lib.TabIs World.var? at hp ⊢
  rw[hg] at hp ⊢
  have e:w'.heap[1]?=w.heap[1]?:=hb.block _ (by omega)
  simp only[Option.bind_some] at hp ⊢
  rw[e]
  exact hp
 ·obtain⟨ev,h1,h2⟩:=h.rng
  exact⟨ev,by rw[hb.cell (p:=⟨6,0,none⟩) (by show 6<B;omega)];exact h1,h2⟩
theorem TabL.on {w w':World} (h:TabL w) (hb:Below w.heap.size w w'):TabL w':=h.below hb h.lt
def PredS (g:Nat) (lb:Array Value) (p:UInt8→Bool) (w:World):Prop :=
 ∀(W:World) (c:UInt8),Below w.heap.size w W→Calls Tryz.prog g (#[.int .u8 (c.toNat:Int)]++lb) W fun e w'=>e = .returned (.bool (p c))∧w'=W
theorem PredS.on {g:Nat} {lb:Array Value} {p:UInt8→Bool} {w w':World} (h:PredS g lb p w) (hb:Below w.heap.size w w'):PredS g lb p w' :=
 fun W c hW=>h W c (hb.trans (hW.mono hb.size))
theorem indexByte_any (l:List UInt8) (c:UInt8) (w:World):Calls Tryz.prog 209 #[.string (str8 l),.int .u8 (c.toNat:Int)] w fun e w'=>e = .returned (.int .i64 (Lib.indexByte l c))∧w'=w:=by
 have:=Any.strings_IndexByte laysIx (str8 l) (c.toNat:Int) w
 rw[numL.1] at this
 have e1:(c.toNat:Int).toNat.toUInt8=c:=by simp
 rw[e1] at this
 exact this
theorem hasPrefix_any (s p:List UInt8) (w:World):Calls Tryz.prog 223 #[.string (str8 s),.string (str8 p)] w fun e w'=>e = .returned (.bool (p.isPrefixOf s))∧w'=w:=by
 have:=Any.strings_HasPrefix laysHp (str8 s) (str8 p) w
 rw[numL.2.1] at this
 exact this
theorem oneOf1_at (w:World) (B:Nat) (l:List UInt8) (hB:B<w.heap.size) (hc:w.cell? ⟨B,0,none⟩=some (.string (str8 l))):PredS 208 #[.pointer (some ⟨B,0,none⟩)] (inS l) w:=fun W c hb=>by
 have hc':W.cell? ⟨B,0,none⟩=some (.string (str8 l)):=(hb.cell (p:=⟨B,0,none⟩) hB).trans hc
 have hix:=index_inS l c
 have hge:=Lib.indexByte_ge l c
 have HI:=hid (indexByte_any l c W)
 obtain⟨j,hj⟩:∃j,Lib.indexByte l c=j:=⟨_,rfl⟩
 rw[hj] at hix hge HI
 rw[← hix]
 clear hix hj hc
 show Calls Tryz.prog 208 #[.int .u8 (c.toNat:Int),.pointer (some ⟨B,0,none⟩)] W _
 go_enter Tryz.func208,Tryz.ntmps208
 go_wp2_with (go_at_call 209;refine HI.out.mono ?_;rintro e w1 ⟨rfl,rfl⟩)
 go_ret
 exact⟨by simp,rfl⟩
theorem oneOf_any (l:ByteArray) (w:World):Calls Tryz.prog 153 #[.string l] w fun e w'=>e = .returned (.func (.func 208) #[] #[.pointer (some ⟨w.heap.size,0,none⟩)])∧w'=w.alloc (.cells #[.string l] 9):=by
 go_enter Tryz.func153,Tryz.ntmps153
 go_wp2
 go_ret
 exact⟨rfl,rfl⟩
theorem oneOf_tells (l:List UInt8) (w:World):Calls Tryz.prog 153 #[.string (str8 l)] w fun e w'=>(e = .returned (.func (.func 208) #[] #[.pointer (some ⟨w.heap.size,0,none⟩)])∧PredS 208 #[.pointer (some ⟨w.heap.size,0,none⟩)] (inS l) w')∧Below w.heap.size w w':=by
 refine (oneOf_any _ w).mono ?_
 rintro e w' ⟨rfl,rfl⟩
 exact⟨⟨rfl,oneOf1_at _ _ _ (by simp) (by simp)⟩,(Below.refl _ _).alloc (Nat.le_refl _) _⟩
theorem rowSize_any (s:List UInt8) (g:Nat) (lb:Array Value) (p:UInt8→Bool) (w:World) (hs:s.length≤140737488351232) (eg : ∀args w,(callFunc g args).run Tryz.prog w = .ok (.enter g args) w) (hp:PredS g lb p w) :
  Calls Tryz.prog 154 #[.string (str8 s),.func (.func g) #[] lb] w fun e w'=>e = .returned (.int .i64 (row p s:Nat))∧w'=w:=by
 have hsz:(str8 s).size=s.length:=rfl
 have HP:=hid (fun c=>hp w c (Below.refl _ _))
 clear hp
 go_enter Tryz.func154,Tryz.ntmps154
 go_wp2_with fail
 go_loopw [5,8] (fun _ i wr=>∃k:Nat,k≤s.length∧i = .int .i64 k∧wr=w∧Hid (row p s=k+row p (s.drop k))) (fun _ i _=>s.length-(intOf i).toNat)
 case atStart=>exact⟨0,Nat.zero_le _,rfl,rfl,hid (by simp)⟩
 case round =>
  obtain⟨k,hk,rfl,rfl,HR⟩:=hrel
  by_cases hlt:k<s.length
  ·obtain⟨c,hc⟩:∃c,s[k]?=some c:=⟨_,List.getElem?_eq_getElem hlt⟩
   have hix:=run_ix s k c hc
   have hd:s.drop k=c::s.drop (k+1):=by
    obtain⟨h1,h2⟩:=List.getElem?_eq_some_iff.1 hc
    rw[List.drop_eq_getElem_cons h1,h2]
   have hlt':((k:Int)<((str8 s).size:Int)):=by rw[hsz];omega
   have hcall:=HP.out c
   cases hpc:p c with
   |
    true =>
    rw[hpc] at hcall
    have HR2:Hid (row p s=(k+1)+row p (s.drop (k+1))):=hid (by rw[HR.out,hd,row_cons_pos hpc];omega)
    clear HR hd hc hpc
    go_wp2_with (go_at_fn g;refine hcall.mono ?_;rintro e w' ⟨rfl,rfl⟩)
    go_roundw
    case rel=>exact⟨k+1,by omega,by go_num,by first | rfl | trivial,HR2⟩
    case measure=>simp[intOf];omega
   |
    false =>
    rw[hpc] at hcall
    have HR2:Hid (row p s=k):=hid (by rw[HR.out,hd,row_cons_neg hpc];omega)
    clear HR hd hc hpc
    go_wp2_with (go_at_fn g;refine hcall.mono ?_;rintro e w' ⟨rfl,rfl⟩)
    go_ret
    exact⟨by rw[HR2.out];rfl,rfl⟩
  ·have hlt' : ¬((k:Int)<((str8 s).size:Int)):=by rw[hsz];omega
   have HR2:Hid (row p s=s.length):=hid (by rw[HR.out,List.drop_of_length_le (by omega),row_nil];omega)
   clear HR
   go_wp2
   go_ret
   exact⟨by rw[HR2.out];rfl,rfl⟩
theorem rowOne_any (s l:List UInt8) (B:Nat) (w:World) (hs:s.length≤140737488351232) (hp:PredS 208 #[.pointer (some ⟨B,0,none⟩)] (inS l) w) :
  Calls Tryz.prog 154 #[.string (str8 s),.func (.func 208) #[] #[.pointer (some ⟨B,0,none⟩)]] w fun e w'=>e = .returned (.int .i64 (row (inS l) s:Nat))∧w'=w :=
 rowSize_any s _ _ _ w hs (enters_of Tryz.func208 (by kernel_rfl) rfl) hp
theorem runsOn_any (s:List UInt8) (w:World) (hs:s.length≤140737488351232):Calls Tryz.prog 255 #[.string (str8 s)] w fun e w'=>e = .returned (.bool (runsB s))∧Below w.heap.size w w':=by
 have HO:=hid (oneOf_tells gluedB w)
 have hd:runsB s=decide (0<row (inS gluedB) s):=rfl
 have HR:=hid (fun B w1 hp=>rowOne_any s gluedB B w1 hs hp)
 rw[hd]
 generalize row (inS gluedB) s=n at HR ⊢
 clear hd
 go_enter Tryz.func255,Tryz.ntmps255
 go_wp2_with fail
 refine HO.out.mono ?_
 rintro e w1 ⟨⟨rfl,hp⟩,hb⟩
 go_wp2_with fail
 refine (HR.out _ _ hp).mono ?_
 rintro e w2 ⟨rfl,hw⟩
 obtain rfl:w1=w2:=hw.symm
 go_wp2
 go_ret
 exact⟨by simp,hb⟩
theorem pass1_any (w:World):PredS 224 #[] (fun c=>c != 10) w:=fun W c _=>by
 have e:(c != 10)=((c.toNat:Int) != 10):=by
  rw[Bool.eq_iff_iff,bne_iff_ne,bne_iff_ne]
  refine not_congr ⟨fun h=>by rw[h];rfl,fun h=>UInt8.toNat_inj.1 (by show c.toNat=10;omega)⟩
 show Calls Tryz.prog 224 #[.int .u8 (c.toNat:Int)] W _
 dsimp only
 rw[e]
 go_enter Tryz.func224,Tryz.ntmps224
 go_wp2
 go_ret
 exact⟨rfl,rfl⟩
theorem rowPass_any (s:List UInt8) (w:World) (hs:s.length≤140737488351232) :
  Calls Tryz.prog 154 #[.string (str8 s),.func (.func 224) #[] #[]] w fun e w'=>e = .returned (.int .i64 (row (fun c=>c != 10) s:Nat))∧w'=w :=
 rowSize_any s _ _ _ w hs (enters_of Tryz.func224 (by kernel_rfl) rfl) (pass1_any w)
theorem skip_cases (c:UInt8) (r:List UInt8):(inS blksB c=true∧skip false (c::r)=1+skip false r)∨(inS blksB c=false∧[45,45].isPrefixOf (c::r)=true∧1≤row (fun c=>c != 10) (c::r)∧skip false (c::r)=row (fun c=>c != 10) (c::r)+skip false ((c::r).drop (row (fun c=>c != 10) (c::r))))∨(inS blksB c=false∧[45,45].isPrefixOf (c::r)=false∧skip false (c::r)=0):=by
 by_cases hb:inS blksB c=true
 ·exact .inl ⟨hb,by rw[skip,if_pos hb]⟩
 ·have hb':inS blksB c=false:=by simpa using hb
  by_cases hr:c=45∧r.head?=some 45
  ·refine .inr (.inl ⟨hb',?_,?_,?_⟩)
   ·obtain⟨rfl,h⟩:=hr
    cases r with
    | nil=>simp at h
    | cons d r=>simp at h;simp[h,List.isPrefixOf]
   ·exact row_first (by rw[hr.1];decide)
   ·rw[← skip_remark]
    show (if inS blksB c=true then 1+skip false r else if c=45∧r.head?=some 45 then 1+skip true r else 0)=1+skip (c != 10) r
    rw[if_neg hb,if_pos hr,hr.1]
    rfl
  ·refine .inr (.inr ⟨hb',?_,by rw[skip,if_neg hb,if_neg hr]⟩)
   cases r with
   | nil=>simp[List.isPrefixOf]
   |
    cons d r =>
    simp only[List.isPrefixOf,Bool.and_true]
    rw[Bool.eq_false_iff]
    intro h
    simp at h
    exact hr ⟨h.1.symm,by simp[h.2.symm]⟩
theorem passBlanks_any (s:List UInt8) (a:Nat) (w:World) (hs:s.length≤140737488351232) (ha:a≤s.length) :
  Calls Tryz.prog 174 #[.string (str8 s),.int .i64 (a:Int)] w fun e w'=>e = .returned (.int .i64 ((a+skip false (s.drop a):Nat):Int))∧Below w.heap.size w w':=by
 have hsz:(str8 s).size=s.length:=rfl
 go_enter Tryz.func174,Tryz.ntmps174
 go_wp2_with fail
 go_step3
 go_wp2_with fail
 go_step3
 go_wp2_with fail
 go_loopw [1] (fun i wr=>∃k:Nat,k≤s.length∧i = .int .i64 k∧Below w.heap.size w wr∧Hid (a+skip false (s.drop a)=k+skip false (s.drop k))) (fun i _=>s.length-(intOf i).toNat)
 case atStart=>exact⟨a,ha,rfl,Below.refl _ _,hid rfl⟩
 case round =>
  obtain⟨k,hk,rfl,hbel,HR⟩:=hrel
  have hszr:=hbel.size
  by_cases hlt:k<s.length
  ·obtain⟨c,hc⟩:∃c,s[k]?=some c:=⟨_,List.getElem?_eq_getElem hlt⟩
   have hix:=run_ix s k c hc
   have hsl:=run_cutfrom s k hk
   have hd:s.drop k=c::s.drop (k+1):=by
    obtain⟨h1,h2⟩:=List.getElem?_eq_some_iff.1 hc
    rw[List.drop_eq_getElem_cons h1,h2]
   have hlt':((k:Int)<((str8 s).size:Int)):=by rw[hsz];omega
   have hsk:=skip_cases c (s.drop (k+1))
   rw[← hd] at hsk
   have hrl:=row_le (fun c=>c != 10) (s.drop k)
   rw[List.length_drop] at hrl
   have HO:Hid (∀w,Calls Tryz.prog 153 #[.string ⟨#[9,10,13,32]⟩] w fun e w'=>(e = .returned (.func (.func 208) #[] #[.pointer (some ⟨w.heap.size,0,none⟩)])∧PredS 208 #[.pointer (some ⟨w.heap.size,0,none⟩)] (inS blksB) w')∧Below w.heap.size w w'):=hid (fun w=>oneOf_tells blksB w)
   have HP:Hid (∀w,Calls Tryz.prog 223 #[.string (str8 (s.drop k)),.string ⟨#[45,45]⟩] w fun e w'=>e = .returned (.bool ([45,45].isPrefixOf (s.drop k)))∧w'=w):=hid (fun w=>hasPrefix_any (s.drop k) [45,45] w)
   have HW:=hid (fun w=>rowPass_any (s.drop k) w (by rw[List.length_drop];omega))
   have HD:Hid (Below w.heap.size w wr.drew):=hid (below_drewN hbel 1)
   clear hbel
   rcases hsk with⟨hb,hsk⟩ | ⟨hb,hpx,hr1,hsk⟩ | ⟨hb,hpx,hsk⟩
   ·have HR2:Hid (a+skip false (s.drop a)=(k+1)+skip false (s.drop (k+1))):=hid (by rw[HR.out,hsk];omega)
    clear HR hd hc hsk hrl HP HW
    have HB:=hid hb
    clear hb
    go_wp2_with fail
    go_region_held3 (fun _=>True) (first | trivial) (first
     | (
      go_at_call 153;refine (HO.out _).mono ?_;rintro e w1 ⟨⟨rfl,hp⟩,hb1⟩
      have HP1:=hid (hp w1 c (Below.refl _ _))
      rw[HB.out] at HP1
      have HD1:Hid (Below w.heap.size w w1):=hid (HD.out.trans (hb1.mono HD.out.size))
      clear hp hb1)
     | (go_at_call 208;refine HP1.out.mono ?_;rintro e w2 ⟨rfl,hw2⟩;rw[hw2]))
    all_goals go_wp2
    all_goals exact⟨⟨k+1,by omega,by go_num,HD1.out,HR2⟩,by simp[intOf];omega⟩
   ·have HR2:Hid (a+skip false (s.drop a)=(k+row (fun c=>c != 10) (s.drop k))+skip false (s.drop (k+row (fun c=>c != 10) (s.drop k)))):=hid (by rw[HR.out,hsk,List.drop_drop];omega)
    rw[hpx] at HP
    generalize row (fun c=>c != 10) (s.drop k)=m at HR2 HW hr1 hrl
    clear HR hd hc hsk hpx
    have HB:=hid hb
    clear hb
    go_wp2_with fail
    go_region_held3 (fun _=>True) (first | trivial) (first
     | (
      go_at_call 153;refine (HO.out _).mono ?_;rintro e w1 ⟨⟨rfl,hp⟩,hb1⟩
      have HP1:=hid (hp w1 c (Below.refl _ _))
      rw[HB.out] at HP1
      have HD1:Hid (Below w.heap.size w w1):=hid (HD.out.trans (hb1.mono HD.out.size))
      clear hp hb1)
     | (go_at_call 208;refine HP1.out.mono ?_;rintro e w2 ⟨rfl,hw2⟩;rw[hw2]))
    all_goals go_wp2_with (first
     | (go_at_call 223;refine (HP.out _).mono ?_;rintro e w3 ⟨rfl,hw3⟩;rw[hw3])
     | (go_at_call 154;refine (HW.out _).mono ?_;rintro e w4 ⟨rfl,hw4⟩;rw[hw4]))
    all_goals exact⟨⟨k+m,by omega,by go_num,HD1.out,HR2⟩,by simp[intOf];omega⟩
   ·have HR2:Hid (a+skip false (s.drop a)=k):=hid (by rw[HR.out,hsk];omega)
    rw[hpx] at HP
    clear HR hd hc hsk hpx hrl HW
    have HB:=hid hb
    clear hb
    go_wp2_with fail
    go_region_held3 (fun _=>True) (first | trivial) (first
     | (
      go_at_call 153;refine (HO.out _).mono ?_;rintro e w1 ⟨⟨rfl,hp⟩,hb1⟩
      have HP1:=hid (hp w1 c (Below.refl _ _))
      rw[HB.out] at HP1
      have HD1:Hid (Below w.heap.size w w1):=hid (HD.out.trans (hb1.mono HD.out.size))
      clear hp hb1)
     | (go_at_call 208;refine HP1.out.mono ?_;rintro e w2 ⟨rfl,hw2⟩;rw[hw2]))
    all_goals go_wp2_with (go_at_call 223;refine (HP.out _).mono ?_;rintro e w3 ⟨rfl,hw3⟩;rw[hw3])
    all_goals rw[Exit.noGoto_ret]
    all_goals go_ret
    all_goals exact⟨by rw[HR2.out];rfl,HD1.out⟩
  ·have hlt' : ¬((k:Int)<((str8 s).size:Int)):=by rw[hsz];omega
   have HR2:Hid (a+skip false (s.drop a)=k):=hid (by rw[HR.out,List.drop_of_length_le (by omega)];rfl)
   clear HR
   go_wp2
   go_ret
   exact⟨by rw[HR2.out];rfl,hbel⟩
end Go.Proofs.YtaaggohjmhifbaaGreatDoor
