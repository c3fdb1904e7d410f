import Derived.Lib.ReplaceLaws
import Derived.Lib.IndexBytes
import Derived.Test.YtfeglkleoijlaaaGreatDoorY01
import Derived.Lib.AtoiAll
import Derived.Lib.ItoaNum
import Derived.Lib.Fields
import Derived.Shelf.Pu.Clone
import Derived.Deep.QuietTactic
import Derived.BigQuiet
import Derived.Deep.RegionHeld3
namespace Go.Proofs.YtfeglkleoijlaaaGreatDoor
set_option linter.unusedVariables false
set_option maxHeartbeats 8000000
def nW (s:List UInt8):List UInt8:=s.flatMap fun c=>if c=39 then [39,39] else [c]
theorem GV (a b:List UInt8):nW (a++b)=nW a++nW b:=by simp[nW]
theorem yV : ∀(s:List UInt8),(∀k:Nat,s[k]?≠some 39)→nW s=s
 | [],_=>rfl
 |
  c::s,h=>by
  have hc:c≠39:=fun e=>h 0 (by simp[e])
  have ih:=yV s fun k=>by simpa using h (k+1)
  have e:nW (c::s)=[c]++nW s:=by simp[nW,hc]
  rw[e,ih]
  rfl
theorem Oa (s:List UInt8):(nW s).length≤2*s.length:=by
 induction s with
 | nil=>simp[nW]
 |
  cons c s ih =>
  have e:nW (c::s)=(if c=39 then [39,39] else [c])++nW s:=by simp[nW]
  rw[e,aaN,aa1]
  split<;>simp<;>omega
theorem Bq : ∀(k:Nat) (s:List UInt8),Lib.count s [39]≤k→Lib.replaceK [39] [39,39] k s=nW s:=by
 have miss : ∀s:List UInt8,Lib.index s [39] = -1→nW s=s:=fun s h=>by
  rw[Lib.index_one] at h
  exact yV s (Lib.indexByte_none h)
 have hit : ∀(s:List UInt8) (i:Nat),Lib.index s [39]=i→Lib.count s [39]=Lib.count (s.drop (i+1)) [39]+1∧nW s=s.take i++[39,39]++nW (s.drop (i+1)):=fun s i h=>by
  refine ⟨by have:=Lib.count_hit (s:=s) (sub:=[39]) (i:=i) (by simp) h;simpa [Nat.add_comm] using this,?_⟩
  rw[Lib.index_one] at h
  obtain⟨h1,h2⟩:=Lib.indexByte_some h
  have hi:i<s.length:=(aam.1 h1).1
  have e:s=s.take i++(39::s.drop (i+1)):=by
   have e1:=(List.take_append_drop i s).symm
   rw[List.drop_eq_getElem_cons hi,(aam.1 h1).2] at e1
   exact e1
  have e2:nW (s.take i)=s.take i:=yV _ fun k hk=>by
   rw[List.getElem?_take] at hk
   split at hk
   ·rename_i hlt
    exact h2 k hlt hk
   ·cases hk
  have e3:nW (39::s.drop (i+1))=[39,39]++nW (s.drop (i+1)):=by simp[nW]
  conv=>lhs;rw[e]
  rw[GV,e2,e3,List.append_assoc]
 intro k
 induction k with
 |
  zero =>
  intro s h
  rw[Lib.replaceK]
  have hge:=Lib.index_ge s [39]
  by_cases hm:Lib.index s [39] = -1
  ·exact (miss s hm).symm
  ·obtain⟨i,hi⟩:∃i:Nat,Lib.index s [39]=i:=⟨(Lib.index s [39]).toNat,by omega⟩
   have:=(hit s i hi).1
   omega
 |
  succ k ih =>
  intro s h
  have hge:=Lib.index_ge s [39]
  by_cases hm:Lib.index s [39] = -1
  ·rw[miss s hm,Lib.replaceK,if_pos (by rw[hm];rfl)]
  ·obtain⟨i,hi⟩:∃i:Nat,Lib.index s [39]=i:=⟨(Lib.index s [39]).toNat,by omega⟩
   obtain⟨h1,h2⟩:=hit s i hi
   rw[Lib.replaceK_hit _ _ k s i hi,h2,ih _ (by simp;omega)]
   rfl
theorem yX (s:List UInt8):Lib.replaceAll s [39] [39,39]=nW s:=by
 unfold Lib.replaceAll Lib.replace
 rw[if_neg (by decide)]
 have e:Lib.replaceNum s [39] (-1)=Lib.count s [39]:=by
  unfold Lib.replaceNum
  rw[if_pos (by left;decide)]
 rw[e]
 exact Bq _ s (aaF _)
open Go.RowKit Go.Shelf
set_option linter.unusedSimpArgs false
set_option maxRecDepth 20000
structure zm (w:World):Prop where
 lt:5<w.heap.size
 max : ∃m,w.cell? ⟨1,0,none⟩=some (.int .i64 m)
 pow:Lib.TabIs Tryz.prog w "internal/strconv.uint64pow10" .u64 Lib.pow10Tab
theorem zm.below {w w':World} {B:Nat} (h:zm w) (hb:Below B w w') (hB:5<B):zm w':=by
 refine ⟨aa7 h.lt hb.size,?_,?_⟩
 ·obtain⟨m,hm⟩:=h.max
  exact⟨m,by rw[hb.cell (p:=⟨1,0,none⟩) (by show 1<B;omega)];exact hm⟩
 ·have hp:=h.pow
  unfold Lib.TabIs World.var? at hp ⊢
  rw[RJ.m17] at hp ⊢
  have e:w'.heap[rC.g 17]?=w.heap[rC.g 17]?:=hb.block _ (by rw[Rb.2.2.2];omega)
  simp only[Option.bind_some] at hp ⊢
  rw[e]
  exact hp
theorem EJ (a b:List UInt8):aj a++aj b=aj (a++b):=by
 apply ByteArray.ext
 simp[aj]
def CS (x:Vl):List UInt8:=if x.k=1 then Lib.itoa x.n else if x.k=2 then [39]++(nW x.s++[39]) else [78,85,76,76]
theorem wL (s:List UInt8) (w:World) (hT:zm w) (hs:s.length<4294967281) :
  Calls Tryz.prog 176 #[.string (aj s),.string ⟨#[39]⟩,.string ⟨#[39,39]⟩] w fun e w'=>e = .returned (.string (aj (nW s)))∧Below w.heap.size w w':=by
 obtain⟨m,hm⟩:=hT.max
 have hc:=Lib.countB_mul_le ⟨#[39]⟩ (by decide) (aj s).size (aj s) (aaF _)
 have h1:(⟨#[39]⟩:ByteArray).size=1:=rfl
 have h2:(⟨#[39,39]⟩:ByteArray).size=2:=rfl
 rw[h1,dW] at hc
 have:=Any.strings_ReplaceAll CJ Gm (aj s) ⟨#[39]⟩ ⟨#[39,39]⟩ m w (by rw[dW];exact hs) (by rw[Rb.2.2.1];exact hm) (by decide) (by rw[h2,dW];omega)
 rw[Rb.1] at this
 rw[← yX]
 exact this
theorem CO (n:Int) (w:World) (hT:zm w) (h0 : -9223372036854775808≤n) (h1:n≤9223372036854775807) :
  Calls Tryz.prog 167 #[.int .i64 n] w fun e w'=>e = .returned (.string (aj (Lib.itoa n)))∧Below w.heap.size w w':=by
 have:=Any.strconv_Itoa RJ n h0 h1 w hT.pow
 rw[Rb.2.1] at this
 refine this.mono fun e w' ⟨he,k,os,hw⟩=>⟨he,?_⟩
 subst hw
 exact⟨rfl,rfl,rfl,by simp[Sort.grow,World.drewN],fun j hj=>by simp[Sort.grow,World.drewN,Array.getElem?_append_left hj]⟩
set_option maxRecDepth 100000 in
theorem Fb (k n:Int) (s:List UInt8) (w:World) (hT:zm w) (h0 : -9223372036854775808≤n) (h1:n≤9223372036854775807) (hs:s.length<4294967281) :
  Calls Tryz.prog 168 #[.agg #[.int .i64 k,.int .i64 n,.string (aj s)]] w fun e w'=>e = .returned (.string (aj (CS ⟨k,n,s⟩)))∧Below w.heap.size w w':=by
 obtain⟨W,hW,hbW,aJ,hcW⟩:=WC w (.int .i64 k) (.int .i64 n) (.string (aj s)) 46
 have c0:=hcW W (Below.refl _ _)
 have HI:=hid (CO n W (hT.below hbW hT.lt) h0 h1)
 have HR:=hid (wL s W (hT.below hbW hT.lt) hs)
 have HB:=hid hbW
 clear hcW hbW
 by_cases hk1:k=1
 ·have hd:CS ⟨k,n,s⟩=Lib.itoa n:=by rw[CS,if_pos hk1]
  rw[hd]
  clear hd
  subst hk1
  go_enter Tryz.func168,Tryz.ntmps168
  go_wp2_with fail
  refine HI.out.mono ?_
  rintro e w1 ⟨rfl,hb1⟩
  go_wp2
  go_ret
  exact⟨rfl,HB.out.trans (hb1.mono HB.out.size)⟩
 ·have Cc:(k==1)=false:=by simpa using hk1
  by_cases hk2:k=2
  ·have hd:CS ⟨k,n,s⟩=[39]++(nW s++[39]):=by rw[CS,if_neg hk1,if_pos hk2]
   have hle:=Oa s
   obtain⟨L,hL⟩:∃L,nW s=L:=⟨_,rfl⟩
   rw[hL] at hd HR hle
   rw[hd]
   clear hd hL
   subst hk2
   go_enter Tryz.func168,Tryz.ntmps168
   go_wp2_with fail
   refine HR.out.mono ?_
   rintro e w1 ⟨rfl,hb1⟩
   have ha1 : ∀w,(Op.stringOp .add ⟨#[39]⟩ (aj L)).run Tryz.prog w = .ok (.string (aj (39::L))) w:=fun w=>by
    rw[run_string_add_sum w _ _ (by rw[dW];show 1+L.length≤_;omega)]
    exact congrArg (fun x=>Result.ok (Value.string x) w) (EJ [39] L)
   have ha2 : ∀w,(Op.stringOp .add (aj (39::L)) ⟨#[39]⟩).run Tryz.prog w = .ok (.string (aj ([39]++(L++[39])))) w:=fun w=>by
    rw[run_string_add_sum w _ _ (by rw[dW,aa1];show L.length+1+1≤_;omega)]
    exact congrArg (fun x=>Result.ok (Value.string x) w) (EJ (39::L) [39])
   clear hle
   go_wp2
   go_ret
   exact⟨rfl,HB.out.trans (hb1.mono HB.out.size)⟩
  ·have Cj:(k==2)=false:=by simpa using hk2
   have hd:CS ⟨k,n,s⟩=[78,85,76,76]:=by rw[CS,if_neg hk1,if_neg hk2]
   rw[hd]
   clear hd
   go_enter Tryz.func168,Tryz.ntmps168
   go_wp2
   go_ret
   exact⟨rfl,HB.out⟩
end Go.Proofs.YtfeglkleoijlaaaGreatDoor
namespace Go.Proofs.YtfeglkleoijlaaaGreatDoor
set_option linter.unusedSimpArgs false
set_option linter.unusedVariables false
set_option maxHeartbeats 8000000
def gZ:List UInt8:=[97,98,99,100,101,102,103,104,105,106,107,108,109,110,111,112,113,114,115,116,117,118,119,120,121,122,95]
def fT:List UInt8:=[48,49,50,51,52,53,54,55,56,57]
def uK:List UInt8:=[65,66,67,68,69,70,71,72,73,74,75,76,77,78,79,80,81,82,83,84,85,86,87,88,89,90]
def Mq:List UInt8:=[9,10,13,32]
def fK:List UInt8:=gZ++fT
def Oe:List UInt8:=gZ++(uK++fT)
def dh (l:List UInt8) (c:UInt8):Bool:=l.contains c
theorem zW : ∀(l:List UInt8) (c:UInt8),decide (0≤Lib.indexByte l c)=dh l c
 | [],c=>by simp[Lib.indexByte,dh]
 |
  b::l,c=>by
  have ih:=zW l c
  have hge:=Lib.indexByte_ge l c
  unfold Lib.indexByte
  by_cases h:b=c
  ·subst h;simp[dh]
  ·have h':(b==c)=false:=by simpa using h
   have h2 : ¬c=b:=fun e=>h e.symm
   rw[h']
   simp only[Bool.false_eq_true,if_false]
   have e:dh (b::l) c=dh l c:=by simp[dh,h2]
   rw[e,← ih]
   by_cases hm:Lib.indexByte l c = -1
   ·simp[hm]
   ·have:(Lib.indexByte l c==-1)=false:=by simpa using hm
    rw[this]
    simp only[Bool.false_eq_true,if_false]
    rw[aar (by omega),aar (by omega)]
def row (p:UInt8→Bool) (s:List UInt8):Nat:=(s.takeWhile p).length
theorem uf (p:UInt8→Bool) (s:List UInt8):row p s≤s.length:=by
 unfold row
 induction s with
 | nil=>simp
 | cons c s ih=>rw[List.takeWhile_cons];split<;>simp<;>omega
theorem Nl (p:UInt8→Bool) (s:List UInt8):s.take (row p s)=s.takeWhile p:=by
 unfold row
 induction s with
 | nil=>simp
 |
  cons c s ih =>
  rw[List.takeWhile_cons]
  split
  ·simp[ih]
  ·simp
theorem gL {p:UInt8→Bool} {c:UInt8} {s:List UInt8} (h:p c=true):row p (c::s)=row p s+1:=by
 simp[row,List.takeWhile_cons,h]
theorem iJ {p:UInt8→Bool} {c:UInt8} {s:List UInt8} (h:p c=false):row p (c::s)=0:=by
 simp[row,List.takeWhile_cons,h]
theorem Ih (p:UInt8→Bool):row p []=0:=rfl
theorem xL {p:UInt8→Bool} {a x:List UInt8} (ha : ∀c∈a,p c=true) (hx:row p x=0):row p (a++x)=a.length:=by
 induction a with
 | nil=>simpa using hx
 |
  cons c a ih =>
  rw[List.cons_append,gL (ha c (by simp)),ih (fun d hd=>ha d (by simp[hd]))]
  simp
theorem zB (p:UInt8→Bool) (s:List UInt8):∀c∈s.takeWhile p,p c=true:=by
 induction s with
 | nil=>simp
 |
  cons c s ih =>
  rw[List.takeWhile_cons]
  split
  ·intro d hd
   rcases abg.1 hd with rfl | hd
   ·assumption
   ·exact ih d hd
  ·simp
theorem AL (p:UInt8→Bool) (s:List UInt8):∀c∈s.take (row p s),p c=true:=by
 rw[Nl];exact zB p s
structure Tk where
 k:Int
 s:List UInt8
 n:Int
 p:Int
def MB:Tk:=⟨0,[],0,0⟩
def Tk.z (t:Tk):Tk:=⟨t.k,t.s,t.n,0⟩
def N7:List (List UInt8):=[[65,78,68],[66,89],[67,79,85,78,84],[67,82,69,65,84,69],[68,69,76,69,84,69],[68,69,83,67],[68,82,79,80],[70,82,79,77],[71,82,79,85,80],[73,78,83,69,82,84],[73,78,84],[73,78,84,79],[73,83],[74,79,73,78],[75,69,89],[76,73,77,73,84],[77,65,88],[77,73,78],[78,79,84],[78,85,76,76],[79,78],[79,82],[79,82,68,69,82],[80,82,73,77,65,82,89],[83,69,76,69,67,84],[83,69,84],[83,85,77],[84,65,66,76,69],[84,69,88,84],[85,78,73,81,85,69],[85,80,68,65,84,69],[86,65,76,85,69,83],[87,72,69,82,69]]
def Mk:List (List UInt8):=[[60,62],[60,61],[62,61],[40],[41],[44],[59],[46],[42],[43],[45],[47],[37],[61],[60],[62]]
def Ef (r:List UInt8):Bool:=decide (0<row (dh Oe) r)
def nU (s:List UInt8):Nat × Tk × Nat :=
 if Ef (s.drop (row (dh fK) s))=true then (4,MB,0) else if 16<row (dh fK) s then (2,MB,0) else (0,⟨1,s.take (row (dh fK) s),0,0⟩,row (dh fK) s)
def qc (s:List UInt8):Nat × Tk × Nat :=
 if Ef (s.drop (row (dh uK) s))=true then (4,MB,0) else if N7.contains (s.take (row (dh uK) s))=false then (4,MB,0) else (0,⟨2,s.take (row (dh uK) s),0,0⟩,row (dh uK) s)
def aaE (n:Nat):Lib.NumEnd Int→Nat × Tk × Nat
 | .ok v=>(0,⟨3,[],v,0⟩,n)
 | _=>(7,MB,0)
def qy (s:List UInt8):Nat × Tk × Nat :=
 if Ef (s.drop (row (dh fT) s))=true then (4,MB,0) else aaE (row (dh fT) s) (Lib.atoiAll (s.take (row (dh fT) s)))
def txt:List UInt8→List UInt8 × List UInt8 × Bool
 | []=>([],[],false)
 | [c]=>if c=39 then ([],[],true) else ([c],[],false)
 | c::d::r=>if c=39 then (if d=39 then (39::(txt r).1,(txt r).2) else ([],d::r,true)) else (c::(txt (d::r)).1,(txt (d::r)).2)
def Dq (n:Nat) (x:List UInt8 × List UInt8 × Bool):Nat × Tk × Nat :=
 if 40<x.1.length then (2,MB,0) else if x.2.2=false then (3,MB,0) else (0,⟨4,x.1,0,0⟩,n-x.2.1.length)
def nL (s:List UInt8):Nat × Tk × Nat:=Dq s.length (txt (s.drop 1))
def Ny:List (List UInt8)→List UInt8→Nat × Tk × Nat
 | [],_=>(4,MB,0)
 | g::r,s=>if g.isPrefixOf s=true then (0,⟨5,g,0,0⟩,g.length) else Ny r s
def sH (s:List UInt8):Nat × Tk × Nat:=Ny Mk s
def oZ (s:List UInt8):Nat × Tk × Nat :=
 match s with
 | []=>(4,MB,0)
 | c::_=>if dh gZ c=true then nU s else if dh uK c=true then qc s else if dh fT c=true then qy s else if dh [39] c=true then nL s else sH s
def skip:Bool→List UInt8→Nat
 | _,[]=>0
 | true,c::r=>1+skip (c != 10) r
 | false,c::r=>if dh Mq c=true then 1+skip false r else if c=45∧r.head?=some 45 then 1+skip true r else 0
def Stop (x:List UInt8):Prop:=x=[]∨∃c r,x=c::r∧(c=9∨c=10∨c=13∨c=32∨c=45)
theorem pW {x:List UInt8} (h:Stop x):row (dh fK) x=0∧row (dh uK) x=0∧row (dh fT) x=0∧row (dh Oe) x=0:=by
 rcases h with rfl | ⟨c,r,rfl,h⟩
 ·exact⟨rfl,rfl,rfl,rfl⟩
 ·rcases h with rfl | rfl | rfl | rfl | rfl<;>exact⟨iJ (by decide),iJ (by decide),iJ (by decide),iJ (by decide)⟩
theorem qD {x:List UInt8} (h:Stop x):Ef x=false:=by
 rw[Ef,(pW h).2.2.2];rfl
theorem tY {p:UInt8→Bool} {c:UInt8} {r:List UInt8} (h:p c=true):1≤row p (c::r):=by
 rw[gL h];omega
open Go.RowKit Go.Shelf
set_option maxRecDepth 20000
theorem BN (s:List UInt8) (j:Nat) (c:UInt8) (h:s[j]?=some c) (w:World):(Instr.index 9 (.string (aj s)) (.int .i64 (j:Int))).run Tryz.prog w = .ok (.int .u8 (c.toNat:Int)) w:=by
 obtain⟨hj,e⟩:=aam.1 h
 have hsz:(aj s).size=s.length:=rfl
 rw[run_index_string w 9 (aj s) .i64 _ Tryz.underlying9,dif_pos ⟨by omega,by rw[hsz];omega⟩]
 rw[← e]
 rfl
def yP (g:Nat) (lb:Array Value) (p:UInt8→Bool) (w:World):Prop :=
 ∀(W:World) (c:UInt8),Below w.heap.size w W→Calls Tryz.prog g (#[.int .u8 (c.toNat:Int)]++lb) W fun e w'=>e = .returned (.bool (p c))∧w'=W
theorem zh (l:List UInt8) (c:UInt8) (w:World):Calls Tryz.prog 165 #[.string (aj l),.int .u8 (c.toNat:Int)] w fun e w'=>e = .returned (.int .i64 (Lib.indexByte l c))∧w'=w:=by
 have:=Any.strings_IndexByte Tw (aj l) (c.toNat:Int) w
 rw[UZ.1] at this
 have e1:(c.toNat:Int).toNat.toUInt8=c:=by simp
 rw[e1] at this
 exact this
theorem Jt (w:World) (B:Nat) (l:List UInt8) (hB:B<w.heap.size) (hc:w.cell? ⟨B,0,none⟩=some (.string (aj l))):yP 164 #[.pointer (some ⟨B,0,none⟩)] (dh l) w:=fun W c hb=>by
 have hc':W.cell? ⟨B,0,none⟩=some (.string (aj l)):=(hb.cell (p:=⟨B,0,none⟩) hB).trans hc
 have hix:=zW l c
 have hge:=Lib.indexByte_ge l c
 have HI:=hid (zh l c W)
 obtain⟨j,hj⟩:∃j,Lib.indexByte l c=j:=⟨_,rfl⟩
 rw[hj] at hix hge HI
 rw[← hix]
 clear hix hj hc
 show Calls Tryz.prog 164 #[.int .u8 (c.toNat:Int),.pointer (some ⟨B,0,none⟩)] W _
 go_enter Tryz.func164,Tryz.ntmps164
 go_wp2_with (go_at_call 165;refine HI.out.mono ?_;rintro e w1 ⟨rfl,rfl⟩)
 go_ret
 exact⟨by simp,rfl⟩
theorem Jh (l:ByteArray) (w:World):Calls Tryz.prog 138 #[.string l] w fun e w'=>e = .returned (.func (.func 164) #[] #[.pointer (some ⟨w.heap.size,0,none⟩)])∧w'=w.alloc (.cells #[.string l] 9):=by
 go_enter Tryz.func138,Tryz.ntmps138
 go_wp2
 go_ret
 exact⟨rfl,rfl⟩
theorem vw (l:List UInt8) (w:World):Calls Tryz.prog 138 #[.string (aj l)] w fun e w'=>(e = .returned (.func (.func 164) #[] #[.pointer (some ⟨w.heap.size,0,none⟩)])∧yP 164 #[.pointer (some ⟨w.heap.size,0,none⟩)] (dh l) w')∧Below w.heap.size w w':=by
 refine (Jh _ w).mono ?_
 rintro e w' ⟨rfl,rfl⟩
 exact⟨⟨rfl,Jt _ _ _ (by simp) (by simp)⟩,(Below.refl _ _).alloc (aaF _) _⟩
theorem D5 (s:List UInt8) (g:Nat) (lb:Array Value) (p:UInt8→Bool) (w:World) (hs:s.length≤140737488351232) (eg : ∀args w,(callFunc g args).run Tryz.prog w = .ok (.enter g args) w) (hp:yP g lb p w) :
  Calls Tryz.prog 139 #[.string (aj s),.func (.func g) #[] lb] w fun e w'=>e = .returned (.int .i64 (row p s:Nat))∧w'=w:=by
 have hsz:(aj s).size=s.length:=rfl
 have HP:=hid (fun c=>hp w c (Below.refl _ _))
 clear hp
 go_enter Tryz.func139,Tryz.ntmps139
 go_wp2_with fail
 go_loopw [5,8] (fun _ i wr=>∃k:Nat,k≤s.length∧i = .int .i64 k∧wr=w∧Hid (row p s=k+row p (s.drop k))) (fun _ i _=>s.length-(intOf i).toNat)
 case atStart=>exact⟨0,aaV _,rfl,rfl,hid (by simp)⟩
 case round =>
  obtain⟨k,hk,rfl,rfl,HR⟩:=hrel
  by_cases hlt:k<s.length
  ·obtain⟨c,hc⟩:∃c,s[k]?=some c:=⟨_,aaf hlt⟩
   have hix:=BN s k c hc
   have hd:s.drop k=c::s.drop (k+1):=by
    obtain⟨h1,h2⟩:=aam.1 hc
    rw[List.drop_eq_getElem_cons h1,h2]
   have hlt':((k:Int)<((aj s).size:Int)):=by rw[hsz];omega
   have hcall:=HP.out c
   cases hpc:p c with
   |
    true =>
    rw[hpc] at hcall
    have HR2:Hid (row p s=(k+1)+row p (s.drop (k+1))):=hid (by rw[HR.out,hd,gL hpc];omega)
    clear HR hd hc hpc
    go_wp2_with (go_at_fn g;refine hcall.mono ?_;rintro e w' ⟨rfl,rfl⟩)
    go_roundw
    case rel=>exact⟨k+1,by omega,by go_num,by first | rfl | trivial,HR2⟩
    case measure=>simp[intOf];omega
   |
    false =>
    rw[hpc] at hcall
    have HR2:Hid (row p s=k):=hid (by rw[HR.out,hd,iJ hpc];omega)
    clear HR hd hc hpc
    go_wp2_with (go_at_fn g;refine hcall.mono ?_;rintro e w' ⟨rfl,rfl⟩)
    go_ret
    exact⟨by rw[HR2.out];rfl,rfl⟩
  ·have hlt' : ¬((k:Int)<((aj s).size:Int)):=by rw[hsz];omega
   have HR2:Hid (row p s=s.length):=hid (by rw[HR.out,List.drop_of_length_le (by omega),Ih];omega)
   clear HR
   go_wp2
   go_ret
   exact⟨by rw[HR2.out];rfl,rfl⟩
theorem He (s l:List UInt8) (B:Nat) (w:World) (hs:s.length≤140737488351232) (hp:yP 164 #[.pointer (some ⟨B,0,none⟩)] (dh l) w) :
  Calls Tryz.prog 139 #[.string (aj s),.func (.func 164) #[] #[.pointer (some ⟨B,0,none⟩)]] w fun e w'=>e = .returned (.int .i64 (row (dh l) s:Nat))∧w'=w :=
 D5 s _ _ _ w hs (enters_of Tryz.func164 (by kernel_rfl) rfl) hp
def acW:Ren:=⟨fun x=>if x=25 then 126 else x,fun x=>if x=0 then 0 else if x=3 then 3 else if x=4 then 4 else if x=5 then 5 else if x=9 then 9 else if x=37 then 192 else if x=47 then 193 else x,fun x=>x⟩
theorem WW:LaysPu.n25 Tryz.prog acW where
 mixed:=by kernel_rfl
 f25:=by kernel_rfl
 t0:=by kernel_rfl
 a0:=fun w=>by kernel_rfl
 z0:=fun w=>by kernel_rfl
 v0:=fun w=>by kernel_rfl
 i0:=by kernel_rfl
 t3:=by kernel_rfl
 a3:=fun w=>by kernel_rfl
 z3:=fun w=>by kernel_rfl
 v3:=fun w=>by kernel_rfl
 i3:=by kernel_rfl
 t4:=by kernel_rfl
 a4:=fun w=>by kernel_rfl
 z4:=fun w=>by kernel_rfl
 v4:=fun w=>by kernel_rfl
 i4:=by kernel_rfl
 t5:=by kernel_rfl
 a5:=fun w=>by kernel_rfl
 z5:=fun w=>by kernel_rfl
 v5:=fun w=>by kernel_rfl
 i5:=by kernel_rfl
 t9:=by kernel_rfl
 a9:=fun w=>by kernel_rfl
 z9:=fun w=>by kernel_rfl
 v9:=fun w=>by kernel_rfl
 i9:=by kernel_rfl
 t37:=by kernel_rfl
 a37:=fun w=>by kernel_rfl
 z37:=fun w=>by kernel_rfl
 v37:=fun w=>by kernel_rfl
 i37:=by kernel_rfl
 t47:=by kernel_rfl
 a47:=fun w=>by kernel_rfl
 z47:=fun w=>by kernel_rfl
 v47:=fun w=>by kernel_rfl
 i47:=by kernel_rfl
theorem jC (s:ByteArray) (w:World) (hs:s.size≤140737488355328):Calls Tryz.prog 80 #[.string s] w fun e w'=>e = .returned (.string s)∧Below w.heap.size w w':=by
 have HC:=hid (AnyPu.stringslite_Clone WW s w (by omega))
 go_enter Tryz.func80,Tryz.ntmps80
 go_wp2_with fail
 refine HC.out.mono ?_
 rintro e w1 ⟨rfl,h1⟩
 go_wp2
 go_ret
 exact⟨rfl,h1⟩
theorem uz {w:World} {g:Nat} {a b c d:Value} {t:TypeId} (h:w.heap[g]?=some (.cells #[a,b,c,d] t)) :
  w.cell? ⟨g,0,none⟩=some a∧w.cell? ⟨g,1,none⟩=some b∧w.cell? ⟨g,2,none⟩=some c∧w.cell? ⟨g,3,none⟩=some d∧∀i,w.frozen? ⟨g,i,none⟩=false :=
 ⟨by rw[aB _ _ _ _ _ _ h];rfl,by rw[aB _ _ _ _ _ _ h];rfl,by rw[aB _ _ _ _ _ _ h];rfl,by rw[aB _ _ _ _ _ _ h];rfl,fun i=>by simp[World.frozen?,h]⟩
theorem Xx (w:World) (a b c d:Value) (t:TypeId):∃W,w.alloc (.cells #[a,b,c,d] t)=W∧Below w.heap.size w W∧w.heap.size<W.heap.size∧∀W',Below W.heap.size W W'→W'.heap[w.heap.size]?=some (.cells #[a,b,c,d] t) :=
 ⟨_,rfl,(Below.refl _ _).alloc (aaF _) _,by simp,fun W' h=>(h.block _ (by simp)).trans (heap_alloc_new w _)⟩
end Go.Proofs.YtfeglkleoijlaaaGreatDoor
namespace Go.Proofs.YtfeglkleoijlaaaGreatDoor
set_option linter.unusedSimpArgs false
set_option linter.unusedVariables false
set_option maxHeartbeats 8000000
theorem uO {p:UInt8→Bool} {c:UInt8} {r x:List UInt8} (hc:p c=true) (hx:row p x=0) :
  (∃y,(c::r).take (row p (c::r))++x=c::y)∧row p ((c::r).take (row p (c::r))++x)=row p (c::r)∧((c::r).take (row p (c::r))++x).drop (row p (c::r))=x∧((c::r).take (row p (c::r))++x).take (row p (c::r))=(c::r).take (row p (c::r)):=by
 have hl:((c::r).take (row p (c::r))).length=row p (c::r):=by
  rw[List.length_take];have:=uf p (c::r);omega
 refine ⟨⟨r.take (row p r)++x,by rw[gL hc];simp⟩,?_,?_,?_⟩
 ·rw[xL (AL p (c::r)) hx,hl]
 ·exact List.drop_left' hl
 ·exact List.take_left' hl
def Xr:List UInt8:=[40,41,44,59,46,42,43,45,47,37,61]
def sD (c:UInt8) (d:Option UInt8):Nat × Tk × Nat :=
 if c=60 then (if d=some 62 then (0,⟨5,[60,62],0,0⟩,2) else if d=some 61 then (0,⟨5,[60,61],0,0⟩,2) else (0,⟨5,[60],0,0⟩,1))
 else if c=62 then (if d=some 61 then (0,⟨5,[62,61],0,0⟩,2) else (0,⟨5,[62],0,0⟩,1))
 else if c∈Xr then (0,⟨5,[c],0,0⟩,1) else (4,MB,0)
theorem sign_eq (c:UInt8) (r:List UInt8):sH (c::r)=sD c r.head?:=by
 have one : ∀g:UInt8,([g].isPrefixOf (c::r))=(g==c):=fun g=>by simp[List.isPrefixOf]
 have two : ∀g h:UInt8,([g,h].isPrefixOf (c::r))=(g==c&&r.head?==some h):=fun g h=>by
  cases r with
  | nil=>simp[List.isPrefixOf]
  |
   cons d r =>
   simp only[List.isPrefixOf,List.head?_cons,Bool.and_true]
   congr 1
   rw[Bool.eq_iff_iff]
   simp
   exact eq_comm
 unfold sH Mk sD Xr
 simp only[Ny,one,two,aa1,List.length_nil]
 by_cases h0:c=60
 ·subst h0
  by_cases h1:r.head?=some 62
  ·simp[h1]
  ·by_cases h2:r.head?=some 61
   ·simp[h1,h2]
   ·simp[h1,h2]
 ·by_cases h1:c=62
  ·subst h1
   by_cases h2:r.head?=some 61
   ·simp[h2]
   ·simp[h2]
  ·have e0:((60:UInt8)==c)=false:=by simpa using fun e=>h0 e.symm
   have e1:((62:UInt8)==c)=false:=by simpa using fun e=>h1 e.symm
   simp only[e0,e1,aaz,if_neg h0,if_neg h1,Bool.false_eq_true,if_false,beq_iff_eq,abg,List.not_mem_nil,or_false]
   by_cases g1:c=40
   ·simp[g1]
   by_cases g2:c=41
   ·simp[g2]
   by_cases g3:c=44
   ·simp[g3]
   by_cases g4:c=59
   ·simp[g4]
   by_cases g5:c=46
   ·simp[g5]
   by_cases g6:c=42
   ·simp[g6]
   by_cases g7:c=43
   ·simp[g7]
   by_cases g8:c=45
   ·simp[g8]
   by_cases g9:c=47
   ·simp[g9]
   by_cases g10:c=37
   ·simp[g10]
   by_cases g11:c=61
   ·simp[g11]
   rw[if_neg (fun e=>g1 e.symm),if_neg (fun e=>g2 e.symm),if_neg (fun e=>g3 e.symm),if_neg (fun e=>g4 e.symm),if_neg (fun e=>g5 e.symm),if_neg (fun e=>g6 e.symm),if_neg (fun e=>g7 e.symm),if_neg (fun e=>g8 e.symm),if_neg (fun e=>g9 e.symm),if_neg (fun e=>g10 e.symm),if_neg (fun e=>g11 e.symm)]
   simp[g1,g2,g3,g4,g5,g6,g7,g8,g9,g10,g11]
theorem yw {c:UInt8} {d:Option UInt8} {t:Tk} {n:Nat} (h:sD c d=(0,t,n)):(n=1∨n=2∧d≠none)∧t.k=5∧t.n=0∧t.p=0:=by
 unfold sD at h
 split at h
 ·split at h
  ·rename_i e;cases h;simp[e]
  ·split at h
   ·rename_i e;cases h;simp[e]
   ·cases h;simp
 ·split at h
  ·split at h
   ·rename_i e;cases h;simp[e]
   ·cases h;simp
  ·split at h
   ·cases h;simp
   ·cases h
theorem DR {c:UInt8} {r:List UInt8} {t:Tk} {n:Nat} (h:sD c r.head?=(0,t,n)):t.s=(c::r).take n:=by
 unfold sD at h
 split at h
 ·rename_i ec
  split at h
  ·rename_i e;cases h;cases r<;>simp_all
  ·split at h
   ·rename_i e;cases h;cases r<;>simp_all
   ·cases h;simp_all
 ·split at h
  ·rename_i ec
   split at h
   ·rename_i e;cases h;cases r<;>simp_all
   ·cases h;simp_all
  ·split at h
   ·cases h;simp_all
   ·cases h
theorem Ka {c:UInt8} {d e:Option UInt8} {t:Tk} (h:sD c d=(0,t,1)) (he:e≠some 62∧e≠some 61):sD c e=(0,t,1):=by
 unfold sD at h ⊢
 split at h
 ·rename_i ec
  rw[if_pos ec,if_neg he.1,if_neg he.2]
  split at h
  ·cases h
  ·split at h
   ·cases h
   ·exact h
 ·rename_i ec
  rw[if_neg ec]
  split at h
  ·rename_i ec2
   rw[if_pos ec2,if_neg he.2]
   split at h
   ·cases h
   ·exact h
  ·rename_i ec2
   rw[if_neg ec2]
   exact h
theorem qA {x:List UInt8} (h:Stop x):x.head?≠some 62∧x.head?≠some 61∧x.head?≠some 39:=by
 rcases h with rfl | ⟨c,r,rfl,h⟩
 ·simp
 ·rcases h with rfl | rfl | rfl | rfl | rfl<;>simp<;>decide
theorem OQ (r:List UInt8):(txt r).2.2=true→∃raw,r=raw++39::(txt r).2.1∧∀x:List UInt8,x.head?≠some 39→txt (raw++39::x)=((txt r).1,x,true):=by
 have last : ∀x:List UInt8,x.head?≠some 39→txt (39::x)=([],x,true):=fun x hx=>by
  match x,hx with
  | [],_=>simp[txt]
  | d::x,hx=>simp at hx;simp[txt,hx]
 fun_induction txt r with
 | case1=>simp
 | case2=>exact fun _=>⟨[],by simp,fun x hx=>last x hx⟩
 | case3 c h=>simp
 |
  case4 r ih =>
  intro h
  obtain⟨raw,e,hx⟩:=ih h
  refine ⟨39::39::raw,by simp[← e],fun x h=>?_⟩
  have:=hx x h
  simp[txt,this]
 | case5 d r hd=>exact fun _=>⟨[],by simp,fun x hx=>last x hx⟩
 |
  case6 c d r hc ih =>
  intro h
  obtain⟨raw,e,hx⟩:=ih h
  refine ⟨c::raw,by simp[← e],fun x h=>?_⟩
  have:=hx x h
  match raw,this with
  | [],this=>simp at this ⊢;simp[txt,hc,this]
  | a::raw,this=>simp at this ⊢;simp[txt,hc,this]
theorem gY {a x:List UInt8} {c:UInt8} {y:List UInt8} (h:a++x=c::y):oZ (a++x)=if dh gZ c=true then nU (a++x) else if dh uK c=true then qc (a++x) else if dh fT c=true then qy (a++x) else if dh [39] c=true then nL (a++x) else sH (a++x):=by
 rw[h];rfl
theorem Dt {c:UInt8} (h:dh gZ c=true):dh fK c=true:=by
 simp only[dh,List.contains_iff_mem,fK,List.mem_append] at h ⊢;exact .inl h
theorem JH {s:List UInt8} {t:Tk} {n:Nat} (h:oZ s=(0,t,n)):1≤n∧n≤s.length∧t.p=0∧∀x,Stop x→oZ (s.take n++x)=(0,t,n):=by
 match s,h with
 | [],h=>simp[oZ] at h
 |
  c::r,h =>
  unfold oZ at h
  dsimp only at h
  by_cases hl:dh gZ c=true
  ·rw[if_pos hl] at h
   unfold nU at h
   have h1:=tY (r:=r) (Dt hl)
   have h2:=uf (dh fK) (c::r)
   have hloc:=fun x (hx:Stop x)=>uO (r:=r) (Dt hl) (pW hx).1
   generalize hn:row (dh fK) (c::r)=m at *
   split at h
   ·cases h
   ·split at h
    ·cases h
    ·rename_i g1 g2
     cases h
     refine ⟨h1,h2,rfl,fun x hx=>?_⟩
     obtain⟨⟨y,hy⟩,e1,e2,e3⟩:=hloc x hx
     rw[gY hy,if_pos hl,nU,e1,e2,e3,qD hx,if_neg (by simp),if_neg g2]
  ·rw[if_neg hl] at h
   by_cases hu:dh uK c=true
   ·rw[if_pos hu] at h
    unfold qc at h
    have h1:=tY (r:=r) hu
    have h2:=uf (dh uK) (c::r)
    have hloc:=fun x (hx:Stop x)=>uO (r:=r) hu (pW hx).2.1
    generalize hn:row (dh uK) (c::r)=m at *
    split at h
    ·cases h
    ·split at h
     ·cases h
     ·rename_i g1 g2
      cases h
      refine ⟨h1,h2,rfl,fun x hx=>?_⟩
      obtain⟨⟨y,hy⟩,e1,e2,e3⟩:=hloc x hx
      rw[gY hy,if_neg hl,if_pos hu,qc,e1,e2,e3,qD hx,if_neg (by simp),if_neg g2]
   ·rw[if_neg hu] at h
    by_cases hd:dh fT c=true
    ·rw[if_pos hd] at h
     unfold qy at h
     have h1:=tY (r:=r) hd
     have h2:=uf (dh fT) (c::r)
     have hloc:=fun x (hx:Stop x)=>uO (r:=r) hd (pW hx).2.2.1
     generalize hn:row (dh fT) (c::r)=m at *
     split at h
     ·cases h
     ·rename_i g1
      have hm:m=n∧t.p=0:=by
       cases ha:Lib.atoiAll ((c::r).take m)<;>rw[ha] at h<;>cases h
       exact⟨rfl,rfl⟩
      obtain⟨rfl,hp⟩:=hm
      refine ⟨h1,h2,hp,fun x hx=>?_⟩
      obtain⟨⟨y,hy⟩,e1,e2,e3⟩:=hloc x hx
      rw[gY hy,if_neg hl,if_neg hu,if_pos hd,qy,e1,e2,e3,qD hx,if_neg (by simp),h]
    ·rw[if_neg hd] at h
     by_cases hq:dh [39] c=true
     ·rw[if_pos hq] at h
      have hc:c=39:=by simpa [dh] using hq
      subst hc
      unfold nL at h
      rw[List.drop_succ_cons,List.drop_zero] at h
      unfold Dq at h
      split at h
      ·cases h
      ·rename_i g1
       split at h
       ·cases h
       ·rename_i g2
        have hcl:(txt r).2.2=true:=by simpa using g2
        obtain⟨raw,e,hx⟩:=OQ r hcl
        have hlen:=congrArg List.length e
        simp only[aaN,aa1] at hlen
        cases h
        have hnn:(39::r:List UInt8).length-(txt r).2.1.length=raw.length+2:=by simp only[aa1];omega
        rw[hnn]
        have htk:(39::r:List UInt8).take (raw.length+2)=39::(raw++[39]):=by
         rw[List.take_succ_cons]
         conv=>lhs;rw[e]
         rw[List.take_append,aaU (by omega)]
         simp
        refine ⟨by omega,by simp only[aa1];omega,rfl,fun x hxs=>?_⟩
        have e2:=hx x (qA hxs).2.2
        rw[htk,show (39::(raw++[39]):List UInt8)++x=39::(raw++39::x) by simp]
        unfold oZ
        dsimp only
        rw[if_neg hl,if_neg hu,if_neg hd,if_pos hq,nL,List.drop_succ_cons,List.drop_zero,e2,Dq]
        dsimp only
        rw[if_neg g1,if_neg (by simp)]
        simp only[aa1,aaN]
        congr 2
        omega
     ·rw[if_neg hq,sign_eq] at h
      obtain⟨hn,_,_,hp⟩:=yw h
      rcases hn with rfl | ⟨rfl,hne⟩
      ·refine ⟨aaF _,by simp,hp,fun x hx=>?_⟩
       rw[List.take_succ_cons,List.take_zero,List.cons_append,List.nil_append]
       unfold oZ
       dsimp only
       rw[if_neg hl,if_neg hu,if_neg hd,if_neg hq,sign_eq]
       exact Ka h ⟨(qA hx).1,(qA hx).2.1⟩
      ·match r,hne,h with
       |
        d::r,_,h =>
        refine ⟨by omega,by simp,hp,fun x hx=>?_⟩
        rw[List.take_succ_cons,List.take_succ_cons,List.take_zero]
        show oZ (c::d::x)=_
        unfold oZ
        dsimp only
        rw[if_neg hl,if_neg hu,if_neg hd,if_neg hq,sign_eq]
        exact h
end Go.Proofs.YtfeglkleoijlaaaGreatDoor
