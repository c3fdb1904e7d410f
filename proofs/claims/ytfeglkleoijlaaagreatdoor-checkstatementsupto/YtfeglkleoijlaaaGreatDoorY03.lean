import Derived.Test.YtfeglkleoijlaaaGreatDoorY02
import Derived.Lib.Join
import Derived.Laws.OwnMore
import Derived.Test.YtfeglkleoijlaaaGreatDoorY01
namespace Go.Proofs.YtfeglkleoijlaaaGreatDoor
set_option linter.unusedSimpArgs false
set_option linter.unusedVariables false
set_option maxHeartbeats 8000000
def wr (t:Tk):List UInt8:=if t.k=3 then Lib.itoa t.n else if t.k=4 then [39]++(nW t.s++[39]) else t.s
theorem Ms (u:Nat) (h:u<10):dh fT (UInt8.ofNat (48+u))=true∧(UInt8.ofNat (48+u)).toNat=48+u:=by
 refine ⟨?_,by simp;omega⟩
 match u,h with
 | 0,_=>decide
 | 1,_=>decide
 | 2,_=>decide
 | 3,_=>decide
 | 4,_=>decide
 | 5,_=>decide
 | 6,_=>decide
 | 7,_=>decide
 | 8,_=>decide
 | 9,_=>decide
theorem wO (d:UInt8) (hd:48≤d.toNat∧d.toNat≤57):∀(l:List UInt8) (acc u:Nat),Lib.parseUint10 acc l = .ok u→u<1844674407370955162→u*10+(d.toNat-48)<18446744073709551616→Lib.parseUint10 acc (l++[d]) = .ok (u*10+(d.toNat-48))
 |
  [],acc,u,h,h1,h2=>by
  simp only[Lib.parseUint10] at h
  injection h with h
  subst h
  simp only[List.nil_append,Lib.parseUint10]
  rw[if_pos hd,if_neg (by omega),if_neg (by omega)]
 |
  c::r,acc,u,h,h1,h2=>by
  simp only[Lib.parseUint10] at h
  simp only[List.cons_append,Lib.parseUint10]
  split at h
  ·rename_i hc
   rw[if_pos hc]
   split at h
   ·cases h
   ·rename_i g1
    rw[if_neg g1]
    split at h
    ·cases h
    ·rename_i g2
     rw[if_neg g2]
     exact wO d hd r _ u h h1 h2
  ·cases h
theorem oG (u:Nat) (h:u<9223372036854775808):(∀c∈Lib.decDigits u,dh fT c=true)∧Lib.parseUint10 0 (Lib.decDigits u) = .ok u∧Lib.decDigits u≠[]∧(Lib.decDigits u).length≤19∧(∀k,u<10 ^ (k+1)→(Lib.decDigits u).length≤k+1):=by
 suffices hmain:(∀c∈Lib.decDigits u,dh fT c=true)∧Lib.parseUint10 0 (Lib.decDigits u) = .ok u∧Lib.decDigits u≠[]∧(∀k,u<10 ^ (k+1)→(Lib.decDigits u).length≤k+1) from
  ⟨hmain.1,hmain.2.1,hmain.2.2.1,hmain.2.2.2 18 (by omega),hmain.2.2.2⟩
 induction u using Nat.strongRecOn with
 |
  _ u ih =>
  by_cases h10:u<10
  ·have e:Lib.decDigits u=[UInt8.ofNat (48+u)]:=by rw[Lib.decDigits,dif_pos h10]
   obtain⟨d1,d2⟩:=Ms u h10
   rw[e]
   refine ⟨by simpa using d1,?_,by simp,by simp⟩
   simp only[Lib.parseUint10]
   rw[d2,if_pos (by omega),if_neg (by omega),if_neg (by omega)]
   congr 1
   omega
  ·have e:Lib.decDigits u=Lib.decDigits (u / 10)++[UInt8.ofNat (48+u % 10)]:=by rw[Lib.decDigits,dif_neg h10]
   obtain⟨i1,i2,i3,i4⟩:=ih (u / 10) (by omega) (by omega)
   obtain⟨d1,d2⟩:=Ms (u % 10) (by omega)
   rw[e]
   refine ⟨fun c hc=>?_,?_,by simp,fun k hk=>?_⟩
   ·rcases List.mem_append.1 hc with hc | hc
    ·exact i1 c hc
    ·rw[List.mem_singleton] at hc;rw[hc];exact d1
   ·rw[wO _ (by rw[d2];omega) _ _ _ i2 (by omega) (by rw[d2];omega),d2]
    congr 1
    omega
   ·rw[aaN,aa1,List.length_nil]
    match k with
    | 0=>omega
    |
     k+1 =>
     have:=i4 k (by rw[Nat.pow_succ] at hk;omega)
     omega
theorem Ej (u:Nat) (h:u<9223372036854775808):Lib.atoiAll (Lib.decDigits u) = .ok (u:Int):=by
 obtain⟨h1,h2,h3,_,_⟩:=oG u h
 match hd:Lib.decDigits u,h3 with
 |
  c::r,_ =>
  rw[hd] at h1 h2
  have hc:=h1 c (by simp)
  have hc2 : ¬(c.toNat=43∨c.toNat=45)∧¬c.toNat=45:=by
   simp only[dh,fT,List.contains_iff_mem,abg,List.not_mem_nil,or_false] at hc
   rcases hc with rfl | rfl | rfl | rfl | rfl | rfl | rfl | rfl | rfl | rfl<;>decide
  unfold Lib.atoiAll
  dsimp only
  rw[if_neg hc2.1,Lib.parseMag,if_neg (by simp),h2]
  dsimp only
  rw[if_neg (by omega),if_neg (fun e=>hc2.2 e.1),if_neg hc2.2]
theorem IY (x:List UInt8) (hx:x.head?≠some 39):∀s:List UInt8,txt (nW s++39::x)=(s,x,true)
 |
  []=>by
  match x,hx with
  | [],_=>simp[nW,txt]
  | d::x,hx=>simp at hx;simp[nW,txt,hx]
 |
  c::s=>by
  have ih:=IY x hx s
  by_cases hc:c=39
  ·subst hc
   have e:nW (39::s)=39::39::nW s:=by simp[nW]
   rw[e]
   simp[txt,ih]
  ·have e:nW (c::s)=c::nW s:=by simp[nW,hc]
   rw[e]
   match hd:nW s++39::x with
   | []=>simp at hd
   |
    d::y =>
    rw[List.cons_append,hd]
    rw[hd] at ih
    simp[txt,hc,ih]
def Vb (x:List UInt8):Prop:=x=[]∨∃r,x=32::r
theorem Vb.stop {x:List UInt8} (h:Vb x):Stop x:=by
 rcases h with rfl | ⟨r,rfl⟩
 ·exact .inl rfl
 ·exact .inr ⟨32,r,rfl,by simp⟩
theorem Vb.head {x:List UInt8} (h:Vb x):x.head?≠some 45:=by
 rcases h with rfl | ⟨r,rfl⟩<;>simp
structure mY (t:Tk):Prop where
 k6:t.k≠6
 len:t.s.length≤40
 n0:0≤t.n
 n1:t.n≤9223372036854775807
 wl:1≤(wr t).length
 sk : ∀x,Vb x→skip false (wr t++x)=0
 ct : ∀x,Vb x→oZ (wr t++x)=(0,t.z,(wr t).length)
theorem sG (v p:Int) (h0:0≤v) (h1:v≤9223372036854775807):mY ⟨3,[],v,p⟩:=by
 obtain⟨u,rfl⟩:∃u:Nat,v=u:=⟨v.toNat,by omega⟩
 obtain⟨d1,d2,d3,_,_⟩:=oG u (by omega)
 have ha:=Ej u (by omega)
 have hw:wr ⟨3,[],(u:Int),p⟩=Lib.decDigits u:=by
  unfold wr
  rw[if_pos rfl]
  unfold Lib.itoa
  rw[if_neg (by simp)]
  simp
 obtain⟨c,r,hcr⟩:∃c r,Lib.decDigits u=c::r:=by
  match h:Lib.decDigits u,d3 with
  | c::r,_=>exact⟨c,r,rfl⟩
 have hc:=d1 c (by rw[hcr];simp)
 have hcs:dh Mq c=false∧¬c=45∧¬dh gZ c=true∧¬dh uK c=true:=by
  simp only[dh,fT,List.contains_iff_mem,abg,List.not_mem_nil,or_false] at hc
  rcases hc with rfl | rfl | rfl | rfl | rfl | rfl | rfl | rfl | rfl | rfl<;>decide
 refine ⟨by show (3:Int)≠6;decide,aaV _,h0,h1,by rw[hw,hcr];simp,fun x hx=>?_,fun x hx=>?_⟩
 ·rw[hw,hcr,List.cons_append,skip,if_neg (by rw[hcs.1];simp),if_neg (fun e=>hcs.2.1 e.1)]
 ·rw[hw]
  have hrow:=xL d1 (pW hx.stop).2.2.1
  have hh:Lib.decDigits u++x=c::(r++x):=by rw[hcr];rfl
  rw[gY hh,if_neg hcs.2.2.1,if_neg hcs.2.2.2,if_pos hc,qy,hrow,List.drop_left,List.take_left,qD hx.stop,if_neg (by simp),ha]
  rfl
theorem zL (s:List UInt8) (p:Int) (h:s.length≤40):mY ⟨4,s,0,p⟩:=by
 have hw:wr ⟨4,s,0,p⟩=39::(nW s++[39]):=by
  unfold wr
  rw[if_neg (show ¬(4:Int)=3 by decide),if_pos rfl]
  rfl
 refine ⟨by show (4:Int)≠6;decide,h,Int.le_refl _,by show (0:Int)≤_;decide,by rw[hw];simp,fun x hx=>?_,fun x hx=>?_⟩
 ·rw[hw,List.cons_append,skip,if_neg (by decide),if_neg (fun e=>absurd e.1 (by decide))]
 ·rw[hw,show (39::(nW s++[39]):List UInt8)++x=39::(nW s++39::x) by simp]
  unfold oZ
  dsimp only
  rw[if_neg (by decide),if_neg (by decide),if_neg (by decide),if_pos (by decide),nL,List.drop_succ_cons,List.drop_zero,IY x (qA hx.stop).2.2 s,Dq]
  dsimp only
  rw[if_neg (by omega),if_neg (by simp)]
  simp only[aa1,aaN,List.length_nil,Tk.z]
  congr 2
  omega
theorem EC : ∀g∈N7,g.length≤40:=by decide
theorem JU {s x:List UInt8} {n:Nat} (h:skip false s=0) (h1:1≤n) (h2:n≤s.length) (hx:x.head?≠some 45):skip false (s.take n++x)=0:=by
 match s,n,h with
 |
  c::r,n+1,h =>
  rw[skip] at h
  rw[List.take_succ_cons,List.cons_append,skip]
  split at h
  ·omega
  ·rename_i hb
   split at h
   ·omega
   ·rename_i hr
    rw[if_neg hb,if_neg]
    rintro⟨rfl,g2⟩
    cases n with
    | zero=>exact hx g2
    |
     succ n =>
     cases r with
     | nil=>exact hx g2
     | cons d r=>exact hr ⟨rfl,g2⟩
 | c::r,0,_=>omega
 | [],n,_=>simp at h2;omega
theorem yU {s:List UInt8} {t:Tk} {n:Nat} (hs:skip false s=0) (hc:oZ s=(0,t,n)) (hk:t.k=1∨t.k=2∨t.k=5) (hb:t.s=s.take n) (hl:t.s.length≤40) (hn:t.n=0) (p:Int):mY ⟨t.k,t.s,t.n,p⟩:=by
 obtain⟨h1,h2,hp,hloc⟩:=JH hc
 have hw:wr ⟨t.k,t.s,t.n,p⟩=s.take n:=by
  unfold wr
  rcases hk with e | e | e<;>simp[e,hb]
 have hl2:(s.take n).length=n:=by rw[List.length_take];omega
 have hz:(⟨t.k,t.s,t.n,p⟩:Tk).z=t:=by
  obtain⟨a,b,c,d⟩:=t
  simp only at hp
  subst hp
  rfl
 refine ⟨by show t.k≠6;omega,hl,by show 0≤t.n;omega,by show t.n≤_;omega,by rw[hw,hl2];exact h1,fun x hx=>?_,fun x hx=>?_⟩
 ·rw[hw];exact JU hs h1 h2 hx.head
 ·rw[hw,hl2,hz];exact hloc x hx.stop
theorem EZ {s:List UInt8} {t:Tk} {n:Nat} (hs:skip false s=0) (h:oZ s=(0,t,n)) (p:Int):mY ⟨t.k,t.s,t.n,p⟩:=by
 have h0:=h
 match s,hs,h with
 | [],hs,h=>simp[oZ] at h
 |
  c::r,hs,h =>
  unfold oZ at h
  dsimp only at h
  by_cases hl:dh gZ c=true
  ·rw[if_pos hl] at h
   unfold nU at h
   have h2:=uf (dh fK) (c::r)
   split at h
   ·cases h
   ·split at h
    ·cases h
    ·rename_i g1 g2
     cases h
     exact yU hs h0 (.inl rfl) rfl (by rw[List.length_take];omega) rfl p
  ·rw[if_neg hl] at h
   by_cases hu:dh uK c=true
   ·rw[if_pos hu] at h
    unfold qc at h
    split at h
    ·cases h
    ·split at h
     ·cases h
     ·rename_i g1 g2
      cases h
      exact yU hs h0 (.inr (.inl rfl)) rfl (EC _ (by simpa using g2)) rfl p
   ·rw[if_neg hu] at h
    by_cases hd:dh fT c=true
    ·rw[if_pos hd] at h
     unfold qy at h
     split at h
     ·cases h
     ·have hhead:(c::r).take (row (dh fT) (c::r))=c::r.take (row (dh fT) r):=by rw[gL hd,List.take_succ_cons]
      rw[hhead] at h
      have hc2 : ¬c.toNat=45:=by
       simp only[dh,fT,List.contains_iff_mem,abg,List.not_mem_nil,or_false] at hd
       rcases hd with rfl | rfl | rfl | rfl | rfl | rfl | rfl | rfl | rfl | rfl<;>decide
      cases ha:Lib.atoiAll (c::r.take (row (dh fT) r)) with
      |
       ok v =>
       rw[ha] at h
       cases h
       unfold Lib.atoiAll at ha
       dsimp only at ha
       split at ha
       ·cases ha
       ·cases ha
       ·rename_i u _
        split at ha
        ·cases ha
        ·rename_i g
         rw[if_neg (fun e=>hc2 e.1)] at ha
         try rw[if_neg hc2] at ha
         injection ha with ha
         subst ha
         exact sG (u:Int) p (by omega) (by have : ¬9223372036854775808≤u:=fun e=>g ⟨hc2,e⟩;omega)
      | «syntax»=>rw[ha] at h;cases h
      | range=>rw[ha] at h;cases h
    ·rw[if_neg hd] at h
     by_cases hq:dh [39] c=true
     ·rw[if_pos hq] at h
      unfold nL Dq at h
      split at h
      ·cases h
      ·rename_i g1
       split at h
       ·cases h
       ·cases h
        exact zL _ p (Nat.le_of_not_lt g1)
     ·rw[if_neg hq,sign_eq] at h
      have hu2:=yw h
      have hb:=DR h
      exact yU hs h0 (.inr (.inr hu2.2.1)) hb (by rw[hb,List.length_take];omega) hu2.2.2.1 p
open Go.RowKit Go.Shelf
set_option maxRecDepth 20000
def tc (x:Tk):List Value:=[.int .i64 x.k,.string (aj x.s),.int .i64 x.n,.int .i64 x.p]
def N9 (B:Nat) (w:World) (v:Value) (xs:List Tk):Prop :=
 ∃
  a c,v = .slice a xs.length c∧xs.length≤c∧c≤maxLen ∧
  (xs≠[]→∃b off,a=some ⟨b,off,none⟩∧b<B∧∀j x,xs[j]?=some x→w.cell? ⟨b,off+j*4,none⟩=some (.int .i64 x.k)∧w.cell? ⟨b,off+j*4+1,none⟩=some (.string (aj x.s))∧w.cell? ⟨b,off+j*4+2,none⟩=some (.int .i64 x.n)∧w.cell? ⟨b,off+j*4+3,none⟩=some (.int .i64 x.p))
theorem N9.below {B:Nat} {w w':World} {v:Value} {xs:List Tk} (h:N9 B w v xs) (hb:Below B w w'):N9 B w' v xs:=by
 obtain⟨a,c,hv,h1,h2,h3⟩:=h
 refine ⟨a,c,hv,h1,h2,fun hne=>?_⟩
 obtain⟨b,off,ha,hlt,hc⟩:=h3 hne
 refine ⟨b,off,ha,hlt,fun j x hx=>?_⟩
 obtain⟨c0,c1,c2,c3⟩:=hc j x hx
 exact⟨(hb.cell (p:=⟨b,off+j*4,none⟩) hlt).trans c0,(hb.cell (p:=⟨b,off+j*4+1,none⟩) hlt).trans c1,(hb.cell (p:=⟨b,off+j*4+2,none⟩) hlt).trans c2,(hb.cell (p:=⟨b,off+j*4+3,none⟩) hlt).trans c3⟩
theorem vV {w w':World} (h:Below w.heap.size w w'):w.grownBy w' none:=⟨h.os,h.tape,h.output,h.size,fun k hk _=>h.block k hk⟩
theorem Dp {w w':World} {B e z n:Nat} {v:Value} {xs:List Value} (h:w.ownsRow B e z v n xs) (hb:Below w.heap.size w w'):w'.ownsRow B e z v n xs :=
 h.kept (vV hb) (by cases v.ownBlock<;>simp)
def tcs (xs:List Tk):List Value:=xs.flatMap tc
theorem GL (xs:List Tk):(tcs xs).length=xs.length*4:=by
 induction xs with
 | nil=>rfl
 | cons x xs ih=>rw[show tcs (x::xs)=tc x++tcs xs from rfl,aaN,ih];simp[tc];omega
theorem M0 : ∀(xs:List Tk) (j:Nat) (x:Tk),xs[j]?=some x→(tcs xs)[j*4]?=some (.int .i64 x.k)∧(tcs xs)[j*4+1]?=some (.string (aj x.s))∧(tcs xs)[j*4+2]?=some (.int .i64 x.n)∧(tcs xs)[j*4+3]?=some (.int .i64 x.p)
 |
  y::xs,0,x,h=>by
  simp only[List.getElem?_cons_zero,abf] at h
  subst h
  exact⟨rfl,rfl,rfl,rfl⟩
 |
  y::xs,j+1,x,h=>by
  have ih:=M0 xs j x (by simpa using h)
  rw[show tcs (y::xs)=tc y++tcs xs from rfl]
  have e : ∀i,(tc y++tcs xs)[(j+1)*4+i]?=(tcs xs)[j*4+i]?:=fun i=>by
   rw[List.getElem?_append_right (by simp[tc];omega)]
   congr 1
   simp[tc]
   omega
  exact⟨(e 0).trans ih.1,(e 1).trans ih.2.1,(e 2).trans ih.2.2.1,(e 3).trans ih.2.2.2⟩
theorem A8 {w:World} {B n:Nat} {v:Value} {xs:List Tk} (h:w.ownsRow B 180 4 v n (tcs xs)):n=xs.length∧N9 w.heap.size w v xs:=by
 have hl:n=xs.length:=by have:=h.1;rw[GL] at this;omega
 subst hl
 refine ⟨rfl,?_⟩
 have hc:=h
 rcases h.2 with⟨rfl,hn⟩ | ⟨g,cap,cur,rfl,hb,hg,hnc,hcm,hcs,ht⟩
 ·exact⟨none,0,by rw[hn],by omega,by unfold maxLen;omega,fun hne=>absurd (aaR hn) hne⟩
 ·refine ⟨_,cap,rfl,hnc,hcm,fun _=>⟨g,0,rfl,(Array.getElem?_eq_some_iff.1 hg).1,fun j x hx=>?_⟩⟩
  have k:=hc.cells (g:=g) rfl
  have at' : ∀i u,(tcs xs)[i]?=some u→w.cell? ⟨g,i,none⟩=some u:=fun i u hi=>by
   have:=k i u hi
   rwa [Addr.add_lit,Nat.zero_add] at this
  obtain⟨c0,c1,c2,c3⟩:=M0 xs j x hx
  rw[Nat.zero_add]
  exact⟨at' _ _ c0,at' _ _ c1,at' _ _ c2,at' _ _ c3⟩
theorem Tryz.QN:(Tryz.prog.info? 180).map (fun i=>(i.zero,i.size,i.bytes))=some (some (.agg #[.int .i64 0,.string ⟨#[]⟩,.int .i64 0,.int .i64 0]),4,40):=by kernel_rfl
theorem FC {w:World} {g:Nat} {a b:Value} {t:TypeId} (h:w.heap[g]?=some (.cells #[a,b] t)) :
  w.cell? ⟨g,0,none⟩=some a∧w.cell? ⟨g,1,none⟩=some b∧∀i,w.frozen? ⟨g,i,none⟩=false :=
 ⟨by rw[aB _ _ _ _ _ _ h];rfl,by rw[aB _ _ _ _ _ _ h];rfl,fun i=>by simp[World.frozen?,h]⟩
end Go.Proofs.YtfeglkleoijlaaaGreatDoor
namespace Go.Proofs.YtfeglkleoijlaaaGreatDoor
open Go.RowKit
set_option linter.unusedVariables false
set_option maxRecDepth 20000
set_option maxHeartbeats 8000000
structure ak (S:Nat→Prop) (w w':World):Prop where
 os:w'.os=w.os
 tape:w'.tape=w.tape
 output:w'.output=w.output
 size:w.heap.size≤w'.heap.size
 block : ∀k,k<w.heap.size→¬S k→w'.heap[k]?=w.heap[k]?
theorem ak.refl (S:Nat→Prop) (w:World):ak S w w:=⟨rfl,rfl,rfl,aaF _,fun _ _ _=>rfl⟩
theorem ak.andThen {S T:Nat→Prop} {a b c:World} (h:ak S a b) (k:ak T b c) (hT : ∀i,T i→S i∨a.heap.size≤i):ak S a c :=
 ⟨k.os.trans h.os,k.tape.trans h.tape,k.output.trans h.output,Nat.le_trans h.size k.size,fun i hi hS =>
  (k.block i (aa7 hi h.size) (fun ht=>by rcases hT i ht with h1 | h1;exact hS h1;omega)).trans (h.block i hi hS)⟩
theorem ak.mono {S T:Nat→Prop} {a b:World} (h:ak S a b) (hT : ∀i,S i→T i):ak T a b :=
 ⟨h.os,h.tape,h.output,h.size,fun i hi hS=>h.block i hi fun hs=>hS (hT i hs)⟩
theorem ak.gU {S:Nat→Prop} {w w':World} {row:Option Nat} (hg:w.grownBy w' row) (hr : ∀k,row=some k→S k):ak S w w' :=
 ⟨hg.os,hg.tape,hg.output,hg.size,fun k hk hS=>hg.block k hk fun e=>hS (hr k e.symm)⟩
theorem ak.of_below {S:Nat→Prop} {w w':World} {B:Nat} (h:Below B w w') (hB : ∀k,B≤k→k<w.heap.size→S k):ak S w w' :=
 ⟨h.os,h.tape,h.output,h.size,fun k hk hS=>h.block k (Nat.lt_of_not_le fun hb=>hS (hB k hb hk))⟩
theorem ak.aA {S:Nat→Prop} {w w':World} (h:Below w.heap.size w w'):ak S w w':=ak.of_below h (fun k h1 h2=>by omega)
theorem ak.below {S:Nat→Prop} {w w':World} {B:Nat} (h:ak S w w') (hS : ∀i,S i→B≤i) (hB:B≤w.heap.size):Below B w w' :=
 ⟨h.os,h.tape,h.output,h.size,fun k hk=>h.block k (by omega) fun hs=>by have:=hS k hs;omega⟩
theorem ak.cell {S:Nat→Prop} {w w':World} (h:ak S w w') {p:Addr} {v:Value} (hc:w.cell? p=some v) (hS : ¬S p.block):w'.cell? p=some v:=by
 rw[World.cell?_of_block (w:=w) (h.block p.block (World.block_lt_of_cell? w p hc) hS)]
 exact hc
theorem ak.row {S:Nat→Prop} {w w':World} (h:ak S w w') {B e s n:Nat} {v:Value} {xs:List Value} (ho:w.ownsRow B e s v n xs) (hS : ∀g,v.ownBlock=some g→¬S g):w'.ownsRow B e s v n xs:=by
 refine ⟨ho.1,?_⟩
 rcases ho.2 with h0 | ⟨g,cap,cur,rfl,hB,hg,r⟩
 ·exact .inl h0
 ·exact .inr ⟨g,cap,cur,rfl,hB,by rw[h.block g (Array.getElem?_eq_some_iff.1 hg).1 (hS g rfl)];exact hg,r⟩
theorem gM {w:World} {B B' e s n:Nat} {v:Value} {xs:List Value} (ho:w.ownsRow B e s v n xs) (hB : ∀g,v.ownBlock=some g→B'≤g):w.ownsRow B' e s v n xs:=by
 refine ⟨ho.1,?_⟩
 rcases ho.2 with h0 | ⟨g,cap,cur,rfl,_,r⟩
 ·exact .inl h0
 ·exact .inr ⟨g,cap,cur,rfl,hB g rfl,r⟩
end Go.Proofs.YtfeglkleoijlaaaGreatDoor
namespace Go.Proofs.YtfeglkleoijlaaaGreatDoor
set_option linter.unusedSimpArgs false
set_option linter.unusedVariables false
set_option maxHeartbeats 8000000
inductive Ex where
 | mk (k op:Int) (tb nm:List UInt8) (v:Vl) (xs:List Ex)
def zV:Vl:=⟨0,0,[]⟩
def tO:Ex:=.mk 0 0 [] [] zV []
def Ml (op:Int) (a b:Ex):Ex:=.mk 3 op [] [] zV [a,b]
def nA (k:Int) (a:Ex):Ex:=.mk k 0 [] [] zV [a]
def Dc (t n:List UInt8):Ex:=.mk 2 0 t n zV []
def ED (v:Vl):Ex:=.mk 1 0 [] [] v []
structure Co where
 nm:List UInt8
 k:Int
 nn:Bool
 uq:Bool
structure It where
 k:Int
 xs:List Ex
structure Se where
 nm:List UInt8
 e:Ex
structure St where
 k:Int
 tb:List UInt8
 aC:List Co
 aD:List UInt8
 rows:List (List Vl)
 sets:List Se
 items:List It
 jn:List UInt8
 on:List Ex
 wh:List Ex
 gr:List Ex
 od:List Ex
 desc:Bool
 lim:Int
def zSt (k:Int):St:=⟨k,[],[],[],[],[],[],[],[],[],[],[],false,-1⟩
open Go.RowKit Go.Shelf
set_option maxRecDepth 20000
abbrev Fr (g:Nat) (w w':World):Prop:=ak (fun k=>k=g) w w'
theorem ak.setCell {S:Nat→Prop} {a b:World} (h:ak S a b) {p:Addr} (hp:S p.block∨a.heap.size≤p.block) (u:Value):ak S a (b.setCell p u) :=
 ⟨h.os,h.tape,h.output,by simpa [World.setCell] using h.size,fun k hk hS=>(Below.heap_setCell _ _ _ _ (by rintro rfl;rcases hp with hp | hp;exact hS hp;omega)).trans (h.block k hk hS)⟩
theorem ak.setRow {S:Nat→Prop} {a b:World} (h:ak S a b) {p:Nat} (hp:S p∨a.heap.size≤p) (cs:Array Value):ak S a (b.setRow p cs) :=
 ⟨h.os,h.tape,h.output,by simpa using h.size,fun k hk hS=>(setRow_other _ _ _ _ (by rintro rfl;rcases hp with hp | hp;exact hS hp;omega)).trans (h.block k hk hS)⟩
theorem ak.own {g:Nat} {a b:World} (h:Fr g a b) (i:Nat) (u:Value):Fr g a (b.setCell ⟨g,i,none⟩ u):=ak.setCell (S:=fun k=>k=g) h (p:=⟨g,i,none⟩) (.inl rfl) u
theorem ak.then {S:Nat→Prop} {a b c:World} (h:ak S a b) (k:ak S b c):ak S a c:=h.andThen k fun _ hi=>.inl hi
theorem ak.iI {S:Nat→Prop} {a b c:World} (h:ak S a b) (k:Below b.heap.size b c):ak S a c:=h.andThen (ak.aA (S:=S) k) fun _ hi=>.inl hi
theorem aK (w:World) (o:Obj):∃W,w.alloc o=W∧Below w.heap.size w W∧w.heap.size<W.heap.size∧W.heap[w.heap.size]?=some o :=
 ⟨_,rfl,(Below.refl _ _).alloc (aaF _) _,by simp,heap_alloc_new w _⟩
inductive bA (S:Nat→Prop) (w:World):List Ex→Value→Prop
 | nil (a:Option Addr) (c:Nat) (hc:c≤maxLen):bA S w [] (.slice a 0 c)
 | cons (xs:List Ex) (b off c:Nat) (Oj:Nat→Value) (hne:xs≠[]) (hS:S b) (hl:xs.length≤c) (hc:c≤maxLen)
  (hcell : ∀(j:Nat) (k op:Int) (tb nm:List UInt8) (vk vn:Int) (vs:List UInt8) (ys:List Ex),xs[j]?=some (.mk k op tb nm ⟨vk,vn,vs⟩ ys) →
   w.cell? ⟨b,off+j*8,none⟩=some (.int .i64 k)∧w.cell? ⟨b,off+j*8+1,none⟩=some (.int .i64 op)∧w.cell? ⟨b,off+j*8+2,none⟩=some (.string (aj tb))∧w.cell? ⟨b,off+j*8+3,none⟩=some (.string (aj nm)) ∧
   w.cell? ⟨b,off+j*8+4,none⟩=some (.int .i64 vk)∧w.cell? ⟨b,off+j*8+5,none⟩=some (.int .i64 vn)∧w.cell? ⟨b,off+j*8+6,none⟩=some (.string (aj vs))∧w.cell? ⟨b,off+j*8+7,none⟩=some (Oj j))
  (hrec : ∀(j:Nat) (k op:Int) (tb nm:List UInt8) (vk vn:Int) (vs:List UInt8) (ys:List Ex),xs[j]?=some (.mk k op tb nm ⟨vk,vn,vs⟩ ys)→bA S w ys (Oj j)) :
  bA S w xs (.slice (some ⟨b,off,none⟩) xs.length c)
theorem bA.to {S R T:Nat→Prop} {w w':World} {xs:List Ex} {v:Value} (h:bA S w xs v) (hk:ak R w w') (hS : ∀b,S b→b<w.heap.size→¬R b∧T b):bA T w' xs v:=by
 induction h with
 | nil a c hc=>exact .nil a c hc
 |
  cons xs b off c Oj hne hSb hl hc hcell hrec ih =>
  have hb:b<w.heap.size:=by
   cases xs with
   | nil=>exact absurd rfl hne
   |
    cons x l =>
    obtain⟨k,op,tb,nm,⟨vk,vn,vs⟩,ys⟩:=x
    exact World.block_lt_of_cell? w _ (hcell 0 k op tb nm vk vn vs ys rfl).1
  obtain⟨h1,h2⟩:=hS b hSb hb
  refine .cons xs b off c Oj hne h2 hl hc (fun j k op tb nm vk vn vs ys hj=>?_) ih
  obtain⟨c0,c1,c2,c3,c4,c5,c6,c7⟩:=hcell j k op tb nm vk vn vs ys hj
  exact⟨hk.cell c0 h1,hk.cell c1 h1,hk.cell c2 h1,hk.cell c3 h1,hk.cell c4 h1,hk.cell c5 h1,hk.cell c6 h1,hk.cell c7 h1⟩
theorem bA.form {S:Nat→Prop} {w:World} {xs:List Ex} {v:Value} (h:bA S w xs v):∃a c,v = .slice a xs.length c∧c≤maxLen:=by
 cases h with
 | nil a c hc=>exact⟨a,c,rfl,hc⟩
 | cons xs b off c Oj hne hS hl hc hcell hrec=>exact⟨_,c,rfl,hc⟩
def gH (S:Nat→Prop) (w:World) (x:Ex) (v:Value):Prop :=
 ∃(k op:Int) (tb nm:List UInt8) (vk vn:Int) (vs:List UInt8) (ys:List Ex) (aa:Option Addr) (nn cc:Nat),x = .mk k op tb nm ⟨vk,vn,vs⟩ ys∧v = .agg #[.int .i64 k,.int .i64 op,.string (aj tb),.string (aj nm),.int .i64 vk,.int .i64 vn,.string (aj vs),.slice aa nn cc]∧bA S w ys (.slice aa nn cc)
theorem gH.to {S R T:Nat→Prop} {w w':World} {x:Ex} {v:Value} (h:gH S w x v) (hk:ak R w w') (hS : ∀b,S b→b<w.heap.size→¬R b∧T b):gH T w' x v:=by
 obtain⟨k,op,tb,nm,vk,vn,vs,ys,aa,nn,cc,h1,h2,h3⟩:=h
 exact⟨k,op,tb,nm,vk,vn,vs,ys,aa,nn,cc,h1,h2,h3.to hk hS⟩
theorem aG {w:World} {g:Nat} {a b c d e f i j:Value} {t:TypeId} {fr:Nat × Nat} (h:w.heap[g]?=some (.cells #[a,b,c,d,e,f,i,j] t fr)) :
  w.cell? ⟨g,0,none⟩=some a∧w.cell? ⟨g,1,none⟩=some b∧w.cell? ⟨g,2,none⟩=some c∧w.cell? ⟨g,3,none⟩=some d∧w.cell? ⟨g,4,none⟩=some e∧w.cell? ⟨g,5,none⟩=some f∧w.cell? ⟨g,6,none⟩=some i∧w.cell? ⟨g,7,none⟩=some j :=
 ⟨by rw[aB _ _ _ _ _ _ h];rfl,by rw[aB _ _ _ _ _ _ h];rfl,by rw[aB _ _ _ _ _ _ h];rfl,by rw[aB _ _ _ _ _ _ h];rfl,by rw[aB _ _ _ _ _ _ h];rfl,by rw[aB _ _ _ _ _ _ h];rfl,by rw[aB _ _ _ _ _ _ h];rfl,by rw[aB _ _ _ _ _ _ h];rfl⟩
theorem NU {S:Nat→Prop} {w:World} {b:Nat} {k op:Int} {tb nm:List UInt8} {vk vn:Int} {vs:List UInt8} {ys:List Ex} {av:Value} {k2 op2:Int} {bX eH:List UInt8} {dS dU:Int} {vs2:List UInt8} {ys2:List Ex} {av2:Value} {t:TypeId} (hS:S b)
  (hb:w.heap[b]?=some (.cells #[.int .i64 k,.int .i64 op,.string (aj tb),.string (aj nm),.int .i64 vk,.int .i64 vn,.string (aj vs),av,.int .i64 k2,.int .i64 op2,.string (aj bX),.string (aj eH),.int .i64 dS,.int .i64 dU,.string (aj vs2),av2] t)) (ha:bA S w ys av) (ha2:bA S w ys2 av2) :
  bA S w [.mk k op tb nm ⟨vk,vn,vs⟩ ys,.mk k2 op2 bX eH ⟨dS,dU,vs2⟩ ys2] (.slice (some ⟨b,0,none⟩) 2 2):=by
 refine bA.cons (S:=S) (w:=w) [.mk k op tb nm ⟨vk,vn,vs⟩ ys,.mk k2 op2 bX eH ⟨dS,dU,vs2⟩ ys2] b 0 2 (fun j=>if j=0 then av else av2) (by simp) hS (by simp) (by unfold maxLen;omega) ?_ ?_
 ·intro j k' op' tb' nm' jM QB vs' ys' hj
  have cl:=fun i=>cell_of_row w b i _ _ _ hb
  match j,hj with
  |
   0,hj =>
   simp only[List.getElem?_cons_zero,abf,Ex.mk.injEq,Vl.mk.injEq] at hj
   obtain⟨rfl,rfl,rfl,rfl,⟨rfl,rfl,rfl⟩,rfl⟩:=hj
   simp[cl]
  |
   1,hj =>
   simp only[List.getElem?_cons_succ,List.getElem?_cons_zero,abf,Ex.mk.injEq,Vl.mk.injEq] at hj
   obtain⟨rfl,rfl,rfl,rfl,⟨rfl,rfl,rfl⟩,rfl⟩:=hj
   simp[cl]
 ·intro j k' op' tb' nm' jM QB vs' ys' hj
  match j,hj with
  |
   0,hj =>
   simp only[List.getElem?_cons_zero,abf,Ex.mk.injEq,Vl.mk.injEq] at hj
   obtain⟨rfl,rfl,rfl,rfl,⟨rfl,rfl,rfl⟩,rfl⟩:=hj
   exact ha
  |
   1,hj =>
   simp only[List.getElem?_cons_succ,List.getElem?_cons_zero,abf,Ex.mk.injEq,Vl.mk.injEq] at hj
   obtain⟨rfl,rfl,rfl,rfl,⟨rfl,rfl,rfl⟩,rfl⟩:=hj
   exact ha2
theorem three (w:World) (A B C:Obj):∃W,((w.alloc A).alloc B).alloc C=W∧Below w.heap.size w W∧W.heap[w.heap.size+1]?=some B∧W.heap[w.heap.size+1+1]?=some C:=by
 refine ⟨_,rfl,(((Below.refl _ w).alloc (aaF _) A).alloc (by simp) B).alloc (by simp;omega) C,?_,?_⟩
 ·rw[Below.heap_alloc _ _ _ (by simp)]
  exact heap_alloc2_new w A B
 ·have h:=heap_alloc_new ((w.alloc A).alloc B) C
  have e:((w.alloc A).alloc B).heap.size=w.heap.size+1+1:=by simp
  rw[e] at h
  exact h
theorem Py {w:World} {g:Nat} {a b c d e f i j:Value} {t:TypeId} (h:w.heap[g]?=some (.cells #[a,b,c,d,e,f,i,j] t)):(∀i,w.frozen? ⟨g,i,none⟩=false) ∧
  w.cell? ⟨g,0,none⟩=some a∧w.cell? ⟨g,1,none⟩=some b∧w.cell? ⟨g,2,none⟩=some c∧w.cell? ⟨g,3,none⟩=some d∧w.cell? ⟨g,4,none⟩=some e∧w.cell? ⟨g,5,none⟩=some f∧w.cell? ⟨g,6,none⟩=some i∧w.cell? ⟨g,7,none⟩=some j :=
 ⟨fun i=>by simp[World.frozen?,h],aG h⟩
theorem World.lt_of_block {w:World} {b:Nat} {o:Obj} (h:w.heap[b]?=some o):b<w.heap.size:=(Array.getElem?_eq_some_iff.1 h).1
theorem two (w:World) (A B:Obj):∃W,(w.alloc A).alloc B=W∧Below w.heap.size w W∧w.heap.size+1<W.heap.size∧W.heap[w.heap.size]?=some A∧W.heap[w.heap.size+1]?=some B:=by
 refine ⟨_,rfl,((Below.refl _ w).alloc (aaF _) A).alloc (by simp) B,by simp,?_,heap_alloc2_new w A B⟩
 rw[Below.heap_alloc _ _ _ (by simp)]
 exact heap_alloc_new w A
theorem aH {w:World} {g:Nat} {a b c:Value} {t:TypeId} (h:w.heap[g]?=some (.cells #[a,b,c] t)) :
  w.cell? ⟨g,0,none⟩=some a∧w.cell? ⟨g,1,none⟩=some b∧w.cell? ⟨g,2,none⟩=some c∧∀i,w.frozen? ⟨g,i,none⟩=false :=
 ⟨by rw[aB _ _ _ _ _ _ h];rfl,by rw[aB _ _ _ _ _ _ h];rfl,by rw[aB _ _ _ _ _ _ h];rfl,fun i=>by simp[World.frozen?,h]⟩
end Go.Proofs.YtfeglkleoijlaaaGreatDoor
