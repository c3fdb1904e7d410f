/- Packed for the hand-in: LLaw LTok Keep PPure -/
import Derived.Test.YtfeglkleoijlaaaGreatDoorZ02
import Derived.Lib.Join
import Derived.Laws.OwnMore
import Derived.Test.YtfeglkleoijlaaaGreatDoorZ01
namespace Go.Proofs.YtfeglkleoijlaaaGreatDoor
set_option linter.unusedSimpArgs false
set_option linter.unusedVariables false
set_option maxHeartbeats 8000000
def wr (t:Tk):List UInt8:=if t.k=3 then Lib.itoa t.n else if t.k=4 then [39]++(jh t.s++[39]) else t.s
theorem Dy (u:Nat) (h:u<10):bT dH (UInt8.ofNat (48+u))=true∧(UInt8.ofNat (48+u)).toNat=48+u:=by
 refine ⟨?_,by simp;omega⟩
 match u,h with
 | 0,_=>decide
 | 1,_=>decide
 | 2,_=>decide
 | 3,_=>decide
 | 4,_=>decide
 | 5,_=>decide
 | 6,_=>decide
 | 7,_=>decide
 | 8,_=>decide
 | 9,_=>decide
theorem pI (d:UInt8) (hd:48≤d.toNat∧d.toNat≤57):∀(l:List UInt8) (acc u:Nat),Lib.parseUint10 acc l = .ok u→u<1844674407370955162→u*10+(d.toNat-48)<18446744073709551616→Lib.parseUint10 acc (l++[d]) = .ok (u*10+(d.toNat-48))
 |
  [],acc,u,h,h1,h2=>by
  simp only[Lib.parseUint10] at h
  injection h with h
  subst h
  simp only[List.nil_append,Lib.parseUint10]
  rw[if_pos hd,if_neg (by omega),if_neg (by omega)]
 |
  c::r,acc,u,h,h1,h2=>by
  simp only[Lib.parseUint10] at h
  simp only[List.cons_append,Lib.parseUint10]
  split at h
  ·rename_i hc
   rw[if_pos hc]
   split at h
   ·cases h
   ·rename_i g1
    rw[if_neg g1]
    split at h
    ·cases h
    ·rename_i g2
     rw[if_neg g2]
     exact pI d hd r _ u h h1 h2
  ·cases h
theorem jl (u:Nat) (h:u<9223372036854775808):(∀c∈Lib.decDigits u,bT dH c=true)∧Lib.parseUint10 0 (Lib.decDigits u) = .ok u∧Lib.decDigits u≠[]∧(Lib.decDigits u).length≤19∧(∀k,u<10 ^ (k+1)→(Lib.decDigits u).length≤k+1):=by
 suffices hmain:(∀c∈Lib.decDigits u,bT dH c=true)∧Lib.parseUint10 0 (Lib.decDigits u) = .ok u∧Lib.decDigits u≠[]∧(∀k,u<10 ^ (k+1)→(Lib.decDigits u).length≤k+1) from
  ⟨hmain.1,hmain.2.1,hmain.2.2.1,hmain.2.2.2 18 (by omega),hmain.2.2.2⟩
 induction u using Nat.strongRecOn with
 |
  _ u ih =>
  by_cases h10:u<10
  ·have e:Lib.decDigits u=[UInt8.ofNat (48+u)]:=by rw[Lib.decDigits,dif_pos h10]
   obtain⟨d1,d2⟩:=Dy u h10
   rw[e]
   refine ⟨by simpa using d1,?_,by simp,by simp⟩
   simp only[Lib.parseUint10]
   rw[d2,if_pos (by omega),if_neg (by omega),if_neg (by omega)]
   congr 1
   omega
  ·have e:Lib.decDigits u=Lib.decDigits (u / 10)++[UInt8.ofNat (48+u % 10)]:=by rw[Lib.decDigits,dif_neg h10]
   obtain⟨i1,i2,i3,i4⟩:=ih (u / 10) (by omega) (by omega)
   obtain⟨d1,d2⟩:=Dy (u % 10) (by omega)
   rw[e]
   refine ⟨fun c hc=>?_,?_,by simp,fun k hk=>?_⟩
   ·rcases List.mem_append.1 hc with hc | hc
    ·exact i1 c hc
    ·rw[List.mem_singleton] at hc;rw[hc];exact d1
   ·rw[pI _ (by rw[d2];omega) _ _ _ i2 (by omega) (by rw[d2];omega),d2]
    congr 1
    omega
   ·rw[List.length_append,List.length_cons,List.length_nil]
    match k with
    | 0=>omega
    |
     k+1 =>
     have:=i4 k (by rw[Nat.pow_succ] at hk;omega)
     omega
theorem wP (u:Nat) (h:u<9223372036854775808):Lib.atoiAll (Lib.decDigits u) = .ok (u:Int):=by
 obtain⟨h1,h2,h3,_,_⟩:=jl u h
 match hd:Lib.decDigits u,h3 with
 |
  c::r,_ =>
  rw[hd] at h1 h2
  have hc:=h1 c (by simp)
  have hc2 : ¬(c.toNat=43∨c.toNat=45)∧¬c.toNat=45:=by
   simp only[bT,dH,List.contains_iff_mem,List.mem_cons,List.not_mem_nil,or_false] at hc
   rcases hc with rfl | rfl | rfl | rfl | rfl | rfl | rfl | rfl | rfl | rfl<;>decide
  unfold Lib.atoiAll
  dsimp only
  rw[if_neg hc2.1,Lib.parseMag,if_neg (by simp),h2]
  dsimp only
  rw[if_neg (by omega),if_neg (fun e=>hc2.2 e.1),if_neg hc2.2]
theorem zD (x:List UInt8) (hx:x.head?≠some 39):∀s:List UInt8,txt (jh s++39::x)=(s,x,true)
 |
  []=>by
  match x,hx with
  | [],_=>simp[jh,txt]
  | d::x,hx=>simp at hx;simp[jh,txt,hx]
 |
  c::s=>by
  have ih:=zD x hx s
  by_cases hc:c=39
  ·subst hc
   have e:jh (39::s)=39::39::jh s:=by simp[jh]
   rw[e]
   simp[txt,ih]
  ·have e:jh (c::s)=c::jh s:=by simp[jh,hc]
   rw[e]
   match hd:jh s++39::x with
   | []=>simp at hd
   |
    d::y =>
    rw[List.cons_append,hd]
    rw[hd] at ih
    simp[txt,hc,ih]
def Hq (x:List UInt8):Prop:=x=[]∨∃r,x=32::r
theorem Hq.stop {x:List UInt8} (h:Hq x):Stop x:=by
 rcases h with rfl | ⟨r,rfl⟩
 ·exact .inl rfl
 ·exact .inr ⟨32,r,rfl,by simp⟩
theorem Hq.head {x:List UInt8} (h:Hq x):x.head?≠some 45:=by
 rcases h with rfl | ⟨r,rfl⟩<;>simp
structure iK (t:Tk):Prop where
 k6:t.k≠6
 len:t.s.length≤40
 n0:0≤t.n
 n1:t.n≤9223372036854775807
 wl:1≤(wr t).length
 sk : ∀x,Hq x→skip false (wr t++x)=0
 ct : ∀x,Hq x→jC (wr t++x)=(0,t.z,(wr t).length)
theorem mF (v p:Int) (h0:0≤v) (h1:v≤9223372036854775807):iK ⟨3,[],v,p⟩:=by
 obtain⟨u,rfl⟩:∃u:Nat,v=u:=⟨v.toNat,by omega⟩
 obtain⟨d1,d2,d3,_,_⟩:=jl u (by omega)
 have ha:=wP u (by omega)
 have hw:wr ⟨3,[],(u:Int),p⟩=Lib.decDigits u:=by
  unfold wr
  rw[if_pos rfl]
  unfold Lib.itoa
  rw[if_neg (by simp)]
  simp
 obtain⟨c,r,hcr⟩:∃c r,Lib.decDigits u=c::r:=by
  match h:Lib.decDigits u,d3 with
  | c::r,_=>exact⟨c,r,rfl⟩
 have hc:=d1 c (by rw[hcr];simp)
 have hcs:bT CG c=false∧¬c=45∧¬bT dX c=true∧¬bT nD c=true:=by
  simp only[bT,dH,List.contains_iff_mem,List.mem_cons,List.not_mem_nil,or_false] at hc
  rcases hc with rfl | rfl | rfl | rfl | rfl | rfl | rfl | rfl | rfl | rfl<;>decide
 refine ⟨by show (3:Int)≠6;decide,Nat.zero_le _,h0,h1,by rw[hw,hcr];simp,fun x hx=>?_,fun x hx=>?_⟩
 ·rw[hw,hcr,List.cons_append,skip,if_neg (by rw[hcs.1];simp),if_neg (fun e=>hcs.2.1 e.1)]
 ·rw[hw]
  have hrow:=oP d1 (jN hx.stop).2.2.1
  have hh:Lib.decDigits u++x=c::(r++x):=by rw[hcr];rfl
  rw[dV hh,if_neg hcs.2.2.1,if_neg hcs.2.2.2,if_pos hc,jY,hrow,List.drop_left,List.take_left,jZ hx.stop,if_neg (by simp),ha]
  rfl
theorem rO (s:List UInt8) (p:Int) (h:s.length≤40):iK ⟨4,s,0,p⟩:=by
 have hw:wr ⟨4,s,0,p⟩=39::(jh s++[39]):=by
  unfold wr
  rw[if_neg (show ¬(4:Int)=3 by decide),if_pos rfl]
  rfl
 refine ⟨by show (4:Int)≠6;decide,h,Int.le_refl _,by show (0:Int)≤_;decide,by rw[hw];simp,fun x hx=>?_,fun x hx=>?_⟩
 ·rw[hw,List.cons_append,skip,if_neg (by decide),if_neg (fun e=>absurd e.1 (by decide))]
 ·rw[hw,show (39::(jh s++[39]):List UInt8)++x=39::(jh s++39::x) by simp]
  unfold jC
  dsimp only
  rw[if_neg (by decide),if_neg (by decide),if_neg (by decide),if_pos (by decide),iU,List.drop_succ_cons,List.drop_zero,zD x (ku hx.stop).2.2 s,wO]
  dsimp only
  rw[if_neg (by omega),if_neg (by simp)]
  simp only[List.length_cons,List.length_append,List.length_nil,Tk.z]
  congr 2
  omega
theorem vN : ∀g∈Dl,g.length≤40:=by decide
theorem AB {s x:List UInt8} {n:Nat} (h:skip false s=0) (h1:1≤n) (h2:n≤s.length) (hx:x.head?≠some 45):skip false (s.take n++x)=0:=by
 match s,n,h with
 |
  c::r,n+1,h =>
  rw[skip] at h
  rw[List.take_succ_cons,List.cons_append,skip]
  split at h
  ·omega
  ·rename_i hb
   split at h
   ·omega
   ·rename_i hr
    rw[if_neg hb,if_neg]
    rintro⟨rfl,g2⟩
    cases n with
    | zero=>exact hx g2
    |
     succ n =>
     cases r with
     | nil=>exact hx g2
     | cons d r=>exact hr ⟨rfl,g2⟩
 | c::r,0,_=>omega
 | [],n,_=>simp at h2;omega
theorem qU {s:List UInt8} {t:Tk} {n:Nat} (hs:skip false s=0) (hc:jC s=(0,t,n)) (hk:t.k=1∨t.k=2∨t.k=5) (hb:t.s=s.take n) (hl:t.s.length≤40) (hn:t.n=0) (p:Int):iK ⟨t.k,t.s,t.n,p⟩:=by
 obtain⟨h1,h2,hp,hloc⟩:=Bj hc
 have hw:wr ⟨t.k,t.s,t.n,p⟩=s.take n:=by
  unfold wr
  rcases hk with e | e | e<;>simp[e,hb]
 have hl2:(s.take n).length=n:=by rw[List.length_take];omega
 have hz:(⟨t.k,t.s,t.n,p⟩:Tk).z=t:=by
  obtain⟨a,b,c,d⟩:=t
  simp only at hp
  subst hp
  rfl
 refine ⟨by show t.k≠6;omega,hl,by show 0≤t.n;omega,by show t.n≤_;omega,by rw[hw,hl2];exact h1,fun x hx=>?_,fun x hx=>?_⟩
 ·rw[hw];exact AB hs h1 h2 hx.head
 ·rw[hw,hl2,hz];exact hloc x hx.stop
theorem xw {s:List UInt8} {t:Tk} {n:Nat} (hs:skip false s=0) (h:jC s=(0,t,n)) (p:Int):iK ⟨t.k,t.s,t.n,p⟩:=by
 have h0:=h
 match s,hs,h with
 | [],hs,h=>simp[jC] at h
 |
  c::r,hs,h =>
  unfold jC at h
  dsimp only at h
  by_cases hl:bT dX c=true
  ·rw[if_pos hl] at h
   unfold iY at h
   have h2:=nA (bT dD) (c::r)
   split at h
   ·cases h
   ·split at h
    ·cases h
    ·rename_i g1 g2
     cases h
     exact qU hs h0 (.inl rfl) rfl (by rw[List.length_take];omega) rfl p
  ·rw[if_neg hl] at h
   by_cases hu:bT nD c=true
   ·rw[if_pos hu] at h
    unfold jV at h
    split at h
    ·cases h
    ·split at h
     ·cases h
     ·rename_i g1 g2
      cases h
      exact qU hs h0 (.inr (.inl rfl)) rfl (vN _ (by simpa using g2)) rfl p
   ·rw[if_neg hu] at h
    by_cases hd:bT dH c=true
    ·rw[if_pos hd] at h
     unfold jY at h
     split at h
     ·cases h
     ·have hhead:(c::r).take (row (bT dH) (c::r))=c::r.take (row (bT dH) r):=by rw[dO hd,List.take_succ_cons]
      rw[hhead] at h
      have hc2 : ¬c.toNat=45:=by
       simp only[bT,dH,List.contains_iff_mem,List.mem_cons,List.not_mem_nil,or_false] at hd
       rcases hd with rfl | rfl | rfl | rfl | rfl | rfl | rfl | rfl | rfl | rfl<;>decide
      cases ha:Lib.atoiAll (c::r.take (row (bT dH) r)) with
      |
       ok v =>
       rw[ha] at h
       cases h
       unfold Lib.atoiAll at ha
       dsimp only at ha
       split at ha
       ·cases ha
       ·cases ha
       ·rename_i u _
        split at ha
        ·cases ha
        ·rename_i g
         rw[if_neg (fun e=>hc2 e.1)] at ha
         try rw[if_neg hc2] at ha
         injection ha with ha
         subst ha
         exact mF (u:Int) p (by omega) (by have : ¬9223372036854775808≤u:=fun e=>g ⟨hc2,e⟩;omega)
      | «syntax»=>rw[ha] at h;cases h
      | range=>rw[ha] at h;cases h
    ·rw[if_neg hd] at h
     by_cases hq:bT [39] c=true
     ·rw[if_pos hq] at h
      unfold iU wO at h
      split at h
      ·cases h
      ·rename_i g1
       split at h
       ·cases h
       ·cases h
        exact rO _ p (Nat.le_of_not_lt g1)
     ·rw[if_neg hq,sign_eq] at h
      have hu2:=o9 h
      have hb:=vo h
      exact qU hs h0 (.inr (.inr hu2.2.1)) hb (by rw[hb,List.length_take];omega) hu2.2.2.1 p
end Go.Proofs.YtfeglkleoijlaaaGreatDoor
namespace Go.Proofs.YtfeglkleoijlaaaGreatDoor
open Go.RowKit Go.Shelf
set_option linter.unusedSimpArgs false
set_option linter.unusedVariables false
set_option maxRecDepth 20000
set_option maxHeartbeats 8000000
def tc (x:Tk):List Value:=[.int .i64 x.k,.string (aj x.s),.int .i64 x.n,.int .i64 x.p]
def lX (B:Nat) (w:World) (v:Value) (xs:List Tk):Prop :=
 ∃
  a c,v = .slice a xs.length c∧xs.length≤c∧c≤maxLen ∧
  (xs≠[]→∃b off,a=some ⟨b,off,none⟩∧b<B∧∀j x,xs[j]?=some x→w.cell? ⟨b,off+j*4,none⟩=some (.int .i64 x.k)∧w.cell? ⟨b,off+j*4+1,none⟩=some (.string (aj x.s))∧w.cell? ⟨b,off+j*4+2,none⟩=some (.int .i64 x.n)∧w.cell? ⟨b,off+j*4+3,none⟩=some (.int .i64 x.p))
theorem lX.below {B:Nat} {w w':World} {v:Value} {xs:List Tk} (h:lX B w v xs) (hb:Below B w w'):lX B w' v xs:=by
 obtain⟨a,c,hv,h1,h2,h3⟩:=h
 refine ⟨a,c,hv,h1,h2,fun hne=>?_⟩
 obtain⟨b,off,ha,hlt,hc⟩:=h3 hne
 refine ⟨b,off,ha,hlt,fun j x hx=>?_⟩
 obtain⟨c0,c1,c2,c3⟩:=hc j x hx
 exact⟨(hb.cell (p:=⟨b,off+j*4,none⟩) hlt).trans c0,(hb.cell (p:=⟨b,off+j*4+1,none⟩) hlt).trans c1,(hb.cell (p:=⟨b,off+j*4+2,none⟩) hlt).trans c2,(hb.cell (p:=⟨b,off+j*4+3,none⟩) hlt).trans c3⟩
theorem lX.mono {B B':Nat} {w:World} {v:Value} {xs:List Tk} (h:lX B w v xs) (hB:B≤B'):lX B' w v xs:=by
 obtain⟨a,c,hv,h1,h2,h3⟩:=h
 refine ⟨a,c,hv,h1,h2,fun hne=>?_⟩
 obtain⟨b,off,ha,hlt,hc⟩:=h3 hne
 exact⟨b,off,ha,by omega,hc⟩
theorem lX.on {w w':World} {v:Value} {xs:List Tk} (h:lX w.heap.size w v xs) (hb:Below w.heap.size w w'):lX w'.heap.size w' v xs:=(h.below hb).mono hb.size
theorem nZ {w w':World} (h:Below w.heap.size w w'):w.grownBy w' none:=⟨h.os,h.tape,h.output,h.size,fun k hk _=>h.block k hk⟩
theorem vJ {w w':World} {B e z n:Nat} {v:Value} {xs:List Value} (h:w.ownsRow B e z v n xs) (hb:Below w.heap.size w w'):w'.ownsRow B e z v n xs :=
 h.kept (nZ hb) (by cases v.ownBlock<;>simp)
def tcs (xs:List Tk):List Value:=xs.flatMap tc
theorem yN (xs:List Tk):(tcs xs).length=xs.length*4:=by
 induction xs with
 | nil=>rfl
 | cons x xs ih=>rw[show tcs (x::xs)=tc x++tcs xs from rfl,List.length_append,ih];simp[tc];omega
theorem CW : ∀(xs:List Tk) (j:Nat) (x:Tk),xs[j]?=some x→(tcs xs)[j*4]?=some (.int .i64 x.k)∧(tcs xs)[j*4+1]?=some (.string (aj x.s))∧(tcs xs)[j*4+2]?=some (.int .i64 x.n)∧(tcs xs)[j*4+3]?=some (.int .i64 x.p)
 |
  y::xs,0,x,h=>by
  simp only[List.getElem?_cons_zero,Option.some.injEq] at h
  subst h
  exact⟨rfl,rfl,rfl,rfl⟩
 |
  y::xs,j+1,x,h=>by
  have ih:=CW xs j x (by simpa using h)
  rw[show tcs (y::xs)=tc y++tcs xs from rfl]
  have e : ∀i,(tc y++tcs xs)[(j+1)*4+i]?=(tcs xs)[j*4+i]?:=fun i=>by
   rw[List.getElem?_append_right (by simp[tc];omega)]
   congr 1
   simp[tc]
   omega
  exact⟨(e 0).trans ih.1,(e 1).trans ih.2.1,(e 2).trans ih.2.2.1,(e 3).trans ih.2.2.2⟩
theorem uK {w:World} {B n:Nat} {v:Value} {xs:List Tk} (h:w.ownsRow B 180 4 v n (tcs xs)):n=xs.length∧lX w.heap.size w v xs:=by
 have hl:n=xs.length:=by have:=h.1;rw[yN] at this;omega
 subst hl
 refine ⟨rfl,?_⟩
 have hc:=h
 rcases h.2 with⟨rfl,hn⟩ | ⟨g,cap,cur,rfl,hb,hg,hnc,hcm,hcs,ht⟩
 ·exact⟨none,0,by rw[hn],by omega,by unfold maxLen;omega,fun hne=>absurd (List.eq_nil_of_length_eq_zero hn) hne⟩
 ·refine ⟨_,cap,rfl,hnc,hcm,fun _=>⟨g,0,rfl,(Array.getElem?_eq_some_iff.1 hg).1,fun j x hx=>?_⟩⟩
  have k:=hc.cells (g:=g) rfl
  have at' : ∀i u,(tcs xs)[i]?=some u→w.cell? ⟨g,i,none⟩=some u:=fun i u hi=>by
   have:=k i u hi
   rwa [Addr.add_lit,Nat.zero_add] at this
  obtain⟨c0,c1,c2,c3⟩:=CW xs j x hx
  rw[Nat.zero_add]
  exact⟨at' _ _ c0,at' _ _ c1,at' _ _ c2,at' _ _ c3⟩
theorem Tryz.EI:(Tryz.prog.info? 180).map (fun i=>(i.zero,i.size,i.bytes))=some (some (.agg #[.int .i64 0,.string ⟨#[]⟩,.int .i64 0,.int .i64 0]),4,40):=by kernel_rfl
theorem xX {w:World} {g:Nat} {a b:Value} {t:TypeId} (h:w.heap[g]?=some (.cells #[a,b] t)) :
  w.cell? ⟨g,0,none⟩=some a∧w.cell? ⟨g,1,none⟩=some b∧∀i,w.frozen? ⟨g,i,none⟩=false :=
 ⟨by rw[aD _ _ _ _ _ _ h];rfl,by rw[aD _ _ _ _ _ _ h];rfl,fun i=>by simp[World.frozen?,h]⟩
end Go.Proofs.YtfeglkleoijlaaaGreatDoor
namespace Go.Proofs.YtfeglkleoijlaaaGreatDoor
open Go.RowKit
set_option linter.unusedVariables false
set_option maxRecDepth 20000
set_option maxHeartbeats 8000000
structure aA (S:Nat→Prop) (w w':World):Prop where
 os:w'.os=w.os
 tape:w'.tape=w.tape
 output:w'.output=w.output
 size:w.heap.size≤w'.heap.size
 block : ∀k,k<w.heap.size→¬S k→w'.heap[k]?=w.heap[k]?
theorem aA.refl (S:Nat→Prop) (w:World):aA S w w:=⟨rfl,rfl,rfl,Nat.le_refl _,fun _ _ _=>rfl⟩
theorem aA.andThen {S T:Nat→Prop} {a b c:World} (h:aA S a b) (k:aA T b c) (hT : ∀i,T i→S i∨a.heap.size≤i):aA S a c :=
 ⟨k.os.trans h.os,k.tape.trans h.tape,k.output.trans h.output,Nat.le_trans h.size k.size,fun i hi hS =>
  (k.block i (Nat.lt_of_lt_of_le hi h.size) (fun ht=>by rcases hT i ht with h1 | h1;exact hS h1;omega)).trans (h.block i hi hS)⟩
theorem aA.mono {S T:Nat→Prop} {a b:World} (h:aA S a b) (hT : ∀i,S i→T i):aA T a b :=
 ⟨h.os,h.tape,h.output,h.size,fun i hi hS=>h.block i hi fun hs=>hS (hT i hs)⟩
theorem aA.dZ {S:Nat→Prop} {w w':World} {row:Option Nat} (hg:w.grownBy w' row) (hr : ∀k,row=some k→S k):aA S w w' :=
 ⟨hg.os,hg.tape,hg.output,hg.size,fun k hk hS=>hg.block k hk fun e=>hS (hr k e.symm)⟩
theorem aA.of_below {S:Nat→Prop} {w w':World} {B:Nat} (h:Below B w w') (hB : ∀k,B≤k→k<w.heap.size→S k):aA S w w' :=
 ⟨h.os,h.tape,h.output,h.size,fun k hk hS=>h.block k (Nat.lt_of_not_le fun hb=>hS (hB k hb hk))⟩
theorem aA.aC {S:Nat→Prop} {w w':World} (h:Below w.heap.size w w'):aA S w w':=aA.of_below h (fun k h1 h2=>by omega)
theorem aA.below {S:Nat→Prop} {w w':World} {B:Nat} (h:aA S w w') (hS : ∀i,S i→B≤i) (hB:B≤w.heap.size):Below B w w' :=
 ⟨h.os,h.tape,h.output,h.size,fun k hk=>h.block k (by omega) fun hs=>by have:=hS k hs;omega⟩
theorem aA.cell {S:Nat→Prop} {w w':World} (h:aA S w w') {p:Addr} {v:Value} (hc:w.cell? p=some v) (hS : ¬S p.block):w'.cell? p=some v:=by
 rw[World.cell?_of_block (w:=w) (h.block p.block (World.block_lt_of_cell? w p hc) hS)]
 exact hc
theorem aA.row {S:Nat→Prop} {w w':World} (h:aA S w w') {B e s n:Nat} {v:Value} {xs:List Value} (ho:w.ownsRow B e s v n xs) (hS : ∀g,v.ownBlock=some g→¬S g):w'.ownsRow B e s v n xs:=by
 refine ⟨ho.1,?_⟩
 rcases ho.2 with h0 | ⟨g,cap,cur,rfl,hB,hg,r⟩
 ·exact .inl h0
 ·exact .inr ⟨g,cap,cur,rfl,hB,by rw[h.block g (Array.getElem?_eq_some_iff.1 hg).1 (hS g rfl)];exact hg,r⟩
theorem dP {w:World} {B B' e s n:Nat} {v:Value} {xs:List Value} (ho:w.ownsRow B e s v n xs) (hB : ∀g,v.ownBlock=some g→B'≤g):w.ownsRow B' e s v n xs:=by
 refine ⟨ho.1,?_⟩
 rcases ho.2 with h0 | ⟨g,cap,cur,rfl,_,r⟩
 ·exact .inl h0
 ·exact .inr ⟨g,cap,cur,rfl,hB g rfl,r⟩
theorem Shows.keeps {S:Nat→Prop} {B:Nat} {w w':World} {v:Value} {bs:List UInt8} (h:Shows B w v bs) (hk:aA S w w') (hS : ∀i,i<B→¬S i):Shows B w' v bs:=by
 obtain⟨a,c,hv,h1,h2,hn,h3⟩:=h
 refine ⟨a,c,hv,h1,h2,hn,fun hne=>?_⟩
 obtain⟨b,off,ha,hlt,hc⟩:=h3 hne
 exact⟨b,off,ha,hlt,fun j hj=>hk.cell (hc j hj) (hS b hlt)⟩
theorem Shows.len {B:Nat} {w:World} {v:Value} {bs:List UInt8} (h:Shows B w v bs):bs.length≤maxLen:=by
 obtain⟨a,c,hv,h1,h2,_⟩:=h
 omega
end Go.Proofs.YtfeglkleoijlaaaGreatDoor
namespace Go.Proofs.YtfeglkleoijlaaaGreatDoor
set_option linter.unusedSimpArgs false
set_option linter.unusedVariables false
set_option maxHeartbeats 8000000
structure Rd where
 ts:List Tk
 d:Int
 bad:Int
 bp:Int
abbrev Pa (α:Type):=Rd→α × Rd
def iq {α:Type} (a:α):Pa α:=fun r=>(a,r)
def fK {α β:Type} (p:Pa α) (q:α→Pa β):Pa β:=fun r=>q (p r).1 (p r).2
def p8 (r:Rd):Tk:=if r.bad=0 then r.ts.headD rQ else rQ
def Jy (t:List UInt8) (r:Rd):Bool:=((p8 r).k==2||(p8 r).k==5)&&(p8 r).s==t
def nextR (r:Rd):Rd:={ r with ts:=r.ts.tail }
def zR (e:Int) (r:Rd):Rd:=if r.bad=0 then { r with bad:=e,bp:=(p8 r).p } else r
def Fw (r:Rd):Tk:=r.ts.tail.headD rQ
def ET {α:Type} (t:List UInt8) (yes no:Pa α):Pa α:=fun r=>if Jy t r=true then yes (nextR r) else no r
def I8 (t:List UInt8):Pa Bool:=ET t (iq true) (iq false)
def I5 (e:Int):Pa Unit:=fun r=>((),zR e r)
def Ga (t:List UInt8):Pa Unit:=ET t (iq ()) (I5 4)
def Fh:Pa Bool:=fun r=>((p8 r).k==1,r)
def nameP:Pa (List UInt8):=fun r=>if (p8 r).k=1 then ((p8 r).s,nextR r) else ([],zR 4 r)
def IE:Pa Int:=fun r=>if (p8 r).k=3 then ((p8 r).n,nextR r) else (0,zR 4 r)
def II:Pa (Option (List UInt8)):=fun r=>if (p8 r).k=4 then (some (p8 r).s,nextR r) else (none,r)
def G7 {α:Type} (yes no:Pa α):Pa α:=fun r=>if Jy [45] r=true∧(Fw r).k≠3 then yes (nextR r) else no r
def tN:List (List UInt8 × Int)→Pa Int
 | []=>iq 0
 | c::l=>ET c.1 (iq c.2) (tN l)
def Gg (r:Rd):Rd:=if 10<r.d+1 then zR 10 { r with d:=r.d+1 } else { r with d:=r.d+1 }
def JK (r:Rd):Rd:={ r with d:=r.d-1 }
def Ee {α:Type} (p:Pa α):Pa α:=fun r=>((p (Gg r)).1,JK (p (Gg r)).2)
structure Good (F:Nat) (r:Rd):Prop where
 last:r.bad=0→∃L e,r.ts=L++[e]∧e.k=6∧∀x∈L,x.k≠6
 d0:0≤r.d
 d1:r.d≤11
 d2:r.bad=0→r.d≤10
 nums : ∀x∈r.ts,0≤x.n∧x.n≤9223372036854775807
 many:r.ts.length≤F
def Il (r r':Rd):Prop:=r.ts.map Tk.z=r'.ts.map Tk.z∧r.d=r'.d∧r.bad=r'.bad
def Im (dl:Nat) (T:List Tk) (r r':Rd):Prop :=
 ∃L e L' , r.ts=L++[e]∧e.k=6∧(∀x∈L,x.k≠6)∧r'.ts=L'++T∧L.map Tk.z=L'.map Tk.z∧r'.d=r.d+dl∧r.bad=0∧r'.bad=0
def Tail (T:List Tk):Prop:=∃h l,T=h::l∧h.k=5∧(h.s=[59]∨h.s=[41])
structure uf (b:Bool) (F:Nat) (G:Rd→Prop) {α:Type} (p:Pa α):Prop where
 mono : ∀r,r.bad≠0→(p r).2.bad=r.bad∧(p r).2.bp=r.bp
 fine : ∀r,G r→Good F r→Good F (p r).2∧(p r).2.d=r.d∧(p r).2.ts.length≤r.ts.length
 simA : ∀r r',Il r r'→(p r).1=(p r').1∧Il (p r).2 (p r').2
 simB:b=true→∀dl T r r',Tail T→Im dl T r r'→(p r).2.bad=0→((p r').2.bad=10∧0<dl)∨((p r).1=(p r').1∧Im dl T (p r).2 (p r').2)
abbrev FV (b:Bool) (F:Nat) {α:Type} (p:Pa α):Prop:=uf b F (fun _=>True) p
abbrev GQ (b:Bool) (F:Nat) {α:Type} (p:Pa α):Prop:=uf b F (fun r=>r.bad=0) p
theorem uf.ok {b:Bool} {F:Nat} {α:Type} {p:Pa α} (h:FV b F p):GQ b F p:=⟨h.mono,fun r _=>h.fine r trivial,h.simA,h.simB⟩
end Go.Proofs.YtfeglkleoijlaaaGreatDoor
