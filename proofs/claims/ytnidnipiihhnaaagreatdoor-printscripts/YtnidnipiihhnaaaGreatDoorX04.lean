/- Packed for the hand-in: LLaw LTok Keep PPure PGram -/
import Derived.Test.YtnidnipiihhnaaaGreatDoorX03
import Derived.Lib.Join
import Derived.Laws.OwnMore
import Derived.Test.YtnidnipiihhnaaaGreatDoorX01
namespace Go.Proofs.YtnidnipiihhnaaaGreatDoor
set_option linter.unusedSimpArgs false
set_option linter.unusedVariables false
set_option maxHeartbeats 8000000
def wr (t:Tk):List UInt8:=if t.k=3 then Lib.itoa t.n else if t.k=4 then [39]++(dbl t.s++[39]) else t.s
theorem dig_in (u:Nat) (h:u<10):inS digsB (UInt8.ofNat (48+u))=true∧(UInt8.ofNat (48+u)).toNat=48+u:=by
 refine ⟨?_,by simp;omega⟩
 match u,h with
 | 0,_=>decide
 | 1,_=>decide
 | 2,_=>decide
 | 3,_=>decide
 | 4,_=>decide
 | 5,_=>decide
 | 6,_=>decide
 | 7,_=>decide
 | 8,_=>decide
 | 9,_=>decide
theorem parse_snoc (d:UInt8) (hd:48≤d.toNat∧d.toNat≤57):∀(l:List UInt8) (acc u:Nat),Lib.parseUint10 acc l = .ok u→u<1844674407370955162→u*10+(d.toNat-48)<18446744073709551616→Lib.parseUint10 acc (l++[d]) = .ok (u*10+(d.toNat-48))
 |
  [],acc,u,h,h1,h2=>by
  simp only[Lib.parseUint10] at h
  injection h with h
  subst h
  simp only[List.nil_append,Lib.parseUint10]
  rw[if_pos hd,if_neg (by omega),if_neg (by omega)]
 |
  c::r,acc,u,h,h1,h2=>by
  simp only[Lib.parseUint10] at h
  simp only[List.cons_append,Lib.parseUint10]
  split at h
  ·rename_i hc
   rw[if_pos hc]
   split at h
   ·cases h
   ·rename_i g1
    rw[if_neg g1]
    split at h
    ·cases h
    ·rename_i g2
     rw[if_neg g2]
     exact parse_snoc d hd r _ u h h1 h2
  ·cases h
theorem digits_facts (u:Nat) (h:u<9223372036854775808):(∀c∈Lib.decDigits u,inS digsB c=true)∧Lib.parseUint10 0 (Lib.decDigits u) = .ok u∧Lib.decDigits u≠[]∧(Lib.decDigits u).length≤19∧(∀k,u<10 ^ (k+1)→(Lib.decDigits u).length≤k+1):=by
 suffices hmain:(∀c∈Lib.decDigits u,inS digsB c=true)∧Lib.parseUint10 0 (Lib.decDigits u) = .ok u∧Lib.decDigits u≠[]∧(∀k,u<10 ^ (k+1)→(Lib.decDigits u).length≤k+1) from
  ⟨hmain.1,hmain.2.1,hmain.2.2.1,hmain.2.2.2 18 (by omega),hmain.2.2.2⟩
 induction u using Nat.strongRecOn with
 |
  _ u ih =>
  by_cases h10:u<10
  ·have e:Lib.decDigits u=[UInt8.ofNat (48+u)]:=by rw[Lib.decDigits,dif_pos h10]
   obtain⟨d1,d2⟩:=dig_in u h10
   rw[e]
   refine ⟨by simpa using d1,?_,by simp,by simp⟩
   simp only[Lib.parseUint10]
   rw[d2,if_pos (by omega),if_neg (by omega),if_neg (by omega)]
   congr 1
   omega
  ·have e:Lib.decDigits u=Lib.decDigits (u / 10)++[UInt8.ofNat (48+u % 10)]:=by rw[Lib.decDigits,dif_neg h10]
   obtain⟨i1,i2,i3,i4⟩:=ih (u / 10) (by omega) (by omega)
   obtain⟨d1,d2⟩:=dig_in (u % 10) (by omega)
   rw[e]
   refine ⟨fun c hc=>?_,?_,by simp,fun k hk=>?_⟩
   ·rcases List.mem_append.1 hc with hc | hc
    ·exact i1 c hc
    ·rw[List.mem_singleton] at hc;rw[hc];exact d1
   ·rw[parse_snoc _ (by rw[d2];omega) _ _ _ i2 (by omega) (by rw[d2];omega),d2]
    congr 1
    omega
   ·rw[List.length_append,List.length_cons,List.length_nil]
    match k with
    | 0=>omega
    |
     k+1 =>
     have:=i4 k (by rw[Nat.pow_succ] at hk;omega)
     omega
theorem atoi_digits (u:Nat) (h:u<9223372036854775808):Lib.atoiAll (Lib.decDigits u) = .ok (u:Int):=by
 obtain⟨h1,h2,h3,_,_⟩:=digits_facts u h
 match hd:Lib.decDigits u,h3 with
 |
  c::r,_ =>
  rw[hd] at h1 h2
  have hc:=h1 c (by simp)
  have hc2 : ¬(c.toNat=43∨c.toNat=45)∧¬c.toNat=45:=by
   simp only[inS,digsB,List.contains_iff_mem,List.mem_cons,List.not_mem_nil,or_false] at hc
   rcases hc with rfl | rfl | rfl | rfl | rfl | rfl | rfl | rfl | rfl | rfl<;>decide
  unfold Lib.atoiAll
  dsimp only
  rw[if_neg hc2.1,Lib.parseMag,if_neg (by simp),h2]
  dsimp only
  rw[if_neg (by omega),if_neg (fun e=>hc2.2 e.1),if_neg hc2.2]
theorem txt_dbl (x:List UInt8) (hx:x.head?≠some 39):∀s:List UInt8,txt (dbl s++39::x)=(s,x,true)
 |
  []=>by
  match x,hx with
  | [],_=>simp[dbl,txt]
  | d::x,hx=>simp at hx;simp[dbl,txt,hx]
 |
  c::s=>by
  have ih:=txt_dbl x hx s
  by_cases hc:c=39
  ·subst hc
   have e:dbl (39::s)=39::39::dbl s:=by simp[dbl]
   rw[e]
   simp[txt,ih]
  ·have e:dbl (c::s)=c::dbl s:=by simp[dbl,hc]
   rw[e]
   match hd:dbl s++39::x with
   | []=>simp at hd
   |
    d::y =>
    rw[List.cons_append,hd]
    rw[hd] at ih
    simp[txt,hc,ih]
def Gap (x:List UInt8):Prop:=x=[]∨∃r,x=32::r
theorem Gap.stop {x:List UInt8} (h:Gap x):Stop x:=by
 rcases h with rfl | ⟨r,rfl⟩
 ·exact .inl rfl
 ·exact .inr ⟨32,r,rfl,by simp⟩
theorem Gap.head {x:List UInt8} (h:Gap x):x.head?≠some 45:=by
 rcases h with rfl | ⟨r,rfl⟩<;>simp
structure GoodT (t:Tk):Prop where
 k6:t.k≠6
 len:t.s.length≤40
 n0:0≤t.n
 n1:t.n≤9223372036854775807
 wl:1≤(wr t).length
 sk : ∀x,Gap x→skip false (wr t++x)=0
 ct : ∀x,Gap x→cutT (wr t++x)=(0,t.z,(wr t).length)
theorem good_num (v p:Int) (h0:0≤v) (h1:v≤9223372036854775807):GoodT ⟨3,[],v,p⟩:=by
 obtain⟨u,rfl⟩:∃u:Nat,v=u:=⟨v.toNat,by omega⟩
 obtain⟨d1,d2,d3,_,_⟩:=digits_facts u (by omega)
 have ha:=atoi_digits u (by omega)
 have hw:wr ⟨3,[],(u:Int),p⟩=Lib.decDigits u:=by
  unfold wr
  rw[if_pos rfl]
  unfold Lib.itoa
  rw[if_neg (by simp)]
  simp
 obtain⟨c,r,hcr⟩:∃c r,Lib.decDigits u=c::r:=by
  match h:Lib.decDigits u,d3 with
  | c::r,_=>exact⟨c,r,rfl⟩
 have hc:=d1 c (by rw[hcr];simp)
 have hcs:inS blksB c=false∧¬c=45∧¬inS lowsB c=true∧¬inS upsB c=true:=by
  simp only[inS,digsB,List.contains_iff_mem,List.mem_cons,List.not_mem_nil,or_false] at hc
  rcases hc with rfl | rfl | rfl | rfl | rfl | rfl | rfl | rfl | rfl | rfl<;>decide
 refine ⟨by show (3:Int)≠6;decide,Nat.zero_le _,h0,h1,by rw[hw,hcr];simp,fun x hx=>?_,fun x hx=>?_⟩
 ·rw[hw,hcr,List.cons_append,skip,if_neg (by rw[hcs.1];simp),if_neg (fun e=>hcs.2.1 e.1)]
 ·rw[hw]
  have hrow:=row_append d1 (stop_row hx.stop).2.2.1
  have hh:Lib.decDigits u++x=c::(r++x):=by rw[hcr];rfl
  rw[head_ne_of_append hh,if_neg hcs.2.2.1,if_neg hcs.2.2.2,if_pos hc,cutNumT,hrow,List.drop_left,List.take_left,stop_runs hx.stop,if_neg (by simp),ha]
  rfl
theorem good_text (s:List UInt8) (p:Int) (h:s.length≤40):GoodT ⟨4,s,0,p⟩:=by
 have hw:wr ⟨4,s,0,p⟩=39::(dbl s++[39]):=by
  unfold wr
  rw[if_neg (show ¬(4:Int)=3 by decide),if_pos rfl]
  rfl
 refine ⟨by show (4:Int)≠6;decide,h,Int.le_refl _,by show (0:Int)≤_;decide,by rw[hw];simp,fun x hx=>?_,fun x hx=>?_⟩
 ·rw[hw,List.cons_append,skip,if_neg (by decide),if_neg (fun e=>absurd e.1 (by decide))]
 ·rw[hw,show (39::(dbl s++[39]):List UInt8)++x=39::(dbl s++39::x) by simp]
  unfold cutT
  dsimp only
  rw[if_neg (by decide),if_neg (by decide),if_neg (by decide),if_pos (by decide),cutTextT,List.drop_succ_cons,List.drop_zero,txt_dbl x (stop_head hx.stop).2.2 s,textT]
  dsimp only
  rw[if_neg (by omega),if_neg (by simp)]
  simp only[List.length_cons,List.length_append,List.length_nil,Tk.z]
  congr 2
  omega
theorem words_short : ∀g∈wordsB,g.length≤40:=by decide
theorem skip_glue {s x:List UInt8} {n:Nat} (h:skip false s=0) (h1:1≤n) (h2:n≤s.length) (hx:x.head?≠some 45):skip false (s.take n++x)=0:=by
 match s,n,h with
 |
  c::r,n+1,h =>
  rw[skip] at h
  rw[List.take_succ_cons,List.cons_append,skip]
  split at h
  ·omega
  ·rename_i hb
   split at h
   ·omega
   ·rename_i hr
    rw[if_neg hb,if_neg]
    rintro⟨rfl,g2⟩
    cases n with
    | zero=>exact hx g2
    |
     succ n =>
     cases r with
     | nil=>exact hx g2
     | cons d r=>exact hr ⟨rfl,g2⟩
 | c::r,0,_=>omega
 | [],n,_=>simp at h2;omega
theorem good_own {s:List UInt8} {t:Tk} {n:Nat} (hs:skip false s=0) (hc:cutT s=(0,t,n)) (hk:t.k=1∨t.k=2∨t.k=5) (hb:t.s=s.take n) (hl:t.s.length≤40) (hn:t.n=0) (p:Int):GoodT ⟨t.k,t.s,t.n,p⟩:=by
 obtain⟨h1,h2,hp,hloc⟩:=cut_local hc
 have hw:wr ⟨t.k,t.s,t.n,p⟩=s.take n:=by
  unfold wr
  rcases hk with e | e | e<;>simp[e,hb]
 have hl2:(s.take n).length=n:=by rw[List.length_take];omega
 have hz:(⟨t.k,t.s,t.n,p⟩:Tk).z=t:=by
  obtain⟨a,b,c,d⟩:=t
  simp only at hp
  subst hp
  rfl
 refine ⟨by show t.k≠6;omega,hl,by show 0≤t.n;omega,by show t.n≤_;omega,by rw[hw,hl2];exact h1,fun x hx=>?_,fun x hx=>?_⟩
 ·rw[hw];exact skip_glue hs h1 h2 hx.head
 ·rw[hw,hl2,hz];exact hloc x hx.stop
theorem good_cut {s:List UInt8} {t:Tk} {n:Nat} (hs:skip false s=0) (h:cutT s=(0,t,n)) (p:Int):GoodT ⟨t.k,t.s,t.n,p⟩:=by
 have h0:=h
 match s,hs,h with
 | [],hs,h=>simp[cutT] at h
 |
  c::r,hs,h =>
  unfold cutT at h
  dsimp only at h
  by_cases hl:inS lowsB c=true
  ·rw[if_pos hl] at h
   unfold cutNameT at h
   have h2:=row_le (inS nameB) (c::r)
   split at h
   ·cases h
   ·split at h
    ·cases h
    ·rename_i g1 g2
     cases h
     exact good_own hs h0 (.inl rfl) rfl (by rw[List.length_take];omega) rfl p
  ·rw[if_neg hl] at h
   by_cases hu:inS upsB c=true
   ·rw[if_pos hu] at h
    unfold cutWordT at h
    split at h
    ·cases h
    ·split at h
     ·cases h
     ·rename_i g1 g2
      cases h
      exact good_own hs h0 (.inr (.inl rfl)) rfl (words_short _ (by simpa using g2)) rfl p
   ·rw[if_neg hu] at h
    by_cases hd:inS digsB c=true
    ·rw[if_pos hd] at h
     unfold cutNumT at h
     split at h
     ·cases h
     ·have hhead:(c::r).take (row (inS digsB) (c::r))=c::r.take (row (inS digsB) r):=by rw[row_cons_pos hd,List.take_succ_cons]
      rw[hhead] at h
      have hc2 : ¬c.toNat=45:=by
       simp only[inS,digsB,List.contains_iff_mem,List.mem_cons,List.not_mem_nil,or_false] at hd
       rcases hd with rfl | rfl | rfl | rfl | rfl | rfl | rfl | rfl | rfl | rfl<;>decide
      cases ha:Lib.atoiAll (c::r.take (row (inS digsB) r)) with
      |
       ok v =>
       rw[ha] at h
       cases h
       unfold Lib.atoiAll at ha
       dsimp only at ha
       split at ha
       ·cases ha
       ·cases ha
       ·rename_i u _
        split at ha
        ·cases ha
        ·rename_i g
         rw[if_neg (fun e=>hc2 e.1)] at ha
         try rw[if_neg hc2] at ha
         injection ha with ha
         subst ha
         exact good_num (u:Int) p (by omega) (by have : ¬9223372036854775808≤u:=fun e=>g ⟨hc2,e⟩;omega)
      | «syntax»=>rw[ha] at h;cases h
      | range=>rw[ha] at h;cases h
    ·rw[if_neg hd] at h
     by_cases hq:inS [39] c=true
     ·rw[if_pos hq] at h
      unfold cutTextT textT at h
      split at h
      ·cases h
      ·rename_i g1
       split at h
       ·cases h
       ·cases h
        exact good_text _ p (Nat.le_of_not_lt g1)
     ·rw[if_neg hq,sign_eq] at h
      have hu2:=signH_used h
      have hb:=signH_bytes h
      exact good_own hs h0 (.inr (.inr hu2.2.1)) hb (by rw[hb,List.length_take];omega) hu2.2.2.1 p
end Go.Proofs.YtnidnipiihhnaaaGreatDoor
namespace Go.Proofs.YtnidnipiihhnaaaGreatDoor
open Go.RowKit Go.Shelf
set_option linter.unusedSimpArgs false
set_option linter.unusedVariables false
set_option maxRecDepth 20000
set_option maxHeartbeats 8000000
def tc (x:Tk):List Value:=[.int .i64 x.k,.string (str8 x.s),.int .i64 x.n,.int .i64 x.p]
def Toks (B:Nat) (w:World) (v:Value) (xs:List Tk):Prop :=
 ∃
  a c,v = .slice a xs.length c∧xs.length≤c∧c≤maxLen ∧
  (xs≠[]→∃b off,a=some ⟨b,off,none⟩∧b<B∧∀j x,xs[j]?=some x→w.cell? ⟨b,off+j*4,none⟩=some (.int .i64 x.k)∧w.cell? ⟨b,off+j*4+1,none⟩=some (.string (str8 x.s))∧w.cell? ⟨b,off+j*4+2,none⟩=some (.int .i64 x.n)∧w.cell? ⟨b,off+j*4+3,none⟩=some (.int .i64 x.p))
theorem Toks.below {B:Nat} {w w':World} {v:Value} {xs:List Tk} (h:Toks B w v xs) (hb:Below B w w'):Toks B w' v xs:=by
 obtain⟨a,c,hv,h1,h2,h3⟩:=h
 refine ⟨a,c,hv,h1,h2,fun hne=>?_⟩
 obtain⟨b,off,ha,hlt,hc⟩:=h3 hne
 refine ⟨b,off,ha,hlt,fun j x hx=>?_⟩
 obtain⟨c0,c1,c2,c3⟩:=hc j x hx
 exact⟨(hb.cell (p:=⟨b,off+j*4,none⟩) hlt).trans c0,(hb.cell (p:=⟨b,off+j*4+1,none⟩) hlt).trans c1,(hb.cell (p:=⟨b,off+j*4+2,none⟩) hlt).trans c2,(hb.cell (p:=⟨b,off+j*4+3,none⟩) hlt).trans c3⟩
theorem Toks.mono {B B':Nat} {w:World} {v:Value} {xs:List Tk} (h:Toks B w v xs) (hB:B≤B'):Toks B' w v xs:=by
 obtain⟨a,c,hv,h1,h2,h3⟩:=h
 refine ⟨a,c,hv,h1,h2,fun hne=>?_⟩
 obtain⟨b,off,ha,hlt,hc⟩:=h3 hne
 exact⟨b,off,ha,by omega,hc⟩
theorem Toks.on {w w':World} {v:Value} {xs:List Tk} (h:Toks w.heap.size w v xs) (hb:Below w.heap.size w w'):Toks w'.heap.size w' v xs:=(h.below hb).mono hb.size
theorem grown_of_belowL {w w':World} (h:Below w.heap.size w w'):w.grownBy w' none:=⟨h.os,h.tape,h.output,h.size,fun k hk _=>h.block k hk⟩
theorem owns_onL {w w':World} {B e z n:Nat} {v:Value} {xs:List Value} (h:w.ownsRow B e z v n xs) (hb:Below w.heap.size w w'):w'.ownsRow B e z v n xs :=
 h.kept (grown_of_belowL hb) (by cases v.ownBlock<;>simp)
def tcs (xs:List Tk):List Value:=xs.flatMap tc
theorem tcs_length (xs:List Tk):(tcs xs).length=xs.length*4:=by
 induction xs with
 | nil=>rfl
 | cons x xs ih=>rw[show tcs (x::xs)=tc x++tcs xs from rfl,List.length_append,ih];simp[tc];omega
theorem tcs_at : ∀(xs:List Tk) (j:Nat) (x:Tk),xs[j]?=some x→(tcs xs)[j*4]?=some (.int .i64 x.k)∧(tcs xs)[j*4+1]?=some (.string (str8 x.s))∧(tcs xs)[j*4+2]?=some (.int .i64 x.n)∧(tcs xs)[j*4+3]?=some (.int .i64 x.p)
 |
  y::xs,0,x,h=>by
  simp only[List.getElem?_cons_zero,Option.some.injEq] at h
  subst h
  exact⟨rfl,rfl,rfl,rfl⟩
 |
  y::xs,j+1,x,h=>by
  have ih:=tcs_at xs j x (by simpa using h)
  rw[show tcs (y::xs)=tc y++tcs xs from rfl]
  have e : ∀i,(tc y++tcs xs)[(j+1)*4+i]?=(tcs xs)[j*4+i]?:=fun i=>by
   rw[List.getElem?_append_right (by simp[tc];omega)]
   congr 1
   simp[tc]
   omega
  exact⟨(e 0).trans ih.1,(e 1).trans ih.2.1,(e 2).trans ih.2.2.1,(e 3).trans ih.2.2.2⟩
theorem toks_of_owns {w:World} {B n:Nat} {v:Value} {xs:List Tk} (h:w.ownsRow B 119 4 v n (tcs xs)):n=xs.length∧Toks w.heap.size w v xs:=by
 have hl:n=xs.length:=by have:=h.1;rw[tcs_length] at this;omega
 subst hl
 refine ⟨rfl,?_⟩
 have hc:=h
 rcases h.2 with⟨rfl,hn⟩ | ⟨g,cap,cur,rfl,hb,hg,hnc,hcm,hcs,ht⟩
 ·exact⟨none,0,by rw[hn],by omega,by unfold maxLen;omega,fun hne=>absurd (List.eq_nil_of_length_eq_zero hn) hne⟩
 ·refine ⟨_,cap,rfl,hnc,hcm,fun _=>⟨g,0,rfl,(Array.getElem?_eq_some_iff.1 hg).1,fun j x hx=>?_⟩⟩
  have k:=hc.cells (g:=g) rfl
  have at' : ∀i u,(tcs xs)[i]?=some u→w.cell? ⟨g,i,none⟩=some u:=fun i u hi=>by
   have:=k i u hi
   rwa [Addr.add_lit,Nat.zero_add] at this
  obtain⟨c0,c1,c2,c3⟩:=tcs_at xs j x hx
  rw[Nat.zero_add]
  exact⟨at' _ _ c0,at' _ _ c1,at' _ _ c2,at' _ _ c3⟩
theorem Tryz.infoTok:(Tryz.prog.info? 119).map (fun i=>(i.zero,i.size,i.bytes))=some (some (.agg #[.int .i64 0,.string ⟨#[]⟩,.int .i64 0,.int .i64 0]),4,40):=by kernel_rfl
theorem cells2 {w:World} {g:Nat} {a b:Value} {t:TypeId} (h:w.heap[g]?=some (.cells #[a,b] t)) :
  w.cell? ⟨g,0,none⟩=some a∧w.cell? ⟨g,1,none⟩=some b∧∀i,w.frozen? ⟨g,i,none⟩=false :=
 ⟨by rw[cell_row _ _ _ _ _ _ h];rfl,by rw[cell_row _ _ _ _ _ _ h];rfl,fun i=>by simp[World.frozen?,h]⟩
end Go.Proofs.YtnidnipiihhnaaaGreatDoor
namespace Go.Proofs.YtnidnipiihhnaaaGreatDoor
open Go.RowKit
set_option linter.unusedVariables false
set_option maxRecDepth 20000
set_option maxHeartbeats 8000000
structure Spares (S:Nat→Prop) (w w':World):Prop where
 os:w'.os=w.os
 tape:w'.tape=w.tape
 output:w'.output=w.output
 size:w.heap.size≤w'.heap.size
 block : ∀k,k<w.heap.size→¬S k→w'.heap[k]?=w.heap[k]?
theorem Spares.refl (S:Nat→Prop) (w:World):Spares S w w:=⟨rfl,rfl,rfl,Nat.le_refl _,fun _ _ _=>rfl⟩
theorem Spares.andThen {S T:Nat→Prop} {a b c:World} (h:Spares S a b) (k:Spares T b c) (hT : ∀i,T i→S i∨a.heap.size≤i):Spares S a c :=
 ⟨k.os.trans h.os,k.tape.trans h.tape,k.output.trans h.output,Nat.le_trans h.size k.size,fun i hi hS =>
  (k.block i (Nat.lt_of_lt_of_le hi h.size) (fun ht=>by rcases hT i ht with h1 | h1;exact hS h1;omega)).trans (h.block i hi hS)⟩
theorem Spares.mono {S T:Nat→Prop} {a b:World} (h:Spares S a b) (hT : ∀i,S i→T i):Spares T a b :=
 ⟨h.os,h.tape,h.output,h.size,fun i hi hS=>h.block i hi fun hs=>hS (hT i hs)⟩
theorem Spares.of_grown {S:Nat→Prop} {w w':World} {row:Option Nat} (hg:w.grownBy w' row) (hr : ∀k,row=some k→S k):Spares S w w' :=
 ⟨hg.os,hg.tape,hg.output,hg.size,fun k hk hS=>hg.block k hk fun e=>hS (hr k e.symm)⟩
theorem Spares.of_below {S:Nat→Prop} {w w':World} {B:Nat} (h:Below B w w') (hB : ∀k,B≤k→k<w.heap.size→S k):Spares S w w' :=
 ⟨h.os,h.tape,h.output,h.size,fun k hk hS=>h.block k (Nat.lt_of_not_le fun hb=>hS (hB k hb hk))⟩
theorem Spares.of_new {S:Nat→Prop} {w w':World} (h:Below w.heap.size w w'):Spares S w w':=Spares.of_below h (fun k h1 h2=>by omega)
theorem Spares.below {S:Nat→Prop} {w w':World} {B:Nat} (h:Spares S w w') (hS : ∀i,S i→B≤i) (hB:B≤w.heap.size):Below B w w' :=
 ⟨h.os,h.tape,h.output,h.size,fun k hk=>h.block k (by omega) fun hs=>by have:=hS k hs;omega⟩
theorem Spares.cell {S:Nat→Prop} {w w':World} (h:Spares S w w') {p:Addr} {v:Value} (hc:w.cell? p=some v) (hS : ¬S p.block):w'.cell? p=some v:=by
 rw[World.cell?_of_block (w:=w) (h.block p.block (World.block_lt_of_cell? w p hc) hS)]
 exact hc
theorem Shows.keeps {S:Nat→Prop} {B:Nat} {w w':World} {v:Value} {bs:List UInt8} (h:Shows B w v bs) (hk:Spares S w w') (hS : ∀i,i<B→¬S i):Shows B w' v bs:=by
 obtain⟨a,c,hv,h1,h2,hn,h3⟩:=h
 refine ⟨a,c,hv,h1,h2,hn,fun hne=>?_⟩
 obtain⟨b,off,ha,hlt,hc⟩:=h3 hne
 exact⟨b,off,ha,hlt,fun j hj=>hk.cell (hc j hj) (hS b hlt)⟩
theorem Shows.len {B:Nat} {w:World} {v:Value} {bs:List UInt8} (h:Shows B w v bs):bs.length≤maxLen:=by
 obtain⟨a,c,hv,h1,h2,_⟩:=h
 omega
end Go.Proofs.YtnidnipiihhnaaaGreatDoor
namespace Go.Proofs.YtnidnipiihhnaaaGreatDoor
set_option linter.unusedSimpArgs false
set_option linter.unusedVariables false
set_option maxHeartbeats 8000000
structure Rd where
 ts:List Tk
 d:Int
 bad:Int
 bp:Int
abbrev Pa (α:Type):=Rd→α × Rd
def retP {α:Type} (a:α):Pa α:=fun r=>(a,r)
def bindP {α β:Type} (p:Pa α) (q:α→Pa β):Pa β:=fun r=>q (p r).1 (p r).2
def nowR (r:Rd):Tk:=if r.bad=0 then r.ts.headD zTk else zTk
def isR (t:List UInt8) (r:Rd):Bool:=((nowR r).k==2||(nowR r).k==5)&&(nowR r).s==t
def nextR (r:Rd):Rd:={ r with ts:=r.ts.tail }
def failR (e:Int) (r:Rd):Rd:=if r.bad=0 then { r with bad:=e,bp:=(nowR r).p } else r
def behindR (r:Rd):Tk:=r.ts.tail.headD zTk
def ifP {α:Type} (t:List UInt8) (yes no:Pa α):Pa α:=fun r=>if isR t r=true then yes (nextR r) else no r
def skipP (t:List UInt8):Pa Bool:=ifP t (retP true) (retP false)
def failP (e:Int):Pa Unit:=fun r=>((),failR e r)
def mustP (t:List UInt8):Pa Unit:=ifP t (retP ()) (failP 4)
def isNameP:Pa Bool:=fun r=>((nowR r).k==1,r)
def nameP:Pa (List UInt8):=fun r=>if (nowR r).k=1 then ((nowR r).s,nextR r) else ([],failR 4 r)
def numP:Pa Int:=fun r=>if (nowR r).k=3 then ((nowR r).n,nextR r) else (0,failR 4 r)
def textP:Pa (Option (List UInt8)):=fun r=>if (nowR r).k=4 then (some (nowR r).s,nextR r) else (none,r)
def minusP {α:Type} (yes no:Pa α):Pa α:=fun r=>if isR [45] r=true∧(behindR r).k≠3 then yes (nextR r) else no r
def chooseP:List (List UInt8 × Int)→Pa Int
 | []=>retP 0
 | c::l=>ifP c.1 (retP c.2) (chooseP l)
def downR (r:Rd):Rd:=if 10<r.d+1 then failR 10 { r with d:=r.d+1 } else { r with d:=r.d+1 }
def upR (r:Rd):Rd:={ r with d:=r.d-1 }
def deepP {α:Type} (p:Pa α):Pa α:=fun r=>((p (downR r)).1,upR (p (downR r)).2)
structure Good (F:Nat) (r:Rd):Prop where
 last:r.bad=0→∃L e,r.ts=L++[e]∧e.k=6∧∀x∈L,x.k≠6
 d0:0≤r.d
 d1:r.d≤11
 d2:r.bad=0→r.d≤10
 nums : ∀x∈r.ts,0≤x.n∧x.n≤9223372036854775807
 many:r.ts.length≤F
def SimA (r r':Rd):Prop:=r.ts.map Tk.z=r'.ts.map Tk.z∧r.d=r'.d∧r.bad=r'.bad
def SimB (dl:Nat) (T:List Tk) (r r':Rd):Prop :=
 ∃L e L' , r.ts=L++[e]∧e.k=6∧(∀x∈L,x.k≠6)∧r'.ts=L'++T∧L.map Tk.z=L'.map Tk.z∧r'.d=r.d+dl∧r.bad=0∧r'.bad=0
def Tail (T:List Tk):Prop:=∃h l,T=h::l∧h.k=5∧(h.s=[59]∨h.s=[41])
structure NiceAt (b:Bool) (F:Nat) (G:Rd→Prop) {α:Type} (p:Pa α):Prop where
 mono : ∀r,r.bad≠0→(p r).2.bad=r.bad∧(p r).2.bp=r.bp
 fine : ∀r,G r→Good F r→Good F (p r).2∧(p r).2.d=r.d∧(p r).2.ts.length≤r.ts.length
 simA : ∀r r',SimA r r'→(p r).1=(p r').1∧SimA (p r).2 (p r').2
 simB:b=true→∀dl T r r',Tail T→SimB dl T r r'→(p r).2.bad=0→((p r').2.bad=10∧0<dl)∨((p r).1=(p r').1∧SimB dl T (p r).2 (p r').2)
abbrev Nice (b:Bool) (F:Nat) {α:Type} (p:Pa α):Prop:=NiceAt b F (fun _=>True) p
abbrev NiceOk (b:Bool) (F:Nat) {α:Type} (p:Pa α):Prop:=NiceAt b F (fun r=>r.bad=0) p
theorem NiceAt.ok {b:Bool} {F:Nat} {α:Type} {p:Pa α} (h:Nice b F p):NiceOk b F p:=⟨h.mono,fun r _=>h.fine r trivial,h.simA,h.simB⟩
theorem Good.next {F:Nat} {r:Rd} (h:Good F r) (hb:r.bad=0) (hk:(nowR r).k≠6):Good F (nextR r):=by
 obtain⟨L,e,h1,h2,h3⟩:=h.last hb
 refine ⟨fun _=>?_,h.d0,h.d1,h.d2,fun x hx=>h.nums x (List.mem_of_mem_tail hx),Nat.le_trans (by simp[nextR]) h.many⟩
 cases L with
 |
  nil =>
  refine absurd ?_ hk
  unfold nowR
  rw[if_pos hb,h1]
  exact h2
 | cons a L=>exact⟨L,e,by simp[nextR,h1],h2,fun x hx=>h3 x (by simp[hx])⟩
inductive Ex where
 | mk (k op:Int) (tb nm:List UInt8) (v:Vl) (xs:List Ex)
def zV:Vl:=⟨0,0,[]⟩
def zEx:Ex:=.mk 0 0 [] [] zV []
def exOp (op:Int) (a b:Ex):Ex:=.mk 3 op [] [] zV [a,b]
def exOf (k:Int) (a:Ex):Ex:=.mk k 0 [] [] zV [a]
def exCol (t n:List UInt8):Ex:=.mk 2 0 t n zV []
def exVal (v:Vl):Ex:=.mk 1 0 [] [] v []
def rowL (below:Pa Ex) (ops:List (List UInt8 × Int)):Nat→Ex→Pa Ex
 | 0,e=>retP e
 | f+1,e=>bindP (chooseP ops) fun op=>if op=0 then retP e else bindP below fun x=>rowL below ops f (exOp op e x)
def rowP (F:Nat) (below:Pa Ex) (ops:List (List UInt8 × Int)):Pa Ex:=bindP below fun e=>rowL below ops F e
def orsB:List (List UInt8 × Int):=[([79,82],1)]
def andsB:List (List UInt8 × Int):=[([65,78,68],2)]
def cmpsB:List (List UInt8 × Int):=[([61],3),([60,62],4),([60],5),([60,61],6),([62],7),([62,61],8)]
def addsB:List (List UInt8 × Int):=[([43],9),([45],10)]
def mulsB:List (List UInt8 × Int):=[([42],11),([47],12),([37],13)]
def litP:Pa Vl:=ifP [78,85,76,76] (retP zV) (bindP textP fun o=>match o with
 | some s=>retP ⟨2,0,s⟩
 | none=>ifP [45] (bindP numP fun n=>retP ⟨1,-n,[]⟩) (bindP numP fun n=>retP ⟨1,n,[]⟩))
def colP:Pa Ex:=bindP nameP fun n=>ifP [46] (bindP nameP fun m=>retP (exCol n m)) (retP (exCol [] n))
def factorP (fc ex:Pa Ex):Pa Ex:=bindP isNameP fun b=>if b=true then colP else
 minusP (bindP (deepP fc) fun e=>retP (exOf 5 e)) (ifP [40] (bindP (deepP ex) fun e=>bindP (mustP [41]) fun _=>retP e) (bindP litP fun v=>retP (exVal v)))
def nullP (e:Ex):Pa Ex:=bindP (skipP [78,79,84]) fun t=>bindP (mustP [78,85,76,76]) fun _=>retP (if t=true then exOf 4 (exOf 6 e) else exOf 6 e)
def testP (sum:Pa Ex):Pa Ex:=bindP sum fun e=>ifP [73,83] (nullP e) (bindP (chooseP cmpsB) fun op=>if op=0 then retP e else bindP sum fun x=>retP (exOp op e x))
def notP (nt test:Pa Ex):Pa Ex:=ifP [78,79,84] (bindP (deepP nt) fun e=>retP (exOf 4 e)) test
structure Lv where
 nt:Pa Ex
 fc:Pa Ex
 ex:Pa Ex
def termP (F:Nat) (L:Lv):Pa Ex:=rowP F (factorP L.fc L.ex) mulsB
def sumP (F:Nat) (L:Lv):Pa Ex:=rowP F (termP F L) addsB
def notQ (F:Nat) (L:Lv):Pa Ex:=notP L.nt (testP (sumP F L))
def andP (F:Nat) (L:Lv):Pa Ex:=rowP F (notQ F L) andsB
def exprQ (F:Nat) (L:Lv):Pa Ex:=rowP F (andP F L) orsB
def lev (F:Nat):Nat→Lv
 | 0=>⟨retP zEx,retP zEx,retP zEx⟩
 | n+1=>⟨notQ F (lev F n),factorP (lev F n).fc (lev F n).ex,exprQ F (lev F n)⟩
structure Co where
 nm:List UInt8
 k:Int
 nn:Bool
 uq:Bool
structure It where
 k:Int
 xs:List Ex
structure Se where
 nm:List UInt8
 e:Ex
structure St where
 k:Int
 tb:List UInt8
 cols:List Co
 prim:List UInt8
 rows:List (List Vl)
 sets:List Se
 items:List It
 jn:List UInt8
 on:List Ex
 wh:List Ex
 gr:List Ex
 od:List Ex
 desc:Bool
 lim:Int
def zSt (k:Int):St:=⟨k,[],[],[],[],[],[],[],[],[],[],[],false,-1⟩
def Enough (n:Nat) (r:Rd):Prop:=(r.bad=0→12≤r.d+n)∧1≤n
def AgrAt (F n:Nat) (G:Rd→Prop) {α:Type} (p q:Pa α):Prop:=∀r,G r→Good F r→Enough n r→p r=q r
abbrev Agr (F n:Nat) {α:Type} (p q:Pa α):Prop:=AgrAt F n (fun _=>True) p q
abbrev AgrOk (F n:Nat) {α:Type} (p q:Pa α):Prop:=AgrAt F n (fun r=>r.bad=0) p q
theorem AgrAt.ok {F n:Nat} {α:Type} {p q:Pa α} (h:Agr F n p q):AgrOk F n p q:=fun r _=>h r trivial
theorem Enough.after {F n:Nat} {G:Rd→Prop} {α:Type} {p:Pa α} {r:Rd} (hp:NiceAt false F G p) (g:G r) (hG:Good F r) (h:Enough n r):Enough n (p r).2:=by
 refine ⟨fun hb=>?_,h.2⟩
 rw[(hp.fine r g hG).2.1]
 refine h.1 ?_
 by_cases e:r.bad=0
 ·exact e
 ·rw[(hp.mono r e).1] at hb;exact hb
theorem Enough.next {n:Nat} {r:Rd} (h:Enough n r):Enough n (nextR r):=⟨h.1,h.2⟩
end Go.Proofs.YtnidnipiihhnaaaGreatDoor
