/- Packed for the hand-in: LCut LToks LLaw -/
import Derived.Test.YtaaggohjmhifbaaGreatDoorP02
import Derived.Lib.Join
namespace Go.Proofs.YtaaggohjmhifbaaGreatDoor
set_option linter.unusedSimpArgs false
set_option linter.unusedVariables false
set_option maxHeartbeats 8000000
theorem local_row {p:UInt8→Bool} {c:UInt8} {r x:List UInt8} (hc:p c=true) (hx:row p x=0) :
  (∃y,(c::r).take (row p (c::r))++x=c::y)∧row p ((c::r).take (row p (c::r))++x)=row p (c::r)∧((c::r).take (row p (c::r))++x).drop (row p (c::r))=x∧((c::r).take (row p (c::r))++x).take (row p (c::r))=(c::r).take (row p (c::r)):=by
 have hl:((c::r).take (row p (c::r))).length=row p (c::r):=by
  rw[List.length_take];have:=row_le p (c::r);omega
 refine ⟨⟨r.take (row p r)++x,by rw[row_cons_pos hc];simp⟩,?_,?_,?_⟩
 ·rw[row_append (take_row_all p (c::r)) hx,hl]
 ·exact List.drop_left' hl
 ·exact List.take_left' hl
def oneS:List UInt8:=[40,41,44,59,46,42,43,45,47,37,61]
def signH (c:UInt8) (d:Option UInt8):Nat × Tk × Nat :=
 if c=60 then (if d=some 62 then (0,⟨5,[60,62],0,0⟩,2) else if d=some 61 then (0,⟨5,[60,61],0,0⟩,2) else (0,⟨5,[60],0,0⟩,1))
 else if c=62 then (if d=some 61 then (0,⟨5,[62,61],0,0⟩,2) else (0,⟨5,[62],0,0⟩,1))
 else if c∈oneS then (0,⟨5,[c],0,0⟩,1) else (4,zTk,0)
theorem sign_eq (c:UInt8) (r:List UInt8):cutSignT (c::r)=signH c r.head?:=by
 have one : ∀g:UInt8,([g].isPrefixOf (c::r))=(g==c):=fun g=>by simp[List.isPrefixOf]
 have two : ∀g h:UInt8,([g,h].isPrefixOf (c::r))=(g==c&&r.head?==some h):=fun g h=>by
  cases r with
  | nil=>simp[List.isPrefixOf]
  |
   cons d r =>
   simp only[List.isPrefixOf,List.head?_cons,Bool.and_true]
   congr 1
   rw[Bool.eq_iff_iff]
   simp
   exact eq_comm
 unfold cutSignT signsB signH oneS
 simp only[signT,one,two,List.length_cons,List.length_nil]
 by_cases h0:c=60
 ·subst h0
  by_cases h1:r.head?=some 62
  ·simp[h1]
  ·by_cases h2:r.head?=some 61
   ·simp[h1,h2]
   ·simp[h1,h2]
 ·by_cases h1:c=62
  ·subst h1
   by_cases h2:r.head?=some 61
   ·simp[h2]
   ·simp[h2]
  ·have e0:((60:UInt8)==c)=false:=by simpa using fun e=>h0 e.symm
   have e1:((62:UInt8)==c)=false:=by simpa using fun e=>h1 e.symm
   simp only[e0,e1,Bool.false_and,if_neg h0,if_neg h1,Bool.false_eq_true,if_false,beq_iff_eq,List.mem_cons,List.not_mem_nil,or_false]
   by_cases g1:c=40
   ·simp[g1]
   by_cases g2:c=41
   ·simp[g2]
   by_cases g3:c=44
   ·simp[g3]
   by_cases g4:c=59
   ·simp[g4]
   by_cases g5:c=46
   ·simp[g5]
   by_cases g6:c=42
   ·simp[g6]
   by_cases g7:c=43
   ·simp[g7]
   by_cases g8:c=45
   ·simp[g8]
   by_cases g9:c=47
   ·simp[g9]
   by_cases g10:c=37
   ·simp[g10]
   by_cases g11:c=61
   ·simp[g11]
   rw[if_neg (fun e=>g1 e.symm),if_neg (fun e=>g2 e.symm),if_neg (fun e=>g3 e.symm),if_neg (fun e=>g4 e.symm),if_neg (fun e=>g5 e.symm),if_neg (fun e=>g6 e.symm),if_neg (fun e=>g7 e.symm),if_neg (fun e=>g8 e.symm),if_neg (fun e=>g9 e.symm),if_neg (fun e=>g10 e.symm),if_neg (fun e=>g11 e.symm)]
   simp[g1,g2,g3,g4,g5,g6,g7,g8,g9,g10,g11]
theorem signH_used {c:UInt8} {d:Option UInt8} {t:Tk} {n:Nat} (h:signH c d=(0,t,n)):(n=1∨n=2∧d≠none)∧t.k=5∧t.n=0∧t.p=0:=by
 unfold signH at h
 split at h
 ·split at h
  ·rename_i e;cases h;simp[e]
  ·split at h
   ·rename_i e;cases h;simp[e]
   ·cases h;simp
 ·split at h
  ·split at h
   ·rename_i e;cases h;simp[e]
   ·cases h;simp
  ·split at h
   ·cases h;simp
   ·cases h
theorem signH_bytes {c:UInt8} {r:List UInt8} {t:Tk} {n:Nat} (h:signH c r.head?=(0,t,n)):t.s=(c::r).take n:=by
 unfold signH at h
 split at h
 ·rename_i ec
  split at h
  ·rename_i e;cases h;cases r<;>simp_all
  ·split at h
   ·rename_i e;cases h;cases r<;>simp_all
   ·cases h;simp_all
 ·split at h
  ·rename_i ec
   split at h
   ·rename_i e;cases h;cases r<;>simp_all
   ·cases h;simp_all
  ·split at h
   ·cases h;simp_all
   ·cases h
theorem signH_one {c:UInt8} {d e:Option UInt8} {t:Tk} (h:signH c d=(0,t,1)) (he:e≠some 62∧e≠some 61):signH c e=(0,t,1):=by
 unfold signH at h ⊢
 split at h
 ·rename_i ec
  rw[if_pos ec,if_neg he.1,if_neg he.2]
  split at h
  ·cases h
  ·split at h
   ·cases h
   ·exact h
 ·rename_i ec
  rw[if_neg ec]
  split at h
  ·rename_i ec2
   rw[if_pos ec2,if_neg he.2]
   split at h
   ·cases h
   ·exact h
  ·rename_i ec2
   rw[if_neg ec2]
   exact h
theorem stop_head {x:List UInt8} (h:Stop x):x.head?≠some 62∧x.head?≠some 61∧x.head?≠some 39:=by
 rcases h with rfl | ⟨c,r,rfl,h⟩
 ·simp
 ·rcases h with rfl | rfl | rfl | rfl | rfl<;>simp<;>decide
theorem txt_ends (r:List UInt8):(txt r).2.2=true→∃raw,r=raw++39::(txt r).2.1∧∀x:List UInt8,x.head?≠some 39→txt (raw++39::x)=((txt r).1,x,true):=by
 have last : ∀x:List UInt8,x.head?≠some 39→txt (39::x)=([],x,true):=fun x hx=>by
  match x,hx with
  | [],_=>simp[txt]
  | d::x,hx=>simp at hx;simp[txt,hx]
 fun_induction txt r with
 | case1=>simp
 | case2=>exact fun _=>⟨[],by simp,fun x hx=>last x hx⟩
 | case3 c h=>simp
 |
  case4 r ih =>
  intro h
  obtain⟨raw,e,hx⟩:=ih h
  refine ⟨39::39::raw,by simp[← e],fun x h=>?_⟩
  have:=hx x h
  simp[txt,this]
 | case5 d r hd=>exact fun _=>⟨[],by simp,fun x hx=>last x hx⟩
 |
  case6 c d r hc ih =>
  intro h
  obtain⟨raw,e,hx⟩:=ih h
  refine ⟨c::raw,by simp[← e],fun x h=>?_⟩
  have:=hx x h
  match raw,this with
  | [],this=>simp at this ⊢;simp[txt,hc,this]
  | a::raw,this=>simp at this ⊢;simp[txt,hc,this]
theorem head_ne_of_append {a x:List UInt8} {c:UInt8} {y:List UInt8} (h:a++x=c::y):cutT (a++x)=if inS lowsB c=true then cutNameT (a++x) else if inS upsB c=true then cutWordT (a++x) else if inS digsB c=true then cutNumT (a++x) else if inS [39] c=true then cutTextT (a++x) else cutSignT (a++x):=by
 rw[h];rfl
theorem low_name {c:UInt8} (h:inS lowsB c=true):inS nameB c=true:=by
 simp only[inS,List.contains_iff_mem,nameB,List.mem_append] at h ⊢;exact .inl h
theorem cut_local {s:List UInt8} {t:Tk} {n:Nat} (h:cutT s=(0,t,n)):1≤n∧n≤s.length∧t.p=0∧∀x,Stop x→cutT (s.take n++x)=(0,t,n):=by
 match s,h with
 | [],h=>simp[cutT] at h
 |
  c::r,h =>
  unfold cutT at h
  dsimp only at h
  by_cases hl:inS lowsB c=true
  ·rw[if_pos hl] at h
   unfold cutNameT at h
   have h1:=row_first (r:=r) (low_name hl)
   have h2:=row_le (inS nameB) (c::r)
   have hloc:=fun x (hx:Stop x)=>local_row (r:=r) (low_name hl) (stop_row hx).1
   generalize hn:row (inS nameB) (c::r)=m at *
   split at h
   ·cases h
   ·split at h
    ·cases h
    ·rename_i g1 g2
     cases h
     refine ⟨h1,h2,rfl,fun x hx=>?_⟩
     obtain⟨⟨y,hy⟩,e1,e2,e3⟩:=hloc x hx
     rw[head_ne_of_append hy,if_pos hl,cutNameT,e1,e2,e3,stop_runs hx,if_neg (by simp),if_neg g2]
  ·rw[if_neg hl] at h
   by_cases hu:inS upsB c=true
   ·rw[if_pos hu] at h
    unfold cutWordT at h
    have h1:=row_first (r:=r) hu
    have h2:=row_le (inS upsB) (c::r)
    have hloc:=fun x (hx:Stop x)=>local_row (r:=r) hu (stop_row hx).2.1
    generalize hn:row (inS upsB) (c::r)=m at *
    split at h
    ·cases h
    ·split at h
     ·cases h
     ·rename_i g1 g2
      cases h
      refine ⟨h1,h2,rfl,fun x hx=>?_⟩
      obtain⟨⟨y,hy⟩,e1,e2,e3⟩:=hloc x hx
      rw[head_ne_of_append hy,if_neg hl,if_pos hu,cutWordT,e1,e2,e3,stop_runs hx,if_neg (by simp),if_neg g2]
   ·rw[if_neg hu] at h
    by_cases hd:inS digsB c=true
    ·rw[if_pos hd] at h
     unfold cutNumT at h
     have h1:=row_first (r:=r) hd
     have h2:=row_le (inS digsB) (c::r)
     have hloc:=fun x (hx:Stop x)=>local_row (r:=r) hd (stop_row hx).2.2.1
     generalize hn:row (inS digsB) (c::r)=m at *
     split at h
     ·cases h
     ·rename_i g1
      have hm:m=n∧t.p=0:=by
       cases ha:Lib.atoiAll ((c::r).take m)<;>rw[ha] at h<;>cases h
       exact⟨rfl,rfl⟩
      obtain⟨rfl,hp⟩:=hm
      refine ⟨h1,h2,hp,fun x hx=>?_⟩
      obtain⟨⟨y,hy⟩,e1,e2,e3⟩:=hloc x hx
      rw[head_ne_of_append hy,if_neg hl,if_neg hu,if_pos hd,cutNumT,e1,e2,e3,stop_runs hx,if_neg (by simp),h]
    ·rw[if_neg hd] at h
     by_cases hq:inS [39] c=true
     ·rw[if_pos hq] at h
      have hc:c=39:=by simpa [inS] using hq
      subst hc
      unfold cutTextT at h
      rw[List.drop_succ_cons,List.drop_zero] at h
      unfold textT at h
      split at h
      ·cases h
      ·rename_i g1
       split at h
       ·cases h
       ·rename_i g2
        have hcl:(txt r).2.2=true:=by simpa using g2
        obtain⟨raw,e,hx⟩:=txt_ends r hcl
        have hlen:=congrArg List.length e
        simp only[List.length_append,List.length_cons] at hlen
        cases h
        have hnn:(39::r:List UInt8).length-(txt r).2.1.length=raw.length+2:=by simp only[List.length_cons];omega
        rw[hnn]
        have htk:(39::r:List UInt8).take (raw.length+2)=39::(raw++[39]):=by
         rw[List.take_succ_cons]
         conv=>lhs;rw[e]
         rw[List.take_append,List.take_of_length_le (by omega)]
         simp
        refine ⟨by omega,by simp only[List.length_cons];omega,rfl,fun x hxs=>?_⟩
        have e2:=hx x (stop_head hxs).2.2
        rw[htk,show (39::(raw++[39]):List UInt8)++x=39::(raw++39::x) by simp]
        unfold cutT
        dsimp only
        rw[if_neg hl,if_neg hu,if_neg hd,if_pos hq,cutTextT,List.drop_succ_cons,List.drop_zero,e2,textT]
        dsimp only
        rw[if_neg g1,if_neg (by simp)]
        simp only[List.length_cons,List.length_append]
        congr 2
        omega
     ·rw[if_neg hq,sign_eq] at h
      obtain⟨hn,_,_,hp⟩:=signH_used h
      rcases hn with rfl | ⟨rfl,hne⟩
      ·refine ⟨Nat.le_refl _,by simp,hp,fun x hx=>?_⟩
       rw[List.take_succ_cons,List.take_zero,List.cons_append,List.nil_append]
       unfold cutT
       dsimp only
       rw[if_neg hl,if_neg hu,if_neg hd,if_neg hq,sign_eq]
       exact signH_one h ⟨(stop_head hx).1,(stop_head hx).2.1⟩
      ·match r,hne,h with
       |
        d::r,_,h =>
        refine ⟨by omega,by simp,hp,fun x hx=>?_⟩
        rw[List.take_succ_cons,List.take_succ_cons,List.take_zero]
        show cutT (c::d::x)=_
        unfold cutT
        dsimp only
        rw[if_neg hl,if_neg hu,if_neg hd,if_neg hq,sign_eq]
        exact h
def conT (t:Tk) (r:Nat × Int × List Tk):Nat × Int × List Tk:=if r.1=0 then (0,0,t::r.2.2) else r
def toks:Nat→List UInt8→Nat→Nat × Int × List Tk
 | 0,_,_=>(0,0,[])
 |
  f+1,s,at' =>
  if s.length≤skip false s then (0,0,[⟨6,[],0,((at'+skip false s:Nat):Int)⟩])
  else if (cutT (s.drop (skip false s))).1≠0 then ((cutT (s.drop (skip false s))).1,((at'+skip false s:Nat):Int),[])
  else conT ⟨(cutT (s.drop (skip false s))).2.1.k,(cutT (s.drop (skip false s))).2.1.s,(cutT (s.drop (skip false s))).2.1.n,((at'+skip false s:Nat):Int)⟩ (toks f ((s.drop (skip false s)).drop (cutT (s.drop (skip false s))).2.2) (at'+skip false s+(cutT (s.drop (skip false s))).2.2))
def tokens (s:List UInt8):Nat × Int × List Tk:=if 2000<s.length then (2,-1,[]) else toks (s.length+1) s 0
theorem toks_end {f:Nat} {s:List UInt8} {at':Nat} (h:s.length≤skip false s):toks (f+1) s at'=(0,0,[⟨6,[],0,((at'+skip false s:Nat):Int)⟩]):=by
 rw[toks,if_pos h]
theorem toks_err {f:Nat} {s:List UInt8} {at' e n:Nat} {t:Tk} (h:skip false s<s.length) (hc:cutT (s.drop (skip false s))=(e,t,n)) (he:e≠0):toks (f+1) s at'=(e,((at'+skip false s:Nat):Int),[]):=by
 rw[toks,if_neg (by omega),hc,if_pos he]
theorem toks_one {f:Nat} {s:List UInt8} {at' n:Nat} {t:Tk} (h:skip false s<s.length) (hc:cutT (s.drop (skip false s))=(0,t,n)):toks (f+1) s at'=conT ⟨t.k,t.s,t.n,((at'+skip false s:Nat):Int)⟩ (toks f ((s.drop (skip false s)).drop n) (at'+skip false s+n)):=by
 rw[toks,if_neg (by omega),hc,if_neg (by simp)]
theorem conT_ok {t:Tk} {r:Nat × Int × List Tk} (h:(conT t r).1=0):r.1=0∧conT t r=(0,0,t::r.2.2):=by
 unfold conT at h ⊢
 split at h
 ·rename_i e;exact⟨e,if_pos e⟩
 ·contradiction
theorem toks_form : ∀(f:Nat) (s:List UInt8) (at':Nat),((toks f s at').1≠0→(toks f s at').2.2=[])∧((toks f s at').1=0→(toks f s at').2.1=0)
 | 0,s,at'=>by simp[toks]
 |
  f+1,s,at'=>by
  by_cases h:s.length≤skip false s
  ·rw[toks_end h];simp
  ·obtain⟨⟨e,t,n⟩,hc⟩:∃x,cutT (s.drop (skip false s))=x:=⟨_,rfl⟩
   by_cases he:e=0
   ·subst he
    rw[toks_one (by omega) hc]
    have ih:=toks_form f ((s.drop (skip false s)).drop n) (at'+skip false s+n)
    unfold conT
    split
    ·simp
    ·rename_i h0;exact⟨fun _=>ih.1 h0,fun e=>absurd e h0⟩
   ·rw[toks_err (by omega) hc he];simp[he]
theorem toks_ok {f:Nat} {s:List UInt8} {at':Nat} (h:(toks (f+1) s at').1=0) :
  (s.length=skip false s∧toks (f+1) s at'=(0,0,[⟨6,[],0,((at'+skip false s:Nat):Int)⟩])) ∨
  ∃
   t n,skip false s<s.length∧cutT (s.drop (skip false s))=(0,t,n)∧(toks f ((s.drop (skip false s)).drop n) (at'+skip false s+n)).1=0 ∧
   toks (f+1) s at'=(0,0,⟨t.k,t.s,t.n,((at'+skip false s:Nat):Int)⟩::(toks f ((s.drop (skip false s)).drop n) (at'+skip false s+n)).2.2):=by
 have hle:=skip_le s false
 by_cases hs:s.length≤skip false s
 ·exact .inl ⟨by omega,toks_end hs⟩
 ·obtain⟨⟨e,t,n⟩,hc⟩:∃x,cutT (s.drop (skip false s))=x:=⟨_,rfl⟩
  by_cases he:e=0
  ·subst he
   rw[toks_one (by omega) hc] at h ⊢
   obtain⟨h1,h2⟩:=conT_ok h
   exact .inr ⟨t,n,by omega,hc,h1,h2⟩
  ·rw[toks_err (by omega) hc he] at h
   exact absurd h he
def wr (t:Tk):List UInt8:=if t.k=3 then Lib.itoa t.n else if t.k=4 then [39]++(dbl t.s++[39]) else t.s
theorem dig_in (u:Nat) (h:u<10):inS digsB (UInt8.ofNat (48+u))=true∧(UInt8.ofNat (48+u)).toNat=48+u:=by
 refine ⟨?_,by simp;omega⟩
 match u,h with
 | 0,_=>decide
 | 1,_=>decide
 | 2,_=>decide
 | 3,_=>decide
 | 4,_=>decide
 | 5,_=>decide
 | 6,_=>decide
 | 7,_=>decide
 | 8,_=>decide
 | 9,_=>decide
theorem parse_snoc (d:UInt8) (hd:48≤d.toNat∧d.toNat≤57):∀(l:List UInt8) (acc u:Nat),Lib.parseUint10 acc l = .ok u→u<1844674407370955162→u*10+(d.toNat-48)<18446744073709551616→Lib.parseUint10 acc (l++[d]) = .ok (u*10+(d.toNat-48))
 |
  [],acc,u,h,h1,h2=>by
  simp only[Lib.parseUint10] at h
  injection h with h
  subst h
  simp only[List.nil_append,Lib.parseUint10]
  rw[if_pos hd,if_neg (by omega),if_neg (by omega)]
 |
  c::r,acc,u,h,h1,h2=>by
  simp only[Lib.parseUint10] at h
  simp only[List.cons_append,Lib.parseUint10]
  split at h
  ·rename_i hc
   rw[if_pos hc]
   split at h
   ·cases h
   ·rename_i g1
    rw[if_neg g1]
    split at h
    ·cases h
    ·rename_i g2
     rw[if_neg g2]
     exact parse_snoc d hd r _ u h h1 h2
  ·cases h
theorem digits_facts (u:Nat) (h:u<9223372036854775808):(∀c∈Lib.decDigits u,inS digsB c=true)∧Lib.parseUint10 0 (Lib.decDigits u) = .ok u∧Lib.decDigits u≠[]∧(Lib.decDigits u).length≤19∧(∀k,u<10 ^ (k+1)→(Lib.decDigits u).length≤k+1):=by
 suffices hmain:(∀c∈Lib.decDigits u,inS digsB c=true)∧Lib.parseUint10 0 (Lib.decDigits u) = .ok u∧Lib.decDigits u≠[]∧(∀k,u<10 ^ (k+1)→(Lib.decDigits u).length≤k+1) from
  ⟨hmain.1,hmain.2.1,hmain.2.2.1,hmain.2.2.2 18 (by omega),hmain.2.2.2⟩
 induction u using Nat.strongRecOn with
 |
  _ u ih =>
  by_cases h10:u<10
  ·have e:Lib.decDigits u=[UInt8.ofNat (48+u)]:=by rw[Lib.decDigits,dif_pos h10]
   obtain⟨d1,d2⟩:=dig_in u h10
   rw[e]
   refine ⟨by simpa using d1,?_,by simp,by simp⟩
   simp only[Lib.parseUint10]
   rw[d2,if_pos (by omega),if_neg (by omega),if_neg (by omega)]
   congr 1
   omega
  ·have e:Lib.decDigits u=Lib.decDigits (u / 10)++[UInt8.ofNat (48+u % 10)]:=by rw[Lib.decDigits,dif_neg h10]
   obtain⟨i1,i2,i3,i4⟩:=ih (u / 10) (by omega) (by omega)
   obtain⟨d1,d2⟩:=dig_in (u % 10) (by omega)
   rw[e]
   refine ⟨fun c hc=>?_,?_,by simp,fun k hk=>?_⟩
   ·rcases List.mem_append.1 hc with hc | hc
    ·exact i1 c hc
    ·rw[List.mem_singleton] at hc;rw[hc];exact d1
   ·rw[parse_snoc _ (by rw[d2];omega) _ _ _ i2 (by omega) (by rw[d2];omega),d2]
    congr 1
    omega
   ·rw[List.length_append,List.length_cons,List.length_nil]
    match k with
    | 0=>omega
    |
     k+1 =>
     have:=i4 k (by rw[Nat.pow_succ] at hk;omega)
     omega
theorem atoi_digits (u:Nat) (h:u<9223372036854775808):Lib.atoiAll (Lib.decDigits u) = .ok (u:Int):=by
 obtain⟨h1,h2,h3,_,_⟩:=digits_facts u h
 match hd:Lib.decDigits u,h3 with
 |
  c::r,_ =>
  rw[hd] at h1 h2
  have hc:=h1 c (by simp)
  have hc2 : ¬(c.toNat=43∨c.toNat=45)∧¬c.toNat=45:=by
   simp only[inS,digsB,List.contains_iff_mem,List.mem_cons,List.not_mem_nil,or_false] at hc
   rcases hc with rfl | rfl | rfl | rfl | rfl | rfl | rfl | rfl | rfl | rfl<;>decide
  unfold Lib.atoiAll
  dsimp only
  rw[if_neg hc2.1,Lib.parseMag,if_neg (by simp),h2]
  dsimp only
  rw[if_neg (by omega),if_neg (fun e=>hc2.2 e.1),if_neg hc2.2]
theorem txt_dbl (x:List UInt8) (hx:x.head?≠some 39):∀s:List UInt8,txt (dbl s++39::x)=(s,x,true)
 |
  []=>by
  match x,hx with
  | [],_=>simp[dbl,txt]
  | d::x,hx=>simp at hx;simp[dbl,txt,hx]
 |
  c::s=>by
  have ih:=txt_dbl x hx s
  by_cases hc:c=39
  ·subst hc
   have e:dbl (39::s)=39::39::dbl s:=by simp[dbl]
   rw[e]
   simp[txt,ih]
  ·have e:dbl (c::s)=c::dbl s:=by simp[dbl,hc]
   rw[e]
   match hd:dbl s++39::x with
   | []=>simp at hd
   |
    d::y =>
    rw[List.cons_append,hd]
    rw[hd] at ih
    simp[txt,hc,ih]
def Gap (x:List UInt8):Prop:=x=[]∨∃r,x=32::r
theorem Gap.stop {x:List UInt8} (h:Gap x):Stop x:=by
 rcases h with rfl | ⟨r,rfl⟩
 ·exact .inl rfl
 ·exact .inr ⟨32,r,rfl,by simp⟩
theorem Gap.head {x:List UInt8} (h:Gap x):x.head?≠some 45:=by
 rcases h with rfl | ⟨r,rfl⟩<;>simp
structure GoodT (t:Tk):Prop where
 k6:t.k≠6
 len:t.s.length≤40
 n0:0≤t.n
 n1:t.n≤9223372036854775807
 wl:1≤(wr t).length
 sk : ∀x,Gap x→skip false (wr t++x)=0
 ct : ∀x,Gap x→cutT (wr t++x)=(0,t.z,(wr t).length)
theorem good_num (v p:Int) (h0:0≤v) (h1:v≤9223372036854775807):GoodT ⟨3,[],v,p⟩:=by
 obtain⟨u,rfl⟩:∃u:Nat,v=u:=⟨v.toNat,by omega⟩
 obtain⟨d1,d2,d3,_,_⟩:=digits_facts u (by omega)
 have ha:=atoi_digits u (by omega)
 have hw:wr ⟨3,[],(u:Int),p⟩=Lib.decDigits u:=by
  unfold wr
  rw[if_pos rfl]
  unfold Lib.itoa
  rw[if_neg (by simp)]
  simp
 obtain⟨c,r,hcr⟩:∃c r,Lib.decDigits u=c::r:=by
  match h:Lib.decDigits u,d3 with
  | c::r,_=>exact⟨c,r,rfl⟩
 have hc:=d1 c (by rw[hcr];simp)
 have hcs:inS blksB c=false∧¬c=45∧¬inS lowsB c=true∧¬inS upsB c=true:=by
  simp only[inS,digsB,List.contains_iff_mem,List.mem_cons,List.not_mem_nil,or_false] at hc
  rcases hc with rfl | rfl | rfl | rfl | rfl | rfl | rfl | rfl | rfl | rfl<;>decide
 refine ⟨by show (3:Int)≠6;decide,Nat.zero_le _,h0,h1,by rw[hw,hcr];simp,fun x hx=>?_,fun x hx=>?_⟩
 ·rw[hw,hcr,List.cons_append,skip,if_neg (by rw[hcs.1];simp),if_neg (fun e=>hcs.2.1 e.1)]
 ·rw[hw]
  have hrow:=row_append d1 (stop_row hx.stop).2.2.1
  have hh:Lib.decDigits u++x=c::(r++x):=by rw[hcr];rfl
  rw[head_ne_of_append hh,if_neg hcs.2.2.1,if_neg hcs.2.2.2,if_pos hc,cutNumT,hrow,List.drop_left,List.take_left,stop_runs hx.stop,if_neg (by simp),ha]
  rfl
theorem good_text (s:List UInt8) (p:Int) (h:s.length≤40):GoodT ⟨4,s,0,p⟩:=by
 have hw:wr ⟨4,s,0,p⟩=39::(dbl s++[39]):=by
  unfold wr
  rw[if_neg (show ¬(4:Int)=3 by decide),if_pos rfl]
  rfl
 refine ⟨by show (4:Int)≠6;decide,h,Int.le_refl _,by show (0:Int)≤_;decide,by rw[hw];simp,fun x hx=>?_,fun x hx=>?_⟩
 ·rw[hw,List.cons_append,skip,if_neg (by decide),if_neg (fun e=>absurd e.1 (by decide))]
 ·rw[hw,show (39::(dbl s++[39]):List UInt8)++x=39::(dbl s++39::x) by simp]
  unfold cutT
  dsimp only
  rw[if_neg (by decide),if_neg (by decide),if_neg (by decide),if_pos (by decide),cutTextT,List.drop_succ_cons,List.drop_zero,txt_dbl x (stop_head hx.stop).2.2 s,textT]
  dsimp only
  rw[if_neg (by omega),if_neg (by simp)]
  simp only[List.length_cons,List.length_append,List.length_nil,Tk.z]
  congr 2
  omega
theorem words_short : ∀g∈wordsB,g.length≤40:=by decide
theorem skip_glue {s x:List UInt8} {n:Nat} (h:skip false s=0) (h1:1≤n) (h2:n≤s.length) (hx:x.head?≠some 45):skip false (s.take n++x)=0:=by
 match s,n,h with
 |
  c::r,n+1,h =>
  rw[skip] at h
  rw[List.take_succ_cons,List.cons_append,skip]
  split at h
  ·omega
  ·rename_i hb
   split at h
   ·omega
   ·rename_i hr
    rw[if_neg hb,if_neg]
    rintro⟨rfl,g2⟩
    cases n with
    | zero=>exact hx g2
    |
     succ n =>
     cases r with
     | nil=>exact hx g2
     | cons d r=>exact hr ⟨rfl,g2⟩
 | c::r,0,_=>omega
 | [],n,_=>simp at h2;omega
theorem good_own {s:List UInt8} {t:Tk} {n:Nat} (hs:skip false s=0) (hc:cutT s=(0,t,n)) (hk:t.k=1∨t.k=2∨t.k=5) (hb:t.s=s.take n) (hl:t.s.length≤40) (hn:t.n=0) (p:Int):GoodT ⟨t.k,t.s,t.n,p⟩:=by
 obtain⟨h1,h2,hp,hloc⟩:=cut_local hc
 have hw:wr ⟨t.k,t.s,t.n,p⟩=s.take n:=by
  unfold wr
  rcases hk with e | e | e<;>simp[e,hb]
 have hl2:(s.take n).length=n:=by rw[List.length_take];omega
 have hz:(⟨t.k,t.s,t.n,p⟩:Tk).z=t:=by
  obtain⟨a,b,c,d⟩:=t
  simp only at hp
  subst hp
  rfl
 refine ⟨by show t.k≠6;omega,hl,by show 0≤t.n;omega,by show t.n≤_;omega,by rw[hw,hl2];exact h1,fun x hx=>?_,fun x hx=>?_⟩
 ·rw[hw];exact skip_glue hs h1 h2 hx.head
 ·rw[hw,hl2,hz];exact hloc x hx.stop
theorem good_cut {s:List UInt8} {t:Tk} {n:Nat} (hs:skip false s=0) (h:cutT s=(0,t,n)) (p:Int):GoodT ⟨t.k,t.s,t.n,p⟩:=by
 have h0:=h
 match s,hs,h with
 | [],hs,h=>simp[cutT] at h
 |
  c::r,hs,h =>
  unfold cutT at h
  dsimp only at h
  by_cases hl:inS lowsB c=true
  ·rw[if_pos hl] at h
   unfold cutNameT at h
   have h2:=row_le (inS nameB) (c::r)
   split at h
   ·cases h
   ·split at h
    ·cases h
    ·rename_i g1 g2
     cases h
     exact good_own hs h0 (.inl rfl) rfl (by rw[List.length_take];omega) rfl p
  ·rw[if_neg hl] at h
   by_cases hu:inS upsB c=true
   ·rw[if_pos hu] at h
    unfold cutWordT at h
    split at h
    ·cases h
    ·split at h
     ·cases h
     ·rename_i g1 g2
      cases h
      exact good_own hs h0 (.inr (.inl rfl)) rfl (words_short _ (by simpa using g2)) rfl p
   ·rw[if_neg hu] at h
    by_cases hd:inS digsB c=true
    ·rw[if_pos hd] at h
     unfold cutNumT at h
     split at h
     ·cases h
     ·have hhead:(c::r).take (row (inS digsB) (c::r))=c::r.take (row (inS digsB) r):=by rw[row_cons_pos hd,List.take_succ_cons]
      rw[hhead] at h
      have hc2 : ¬c.toNat=45:=by
       simp only[inS,digsB,List.contains_iff_mem,List.mem_cons,List.not_mem_nil,or_false] at hd
       rcases hd with rfl | rfl | rfl | rfl | rfl | rfl | rfl | rfl | rfl | rfl<;>decide
      cases ha:Lib.atoiAll (c::r.take (row (inS digsB) r)) with
      |
       ok v =>
       rw[ha] at h
       cases h
       unfold Lib.atoiAll at ha
       dsimp only at ha
       split at ha
       ·cases ha
       ·cases ha
       ·rename_i u _
        split at ha
        ·cases ha
        ·rename_i g
         rw[if_neg (fun e=>hc2 e.1)] at ha
         try rw[if_neg hc2] at ha
         injection ha with ha
         subst ha
         exact good_num (u:Int) p (by omega) (by have : ¬9223372036854775808≤u:=fun e=>g ⟨hc2,e⟩;omega)
      | «syntax»=>rw[ha] at h;cases h
      | range=>rw[ha] at h;cases h
    ·rw[if_neg hd] at h
     by_cases hq:inS [39] c=true
     ·rw[if_pos hq] at h
      unfold cutTextT textT at h
      split at h
      ·cases h
      ·rename_i g1
       split at h
       ·cases h
       ·cases h
        exact good_text _ p (Nat.le_of_not_lt g1)
     ·rw[if_neg hq,sign_eq] at h
      have hu2:=signH_used h
      have hb:=signH_bytes h
      exact good_own hs h0 (.inr (.inr hu2.2.1)) hb (by rw[hb,List.length_take];omega) hu2.2.2.1 p
theorem toks_good : ∀(f:Nat) (s:List UInt8) (at':Nat),s.length<f→(toks f s at').1=0→∃l,(toks f s at').2.2=l++[⟨6,[],0,((at'+s.length:Nat):Int)⟩]∧l.length≤s.length∧∀t∈l,GoodT t
 |
  f+1,s,at',hf,h=>by
  rcases toks_ok h with⟨hl,e⟩ | ⟨t,n,hlt,hc,h1,e⟩
  ·rw[e,← hl];exact⟨[],rfl,by simp,by simp⟩
  ·have hcl:=cut_local hc
   have hd:(s.drop (skip false s)).length=s.length-skip false s:=by simp
   obtain⟨l,hl,hle,hg⟩:=toks_good f ((s.drop (skip false s)).drop n) (at'+skip false s+n) (by simp;omega) h1
   rw[e,hl]
   refine ⟨⟨t.k,t.s,t.n,((at'+skip false s:Nat):Int)⟩::l,?_,by simp at hle ⊢;omega,fun x hx=>?_⟩
   ·have ee:at'+skip false s+n+((s.drop (skip false s)).drop n).length=at'+s.length:=by simp at hcl ⊢;omega
    rw[ee]
    rfl
   ·rcases List.mem_cons.1 hx with rfl | hx
    ·exact good_cut (skip_drop s false) hc _
    ·exact hg x hx
def endZ:Tk:=⟨6,[],0,0⟩
theorem gap_tail (l:List Tk):Gap (Lib.joinTail [32] (l.map wr)):=by
 cases l with
 | nil=>exact .inl rfl
 | cons t l=>exact .inr ⟨_,rfl⟩
theorem back_tail : ∀(l:List Tk),(∀t∈l,GoodT t)→∀(f at':Nat),(Lib.joinTail [32] (l.map wr)).length<f→∃l',toks f (Lib.joinTail [32] (l.map wr)) at'=(0,0,l')∧l'.map Tk.z=l.map Tk.z++[endZ]
 | [],_,f+1,at',_=>⟨_,toks_end (by simp[Lib.joinTail]),rfl⟩
 |
  t::l,hg,f+1,at',hf=>by
  have gt:=hg t (by simp)
  have hgap:=gap_tail l
  have e:Lib.joinTail [32] ((t::l).map wr)=32::(wr t++Lib.joinTail [32] (l.map wr)):=by simp[Lib.joinTail]
  rw[e] at hf ⊢
  have hsk:skip false (32::(wr t++Lib.joinTail [32] (l.map wr)))=1:=by
   rw[skip,if_pos (by decide),gt.sk _ hgap]
  have hct:=gt.ct _ hgap
  obtain⟨l',h1,h2⟩:=back_tail l (fun x hx=>hg x (by simp[hx])) f (at'+1+(wr t).length) (by simp at hf ⊢;omega)
  have h0:=toks_one (f:=f) (s:=32::(wr t++Lib.joinTail [32] (l.map wr))) (at':=at') (t:=t.z) (n:=(wr t).length) (by rw[hsk];have:=gt.wl;simp;omega) (by rw[hsk];exact hct)
  rw[hsk] at h0
  rw[show ((32::(wr t++Lib.joinTail [32] (l.map wr))).drop 1).drop (wr t).length=Lib.joinTail [32] (l.map wr) by simp,h1] at h0
  refine ⟨_,h0,?_⟩
  simp[h2,Tk.z]
theorem back (l:List Tk) (hg : ∀t∈l,GoodT t) (hlen:(Lib.join (l.map wr) [32]).length≤2000):∃l',tokens (Lib.join (l.map wr) [32])=(0,0,l')∧l'.map Tk.z=l.map Tk.z++[endZ]:=by
 unfold tokens
 rw[if_neg (by omega)]
 match l,hg with
 | [],_=>exact⟨_,toks_end (by simp[Lib.join_nil]),rfl⟩
 |
  t::l,hg =>
  have gt:=hg t (by simp)
  have hgap:=gap_tail l
  rw[List.map_cons,Lib.join_cons] at hlen ⊢
  have hsk:=gt.sk _ hgap
  have hct:=gt.ct _ hgap
  obtain⟨l',h1,h2⟩:=back_tail l (fun x hx=>hg x (by simp[hx])) (wr t++Lib.joinTail [32] (l.map wr)).length (0+0+(wr t).length) (by have:=gt.wl;simp;omega)
  have h0:=toks_one (f:=(wr t++Lib.joinTail [32] (l.map wr)).length) (s:=wr t++Lib.joinTail [32] (l.map wr)) (at':=0) (t:=t.z) (n:=(wr t).length) (by rw[hsk];have:=gt.wl;simp;omega) (by rw[hsk,List.drop_zero];exact hct)
  rw[hsk,List.drop_zero,List.drop_left,h1] at h0
  refine ⟨_,h0,?_⟩
  simp[h2,Tk.z]
end Go.Proofs.YtaaggohjmhifbaaGreatDoor
