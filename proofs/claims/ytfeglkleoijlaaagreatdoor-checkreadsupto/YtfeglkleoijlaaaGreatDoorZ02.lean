/- Packed for the hand-in: LLow LCutF LCutH LCut -/
import Derived.Test.YtfeglkleoijlaaaGreatDoorZ01
import Derived.Shelf.Pu.Clone
import Derived.Deep.QuietTactic
import Derived.BigQuiet
import Derived.Deep.RegionHeld3
namespace Go.Proofs.YtfeglkleoijlaaaGreatDoor
open Go.RowKit Go.Shelf
set_option linter.unusedSimpArgs false
set_option linter.unusedVariables false
set_option maxRecDepth 20000
set_option maxHeartbeats 8000000
theorem uF (s:List UInt8) (j:Nat) (c:UInt8) (h:s[j]?=some c) (w:World):(Instr.index 9 (.string (aj s)) (.int .i64 (j:Int))).run Tryz.prog w = .ok (.int .u8 (c.toNat:Int)) w:=by
 obtain⟨hj,e⟩:=List.getElem?_eq_some_iff.1 h
 have hsz:(aj s).size=s.length:=rfl
 rw[run_index_string w 9 (aj s) .i64 _ Tryz.underlying9,dif_pos ⟨by omega,by rw[hsz];omega⟩]
 rw[← e]
 rfl
def lg (g:Nat) (lb:Array Value) (p:UInt8→Bool) (w:World):Prop :=
 ∀(W:World) (c:UInt8),Below w.heap.size w W→Calls Tryz.prog g (#[.int .u8 (c.toNat:Int)]++lb) W fun e w'=>e = .returned (.bool (p c))∧w'=W
theorem lg.on {g:Nat} {lb:Array Value} {p:UInt8→Bool} {w w':World} (h:lg g lb p w) (hb:Below w.heap.size w w'):lg g lb p w' :=
 fun W c hW=>h W c (hb.trans (hW.mono hb.size))
theorem qZ (l:List UInt8) (c:UInt8) (w:World):Calls Tryz.prog 165 #[.string (aj l),.int .u8 (c.toNat:Int)] w fun e w'=>e = .returned (.int .i64 (Lib.indexByte l c))∧w'=w:=by
 have:=Any.strings_IndexByte Gt (aj l) (c.toNat:Int) w
 rw[Gm.1] at this
 have e1:(c.toNat:Int).toNat.toUInt8=c:=by simp
 rw[e1] at this
 exact this
theorem Bo (w:World) (B:Nat) (l:List UInt8) (hB:B<w.heap.size) (hc:w.cell? ⟨B,0,none⟩=some (.string (aj l))):lg 164 #[.pointer (some ⟨B,0,none⟩)] (bT l) w:=fun W c hb=>by
 have hc':W.cell? ⟨B,0,none⟩=some (.string (aj l)):=(hb.cell (p:=⟨B,0,none⟩) hB).trans hc
 have hix:=sG l c
 have hge:=Lib.indexByte_ge l c
 have HI:=hid (qZ l c W)
 obtain⟨j,hj⟩:∃j,Lib.indexByte l c=j:=⟨_,rfl⟩
 rw[hj] at hix hge HI
 rw[← hix]
 clear hix hj hc
 show Calls Tryz.prog 164 #[.int .u8 (c.toNat:Int),.pointer (some ⟨B,0,none⟩)] W _
 go_enter Tryz.func164,Tryz.ntmps164
 go_wp2_with (go_at_call 165;refine HI.out.mono ?_;rintro e w1 ⟨rfl,rfl⟩)
 go_ret
 exact⟨by simp,rfl⟩
theorem Al (l:ByteArray) (w:World):Calls Tryz.prog 138 #[.string l] w fun e w'=>e = .returned (.func (.func 164) #[] #[.pointer (some ⟨w.heap.size,0,none⟩)])∧w'=w.alloc (.cells #[.string l] 9):=by
 go_enter Tryz.func138,Tryz.ntmps138
 go_wp2
 go_ret
 exact⟨rfl,rfl⟩
theorem nN (l:List UInt8) (w:World):Calls Tryz.prog 138 #[.string (aj l)] w fun e w'=>(e = .returned (.func (.func 164) #[] #[.pointer (some ⟨w.heap.size,0,none⟩)])∧lg 164 #[.pointer (some ⟨w.heap.size,0,none⟩)] (bT l) w')∧Below w.heap.size w w':=by
 refine (Al _ w).mono ?_
 rintro e w' ⟨rfl,rfl⟩
 exact⟨⟨rfl,Bo _ _ _ (by simp) (by simp)⟩,(Below.refl _ _).alloc (Nat.le_refl _) _⟩
theorem vT (s:List UInt8) (g:Nat) (lb:Array Value) (p:UInt8→Bool) (w:World) (hs:s.length≤140737488351232) (eg : ∀args w,(callFunc g args).run Tryz.prog w = .ok (.enter g args) w) (hp:lg g lb p w) :
  Calls Tryz.prog 139 #[.string (aj s),.func (.func g) #[] lb] w fun e w'=>e = .returned (.int .i64 (row p s:Nat))∧w'=w:=by
 have hsz:(aj s).size=s.length:=rfl
 have HP:=hid (fun c=>hp w c (Below.refl _ _))
 clear hp
 go_enter Tryz.func139,Tryz.ntmps139
 go_wp2_with fail
 go_loopw [5,8] (fun _ i wr=>∃k:Nat,k≤s.length∧i = .int .i64 k∧wr=w∧Hid (row p s=k+row p (s.drop k))) (fun _ i _=>s.length-(intOf i).toNat)
 case atStart=>exact⟨0,Nat.zero_le _,rfl,rfl,hid (by simp)⟩
 case round =>
  obtain⟨k,hk,rfl,rfl,HR⟩:=hrel
  by_cases hlt:k<s.length
  ·obtain⟨c,hc⟩:∃c,s[k]?=some c:=⟨_,List.getElem?_eq_getElem hlt⟩
   have hix:=uF s k c hc
   have hd:s.drop k=c::s.drop (k+1):=by
    obtain⟨h1,h2⟩:=List.getElem?_eq_some_iff.1 hc
    rw[List.drop_eq_getElem_cons h1,h2]
   have hlt':((k:Int)<((aj s).size:Int)):=by rw[hsz];omega
   have hcall:=HP.out c
   cases hpc:p c with
   |
    true =>
    rw[hpc] at hcall
    have HR2:Hid (row p s=(k+1)+row p (s.drop (k+1))):=hid (by rw[HR.out,hd,dO hpc];omega)
    clear HR hd hc hpc
    go_wp2_with (go_at_fn g;refine hcall.mono ?_;rintro e w' ⟨rfl,rfl⟩)
    go_roundw
    case rel=>exact⟨k+1,by omega,by go_num,by first | rfl | trivial,HR2⟩
    case measure=>simp[intOf];omega
   |
    false =>
    rw[hpc] at hcall
    have HR2:Hid (row p s=k):=hid (by rw[HR.out,hd,eP hpc];omega)
    clear HR hd hc hpc
    go_wp2_with (go_at_fn g;refine hcall.mono ?_;rintro e w' ⟨rfl,rfl⟩)
    go_ret
    exact⟨by rw[HR2.out];rfl,rfl⟩
  ·have hlt' : ¬((k:Int)<((aj s).size:Int)):=by rw[hsz];omega
   have HR2:Hid (row p s=s.length):=hid (by rw[HR.out,List.drop_of_length_le (by omega),zw];omega)
   clear HR
   go_wp2
   go_ret
   exact⟨by rw[HR2.out];rfl,rfl⟩
theorem yY (s l:List UInt8) (B:Nat) (w:World) (hs:s.length≤140737488351232) (hp:lg 164 #[.pointer (some ⟨B,0,none⟩)] (bT l) w) :
  Calls Tryz.prog 139 #[.string (aj s),.func (.func 164) #[] #[.pointer (some ⟨B,0,none⟩)]] w fun e w'=>e = .returned (.int .i64 (row (bT l) s:Nat))∧w'=w :=
 vT s _ _ _ w hs (enters_of Tryz.func164 (by kernel_rfl) rfl) hp
def Jq:Ren:=⟨fun x=>if x=25 then 126 else x,fun x=>if x=0 then 0 else if x=3 then 3 else if x=4 then 4 else if x=5 then 5 else if x=9 then 9 else if x=37 then 192 else if x=47 then 193 else x,fun x=>x⟩
theorem Ih:LaysPu.n25 Tryz.prog Jq where
 mixed:=by kernel_rfl
 f25:=by kernel_rfl
 t0:=by kernel_rfl
 a0:=fun w=>by kernel_rfl
 z0:=fun w=>by kernel_rfl
 v0:=fun w=>by kernel_rfl
 i0:=by kernel_rfl
 t3:=by kernel_rfl
 a3:=fun w=>by kernel_rfl
 z3:=fun w=>by kernel_rfl
 v3:=fun w=>by kernel_rfl
 i3:=by kernel_rfl
 t4:=by kernel_rfl
 a4:=fun w=>by kernel_rfl
 z4:=fun w=>by kernel_rfl
 v4:=fun w=>by kernel_rfl
 i4:=by kernel_rfl
 t5:=by kernel_rfl
 a5:=fun w=>by kernel_rfl
 z5:=fun w=>by kernel_rfl
 v5:=fun w=>by kernel_rfl
 i5:=by kernel_rfl
 t9:=by kernel_rfl
 a9:=fun w=>by kernel_rfl
 z9:=fun w=>by kernel_rfl
 v9:=fun w=>by kernel_rfl
 i9:=by kernel_rfl
 t37:=by kernel_rfl
 a37:=fun w=>by kernel_rfl
 z37:=fun w=>by kernel_rfl
 v37:=fun w=>by kernel_rfl
 i37:=by kernel_rfl
 t47:=by kernel_rfl
 a47:=fun w=>by kernel_rfl
 z47:=fun w=>by kernel_rfl
 v47:=fun w=>by kernel_rfl
 i47:=by kernel_rfl
theorem fO (s:ByteArray) (w:World) (hs:s.size≤140737488355328):Calls Tryz.prog 80 #[.string s] w fun e w'=>e = .returned (.string s)∧Below w.heap.size w w':=by
 have HC:=hid (AnyPu.stringslite_Clone Ih s w (by omega))
 go_enter Tryz.func80,Tryz.ntmps80
 go_wp2_with fail
 refine HC.out.mono ?_
 rintro e w1 ⟨rfl,h1⟩
 go_wp2
 go_ret
 exact⟨rfl,h1⟩
def E8 (x:Nat × Tk × Nat):Value:=.tuple #[.agg #[.int .i64 x.2.1.k,.string (aj x.2.1.s),.int .i64 x.2.1.n,.int .i64 x.2.1.p],.int .i64 (x.2.2:Int),.int .i64 (x.1:Int)]
theorem nG {w:World} {g:Nat} {a b c d:Value} {t:TypeId} (h:w.heap[g]?=some (.cells #[a,b,c,d] t)) :
  w.cell? ⟨g,0,none⟩=some a∧w.cell? ⟨g,1,none⟩=some b∧w.cell? ⟨g,2,none⟩=some c∧w.cell? ⟨g,3,none⟩=some d∧∀i,w.frozen? ⟨g,i,none⟩=false :=
 ⟨by rw[aD _ _ _ _ _ _ h];rfl,by rw[aD _ _ _ _ _ _ h];rfl,by rw[aD _ _ _ _ _ _ h];rfl,by rw[aD _ _ _ _ _ _ h];rfl,fun i=>by simp[World.frozen?,h]⟩
theorem Iw (w:World) (a b c d:Value) (t:TypeId):∃W,w.alloc (.cells #[a,b,c,d] t)=W∧Below w.heap.size w W∧w.heap.size<W.heap.size∧∀W',Below W.heap.size W W'→W'.heap[w.heap.size]?=some (.cells #[a,b,c,d] t) :=
 ⟨_,rfl,(Below.refl _ _).alloc (Nat.le_refl _) _,by simp,fun W' h=>(h.block _ (by simp)).trans (heap_alloc_new w _)⟩
theorem e4:E8 (4,rQ,0) = .tuple #[.agg #[.int .i64 0,.string ⟨#[]⟩,.int .i64 0,.int .i64 0],.int .i64 0,.int .i64 4]:=rfl
theorem e2:E8 (2,rQ,0) = .tuple #[.agg #[.int .i64 0,.string ⟨#[]⟩,.int .i64 0,.int .i64 0],.int .i64 0,.int .i64 2]:=rfl
theorem e3:E8 (3,rQ,0) = .tuple #[.agg #[.int .i64 0,.string ⟨#[]⟩,.int .i64 0,.int .i64 0],.int .i64 0,.int .i64 3]:=rfl
theorem e7:E8 (7,rQ,0) = .tuple #[.agg #[.int .i64 0,.string ⟨#[]⟩,.int .i64 0,.int .i64 0],.int .i64 0,.int .i64 7]:=rfl
def Bd (g:Nat) (acc:List UInt8) (w:World):Prop:=Lib.IsBuilder 201 5 g g (Lib.byteCells acc) w
theorem Bd.drewN {g:Nat} {acc:List UInt8} {w:World} (h:Bd g acc w) (n:Nat):Bd g acc (w.drewN n):=h
end Go.Proofs.YtfeglkleoijlaaaGreatDoor
namespace Go.Proofs.YtfeglkleoijlaaaGreatDoor
set_option linter.unusedSimpArgs false
set_option linter.unusedVariables false
set_option maxHeartbeats 8000000
theorem mX {p:UInt8→Bool} {c:UInt8} {r x:List UInt8} (hc:p c=true) (hx:row p x=0) :
  (∃y,(c::r).take (row p (c::r))++x=c::y)∧row p ((c::r).take (row p (c::r))++x)=row p (c::r)∧((c::r).take (row p (c::r))++x).drop (row p (c::r))=x∧((c::r).take (row p (c::r))++x).take (row p (c::r))=(c::r).take (row p (c::r)):=by
 have hl:((c::r).take (row p (c::r))).length=row p (c::r):=by
  rw[List.length_take];have:=nA p (c::r);omega
 refine ⟨⟨r.take (row p r)++x,by rw[dO hc];simp⟩,?_,?_,?_⟩
 ·rw[oP (uM p (c::r)) hx,hl]
 ·exact List.drop_left' hl
 ·exact List.take_left' hl
def IW:List UInt8:=[40,41,44,59,46,42,43,45,47,37,61]
def mM (c:UInt8) (d:Option UInt8):Nat × Tk × Nat :=
 if c=60 then (if d=some 62 then (0,⟨5,[60,62],0,0⟩,2) else if d=some 61 then (0,⟨5,[60,61],0,0⟩,2) else (0,⟨5,[60],0,0⟩,1))
 else if c=62 then (if d=some 61 then (0,⟨5,[62,61],0,0⟩,2) else (0,⟨5,[62],0,0⟩,1))
 else if c∈IW then (0,⟨5,[c],0,0⟩,1) else (4,rQ,0)
theorem sign_eq (c:UInt8) (r:List UInt8):mD (c::r)=mM c r.head?:=by
 have one : ∀g:UInt8,([g].isPrefixOf (c::r))=(g==c):=fun g=>by simp[List.isPrefixOf]
 have two : ∀g h:UInt8,([g,h].isPrefixOf (c::r))=(g==c&&r.head?==some h):=fun g h=>by
  cases r with
  | nil=>simp[List.isPrefixOf]
  |
   cons d r =>
   simp only[List.isPrefixOf,List.head?_cons,Bool.and_true]
   congr 1
   rw[Bool.eq_iff_iff]
   simp
   exact eq_comm
 unfold mD Da mM IW
 simp only[DJ,one,two,List.length_cons,List.length_nil]
 by_cases h0:c=60
 ·subst h0
  by_cases h1:r.head?=some 62
  ·simp[h1]
  ·by_cases h2:r.head?=some 61
   ·simp[h1,h2]
   ·simp[h1,h2]
 ·by_cases h1:c=62
  ·subst h1
   by_cases h2:r.head?=some 61
   ·simp[h2]
   ·simp[h2]
  ·have e0:((60:UInt8)==c)=false:=by simpa using fun e=>h0 e.symm
   have e1:((62:UInt8)==c)=false:=by simpa using fun e=>h1 e.symm
   simp only[e0,e1,Bool.false_and,if_neg h0,if_neg h1,Bool.false_eq_true,if_false,beq_iff_eq,List.mem_cons,List.not_mem_nil,or_false]
   by_cases g1:c=40
   ·simp[g1]
   by_cases g2:c=41
   ·simp[g2]
   by_cases g3:c=44
   ·simp[g3]
   by_cases g4:c=59
   ·simp[g4]
   by_cases g5:c=46
   ·simp[g5]
   by_cases g6:c=42
   ·simp[g6]
   by_cases g7:c=43
   ·simp[g7]
   by_cases g8:c=45
   ·simp[g8]
   by_cases g9:c=47
   ·simp[g9]
   by_cases g10:c=37
   ·simp[g10]
   by_cases g11:c=61
   ·simp[g11]
   rw[if_neg (fun e=>g1 e.symm),if_neg (fun e=>g2 e.symm),if_neg (fun e=>g3 e.symm),if_neg (fun e=>g4 e.symm),if_neg (fun e=>g5 e.symm),if_neg (fun e=>g6 e.symm),if_neg (fun e=>g7 e.symm),if_neg (fun e=>g8 e.symm),if_neg (fun e=>g9 e.symm),if_neg (fun e=>g10 e.symm),if_neg (fun e=>g11 e.symm)]
   simp[g1,g2,g3,g4,g5,g6,g7,g8,g9,g10,g11]
theorem o9 {c:UInt8} {d:Option UInt8} {t:Tk} {n:Nat} (h:mM c d=(0,t,n)):(n=1∨n=2∧d≠none)∧t.k=5∧t.n=0∧t.p=0:=by
 unfold mM at h
 split at h
 ·split at h
  ·rename_i e;cases h;simp[e]
  ·split at h
   ·rename_i e;cases h;simp[e]
   ·cases h;simp
 ·split at h
  ·split at h
   ·rename_i e;cases h;simp[e]
   ·cases h;simp
  ·split at h
   ·cases h;simp
   ·cases h
theorem vo {c:UInt8} {r:List UInt8} {t:Tk} {n:Nat} (h:mM c r.head?=(0,t,n)):t.s=(c::r).take n:=by
 unfold mM at h
 split at h
 ·rename_i ec
  split at h
  ·rename_i e;cases h;cases r<;>simp_all
  ·split at h
   ·rename_i e;cases h;cases r<;>simp_all
   ·cases h;simp_all
 ·split at h
  ·rename_i ec
   split at h
   ·rename_i e;cases h;cases r<;>simp_all
   ·cases h;simp_all
  ·split at h
   ·cases h;simp_all
   ·cases h
theorem Bl {c:UInt8} {d e:Option UInt8} {t:Tk} (h:mM c d=(0,t,1)) (he:e≠some 62∧e≠some 61):mM c e=(0,t,1):=by
 unfold mM at h ⊢
 split at h
 ·rename_i ec
  rw[if_pos ec,if_neg he.1,if_neg he.2]
  split at h
  ·cases h
  ·split at h
   ·cases h
   ·exact h
 ·rename_i ec
  rw[if_neg ec]
  split at h
  ·rename_i ec2
   rw[if_pos ec2,if_neg he.2]
   split at h
   ·cases h
   ·exact h
  ·rename_i ec2
   rw[if_neg ec2]
   exact h
theorem ku {x:List UInt8} (h:Stop x):x.head?≠some 62∧x.head?≠some 61∧x.head?≠some 39:=by
 rcases h with rfl | ⟨c,r,rfl,h⟩
 ·simp
 ·rcases h with rfl | rfl | rfl | rfl | rfl<;>simp<;>decide
theorem Cn (r:List UInt8):(txt r).2.2=true→∃raw,r=raw++39::(txt r).2.1∧∀x:List UInt8,x.head?≠some 39→txt (raw++39::x)=((txt r).1,x,true):=by
 have last : ∀x:List UInt8,x.head?≠some 39→txt (39::x)=([],x,true):=fun x hx=>by
  match x,hx with
  | [],_=>simp[txt]
  | d::x,hx=>simp at hx;simp[txt,hx]
 fun_induction txt r with
 | case1=>simp
 | case2=>exact fun _=>⟨[],by simp,fun x hx=>last x hx⟩
 | case3 c h=>simp
 |
  case4 r ih =>
  intro h
  obtain⟨raw,e,hx⟩:=ih h
  refine ⟨39::39::raw,by simp[← e],fun x h=>?_⟩
  have:=hx x h
  simp[txt,this]
 | case5 d r hd=>exact fun _=>⟨[],by simp,fun x hx=>last x hx⟩
 |
  case6 c d r hc ih =>
  intro h
  obtain⟨raw,e,hx⟩:=ih h
  refine ⟨c::raw,by simp[← e],fun x h=>?_⟩
  have:=hx x h
  match raw,this with
  | [],this=>simp at this ⊢;simp[txt,hc,this]
  | a::raw,this=>simp at this ⊢;simp[txt,hc,this]
theorem dV {a x:List UInt8} {c:UInt8} {y:List UInt8} (h:a++x=c::y):jC (a++x)=if bT dX c=true then iY (a++x) else if bT nD c=true then jV (a++x) else if bT dH c=true then jY (a++x) else if bT [39] c=true then iU (a++x) else mD (a++x):=by
 rw[h];rfl
theorem wH {c:UInt8} (h:bT dX c=true):bT dD c=true:=by
 simp only[bT,List.contains_iff_mem,dD,List.mem_append] at h ⊢;exact .inl h
theorem Bj {s:List UInt8} {t:Tk} {n:Nat} (h:jC s=(0,t,n)):1≤n∧n≤s.length∧t.p=0∧∀x,Stop x→jC (s.take n++x)=(0,t,n):=by
 match s,h with
 | [],h=>simp[jC] at h
 |
  c::r,h =>
  unfold jC at h
  dsimp only at h
  by_cases hl:bT dX c=true
  ·rw[if_pos hl] at h
   unfold iY at h
   have h1:=nC (r:=r) (wH hl)
   have h2:=nA (bT dD) (c::r)
   have hloc:=fun x (hx:Stop x)=>mX (r:=r) (wH hl) (jN hx).1
   generalize hn:row (bT dD) (c::r)=m at *
   split at h
   ·cases h
   ·split at h
    ·cases h
    ·rename_i g1 g2
     cases h
     refine ⟨h1,h2,rfl,fun x hx=>?_⟩
     obtain⟨⟨y,hy⟩,e1,e2,e3⟩:=hloc x hx
     rw[dV hy,if_pos hl,iY,e1,e2,e3,jZ hx,if_neg (by simp),if_neg g2]
  ·rw[if_neg hl] at h
   by_cases hu:bT nD c=true
   ·rw[if_pos hu] at h
    unfold jV at h
    have h1:=nC (r:=r) hu
    have h2:=nA (bT nD) (c::r)
    have hloc:=fun x (hx:Stop x)=>mX (r:=r) hu (jN hx).2.1
    generalize hn:row (bT nD) (c::r)=m at *
    split at h
    ·cases h
    ·split at h
     ·cases h
     ·rename_i g1 g2
      cases h
      refine ⟨h1,h2,rfl,fun x hx=>?_⟩
      obtain⟨⟨y,hy⟩,e1,e2,e3⟩:=hloc x hx
      rw[dV hy,if_neg hl,if_pos hu,jV,e1,e2,e3,jZ hx,if_neg (by simp),if_neg g2]
   ·rw[if_neg hu] at h
    by_cases hd:bT dH c=true
    ·rw[if_pos hd] at h
     unfold jY at h
     have h1:=nC (r:=r) hd
     have h2:=nA (bT dH) (c::r)
     have hloc:=fun x (hx:Stop x)=>mX (r:=r) hd (jN hx).2.2.1
     generalize hn:row (bT dH) (c::r)=m at *
     split at h
     ·cases h
     ·rename_i g1
      have hm:m=n∧t.p=0:=by
       cases ha:Lib.atoiAll ((c::r).take m)<;>rw[ha] at h<;>cases h
       exact⟨rfl,rfl⟩
      obtain⟨rfl,hp⟩:=hm
      refine ⟨h1,h2,hp,fun x hx=>?_⟩
      obtain⟨⟨y,hy⟩,e1,e2,e3⟩:=hloc x hx
      rw[dV hy,if_neg hl,if_neg hu,if_pos hd,jY,e1,e2,e3,jZ hx,if_neg (by simp),h]
    ·rw[if_neg hd] at h
     by_cases hq:bT [39] c=true
     ·rw[if_pos hq] at h
      have hc:c=39:=by simpa [bT] using hq
      subst hc
      unfold iU at h
      rw[List.drop_succ_cons,List.drop_zero] at h
      unfold wO at h
      split at h
      ·cases h
      ·rename_i g1
       split at h
       ·cases h
       ·rename_i g2
        have hcl:(txt r).2.2=true:=by simpa using g2
        obtain⟨raw,e,hx⟩:=Cn r hcl
        have hlen:=congrArg List.length e
        simp only[List.length_append,List.length_cons] at hlen
        cases h
        have hnn:(39::r:List UInt8).length-(txt r).2.1.length=raw.length+2:=by simp only[List.length_cons];omega
        rw[hnn]
        have htk:(39::r:List UInt8).take (raw.length+2)=39::(raw++[39]):=by
         rw[List.take_succ_cons]
         conv=>lhs;rw[e]
         rw[List.take_append,List.take_of_length_le (by omega)]
         simp
        refine ⟨by omega,by simp only[List.length_cons];omega,rfl,fun x hxs=>?_⟩
        have e2:=hx x (ku hxs).2.2
        rw[htk,show (39::(raw++[39]):List UInt8)++x=39::(raw++39::x) by simp]
        unfold jC
        dsimp only
        rw[if_neg hl,if_neg hu,if_neg hd,if_pos hq,iU,List.drop_succ_cons,List.drop_zero,e2,wO]
        dsimp only
        rw[if_neg g1,if_neg (by simp)]
        simp only[List.length_cons,List.length_append]
        congr 2
        omega
     ·rw[if_neg hq,sign_eq] at h
      obtain⟨hn,_,_,hp⟩:=o9 h
      rcases hn with rfl | ⟨rfl,hne⟩
      ·refine ⟨Nat.le_refl _,by simp,hp,fun x hx=>?_⟩
       rw[List.take_succ_cons,List.take_zero,List.cons_append,List.nil_append]
       unfold jC
       dsimp only
       rw[if_neg hl,if_neg hu,if_neg hd,if_neg hq,sign_eq]
       exact Bl h ⟨(ku hx).1,(ku hx).2.1⟩
      ·match r,hne,h with
       |
        d::r,_,h =>
        refine ⟨by omega,by simp,hp,fun x hx=>?_⟩
        rw[List.take_succ_cons,List.take_succ_cons,List.take_zero]
        show jC (c::d::x)=_
        unfold jC
        dsimp only
        rw[if_neg hl,if_neg hu,if_neg hd,if_neg hq,sign_eq]
        exact h
end Go.Proofs.YtfeglkleoijlaaaGreatDoor
