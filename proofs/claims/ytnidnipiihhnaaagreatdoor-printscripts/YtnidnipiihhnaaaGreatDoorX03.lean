/- Packed for the hand-in: LLow LCutF LCutH LCut -/
import Derived.Test.YtnidnipiihhnaaaGreatDoorX02
import Derived.Shelf.Pu.Clone
import Derived.Deep.QuietTactic
import Derived.BigQuiet
import Derived.Deep.RegionHeld3
namespace Go.Proofs.YtnidnipiihhnaaaGreatDoor
open Go.RowKit Go.Shelf
set_option linter.unusedSimpArgs false
set_option linter.unusedVariables false
set_option maxRecDepth 20000
set_option maxHeartbeats 8000000
theorem run_ix (s:List UInt8) (j:Nat) (c:UInt8) (h:s[j]?=some c) (w:World):(Instr.index 9 (.string (str8 s)) (.int .i64 (j:Int))).run Tryz.prog w = .ok (.int .u8 (c.toNat:Int)) w:=by
 obtain⟨hj,e⟩:=List.getElem?_eq_some_iff.1 h
 have hsz:(str8 s).size=s.length:=rfl
 rw[run_index_string w 9 (str8 s) .i64 _ Tryz.underlying9,dif_pos ⟨by omega,by rw[hsz];omega⟩]
 rw[← e]
 rfl
structure TabL (w:World):Prop where
 tv:TabV w
 lt:9<w.heap.size
 spc:Lib.TabIs Tryz.prog w "strings.asciiSpace" .u8 Lib.asciiSpaceTab
 rng : ∃ev,w.cell? ⟨6,0,none⟩=some ev∧(ev = .nilIface∨∃te pe,ev = .iface te pe)
theorem TabL.below {w w':World} {B:Nat} (h:TabL w) (hb:Below B w w') (hB:9<B):TabL w':=by
 refine ⟨h.tv.below hb (by omega),Nat.lt_of_lt_of_le h.lt hb.size,?_,?_⟩
 ·have hp:=h.spc
  have hg:Tryz.prog.globalNamed "strings.asciiSpace" = some 1:=by kernel_rfl
  unfold Lib.TabIs World.var? at hp ⊢
  rw[hg] at hp ⊢
  have e:w'.heap[1]?=w.heap[1]?:=hb.block _ (by omega)
  simp only[Option.bind_some] at hp ⊢
  rw[e]
  exact hp
 ·obtain⟨ev,h1,h2⟩:=h.rng
  exact⟨ev,by rw[hb.cell (p:=⟨6,0,none⟩) (by show 6<B;omega)];exact h1,h2⟩
theorem TabL.on {w w':World} (h:TabL w) (hb:Below w.heap.size w w'):TabL w':=h.below hb h.lt
def PredS (g:Nat) (lb:Array Value) (p:UInt8→Bool) (w:World):Prop :=
 ∀(W:World) (c:UInt8),Below w.heap.size w W→Calls Tryz.prog g (#[.int .u8 (c.toNat:Int)]++lb) W fun e w'=>e = .returned (.bool (p c))∧w'=W
theorem PredS.on {g:Nat} {lb:Array Value} {p:UInt8→Bool} {w w':World} (h:PredS g lb p w) (hb:Below w.heap.size w w'):PredS g lb p w' :=
 fun W c hW=>h W c (hb.trans (hW.mono hb.size))
theorem indexByte_any (l:List UInt8) (c:UInt8) (w:World):Calls Tryz.prog 160 #[.string (str8 l),.int .u8 (c.toNat:Int)] w fun e w'=>e = .returned (.int .i64 (Lib.indexByte l c))∧w'=w:=by
 have:=Any.strings_IndexByte laysIx (str8 l) (c.toNat:Int) w
 rw[numL.1] at this
 have e1:(c.toNat:Int).toNat.toUInt8=c:=by simp
 rw[e1] at this
 exact this
theorem oneOf1_at (w:World) (B:Nat) (l:List UInt8) (hB:B<w.heap.size) (hc:w.cell? ⟨B,0,none⟩=some (.string (str8 l))):PredS 159 #[.pointer (some ⟨B,0,none⟩)] (inS l) w:=fun W c hb=>by
 have hc':W.cell? ⟨B,0,none⟩=some (.string (str8 l)):=(hb.cell (p:=⟨B,0,none⟩) hB).trans hc
 have hix:=index_inS l c
 have hge:=Lib.indexByte_ge l c
 have HI:=hid (indexByte_any l c W)
 obtain⟨j,hj⟩:∃j,Lib.indexByte l c=j:=⟨_,rfl⟩
 rw[hj] at hix hge HI
 rw[← hix]
 clear hix hj hc
 show Calls Tryz.prog 159 #[.int .u8 (c.toNat:Int),.pointer (some ⟨B,0,none⟩)] W _
 go_enter Tryz.func159,Tryz.ntmps159
 go_wp2_with (go_at_call 160;refine HI.out.mono ?_;rintro e w1 ⟨rfl,rfl⟩)
 go_ret
 exact⟨by simp,rfl⟩
theorem oneOf_any (l:ByteArray) (w:World):Calls Tryz.prog 109 #[.string l] w fun e w'=>e = .returned (.func (.func 159) #[] #[.pointer (some ⟨w.heap.size,0,none⟩)])∧w'=w.alloc (.cells #[.string l] 9):=by
 go_enter Tryz.func109,Tryz.ntmps109
 go_wp2
 go_ret
 exact⟨rfl,rfl⟩
theorem oneOf_tells (l:List UInt8) (w:World):Calls Tryz.prog 109 #[.string (str8 l)] w fun e w'=>(e = .returned (.func (.func 159) #[] #[.pointer (some ⟨w.heap.size,0,none⟩)])∧PredS 159 #[.pointer (some ⟨w.heap.size,0,none⟩)] (inS l) w')∧Below w.heap.size w w':=by
 refine (oneOf_any _ w).mono ?_
 rintro e w' ⟨rfl,rfl⟩
 exact⟨⟨rfl,oneOf1_at _ _ _ (by simp) (by simp)⟩,(Below.refl _ _).alloc (Nat.le_refl _) _⟩
theorem rowSize_any (s:List UInt8) (g:Nat) (lb:Array Value) (p:UInt8→Bool) (w:World) (hs:s.length≤140737488351232) (eg : ∀args w,(callFunc g args).run Tryz.prog w = .ok (.enter g args) w) (hp:PredS g lb p w) :
  Calls Tryz.prog 110 #[.string (str8 s),.func (.func g) #[] lb] w fun e w'=>e = .returned (.int .i64 (row p s:Nat))∧w'=w:=by
 have hsz:(str8 s).size=s.length:=rfl
 have HP:=hid (fun c=>hp w c (Below.refl _ _))
 clear hp
 go_enter Tryz.func110,Tryz.ntmps110
 go_wp2_with fail
 go_loopw [5,8] (fun _ i wr=>∃k:Nat,k≤s.length∧i = .int .i64 k∧wr=w∧Hid (row p s=k+row p (s.drop k))) (fun _ i _=>s.length-(intOf i).toNat)
 case atStart=>exact⟨0,Nat.zero_le _,rfl,rfl,hid (by simp)⟩
 case round =>
  obtain⟨k,hk,rfl,rfl,HR⟩:=hrel
  by_cases hlt:k<s.length
  ·obtain⟨c,hc⟩:∃c,s[k]?=some c:=⟨_,List.getElem?_eq_getElem hlt⟩
   have hix:=run_ix s k c hc
   have hd:s.drop k=c::s.drop (k+1):=by
    obtain⟨h1,h2⟩:=List.getElem?_eq_some_iff.1 hc
    rw[List.drop_eq_getElem_cons h1,h2]
   have hlt':((k:Int)<((str8 s).size:Int)):=by rw[hsz];omega
   have hcall:=HP.out c
   cases hpc:p c with
   |
    true =>
    rw[hpc] at hcall
    have HR2:Hid (row p s=(k+1)+row p (s.drop (k+1))):=hid (by rw[HR.out,hd,row_cons_pos hpc];omega)
    clear HR hd hc hpc
    go_wp2_with (go_at_fn g;refine hcall.mono ?_;rintro e w' ⟨rfl,rfl⟩)
    go_roundw
    case rel=>exact⟨k+1,by omega,by go_num,by first | rfl | trivial,HR2⟩
    case measure=>simp[intOf];omega
   |
    false =>
    rw[hpc] at hcall
    have HR2:Hid (row p s=k):=hid (by rw[HR.out,hd,row_cons_neg hpc];omega)
    clear HR hd hc hpc
    go_wp2_with (go_at_fn g;refine hcall.mono ?_;rintro e w' ⟨rfl,rfl⟩)
    go_ret
    exact⟨by rw[HR2.out];rfl,rfl⟩
  ·have hlt' : ¬((k:Int)<((str8 s).size:Int)):=by rw[hsz];omega
   have HR2:Hid (row p s=s.length):=hid (by rw[HR.out,List.drop_of_length_le (by omega),row_nil];omega)
   clear HR
   go_wp2
   go_ret
   exact⟨by rw[HR2.out];rfl,rfl⟩
theorem rowOne_any (s l:List UInt8) (B:Nat) (w:World) (hs:s.length≤140737488351232) (hp:PredS 159 #[.pointer (some ⟨B,0,none⟩)] (inS l) w) :
  Calls Tryz.prog 110 #[.string (str8 s),.func (.func 159) #[] #[.pointer (some ⟨B,0,none⟩)]] w fun e w'=>e = .returned (.int .i64 (row (inS l) s:Nat))∧w'=w :=
 rowSize_any s _ _ _ w hs (enters_of Tryz.func159 (by kernel_rfl) rfl) hp
def renC:Ren:=⟨fun x=>if x=25 then 164 else x,fun x=>if x=0 then 0 else if x=3 then 3 else if x=4 then 4 else if x=5 then 5 else if x=9 then 9 else if x=37 then 183 else if x=47 then 197 else x,fun x=>x⟩
theorem laysC:LaysPu.n25 Tryz.prog renC where
 mixed:=by kernel_rfl
 f25:=by kernel_rfl
 t0:=by kernel_rfl
 a0:=fun w=>by kernel_rfl
 z0:=fun w=>by kernel_rfl
 v0:=fun w=>by kernel_rfl
 i0:=by kernel_rfl
 t3:=by kernel_rfl
 a3:=fun w=>by kernel_rfl
 z3:=fun w=>by kernel_rfl
 v3:=fun w=>by kernel_rfl
 i3:=by kernel_rfl
 t4:=by kernel_rfl
 a4:=fun w=>by kernel_rfl
 z4:=fun w=>by kernel_rfl
 v4:=fun w=>by kernel_rfl
 i4:=by kernel_rfl
 t5:=by kernel_rfl
 a5:=fun w=>by kernel_rfl
 z5:=fun w=>by kernel_rfl
 v5:=fun w=>by kernel_rfl
 i5:=by kernel_rfl
 t9:=by kernel_rfl
 a9:=fun w=>by kernel_rfl
 z9:=fun w=>by kernel_rfl
 v9:=fun w=>by kernel_rfl
 i9:=by kernel_rfl
 t37:=by kernel_rfl
 a37:=fun w=>by kernel_rfl
 z37:=fun w=>by kernel_rfl
 v37:=fun w=>by kernel_rfl
 i37:=by kernel_rfl
 t47:=by kernel_rfl
 a47:=fun w=>by kernel_rfl
 z47:=fun w=>by kernel_rfl
 v47:=fun w=>by kernel_rfl
 i47:=by kernel_rfl
theorem strClone_any (s:ByteArray) (w:World) (hs:s.size≤140737488355328):Calls Tryz.prog 117 #[.string s] w fun e w'=>e = .returned (.string s)∧Below w.heap.size w w':=by
 have HC:=hid (AnyPu.stringslite_Clone laysC s w (by omega))
 go_enter Tryz.func117,Tryz.ntmps117
 go_wp2_with fail
 refine HC.out.mono ?_
 rintro e w1 ⟨rfl,h1⟩
 go_wp2
 go_ret
 exact⟨rfl,h1⟩
def cutA (x:Nat × Tk × Nat):Value:=.tuple #[.agg #[.int .i64 x.2.1.k,.string (str8 x.2.1.s),.int .i64 x.2.1.n,.int .i64 x.2.1.p],.int .i64 (x.2.2:Int),.int .i64 (x.1:Int)]
theorem cells4 {w:World} {g:Nat} {a b c d:Value} {t:TypeId} (h:w.heap[g]?=some (.cells #[a,b,c,d] t)) :
  w.cell? ⟨g,0,none⟩=some a∧w.cell? ⟨g,1,none⟩=some b∧w.cell? ⟨g,2,none⟩=some c∧w.cell? ⟨g,3,none⟩=some d∧∀i,w.frozen? ⟨g,i,none⟩=false :=
 ⟨by rw[cell_row _ _ _ _ _ _ h];rfl,by rw[cell_row _ _ _ _ _ _ h];rfl,by rw[cell_row _ _ _ _ _ _ h];rfl,by rw[cell_row _ _ _ _ _ _ h];rfl,fun i=>by simp[World.frozen?,h]⟩
theorem box4 (w:World) (a b c d:Value) (t:TypeId):∃W,w.alloc (.cells #[a,b,c,d] t)=W∧Below w.heap.size w W∧w.heap.size<W.heap.size∧∀W',Below W.heap.size W W'→W'.heap[w.heap.size]?=some (.cells #[a,b,c,d] t) :=
 ⟨_,rfl,(Below.refl _ _).alloc (Nat.le_refl _) _,by simp,fun W' h=>(h.block _ (by simp)).trans (heap_alloc_new w _)⟩
theorem e4:cutA (4,zTk,0) = .tuple #[.agg #[.int .i64 0,.string ⟨#[]⟩,.int .i64 0,.int .i64 0],.int .i64 0,.int .i64 4]:=rfl
theorem e2:cutA (2,zTk,0) = .tuple #[.agg #[.int .i64 0,.string ⟨#[]⟩,.int .i64 0,.int .i64 0],.int .i64 0,.int .i64 2]:=rfl
theorem e3:cutA (3,zTk,0) = .tuple #[.agg #[.int .i64 0,.string ⟨#[]⟩,.int .i64 0,.int .i64 0],.int .i64 0,.int .i64 3]:=rfl
theorem e7:cutA (7,zTk,0) = .tuple #[.agg #[.int .i64 0,.string ⟨#[]⟩,.int .i64 0,.int .i64 0],.int .i64 0,.int .i64 7]:=rfl
def Bd (g:Nat) (acc:List UInt8) (w:World):Prop:=Lib.IsBuilder 185 5 g g (Lib.byteCells acc) w
theorem Bd.drewN {g:Nat} {acc:List UInt8} {w:World} (h:Bd g acc w) (n:Nat):Bd g acc (w.drewN n):=h
end Go.Proofs.YtnidnipiihhnaaaGreatDoor
namespace Go.Proofs.YtnidnipiihhnaaaGreatDoor
set_option linter.unusedSimpArgs false
set_option linter.unusedVariables false
set_option maxHeartbeats 8000000
theorem local_row {p:UInt8→Bool} {c:UInt8} {r x:List UInt8} (hc:p c=true) (hx:row p x=0) :
  (∃y,(c::r).take (row p (c::r))++x=c::y)∧row p ((c::r).take (row p (c::r))++x)=row p (c::r)∧((c::r).take (row p (c::r))++x).drop (row p (c::r))=x∧((c::r).take (row p (c::r))++x).take (row p (c::r))=(c::r).take (row p (c::r)):=by
 have hl:((c::r).take (row p (c::r))).length=row p (c::r):=by
  rw[List.length_take];have:=row_le p (c::r);omega
 refine ⟨⟨r.take (row p r)++x,by rw[row_cons_pos hc];simp⟩,?_,?_,?_⟩
 ·rw[row_append (take_row_all p (c::r)) hx,hl]
 ·exact List.drop_left' hl
 ·exact List.take_left' hl
def oneS:List UInt8:=[40,41,44,59,46,42,43,45,47,37,61]
def signH (c:UInt8) (d:Option UInt8):Nat × Tk × Nat :=
 if c=60 then (if d=some 62 then (0,⟨5,[60,62],0,0⟩,2) else if d=some 61 then (0,⟨5,[60,61],0,0⟩,2) else (0,⟨5,[60],0,0⟩,1))
 else if c=62 then (if d=some 61 then (0,⟨5,[62,61],0,0⟩,2) else (0,⟨5,[62],0,0⟩,1))
 else if c∈oneS then (0,⟨5,[c],0,0⟩,1) else (4,zTk,0)
theorem sign_eq (c:UInt8) (r:List UInt8):cutSignT (c::r)=signH c r.head?:=by
 have one : ∀g:UInt8,([g].isPrefixOf (c::r))=(g==c):=fun g=>by simp[List.isPrefixOf]
 have two : ∀g h:UInt8,([g,h].isPrefixOf (c::r))=(g==c&&r.head?==some h):=fun g h=>by
  cases r with
  | nil=>simp[List.isPrefixOf]
  |
   cons d r =>
   simp only[List.isPrefixOf,List.head?_cons,Bool.and_true]
   congr 1
   rw[Bool.eq_iff_iff]
   simp
   exact eq_comm
 unfold cutSignT signsB signH oneS
 simp only[signT,one,two,List.length_cons,List.length_nil]
 by_cases h0:c=60
 ·subst h0
  by_cases h1:r.head?=some 62
  ·simp[h1]
  ·by_cases h2:r.head?=some 61
   ·simp[h1,h2]
   ·simp[h1,h2]
 ·by_cases h1:c=62
  ·subst h1
   by_cases h2:r.head?=some 61
   ·simp[h2]
   ·simp[h2]
  ·have e0:((60:UInt8)==c)=false:=by simpa using fun e=>h0 e.symm
   have e1:((62:UInt8)==c)=false:=by simpa using fun e=>h1 e.symm
   simp only[e0,e1,Bool.false_and,if_neg h0,if_neg h1,Bool.false_eq_true,if_false,beq_iff_eq,List.mem_cons,List.not_mem_nil,or_false]
   by_cases g1:c=40
   ·simp[g1]
   by_cases g2:c=41
   ·simp[g2]
   by_cases g3:c=44
   ·simp[g3]
   by_cases g4:c=59
   ·simp[g4]
   by_cases g5:c=46
   ·simp[g5]
   by_cases g6:c=42
   ·simp[g6]
   by_cases g7:c=43
   ·simp[g7]
   by_cases g8:c=45
   ·simp[g8]
   by_cases g9:c=47
   ·simp[g9]
   by_cases g10:c=37
   ·simp[g10]
   by_cases g11:c=61
   ·simp[g11]
   rw[if_neg (fun e=>g1 e.symm),if_neg (fun e=>g2 e.symm),if_neg (fun e=>g3 e.symm),if_neg (fun e=>g4 e.symm),if_neg (fun e=>g5 e.symm),if_neg (fun e=>g6 e.symm),if_neg (fun e=>g7 e.symm),if_neg (fun e=>g8 e.symm),if_neg (fun e=>g9 e.symm),if_neg (fun e=>g10 e.symm),if_neg (fun e=>g11 e.symm)]
   simp[g1,g2,g3,g4,g5,g6,g7,g8,g9,g10,g11]
theorem signH_used {c:UInt8} {d:Option UInt8} {t:Tk} {n:Nat} (h:signH c d=(0,t,n)):(n=1∨n=2∧d≠none)∧t.k=5∧t.n=0∧t.p=0:=by
 unfold signH at h
 split at h
 ·split at h
  ·rename_i e;cases h;simp[e]
  ·split at h
   ·rename_i e;cases h;simp[e]
   ·cases h;simp
 ·split at h
  ·split at h
   ·rename_i e;cases h;simp[e]
   ·cases h;simp
  ·split at h
   ·cases h;simp
   ·cases h
theorem signH_bytes {c:UInt8} {r:List UInt8} {t:Tk} {n:Nat} (h:signH c r.head?=(0,t,n)):t.s=(c::r).take n:=by
 unfold signH at h
 split at h
 ·rename_i ec
  split at h
  ·rename_i e;cases h;cases r<;>simp_all
  ·split at h
   ·rename_i e;cases h;cases r<;>simp_all
   ·cases h;simp_all
 ·split at h
  ·rename_i ec
   split at h
   ·rename_i e;cases h;cases r<;>simp_all
   ·cases h;simp_all
  ·split at h
   ·cases h;simp_all
   ·cases h
theorem signH_one {c:UInt8} {d e:Option UInt8} {t:Tk} (h:signH c d=(0,t,1)) (he:e≠some 62∧e≠some 61):signH c e=(0,t,1):=by
 unfold signH at h ⊢
 split at h
 ·rename_i ec
  rw[if_pos ec,if_neg he.1,if_neg he.2]
  split at h
  ·cases h
  ·split at h
   ·cases h
   ·exact h
 ·rename_i ec
  rw[if_neg ec]
  split at h
  ·rename_i ec2
   rw[if_pos ec2,if_neg he.2]
   split at h
   ·cases h
   ·exact h
  ·rename_i ec2
   rw[if_neg ec2]
   exact h
theorem stop_head {x:List UInt8} (h:Stop x):x.head?≠some 62∧x.head?≠some 61∧x.head?≠some 39:=by
 rcases h with rfl | ⟨c,r,rfl,h⟩
 ·simp
 ·rcases h with rfl | rfl | rfl | rfl | rfl<;>simp<;>decide
theorem txt_ends (r:List UInt8):(txt r).2.2=true→∃raw,r=raw++39::(txt r).2.1∧∀x:List UInt8,x.head?≠some 39→txt (raw++39::x)=((txt r).1,x,true):=by
 have last : ∀x:List UInt8,x.head?≠some 39→txt (39::x)=([],x,true):=fun x hx=>by
  match x,hx with
  | [],_=>simp[txt]
  | d::x,hx=>simp at hx;simp[txt,hx]
 fun_induction txt r with
 | case1=>simp
 | case2=>exact fun _=>⟨[],by simp,fun x hx=>last x hx⟩
 | case3 c h=>simp
 |
  case4 r ih =>
  intro h
  obtain⟨raw,e,hx⟩:=ih h
  refine ⟨39::39::raw,by simp[← e],fun x h=>?_⟩
  have:=hx x h
  simp[txt,this]
 | case5 d r hd=>exact fun _=>⟨[],by simp,fun x hx=>last x hx⟩
 |
  case6 c d r hc ih =>
  intro h
  obtain⟨raw,e,hx⟩:=ih h
  refine ⟨c::raw,by simp[← e],fun x h=>?_⟩
  have:=hx x h
  match raw,this with
  | [],this=>simp at this ⊢;simp[txt,hc,this]
  | a::raw,this=>simp at this ⊢;simp[txt,hc,this]
theorem head_ne_of_append {a x:List UInt8} {c:UInt8} {y:List UInt8} (h:a++x=c::y):cutT (a++x)=if inS lowsB c=true then cutNameT (a++x) else if inS upsB c=true then cutWordT (a++x) else if inS digsB c=true then cutNumT (a++x) else if inS [39] c=true then cutTextT (a++x) else cutSignT (a++x):=by
 rw[h];rfl
theorem low_name {c:UInt8} (h:inS lowsB c=true):inS nameB c=true:=by
 simp only[inS,List.contains_iff_mem,nameB,List.mem_append] at h ⊢;exact .inl h
theorem cut_local {s:List UInt8} {t:Tk} {n:Nat} (h:cutT s=(0,t,n)):1≤n∧n≤s.length∧t.p=0∧∀x,Stop x→cutT (s.take n++x)=(0,t,n):=by
 match s,h with
 | [],h=>simp[cutT] at h
 |
  c::r,h =>
  unfold cutT at h
  dsimp only at h
  by_cases hl:inS lowsB c=true
  ·rw[if_pos hl] at h
   unfold cutNameT at h
   have h1:=row_first (r:=r) (low_name hl)
   have h2:=row_le (inS nameB) (c::r)
   have hloc:=fun x (hx:Stop x)=>local_row (r:=r) (low_name hl) (stop_row hx).1
   generalize hn:row (inS nameB) (c::r)=m at *
   split at h
   ·cases h
   ·split at h
    ·cases h
    ·rename_i g1 g2
     cases h
     refine ⟨h1,h2,rfl,fun x hx=>?_⟩
     obtain⟨⟨y,hy⟩,e1,e2,e3⟩:=hloc x hx
     rw[head_ne_of_append hy,if_pos hl,cutNameT,e1,e2,e3,stop_runs hx,if_neg (by simp),if_neg g2]
  ·rw[if_neg hl] at h
   by_cases hu:inS upsB c=true
   ·rw[if_pos hu] at h
    unfold cutWordT at h
    have h1:=row_first (r:=r) hu
    have h2:=row_le (inS upsB) (c::r)
    have hloc:=fun x (hx:Stop x)=>local_row (r:=r) hu (stop_row hx).2.1
    generalize hn:row (inS upsB) (c::r)=m at *
    split at h
    ·cases h
    ·split at h
     ·cases h
     ·rename_i g1 g2
      cases h
      refine ⟨h1,h2,rfl,fun x hx=>?_⟩
      obtain⟨⟨y,hy⟩,e1,e2,e3⟩:=hloc x hx
      rw[head_ne_of_append hy,if_neg hl,if_pos hu,cutWordT,e1,e2,e3,stop_runs hx,if_neg (by simp),if_neg g2]
   ·rw[if_neg hu] at h
    by_cases hd:inS digsB c=true
    ·rw[if_pos hd] at h
     unfold cutNumT at h
     have h1:=row_first (r:=r) hd
     have h2:=row_le (inS digsB) (c::r)
     have hloc:=fun x (hx:Stop x)=>local_row (r:=r) hd (stop_row hx).2.2.1
     generalize hn:row (inS digsB) (c::r)=m at *
     split at h
     ·cases h
     ·rename_i g1
      have hm:m=n∧t.p=0:=by
       cases ha:Lib.atoiAll ((c::r).take m)<;>rw[ha] at h<;>cases h
       exact⟨rfl,rfl⟩
      obtain⟨rfl,hp⟩:=hm
      refine ⟨h1,h2,hp,fun x hx=>?_⟩
      obtain⟨⟨y,hy⟩,e1,e2,e3⟩:=hloc x hx
      rw[head_ne_of_append hy,if_neg hl,if_neg hu,if_pos hd,cutNumT,e1,e2,e3,stop_runs hx,if_neg (by simp),h]
    ·rw[if_neg hd] at h
     by_cases hq:inS [39] c=true
     ·rw[if_pos hq] at h
      have hc:c=39:=by simpa [inS] using hq
      subst hc
      unfold cutTextT at h
      rw[List.drop_succ_cons,List.drop_zero] at h
      unfold textT at h
      split at h
      ·cases h
      ·rename_i g1
       split at h
       ·cases h
       ·rename_i g2
        have hcl:(txt r).2.2=true:=by simpa using g2
        obtain⟨raw,e,hx⟩:=txt_ends r hcl
        have hlen:=congrArg List.length e
        simp only[List.length_append,List.length_cons] at hlen
        cases h
        have hnn:(39::r:List UInt8).length-(txt r).2.1.length=raw.length+2:=by simp only[List.length_cons];omega
        rw[hnn]
        have htk:(39::r:List UInt8).take (raw.length+2)=39::(raw++[39]):=by
         rw[List.take_succ_cons]
         conv=>lhs;rw[e]
         rw[List.take_append,List.take_of_length_le (by omega)]
         simp
        refine ⟨by omega,by simp only[List.length_cons];omega,rfl,fun x hxs=>?_⟩
        have e2:=hx x (stop_head hxs).2.2
        rw[htk,show (39::(raw++[39]):List UInt8)++x=39::(raw++39::x) by simp]
        unfold cutT
        dsimp only
        rw[if_neg hl,if_neg hu,if_neg hd,if_pos hq,cutTextT,List.drop_succ_cons,List.drop_zero,e2,textT]
        dsimp only
        rw[if_neg g1,if_neg (by simp)]
        simp only[List.length_cons,List.length_append]
        congr 2
        omega
     ·rw[if_neg hq,sign_eq] at h
      obtain⟨hn,_,_,hp⟩:=signH_used h
      rcases hn with rfl | ⟨rfl,hne⟩
      ·refine ⟨Nat.le_refl _,by simp,hp,fun x hx=>?_⟩
       rw[List.take_succ_cons,List.take_zero,List.cons_append,List.nil_append]
       unfold cutT
       dsimp only
       rw[if_neg hl,if_neg hu,if_neg hd,if_neg hq,sign_eq]
       exact signH_one h ⟨(stop_head hx).1,(stop_head hx).2.1⟩
      ·match r,hne,h with
       |
        d::r,_,h =>
        refine ⟨by omega,by simp,hp,fun x hx=>?_⟩
        rw[List.take_succ_cons,List.take_succ_cons,List.take_zero]
        show cutT (c::d::x)=_
        unfold cutT
        dsimp only
        rw[if_neg hl,if_neg hu,if_neg hd,if_neg hq,sign_eq]
        exact h
end Go.Proofs.YtnidnipiihhnaaaGreatDoor
