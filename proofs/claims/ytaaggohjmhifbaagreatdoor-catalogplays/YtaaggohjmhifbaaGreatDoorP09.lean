/- Packed for the hand-in: PRead -/
import Derived.Test.YtaaggohjmhifbaaGreatDoorP06
import Derived.Test.YtaaggohjmhifbaaGreatDoorP08
namespace Go.Proofs.YtaaggohjmhifbaaGreatDoor
open Go.RowKit Go.Shelf
set_option linter.unusedSimpArgs false
set_option linter.unusedVariables false
set_option maxRecDepth 20000
set_option maxHeartbeats 8000000
abbrev Fr (g:Nat) (w w':World):Prop:=Spares (fun k=>k=g) w w'
structure RdAt (F:Nat) (w:World) (g:Nat) (r:Rd):Prop where
 good:Good F r
 lie : ∃v,w.heap[g]?=some (.cells #[v,.int .i64 r.d,.int .i64 r.bad,.int .i64 r.bp] 151)∧Toks g w v r.ts
theorem RdAt.lt {F:Nat} {w:World} {g:Nat} {r:Rd} (h:RdAt F w g r):g<w.heap.size:=by
 obtain⟨v,hv,_⟩:=h.lie
 exact (Array.getElem?_eq_some_iff.1 hv).1
theorem Toks.keeps {R:Nat→Prop} {B:Nat} {w w':World} {v:Value} {xs:List Tk} (h:Toks B w v xs) (hk:Spares R w w') (hR : ∀i,i<B→¬R i):Toks B w' v xs:=by
 obtain⟨a,c,hv,h1,h2,h3⟩:=h
 refine ⟨a,c,hv,h1,h2,fun hne=>?_⟩
 obtain⟨b,off,ha,hlt,hc⟩:=h3 hne
 refine ⟨b,off,ha,hlt,fun j x hx=>?_⟩
 obtain⟨c0,c1,c2,c3⟩:=hc j x hx
 exact⟨hk.cell c0 (hR b hlt),hk.cell c1 (hR b hlt),hk.cell c2 (hR b hlt),hk.cell c3 (hR b hlt)⟩
theorem RdAt.keeps {F:Nat} {R:Nat→Prop} {w w':World} {g:Nat} {r:Rd} (h:RdAt F w g r) (hk:Spares R w w') (hR : ∀i,i≤g→¬R i):RdAt F w' g r:=by
 obtain⟨v,hv,ht⟩:=h.lie
 exact⟨h.good,v,by rw[hk.block g h.lt (hR g (Nat.le_refl _))];exact hv,ht.keeps hk (fun i hi=>hR i (by omega))⟩
theorem RdAt.below {F:Nat} {w w':World} {g:Nat} {r:Rd} (h:RdAt F w g r) (hb:Below w.heap.size w w'):RdAt F w' g r :=
 h.keeps (Spares.of_new (S:=fun _=>False) hb) (fun _ _ e=>e)
theorem Spares.setCell {S:Nat→Prop} {a b:World} (h:Spares S a b) {p:Addr} (hp:S p.block∨a.heap.size≤p.block) (u:Value):Spares S a (b.setCell p u) :=
 ⟨h.os,h.tape,h.output,by simpa [World.setCell] using h.size,fun k hk hS=>(Below.heap_setCell _ _ _ _ (by rintro rfl;rcases hp with hp | hp;exact hS hp;omega)).trans (h.block k hk hS)⟩
theorem Spares.setRow {S:Nat→Prop} {a b:World} (h:Spares S a b) {p:Nat} (hp:S p∨a.heap.size≤p) (cs:Array Value):Spares S a (b.setRow p cs) :=
 ⟨h.os,h.tape,h.output,by simpa using h.size,fun k hk hS=>(setRow_other _ _ _ _ (by rintro rfl;rcases hp with hp | hp;exact hS hp;omega)).trans (h.block k hk hS)⟩
theorem Spares.alloc {S:Nat→Prop} {a b:World} (h:Spares S a b) (o:Obj):Spares S a (b.alloc o) :=
 ⟨h.os,h.tape,h.output,by have:=h.size;simp;omega,fun k hk hS=>(Below.heap_alloc _ _ _ (Nat.lt_of_lt_of_le hk h.size)).trans (h.block k hk hS)⟩
theorem Spares.own {g:Nat} {a b:World} (h:Fr g a b) (i:Nat) (u:Value):Fr g a (b.setCell ⟨g,i,none⟩ u):=Spares.setCell (S:=fun k=>k=g) h (p:=⟨g,i,none⟩) (.inl rfl) u
theorem Spares.then {S:Nat→Prop} {a b c:World} (h:Spares S a b) (k:Spares S b c):Spares S a c:=h.andThen k fun _ hi=>.inl hi
theorem Spares.thenNew {S:Nat→Prop} {a b c:World} (h:Spares S a b) (k:Below b.heap.size b c):Spares S a c:=h.andThen (Spares.of_new (S:=S) k) fun _ hi=>.inl hi
structure RdL (w:World) (g:Nat) (r:Rd):Prop where
 any:r.bad=0→r.ts≠[]
 lie : ∃v,w.heap[g]?=some (.cells #[v,.int .i64 r.d,.int .i64 r.bad,.int .i64 r.bp] 151)∧Toks g w v r.ts
theorem RdAt.toL {F:Nat} {w:World} {g:Nat} {r:Rd} (h:RdAt F w g r):RdL w g r :=
 ⟨fun hb e=>by obtain⟨L,x,hL,_⟩:=h.good.last hb;rw[e] at hL;cases L<;>simp at hL,h.lie⟩
theorem RdL.lt {w:World} {g:Nat} {r:Rd} (h:RdL w g r):g<w.heap.size:=by
 obtain⟨v,hv,_⟩:=h.lie
 exact (Array.getElem?_eq_some_iff.1 hv).1
theorem RdL.keeps {R:Nat→Prop} {w w':World} {g:Nat} {r:Rd} (h:RdL w g r) (hk:Spares R w w') (hR : ∀i,i≤g→¬R i):RdL w' g r:=by
 obtain⟨v,hv,ht⟩:=h.lie
 exact⟨h.any,v,by rw[hk.block g h.lt (hR g (Nat.le_refl _))];exact hv,ht.keeps hk (fun i hi=>hR i (by omega))⟩
theorem RdL.below {w w':World} {g:Nat} {r:Rd} (h:RdL w g r) (hb:Below w.heap.size w w'):RdL w' g r :=
 h.keeps (Spares.of_new (S:=fun _=>False) hb) (fun _ _ e=>e)
theorem RdL.head {w:World} {g:Nat} {r:Rd} (h:RdL w g r) (hb:r.bad=0) :
  ∃
   (b off n c:Nat) (x:Tk) (l:List Tk),r.ts=x::l∧nowR r=x∧b<g∧n=l.length+1∧n≤c∧c≤maxLen∧w.heap[g]?=some (.cells #[.slice (some ⟨b,off,none⟩) n c,.int .i64 r.d,.int .i64 0,.int .i64 r.bp] 151) ∧
   ∀j y,(x::l)[j]?=some y→w.cell? ⟨b,off+j*4,none⟩=some (.int .i64 y.k)∧w.cell? ⟨b,off+j*4+1,none⟩=some (.string (str8 y.s))∧w.cell? ⟨b,off+j*4+2,none⟩=some (.int .i64 y.n)∧w.cell? ⟨b,off+j*4+3,none⟩=some (.int .i64 y.p):=by
 obtain⟨v,hv,a,c,rfl,h1,h2,h3⟩:=h.lie
 cases hts:r.ts with
 | nil=>exact absurd hts (h.any hb)
 |
  cons x l =>
  rw[hts] at h1 h3 hv
  obtain⟨b,off,rfl,hlt,hc⟩:=h3 (by simp)
  refine ⟨b,off,l.length+1,c,x,l,rfl,?_,hlt,rfl,by simpa using h1,h2,by rw[hb] at hv;simpa using hv,hc⟩
  unfold nowR
  rw[if_pos hb,hts]
  rfl
theorem box8 (w:World) (o:Obj):∃W,w.alloc o=W∧Below w.heap.size w W∧w.heap.size<W.heap.size∧W.heap[w.heap.size]?=some o :=
 ⟨_,rfl,(Below.refl _ _).alloc (Nat.le_refl _) _,by simp,heap_alloc_new w _⟩
theorem field_tok (k n p:Int) (s:ByteArray) (w:World):(Instr.field 162 (.agg #[.int .i64 k,.string s,.int .i64 n,.int .i64 p]) 0).run Tryz.prog w = .ok (.int .i64 k) w∧(Instr.field 162 (.agg #[.int .i64 k,.string s,.int .i64 n,.int .i64 p]) 3).run Tryz.prog w = .ok (.int .i64 p) w:=by
 constructor<;>simp[Instr.field,Go.part,asAgg,go_sem,Tryz.underlying162]
theorem now_anyL (g:Nat) (r:Rd) (w:World) (h:RdL w g r) :
  Calls Tryz.prog 119 #[.pointer (some ⟨g,0,none⟩)] w fun e w'=>e = .returned (.agg #[.int .i64 (nowR r).k,.string (str8 (nowR r).s),.int .i64 (nowR r).n,.int .i64 (nowR r).p])∧Below w.heap.size w w':=by
 have hlt:=h.lt
 by_cases hb:r.bad=0
 ·obtain⟨b,off,n,c,x,l,hts,hx,hbg,hn,hnc,hcm,hg,hcell⟩:=h.head hb
  have HX:=hid hx
  have k:=fun o=>cells4 (((Below.refl w.heap.size w).alloc (Nat.le_refl _) o).block g hlt |>.trans hg)
  have t:=fun o=>by
   have hB:Below w.heap.size w (w.alloc o):=(Below.refl _ _).alloc (Nat.le_refl _) o
   obtain⟨c0,c1,c2,c3⟩:=hcell 0 x rfl
   rw[Nat.zero_mul,Nat.add_zero] at c0 c1 c2 c3
   have hbw:b<w.heap.size:=by omega
   exact (⟨(hB.cell (p:=⟨b,off,none⟩) hbw).trans c0,(hB.cell (p:=⟨b,off+1,none⟩) hbw).trans c1,(hB.cell (p:=⟨b,off+2,none⟩) hbw).trans c2,(hB.cell (p:=⟨b,off+3,none⟩) hbw).trans c3⟩:_∧_∧_∧_)
  have hpos:(0:Int)<(n:Int):=by omega
  clear hcell hts hx
  go_enter Tryz.func119,Tryz.ntmps119
  go_wp2
  exact bodyPost_ret (v:=.agg #[.int .i64 x.k,.string (str8 x.s),.int .i64 x.n,.int .i64 x.p]) (by simp[results,Tryz.results119,go_sem]) rfl ⟨by rw[HX.out],(Below.refl _ _).alloc (Nat.le_refl _) _⟩
 ·obtain⟨v,hv,_⟩:=h.lie
  have HX:Hid (nowR r=zTk):=hid (now_bad hb)
  have k:=fun o=>cells4 (((Below.refl w.heap.size w).alloc (Nat.le_refl _) o).block g hlt |>.trans hv)
  have hb':(r.bad != 0)=true:=by simpa using hb
  go_enter Tryz.func119,Tryz.ntmps119
  go_wp2
  exact bodyPost_ret (v:=.agg #[.int .i64 zTk.k,.string (str8 zTk.s),.int .i64 zTk.n,.int .i64 zTk.p]) (by simp[results,Tryz.results119,go_sem];exact⟨rfl,rfl,rfl,rfl⟩) rfl ⟨by rw[HX.out],(Below.refl _ _).alloc (Nat.le_refl _) _⟩
theorem now_any (F g:Nat) (r:Rd) (w:World) (h:RdAt F w g r) :
 Calls Tryz.prog 119 #[.pointer (some ⟨g,0,none⟩)] w fun e w'=>e = .returned (.agg #[.int .i64 (nowR r).k,.string (str8 (nowR r).s),.int .i64 (nowR r).n,.int .i64 (nowR r).p])∧Below w.heap.size w w':=now_anyL g r w h.toL
theorem behind_any (F g:Nat) (r:Rd) (w:World) (h:RdAt F w g r) (hb:r.bad=0) (hk:(nowR r).k≠6) :
  Calls Tryz.prog 317 #[.pointer (some ⟨g,0,none⟩)] w fun e w'=>e = .returned (.agg #[.int .i64 (behindR r).k,.string (str8 (behindR r).s),.int .i64 (behindR r).n,.int .i64 (behindR r).p])∧Below w.heap.size w w':=by
 have hlt:=h.lt
 obtain⟨b,off,n,c,x,l,hts,hx,hbg,hn,hnc,hcm,hg,hcell⟩:=h.toL.head hb
 obtain⟨y,l',hl⟩:∃y l',l=y::l':=by
  obtain⟨L,e,hL,he,_⟩:=h.good.last hb
  cases l with
  |
   nil =>
   rw[hts] at hL
   cases L with
   | nil=>simp at hL;rw[hx,hL,he] at hk;exact absurd rfl hk
   | cons a L=>cases L<;>simp at hL
  | cons y l'=>exact⟨y,l',rfl⟩
 subst hl
 have HX:Hid (behindR r=y):=hid (by unfold behindR;rw[hts];rfl)
 have k:=fun o=>cells4 (((Below.refl w.heap.size w).alloc (Nat.le_refl _) o).block g hlt |>.trans hg)
 have t:=fun o=>by
  have hB:Below w.heap.size w (w.alloc o):=(Below.refl _ _).alloc (Nat.le_refl _) o
  obtain⟨c0,c1,c2,c3⟩:=hcell 1 y rfl
  rw[Nat.one_mul] at c0 c1 c2 c3
  have hbw:b<w.heap.size:=by omega
  exact (⟨(hB.cell (p:=⟨b,off+4,none⟩) hbw).trans c0,(hB.cell (p:=⟨b,off+4+1,none⟩) hbw).trans c1,(hB.cell (p:=⟨b,off+4+2,none⟩) hbw).trans c2,(hB.cell (p:=⟨b,off+4+3,none⟩) hbw).trans c3⟩:_∧_∧_∧_)
 have hpos:(1:Int)<(n:Int):=by rw[hn];simp;omega
 clear hcell hts hx hn hk
 go_enter Tryz.func317,Tryz.ntmps317
 go_wp2
 exact bodyPost_ret (v:=.agg #[.int .i64 y.k,.string (str8 y.s),.int .i64 y.n,.int .i64 y.p]) (by simp[results,Tryz.results317,go_sem]) rfl ⟨by rw[HX.out],(Below.refl _ _).alloc (Nat.le_refl _) _⟩
theorem run_toksfrom (b off n c:Nat) (hn:2≤n) (hc:n≤c) (w:World):(Instr.slice 94 (.slice (some ⟨b,off,none⟩) n c) (some (.int .i64 1)) none none).run Tryz.prog w = .ok (.slice (some ⟨b,off+4,none⟩) (n-1) (c-1)) w:=by
 go_simp
 rw[if_pos (by omega),if_neg (by omega)]
theorem RdAt.put {F:Nat} {w:World} {g:Nat} {r:Rd} {cs:Array Value} {v:Value} (hg:w.heap[g]?=some (.cells cs 151)) (hG:Good F r) (ht:Toks g w v r.ts):RdAt F (w.setRow g #[v,.int .i64 r.d,.int .i64 r.bad,.int .i64 r.bp]) g r:=by
 refine ⟨hG,v,setRow_heap w g cs _ _ _ hg,?_⟩
 exact ht.keeps (R:=fun k=>k=g) (Spares.setRow (S:=fun k=>k=g) (Spares.refl _ w) (p:=g) (.inl rfl) _) (fun i hi e=>by omega)
theorem next_any (F g:Nat) (r:Rd) (w:World) (h:RdAt F w g r) (hb:r.bad=0) (hk:(nowR r).k≠6) :
  Calls Tryz.prog 179 #[.pointer (some ⟨g,0,none⟩)] w fun e w'=>e = .returned (.tuple #[])∧RdAt F w' g (nextR r)∧Fr g w w':=by
 have hlt:=h.lt
 have hG2:=h.good.next hb hk
 obtain⟨b,off,n,c,x,l,hts,hx,hbg,hn,hnc,hcm,hg,hcell⟩:=h.toL.head hb
 have hl:l≠[]:=fun e=>by
  obtain⟨L,e',hL,he,_⟩:=h.good.last hb
  rw[hts,e] at hL
  cases L with
  | nil=>simp at hL;rw[hx,hL,he] at hk;exact hk rfl
  | cons a L=>cases L<;>simp at hL
 have hl1:1≤l.length:=by
  cases l with
  | nil=>exact absurd rfl hl
  | cons a l=>simp
 have hsl:=run_toksfrom b off n c (by omega) hnc
 have k:=cells4 hg
 have HN:Hid (RdAt F (w.setCell ⟨g,0,none⟩ (.slice (some ⟨b,off+4,none⟩) (n-1) (c-1))) g (nextR r)):=hid (by
  rw[setCell_eq_setRow w g 0 _ _ _ _ hg]
  have e:(#[Value.slice (some ⟨b,off,none⟩) n c,.int .i64 r.d,.int .i64 0,.int .i64 r.bp]:Array Value).setIfInBounds 0 (.slice (some ⟨b,off+4,none⟩) (n-1) (c-1))=#[.slice (some ⟨b,off+4,none⟩) (n-1) (c-1),.int .i64 (nextR r).d,.int .i64 (nextR r).bad,.int .i64 (nextR r).bp]:=by
   show _=(#[_,.int .i64 r.d,.int .i64 r.bad,.int .i64 r.bp]:Array Value)
   rw[hb];rfl
  rw[e]
  refine RdAt.put hg hG2 ?_
  have ets:(nextR r).ts=l:=by unfold nextR;rw[hts];rfl
  rw[ets]
  refine ⟨_,c-1,by rw[show n-1=l.length by omega],by omega,by omega,fun _=>⟨b,off+4,rfl,hbg,fun j y hy=>?_⟩⟩
  have:=hcell (j+1) y (by simpa using hy)
  rw[show off+4+j*4=off+(j+1)*4 by omega]
  exact this)
 have HF:Hid (Fr g w (w.setCell ⟨g,0,none⟩ (.slice (some ⟨b,off+4,none⟩) (n-1) (c-1)))):=hid ((Spares.refl (fun k=>k=g) w).own _ _)
 clear hcell hts hx hn hk hG2 h hl
 go_enter Tryz.func179,Tryz.ntmps179
 go_wp2
 exact bodyPost_end (v:=.tuple #[]) (by simp[results,Tryz.results179,go_sem]) rfl ⟨rfl,HN.out,HF.out⟩
theorem RdL.fail {w:World} {g:Nat} {r:Rd} (h:RdL w g r) (hb:r.bad=0) {e:Int} (he:e≠0):RdL ((w.setCell ⟨g,2,none⟩ (.int .i64 e)).setCell ⟨g,3,none⟩ (.int .i64 (nowR r).p)) g (failR e r)∧Fr g w ((w.setCell ⟨g,2,none⟩ (.int .i64 e)).setCell ⟨g,3,none⟩ (.int .i64 (nowR r).p)):=by
 refine ⟨?_,((Spares.refl (fun k=>k=g) w).own _ _).own _ _⟩
 obtain⟨v,hv,ht⟩:=h.lie
 have e1:failR e r = { r with bad:=e,bp:=(nowR r).p }:=if_pos hb
 rw[setCell_eq_setRow w g 2 _ _ _ _ hv,setCell_eq_setRow _ g 3 _ _ _ _ (setRow_heap w g _ _ _ _ hv),setRow_setRow]
 have e2:((#[v,.int .i64 r.d,.int .i64 r.bad,.int .i64 r.bp]:Array Value).setIfInBounds 2 (.int .i64 e)).setIfInBounds 3 (.int .i64 (nowR r).p)=#[v,.int .i64 (failR e r).d,.int .i64 (failR e r).bad,.int .i64 (failR e r).bp]:=by rw[e1];rfl
 rw[e2]
 refine ⟨fun h0=>absurd ((fail_ok hb e).symm.trans h0) he,v,setRow_heap w g _ _ _ _ hv,?_⟩
 rw[(fail_ts r e).1]
 exact ht.keeps (R:=fun k=>k=g) (Spares.setRow (S:=fun k=>k=g) (Spares.refl _ w) (p:=g) (.inl rfl) _) (fun i hi e=>by omega)
theorem fail_anyL (g:Nat) (r:Rd) (w:World) (h:RdL w g r) (e:Int) (he:e≠0) :
  Calls Tryz.prog 108 #[.pointer (some ⟨g,0,none⟩),.int .i64 e] w fun x w'=>x = .returned (.tuple #[])∧RdL w' g (failR e r)∧Fr g w w':=by
 have hlt:=h.lt
 have HN:=hid (now_anyL g r w h)
 have hft:=fun w=>(field_tok (nowR r).k (nowR r).n (nowR r).p (str8 (nowR r).s) w).2
 have HH:=hid h
 obtain⟨v,hv,_⟩:=h.lie
 have k:=cells4 hv
 by_cases hb:r.bad=0
 ·rw[hb] at k
  clear h
  go_enter Tryz.func108,Tryz.ntmps108
  go_wp2_with fail
  refine HN.out.mono ?_
  rintro e' w1 ⟨rfl,hb1⟩
  have H1:=HH.out.below hb1
  obtain⟨v1,hv1,_⟩:=H1.lie
  have k1:=cells4 hv1
  obtain⟨hR,hF⟩:=H1.fail hb he
  have HR:=hid hR
  have HF:Hid (Fr g w _):=hid ((Spares.of_new (S:=fun k=>k=g) hb1).then hF)
  clear hR hF H1 hb1
  go_wp2
  exact bodyPost_end (v:=.tuple #[]) (by simp[results,Tryz.results108,go_sem]) rfl ⟨rfl,HR.out,HF.out⟩
 ·have hb':(r.bad==0)=false:=by simpa using hb
  have e1:failR e r=r:=if_neg hb
  rw[e1]
  clear h
  go_enter Tryz.func108,Tryz.ntmps108
  go_wp2
  exact bodyPost_end (v:=.tuple #[]) (by simp[results,Tryz.results108,go_sem]) rfl ⟨rfl,HH.out,Spares.refl _ _⟩
theorem fail_any (F g:Nat) (r:Rd) (w:World) (h:RdAt F w g r) (e:Int) (he:e≠0) :
  Calls Tryz.prog 108 #[.pointer (some ⟨g,0,none⟩),.int .i64 e] w fun x w'=>x = .returned (.tuple #[])∧RdAt F w' g (failR e r)∧Fr g w w':=by
 refine (fail_anyL g r w h.toL e he).mono ?_
 rintro x w' ⟨rfl,h1,h2⟩
 exact⟨rfl,⟨h.good.fail he,h1.lie⟩,h2⟩
theorem isR_eq (t:List UInt8) (r:Rd):isR t r=(((nowR r).k==2||(nowR r).k==5)&&((str8 (nowR r).s).toList==(str8 t).toList)):=by
 rw[str8_toList,str8_toList];rfl
theorem is_any (F g:Nat) (r:Rd) (w:World) (h:RdAt F w g r) (t:List UInt8) :
  Calls Tryz.prog 191 #[.pointer (some ⟨g,0,none⟩),.string (str8 t)] w fun e w'=>e = .returned (.bool (isR t r))∧Below w.heap.size w w':=by
 have HN:=hid (now_any F g r w h)
 rw[isR_eq]
 generalize nowR r=x at HN ⊢
 obtain⟨xk,xs,xn,xp⟩:=x
 dsimp only at HN ⊢
 clear h
 by_cases h2:xk=2
 ·subst h2
  go_enter Tryz.func191,Tryz.ntmps191
  go_wp2_with fail
  refine HN.out.mono ?_
  rintro e' w1 ⟨rfl,hb1⟩
  have HB:=hid (hb1.alloc hb1.size (.cells #[.int .i64 2,.string (str8 xs),.int .i64 xn,.int .i64 xp] 162))
  clear hb1 HN
  go_wp2
  go_ret
  exact⟨by simp,HB.out⟩
 ·by_cases h5:xk=5
  ·subst h5
   go_enter Tryz.func191,Tryz.ntmps191
   go_wp2_with fail
   refine HN.out.mono ?_
   rintro e' w1 ⟨rfl,hb1⟩
   have HB:=hid (hb1.alloc hb1.size (.cells #[.int .i64 5,.string (str8 xs),.int .i64 xn,.int .i64 xp] 162))
   clear hb1 HN
   go_wp2
   go_ret
   exact⟨by simp,HB.out⟩
  ·have h2':(xk==2)=false:=by simpa using h2
   have h5':(xk==5)=false:=by simpa using h5
   rw[h2',h5']
   go_enter Tryz.func191,Tryz.ntmps191
   go_wp2_with fail
   refine HN.out.mono ?_
   rintro e' w1 ⟨rfl,hb1⟩
   have HB:=hid (hb1.alloc hb1.size (.cells #[.int .i64 xk,.string (str8 xs),.int .i64 xn,.int .i64 xp] 162))
   clear hb1 HN
   go_wp2
   go_ret
   exact⟨by simp,HB.out⟩
def skipR (t:List UInt8) (r:Rd):Rd:=if isR t r=true then nextR r else r
theorem skipP_eq (t:List UInt8) (r:Rd):skipP t r=(isR t r,skipR t r):=by
 unfold skipP ifP skipR retP
 split
 ·rename_i h;rw[h]
 ·rename_i h;rw[Bool.not_eq_true] at h;rw[h]
theorem skip_any (F g:Nat) (r:Rd) (w:World) (h:RdAt F w g r) (t:List UInt8) :
  Calls Tryz.prog 118 #[.pointer (some ⟨g,0,none⟩),.string (str8 t)] w fun e w'=>e = .returned (.bool (isR t r))∧RdAt F w' g (skipR t r)∧Fr g w w':=by
 have HI:=hid (is_any F g r w h t)
 have HH:=hid h
 clear h
 cases hi:isR t r with
 |
  true =>
  rw[hi] at HI
  have e:skipR t r=nextR r:=if_pos hi
  rw[e]
  have hb:=is_ok hi
  have hk:=kind6 hi
  go_enter Tryz.func118,Tryz.ntmps118
  go_wp2_with fail
  refine HI.out.mono ?_
  rintro e' w1 ⟨rfl,hb1⟩
  have HN:=hid (next_any F g r w1 (HH.out.below hb1) hb hk)
  have HB:=hid hb1
  clear hb1 HI
  go_wp2_with fail
  refine HN.out.mono ?_
  rintro e' w2 ⟨rfl,hr2,hf2⟩
  have HR:=hid hr2
  have HF:Hid (Fr g w w2):=hid ((Spares.of_new (S:=fun k=>k=g) HB.out).then hf2)
  clear hr2 hf2 HN HB
  go_wp2
  go_ret
  exact⟨rfl,HR.out,HF.out⟩
 |
  false =>
  rw[hi] at HI
  have e:skipR t r=r:=if_neg (by rw[hi];exact Bool.false_ne_true)
  rw[e]
  go_enter Tryz.func118,Tryz.ntmps118
  go_wp2_with fail
  refine HI.out.mono ?_
  rintro e' w1 ⟨rfl,hb1⟩
  have HB:=hid hb1
  clear hb1 HI
  go_wp2
  go_ret
  exact⟨rfl,HH.out.below HB.out,Spares.of_new HB.out⟩
theorem skip_yes (F g:Nat) (r:Rd) (w:World) (h:RdAt F w g r) (t:List UInt8) (hi:isR t r=true) :
  Calls Tryz.prog 118 #[.pointer (some ⟨g,0,none⟩),.string (str8 t)] w fun e w'=>e = .returned (.bool true)∧RdAt F w' g (nextR r)∧Fr g w w':=by
 have:=skip_any F g r w h t
 rw[hi,show skipR t r=nextR r from if_pos hi] at this
 exact this
theorem skip_no (F g:Nat) (r:Rd) (w:World) (h:RdAt F w g r) (t:List UInt8) (hi:isR t r=false) :
  Calls Tryz.prog 118 #[.pointer (some ⟨g,0,none⟩),.string (str8 t)] w fun e w'=>e = .returned (.bool false)∧RdAt F w' g r∧Fr g w w':=by
 have:=skip_any F g r w h t
 rw[hi,show skipR t r=r from if_neg (by rw[hi];exact Bool.false_ne_true)] at this
 exact this
theorem comma_any (F g:Nat) (r:Rd) (w:World) (h:RdAt F w g r) :
  Calls Tryz.prog 182 #[.pointer (some ⟨g,0,none⟩)] w fun e w'=>e = .returned (.bool (commaP r).1)∧RdAt F w' g (commaP r).2∧Fr g w w':=by
 unfold commaP
 rw[skipP_eq]
 have HI:Hid (Calls Tryz.prog 118 #[.pointer (some ⟨g,0,none⟩),.string ⟨#[44]⟩] w fun e w'=>e = .returned (.bool (isR [44] r))∧RdAt F w' g (skipR [44] r)∧Fr g w w'):=hid (skip_any F g r w h [44])
 generalize isR [44] r=b at HI ⊢
 generalize skipR [44] r=r' at HI ⊢
 clear h
 go_enter Tryz.func182,Tryz.ntmps182
 go_wp2_with fail
 refine HI.out.mono ?_
 rintro e' w1 ⟨rfl,hr1,hf1⟩
 have HR:=hid hr1
 have HF:=hid hf1
 clear hr1 hf1 HI
 go_wp2
 go_ret
 exact⟨rfl,HR.out,HF.out⟩
theorem semi_any (F g:Nat) (r:Rd) (w:World) (h:RdAt F w g r) :
  Calls Tryz.prog 66 #[.pointer (some ⟨g,0,none⟩)] w fun e w'=>e = .returned (.bool (semiP r).1)∧RdAt F w' g (semiP r).2∧Fr g w w':=by
 unfold semiP
 rw[skipP_eq]
 have HI:Hid (Calls Tryz.prog 118 #[.pointer (some ⟨g,0,none⟩),.string ⟨#[59]⟩] w fun e w'=>e = .returned (.bool (isR [59] r))∧RdAt F w' g (skipR [59] r)∧Fr g w w'):=hid (skip_any F g r w h [59])
 generalize isR [59] r=b at HI ⊢
 generalize skipR [59] r=r' at HI ⊢
 clear h
 go_enter Tryz.func66,Tryz.ntmps66
 go_wp2_with fail
 refine HI.out.mono ?_
 rintro e' w1 ⟨rfl,hr1,hf1⟩
 have HR:=hid hr1
 have HF:=hid hf1
 clear hr1 hf1 HI
 go_wp2
 go_ret
 exact⟨rfl,HR.out,HF.out⟩
theorem now_good {r:Rd} {m:Int} (h:(nowR r).k=m) (hm:m≠0):r.bad=0:=by
 by_cases e:r.bad=0
 ·exact e
 ·rw[now_bad e] at h;exact absurd h.symm hm
theorem name_any (F g:Nat) (r:Rd) (w:World) (h:RdAt F w g r) :
  Calls Tryz.prog 112 #[.pointer (some ⟨g,0,none⟩)] w fun e w'=>e = .returned (.string (str8 (nameP r).1))∧RdAt F w' g (nameP r).2∧Fr g w w':=by
 have HN:=hid (now_any F g r w h)
 have HH:=hid h
 clear h
 by_cases hk:(nowR r).k=1
 ·have e:nameP r=((nowR r).s,nextR r):=if_pos hk
  have HX:=hid (fun V (hV:RdAt F V g r)=>next_any F g r V hV (now_good hk (by decide)) (by rw[hk];decide))
  rw[e]
  generalize nowR r=x at HN hk ⊢
  obtain⟨xk,xs,xn,xp⟩:=x
  dsimp only at HN hk ⊢
  subst hk
  clear e
  go_enter Tryz.func112,Tryz.ntmps112
  go_wp2_with fail
  refine HN.out.mono ?_
  rintro e' w1 ⟨rfl,hb1⟩
  obtain⟨W,hW,hbW,hzW,hcW⟩:=box8 w1 (.cells #[.int .i64 1,.string (str8 xs),.int .i64 xn,.int .i64 xp] 162)
  have hbW':=hb1.trans (hbW.mono hb1.size)
  have HRW:=HH.out.below hbW'
  have HXW:=hid (HX.out W HRW)
  have k:=cells4 hcW
  have HC:=hid hcW
  have HB:=hid hbW'
  have HLT:Hid (g<w1.heap.size):=hid (HH.out.below hb1).lt
  clear hb1 hbW hbW' HRW hcW HN HX
  go_wp2_with fail
  try rw[hW]
  clear hW
  refine HXW.out.mono ?_
  rintro e' w2 ⟨rfl,hr2,hf2⟩
  have k2:=cells4 ((hf2.block w1.heap.size hzW (by have:=HLT.out;omega)).trans HC.out)
  have HR:=hid hr2
  have HF:Hid (Fr g w w2):=hid ((Spares.of_new (S:=fun k=>k=g) HB.out).then hf2)
  clear hr2 hf2 HXW k
  go_wp2
  go_ret
  exact⟨rfl,HR.out,HF.out⟩
 ·have e:nameP r=([],failR 4 r):=if_neg hk
  have HX:=hid (fun V (hV:RdAt F V g r)=>fail_any F g r V hV 4 (by decide))
  rw[e]
  have hk':((nowR r).k != 1)=true:=by simpa using hk
  generalize nowR r=x at HN hk' ⊢
  obtain⟨xk,xs,xn,xp⟩:=x
  dsimp only at HN hk' ⊢
  clear e hk
  go_enter Tryz.func112,Tryz.ntmps112
  go_wp2_with fail
  refine HN.out.mono ?_
  rintro e' w1 ⟨rfl,hb1⟩
  obtain⟨W,hW,hbW,hzW,hcW⟩:=box8 w1 (.cells #[.int .i64 xk,.string (str8 xs),.int .i64 xn,.int .i64 xp] 162)
  have hbW':=hb1.trans (hbW.mono hb1.size)
  have HRW:=HH.out.below hbW'
  have HXW:=hid (HX.out W HRW)
  have k:=cells4 hcW
  have HB:=hid hbW'
  clear hb1 hbW hbW' HRW hcW HN HX
  go_wp2_with fail
  try rw[hW]
  clear hW
  refine HXW.out.mono ?_
  rintro e' w2 ⟨rfl,hr2,hf2⟩
  have HR:=hid hr2
  have HF:Hid (Fr g w w2):=hid ((Spares.of_new (S:=fun k=>k=g) HB.out).then hf2)
  clear hr2 hf2 HXW k
  go_wp2
  go_ret
  exact⟨rfl,HR.out,HF.out⟩
theorem number_any (F g:Nat) (r:Rd) (w:World) (h:RdAt F w g r) :
  Calls Tryz.prog 190 #[.pointer (some ⟨g,0,none⟩)] w fun e w'=>e = .returned (.int .i64 (numP r).1)∧RdAt F w' g (numP r).2∧Fr g w w':=by
 have HN:=hid (now_any F g r w h)
 have HH:=hid h
 clear h
 by_cases hk:(nowR r).k=3
 ·have e:numP r=((nowR r).n,nextR r):=if_pos hk
  have HX:=hid (fun V (hV:RdAt F V g r)=>next_any F g r V hV (now_good hk (by decide)) (by rw[hk];decide))
  rw[e]
  generalize nowR r=x at HN hk ⊢
  obtain⟨xk,xs,xn,xp⟩:=x
  dsimp only at HN hk ⊢
  subst hk
  clear e
  go_enter Tryz.func190,Tryz.ntmps190
  go_wp2_with fail
  refine HN.out.mono ?_
  rintro e' w1 ⟨rfl,hb1⟩
  obtain⟨W,hW,hbW,hzW,hcW⟩:=box8 w1 (.cells #[.int .i64 3,.string (str8 xs),.int .i64 xn,.int .i64 xp] 162)
  have hbW':=hb1.trans (hbW.mono hb1.size)
  have HRW:=HH.out.below hbW'
  have HXW:=hid (HX.out W HRW)
  have k:=cells4 hcW
  have HC:=hid hcW
  have HB:=hid hbW'
  have HLT:Hid (g<w1.heap.size):=hid (HH.out.below hb1).lt
  clear hb1 hbW hbW' HRW hcW HN HX
  go_wp2_with fail
  try rw[hW]
  clear hW
  refine HXW.out.mono ?_
  rintro e' w2 ⟨rfl,hr2,hf2⟩
  have k2:=cells4 ((hf2.block w1.heap.size hzW (by have:=HLT.out;omega)).trans HC.out)
  have HR:=hid hr2
  have HF:Hid (Fr g w w2):=hid ((Spares.of_new (S:=fun k=>k=g) HB.out).then hf2)
  clear hr2 hf2 HXW k
  go_wp2
  go_ret
  exact⟨rfl,HR.out,HF.out⟩
 ·have e:numP r=(0,failR 4 r):=if_neg hk
  have HX:=hid (fun V (hV:RdAt F V g r)=>fail_any F g r V hV 4 (by decide))
  rw[e]
  have hk':((nowR r).k != 3)=true:=by simpa using hk
  generalize nowR r=x at HN hk' ⊢
  obtain⟨xk,xs,xn,xp⟩:=x
  dsimp only at HN hk' ⊢
  clear e hk
  go_enter Tryz.func190,Tryz.ntmps190
  go_wp2_with fail
  refine HN.out.mono ?_
  rintro e' w1 ⟨rfl,hb1⟩
  obtain⟨W,hW,hbW,hzW,hcW⟩:=box8 w1 (.cells #[.int .i64 xk,.string (str8 xs),.int .i64 xn,.int .i64 xp] 162)
  have hbW':=hb1.trans (hbW.mono hb1.size)
  have HRW:=HH.out.below hbW'
  have HXW:=hid (HX.out W HRW)
  have k:=cells4 hcW
  have HB:=hid hbW'
  clear hb1 hbW hbW' HRW hcW HN HX
  go_wp2_with fail
  try rw[hW]
  clear hW
  refine HXW.out.mono ?_
  rintro e' w2 ⟨rfl,hr2,hf2⟩
  have HR:=hid hr2
  have HF:Hid (Fr g w w2):=hid ((Spares.of_new (S:=fun k=>k=g) HB.out).then hf2)
  clear hr2 hf2 HXW k
  go_wp2
  go_ret
  exact⟨rfl,HR.out,HF.out⟩
end Go.Proofs.YtaaggohjmhifbaaGreatDoor
