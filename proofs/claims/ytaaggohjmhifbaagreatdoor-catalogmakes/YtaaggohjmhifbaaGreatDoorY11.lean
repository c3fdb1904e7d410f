/- Packed for the hand-in: PRead -/
import Derived.Test.YtaaggohjmhifbaaGreatDoorY08
import Derived.Test.YtaaggohjmhifbaaGreatDoorY10
namespace Go.Proofs.YtaaggohjmhifbaaGreatDoor
open Go.RowKit Go.Shelf
set_option linter.unusedSimpArgs false
set_option linter.unusedVariables false
set_option maxRecDepth 20000
set_option maxHeartbeats 8000000
abbrev Fr (g:Nat) (w w':World):Prop:=aj (fun k=>k=g) w w'
structure aA (F:Nat) (w:World) (g:Nat) (r:Rd):Prop where
 good:Good F r
 lie : ∃v,w.heap[g]?=some (.cells #[v,.int .i64 r.d,.int .i64 r.bad,.int .i64 r.bp] 151)∧mZ g w v r.ts
theorem aA.lt {F:Nat} {w:World} {g:Nat} {r:Rd} (h:aA F w g r):g<w.heap.size:=by
 obtain⟨v,hv,_⟩:=h.lie
 exact (Array.getElem?_eq_some_iff.1 hv).1
theorem mZ.keeps {R:Nat→Prop} {B:Nat} {w w':World} {v:Value} {xs:List Tk} (h:mZ B w v xs) (hk:aj R w w') (hR : ∀i,i<B→¬R i):mZ B w' v xs:=by
 obtain⟨a,c,hv,h1,h2,h3⟩:=h
 refine ⟨a,c,hv,h1,h2,fun hne=>?_⟩
 obtain⟨b,off,ha,hlt,hc⟩:=h3 hne
 refine ⟨b,off,ha,hlt,fun j x hx=>?_⟩
 obtain⟨c0,c1,c2,c3⟩:=hc j x hx
 exact⟨hk.cell c0 (hR b hlt),hk.cell c1 (hR b hlt),hk.cell c2 (hR b hlt),hk.cell c3 (hR b hlt)⟩
theorem aA.keeps {F:Nat} {R:Nat→Prop} {w w':World} {g:Nat} {r:Rd} (h:aA F w g r) (hk:aj R w w') (hR : ∀i,i≤g→¬R i):aA F w' g r:=by
 obtain⟨v,hv,ht⟩:=h.lie
 exact⟨h.good,v,by rw[hk.block g h.lt (hR g (Nat.le_refl _))];exact hv,ht.keeps hk (fun i hi=>hR i (by omega))⟩
theorem aA.below {F:Nat} {w w':World} {g:Nat} {r:Rd} (h:aA F w g r) (hb:Below w.heap.size w w'):aA F w' g r :=
 h.keeps (aj.aC (S:=fun _=>False) hb) (fun _ _ e=>e)
theorem aj.setCell {S:Nat→Prop} {a b:World} (h:aj S a b) {p:Addr} (hp:S p.block∨a.heap.size≤p.block) (u:Value):aj S a (b.setCell p u) :=
 ⟨h.os,h.tape,h.output,by simpa [World.setCell] using h.size,fun k hk hS=>(Below.heap_setCell _ _ _ _ (by rintro rfl;rcases hp with hp | hp;exact hS hp;omega)).trans (h.block k hk hS)⟩
theorem aj.setRow {S:Nat→Prop} {a b:World} (h:aj S a b) {p:Nat} (hp:S p∨a.heap.size≤p) (cs:Array Value):aj S a (b.setRow p cs) :=
 ⟨h.os,h.tape,h.output,by simpa using h.size,fun k hk hS=>(setRow_other _ _ _ _ (by rintro rfl;rcases hp with hp | hp;exact hS hp;omega)).trans (h.block k hk hS)⟩
theorem aj.alloc {S:Nat→Prop} {a b:World} (h:aj S a b) (o:Obj):aj S a (b.alloc o) :=
 ⟨h.os,h.tape,h.output,by have:=h.size;simp;omega,fun k hk hS=>(Below.heap_alloc _ _ _ (Nat.lt_of_lt_of_le hk h.size)).trans (h.block k hk hS)⟩
theorem aj.own {g:Nat} {a b:World} (h:Fr g a b) (i:Nat) (u:Value):Fr g a (b.setCell ⟨g,i,none⟩ u):=aj.setCell (S:=fun k=>k=g) h (p:=⟨g,i,none⟩) (.inl rfl) u
theorem aj.then {S:Nat→Prop} {a b c:World} (h:aj S a b) (k:aj S b c):aj S a c:=h.andThen k fun _ hi=>.inl hi
theorem aj.aO {S:Nat→Prop} {a b c:World} (h:aj S a b) (k:Below b.heap.size b c):aj S a c:=h.andThen (aj.aC (S:=S) k) fun _ hi=>.inl hi
structure wG (w:World) (g:Nat) (r:Rd):Prop where
 any:r.bad=0→r.ts≠[]
 lie : ∃v,w.heap[g]?=some (.cells #[v,.int .i64 r.d,.int .i64 r.bad,.int .i64 r.bp] 151)∧mZ g w v r.ts
theorem aA.J9 {F:Nat} {w:World} {g:Nat} {r:Rd} (h:aA F w g r):wG w g r :=
 ⟨fun hb e=>by obtain⟨L,x,hL,_⟩:=h.good.last hb;rw[e] at hL;cases L<;>simp at hL,h.lie⟩
theorem wG.lt {w:World} {g:Nat} {r:Rd} (h:wG w g r):g<w.heap.size:=by
 obtain⟨v,hv,_⟩:=h.lie
 exact (Array.getElem?_eq_some_iff.1 hv).1
theorem wG.keeps {R:Nat→Prop} {w w':World} {g:Nat} {r:Rd} (h:wG w g r) (hk:aj R w w') (hR : ∀i,i≤g→¬R i):wG w' g r:=by
 obtain⟨v,hv,ht⟩:=h.lie
 exact⟨h.any,v,by rw[hk.block g h.lt (hR g (Nat.le_refl _))];exact hv,ht.keeps hk (fun i hi=>hR i (by omega))⟩
theorem wG.below {w w':World} {g:Nat} {r:Rd} (h:wG w g r) (hb:Below w.heap.size w w'):wG w' g r :=
 h.keeps (aj.aC (S:=fun _=>False) hb) (fun _ _ e=>e)
theorem wG.head {w:World} {g:Nat} {r:Rd} (h:wG w g r) (hb:r.bad=0) :
  ∃
   (b off n c:Nat) (x:Tk) (l:List Tk),r.ts=x::l∧bq r=x∧b<g∧n=l.length+1∧n≤c∧c≤maxLen∧w.heap[g]?=some (.cells #[.slice (some ⟨b,off,none⟩) n c,.int .i64 r.d,.int .i64 0,.int .i64 r.bp] 151) ∧
   ∀j y,(x::l)[j]?=some y→w.cell? ⟨b,off+j*4,none⟩=some (.int .i64 y.k)∧w.cell? ⟨b,off+j*4+1,none⟩=some (.string (ah y.s))∧w.cell? ⟨b,off+j*4+2,none⟩=some (.int .i64 y.n)∧w.cell? ⟨b,off+j*4+3,none⟩=some (.int .i64 y.p):=by
 obtain⟨v,hv,a,c,rfl,h1,h2,h3⟩:=h.lie
 cases hts:r.ts with
 | nil=>exact absurd hts (h.any hb)
 |
  cons x l =>
  rw[hts] at h1 h3 hv
  obtain⟨b,off,rfl,hlt,hc⟩:=h3 (by simp)
  refine ⟨b,off,l.length+1,c,x,l,rfl,?_,hlt,rfl,by simpa using h1,h2,by rw[hb] at hv;simpa using hv,hc⟩
  unfold bq
  rw[if_pos hb,hts]
  rfl
theorem bF (w:World) (o:Obj):∃W,w.alloc o=W∧Below w.heap.size w W∧w.heap.size<W.heap.size∧W.heap[w.heap.size]?=some o :=
 ⟨_,rfl,(Below.refl _ _).alloc (Nat.le_refl _) _,by simp,heap_alloc_new w _⟩
theorem rT (k n p:Int) (s:ByteArray) (w:World):(Instr.field 162 (.agg #[.int .i64 k,.string s,.int .i64 n,.int .i64 p]) 0).run Tryz.prog w = .ok (.int .i64 k) w∧(Instr.field 162 (.agg #[.int .i64 k,.string s,.int .i64 n,.int .i64 p]) 3).run Tryz.prog w = .ok (.int .i64 p) w:=by
 constructor<;>simp[Instr.field,Go.part,asAgg,go_sem,Tryz.underlying162]
theorem yt (g:Nat) (r:Rd) (w:World) (h:wG w g r) :
  Calls Tryz.prog 119 #[.pointer (some ⟨g,0,none⟩)] w fun e w'=>e = .returned (.agg #[.int .i64 (bq r).k,.string (ah (bq r).s),.int .i64 (bq r).n,.int .i64 (bq r).p])∧Below w.heap.size w w':=by
 have hlt:=h.lt
 by_cases hb:r.bad=0
 ·obtain⟨b,off,n,c,x,l,hts,hx,hbg,hn,hnc,hcm,hg,hcell⟩:=h.head hb
  have HX:=hid hx
  have k:=fun o=>aW (((Below.refl w.heap.size w).alloc (Nat.le_refl _) o).block g hlt |>.trans hg)
  have t:=fun o=>by
   have hB:Below w.heap.size w (w.alloc o):=(Below.refl _ _).alloc (Nat.le_refl _) o
   obtain⟨c0,c1,c2,c3⟩:=hcell 0 x rfl
   rw[Nat.zero_mul,Nat.add_zero] at c0 c1 c2 c3
   have hbw:b<w.heap.size:=by omega
   exact (⟨(hB.cell (p:=⟨b,off,none⟩) hbw).trans c0,(hB.cell (p:=⟨b,off+1,none⟩) hbw).trans c1,(hB.cell (p:=⟨b,off+2,none⟩) hbw).trans c2,(hB.cell (p:=⟨b,off+3,none⟩) hbw).trans c3⟩:_∧_∧_∧_)
  have hpos:(0:Int)<(n:Int):=by omega
  clear hcell hts hx
  go_enter Tryz.func119,Tryz.ntmps119
  go_wp2
  exact bodyPost_ret (v:=.agg #[.int .i64 x.k,.string (ah x.s),.int .i64 x.n,.int .i64 x.p]) (by simp[results,Tryz.results119,go_sem]) rfl ⟨by rw[HX.out],(Below.refl _ _).alloc (Nat.le_refl _) _⟩
 ·obtain⟨v,hv,_⟩:=h.lie
  have HX:Hid (bq r=jl):=hid (iV hb)
  have k:=fun o=>aW (((Below.refl w.heap.size w).alloc (Nat.le_refl _) o).block g hlt |>.trans hv)
  have hb':(r.bad != 0)=true:=by simpa using hb
  go_enter Tryz.func119,Tryz.ntmps119
  go_wp2
  exact bodyPost_ret (v:=.agg #[.int .i64 jl.k,.string (ah jl.s),.int .i64 jl.n,.int .i64 jl.p]) (by simp[results,Tryz.results119,go_sem];exact⟨rfl,rfl,rfl,rfl⟩) rfl ⟨by rw[HX.out],(Below.refl _ _).alloc (Nat.le_refl _) _⟩
theorem oP (F g:Nat) (r:Rd) (w:World) (h:aA F w g r) :
 Calls Tryz.prog 119 #[.pointer (some ⟨g,0,none⟩)] w fun e w'=>e = .returned (.agg #[.int .i64 (bq r).k,.string (ah (bq r).s),.int .i64 (bq r).n,.int .i64 (bq r).p])∧Below w.heap.size w w':=yt g r w h.J9
theorem uW (F g:Nat) (r:Rd) (w:World) (h:aA F w g r) (hb:r.bad=0) (hk:(bq r).k≠6) :
  Calls Tryz.prog 317 #[.pointer (some ⟨g,0,none⟩)] w fun e w'=>e = .returned (.agg #[.int .i64 (bZ r).k,.string (ah (bZ r).s),.int .i64 (bZ r).n,.int .i64 (bZ r).p])∧Below w.heap.size w w':=by
 have hlt:=h.lt
 obtain⟨b,off,n,c,x,l,hts,hx,hbg,hn,hnc,hcm,hg,hcell⟩:=h.J9.head hb
 obtain⟨y,l',hl⟩:∃y l',l=y::l':=by
  obtain⟨L,e,hL,he,_⟩:=h.good.last hb
  cases l with
  |
   nil =>
   rw[hts] at hL
   cases L with
   | nil=>simp at hL;rw[hx,hL,he] at hk;exact absurd rfl hk
   | cons a L=>cases L<;>simp at hL
  | cons y l'=>exact⟨y,l',rfl⟩
 subst hl
 have HX:Hid (bZ r=y):=hid (by unfold bZ;rw[hts];rfl)
 have k:=fun o=>aW (((Below.refl w.heap.size w).alloc (Nat.le_refl _) o).block g hlt |>.trans hg)
 have t:=fun o=>by
  have hB:Below w.heap.size w (w.alloc o):=(Below.refl _ _).alloc (Nat.le_refl _) o
  obtain⟨c0,c1,c2,c3⟩:=hcell 1 y rfl
  rw[Nat.one_mul] at c0 c1 c2 c3
  have hbw:b<w.heap.size:=by omega
  exact (⟨(hB.cell (p:=⟨b,off+4,none⟩) hbw).trans c0,(hB.cell (p:=⟨b,off+4+1,none⟩) hbw).trans c1,(hB.cell (p:=⟨b,off+4+2,none⟩) hbw).trans c2,(hB.cell (p:=⟨b,off+4+3,none⟩) hbw).trans c3⟩:_∧_∧_∧_)
 have hpos:(1:Int)<(n:Int):=by rw[hn];simp;omega
 clear hcell hts hx hn hk
 go_enter Tryz.func317,Tryz.ntmps317
 go_wp2
 exact bodyPost_ret (v:=.agg #[.int .i64 y.k,.string (ah y.s),.int .i64 y.n,.int .i64 y.p]) (by simp[results,Tryz.results317,go_sem]) rfl ⟨by rw[HX.out],(Below.refl _ _).alloc (Nat.le_refl _) _⟩
theorem xD (b off n c:Nat) (hn:2≤n) (hc:n≤c) (w:World):(Instr.slice 94 (.slice (some ⟨b,off,none⟩) n c) (some (.int .i64 1)) none none).run Tryz.prog w = .ok (.slice (some ⟨b,off+4,none⟩) (n-1) (c-1)) w:=by
 go_simp
 rw[if_pos (by omega),if_neg (by omega)]
theorem aA.put {F:Nat} {w:World} {g:Nat} {r:Rd} {cs:Array Value} {v:Value} (hg:w.heap[g]?=some (.cells cs 151)) (hG:Good F r) (ht:mZ g w v r.ts):aA F (w.setRow g #[v,.int .i64 r.d,.int .i64 r.bad,.int .i64 r.bp]) g r:=by
 refine ⟨hG,v,setRow_heap w g cs _ _ _ hg,?_⟩
 exact ht.keeps (R:=fun k=>k=g) (aj.setRow (S:=fun k=>k=g) (aj.refl _ w) (p:=g) (.inl rfl) _) (fun i hi e=>by omega)
theorem nC (F g:Nat) (r:Rd) (w:World) (h:aA F w g r) (hb:r.bad=0) (hk:(bq r).k≠6) :
  Calls Tryz.prog 179 #[.pointer (some ⟨g,0,none⟩)] w fun e w'=>e = .returned (.tuple #[])∧aA F w' g (nextR r)∧Fr g w w':=by
 have hlt:=h.lt
 have hG2:=h.good.next hb hk
 obtain⟨b,off,n,c,x,l,hts,hx,hbg,hn,hnc,hcm,hg,hcell⟩:=h.J9.head hb
 have hl:l≠[]:=fun e=>by
  obtain⟨L,e',hL,he,_⟩:=h.good.last hb
  rw[hts,e] at hL
  cases L with
  | nil=>simp at hL;rw[hx,hL,he] at hk;exact hk rfl
  | cons a L=>cases L<;>simp at hL
 have hl1:1≤l.length:=by
  cases l with
  | nil=>exact absurd rfl hl
  | cons a l=>simp
 have hsl:=xD b off n c (by omega) hnc
 have k:=aW hg
 have HN:Hid (aA F (w.setCell ⟨g,0,none⟩ (.slice (some ⟨b,off+4,none⟩) (n-1) (c-1))) g (nextR r)):=hid (by
  rw[setCell_eq_setRow w g 0 _ _ _ _ hg]
  have e:(#[Value.slice (some ⟨b,off,none⟩) n c,.int .i64 r.d,.int .i64 0,.int .i64 r.bp]:Array Value).setIfInBounds 0 (.slice (some ⟨b,off+4,none⟩) (n-1) (c-1))=#[.slice (some ⟨b,off+4,none⟩) (n-1) (c-1),.int .i64 (nextR r).d,.int .i64 (nextR r).bad,.int .i64 (nextR r).bp]:=by
   show _=(#[_,.int .i64 r.d,.int .i64 r.bad,.int .i64 r.bp]:Array Value)
   rw[hb];rfl
  rw[e]
  refine aA.put hg hG2 ?_
  have ets:(nextR r).ts=l:=by unfold nextR;rw[hts];rfl
  rw[ets]
  refine ⟨_,c-1,by rw[show n-1=l.length by omega],by omega,by omega,fun _=>⟨b,off+4,rfl,hbg,fun j y hy=>?_⟩⟩
  have:=hcell (j+1) y (by simpa using hy)
  rw[show off+4+j*4=off+(j+1)*4 by omega]
  exact this)
 have HF:Hid (Fr g w (w.setCell ⟨g,0,none⟩ (.slice (some ⟨b,off+4,none⟩) (n-1) (c-1)))):=hid ((aj.refl (fun k=>k=g) w).own _ _)
 clear hcell hts hx hn hk hG2 h hl
 go_enter Tryz.func179,Tryz.ntmps179
 go_wp2
 exact bodyPost_end (v:=.tuple #[]) (by simp[results,Tryz.results179,go_sem]) rfl ⟨rfl,HN.out,HF.out⟩
theorem wG.fail {w:World} {g:Nat} {r:Rd} (h:wG w g r) (hb:r.bad=0) {e:Int} (he:e≠0):wG ((w.setCell ⟨g,2,none⟩ (.int .i64 e)).setCell ⟨g,3,none⟩ (.int .i64 (bq r).p)) g (dh e r)∧Fr g w ((w.setCell ⟨g,2,none⟩ (.int .i64 e)).setCell ⟨g,3,none⟩ (.int .i64 (bq r).p)):=by
 refine ⟨?_,((aj.refl (fun k=>k=g) w).own _ _).own _ _⟩
 obtain⟨v,hv,ht⟩:=h.lie
 have e1:dh e r = { r with bad:=e,bp:=(bq r).p }:=if_pos hb
 rw[setCell_eq_setRow w g 2 _ _ _ _ hv,setCell_eq_setRow _ g 3 _ _ _ _ (setRow_heap w g _ _ _ _ hv),setRow_setRow]
 have e2:((#[v,.int .i64 r.d,.int .i64 r.bad,.int .i64 r.bp]:Array Value).setIfInBounds 2 (.int .i64 e)).setIfInBounds 3 (.int .i64 (bq r).p)=#[v,.int .i64 (dh e r).d,.int .i64 (dh e r).bad,.int .i64 (dh e r).bp]:=by rw[e1];rfl
 rw[e2]
 refine ⟨fun h0=>absurd ((fZ hb e).symm.trans h0) he,v,setRow_heap w g _ _ _ _ hv,?_⟩
 rw[(oK r e).1]
 exact ht.keeps (R:=fun k=>k=g) (aj.setRow (S:=fun k=>k=g) (aj.refl _ w) (p:=g) (.inl rfl) _) (fun i hi e=>by omega)
theorem wB (g:Nat) (r:Rd) (w:World) (h:wG w g r) (e:Int) (he:e≠0) :
  Calls Tryz.prog 108 #[.pointer (some ⟨g,0,none⟩),.int .i64 e] w fun x w'=>x = .returned (.tuple #[])∧wG w' g (dh e r)∧Fr g w w':=by
 have hlt:=h.lt
 have HN:=hid (yt g r w h)
 have hft:=fun w=>(rT (bq r).k (bq r).n (bq r).p (ah (bq r).s) w).2
 have HH:=hid h
 obtain⟨v,hv,_⟩:=h.lie
 have k:=aW hv
 by_cases hb:r.bad=0
 ·rw[hb] at k
  clear h
  go_enter Tryz.func108,Tryz.ntmps108
  go_wp2_with fail
  refine HN.out.mono ?_
  rintro e' w1 ⟨rfl,hb1⟩
  have H1:=HH.out.below hb1
  obtain⟨v1,hv1,_⟩:=H1.lie
  have k1:=aW hv1
  obtain⟨hR,hF⟩:=H1.fail hb he
  have HR:=hid hR
  have HF:Hid (Fr g w _):=hid ((aj.aC (S:=fun k=>k=g) hb1).then hF)
  clear hR hF H1 hb1
  go_wp2
  exact bodyPost_end (v:=.tuple #[]) (by simp[results,Tryz.results108,go_sem]) rfl ⟨rfl,HR.out,HF.out⟩
 ·have hb':(r.bad==0)=false:=by simpa using hb
  have e1:dh e r=r:=if_neg hb
  rw[e1]
  clear h
  go_enter Tryz.func108,Tryz.ntmps108
  go_wp2
  exact bodyPost_end (v:=.tuple #[]) (by simp[results,Tryz.results108,go_sem]) rfl ⟨rfl,HH.out,aj.refl _ _⟩
theorem fK (F g:Nat) (r:Rd) (w:World) (h:aA F w g r) (e:Int) (he:e≠0) :
  Calls Tryz.prog 108 #[.pointer (some ⟨g,0,none⟩),.int .i64 e] w fun x w'=>x = .returned (.tuple #[])∧aA F w' g (dh e r)∧Fr g w w':=by
 refine (wB g r w h.J9 e he).mono ?_
 rintro x w' ⟨rfl,h1,h2⟩
 exact⟨rfl,⟨h.good.fail he,h1.lie⟩,h2⟩
theorem J2 (t:List UInt8) (r:Rd):dK t r=(((bq r).k==2||(bq r).k==5)&&((ah (bq r).s).toList==(ah t).toList)):=by
 rw[dx,dx];rfl
theorem rP (F g:Nat) (r:Rd) (w:World) (h:aA F w g r) (t:List UInt8) :
  Calls Tryz.prog 191 #[.pointer (some ⟨g,0,none⟩),.string (ah t)] w fun e w'=>e = .returned (.bool (dK t r))∧Below w.heap.size w w':=by
 have HN:=hid (oP F g r w h)
 rw[J2]
 generalize bq r=x at HN ⊢
 obtain⟨xk,xs,xn,xp⟩:=x
 dsimp only at HN ⊢
 clear h
 by_cases h2:xk=2
 ·subst h2
  go_enter Tryz.func191,Tryz.ntmps191
  go_wp2_with fail
  refine HN.out.mono ?_
  rintro e' w1 ⟨rfl,hb1⟩
  have HB:=hid (hb1.alloc hb1.size (.cells #[.int .i64 2,.string (ah xs),.int .i64 xn,.int .i64 xp] 162))
  clear hb1 HN
  go_wp2
  go_ret
  exact⟨by simp,HB.out⟩
 ·by_cases h5:xk=5
  ·subst h5
   go_enter Tryz.func191,Tryz.ntmps191
   go_wp2_with fail
   refine HN.out.mono ?_
   rintro e' w1 ⟨rfl,hb1⟩
   have HB:=hid (hb1.alloc hb1.size (.cells #[.int .i64 5,.string (ah xs),.int .i64 xn,.int .i64 xp] 162))
   clear hb1 HN
   go_wp2
   go_ret
   exact⟨by simp,HB.out⟩
  ·have h2':(xk==2)=false:=by simpa using h2
   have h5':(xk==5)=false:=by simpa using h5
   rw[h2',h5']
   go_enter Tryz.func191,Tryz.ntmps191
   go_wp2_with fail
   refine HN.out.mono ?_
   rintro e' w1 ⟨rfl,hb1⟩
   have HB:=hid (hb1.alloc hb1.size (.cells #[.int .i64 xk,.string (ah xs),.int .i64 xn,.int .i64 xp] 162))
   clear hb1 HN
   go_wp2
   go_ret
   exact⟨by simp,HB.out⟩
def gT (t:List UInt8) (r:Rd):Rd:=if dK t r=true then nextR r else r
theorem ku (t:List UInt8) (r:Rd):fD t r=(dK t r,gT t r):=by
 unfold fD gI gT aT
 split
 ·rename_i h;rw[h]
 ·rename_i h;rw[Bool.not_eq_true] at h;rw[h]
theorem jM (F g:Nat) (r:Rd) (w:World) (h:aA F w g r) (t:List UInt8) :
  Calls Tryz.prog 118 #[.pointer (some ⟨g,0,none⟩),.string (ah t)] w fun e w'=>e = .returned (.bool (dK t r))∧aA F w' g (gT t r)∧Fr g w w':=by
 have HI:=hid (rP F g r w h t)
 have HH:=hid h
 clear h
 cases hi:dK t r with
 |
  true =>
  rw[hi] at HI
  have e:gT t r=nextR r:=if_pos hi
  rw[e]
  have hb:=jO hi
  have hk:=mg hi
  go_enter Tryz.func118,Tryz.ntmps118
  go_wp2_with fail
  refine HI.out.mono ?_
  rintro e' w1 ⟨rfl,hb1⟩
  have HN:=hid (nC F g r w1 (HH.out.below hb1) hb hk)
  have HB:=hid hb1
  clear hb1 HI
  go_wp2_with fail
  refine HN.out.mono ?_
  rintro e' w2 ⟨rfl,hr2,hf2⟩
  have HR:=hid hr2
  have HF:Hid (Fr g w w2):=hid ((aj.aC (S:=fun k=>k=g) HB.out).then hf2)
  clear hr2 hf2 HN HB
  go_wp2
  go_ret
  exact⟨rfl,HR.out,HF.out⟩
 |
  false =>
  rw[hi] at HI
  have e:gT t r=r:=if_neg (by rw[hi];exact Bool.false_ne_true)
  rw[e]
  go_enter Tryz.func118,Tryz.ntmps118
  go_wp2_with fail
  refine HI.out.mono ?_
  rintro e' w1 ⟨rfl,hb1⟩
  have HB:=hid hb1
  clear hb1 HI
  go_wp2
  go_ret
  exact⟨rfl,HH.out.below HB.out,aj.aC HB.out⟩
theorem eF (F g:Nat) (r:Rd) (w:World) (h:aA F w g r) (t:List UInt8) (hi:dK t r=true) :
  Calls Tryz.prog 118 #[.pointer (some ⟨g,0,none⟩),.string (ah t)] w fun e w'=>e = .returned (.bool true)∧aA F w' g (nextR r)∧Fr g w w':=by
 have:=jM F g r w h t
 rw[hi,show gT t r=nextR r from if_pos hi] at this
 exact this
theorem fC (F g:Nat) (r:Rd) (w:World) (h:aA F w g r) (t:List UInt8) (hi:dK t r=false) :
  Calls Tryz.prog 118 #[.pointer (some ⟨g,0,none⟩),.string (ah t)] w fun e w'=>e = .returned (.bool false)∧aA F w' g r∧Fr g w w':=by
 have:=jM F g r w h t
 rw[hi,show gT t r=r from if_neg (by rw[hi];exact Bool.false_ne_true)] at this
 exact this
theorem Dy (F g:Nat) (r:Rd) (w:World) (h:aA F w g r) :
  Calls Tryz.prog 182 #[.pointer (some ⟨g,0,none⟩)] w fun e w'=>e = .returned (.bool (bH r).1)∧aA F w' g (bH r).2∧Fr g w w':=by
 unfold bH
 rw[ku]
 have HI:Hid (Calls Tryz.prog 118 #[.pointer (some ⟨g,0,none⟩),.string ⟨#[44]⟩] w fun e w'=>e = .returned (.bool (dK [44] r))∧aA F w' g (gT [44] r)∧Fr g w w'):=hid (jM F g r w h [44])
 generalize dK [44] r=b at HI ⊢
 generalize gT [44] r=r' at HI ⊢
 clear h
 go_enter Tryz.func182,Tryz.ntmps182
 go_wp2_with fail
 refine HI.out.mono ?_
 rintro e' w1 ⟨rfl,hr1,hf1⟩
 have HR:=hid hr1
 have HF:=hid hf1
 clear hr1 hf1 HI
 go_wp2
 go_ret
 exact⟨rfl,HR.out,HF.out⟩
theorem Gn (F g:Nat) (r:Rd) (w:World) (h:aA F w g r) :
  Calls Tryz.prog 66 #[.pointer (some ⟨g,0,none⟩)] w fun e w'=>e = .returned (.bool (iG r).1)∧aA F w' g (iG r).2∧Fr g w w':=by
 unfold iG
 rw[ku]
 have HI:Hid (Calls Tryz.prog 118 #[.pointer (some ⟨g,0,none⟩),.string ⟨#[59]⟩] w fun e w'=>e = .returned (.bool (dK [59] r))∧aA F w' g (gT [59] r)∧Fr g w w'):=hid (jM F g r w h [59])
 generalize dK [59] r=b at HI ⊢
 generalize gT [59] r=r' at HI ⊢
 clear h
 go_enter Tryz.func66,Tryz.ntmps66
 go_wp2_with fail
 refine HI.out.mono ?_
 rintro e' w1 ⟨rfl,hr1,hf1⟩
 have HR:=hid hr1
 have HF:=hid hf1
 clear hr1 hf1 HI
 go_wp2
 go_ret
 exact⟨rfl,HR.out,HF.out⟩
theorem qz {r:Rd} {m:Int} (h:(bq r).k=m) (hm:m≠0):r.bad=0:=by
 by_cases e:r.bad=0
 ·exact e
 ·rw[iV e] at h;exact absurd h.symm hm
theorem gq (F g:Nat) (r:Rd) (w:World) (h:aA F w g r) :
  Calls Tryz.prog 112 #[.pointer (some ⟨g,0,none⟩)] w fun e w'=>e = .returned (.string (ah (nameP r).1))∧aA F w' g (nameP r).2∧Fr g w w':=by
 have HN:=hid (oP F g r w h)
 have HH:=hid h
 clear h
 by_cases hk:(bq r).k=1
 ·have e:nameP r=((bq r).s,nextR r):=if_pos hk
  have HX:=hid (fun V (hV:aA F V g r)=>nC F g r V hV (qz hk (by decide)) (by rw[hk];decide))
  rw[e]
  generalize bq r=x at HN hk ⊢
  obtain⟨xk,xs,xn,xp⟩:=x
  dsimp only at HN hk ⊢
  subst hk
  clear e
  go_enter Tryz.func112,Tryz.ntmps112
  go_wp2_with fail
  refine HN.out.mono ?_
  rintro e' w1 ⟨rfl,hb1⟩
  obtain⟨W,hW,hbW,hzW,hcW⟩:=bF w1 (.cells #[.int .i64 1,.string (ah xs),.int .i64 xn,.int .i64 xp] 162)
  have hbW':=hb1.trans (hbW.mono hb1.size)
  have HRW:=HH.out.below hbW'
  have HXW:=hid (HX.out W HRW)
  have k:=aW hcW
  have HC:=hid hcW
  have HB:=hid hbW'
  have HLT:Hid (g<w1.heap.size):=hid (HH.out.below hb1).lt
  clear hb1 hbW hbW' HRW hcW HN HX
  go_wp2_with fail
  try rw[hW]
  clear hW
  refine HXW.out.mono ?_
  rintro e' w2 ⟨rfl,hr2,hf2⟩
  have k2:=aW ((hf2.block w1.heap.size hzW (by have:=HLT.out;omega)).trans HC.out)
  have HR:=hid hr2
  have HF:Hid (Fr g w w2):=hid ((aj.aC (S:=fun k=>k=g) HB.out).then hf2)
  clear hr2 hf2 HXW k
  go_wp2
  go_ret
  exact⟨rfl,HR.out,HF.out⟩
 ·have e:nameP r=([],dh 4 r):=if_neg hk
  have HX:=hid (fun V (hV:aA F V g r)=>fK F g r V hV 4 (by decide))
  rw[e]
  have hk':((bq r).k != 1)=true:=by simpa using hk
  generalize bq r=x at HN hk' ⊢
  obtain⟨xk,xs,xn,xp⟩:=x
  dsimp only at HN hk' ⊢
  clear e hk
  go_enter Tryz.func112,Tryz.ntmps112
  go_wp2_with fail
  refine HN.out.mono ?_
  rintro e' w1 ⟨rfl,hb1⟩
  obtain⟨W,hW,hbW,hzW,hcW⟩:=bF w1 (.cells #[.int .i64 xk,.string (ah xs),.int .i64 xn,.int .i64 xp] 162)
  have hbW':=hb1.trans (hbW.mono hb1.size)
  have HRW:=HH.out.below hbW'
  have HXW:=hid (HX.out W HRW)
  have k:=aW hcW
  have HB:=hid hbW'
  clear hb1 hbW hbW' HRW hcW HN HX
  go_wp2_with fail
  try rw[hW]
  clear hW
  refine HXW.out.mono ?_
  rintro e' w2 ⟨rfl,hr2,hf2⟩
  have HR:=hid hr2
  have HF:Hid (Fr g w w2):=hid ((aj.aC (S:=fun k=>k=g) HB.out).then hf2)
  clear hr2 hf2 HXW k
  go_wp2
  go_ret
  exact⟨rfl,HR.out,HF.out⟩
theorem mU (F g:Nat) (r:Rd) (w:World) (h:aA F w g r) :
  Calls Tryz.prog 190 #[.pointer (some ⟨g,0,none⟩)] w fun e w'=>e = .returned (.int .i64 (iT r).1)∧aA F w' g (iT r).2∧Fr g w w':=by
 have HN:=hid (oP F g r w h)
 have HH:=hid h
 clear h
 by_cases hk:(bq r).k=3
 ·have e:iT r=((bq r).n,nextR r):=if_pos hk
  have HX:=hid (fun V (hV:aA F V g r)=>nC F g r V hV (qz hk (by decide)) (by rw[hk];decide))
  rw[e]
  generalize bq r=x at HN hk ⊢
  obtain⟨xk,xs,xn,xp⟩:=x
  dsimp only at HN hk ⊢
  subst hk
  clear e
  go_enter Tryz.func190,Tryz.ntmps190
  go_wp2_with fail
  refine HN.out.mono ?_
  rintro e' w1 ⟨rfl,hb1⟩
  obtain⟨W,hW,hbW,hzW,hcW⟩:=bF w1 (.cells #[.int .i64 3,.string (ah xs),.int .i64 xn,.int .i64 xp] 162)
  have hbW':=hb1.trans (hbW.mono hb1.size)
  have HRW:=HH.out.below hbW'
  have HXW:=hid (HX.out W HRW)
  have k:=aW hcW
  have HC:=hid hcW
  have HB:=hid hbW'
  have HLT:Hid (g<w1.heap.size):=hid (HH.out.below hb1).lt
  clear hb1 hbW hbW' HRW hcW HN HX
  go_wp2_with fail
  try rw[hW]
  clear hW
  refine HXW.out.mono ?_
  rintro e' w2 ⟨rfl,hr2,hf2⟩
  have k2:=aW ((hf2.block w1.heap.size hzW (by have:=HLT.out;omega)).trans HC.out)
  have HR:=hid hr2
  have HF:Hid (Fr g w w2):=hid ((aj.aC (S:=fun k=>k=g) HB.out).then hf2)
  clear hr2 hf2 HXW k
  go_wp2
  go_ret
  exact⟨rfl,HR.out,HF.out⟩
 ·have e:iT r=(0,dh 4 r):=if_neg hk
  have HX:=hid (fun V (hV:aA F V g r)=>fK F g r V hV 4 (by decide))
  rw[e]
  have hk':((bq r).k != 3)=true:=by simpa using hk
  generalize bq r=x at HN hk' ⊢
  obtain⟨xk,xs,xn,xp⟩:=x
  dsimp only at HN hk' ⊢
  clear e hk
  go_enter Tryz.func190,Tryz.ntmps190
  go_wp2_with fail
  refine HN.out.mono ?_
  rintro e' w1 ⟨rfl,hb1⟩
  obtain⟨W,hW,hbW,hzW,hcW⟩:=bF w1 (.cells #[.int .i64 xk,.string (ah xs),.int .i64 xn,.int .i64 xp] 162)
  have hbW':=hb1.trans (hbW.mono hb1.size)
  have HRW:=HH.out.below hbW'
  have HXW:=hid (HX.out W HRW)
  have k:=aW hcW
  have HB:=hid hbW'
  clear hb1 hbW hbW' HRW hcW HN HX
  go_wp2_with fail
  try rw[hW]
  clear hW
  refine HXW.out.mono ?_
  rintro e' w2 ⟨rfl,hr2,hf2⟩
  have HR:=hid hr2
  have HF:Hid (Fr g w w2):=hid ((aj.aC (S:=fun k=>k=g) HB.out).then hf2)
  clear hr2 hf2 HXW k
  go_wp2
  go_ret
  exact⟨rfl,HR.out,HF.out⟩
end Go.Proofs.YtaaggohjmhifbaaGreatDoor
