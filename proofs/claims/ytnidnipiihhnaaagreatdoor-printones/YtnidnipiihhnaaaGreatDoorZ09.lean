/- Packed for the hand-in: PRead -/
import Derived.Test.YtnidnipiihhnaaaGreatDoorZ07
import Derived.Test.YtnidnipiihhnaaaGreatDoorZ08
namespace Go.Proofs.YtnidnipiihhnaaaGreatDoor
open Go.RowKit Go.Shelf
set_option linter.unusedSimpArgs false
set_option linter.unusedVariables false
set_option maxRecDepth 20000
set_option maxHeartbeats 8000000
abbrev Fr (g:Nat) (w w':World):Prop:=ay (fun k=>k=g) w w'
structure aC (F:Nat) (w:World) (g:Nat) (r:Rd):Prop where
 good:Good F r
 lie : ∃v,w.heap[g]?=some (.cells #[v,.int .i64 r.d,.int .i64 r.bad,.int .i64 r.bp] 126)∧nG g w v r.ts
theorem aC.lt {F:Nat} {w:World} {g:Nat} {r:Rd} (h:aC F w g r):g<w.heap.size:=by
 obtain⟨v,hv,_⟩:=h.lie
 exact (Array.getElem?_eq_some_iff.1 hv).1
theorem nG.keeps {R:Nat→Prop} {B:Nat} {w w':World} {v:Value} {xs:List Tk} (h:nG B w v xs) (hk:ay R w w') (hR : ∀i,i<B→¬R i):nG B w' v xs:=by
 obtain⟨a,c,hv,h1,h2,h3⟩:=h
 refine ⟨a,c,hv,h1,h2,fun hne=>?_⟩
 obtain⟨b,off,ha,hlt,hc⟩:=h3 hne
 refine ⟨b,off,ha,hlt,fun j x hx=>?_⟩
 obtain⟨c0,c1,c2,c3⟩:=hc j x hx
 exact⟨hk.cell c0 (hR b hlt),hk.cell c1 (hR b hlt),hk.cell c2 (hR b hlt),hk.cell c3 (hR b hlt)⟩
theorem aC.keeps {F:Nat} {R:Nat→Prop} {w w':World} {g:Nat} {r:Rd} (h:aC F w g r) (hk:ay R w w') (hR : ∀i,i≤g→¬R i):aC F w' g r:=by
 obtain⟨v,hv,ht⟩:=h.lie
 exact⟨h.good,v,by rw[hk.block g h.lt (hR g (Nat.le_refl _))];exact hv,ht.keeps hk (fun i hi=>hR i (by omega))⟩
theorem aC.below {F:Nat} {w w':World} {g:Nat} {r:Rd} (h:aC F w g r) (hb:Below w.heap.size w w'):aC F w' g r :=
 h.keeps (ay.aA (S:=fun _=>False) hb) (fun _ _ e=>e)
theorem ay.setCell {S:Nat→Prop} {a b:World} (h:ay S a b) {p:Addr} (hp:S p.block∨a.heap.size≤p.block) (u:Value):ay S a (b.setCell p u) :=
 ⟨h.os,h.tape,h.output,by simpa [World.setCell] using h.size,fun k hk hS=>(Below.heap_setCell _ _ _ _ (by rintro rfl;rcases hp with hp | hp;exact hS hp;omega)).trans (h.block k hk hS)⟩
theorem ay.setRow {S:Nat→Prop} {a b:World} (h:ay S a b) {p:Nat} (hp:S p∨a.heap.size≤p) (cs:Array Value):ay S a (b.setRow p cs) :=
 ⟨h.os,h.tape,h.output,by simpa using h.size,fun k hk hS=>(setRow_other _ _ _ _ (by rintro rfl;rcases hp with hp | hp;exact hS hp;omega)).trans (h.block k hk hS)⟩
theorem ay.alloc {S:Nat→Prop} {a b:World} (h:ay S a b) (o:Obj):ay S a (b.alloc o) :=
 ⟨h.os,h.tape,h.output,by have:=h.size;simp;omega,fun k hk hS=>(Below.heap_alloc _ _ _ (Nat.lt_of_lt_of_le hk h.size)).trans (h.block k hk hS)⟩
theorem ay.own {g:Nat} {a b:World} (h:Fr g a b) (i:Nat) (u:Value):Fr g a (b.setCell ⟨g,i,none⟩ u):=ay.setCell (S:=fun k=>k=g) h (p:=⟨g,i,none⟩) (.inl rfl) u
theorem ay.then {S:Nat→Prop} {a b c:World} (h:ay S a b) (k:ay S b c):ay S a c:=h.andThen k fun _ hi=>.inl hi
theorem ay.aM {S:Nat→Prop} {a b c:World} (h:ay S a b) (k:Below b.heap.size b c):ay S a c:=h.andThen (ay.aA (S:=S) k) fun _ hi=>.inl hi
structure wz (w:World) (g:Nat) (r:Rd):Prop where
 any:r.bad=0→r.ts≠[]
 lie : ∃v,w.heap[g]?=some (.cells #[v,.int .i64 r.d,.int .i64 r.bad,.int .i64 r.bp] 126)∧nG g w v r.ts
theorem aC.Jq {F:Nat} {w:World} {g:Nat} {r:Rd} (h:aC F w g r):wz w g r :=
 ⟨fun hb e=>by obtain⟨L,x,hL,_⟩:=h.good.last hb;rw[e] at hL;cases L<;>simp at hL,h.lie⟩
theorem wz.lt {w:World} {g:Nat} {r:Rd} (h:wz w g r):g<w.heap.size:=by
 obtain⟨v,hv,_⟩:=h.lie
 exact (Array.getElem?_eq_some_iff.1 hv).1
theorem wz.keeps {R:Nat→Prop} {w w':World} {g:Nat} {r:Rd} (h:wz w g r) (hk:ay R w w') (hR : ∀i,i≤g→¬R i):wz w' g r:=by
 obtain⟨v,hv,ht⟩:=h.lie
 exact⟨h.any,v,by rw[hk.block g h.lt (hR g (Nat.le_refl _))];exact hv,ht.keeps hk (fun i hi=>hR i (by omega))⟩
theorem wz.below {w w':World} {g:Nat} {r:Rd} (h:wz w g r) (hb:Below w.heap.size w w'):wz w' g r :=
 h.keeps (ay.aA (S:=fun _=>False) hb) (fun _ _ e=>e)
theorem wz.head {w:World} {g:Nat} {r:Rd} (h:wz w g r) (hb:r.bad=0) :
  ∃
   (b off n c:Nat) (x:Tk) (l:List Tk),r.ts=x::l∧bF r=x∧b<g∧n=l.length+1∧n≤c∧c≤maxLen∧w.heap[g]?=some (.cells #[.slice (some ⟨b,off,none⟩) n c,.int .i64 r.d,.int .i64 0,.int .i64 r.bp] 126) ∧
   ∀j y,(x::l)[j]?=some y→w.cell? ⟨b,off+j*4,none⟩=some (.int .i64 y.k)∧w.cell? ⟨b,off+j*4+1,none⟩=some (.string (aj y.s))∧w.cell? ⟨b,off+j*4+2,none⟩=some (.int .i64 y.n)∧w.cell? ⟨b,off+j*4+3,none⟩=some (.int .i64 y.p):=by
 obtain⟨v,hv,a,c,rfl,h1,h2,h3⟩:=h.lie
 cases hts:r.ts with
 | nil=>exact absurd hts (h.any hb)
 |
  cons x l =>
  rw[hts] at h1 h3 hv
  obtain⟨b,off,rfl,hlt,hc⟩:=h3 (by simp)
  refine ⟨b,off,l.length+1,c,x,l,rfl,?_,hlt,rfl,by simpa using h1,h2,by rw[hb] at hv;simpa using hv,hc⟩
  unfold bF
  rw[if_pos hb,hts]
  rfl
theorem aY (w:World) (o:Obj):∃W,w.alloc o=W∧Below w.heap.size w W∧w.heap.size<W.heap.size∧W.heap[w.heap.size]?=some o :=
 ⟨_,rfl,(Below.refl _ _).alloc (Nat.le_refl _) _,by simp,heap_alloc_new w _⟩
theorem rA (k n p:Int) (s:ByteArray) (w:World):(Instr.field 119 (.agg #[.int .i64 k,.string s,.int .i64 n,.int .i64 p]) 0).run Tryz.prog w = .ok (.int .i64 k) w∧(Instr.field 119 (.agg #[.int .i64 k,.string s,.int .i64 n,.int .i64 p]) 3).run Tryz.prog w = .ok (.int .i64 p) w:=by
 constructor<;>simp[Instr.field,Go.part,asAgg,go_sem,Tryz.underlying119]
theorem zy (g:Nat) (r:Rd) (w:World) (h:wz w g r) :
  Calls Tryz.prog 93 #[.pointer (some ⟨g,0,none⟩)] w fun e w'=>e = .returned (.agg #[.int .i64 (bF r).k,.string (aj (bF r).s),.int .i64 (bF r).n,.int .i64 (bF r).p])∧Below w.heap.size w w':=by
 have hlt:=h.lt
 by_cases hb:r.bad=0
 ·obtain⟨b,off,n,c,x,l,hts,hx,hbg,hn,hnc,hcm,hg,hcell⟩:=h.head hb
  have HX:=hid hx
  have k:=fun o=>bB (((Below.refl w.heap.size w).alloc (Nat.le_refl _) o).block g hlt |>.trans hg)
  have t:=fun o=>by
   have hB:Below w.heap.size w (w.alloc o):=(Below.refl _ _).alloc (Nat.le_refl _) o
   obtain⟨c0,c1,c2,c3⟩:=hcell 0 x rfl
   rw[Nat.zero_mul,Nat.add_zero] at c0 c1 c2 c3
   have hbw:b<w.heap.size:=by omega
   exact (⟨(hB.cell (p:=⟨b,off,none⟩) hbw).trans c0,(hB.cell (p:=⟨b,off+1,none⟩) hbw).trans c1,(hB.cell (p:=⟨b,off+2,none⟩) hbw).trans c2,(hB.cell (p:=⟨b,off+3,none⟩) hbw).trans c3⟩:_∧_∧_∧_)
  have hpos:(0:Int)<(n:Int):=by omega
  clear hcell hts hx
  go_enter Tryz.func93,Tryz.ntmps93
  go_wp2
  exact bodyPost_ret (v:=.agg #[.int .i64 x.k,.string (aj x.s),.int .i64 x.n,.int .i64 x.p]) (by simp[results,Tryz.results93,go_sem]) rfl ⟨by rw[HX.out],(Below.refl _ _).alloc (Nat.le_refl _) _⟩
 ·obtain⟨v,hv,_⟩:=h.lie
  have HX:Hid (bF r=jJ):=hid (jB hb)
  have k:=fun o=>bB (((Below.refl w.heap.size w).alloc (Nat.le_refl _) o).block g hlt |>.trans hv)
  have hb':(r.bad != 0)=true:=by simpa using hb
  go_enter Tryz.func93,Tryz.ntmps93
  go_wp2
  exact bodyPost_ret (v:=.agg #[.int .i64 jJ.k,.string (aj jJ.s),.int .i64 jJ.n,.int .i64 jJ.p]) (by simp[results,Tryz.results93,go_sem];exact⟨rfl,rfl,rfl,rfl⟩) rfl ⟨by rw[HX.out],(Below.refl _ _).alloc (Nat.le_refl _) _⟩
theorem oU (F g:Nat) (r:Rd) (w:World) (h:aC F w g r) :
 Calls Tryz.prog 93 #[.pointer (some ⟨g,0,none⟩)] w fun e w'=>e = .returned (.agg #[.int .i64 (bF r).k,.string (aj (bF r).s),.int .i64 (bF r).n,.int .i64 (bF r).p])∧Below w.heap.size w w':=zy g r w h.Jq
theorem ug (F g:Nat) (r:Rd) (w:World) (h:aC F w g r) (hb:r.bad=0) (hk:(bF r).k≠6) :
  Calls Tryz.prog 242 #[.pointer (some ⟨g,0,none⟩)] w fun e w'=>e = .returned (.agg #[.int .i64 (cO r).k,.string (aj (cO r).s),.int .i64 (cO r).n,.int .i64 (cO r).p])∧Below w.heap.size w w':=by
 have hlt:=h.lt
 obtain⟨b,off,n,c,x,l,hts,hx,hbg,hn,hnc,hcm,hg,hcell⟩:=h.Jq.head hb
 obtain⟨y,l',hl⟩:∃y l',l=y::l':=by
  obtain⟨L,e,hL,he,_⟩:=h.good.last hb
  cases l with
  |
   nil =>
   rw[hts] at hL
   cases L with
   | nil=>simp at hL;rw[hx,hL,he] at hk;exact absurd rfl hk
   | cons a L=>cases L<;>simp at hL
  | cons y l'=>exact⟨y,l',rfl⟩
 subst hl
 have HX:Hid (cO r=y):=hid (by unfold cO;rw[hts];rfl)
 have k:=fun o=>bB (((Below.refl w.heap.size w).alloc (Nat.le_refl _) o).block g hlt |>.trans hg)
 have t:=fun o=>by
  have hB:Below w.heap.size w (w.alloc o):=(Below.refl _ _).alloc (Nat.le_refl _) o
  obtain⟨c0,c1,c2,c3⟩:=hcell 1 y rfl
  rw[Nat.one_mul] at c0 c1 c2 c3
  have hbw:b<w.heap.size:=by omega
  exact (⟨(hB.cell (p:=⟨b,off+4,none⟩) hbw).trans c0,(hB.cell (p:=⟨b,off+4+1,none⟩) hbw).trans c1,(hB.cell (p:=⟨b,off+4+2,none⟩) hbw).trans c2,(hB.cell (p:=⟨b,off+4+3,none⟩) hbw).trans c3⟩:_∧_∧_∧_)
 have hpos:(1:Int)<(n:Int):=by rw[hn];simp;omega
 clear hcell hts hx hn hk
 go_enter Tryz.func242,Tryz.ntmps242
 go_wp2
 exact bodyPost_ret (v:=.agg #[.int .i64 y.k,.string (aj y.s),.int .i64 y.n,.int .i64 y.p]) (by simp[results,Tryz.results242,go_sem]) rfl ⟨by rw[HX.out],(Below.refl _ _).alloc (Nat.le_refl _) _⟩
theorem xw (b off n c:Nat) (hn:2≤n) (hc:n≤c) (w:World):(Instr.slice 55 (.slice (some ⟨b,off,none⟩) n c) (some (.int .i64 1)) none none).run Tryz.prog w = .ok (.slice (some ⟨b,off+4,none⟩) (n-1) (c-1)) w:=by
 go_simp
 rw[if_pos (by omega),if_neg (by omega)]
theorem aC.put {F:Nat} {w:World} {g:Nat} {r:Rd} {cs:Array Value} {v:Value} (hg:w.heap[g]?=some (.cells cs 126)) (hG:Good F r) (ht:nG g w v r.ts):aC F (w.setRow g #[v,.int .i64 r.d,.int .i64 r.bad,.int .i64 r.bp]) g r:=by
 refine ⟨hG,v,setRow_heap w g cs _ _ _ hg,?_⟩
 exact ht.keeps (R:=fun k=>k=g) (ay.setRow (S:=fun k=>k=g) (ay.refl _ w) (p:=g) (.inl rfl) _) (fun i hi e=>by omega)
theorem nP (F g:Nat) (r:Rd) (w:World) (h:aC F w g r) (hb:r.bad=0) (hk:(bF r).k≠6) :
  Calls Tryz.prog 146 #[.pointer (some ⟨g,0,none⟩)] w fun e w'=>e = .returned (.tuple #[])∧aC F w' g (nextR r)∧Fr g w w':=by
 have hlt:=h.lt
 have hG2:=h.good.next hb hk
 obtain⟨b,off,n,c,x,l,hts,hx,hbg,hn,hnc,hcm,hg,hcell⟩:=h.Jq.head hb
 have hl:l≠[]:=fun e=>by
  obtain⟨L,e',hL,he,_⟩:=h.good.last hb
  rw[hts,e] at hL
  cases L with
  | nil=>simp at hL;rw[hx,hL,he] at hk;exact hk rfl
  | cons a L=>cases L<;>simp at hL
 have hl1:1≤l.length:=by
  cases l with
  | nil=>exact absurd rfl hl
  | cons a l=>simp
 have hsl:=xw b off n c (by omega) hnc
 have k:=bB hg
 have HN:Hid (aC F (w.setCell ⟨g,0,none⟩ (.slice (some ⟨b,off+4,none⟩) (n-1) (c-1))) g (nextR r)):=hid (by
  rw[setCell_eq_setRow w g 0 _ _ _ _ hg]
  have e:(#[Value.slice (some ⟨b,off,none⟩) n c,.int .i64 r.d,.int .i64 0,.int .i64 r.bp]:Array Value).setIfInBounds 0 (.slice (some ⟨b,off+4,none⟩) (n-1) (c-1))=#[.slice (some ⟨b,off+4,none⟩) (n-1) (c-1),.int .i64 (nextR r).d,.int .i64 (nextR r).bad,.int .i64 (nextR r).bp]:=by
   show _=(#[_,.int .i64 r.d,.int .i64 r.bad,.int .i64 r.bp]:Array Value)
   rw[hb];rfl
  rw[e]
  refine aC.put hg hG2 ?_
  have ets:(nextR r).ts=l:=by unfold nextR;rw[hts];rfl
  rw[ets]
  refine ⟨_,c-1,by rw[show n-1=l.length by omega],by omega,by omega,fun _=>⟨b,off+4,rfl,hbg,fun j y hy=>?_⟩⟩
  have:=hcell (j+1) y (by simpa using hy)
  rw[show off+4+j*4=off+(j+1)*4 by omega]
  exact this)
 have HF:Hid (Fr g w (w.setCell ⟨g,0,none⟩ (.slice (some ⟨b,off+4,none⟩) (n-1) (c-1)))):=hid ((ay.refl (fun k=>k=g) w).own _ _)
 clear hcell hts hx hn hk hG2 h hl
 go_enter Tryz.func146,Tryz.ntmps146
 go_wp2
 exact bodyPost_end (v:=.tuple #[]) (by simp[results,Tryz.results146,go_sem]) rfl ⟨rfl,HN.out,HF.out⟩
theorem wz.fail {w:World} {g:Nat} {r:Rd} (h:wz w g r) (hb:r.bad=0) {e:Int} (he:e≠0):wz ((w.setCell ⟨g,2,none⟩ (.int .i64 e)).setCell ⟨g,3,none⟩ (.int .i64 (bF r).p)) g (dB e r)∧Fr g w ((w.setCell ⟨g,2,none⟩ (.int .i64 e)).setCell ⟨g,3,none⟩ (.int .i64 (bF r).p)):=by
 refine ⟨?_,((ay.refl (fun k=>k=g) w).own _ _).own _ _⟩
 obtain⟨v,hv,ht⟩:=h.lie
 have e1:dB e r = { r with bad:=e,bp:=(bF r).p }:=if_pos hb
 rw[setCell_eq_setRow w g 2 _ _ _ _ hv,setCell_eq_setRow _ g 3 _ _ _ _ (setRow_heap w g _ _ _ _ hv),setRow_setRow]
 have e2:((#[v,.int .i64 r.d,.int .i64 r.bad,.int .i64 r.bp]:Array Value).setIfInBounds 2 (.int .i64 e)).setIfInBounds 3 (.int .i64 (bF r).p)=#[v,.int .i64 (dB e r).d,.int .i64 (dB e r).bad,.int .i64 (dB e r).bp]:=by rw[e1];rfl
 rw[e2]
 refine ⟨fun h0=>absurd ((gG hb e).symm.trans h0) he,v,setRow_heap w g _ _ _ _ hv,?_⟩
 rw[(oL r e).1]
 exact ht.keeps (R:=fun k=>k=g) (ay.setRow (S:=fun k=>k=g) (ay.refl _ w) (p:=g) (.inl rfl) _) (fun i hi e=>by omega)
theorem wD (g:Nat) (r:Rd) (w:World) (h:wz w g r) (e:Int) (he:e≠0) :
  Calls Tryz.prog 94 #[.pointer (some ⟨g,0,none⟩),.int .i64 e] w fun x w'=>x = .returned (.tuple #[])∧wz w' g (dB e r)∧Fr g w w':=by
 have hlt:=h.lt
 have HN:=hid (zy g r w h)
 have hft:=fun w=>(rA (bF r).k (bF r).n (bF r).p (aj (bF r).s) w).2
 have HH:=hid h
 obtain⟨v,hv,_⟩:=h.lie
 have k:=bB hv
 by_cases hb:r.bad=0
 ·rw[hb] at k
  clear h
  go_enter Tryz.func94,Tryz.ntmps94
  go_wp2_with fail
  refine HN.out.mono ?_
  rintro e' w1 ⟨rfl,hb1⟩
  have H1:=HH.out.below hb1
  obtain⟨v1,hv1,_⟩:=H1.lie
  have k1:=bB hv1
  obtain⟨hR,hF⟩:=H1.fail hb he
  have HR:=hid hR
  have HF:Hid (Fr g w _):=hid ((ay.aA (S:=fun k=>k=g) hb1).then hF)
  clear hR hF H1 hb1
  go_wp2
  exact bodyPost_end (v:=.tuple #[]) (by simp[results,Tryz.results94,go_sem]) rfl ⟨rfl,HR.out,HF.out⟩
 ·have hb':(r.bad==0)=false:=by simpa using hb
  have e1:dB e r=r:=if_neg hb
  rw[e1]
  clear h
  go_enter Tryz.func94,Tryz.ntmps94
  go_wp2
  exact bodyPost_end (v:=.tuple #[]) (by simp[results,Tryz.results94,go_sem]) rfl ⟨rfl,HH.out,ay.refl _ _⟩
theorem fP (F g:Nat) (r:Rd) (w:World) (h:aC F w g r) (e:Int) (he:e≠0) :
  Calls Tryz.prog 94 #[.pointer (some ⟨g,0,none⟩),.int .i64 e] w fun x w'=>x = .returned (.tuple #[])∧aC F w' g (dB e r)∧Fr g w w':=by
 refine (wD g r w h.Jq e he).mono ?_
 rintro x w' ⟨rfl,h1,h2⟩
 exact⟨rfl,⟨h.good.fail he,h1.lie⟩,h2⟩
theorem Jw (t:List UInt8) (r:Rd):dR t r=(((bF r).k==2||(bF r).k==5)&&((aj (bF r).s).toList==(aj t).toList)):=by
 rw[jk,jk];rfl
theorem rG (F g:Nat) (r:Rd) (w:World) (h:aC F w g r) (t:List UInt8) :
  Calls Tryz.prog 156 #[.pointer (some ⟨g,0,none⟩),.string (aj t)] w fun e w'=>e = .returned (.bool (dR t r))∧Below w.heap.size w w':=by
 have HN:=hid (oU F g r w h)
 rw[Jw]
 generalize bF r=x at HN ⊢
 obtain⟨xk,xs,xn,xp⟩:=x
 dsimp only at HN ⊢
 clear h
 by_cases h2:xk=2
 ·subst h2
  go_enter Tryz.func156,Tryz.ntmps156
  go_wp2_with fail
  refine HN.out.mono ?_
  rintro e' w1 ⟨rfl,hb1⟩
  have HB:=hid (hb1.alloc hb1.size (.cells #[.int .i64 2,.string (aj xs),.int .i64 xn,.int .i64 xp] 119))
  clear hb1 HN
  go_wp2
  go_ret
  exact⟨by simp,HB.out⟩
 ·by_cases h5:xk=5
  ·subst h5
   go_enter Tryz.func156,Tryz.ntmps156
   go_wp2_with fail
   refine HN.out.mono ?_
   rintro e' w1 ⟨rfl,hb1⟩
   have HB:=hid (hb1.alloc hb1.size (.cells #[.int .i64 5,.string (aj xs),.int .i64 xn,.int .i64 xp] 119))
   clear hb1 HN
   go_wp2
   go_ret
   exact⟨by simp,HB.out⟩
  ·have h2':(xk==2)=false:=by simpa using h2
   have h5':(xk==5)=false:=by simpa using h5
   rw[h2',h5']
   go_enter Tryz.func156,Tryz.ntmps156
   go_wp2_with fail
   refine HN.out.mono ?_
   rintro e' w1 ⟨rfl,hb1⟩
   have HB:=hid (hb1.alloc hb1.size (.cells #[.int .i64 xk,.string (aj xs),.int .i64 xn,.int .i64 xp] 119))
   clear hb1 HN
   go_wp2
   go_ret
   exact⟨by simp,HB.out⟩
def iw (t:List UInt8) (r:Rd):Rd:=if dR t r=true then nextR r else r
theorem lu (t:List UInt8) (r:Rd):fF t r=(dR t r,iw t r):=by
 unfold fF gP iw aZ
 split
 ·rename_i h;rw[h]
 ·rename_i h;rw[Bool.not_eq_true] at h;rw[h]
theorem jY (F g:Nat) (r:Rd) (w:World) (h:aC F w g r) (t:List UInt8) :
  Calls Tryz.prog 103 #[.pointer (some ⟨g,0,none⟩),.string (aj t)] w fun e w'=>e = .returned (.bool (dR t r))∧aC F w' g (iw t r)∧Fr g w w':=by
 have HI:=hid (rG F g r w h t)
 have HH:=hid h
 clear h
 cases hi:dR t r with
 |
  true =>
  rw[hi] at HI
  have e:iw t r=nextR r:=if_pos hi
  rw[e]
  have hb:=jX hi
  have hk:=mF hi
  go_enter Tryz.func103,Tryz.ntmps103
  go_wp2_with fail
  refine HI.out.mono ?_
  rintro e' w1 ⟨rfl,hb1⟩
  have HN:=hid (nP F g r w1 (HH.out.below hb1) hb hk)
  have HB:=hid hb1
  clear hb1 HI
  go_wp2_with fail
  refine HN.out.mono ?_
  rintro e' w2 ⟨rfl,hr2,hf2⟩
  have HR:=hid hr2
  have HF:Hid (Fr g w w2):=hid ((ay.aA (S:=fun k=>k=g) HB.out).then hf2)
  clear hr2 hf2 HN HB
  go_wp2
  go_ret
  exact⟨rfl,HR.out,HF.out⟩
 |
  false =>
  rw[hi] at HI
  have e:iw t r=r:=if_neg (by rw[hi];exact Bool.false_ne_true)
  rw[e]
  go_enter Tryz.func103,Tryz.ntmps103
  go_wp2_with fail
  refine HI.out.mono ?_
  rintro e' w1 ⟨rfl,hb1⟩
  have HB:=hid hb1
  clear hb1 HI
  go_wp2
  go_ret
  exact⟨rfl,HH.out.below HB.out,ay.aA HB.out⟩
theorem eH (F g:Nat) (r:Rd) (w:World) (h:aC F w g r) (t:List UInt8) (hi:dR t r=true) :
  Calls Tryz.prog 103 #[.pointer (some ⟨g,0,none⟩),.string (aj t)] w fun e w'=>e = .returned (.bool true)∧aC F w' g (nextR r)∧Fr g w w':=by
 have:=jY F g r w h t
 rw[hi,show iw t r=nextR r from if_pos hi] at this
 exact this
theorem fC (F g:Nat) (r:Rd) (w:World) (h:aC F w g r) (t:List UInt8) (hi:dR t r=false) :
  Calls Tryz.prog 103 #[.pointer (some ⟨g,0,none⟩),.string (aj t)] w fun e w'=>e = .returned (.bool false)∧aC F w' g r∧Fr g w w':=by
 have:=jY F g r w h t
 rw[hi,show iw t r=r from if_neg (by rw[hi];exact Bool.false_ne_true)] at this
 exact this
theorem CK (F g:Nat) (r:Rd) (w:World) (h:aC F w g r) :
  Calls Tryz.prog 149 #[.pointer (some ⟨g,0,none⟩)] w fun e w'=>e = .returned (.bool (bL r).1)∧aC F w' g (bL r).2∧Fr g w w':=by
 unfold bL
 rw[lu]
 have HI:Hid (Calls Tryz.prog 103 #[.pointer (some ⟨g,0,none⟩),.string ⟨#[44]⟩] w fun e w'=>e = .returned (.bool (dR [44] r))∧aC F w' g (iw [44] r)∧Fr g w w'):=hid (jY F g r w h [44])
 generalize dR [44] r=b at HI ⊢
 generalize iw [44] r=r' at HI ⊢
 clear h
 go_enter Tryz.func149,Tryz.ntmps149
 go_wp2_with fail
 refine HI.out.mono ?_
 rintro e' w1 ⟨rfl,hr1,hf1⟩
 have HR:=hid hr1
 have HF:=hid hf1
 clear hr1 hf1 HI
 go_wp2
 go_ret
 exact⟨rfl,HR.out,HF.out⟩
theorem F9 (F g:Nat) (r:Rd) (w:World) (h:aC F w g r) :
  Calls Tryz.prog 40 #[.pointer (some ⟨g,0,none⟩)] w fun e w'=>e = .returned (.bool (iU r).1)∧aC F w' g (iU r).2∧Fr g w w':=by
 unfold iU
 rw[lu]
 have HI:Hid (Calls Tryz.prog 103 #[.pointer (some ⟨g,0,none⟩),.string ⟨#[59]⟩] w fun e w'=>e = .returned (.bool (dR [59] r))∧aC F w' g (iw [59] r)∧Fr g w w'):=hid (jY F g r w h [59])
 generalize dR [59] r=b at HI ⊢
 generalize iw [59] r=r' at HI ⊢
 clear h
 go_enter Tryz.func40,Tryz.ntmps40
 go_wp2_with fail
 refine HI.out.mono ?_
 rintro e' w1 ⟨rfl,hr1,hf1⟩
 have HR:=hid hr1
 have HF:=hid hf1
 clear hr1 hf1 HI
 go_wp2
 go_ret
 exact⟨rfl,HR.out,HF.out⟩
theorem qL {r:Rd} {m:Int} (h:(bF r).k=m) (hm:m≠0):r.bad=0:=by
 by_cases e:r.bad=0
 ·exact e
 ·rw[jB e] at h;exact absurd h.symm hm
theorem gJ (F g:Nat) (r:Rd) (w:World) (h:aC F w g r) :
  Calls Tryz.prog 98 #[.pointer (some ⟨g,0,none⟩)] w fun e w'=>e = .returned (.string (aj (nameP r).1))∧aC F w' g (nameP r).2∧Fr g w w':=by
 have HN:=hid (oU F g r w h)
 have HH:=hid h
 clear h
 by_cases hk:(bF r).k=1
 ·have e:nameP r=((bF r).s,nextR r):=if_pos hk
  have HX:=hid (fun V (hV:aC F V g r)=>nP F g r V hV (qL hk (by decide)) (by rw[hk];decide))
  rw[e]
  generalize bF r=x at HN hk ⊢
  obtain⟨xk,xs,xn,xp⟩:=x
  dsimp only at HN hk ⊢
  subst hk
  clear e
  go_enter Tryz.func98,Tryz.ntmps98
  go_wp2_with fail
  refine HN.out.mono ?_
  rintro e' w1 ⟨rfl,hb1⟩
  obtain⟨W,hW,hbW,hzW,hcW⟩:=aY w1 (.cells #[.int .i64 1,.string (aj xs),.int .i64 xn,.int .i64 xp] 119)
  have hbW':=hb1.trans (hbW.mono hb1.size)
  have HRW:=HH.out.below hbW'
  have HXW:=hid (HX.out W HRW)
  have k:=bB hcW
  have HC:=hid hcW
  have HB:=hid hbW'
  have HLT:Hid (g<w1.heap.size):=hid (HH.out.below hb1).lt
  clear hb1 hbW hbW' HRW hcW HN HX
  go_wp2_with fail
  try rw[hW]
  clear hW
  refine HXW.out.mono ?_
  rintro e' w2 ⟨rfl,hr2,hf2⟩
  have k2:=bB ((hf2.block w1.heap.size hzW (by have:=HLT.out;omega)).trans HC.out)
  have HR:=hid hr2
  have HF:Hid (Fr g w w2):=hid ((ay.aA (S:=fun k=>k=g) HB.out).then hf2)
  clear hr2 hf2 HXW k
  go_wp2
  go_ret
  exact⟨rfl,HR.out,HF.out⟩
 ·have e:nameP r=([],dB 4 r):=if_neg hk
  have HX:=hid (fun V (hV:aC F V g r)=>fP F g r V hV 4 (by decide))
  rw[e]
  have hk':((bF r).k != 1)=true:=by simpa using hk
  generalize bF r=x at HN hk' ⊢
  obtain⟨xk,xs,xn,xp⟩:=x
  dsimp only at HN hk' ⊢
  clear e hk
  go_enter Tryz.func98,Tryz.ntmps98
  go_wp2_with fail
  refine HN.out.mono ?_
  rintro e' w1 ⟨rfl,hb1⟩
  obtain⟨W,hW,hbW,hzW,hcW⟩:=aY w1 (.cells #[.int .i64 xk,.string (aj xs),.int .i64 xn,.int .i64 xp] 119)
  have hbW':=hb1.trans (hbW.mono hb1.size)
  have HRW:=HH.out.below hbW'
  have HXW:=hid (HX.out W HRW)
  have k:=bB hcW
  have HB:=hid hbW'
  clear hb1 hbW hbW' HRW hcW HN HX
  go_wp2_with fail
  try rw[hW]
  clear hW
  refine HXW.out.mono ?_
  rintro e' w2 ⟨rfl,hr2,hf2⟩
  have HR:=hid hr2
  have HF:Hid (Fr g w w2):=hid ((ay.aA (S:=fun k=>k=g) HB.out).then hf2)
  clear hr2 hf2 HXW k
  go_wp2
  go_ret
  exact⟨rfl,HR.out,HF.out⟩
theorem mX (F g:Nat) (r:Rd) (w:World) (h:aC F w g r) :
  Calls Tryz.prog 155 #[.pointer (some ⟨g,0,none⟩)] w fun e w'=>e = .returned (.int .i64 (jl r).1)∧aC F w' g (jl r).2∧Fr g w w':=by
 have HN:=hid (oU F g r w h)
 have HH:=hid h
 clear h
 by_cases hk:(bF r).k=3
 ·have e:jl r=((bF r).n,nextR r):=if_pos hk
  have HX:=hid (fun V (hV:aC F V g r)=>nP F g r V hV (qL hk (by decide)) (by rw[hk];decide))
  rw[e]
  generalize bF r=x at HN hk ⊢
  obtain⟨xk,xs,xn,xp⟩:=x
  dsimp only at HN hk ⊢
  subst hk
  clear e
  go_enter Tryz.func155,Tryz.ntmps155
  go_wp2_with fail
  refine HN.out.mono ?_
  rintro e' w1 ⟨rfl,hb1⟩
  obtain⟨W,hW,hbW,hzW,hcW⟩:=aY w1 (.cells #[.int .i64 3,.string (aj xs),.int .i64 xn,.int .i64 xp] 119)
  have hbW':=hb1.trans (hbW.mono hb1.size)
  have HRW:=HH.out.below hbW'
  have HXW:=hid (HX.out W HRW)
  have k:=bB hcW
  have HC:=hid hcW
  have HB:=hid hbW'
  have HLT:Hid (g<w1.heap.size):=hid (HH.out.below hb1).lt
  clear hb1 hbW hbW' HRW hcW HN HX
  go_wp2_with fail
  try rw[hW]
  clear hW
  refine HXW.out.mono ?_
  rintro e' w2 ⟨rfl,hr2,hf2⟩
  have k2:=bB ((hf2.block w1.heap.size hzW (by have:=HLT.out;omega)).trans HC.out)
  have HR:=hid hr2
  have HF:Hid (Fr g w w2):=hid ((ay.aA (S:=fun k=>k=g) HB.out).then hf2)
  clear hr2 hf2 HXW k
  go_wp2
  go_ret
  exact⟨rfl,HR.out,HF.out⟩
 ·have e:jl r=(0,dB 4 r):=if_neg hk
  have HX:=hid (fun V (hV:aC F V g r)=>fP F g r V hV 4 (by decide))
  rw[e]
  have hk':((bF r).k != 3)=true:=by simpa using hk
  generalize bF r=x at HN hk' ⊢
  obtain⟨xk,xs,xn,xp⟩:=x
  dsimp only at HN hk' ⊢
  clear e hk
  go_enter Tryz.func155,Tryz.ntmps155
  go_wp2_with fail
  refine HN.out.mono ?_
  rintro e' w1 ⟨rfl,hb1⟩
  obtain⟨W,hW,hbW,hzW,hcW⟩:=aY w1 (.cells #[.int .i64 xk,.string (aj xs),.int .i64 xn,.int .i64 xp] 119)
  have hbW':=hb1.trans (hbW.mono hb1.size)
  have HRW:=HH.out.below hbW'
  have HXW:=hid (HX.out W HRW)
  have k:=bB hcW
  have HB:=hid hbW'
  clear hb1 hbW hbW' HRW hcW HN HX
  go_wp2_with fail
  try rw[hW]
  clear hW
  refine HXW.out.mono ?_
  rintro e' w2 ⟨rfl,hr2,hf2⟩
  have HR:=hid hr2
  have HF:Hid (Fr g w w2):=hid ((ay.aA (S:=fun k=>k=g) HB.out).then hf2)
  clear hr2 hf2 HXW k
  go_wp2
  go_ret
  exact⟨rfl,HR.out,HF.out⟩
end Go.Proofs.YtnidnipiihhnaaaGreatDoor
