/- Packed for the hand-in: CCre CSrc CCat -/
import Derived.Test.YtaaggohjmhifbaaGreatDoorP35
import Derived.Test.YtaaggohjmhifbaaGreatDoorP18
import Derived.Test.YtaaggohjmhifbaaGreatDoorP23
import Derived.Test.YtaaggohjmhifbaaGreatDoorP31
import Derived.Maps.RangeWalk
import Derived.Maps.OwnSet
namespace Go.Proofs.YtaaggohjmhifbaaGreatDoor
open Go.RowKit Go.Shelf Go.Lib
set_option linter.unusedSimpArgs false
set_option linter.unusedVariables false
set_option maxRecDepth 20000
set_option maxHeartbeats 8000000
section
variable {P : Program} {md : Region.Mode} {ops : Array Oper} {Q : Exit → Act → World → Prop} {S : World → Prop} {fuel : Nat} {listed : Array Bool} {a : Act} {w : World} {i k0 : Nat} {oi : Oper}
theorem takeE_storerowC (hr:Region.ready md ops listed=[i]) (hi:ops[i]?=some oi) (gi:oi.guard=none) (ty:TypeId) (x y:Operand) (ki:oi.op = .store ty x y)
  (g:Nat) (cells:Array Value) (hx:a.eval x = .pointer (some ⟨g,0,none⟩)) (hy:a.eval y = .agg cells) (t:TypeId) (old:Array Value) (hg:w.heap[g]?=some (.cells old t (0,0))) (hs:(P.info? ty).map (·.size)=some cells.size)
  (hold:old.size=cells.size) (h1:cells.all (·.oneCell')=true) (hS:S (w.setRow g cells)∨i=k0)
  (h:wpAnyE P md ops Q S k0 fuel (listed.setIfInBounds i true) (a.put oi.dst undef) (w.setRow g cells)):wpAnyE P md ops Q S k0 (fuel+1) listed a w :=
 takeE_one hr hi gi (wp_store_row ty x y ki g cells hx hy t old hg hs hold h1 ⟨hS,h⟩)
end
abbrev crC (nm prim:List UInt8) (aa:Option Addr) (nn cc:Nat):Array Value:=#[.int .i64 1,.string (str8 nm),.slice aa nn cc,.string (str8 prim),.slice none 0 0,.slice none 0 0,.slice none 0 0,.string ⟨#[]⟩,.slice none 0 0,.slice none 0 0,.slice none 0 0,.slice none 0 0,.bool false,.int .i64 (-1)]
theorem one14C (nm prim:ByteArray) (aa:Option Addr) (nn cc:Nat):(#[.int .i64 1,.string nm,.slice aa nn cc,.string prim,.slice none 0 0,.slice none 0 0,.slice none 0 0,.string ⟨#[]⟩,.slice none 0 0,.slice none 0 0,.slice none 0 0,.slice none 0 0,.bool false,.int .i64 (-1)]:Array Value).all (·.oneCell')=true:=by
 simp[Value.oneCell']
theorem Tryz.infoStm:(Tryz.prog.info? 28).map (·.size)=some 14:=by kernel_rfl
theorem createC_any (S:Nat→Prop) (nm:List UInt8) (l:List Co) (aa:Option Addr) (nn cc:Nat) (p:Nat) (x:Co) (w:World) (h:SlAt 4 ColE S w l (.slice aa nn cc)) (hx:l[p]?=some x) :
  Calls Tryz.prog 35 #[.agg #[.string (str8 nm),.slice aa nn cc,.int .i64 (p:Int)]] w fun e w'=>e = .returned (.agg (crC nm x.nm aa nn cc))∧Below w.heap.size w w':=by
 have hp:p<l.length:=(List.getElem?_eq_some_iff.1 hx).1
 obtain⟨b,off,c,hv,hlc,hcm,hS,hlt0,hel⟩:=cols_at h (fun e=>by rw[e] at hp;exact absurd hp (Nat.not_lt_zero _))
 simp only[Value.slice.injEq] at hv
 obtain⟨rfl,rfl,rfl⟩:=hv
 unfold maxLen at hcm
 obtain⟨W,hW,hbW,hzW,hcA,hcB⟩:=two w (.cells #[.string (str8 nm),.slice (some ⟨b,off,none⟩) l.length cc,.int .i64 (p:Int)] 31) (.cells #[.int .i64 0,.string ⟨#[]⟩,.slice none 0 0,.string ⟨#[]⟩,.slice none 0 0,.slice none 0 0,.slice none 0 0,.string ⟨#[]⟩,.slice none 0 0,.slice none 0 0,.slice none 0 0,.slice none 0 0,.bool false,.int .i64 0] 28)
 have q0:=hel W.drew hbW.drew p x hx 0 _ rfl
 rw[Nat.add_zero] at q0
 have k0:=cells3f (w:=W.drew) hcA
 have hp':(p:Int)<(l.length:Int):=by omega
 have hp0:(0:Int)≤(p:Int):=by omega
 have HB:=hid hbW
 have HCB:=hid hcB
 clear hel hcA hcB hbW h hx
 go_enter Tryz.func35,Tryz.ntmps35
 go_wp2_with fail
 try rw[hW]
 clear hW
 have hS0:(fun W':World=>W'=W.drew) W.drew:=rfl
 refine last_region (fun W':World=>W'=W.drew) 12 (by kernel_rfl) ?_
 refine wpAnyE_take (i:=0) (v:=?_) rfl (by kernel_rfl) (by kernel_rfl) (by kernel_rfl) (by kernel_rfl) (by kernel_rfl) (fun _ _ _ h=>h) (Or.inl ⟨by rfl,?_⟩) (by assumption) ?_;rotate_left;(focus (intro w hSw;(try dsimp only at hSw);(try obtain⟨hSw1,hSw2,hSw3⟩:=hSw);go_simp<;>with_reducible rfl));(try simp only[Act.put,List.getElem_toArray,List.getElem_cons_zero,List.getElem_cons_succ,List.setIfInBounds_toArray,List.set_cons_zero,List.set_cons_succ])
 refine wpAnyE_take (i:=1) (v:=?_) rfl (by kernel_rfl) (by kernel_rfl) (by kernel_rfl) (by kernel_rfl) (by kernel_rfl) (fun _ _ _ h=>h) (Or.inl ⟨by rfl,?_⟩) (by assumption) ?_;rotate_left;(focus (intro w hSw;(try dsimp only at hSw);(try obtain⟨hSw1,hSw2,hSw3⟩:=hSw);go_simp<;>with_reducible rfl));(try simp only[Act.put,List.getElem_toArray,List.getElem_cons_zero,List.getElem_cons_succ,List.setIfInBounds_toArray,List.set_cons_zero,List.set_cons_succ])
 refine wpAnyE_take (i:=2) (v:=?_) rfl (by kernel_rfl) (by kernel_rfl) (by kernel_rfl) (by kernel_rfl) (by kernel_rfl) (fun _ _ _ h=>h) (Or.inl ⟨by rfl,?_⟩) (by assumption) ?_;rotate_left;(focus (intro w hSw;(try dsimp only at hSw);(try obtain⟨hSw1,hSw2,hSw3⟩:=hSw);go_simp<;>with_reducible rfl));(try simp only[Act.put,List.getElem_toArray,List.getElem_cons_zero,List.getElem_cons_succ,List.setIfInBounds_toArray,List.set_cons_zero,List.set_cons_succ])
 refine wpAnyE_take (i:=3) (v:=?_) rfl (by kernel_rfl) (by kernel_rfl) (by kernel_rfl) (by kernel_rfl) (by kernel_rfl) (fun _ _ _ h=>h) (Or.inl ⟨by rfl,?_⟩) (by assumption) ?_;rotate_left;(focus (intro w hSw;(try dsimp only at hSw);(try obtain⟨hSw1,hSw2,hSw3⟩:=hSw);go_simp<;>with_reducible rfl));(try simp only[Act.put,List.getElem_toArray,List.getElem_cons_zero,List.getElem_cons_succ,List.setIfInBounds_toArray,List.set_cons_zero,List.set_cons_succ])
 refine wpAnyE_take (i:=4) (v:=?_) rfl (by kernel_rfl) (by kernel_rfl) (by kernel_rfl) (by kernel_rfl) (by kernel_rfl) (fun _ _ _ h=>h) (Or.inl ⟨by rfl,?_⟩) (by assumption) ?_;rotate_left;(focus (intro w hSw;(try dsimp only at hSw);(try obtain⟨hSw1,hSw2,hSw3⟩:=hSw);go_simp<;>with_reducible rfl));(try simp only[Act.put,List.getElem_toArray,List.getElem_cons_zero,List.getElem_cons_succ,List.setIfInBounds_toArray,List.set_cons_zero,List.set_cons_succ])
 refine wpAnyE_take (i:=5) (v:=?_) rfl (by kernel_rfl) (by kernel_rfl) (by kernel_rfl) (by kernel_rfl) (by kernel_rfl) (fun _ _ _ h=>h) (Or.inl ⟨by rfl,?_⟩) (by assumption) ?_;rotate_left;(focus (intro w hSw;(try dsimp only at hSw);(try obtain⟨hSw1,hSw2,hSw3⟩:=hSw);go_simp<;>with_reducible rfl));(try simp only[Act.put,List.getElem_toArray,List.getElem_cons_zero,List.getElem_cons_succ,List.setIfInBounds_toArray,List.set_cons_zero,List.set_cons_succ])
 refine wpAnyE_take (i:=6) (v:=?_) rfl (by kernel_rfl) (by kernel_rfl) (by kernel_rfl) (by kernel_rfl) (by kernel_rfl) (fun _ _ _ h=>h) (Or.inl ⟨by rfl,?_⟩) (by assumption) ?_;rotate_left;(focus (intro w hSw;(try dsimp only at hSw);(try obtain⟨hSw1,hSw2,hSw3⟩:=hSw);go_simp<;>with_reducible rfl));(try simp only[Act.put,List.getElem_toArray,List.getElem_cons_zero,List.getElem_cons_succ,List.setIfInBounds_toArray,List.set_cons_zero,List.set_cons_succ])
 refine wpAnyE_take (i:=7) (v:=?_) rfl (by kernel_rfl) (by kernel_rfl) (by kernel_rfl) (by kernel_rfl) (by kernel_rfl) (fun _ _ _ h=>h) (Or.inl ⟨by rfl,?_⟩) (by assumption) ?_;rotate_left;(focus (intro w hSw;(try dsimp only at hSw);(try obtain⟨hSw1,hSw2,hSw3⟩:=hSw);go_simp<;>with_reducible rfl));(try simp only[Act.put,List.getElem_toArray,List.getElem_cons_zero,List.getElem_cons_succ,List.setIfInBounds_toArray,List.set_cons_zero,List.set_cons_succ])
 refine wpAnyE_take (i:=8) (v:=?_) rfl (by kernel_rfl) (by kernel_rfl) (by kernel_rfl) (by kernel_rfl) (by kernel_rfl) (fun _ _ _ h=>h) (Or.inl ⟨by rfl,?_⟩) (by assumption) ?_;rotate_left;(focus (intro w hSw;(try dsimp only at hSw);(try obtain⟨hSw1,hSw2,hSw3⟩:=hSw);go_simp<;>with_reducible rfl));(try simp only[Act.put,List.getElem_toArray,List.getElem_cons_zero,List.getElem_cons_succ,List.setIfInBounds_toArray,List.set_cons_zero,List.set_cons_succ])
 refine wpAnyE_take (i:=9) (v:=?_) rfl (by kernel_rfl) (by kernel_rfl) (by kernel_rfl) (by kernel_rfl) (by kernel_rfl) (fun _ _ _ h=>h) (Or.inl ⟨by rfl,?_⟩) (by assumption) ?_;rotate_left;(focus (intro w hSw;(try dsimp only at hSw);(try obtain⟨hSw1,hSw2,hSw3⟩:=hSw);go_simp<;>with_reducible rfl));(try simp only[Act.put,List.getElem_toArray,List.getElem_cons_zero,List.getElem_cons_succ,List.setIfInBounds_toArray,List.set_cons_zero,List.set_cons_succ])
 refine wpAnyE_take (i:=10) (v:=?_) rfl (by kernel_rfl) (by kernel_rfl) (by kernel_rfl) (by kernel_rfl) (by kernel_rfl) (fun _ _ _ h=>h) (Or.inl ⟨by rfl,?_⟩) (by assumption) ?_;rotate_left;(focus (intro w hSw;(try dsimp only at hSw);(try obtain⟨hSw1,hSw2,hSw3⟩:=hSw);go_simp<;>with_reducible rfl));(try simp only[Act.put,List.getElem_toArray,List.getElem_cons_zero,List.getElem_cons_succ,List.setIfInBounds_toArray,List.set_cons_zero,List.set_cons_succ])
 refine wpAnyE_take (i:=11) (v:=?_) rfl (by kernel_rfl) (by kernel_rfl) (by kernel_rfl) (by kernel_rfl) (by kernel_rfl) (fun _ _ _ h=>h) (Or.inl ⟨by rfl,?_⟩) (by assumption) ?_;rotate_left;(focus (intro w hSw;(try dsimp only at hSw);(try obtain⟨hSw1,hSw2,hSw3⟩:=hSw);go_simp<;>with_reducible rfl));(try simp only[Act.put,List.getElem_toArray,List.getElem_cons_zero,List.getElem_cons_succ,List.setIfInBounds_toArray,List.set_cons_zero,List.set_cons_succ])
 refine takeE_storerowC (i:=12) (by kernel_rfl) rfl rfl 28 (.tmp 2) (.tmp 14) rfl (w.heap.size+1) (crC nm x.nm (some ⟨b,off,none⟩) l.length cc) (by rfl) (by rfl) 28 _ HCB.out Tryz.infoStm rfl (one14C _ _ _ _ _) (.inr rfl) ?_
 refine wpAnyE_done (by kernel_rfl) ?_ _
 show Only _ .normal _ _
 unfold Only
 have hZB:=setRow_heap W.drew (w.heap.size+1) _ (crC nm x.nm (some ⟨b,off,none⟩) l.length cc) _ _ HCB.out
 have hSp:Spares (fun k=>k=w.heap.size+1) W.drew (W.drew.setRow (w.heap.size+1) (crC nm x.nm (some ⟨b,off,none⟩) l.length cc)):=Spares.setRow (S:=fun k=>k=w.heap.size+1) (Spares.refl _ W.drew) (p:=w.heap.size+1) (.inl rfl) _
 have HBF:Hid (Below w.heap.size w (W.drew.setRow (w.heap.size+1) (crC nm x.nm (some ⟨b,off,none⟩) l.length cc))):=hid (HB.out.drew.trans (hSp.below (fun i hi=>by omega) HB.out.drew.size))
 generalize W.drew.setRow (w.heap.size+1) (crC nm x.nm (some ⟨b,off,none⟩) l.length cc)=Z at hZB HBF ⊢
 have kZ:=cells14 hZB
 clear hSp hZB k0 q0 hS0
 go_wp2
 exact bodyPost_ret (v:=.agg (crC nm x.nm (some ⟨b,off,none⟩) l.length cc)) (by simp[results,Tryz.results35,go_sem,kZ]) rfl ⟨rfl,HBF.out⟩
theorem create_e {S:Nat→Prop} {w:World} {t:Tb} {aa:Option Addr} {nn cc:Nat} (h:SlAt 4 ColE S w t.cols (.slice aa nn cc)) {nm:List UInt8} (hx:nmAt t.cols t.pr.toNat=nm):StE S w (createS t) [.int .i64 1,.string (str8 t.nm),.slice aa nn cc,.string (str8 nm),.slice none 0 0,.slice none 0 0,.slice none 0 0,.string ⟨#[]⟩,.slice none 0 0,.slice none 0 0,.slice none 0 0,.slice none 0 0,.bool false,.int .i64 (-1)]:=by
 have n:ArgsAt S w [] (.slice none 0 0):=.nil none 0 (by unfold maxLen;omega)
 refine ⟨aa,none,none,none,none,none,none,none,nn,0,0,0,0,0,0,0,cc,0,0,0,0,0,0,0,?_,h,SlAt.nil,SlAt.nil,SlAt.nil,n,n,n,n⟩
 rw[← hx]
 rfl
def RgT (t:Tb):Prop:=t.nm.length≤9223372036854775807∧∀c∈t.cols,c.nm.length≤9223372036854775807
theorem RgT.s {t:Tb} (h:RgT t):RgS (createS t):=by
 refine ⟨h.1,?_,Nat.zero_le _,(by show (-1:Int)≤_;decide),h.2,(fun x hx=>by cases hx),(fun x hx=>by cases hx),(fun x hx=>by cases hx),(fun x hx=>by cases hx),(fun x hx=>by cases hx),(fun x hx=>by cases hx),(fun x hx=>by cases hx)⟩
 show (nmAt t.cols t.pr.toNat).length≤_
 unfold nmAt
 cases hc:t.cols[t.pr.toNat]? with
 | none=>simp
 | some c=>exact h.2 c (List.mem_of_getElem? hc)
theorem ShT.rg {t:Tb} (h:ShT t):RgT t:=⟨by have:=h.1;omega,fun c hc=>by have:=h.2.2 c hc;omega⟩
theorem equal_any (S T:Nat→Prop) (xs ys:List Co) (v u:Value) (w:World) (hv:SlAt 4 ColE S w xs v) (hu:SlAt 4 ColE T w ys u) (hx:xs≠[]) (hy:ys≠[]) :
  Calls Tryz.prog 57 #[v,u] w fun e w'=>e = .returned (.bool (Lib.allEq eqC xs ys))∧Below w.heap.size w w':=by
 obtain⟨b1,o1,c1,rfl,h1,h2,_,_,hel1⟩:=cols_at hv hx
 obtain⟨b2,o2,c2,rfl,h3,h4,_,_,hel2⟩:=cols_at hu hy
 unfold maxLen at h2 h4
 refine (AnyQ.slices_Equal laysEq 4 Tryz.isAgg37 Tryz.sizeOf37 colC (fun _=>rfl) eqC neq_col b1 o1 xs.length c1 b2 o2 ys.length c2 xs ys w (Nat.le_refl _) (Nat.le_refl _) (by omega) (by omega) (fun j hj i u hu=>hel1 w (Below.refl _ _) j xs[j]! (by rw[getElem!_pos xs j hj];exact List.getElem?_eq_getElem hj) i u hu) (fun j hj i u hu=>hel2 w (Below.refl _ _) j ys[j]! (by rw[getElem!_pos ys j hj];exact List.getElem?_eq_getElem hj) i u hu)).mono ?_
 rintro e w' ⟨rfl,q,rfl⟩
 rw[List.take_length,List.take_length]
 exact⟨rfl,below_drewN (Below.refl _ _) q⟩
theorem make_cols {s:St} (h:(makeA s).2=0):(makeA s).1.cols≠[]:=by
 obtain⟨hk,hr,hn,hi,e⟩:=make_ok h
 rw[e]
 intro e2
 have:=keyed_len s.cols (idxN s.cols s.prim)
 dsimp only at e2
 rw[e2] at this
 simp at this
 omega
theorem mayBe_any (S:Nat→Prop) (t:Tb) (cs:List Value) (w:World) (hT:TabW w) (hR:RgT t) (h:TbE S w t cs) :
  Calls Tryz.prog 33 #[.agg cs.toArray] w fun e w'=>e = .returned (.bool (mayB t))∧Below w.heap.size w w':=by
 obtain⟨aa,nn,cc,rfl,hsl⟩:=h
 have hnn:nn=t.cols.length:=by obtain⟨_,_,hf⟩:=hsl.form;simp only[Value.slice.injEq] at hf;exact hf.2.1
 obtain⟨W,hW,hbW,hzW,hcW⟩:=box8 w (.cells #[.string (str8 t.nm),.slice aa nn cc,.int .i64 t.pr] 31)
 have k0:=cells3f hcW
 have HB:=hid hbW
 have HCW:=hid hcW
 by_cases hp:0≤t.pr∧t.pr<t.cols.length
 ·obtain⟨p,hpp⟩:=Int.eq_ofNat_of_zero_le hp.1
  have hpl:p<t.cols.length:=by omega
  obtain⟨x,hx⟩:∃x,t.cols[p]?=some x:=⟨_,List.getElem?_eq_getElem hpl⟩
  have hslW:=hsl.to (T:=S) (by decide) (R:=fun _=>False) (Spares.of_new hbW) (fun b hb _=>⟨id,hb⟩) (fun _ _ e=>e)
  have HCR:=hid (createC_any S t.nm t.cols aa nn cc p x W hslW hx)
  have hnm:nmAt t.cols t.pr.toNat=x.nm:=by rw[hpp,Int.toNat_natCast,nmAt_lt hpl,(List.getElem?_eq_some_iff.1 hx).2]
  have HMK:Hid (∀V,Below w.heap.size w V→Calls Tryz.prog 10 #[.agg (crC t.nm x.nm aa nn cc)] V fun e w'=>∃ds:List Value,e = .returned (.tuple #[.agg ds.toArray,.int .i64 (makeA (createS t)).2])∧TbO V.heap.size w' (makeA (createS t)).1 ds∧Below V.heap.size V w'):=hid (fun V hV=>make_any (fun _=>True) (createS t) _ V (hT.on hV) hR.s ((create_e hsl hnm).on hV))
  have hmay:mayB t=(decide ((makeA (createS t)).2=0)&&Lib.allEq eqC (makeA (createS t)).1.cols t.cols):=by unfold mayB;rw[decide_eq_true hp,Bool.true_and]
  have hmc:=make_cols (s:=createS t)
  have HSL:=hid hsl
  have hne:t.cols≠[]:=fun e=>by rw[e] at hpl;exact absurd hpl (Nat.not_lt_zero _)
  have h1 : ¬(p:Int)<0:=by omega
  have h2:(p:Int)<(t.cols.length:Int):=by omega
  have h3 : ¬(t.cols.length:Int)≤(p:Int):=by omega
  rw[hmay]
  generalize makeA (createS t)=M at HMK hmc ⊢
  obtain⟨N,e0⟩:=M
  dsimp only at HMK hmc ⊢
  obtain⟨R,hR0⟩:∃R,(decide (e0=0)&&Lib.allEq eqC N.cols t.cols)=R:=⟨_,rfl⟩
  rw[hR0]
  have HR0:=hid hR0
  clear hR0
  rw[hpp] at hW HCW k0 ⊢
  clear hmay hnm hx hslW hT hR hbW hcW hp hpp hsl
  subst hnn
  go_enter Tryz.func33,Tryz.ntmps33
  go_wp2_with fail
  try rw[hW]
  refine HCR.out.mono ?_
  rintro e w1 ⟨rfl,hb1⟩
  have hB1:=HB.out.trans (hb1.mono HB.out.size)
  have HM1:=hid (HMK.out w1 hB1)
  have HB1:=hid hB1
  have hs1:=hb1.size
  have HC1:=hid ((hb1.block w.heap.size hzW).trans HCW.out)
  clear hb1 hB1 HCR HMK hW k0
  go_wp2_with fail
  refine HM1.out.mono ?_
  rintro e w2 ⟨ds,rfl,⟨a2,n2,c2,rfl,hown⟩,hb2⟩
  have hs2:=hb2.size
  obtain⟨U,hU,hbU,hzU,hcU⟩:=box8 w2 (.cells #[.string (str8 N.nm),.slice a2 n2 c2,.int .i64 N.pr] 31)
  have hBU:Below w.heap.size w U:=(HB1.out.trans (hb2.mono HB1.out.size)).trans (hbU.mono (HB1.out.trans (hb2.mono HB1.out.size)).size)
  have kU:=cells3f hcU
  have kT:=cells3f ((hbU.block w.heap.size (by omega)).trans ((hb2.block w.heap.size (by omega)).trans HC1.out))
  have HBU:=hid hBU
  have hownU:=(owns_cols hown).to (T:=fun _=>True) (by decide) (R:=fun _=>False) (Spares.of_new hbU) (fun b hb _=>⟨id,trivial⟩) (fun _ _ e=>e)
  have hslU:=HSL.out.to (T:=S) (by decide) (R:=fun _=>False) (Spares.of_new hBU) (fun b hb _=>⟨id,hb⟩) (fun _ _ e=>e)
  by_cases he:e0=0
  ·subst he
   have HEQ:=hid (equal_any _ S N.cols t.cols _ _ U hownU hslU (hmc rfl) hne)
   rw[decide_eq_true rfl,Bool.true_and] at HR0
   rw[HR0.out] at HEQ
   clear hownU hslU hbU hb2 hcU hBU hown HM1
   go_wp2_with fail
   try rw[hU]
   refine HEQ.out.mono ?_
   rintro e w3 ⟨rfl,hb3⟩
   have HB3:=hid (HBU.out.trans (hb3.mono HBU.out.size))
   clear hb3 HEQ
   go_wp2
   go_ret
   exact⟨rfl,HB3.out⟩
  ·have he':(e0==0)=false:=by simpa using he
   rw[decide_eq_false he,Bool.false_and] at HR0
   obtain rfl:=HR0.out
   clear hownU hslU hbU hb2 hcU hBU hown HM1 he
   go_wp2
   try rw[hU]
   go_ret
   exact⟨rfl,HBU.out⟩
 ·have hm:mayB t=false:=by unfold mayB;rw[decide_eq_false hp,Bool.false_and]
  rw[hm]
  subst hnn
  generalize t.cols.length=L at *
  generalize t.pr=q at *
  clear hm hT hR hsl hbW hcW HCW
  by_cases h1:q<0
  ·clear hp
   go_enter Tryz.func33,Tryz.ntmps33
   go_wp2
   try rw[hW]
   go_ret
   exact⟨rfl,HB.out⟩
  ·have h2 : ¬q<(L:Int):=fun h=>hp ⟨by omega,h⟩
   have h3:(L:Int)≤q:=by omega
   clear hp
   go_enter Tryz.func33,Tryz.ntmps33
   go_wp2
   try rw[hW]
   go_ret
   exact⟨rfl,HB.out⟩
theorem may_in {t:Tb} (h:mayB t=true):0≤t.pr∧t.pr<t.cols.length:=by
 unfold mayB at h
 rw[Bool.and_eq_true,decide_eq_true_eq] at h
 exact h.1
theorem make_short {s:St} (h:(makeA s).2=0):ShT (makeA s).1:=by
 obtain⟨hk,hr,hn,hi,e⟩:=make_ok h
 have:=(right_short hk hr 0).1
 rw[e]
 refine ⟨this.1,by show (keyed _ _).length≤8;rw[keyed_len];exact this.2.1,fun c hc=>?_⟩
 obtain⟨d,hd,e1,_⟩:=keyed_mem hc
 rw[e1]
 exact this.2.2 d hd
theorem source_any (S:Nat→Prop) (t:Tb) (cs:List Value) (w:World) (hT:TabW w) (hR:RgT t) (h:TbE S w t cs) :
  Calls Tryz.prog 14 #[.agg cs.toArray] w fun e w'=>e = .returned (.tuple #[.string (str8 (srcT t).1),.int .i64 (srcT t).2])∧Below w.heap.size w w':=by
 have hh:=h
 obtain⟨aa,nn,cc,rfl,hsl⟩:=h
 obtain⟨W,hW,hbW,hzW,hcW⟩:=box8 w (.cells #[.string (str8 t.nm),.slice aa nn cc,.int .i64 t.pr] 31)
 have k0:=cells3f hcW
 have HB:=hid hbW
 have HCW:=hid hcW
 have HMB:=hid (mayBe_any S t _ W (hT.on hbW) hR (hh.on hbW))
 cases hm:mayB t with
 |
  false =>
  have e:srcT t=([],4):=by unfold srcT;rw[hm];rfl
  rw[e]
  rw[hm] at HMB
  clear e hm hT hR hh hsl hbW hcW
  go_enter Tryz.func14,Tryz.ntmps14
  go_wp2_with fail
  try rw[hW]
  refine HMB.out.mono ?_
  rintro e w1 ⟨rfl,hb1⟩
  have HB1:=hid (HB.out.trans (hb1.mono HB.out.size))
  clear hb1 HMB
  go_wp2
  exact bodyPost_ret (v:=.tuple #[.string ⟨#[]⟩,.int .i64 4]) (by simp[results,Tryz.results14,go_sem]) rfl ⟨rfl,HB1.out⟩
 |
  true =>
  have e:srcT t=scrA [createS t]:=by unfold srcT;rw[if_pos hm]
  rw[e]
  rw[hm] at HMB
  obtain⟨p,hpp⟩:=Int.eq_ofNat_of_zero_le (may_in hm).1
  have hpl:p<t.cols.length:=by have:=(may_in hm).2;omega
  obtain⟨x,hx⟩:∃x,t.cols[p]?=some x:=⟨_,List.getElem?_eq_getElem hpl⟩
  have hnm:nmAt t.cols t.pr.toNat=x.nm:=by rw[hpp,Int.toNat_natCast,nmAt_lt hpl,(List.getElem?_eq_some_iff.1 hx).2]
  have hmk:=make_ok (s:=createS t) (by rw[may_make hm])
  have HCR:Hid (∀V,Below w.heap.size w V→Calls Tryz.prog 35 #[.agg #[.string (str8 t.nm),.slice aa nn cc,.int .i64 (p:Int)]] V fun e w'=>e = .returned (.agg (crC t.nm x.nm aa nn cc))∧Below V.heap.size V w'):=hid (fun V hV=>createC_any S t.nm t.cols aa nn cc p x V (hsl.to (T:=S) (by decide) (R:=fun _=>False) (Spares.of_new hV) (fun b hb _=>⟨id,hb⟩) (fun _ _ e=>e)) hx)
  have HPS:Hid (∀V,Below w.heap.size w V→Calls Tryz.prog 34 #[.slice (some ⟨V.heap.size,0,none⟩) 1 1] (V.alloc (.cells (crC t.nm x.nm aa nn cc) 28)) fun e w'=>e = .returned (.tuple #[.string (str8 (scrA [createS t]).1),.int .i64 (scrA [createS t]).2])∧Below w.heap.size w w'):=hid (fun V hV=>by
   obtain⟨U,hU,hbU,hzU,hcU⟩:=box8 V (.cells (crC t.nm x.nm aa nn cc) 28)
   rw[hU]
   have hBU:=hV.trans (hbU.mono hV.size)
   have hs1:=one_stm (T:=fun _=>True) (g:=V.heap.size) hcU ((create_e hsl hnm).on hBU) rfl trivial
   exact (printScript1_any (fun _=>True) [createS t] _ U (hT.on hBU) (fun y hy=>by rw[List.mem_singleton.1 hy];rfl) (fun y hy=>by rw[List.mem_singleton.1 hy];exact hR.s) hs1 (fun _ y hy hr e he=>by
    rw[List.mem_singleton.1 hy] at hr he
    rw[create_exs rfl hr] at he
    cases he)).mono fun e w' ⟨h1,h2⟩=>⟨h1,hBU.trans (h2.mono hBU.size)⟩)
  generalize scrA [createS t]=R at HPS ⊢
  obtain⟨r1,r2⟩:=R
  dsimp only at HPS ⊢
  rw[hpp] at hW HCW k0 HMB ⊢
  clear e hm hT hR hh hsl hbW hcW hmk hnm hx hpl hpp
  go_enter Tryz.func14,Tryz.ntmps14
  go_wp2_with fail
  try rw[hW]
  refine HMB.out.mono ?_
  rintro e w1 ⟨rfl,hb1⟩
  have hB1:=HB.out.trans (hb1.mono HB.out.size)
  have k1:=cells3f ((hb1.block w.heap.size hzW).trans HCW.out)
  have HC1:=hid (HCR.out w1 hB1)
  have HB1:=hid hB1
  clear hb1 hB1 HMB HCR hW k0
  go_wp2_with fail
  refine HC1.out.mono ?_
  rintro e w2 ⟨rfl,hb2⟩
  have hB2:=HB1.out.trans (hb2.mono HB1.out.size)
  have HP2:=hid (HPS.out w2 hB2)
  clear hb2 hB2 HC1 HPS
  go_wp2_with fail
  refine HP2.out.mono ?_
  rintro e w3 ⟨rfl,hb3⟩
  have HB3:=hid hb3
  clear hb3 HP2
  go_wp2
  exact bodyPost_ret (v:=.tuple #[.string (str8 r1),.int .i64 r2]) (by simp[results,Tryz.results14,go_sem]) rfl ⟨rfl,HB3.out⟩
end Go.Proofs.YtaaggohjmhifbaaGreatDoor
namespace Go.Proofs.YtaaggohjmhifbaaGreatDoor
open Go.RowKit Go.Shelf Go.Lib Go.Maps
set_option linter.unusedSimpArgs false
set_option linter.unusedVariables false
set_option maxRecDepth 20000
set_option maxHeartbeats 8000000
def rawT (v:Value):Option (DataW Value × List MemPlace):=some (.held v,[])
theorem rawT_inv {v:Value} {z:DataW Value × List MemPlace} (h:rawT v=some z):z=(.held v,[]):=(Option.some.inj h).symm
theorem lawS:Keyed Tryz.prog 9:=string_keyed Tryz.underlying9
abbrev zTV:Value:=.agg #[.string ⟨#[]⟩,.slice none 0 0,.int .i64 0]
theorem Tryz.zeroTab (w:World):(zeroValue 31).run Tryz.prog w = .ok zTV w:=by kernel_rfl
theorem key_str {t:List UInt8} (h:t.length≤maxLen):keyOf Tryz.prog 9 (.string (str8 t))=some (.string t):=by
 have:=WideMaps.keyOf_string_mk (P:=Tryz.prog) Tryz.underlying9 (s:=str8 t) (by rw[str8_size];exact h)
 rwa [show (str8 t).data.toList=t by simp[str8]] at this
structure CatAt (w:World) (sb mb:Nat) (E:DataW Value) (f:List UInt8→Value) (L:List Tb) (S:Nat→Prop):Prop where
 cell:w.cell? ⟨sb,0,none⟩=some (.map (some mb))
 m:w.ownsMap Tryz.prog 9 rawT mb L.length E
 at' : ∀nm:List UInt8,nm.length≤maxLen→E.atKey (.string nm) (.held zTV) = .held (f nm)
 has : ∀nm:List UInt8,nm.length≤maxLen→Maps.has E (.string nm)=decide (nm∈L.map Tb.nm)
 size:Maps.size E=L.length
 val : ∀t∈L,∃cs:List Value,f t.nm = .agg cs.toArray∧TbE S w t cs
 none : ∀nm,nm ∉ L.map Tb.nm→f nm=zTV
 inS:S sb∧S mb
 lt : ∀i,S i→i<w.heap.size
 ne:sb≠mb
 ok : ∀t∈L,mayB t=true
 six:L.length≤6
 once:(L.map Tb.nm).Nodup
def Cat (w:World) (v:Value) (L:List Tb) (S:Nat→Prop):Prop:=∃sb mb E f,v = .pointer (some ⟨sb,0,none⟩)∧CatAt w sb mb E f L S
theorem mapT_keeps {w w':World} {S:Nat→Prop} {b n:Nat} {D:DataW Value} (h:w.ownsMap Tryz.prog 9 rawT b n D) (hk:Spares S w w') (hS : ¬S b):w'.ownsMap Tryz.prog 9 rawT b n D:=by
 have hlt:=h.lt
 obtain⟨es,clock,hb,F,hs,hD⟩:=h
 exact⟨es,clock,(hk.block b hlt hS).trans hb,F,hs,hD⟩
theorem mapT_tight {w:World} {b n:Nat} {D:DataW Value} (h:w.ownsMap Tryz.prog 9 rawT b n D):w.ownsMap Tryz.prog 9 rawT b (Maps.size D) D:=by
 obtain⟨es,clock,hb,F,hs,rfl⟩:=h
 exact⟨es,clock,hb,F,by simp[Maps.size,length_sorted],rfl⟩
theorem CatAt.keeps {w w':World} {sb mb:Nat} {E:DataW Value} {f:List UInt8→Value} {L:List Tb} {S T:Nat→Prop} (h:CatAt w sb mb E f L S) (hk:Spares T w w') (hT : ∀i,S i→¬T i):CatAt w' sb mb E f L S :=
 ⟨hk.cell h.cell (hT _ h.inS.1),mapT_keeps h.m hk (hT _ h.inS.2),h.at',h.has,h.size,fun t ht=>by
  obtain⟨cs,h1,h2⟩:=h.val t ht
  exact⟨cs,h1,h2.to hk (fun b hb _=>⟨hT b hb,hb⟩)⟩,h.none,h.inS,fun i hi=>Nat.lt_of_lt_of_le (h.lt i hi) hk.size,h.ne,h.ok,h.six,h.once⟩
theorem CatAt.new {w w':World} {sb mb:Nat} {E:DataW Value} {f:List UInt8→Value} {L:List Tb} {S:Nat→Prop} (h:CatAt w sb mb E f L S) (hb:Below w.heap.size w w'):CatAt w' sb mb E f L S :=
 h.keeps (T:=fun _=>False) (Spares.of_new hb) (fun _ _=>id)
theorem may_short {t:Tb} (h:mayB t=true):ShT t∧t.cols≠[]:=by
 have hm:=may_make h
 have h0:(makeA (createS t)).2=0:=by rw[hm]
 have h1:=make_short h0
 have h2:=make_cols h0
 rw[hm] at h1 h2
 exact⟨h1,h2⟩
theorem cnew_any (w:World):Calls Tryz.prog 18 #[] w fun e w'=>∃v,e = .returned v∧Cat w' v [] (fun b=>w.heap.size≤b∧b<w'.heap.size)∧Below w.heap.size w w':=by
 obtain⟨W,hW,hbW,hzW,hcA,hcB⟩:=two w (.map #[] 0) (.cells #[.map (some w.heap.size)] 77)
 have HB:=hid hbW
 have HC:Hid (CatAt W (w.heap.size+1) w.heap.size (.map []) (fun _=>zTV) [] (fun b=>w.heap.size≤b∧b<W.heap.size)):=hid (by
  have hm:=World.ownsMap_made w Tryz.prog 9 rawT
  refine ⟨by rw[cell_row _ _ _ _ _ _ hcB];rfl,?_,fun nm _=>rfl,fun nm _=>rfl,rfl,(fun t ht=>by cases ht),fun nm _=>rfl,⟨⟨by omega,hzW⟩,Nat.le_refl _,by omega⟩,fun i hi=>hi.2,by omega,fun t ht=>(by cases ht),by decide,List.nodup_nil⟩
  rw[← hW]
  exact hm.alloc _)
 have hmm:=@run_makeMap Tryz.prog
 clear hbW hcA hcB
 go_enter Tryz.func18,Tryz.ntmps18
 go_wp2
 try rw[hW]
 go_ret
 exact⟨_,rfl,⟨_,_,_,_,rfl,HC.out⟩,HB.out⟩
theorem has_any (sb mb:Nat) (E:DataW Value) (f:List UInt8→Value) (L:List Tb) (S:Nat→Prop) (nm:List UInt8) (w:World) (h:CatAt w sb mb E f L S) (hn:nm.length≤maxLen) :
  Calls Tryz.prog 41 #[.pointer (some ⟨sb,0,none⟩),.string (str8 nm)] w fun e w'=>e = .returned (.bool (decide (nm∈L.map Tb.nm)))∧Below w.heap.size w w':=by
 obtain⟨v,ps,hlk,hv⟩:=h.m.look_ok lawS Tryz.underlying75 (Tryz.zeroTab w) (zd:=.held zTV) (zp:=[]) rfl (key_str hn)
 have hv':=rawT_inv hv
 simp only[Prod.mk.injEq] at hv'
 rw[h.at' nm hn] at hv'
 injection hv'.1 with hvf
 subst hvf
 rw[h.has nm hn] at hlk
 have hc:=h.cell
 obtain⟨cs,hf,hl3⟩:∃cs:List Value,f nm = .agg cs.toArray∧∃(c0:ByteArray) (x1:Option Addr) (x2 x3:Nat) (c2:Int),cs=[.string c0,.slice x1 x2 x3,.int .i64 c2]:=by
  by_cases hm:nm∈L.map Tb.nm
  ·obtain⟨t,ht,rfl⟩:=List.mem_map.1 hm
   obtain⟨cs,h1,aa,nn,cc,h2,_⟩:=h.val t ht
   exact⟨cs,h1,_,aa,nn,cc,_,h2⟩
  ·exact⟨[.string ⟨#[]⟩,.slice none 0 0,.int .i64 0],h.none nm hm,⟨#[]⟩,none,0,0,0,rfl⟩
 obtain⟨c0,x1,x2,x3,c2,rfl⟩:=hl3
 rw[hf] at hlk
 obtain⟨b,hb⟩:∃b,decide (nm∈L.map Tb.nm)=b:=⟨_,rfl⟩
 rw[hb] at hlk ⊢
 clear h hb hf hv hv' hn
 go_enter Tryz.func41,Tryz.ntmps41
 go_wp2
 go_ret
 exact⟨rfl,by first | exact (Below.refl _ w).alloc (Nat.le_refl _) _ | exact ((((Below.refl _ w).alloc (Nat.le_refl _) _).setCell (Nat.le_refl _) _).setCell (Nat.le_refl _) _).setCell (Nat.le_refl _) _⟩
end Go.Proofs.YtaaggohjmhifbaaGreatDoor
