import Derived.Test.YtfeglkleoijlaaaGreatDoorY23
import Derived.Test.YtfeglkleoijlaaaGreatDoorY06
import Derived.Test.YtfeglkleoijlaaaGreatDoorY14
import Derived.Test.YtfeglkleoijlaaaGreatDoorY04
import Derived.Deep.Cut
import Derived.Deep.DeepCutAuto
import Derived.Maps.RangeWalk
import Derived.Maps.OwnSet
namespace Go.Proofs.YtfeglkleoijlaaaGreatDoor
open Go.RowKit Go.Shelf Go.Lib
set_option linter.unusedSimpArgs false
set_option linter.unusedVariables false
set_option maxRecDepth 20000
set_option maxHeartbeats 8000000
section
variable {P : Program} {md : Region.Mode} {ops : Array Oper} {Q : Exit → Act → World → Prop} {S : World → Prop} {fuel : Nat} {listed : Array Bool} {a : Act} {w : World} {i k0 : Nat} {oi : Oper}
theorem gQ (hr:Region.ready md ops listed=[i]) (hi:ops[i]?=some oi) (gi:oi.guard=none) (ty:TypeId) (x y:Operand) (ki:oi.op = .store ty x y)
  (g:Nat) (cells:Array Value) (hx:a.eval x = .pointer (some ⟨g,0,none⟩)) (hy:a.eval y = .agg cells) (t:TypeId) (old:Array Value) (hg:w.heap[g]?=some (.cells old t (0,0))) (hs:(P.info? ty).map (·.size)=some cells.size)
  (hold:old.size=cells.size) (h1:cells.all (·.oneCell')=true) (hS:S (w.setRow g cells)∨i=k0)
  (h:dK P md ops Q S k0 fuel (listed.setIfInBounds i true) (a.put oi.dst undef) (w.setRow g cells)):dK P md ops Q S k0 (fuel+1) listed a w :=
 jQ hr hi gi (wp_store_row ty x y ki g cells hx hy t old hg hs hold h1 ⟨hS,h⟩)
end
abbrev Cx (nm aD:List UInt8) (aa:Option Addr) (nn cc:Nat):Array Value:=#[.int .i64 1,.string (aj nm),.slice aa nn cc,.string (aj aD),.slice none 0 0,.slice none 0 0,.slice none 0 0,.string ⟨#[]⟩,.slice none 0 0,.slice none 0 0,.slice none 0 0,.slice none 0 0,.bool false,.int .i64 (-1)]
theorem MU (nm aD:ByteArray) (aa:Option Addr) (nn cc:Nat):(#[.int .i64 1,.string nm,.slice aa nn cc,.string aD,.slice none 0 0,.slice none 0 0,.slice none 0 0,.string ⟨#[]⟩,.slice none 0 0,.slice none 0 0,.slice none 0 0,.slice none 0 0,.bool false,.int .i64 (-1)]:Array Value).all (·.oneCell')=true:=by
 simp[Value.oneCell']
theorem Tryz.vX:(Tryz.prog.info? 29).map (·.size)=some 14:=by kernel_rfl
theorem Ee (S:Nat→Prop) (nm:List UInt8) (l:List Co) (aa:Option Addr) (nn cc:Nat) (p:Nat) (x:Co) (w:World) (h:aM 4 ku S w l (.slice aa nn cc)) (hx:l[p]?=some x) :
  Calls Tryz.prog 78 #[.agg #[.string (aj nm),.slice aa nn cc,.int .i64 (p:Int)]] w fun e w'=>e = .returned (.agg (Cx nm x.nm aa nn cc))∧Below w.heap.size w w':=by
 have hp:p<l.length:=(aam.1 hx).1
 obtain⟨b,off,c,hv,hlc,hcm,hS,Tn,hel⟩:=iX h (fun e=>by rw[e] at hp;exact absurd hp (Nat.not_lt_zero _))
 simp only[aah] at hv
 obtain⟨rfl,rfl,rfl⟩:=hv
 unfold maxLen at hcm
 obtain⟨W,hW,hbW,aJ,hcA,hcB⟩:=two w (.cells #[.string (aj nm),.slice (some ⟨b,off,none⟩) l.length cc,.int .i64 (p:Int)] 42) (.cells #[.int .i64 0,.string ⟨#[]⟩,.slice none 0 0,.string ⟨#[]⟩,.slice none 0 0,.slice none 0 0,.slice none 0 0,.string ⟨#[]⟩,.slice none 0 0,.slice none 0 0,.slice none 0 0,.slice none 0 0,.bool false,.int .i64 0] 29)
 have q0:=hel W.drew hbW.drew p x hx 0 _ rfl
 rw[aa2] at q0
 have k0:=aH (w:=W.drew) hcA
 have hp':(p:Int)<(l.length:Int):=by omega
 have hp0:(0:Int)≤(p:Int):=by omega
 have HB:=hid hbW
 have nP:=hid hcB
 clear hel hcA hcB hbW h hx
 go_enter Tryz.func78,Tryz.ntmps78
 go_wp2_with fail
 try rw[hW]
 clear hW
 have hS0:(fun W':World=>W'=W.drew) W.drew:=rfl
 refine mW (fun W':World=>W'=W.drew) 12 (by kernel_rfl) ?_
 refine rH (i:=0) rfl (by assumption) ?_
 refine rH (i:=1) rfl (by assumption) ?_
 refine rH (i:=2) rfl (by assumption) ?_
 refine rH (i:=3) rfl (by assumption) ?_
 refine rH (i:=4) rfl (by assumption) ?_
 refine rH (i:=5) rfl (by assumption) ?_
 refine rH (i:=6) rfl (by assumption) ?_
 refine rH (i:=7) rfl (by assumption) ?_
 refine rH (i:=8) rfl (by assumption) ?_
 refine rH (i:=9) rfl (by assumption) ?_
 refine rH (i:=10) rfl (by assumption) ?_
 refine rH (i:=11) rfl (by assumption) ?_
 refine gQ (i:=12) (by kernel_rfl) rfl rfl 29 (.tmp 2) (.tmp 14) rfl (w.heap.size+1) (Cx nm x.nm (some ⟨b,off,none⟩) l.length cc) (by rfl) (by rfl) 29 _ nP.out Tryz.vX rfl (MU _ _ _ _ _) (.inr rfl) ?_
 refine jg (by kernel_rfl) ?_ _
 show Only _ .normal _ _
 unfold Only
 have O6:=setRow_heap W.drew (w.heap.size+1) _ (Cx nm x.nm (some ⟨b,off,none⟩) l.length cc) _ _ nP.out
 have hSp:ak (fun k=>k=w.heap.size+1) W.drew (W.drew.setRow (w.heap.size+1) (Cx nm x.nm (some ⟨b,off,none⟩) l.length cc)):=ak.setRow (S:=fun k=>k=w.heap.size+1) (ak.refl _ W.drew) (p:=w.heap.size+1) (.inl rfl) _
 have iC:Hid (Below w.heap.size w (W.drew.setRow (w.heap.size+1) (Cx nm x.nm (some ⟨b,off,none⟩) l.length cc))):=hid (HB.out.drew.trans (hSp.below (fun i hi=>by omega) HB.out.drew.size))
 generalize W.drew.setRow (w.heap.size+1) (Cx nm x.nm (some ⟨b,off,none⟩) l.length cc)=Z at O6 iC ⊢
 have kZ:=au O6
 clear hSp O6 k0 q0 hS0
 go_wp2
 exact bodyPost_ret (v:=.agg (Cx nm x.nm (some ⟨b,off,none⟩) l.length cc)) (by simp[results,Tryz.results78,go_sem,kZ]) rfl ⟨rfl,iC.out⟩
theorem xD {S:Nat→Prop} {w:World} {t:Tb} {aa:Option Addr} {nn cc:Nat} (h:aM 4 ku S w t.aC (.slice aa nn cc)) {nm:List UInt8} (hx:Ch t.aC t.pr.toNat=nm):fD S w (dx t) [.int .i64 1,.string (aj t.nm),.slice aa nn cc,.string (aj nm),.slice none 0 0,.slice none 0 0,.slice none 0 0,.string ⟨#[]⟩,.slice none 0 0,.slice none 0 0,.slice none 0 0,.slice none 0 0,.bool false,.int .i64 (-1)]:=by
 have n:bA S w [] (.slice none 0 0):=.nil none 0 (by unfold maxLen;omega)
 refine ⟨aa,none,none,none,none,none,none,none,nn,0,0,0,0,0,0,0,cc,0,0,0,0,0,0,0,?_,h,aM.nil,aM.nil,aM.nil,n,n,n,n⟩
 rw[← hx]
 rfl
def NG (t:Tb):Prop:=t.nm.length≤9223372036854775807∧∀c∈t.aC,c.nm.length≤9223372036854775807
theorem NG.s {t:Tb} (h:NG t):vZ (dx t):=by
 refine ⟨h.1,?_,aaV _,(by show (-1:Int)≤_;decide),h.2,(fun x hx=>by cases hx),(fun x hx=>by cases hx),(fun x hx=>by cases hx),(fun x hx=>by cases hx),(fun x hx=>by cases hx),(fun x hx=>by cases hx),(fun x hx=>by cases hx)⟩
 show (Ch t.aC t.pr.toNat).length≤_
 unfold Ch
 cases hc:t.aC[t.pr.toNat]? with
 | none=>simp
 | some c=>exact h.2 c (aaP hc)
theorem JO (S T:Nat→Prop) (xs ys:List Co) (v u:Value) (w:World) (hv:aM 4 ku S w xs v) (hu:aM 4 ku T w ys u) (hx:xs≠[]) (hy:ys≠[]) :
  Calls Tryz.prog 79 #[v,u] w fun e w'=>e = .returned (.bool (Lib.allEq tV xs ys))∧Below w.heap.size w w':=by
 obtain⟨b1,o1,c1,rfl,h1,h2,_,_,QW⟩:=iX hv hx
 obtain⟨b2,o2,c2,rfl,h3,h4,_,_,FH⟩:=iX hu hy
 unfold maxLen at h2 h4
 refine (AnyQ.slices_Equal UK 4 Tryz.isAgg60 Tryz.sizeOf60 mH (fun _=>rfl) tV Pt b1 o1 xs.length c1 b2 o2 ys.length c2 xs ys w (aaF _) (aaF _) (by omega) (by omega) (fun j hj i u hu=>QW w (Below.refl _ _) j xs[j]! (by rw[getElem!_pos xs j hj];exact aaf hj) i u hu) (fun j hj i u hu=>FH w (Below.refl _ _) j ys[j]! (by rw[getElem!_pos ys j hj];exact aaf hj) i u hu)).mono ?_
 rintro e w' ⟨rfl,q,rfl⟩
 rw[List.take_length,List.take_length]
 exact⟨rfl,below_drewN (Below.refl _ _) q⟩
theorem zK {s:St} (h:(bU s).2=0):(bU s).1.aC≠[]:=by
 obtain⟨hk,hr,hn,hi,e⟩:=wG h
 rw[e]
 intro e2
 have:=jh s.aC (bF s.aC s.aD)
 dsimp only at e2
 rw[e2] at this
 simp at this
 omega
theorem Jr (S:Nat→Prop) (t:Tb) (cs:List Value) (w:World) (hT:iL w) (hR:NG t) (h:fG S w t cs) :
  Calls Tryz.prog 34 #[.agg cs.toArray] w fun e w'=>e = .returned (.bool (lK t))∧Below w.heap.size w w':=by
 obtain⟨aa,nn,cc,rfl,hsl⟩:=h
 have hnn:nn=t.aC.length:=by obtain⟨_,_,hf⟩:=hsl.form;simp only[aah] at hf;exact hf.2.1
 obtain⟨W,hW,hbW,aJ,hcW⟩:=aK w (.cells #[.string (aj t.nm),.slice aa nn cc,.int .i64 t.pr] 42)
 have k0:=aH hcW
 have HB:=hid hbW
 have rJ:=hid hcW
 by_cases hp:0≤t.pr∧t.pr<t.aC.length
 ·obtain⟨p,hpp⟩:=Int.eq_ofNat_of_zero_le hp.1
  have hpl:p<t.aC.length:=by omega
  obtain⟨x,hx⟩:∃x,t.aC[p]?=some x:=⟨_,aaf hpl⟩
  have Om:=hsl.to (T:=S) (by decide) (R:=fun _=>False) (ak.aA hbW) (fun b hb _=>⟨id,hb⟩) (fun _ _ e=>e)
  have p9:=hid (Ee S t.nm t.aC aa nn cc p x W Om hx)
  have hnm:Ch t.aC t.pr.toNat=x.nm:=by rw[hpp,Int.toNat_natCast,Bg hpl,(aam.1 hx).2]
  have FX:Hid (∀V,Below w.heap.size w V→Calls Tryz.prog 51 #[.agg (Cx t.nm x.nm aa nn cc)] V fun e w'=>∃ds:List Value,e = .returned (.tuple #[.agg ds.toArray,.int .i64 (bU (dx t)).2])∧Mf V.heap.size w' (bU (dx t)).1 ds∧Below V.heap.size V w'):=hid (fun V hV=>EK (fun _=>True) (dx t) _ V (hT.on hV) hR.s ((xD hsl hnm).on hV))
  have hmay:lK t=(decide ((bU (dx t)).2=0)&&Lib.allEq tV (bU (dx t)).1.aC t.aC):=by unfold lK;rw[aar hp,aaA]
  have hmc:=zK (s:=dx t)
  have HSL:=hid hsl
  have hne:t.aC≠[]:=fun e=>by rw[e] at hpl;exact absurd hpl (Nat.not_lt_zero _)
  have h1 : ¬(p:Int)<0:=by omega
  have h2:(p:Int)<(t.aC.length:Int):=by omega
  have h3 : ¬(t.aC.length:Int)≤(p:Int):=by omega
  rw[hmay]
  generalize bU (dx t)=M at FX hmc ⊢
  obtain⟨N,e0⟩:=M
  dsimp only at FX hmc ⊢
  obtain⟨R,hR0⟩:∃R,(decide (e0=0)&&Lib.allEq tV N.aC t.aC)=R:=⟨_,rfl⟩
  rw[hR0]
  have Iu:=hid hR0
  clear hR0
  rw[hpp] at hW rJ k0 ⊢
  clear hmay hnm hx Om hT hR hbW hcW hp hpp hsl
  subst hnn
  go_enter Tryz.func34,Tryz.ntmps34
  go_wp2_with fail
  try rw[hW]
  refine p9.out.mono ?_
  rintro e w1 ⟨rfl,hb1⟩
  have hB1:=HB.out.trans (hb1.mono HB.out.size)
  have Ti:=hid (FX.out w1 hB1)
  have HB1:=hid hB1
  have hs1:=hb1.size
  have dB:=hid ((hb1.block w.heap.size aJ).trans rJ.out)
  clear hb1 hB1 p9 FX hW k0
  go_wp2_with fail
  refine Ti.out.mono ?_
  rintro e w2 ⟨ds,rfl,⟨a2,n2,c2,rfl,hown⟩,hb2⟩
  have hs2:=hb2.size
  obtain⟨U,hU,bB,jc,eU⟩:=aK w2 (.cells #[.string (aj N.nm),.slice a2 n2 c2,.int .i64 N.pr] 42)
  have jm:Below w.heap.size w U:=(HB1.out.trans (hb2.mono HB1.out.size)).trans (bB.mono (HB1.out.trans (hb2.mono HB1.out.size)).size)
  have kU:=aH eU
  have kT:=aH ((bB.block w.heap.size (by omega)).trans ((hb2.block w.heap.size (by omega)).trans dB.out))
  have bS:=hid jm
  have N8:=(Av hown).to (T:=fun _=>True) (by decide) (R:=fun _=>False) (ak.aA bB) (fun b hb _=>⟨id,trivial⟩) (fun _ _ e=>e)
  have Tq:=HSL.out.to (T:=S) (by decide) (R:=fun _=>False) (ak.aA jm) (fun b hb _=>⟨id,hb⟩) (fun _ _ e=>e)
  by_cases he:e0=0
  ·subst he
   have Kr:=hid (JO _ S N.aC t.aC _ _ U N8 Tq (hmc rfl) hne)
   rw[aar rfl,aaA] at Iu
   rw[Iu.out] at Kr
   clear N8 Tq bB hb2 eU jm hown Ti
   go_wp2_with fail
   try rw[hU]
   refine Kr.out.mono ?_
   rintro e w3 ⟨rfl,hb3⟩
   have HB3:=htr bS hb3
   clear hb3 Kr
   go_wp2
   go_ret
   exact⟨rfl,HB3.out⟩
  ·have he':(e0==0)=false:=by simpa using he
   rw[aaj he,aaz] at Iu
   obtain rfl:=Iu.out
   clear N8 Tq bB hb2 eU jm hown Ti he
   go_wp2
   try rw[hU]
   go_ret
   exact⟨rfl,bS.out⟩
 ·have hm:lK t=false:=by unfold lK;rw[aaj hp,aaz]
  rw[hm]
  subst hnn
  generalize t.aC.length=L at *
  generalize t.pr=q at *
  clear hm hT hR hsl hbW hcW rJ
  by_cases h1:q<0
  ·clear hp
   go_enter Tryz.func34,Tryz.ntmps34
   go_wp2
   try rw[hW]
   go_ret
   exact⟨rfl,HB.out⟩
  ·have h2 : ¬q<(L:Int):=fun h=>hp ⟨by omega,h⟩
   have h3:(L:Int)≤q:=by omega
   clear hp
   go_enter Tryz.func34,Tryz.ntmps34
   go_wp2
   try rw[hW]
   go_ret
   exact⟨rfl,HB.out⟩
theorem FL {s:St} (h:(bU s).2=0):ShT (bU s).1:=by
 obtain⟨hk,hr,hn,hi,e⟩:=wG h
 have:=(ko hk hr 0).1
 rw[e]
 refine ⟨this.1,by show (keyed _ _).length≤8;rw[jh];exact this.2.1,fun c hc=>?_⟩
 obtain⟨d,hd,e1,_⟩:=JF hc
 rw[e1]
 exact this.2.2 d hd
open Go.Maps
def DT (v:Value):Option (DataW Value × List MemPlace):=some (.held v,[])
theorem Ey {v:Value} {z:DataW Value × List MemPlace} (h:DT v=some z):z=(.held v,[]):=(Option.some.inj h).symm
theorem PV:Keyed Tryz.prog 9:=string_keyed Tryz.underlying9
abbrev KS:Value:=.agg #[.string ⟨#[]⟩,.slice none 0 0,.int .i64 0]
theorem Tryz.zeroTab (w:World):(zeroValue 42).run Tryz.prog w = .ok KS w:=by kernel_rfl
theorem BU {t:List UInt8} (h:t.length≤maxLen):keyOf Tryz.prog 9 (.string (aj t))=some (.string t):=by
 have:=WideMaps.keyOf_string_mk (P:=Tryz.prog) Tryz.underlying9 (s:=aj t) (by rw[dW];exact h)
 rwa [show (aj t).data.toList=t by simp[aj]] at this
structure iA (w:World) (sb mb:Nat) (E:DataW Value) (f:List UInt8→Value) (L:List Tb) (S:Nat→Prop):Prop where
 cell:w.cell? ⟨sb,0,none⟩=some (.map (some mb))
 m:w.ownsMap Tryz.prog 9 DT mb L.length E
 at' : ∀nm:List UInt8,nm.length≤maxLen→E.atKey (.string nm) (.held KS) = .held (f nm)
 has : ∀nm:List UInt8,nm.length≤maxLen→Maps.has E (.string nm)=decide (nm∈L.map Tb.nm)
 size:Maps.size E=L.length
 val : ∀t∈L,∃cs:List Value,f t.nm = .agg cs.toArray∧fG S w t cs
 none : ∀nm,nm ∉ L.map Tb.nm→f nm=KS
 dh:S sb∧S mb
 lt : ∀i,S i→i<w.heap.size
 ne:sb≠mb
 ok : ∀t∈L,lK t=true
 six:L.length≤6
 once:(L.map Tb.nm).Nodup
def Cat (w:World) (v:Value) (L:List Tb) (S:Nat→Prop):Prop:=∃sb mb E f,v = .pointer (some ⟨sb,0,none⟩)∧iA w sb mb E f L S
theorem Fz {w w':World} {S:Nat→Prop} {b n:Nat} {D:DataW Value} (h:w.ownsMap Tryz.prog 9 DT b n D) (hk:ak S w w') (hS : ¬S b):w'.ownsMap Tryz.prog 9 DT b n D:=by
 have hlt:=h.lt
 obtain⟨es,clock,hb,F,hs,hD⟩:=h
 exact⟨es,clock,(hk.block b hlt hS).trans hb,F,hs,hD⟩
theorem Gv {w:World} {b n:Nat} {D:DataW Value} (h:w.ownsMap Tryz.prog 9 DT b n D):w.ownsMap Tryz.prog 9 DT b (Maps.size D) D:=by
 obtain⟨es,clock,hb,F,hs,rfl⟩:=h
 exact⟨es,clock,hb,F,by simp[Maps.size,length_sorted],rfl⟩
theorem iA.keeps {w w':World} {sb mb:Nat} {E:DataW Value} {f:List UInt8→Value} {L:List Tb} {S T:Nat→Prop} (h:iA w sb mb E f L S) (hk:ak T w w') (hT : ∀i,S i→¬T i):iA w' sb mb E f L S :=
 ⟨hk.cell h.cell (hT _ h.dh.1),Fz h.m hk (hT _ h.dh.2),h.at',h.has,h.size,fun t ht=>by
  obtain⟨cs,h1,h2⟩:=h.val t ht
  exact⟨cs,h1,h2.to hk (fun b hb _=>⟨hT b hb,hb⟩)⟩,h.none,h.dh,fun i hi=>aa7 (h.lt i hi) hk.size,h.ne,h.ok,h.six,h.once⟩
theorem iA.new {w w':World} {sb mb:Nat} {E:DataW Value} {f:List UInt8→Value} {L:List Tb} {S:Nat→Prop} (h:iA w sb mb E f L S) (hb:Below w.heap.size w w'):iA w' sb mb E f L S :=
 h.keeps (T:=fun _=>False) (ak.aA hb) (fun _ _=>id)
theorem nS {t:Tb} (h:lK t=true):ShT t∧t.aC≠[]:=by
 have hm:=xP h
 have h0:(bU (dx t)).2=0:=by rw[hm]
 have h1:=FL h0
 have h2:=zK h0
 rw[hm] at h1 h2
 exact⟨h1,h2⟩
theorem LV (w:World):Calls Tryz.prog 15 #[] w fun e w'=>∃v,e = .returned v∧Cat w' v [] (fun b=>w.heap.size≤b∧b<w'.heap.size)∧Below w.heap.size w w':=by
 obtain⟨W,hW,hbW,aJ,hcA,hcB⟩:=two w (.map #[] 0) (.cells #[.map (some w.heap.size)] 83)
 have HB:=hid hbW
 have HC:Hid (iA W (w.heap.size+1) w.heap.size (.map []) (fun _=>KS) [] (fun b=>w.heap.size≤b∧b<W.heap.size)):=hid (by
  have hm:=World.ownsMap_made w Tryz.prog 9 DT
  refine ⟨by rw[aB _ _ _ _ _ _ hcB];rfl,?_,fun nm _=>rfl,fun nm _=>rfl,rfl,(fun t ht=>by cases ht),fun nm _=>rfl,⟨⟨by omega,aJ⟩,aaF _,by omega⟩,fun i hi=>hi.2,by omega,fun t ht=>(by cases ht),by decide,List.nodup_nil⟩
  rw[← hW]
  exact hm.alloc _)
 have hmm:=@run_makeMap Tryz.prog
 clear hbW hcA hcB
 go_enter Tryz.func15,Tryz.ntmps15
 go_wp2
 try rw[hW]
 go_ret
 exact⟨_,rfl,⟨_,_,_,_,rfl,HC.out⟩,HB.out⟩
theorem Bo (sb mb:Nat) (E:DataW Value) (f:List UInt8→Value) (L:List Tb) (S:Nat→Prop) (nm:List UInt8) (w:World) (h:iA w sb mb E f L S) (hn:nm.length≤maxLen) :
  Calls Tryz.prog 35 #[.pointer (some ⟨sb,0,none⟩),.string (aj nm)] w fun e w'=>e = .returned (.bool (decide (nm∈L.map Tb.nm)))∧Below w.heap.size w w':=by
 obtain⟨v,ps,hlk,hv⟩:=h.m.look_ok PV Tryz.underlying81 (Tryz.zeroTab w) (zd:=.held KS) (zp:=[]) rfl (BU hn)
 have hv':=Ey hv
 simp only[Prod.mk.injEq] at hv'
 rw[h.at' nm hn] at hv'
 injection hv'.1 with hvf
 subst hvf
 rw[h.has nm hn] at hlk
 have hc:=h.cell
 obtain⟨cs,hf,hl3⟩:∃cs:List Value,f nm = .agg cs.toArray∧∃(c0:ByteArray) (x1:Option Addr) (x2 x3:Nat) (c2:Int),cs=[.string c0,.slice x1 x2 x3,.int .i64 c2]:=by
  by_cases hm:nm∈L.map Tb.nm
  ·obtain⟨t,ht,rfl⟩:=List.mem_map.1 hm
   obtain⟨cs,h1,aa,nn,cc,h2,_⟩:=h.val t ht
   exact⟨cs,h1,_,aa,nn,cc,_,h2⟩
  ·exact⟨[.string ⟨#[]⟩,.slice none 0 0,.int .i64 0],h.none nm hm,⟨#[]⟩,none,0,0,0,rfl⟩
 obtain⟨c0,x1,x2,x3,c2,rfl⟩:=hl3
 rw[hf] at hlk
 obtain⟨b,hb⟩:∃b,decide (nm∈L.map Tb.nm)=b:=⟨_,rfl⟩
 rw[hb] at hlk ⊢
 clear h hb hf hv hv' hn
 go_enter Tryz.func35,Tryz.ntmps35
 go_wp2
 go_ret
 exact⟨rfl,by first | exact (Below.refl _ w).alloc (aaF _) _ | exact ((((Below.refl _ w).alloc (aaF _) _).setCell (aaF _) _).setCell (aaF _) _).setCell (aaF _) _⟩
theorem GI (w:World):Calls Tryz.prog 36 #[KS] w fun e w'=>e = .returned KS∧Below w.heap.size w w':=by
 obtain⟨W,hW,hbW,aJ,hcA,hcB⟩:=two w (.cells #[.string ⟨#[]⟩,.slice none 0 0,.int .i64 0] 42) (.cells #[.string ⟨#[]⟩,.slice none 0 0,.int .i64 0] 42)
 have k0:=aH hcA
 have IG:=hid (fun V=>jC ⟨#[]⟩ V (by decide))
 have dw:=hid hcA
 have nP:=hid hcB
 have eF:=hid hbW
 clear hcA hcB hbW
 go_enter Tryz.func36,Tryz.ntmps36
 go_wp2_with fail
 try rw[hW]
 refine (IG.out W).mono ?_
 rintro e w1 ⟨rfl,hb1⟩
 have hB1:=eF.out.trans (hb1.mono eF.out.size)
 have hs1:=hb1.size
 have hA1:=(hb1.block w.heap.size (by omega)).trans dw.out
 have hZ1:=(hb1.block (w.heap.size+1) (by omega)).trans nP.out
 have k1:=aH hA1
 have kz:=aH hZ1
 have HB1:=hid hB1
 have jJ:=hid (aN k1.1)
 have iY:=hid (aN k1.2.1)
 have HZ0:=hid (aN kz.1)
 have HZ1:=hid (aN kz.2.1)
 have HZ2:=hid (aN kz.2.2.1)
 have dB:=hid (AnyE.slices_Clone_nil NT 0 0 w1)
 clear hb1 hB1 hA1 hZ1 hW k0
 go_wp2_with fail
 try rw[jJ.out]
 refine dB.out.mono ?_
 rintro e w2 ⟨rfl,rfl⟩
 go_wp2_with fail
 try rw[iY.out]
 go_rounds 1
 try rw[HZ0.out,HZ1.out,HZ2.out]
 exact bodyPost_ret (v:=KS) (by simp[results,Tryz.results36,go_sem,kz]) rfl ⟨rfl,HB1.out⟩
def fC (L:List Tb) (nm:List UInt8):Tb:=(L.find? fun t=>decide (t.nm=nm)).getD GN
theorem rU {L:List Tb} (hn:(L.map Tb.nm).Nodup) {t:Tb} (ht:t∈L):fC L t.nm=t:=by
 unfold fC
 induction L with
 | nil=>cases ht
 |
  cons x L ih =>
  rw[List.map_cons,List.nodup_cons] at hn
  rcases abg.1 ht with rfl | h
  ·rw[List.find?_cons_of_pos (by simp)]
   rfl
  ·rw[List.find?_cons_of_neg (by
    simp only[aaI]
    intro e
    exact hn.1 (by rw[e];exact List.mem_map.2 ⟨t,h,rfl⟩))]
   exact ih hn.2 h
theorem qE {L:List Tb} {nm:List UInt8} (h:nm ∉ L.map Tb.nm):fC L nm=GN:=by
 unfold fC
 rw[List.find?_eq_none.2 (fun x hx=>by
  simp only[aaI]
  intro e
  exact h (by rw[← e];exact List.mem_map.2 ⟨x,hx,rfl⟩))]
 rfl
theorem zH (sb mb:Nat) (E:DataW Value) (f:List UInt8→Value) (L:List Tb) (S:Nat→Prop) (nm:List UInt8) (w:World) (h:iA w sb mb E f L S) (hn:nm.length≤maxLen) :
  Calls Tryz.prog 19 #[.pointer (some ⟨sb,0,none⟩),.string (aj nm)] w fun e w'=>∃ds:List Value,e = .returned (.tuple #[.agg ds.toArray,.bool (decide (nm∈L.map Tb.nm))])∧Mf w.heap.size w' (fC L nm) ds∧Below w.heap.size w w':=by
 obtain⟨W,hW,hbW,aJ,hcW⟩:=aK w (.cells #[.string ⟨#[]⟩,.slice none 0 0,.int .i64 0] 42)
 have hC:=h.new hbW
 obtain⟨v,ps,hlk,hv⟩:=hC.m.look_ok PV Tryz.underlying81 (Tryz.zeroTab W) (zd:=.held KS) (zp:=[]) rfl (BU hn)
 have hv':=Ey hv
 simp only[Prod.mk.injEq] at hv'
 rw[hC.at' nm hn] at hv'
 injection hv'.1 with hvf
 subst hvf
 rw[hC.has nm hn] at hlk
 have hc:=hC.cell
 have HB:=hid hbW
 have rJ:=hid hcW
 by_cases hm:nm∈L.map Tb.nm
 ·rw[aar hm] at hlk ⊢
  obtain⟨t,ht,rfl⟩:=List.mem_map.1 hm
  obtain⟨cs,h1,h2⟩:=hC.val t ht
  rw[h1] at hlk
  rw[rU h.once ht]
  have hms:=nS (h.ok t ht)
  have HE:=hid h2
  obtain⟨aa,nn,cc,rfl,_⟩:=id h2
  obtain⟨U,hU,bB,jc,eU⟩:=aK W (.cells #[.string (aj t.nm),.slice aa nn cc,.int .i64 t.pr] 42)
  have kU:=aH eU
  have Oq:=hid (rE S t _ U (h2.on bB) hms.1 hms.2)
  have jm:=hbW.trans (bB.mono hbW.size)
  have bS:=hid jm
  have KW:=hid ((bB.block w.heap.size aJ).trans hcW)
  clear h hC h1 h2 hm ht hv hv' hbW hcW bB eU jm hms hn
  go_enter Tryz.func19,Tryz.ntmps19
  go_wp2_with fail
  try rw[hW]
  try rw[hU]
  refine Oq.out.mono ?_
  rintro e w3 ⟨ds,rfl,hds,hb3⟩
  have hs3:=hb3.size
  have hdo:=hds
  obtain⟨a3,n3,c3,rfl,hown⟩:=hds
  have k3:=aH ((hb3.block w.heap.size (by omega)).trans KW.out)
  have HB3:=htr bS hb3
  have HOW:=hid hown
  clear hb3 hdo hown Oq hW hU kU
  go_wp2
  have hSp:ak (fun k=>k=w.heap.size) w3 (((w3.setCell ⟨w.heap.size,0,none⟩ (.string (aj t.nm))).setCell ⟨w.heap.size,1,none⟩ (.slice a3 n3 c3)).setCell ⟨w.heap.size,2,none⟩ (.int .i64 t.pr)):=(((ak.refl (fun k=>k=w.heap.size) w3).own _ _).own _ _).own _ _
  have hB:Below w.heap.size w (((w3.setCell ⟨w.heap.size,0,none⟩ (.string (aj t.nm))).setCell ⟨w.heap.size,1,none⟩ (.slice a3 n3 c3)).setCell ⟨w.heap.size,2,none⟩ (.int .i64 t.pr)):=HB3.out.trans (hSp.below (fun i hi=>by omega) HB3.out.size)
  refine bodyPost_ret (v:=.tuple #[.agg #[.string (aj t.nm),.slice a3 n3 c3,.int .i64 t.pr],.bool true]) (by simp[results,Tryz.results19,go_sem,k3]) rfl ⟨_,rfl,⟨_,_,_,rfl,?_⟩,hB⟩
  exact gM (hSp.row HOW.out (fun g hg=>by have:=(HOW.out.lt g hg).1;omega)) (fun g hg=>by have:=(HOW.out.lt g hg).1;have:=HB.out.size;omega)
 ·rw[aaj hm] at hlk ⊢
  rw[hC.none nm hm] at hlk
  rw[qE hm]
  obtain⟨U,hU,bB,jc,eU⟩:=aK W (.cells #[.string ⟨#[]⟩,.slice none 0 0,.int .i64 0] 42)
  have kU:=aH eU
  have Oq:=hid (GI U)
  have jm:=hbW.trans (bB.mono hbW.size)
  have bS:=hid jm
  have KW:=hid ((bB.block w.heap.size aJ).trans hcW)
  have HT0:=hid (aN kU.1)
  have HT1:=hid (aN kU.2.1)
  have HT2:=hid (aN kU.2.2.1)
  clear h hC hm hv hv' hbW hcW bB eU jm hn
  go_enter Tryz.func19,Tryz.ntmps19
  go_wp2_with fail
  try rw[hW]
  try rw[hU]
  try rw[HT0.out,HT1.out,HT2.out]
  refine Oq.out.mono ?_
  rintro e w3 ⟨rfl,hb3⟩
  have hs3:=hb3.size
  have k3:=aH ((hb3.block w.heap.size (by omega)).trans KW.out)
  have jJ:=hid (aN k3.1)
  have iY:=hid (aN k3.2.1)
  have HS2:=hid (aN k3.2.2.1)
  have HB3:=htr bS hb3
  clear hb3 Oq hW hU kU
  go_wp2
  rw[jJ.out,iY.out,HS2.out]
  exact bodyPost_ret (v:=.tuple #[KS,.bool false]) (by simp[results,Tryz.results19,go_sem,k3]) rfl ⟨_,rfl,j3 _ _ HB3.out.size,HB3.out⟩
theorem iA.added {w w':World} {sb mb:Nat} {E:DataW Value} {f:List UInt8→Value} {L:List Tb} {S T:Nat→Prop} {t:Tb} {cs:List Value} (h:iA w sb mb E f L S) (SK:t.nm ∉ L.map Tb.nm) (h6:L.length<6) (hm:lK t=true) (hE:fG T w t cs) {n:Nat} (hmap:w'.ownsMap Tryz.prog 9 DT mb n (E.put (.string t.nm) (.held (.agg cs.toArray)))) (ht:w.grownBy w' (some mb)) (hT : ∀b,T b→b<w.heap.size) :
  iA w' sb mb (E.put (.string t.nm) (.held (.agg cs.toArray))) (fun x=>if x=t.nm then .agg cs.toArray else f x) (t::L) (fun b=>S b∨T b):=by
 have hn:t.nm.length≤maxLen:=by have:=(nS hm).1.1;unfold maxLen;omega
 have hg:ak (fun k=>k=mb) w w':=ak.gU ht (fun k e=>by injection e with e;exact e.symm)
 have hsz:Maps.size (E.put (.string t.nm) (.held (.agg cs.toArray)))=(t::L).length:=by
  rw[size_put (h.m.tidy PV),h.has t.nm hn,aaj SK,if_neg Bool.false_ne_true,h.size]
  rfl
 have hne : ∀x:List UInt8,x≠t.nm→(Lit.string x)≠(Lit.string t.nm):=fun x hx e=>hx (by injection e)
 have hmv : ∀{R:Nat→Prop} {x:Tb} {ds:List Value},fG R w x ds→(∀b,R b→S b∨T b)→fG (fun b=>S b∨T b) w' x ds:=fun {R x ds} e2 hR=>by
  obtain⟨aa,nn,cc,e3,e4⟩:=e2
  refine ⟨aa,nn,cc,e3,?_⟩
  obtain⟨a,c,css,v1,v2,v3,v4,v5⟩:=e4
  refine ⟨a,c,css,v1,v2,v3,v4.to (fun _ _ e=>e),fun hne2=>?_⟩
  obtain⟨b,off,b1,b2,b3⟩:=v5 hne2
  refine ⟨b,off,b1,hR b b2,fun j ds hj i u hu=>?_⟩
  have hc:=b3 j ds hj i u hu
  refine hg.cell hc (fun e=>?_)
  obtain⟨es,clock,hb,_⟩:=h.m
  have e':b=mb:=e
  subst e'
  simp[World.cell?,hb] at hc
 refine ⟨hg.cell h.cell (fun e=>h.ne e),by rw[← hsz];exact Gv hmap,fun x hx=>?_,fun x hx=>?_,hsz,fun y hy=>?_,fun x hx=>?_,⟨.inl h.dh.1,.inl h.dh.2⟩,fun i hi=>aa7 (hi.elim (h.lt i) (hT i)) hg.size,h.ne,fun y hy=>?_,by rw[aa1];omega,by rw[List.map_cons,List.nodup_cons];exact⟨SK,h.once⟩⟩
 ·by_cases e:x=t.nm
  ·rw[if_pos e,e,atKey_put_same h.m.isMap (by trivial)]
  ·rw[if_neg e,atKey_put_other (hne x e),h.at' x hx]
 ·by_cases e:x=t.nm
  ·rw[e,has_put_same h.m.isMap (by trivial)]
   exact (aar (by simp)).symm
  ·rw[has_put_other (hne x e),h.has x hx]
   congr 1
   rw[List.map_cons,abg]
   exact propext ⟨fun h2=>.inr h2,fun h2=>h2.elim (fun h3=>absurd h3 e) id⟩
 ·rcases abg.1 hy with rfl | hy
  ·exact⟨cs,if_pos rfl,hmv hE (fun b hb=>.inr hb)⟩
  ·obtain⟨ds,e1,e2⟩:=h.val y hy
   refine ⟨ds,?_,hmv e2 (fun b hb=>.inl hb)⟩
   rw[if_neg (fun e=>SK (by rw[← e];exact List.mem_map.2 ⟨y,hy,rfl⟩))]
   exact e1
 ·rw[List.map_cons,abg] at hx
  rw[if_neg (fun e=>hx (.inl e))]
  exact h.none x (fun h2=>hx (.inr h2))
 ·rcases abg.1 hy with rfl | hy
  ·exact hm
  ·exact h.ok y hy
def nT (L:List Tb) (t:Tb):Int:=if lK t=true then (if t.nm∈L.map Tb.nm then 13 else if 6≤L.length then 16 else 0) else 4
def lI (L:List Tb) (t:Tb):List Tb:=if nT L t=0 then t::L else L
theorem ND (sb mb:Nat) (E:DataW Value) (f:List UInt8→Value) (L:List Tb) (S T:Nat→Prop) (t:Tb) (cs:List Value) (w:World) (h:iA w sb mb E f L S) (hT:iL w) (hR:NG t) (hE:fG T w t cs) :
  Calls Tryz.prog 11 #[.pointer (some ⟨sb,0,none⟩),.agg cs.toArray] w fun e w'=>e = .returned (.int .i64 (nT L t))∧(∃E' f' S',iA w' sb mb E' f' (lI L t) S'∧∀b,S' b→S b∨(w.heap.size≤b∧b<w'.heap.size))∧ak (fun k=>k=mb) w w':=by
 have OB:=hE
 obtain⟨aa,nn,cc,rfl,hsl⟩:=hE
 obtain⟨W,hW,hbW,aJ,hcW⟩:=aK w (.cells #[.string (aj t.nm),.slice aa nn cc,.int .i64 t.pr] 42)
 have k0:=aH hcW
 have Eb:=hid (Jr T t _ W (hT.on hbW) hR (OB.on hbW))
 have HB:=hid hbW
 have rJ:=hid hcW
 have HC:=hid h
 have HE:=hid OB
 have hke : ∀{V:World},Below w.heap.size w V→∃E' f' S',iA V sb mb E' f' L S'∧∀b,S' b→S b∨(w.heap.size≤b∧b<V.heap.size):=fun hV=>⟨E,f,S,h.new hV,fun b hb=>.inl hb⟩
 cases hm:lK t with
 |
  false =>
  have e1:nT L t=4:=by unfold nT;rw[hm];rfl
  have e2:lI L t=L:=by unfold lI;rw[e1];rfl
  rw[e1,e2]
  rw[hm] at Eb
  have Yw:=hid (fun V hV=>hke (V:=V) hV)
  clear e1 e2 hm hT hR hsl hbW hcW h OB hke
  go_enter Tryz.func11,Tryz.ntmps11
  go_wp2_with fail
  try rw[hW]
  refine Eb.out.mono ?_
  rintro e w1 ⟨rfl,hb1⟩
  have HB1:=htr HB hb1
  clear hb1 Eb
  go_wp2
  go_ret
  exact⟨rfl,Yw.out _ HB1.out,ak.aA HB1.out⟩
 |
  true =>
  rw[hm] at Eb
  obtain⟨hsh,hne⟩:=nS hm
  have hn:t.nm.length≤maxLen:=by have:=hsh.1;unfold maxLen;omega
  by_cases hin:t.nm∈L.map Tb.nm
  ·have e1:nT L t=13:=by unfold nT;rw[if_pos hm,if_pos hin]
   have e2:lI L t=L:=by unfold lI;rw[e1];rfl
   rw[e1,e2]
   have Yw:=hid (fun V hV=>hke (V:=V) hV)
   have CB:=hid hin
   clear e1 e2 hm hT hR hsl hbW hcW h OB hke hin
   go_enter Tryz.func11,Tryz.ntmps11
   go_wp2_with fail
   try rw[hW]
   refine Eb.out.mono ?_
   rintro e w1 ⟨rfl,hb1⟩
   have hB1:=HB.out.trans (hb1.mono HB.out.size)
   have k1:=aH ((hb1.block w.heap.size aJ).trans rJ.out)
   have HH:=hid (Bo sb mb E f L S t.nm w1 (HC.out.new hB1) hn)
   rw[aar CB.out] at HH
   have HB1:=hid hB1
   clear hb1 hB1 Eb hW k0
   go_wp2_with fail
   refine HH.out.mono ?_
   rintro e w2 ⟨rfl,hb2⟩
   have HB2:=htr HB1 hb2
   clear hb2 HH
   go_wp2
   go_ret
   exact⟨rfl,Yw.out _ HB2.out,ak.aA HB2.out⟩
  ·by_cases h6:6≤L.length
   ·have e1:nT L t=16:=by unfold nT;rw[if_pos hm,if_neg hin,if_pos h6]
    have e2:lI L t=L:=by unfold lI;rw[e1];rfl
    rw[e1,e2]
    have Yw:=hid (fun V hV=>hke (V:=V) hV)
    have CB:=hid hin
    have h6':(6:Int)≤(L.length:Int):=by omega
    clear e1 e2 hm hT hR hsl hbW hcW h OB hke hin
    go_enter Tryz.func11,Tryz.ntmps11
    go_wp2_with fail
    try rw[hW]
    refine Eb.out.mono ?_
    rintro e w1 ⟨rfl,hb1⟩
    have hB1:=HB.out.trans (hb1.mono HB.out.size)
    have k1:=aH ((hb1.block w.heap.size aJ).trans rJ.out)
    have HH:=hid (Bo sb mb E f L S t.nm w1 (HC.out.new hB1) hn)
    rw[aaj CB.out] at HH
    have HB1:=hid hB1
    clear hb1 hB1 Eb hW k0
    go_wp2_with fail
    refine HH.out.mono ?_
    rintro e w2 ⟨rfl,hb2⟩
    have hB2:=HB1.out.trans (hb2.mono HB1.out.size)
    have hC2:=HC.out.new hB2
    have hlen:=hC2.m.len Tryz.underlying81 3
    rw[hC2.size] at hlen
    have hc2:=hC2.cell
    have HB2:=hid hB2
    clear hb2 HH hB2 hC2
    go_wp2
    go_ret
    exact⟨rfl,Yw.out _ HB2.out,ak.aA HB2.out⟩
   ·have e1:nT L t=0:=by unfold nT;rw[if_pos hm,if_neg hin,if_neg h6]
    have e2:lI L t=t::L:=by unfold lI;rw[e1];rfl
    rw[e1,e2]
    have CB:=hid hin
    have HM:=hid hm
    have HSH:=hid hsh
    have Pj:=hid hne
    have h6' : ¬(6:Int)≤(L.length:Int):=by omega
    clear e1 e2 hm hT hR hsl hbW hcW h OB hke hin hsh hne
    go_enter Tryz.func11,Tryz.ntmps11
    go_wp2_with fail
    try rw[hW]
    refine Eb.out.mono ?_
    rintro e w1 ⟨rfl,hb1⟩
    have hB1:=HB.out.trans (hb1.mono HB.out.size)
    have k1:=aH ((hb1.block w.heap.size aJ).trans rJ.out)
    have dB:=hid ((hb1.block w.heap.size aJ).trans rJ.out)
    have hz1:=hb1.size
    have HH:=hid (Bo sb mb E f L S t.nm w1 (HC.out.new hB1) hn)
    rw[aaj CB.out] at HH
    have HB1:=hid hB1
    clear hb1 hB1 Eb hW k0
    go_wp2_with fail
    refine HH.out.mono ?_
    rintro e w2 ⟨rfl,hb2⟩
    have hz2:=hb2.size
    have hB2:=HB1.out.trans (hb2.mono HB1.out.size)
    have hC2:=HC.out.new hB2
    have hlen:=hC2.m.len Tryz.underlying81 3
    rw[hC2.size] at hlen
    have hc2:=hC2.cell
    have k2:=aH ((hb2.block w.heap.size (by omega)).trans dB.out)
    have Oq:=hid (rE T t _ w2 (HE.out.on hB2) HSH.out Pj.out)
    have HB2:=hid hB2
    clear hb2 HH hB2 hC2 k1
    go_wp2_with fail
    refine Oq.out.mono ?_
    rintro e w3 ⟨ds,rfl,hds,hb3⟩
    have hz3:=hb3.size
    have hdE:=hds.e
    obtain⟨a3,n3,c3,rfl,_⟩:=hds
    obtain⟨U,hU,bB,jc,eU⟩:=aK w3 (.cells #[.string (aj t.nm),.slice a3 n3 c3,.int .i64 t.pr] 42)
    have hB3:=HB2.out.trans (hb3.mono HB2.out.size)
    have jm:=hB3.trans (bB.mono hB3.size)
    have hCU:=HC.out.new jm
    obtain⟨w5,hup,hm5,hg5⟩:=(hCU.m.drew).update PV Tryz.underlying81 (by unfold maxLen;omega) (BU hn) (val:=.agg #[.string (aj t.nm),.slice a3 n3 c3,.int .i64 t.pr]) (d:=.held (.agg #[.string (aj t.nm),.slice a3 n3 c3,.int .i64 t.pr])) (ps:=[]) rfl
    have hCD:iA U.drew sb mb E f L S:=hCU.keeps (T:=fun _=>False) (ak.aA (below_drewN (Below.refl _ _) 1)) (fun _ _=>id)
    have hdD:fG (fun b=>w2.heap.size≤b∧b<U.heap.size) U.drew t [.string (aj t.nm),.slice a3 n3 c3,.int .i64 t.pr]:=(hdE.on bB).to (R:=fun _=>False) (ak.aA (below_drewN (Below.refl _ _) 1)) (fun b hb hl=>⟨id,hb,hl⟩)
    have zD:=hid (hCD.added CB.out (by omega) HM.out hdD hm5 hg5 (fun b hb=>hb.2))
    have HSP:Hid (ak (fun k=>k=mb) w w5):=hid ((ak.aA (S:=fun k=>k=mb) jm.drew).andThen (ak.gU (S:=fun k=>k=mb) hg5 (fun k e=>by injection e with e;exact e.symm)) (fun i hi=>.inl hi))
    have hcD:=hCD.cell
    have kD:=aH (w:=U.drew) eU
    have HLE:Hid (U.heap.size≤w5.heap.size):=hid hg5.size
    have HW2:=hid (HB2.out.size)
    clear hb3 hdE hB3 jm hCU hm5 hg5 hCD hdD Oq hlen hc2 k2
    go_wp2_with fail
    try rw[hU]
    go_region
    all_goals
     go_wp2
     go_ret
     exact⟨rfl,⟨_,_,_,zD.out,fun b hb=>hb.elim .inl (fun h2=>.inr ⟨by have:=HW2.out;omega,by have:=HLE.out;omega⟩)⟩,HSP.out⟩
end Go.Proofs.YtfeglkleoijlaaaGreatDoor
