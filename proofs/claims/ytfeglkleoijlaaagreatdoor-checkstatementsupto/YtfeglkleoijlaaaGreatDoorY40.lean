import Derived.Test.YtfeglkleoijlaaaGreatDoorY26
import Derived.Test.YtfeglkleoijlaaaGreatDoorY24
import Derived.Test.YtfeglkleoijlaaaGreatDoorY36
import Derived.Test.YtfeglkleoijlaaaGreatDoorY39
import Derived.Test.YtfeglkleoijlaaaGreatDoorY37
import Derived.BigQuiet
namespace Go.Proofs.YtfeglkleoijlaaaGreatDoor
open Go.RowKit Go.Shelf Go.Lib
set_option linter.unusedSimpArgs false
set_option linter.unusedVariables false
set_option maxRecDepth 20000
set_option maxHeartbeats 8000000
theorem OG {t:Tb} (hp:0≤t.pr∧t.pr<t.aC.length):lK t=(decide ((bU (dx t)).2=0)&&xH t (bU (dx t)).1):=by
 by_cases h0:(bU (dx t)).2=0
 ·rw[aar h0,aaA]
  by_cases hm:lK t=true
  ·rw[hm,xP hm,(Aw t t).2 rfl]
  ·have hm':lK t=false:=by simpa using hm
   rw[hm']
   cases hs:xH t (bU (dx t)).1 with
   | false=>rfl
   |
    true =>
    have e:=(Aw _ _).1 hs
    refine absurd ?_ hm
    unfold lK
    rw[aar hp,aar h0,← e,(lS _ _).2 rfl]
    rfl
 ·rw[aaj h0,aaz]
  unfold lK
  rw[aaj h0,aaz,Bool.and_false]
theorem Lv {P:Program} {a:Act} {oi:Oper} {x:Operand} {v:Value} (ki:oi.op = .assign x) (hx:a.eval x=v) (w:World):(execOp a.eval oi).run P w = .ok (.value v) w:=by
 unfold execOp
 simp only[ki,hx]
 rfl
abbrev Qf:Array Value:=#[.int .i64 0,.string ⟨#[]⟩,.slice none 0 0,.string ⟨#[]⟩,.slice none 0 0,.slice none 0 0,.slice none 0 0,.string ⟨#[]⟩,.slice none 0 0,.slice none 0 0,.slice none 0 0,.slice none 0 0,.bool false,.int .i64 0]
theorem Kn (S:Nat→Prop) (nm:List UInt8) (l:List Co) (aa:Option Addr) (nn cc:Nat) (p:Nat) (x:Co) (w:World) (h:aM 4 ku S w l (.slice aa nn cc)) (hx:l[p]?=some x) :
  Calls Tryz.prog 86 #[.agg #[.string (aj nm),.slice aa nn cc,.int .i64 (p:Int)]] w fun e w'=>e = .returned (.tuple #[.agg (Cx nm x.nm aa nn cc),.bool true])∧Below w.heap.size w w':=by
 have hp:p<l.length:=(aam.1 hx).1
 obtain⟨b,off,c,hv,hlc,hcm,hS,Tn,hel⟩:=iX h (fun e=>by rw[e] at hp;exact absurd hp (Nat.not_lt_zero _))
 simp only[aah] at hv
 obtain⟨rfl,rfl,rfl⟩:=hv
 unfold maxLen at hcm
 obtain⟨W,hW,hbW,aJ,hcA,hcB⟩:=two w (.cells #[.string (aj nm),.slice (some ⟨b,off,none⟩) l.length cc,.int .i64 (p:Int)] 42) (.cells #[.int .i64 0,.string ⟨#[]⟩,.slice none 0 0,.string ⟨#[]⟩,.slice none 0 0,.slice none 0 0,.slice none 0 0,.string ⟨#[]⟩,.slice none 0 0,.slice none 0 0,.slice none 0 0,.slice none 0 0,.bool false,.int .i64 0] 29)
 have kA:=aH (w:=W) hcA
 have vP:=hid (hel W.drew hbW.drew p x hx 0 _ rfl)
 have hp':(p:Int)<(l.length:Int):=by omega
 have hp0 : ¬(p:Int)<0:=by omega
 have hp1 : ¬(l.length:Int)≤(p:Int):=by omega
 have hp2:(0:Int)≤(p:Int):=by omega
 have HB:=hid hbW
 have dw:=hid hcA
 have nP:=hid hcB
 clear hel hcA hcB hbW h hx
 go_enter Tryz.func86,Tryz.ntmps86
 go_wp2_with fail
 try rw[hW]
 clear hW kA
 have k0:=aH (w:=W.drew) dw.out
 have q0:=vP.out
 rw[aa2] at q0
 have O6:=setRow_heap W.drew (w.heap.size+1) _ (Cx nm x.nm (some ⟨b,off,none⟩) l.length cc) _ _ nP.out
 have hSp:ak (fun k=>k=w.heap.size+1) W.drew (W.drew.setRow (w.heap.size+1) (Cx nm x.nm (some ⟨b,off,none⟩) l.length cc)):=ak.setRow (S:=fun k=>k=w.heap.size+1) (ak.refl _ W.drew) (p:=w.heap.size+1) (.inl rfl) _
 have iC:Hid (Below w.heap.size w (W.drew.setRow (w.heap.size+1) (Cx nm x.nm (some ⟨b,off,none⟩) l.length cc))):=hid (HB.out.drew.trans (hSp.below (fun i hi=>by omega) HB.out.drew.size))
 have hS0:(fun V:World=>V.cell? ⟨w.heap.size,0,none⟩=some (.string (aj nm))∧V.cell? ⟨w.heap.size,1,none⟩=some (.slice (some ⟨b,off,none⟩) l.length cc)∧V.cell? ⟨w.heap.size,2,none⟩=some (.int .i64 (p:Int))∧V.cell? ⟨b,off+p*4,none⟩=some (.string (aj x.nm))) W.drew:=⟨k0.1,k0.2.1,k0.2.2.1,q0⟩
 have hS1:(fun V:World=>V.cell? ⟨w.heap.size,0,none⟩=some (.string (aj nm))∧V.cell? ⟨w.heap.size,1,none⟩=some (.slice (some ⟨b,off,none⟩) l.length cc)∧V.cell? ⟨w.heap.size,2,none⟩=some (.int .i64 (p:Int))∧V.cell? ⟨b,off+p*4,none⟩=some (.string (aj x.nm))) (W.drew.setRow (w.heap.size+1) (Cx nm x.nm (some ⟨b,off,none⟩) l.length cc)):=⟨hSp.cell k0.1 (fun e=>by have:w.heap.size=w.heap.size+1:=e;omega),hSp.cell k0.2.1 (fun e=>by have:w.heap.size=w.heap.size+1:=e;omega),hSp.cell k0.2.2.1 (fun e=>by have:w.heap.size=w.heap.size+1:=e;omega),hSp.cell q0 (fun e=>by have:b=w.heap.size+1:=e;omega)⟩
 clear k0 q0 hSp
 refine mW (fun V:World=>V.cell? ⟨w.heap.size,0,none⟩=some (.string (aj nm))∧V.cell? ⟨w.heap.size,1,none⟩=some (.slice (some ⟨b,off,none⟩) l.length cc)∧V.cell? ⟨w.heap.size,2,none⟩=some (.int .i64 (p:Int))∧V.cell? ⟨b,off+p*4,none⟩=some (.string (aj x.nm))) 12 (by kernel_rfl) ?_
 refine bK (i:=0) (v:=?_) rfl (by kernel_rfl) (by kernel_rfl) (by kernel_rfl) (by kernel_rfl) (by kernel_rfl) (fun _ _ _ h=>h) (Or.inl ⟨by rfl,?_⟩) (by assumption) ?_;rotate_left;(focus (intro w hSw;(try dsimp only at hSw);(try obtain⟨uo,uN,uH⟩:=hSw);go_simp<;>with_reducible rfl));(try simp only[Act.put,aas,aap,aaq,aag,aaw,aay])
 refine bK (i:=1) (v:=?_) rfl (by kernel_rfl) (by kernel_rfl) (by kernel_rfl) (by kernel_rfl) (by kernel_rfl) (fun _ _ _ h=>h) (Or.inl ⟨by rfl,?_⟩) (by assumption) ?_;rotate_left;(focus (intro w hSw;(try dsimp only at hSw);(try obtain⟨uo,uN,uH⟩:=hSw);go_simp<;>with_reducible rfl));(try simp only[Act.put,aas,aap,aaq,aag,aaw,aay])
 refine bK (i:=2) (v:=?_) rfl (by kernel_rfl) (by kernel_rfl) (by kernel_rfl) (by kernel_rfl) (by kernel_rfl) (fun _ _ _ h=>h) (Or.inl ⟨by rfl,?_⟩) (by assumption) ?_;rotate_left;(focus (intro w hSw;(try dsimp only at hSw);(try obtain⟨uo,uN,uH⟩:=hSw);go_simp<;>with_reducible rfl));(try simp only[Act.put,aas,aap,aaq,aag,aaw,aay])
 refine bK (i:=3) (v:=?_) rfl (by kernel_rfl) (by kernel_rfl) (by kernel_rfl) (by kernel_rfl) (by kernel_rfl) (fun _ _ _ h=>h) (Or.inl ⟨by rfl,?_⟩) (by assumption) ?_;rotate_left;(focus (intro w hSw;(try dsimp only at hSw);(try obtain⟨uo,uN,uH⟩:=hSw);go_simp<;>with_reducible rfl));(try simp only[Act.put,aas,aap,aaq,aag,aaw,aay])
 refine bK (i:=4) (v:=?_) rfl (by kernel_rfl) (by kernel_rfl) (by kernel_rfl) (by kernel_rfl) (by kernel_rfl) (fun _ _ _ h=>h) (Or.inl ⟨by rfl,?_⟩) (by assumption) ?_;rotate_left;(focus (intro w hSw;(try dsimp only at hSw);(try obtain⟨uo,uN,uH⟩:=hSw);go_simp<;>with_reducible rfl));(try simp only[Act.put,aas,aap,aaq,aag,aaw,aay])
 refine bK (i:=5) (v:=?_) rfl (by kernel_rfl) (by kernel_rfl) (by kernel_rfl) (by kernel_rfl) (by kernel_rfl) (fun _ _ _ h=>h) (Or.inl ⟨by rfl,?_⟩) (by assumption) ?_;rotate_left;(focus (intro w hSw;(try dsimp only at hSw);(try obtain⟨uo,uN,uH⟩:=hSw);go_simp<;>with_reducible rfl));(try simp only[Act.put,aas,aap,aaq,aag,aaw,aay])
 refine bK (i:=6) (v:=?_) rfl (by kernel_rfl) (by kernel_rfl) (by kernel_rfl) (by kernel_rfl) (by kernel_rfl) (fun _ _ _ h=>h) (Or.inl ⟨by rfl,?_⟩) (by assumption) ?_;rotate_left;(focus (intro w hSw;(try dsimp only at hSw);(try obtain⟨uo,uN,uH⟩:=hSw);go_simp<;>with_reducible rfl));(try simp only[Act.put,aas,aap,aaq,aag,aaw,aay])
 refine bK (i:=7) (v:=?_) rfl (by kernel_rfl) (by kernel_rfl) (by kernel_rfl) (by kernel_rfl) (by kernel_rfl) (fun _ _ _ h=>h) (Or.inl ⟨by rfl,?_⟩) (by assumption) ?_;rotate_left;(focus (intro w hSw;(try dsimp only at hSw);(try obtain⟨uo,uN,uH⟩:=hSw);go_simp<;>with_reducible rfl));(try simp only[Act.put,aas,aap,aaq,aag,aaw,aay])
 refine bK (i:=8) (v:=?_) rfl (by kernel_rfl) (by kernel_rfl) (by kernel_rfl) (by kernel_rfl) (by kernel_rfl) (fun _ _ _ h=>h) (Or.inl ⟨by rfl,?_⟩) (by assumption) ?_;rotate_left;(focus (intro w hSw;(try dsimp only at hSw);(try obtain⟨uo,uN,uH⟩:=hSw);go_simp<;>with_reducible rfl));(try simp only[Act.put,aas,aap,aaq,aag,aaw,aay])
 refine bK (i:=9) (v:=?_) rfl (by kernel_rfl) (by kernel_rfl) (by kernel_rfl) (by kernel_rfl) (by kernel_rfl) (fun _ _ _ h=>h) (Or.inl ⟨by rfl,?_⟩) (by assumption) ?_;rotate_left;(focus (intro w hSw;(try dsimp only at hSw);(try obtain⟨uo,uN,uH⟩:=hSw);go_simp<;>with_reducible rfl));(try simp only[Act.put,aas,aap,aaq,aag,aaw,aay])
 refine bK (i:=10) (v:=?_) rfl (by kernel_rfl) (by kernel_rfl) (by kernel_rfl) (by kernel_rfl) (by kernel_rfl) (fun _ _ _ h=>h) (Or.inl ⟨by rfl,?_⟩) (by assumption) ?_;rotate_left;(focus (intro w hSw;(try dsimp only at hSw);(try obtain⟨uo,uN,uH⟩:=hSw);go_simp<;>with_reducible rfl));(try simp only[Act.put,aas,aap,aaq,aag,aaw,aay])
 refine bK (i:=11) (v:=?_) rfl (by kernel_rfl) (by kernel_rfl) (by kernel_rfl) (by kernel_rfl) (by kernel_rfl) (fun _ _ _ h=>h) (Or.inl ⟨by rfl,?_⟩) (by assumption) ?_;rotate_left;(focus (intro w hSw;(try dsimp only at hSw);(try obtain⟨uo,uN,uH⟩:=hSw);go_simp<;>with_reducible rfl));(try simp only[Act.put,aas,aap,aaq,aag,aaw,aay])
 refine gQ (i:=12) (by kernel_rfl) rfl rfl 29 (.tmp 2) (.tmp 27) rfl (w.heap.size+1) (Cx nm x.nm (some ⟨b,off,none⟩) l.length cc) (by rfl) (by rfl) 29 _ nP.out Tryz.vX rfl (MU _ _ _ _ _) (.inr rfl) ?_
 simp only[Act.put,aas,aap,aaq,aag,aaw,aay]
 refine jQ (i:=13) (by kernel_rfl) rfl rfl (aW (Lv rfl (by rfl) _) ⟨.inl hS1,?_⟩)
 simp only[Act.put,aas,aap,aaq,aag,aaw,aay]
 refine jg (by kernel_rfl) ?_ _
 show Only _ .normal _ _
 unfold Only
 generalize W.drew.setRow (w.heap.size+1) (Cx nm x.nm (some ⟨b,off,none⟩) l.length cc)=Z at O6 iC ⊢
 have kZ:=au O6
 clear O6 hS0 hS1
 go_wp2
 exact bodyPost_ret (v:=.tuple #[.agg (Cx nm x.nm (some ⟨b,off,none⟩) l.length cc),.bool true]) (by simp[results,Tryz.results86,go_sem,kZ]) rfl ⟨rfl,iC.out⟩
theorem Hf (nm:List UInt8) (aa:Option Addr) (L cc:Nat) (q:Int) (w:World) (h : ¬(0≤q∧q<(L:Int))) :
  Calls Tryz.prog 86 #[.agg #[.string (aj nm),.slice aa L cc,.int .i64 q]] w fun e w'=>e = .returned (.tuple #[.agg Qf,.bool false])∧Below w.heap.size w w':=by
 obtain⟨W,hW,hbW,aJ,hcA,hcB⟩:=two w (.cells #[.string (aj nm),.slice aa L cc,.int .i64 q] 42) (.cells #[.int .i64 0,.string ⟨#[]⟩,.slice none 0 0,.string ⟨#[]⟩,.slice none 0 0,.slice none 0 0,.slice none 0 0,.string ⟨#[]⟩,.slice none 0 0,.slice none 0 0,.slice none 0 0,.slice none 0 0,.bool false,.int .i64 0] 29)
 have kA:=aH (w:=W) hcA
 have nP:=hid hcB
 have O6:=setRow_heap W (w.heap.size+1) _ Qf _ _ hcB
 have hSp:ak (fun k=>k=w.heap.size+1) W (W.setRow (w.heap.size+1) Qf):=ak.setRow (S:=fun k=>k=w.heap.size+1) (ak.refl _ W) (p:=w.heap.size+1) (.inl rfl) _
 have iC:Hid (Below w.heap.size w (W.setRow (w.heap.size+1) Qf)):=hid (hbW.trans (hSp.below (fun i hi=>by omega) hbW.size))
 have kZ:=au O6
 have hone:(Qf:Array Value).all (·.oneCell')=true:=by simp[Value.oneCell']
 clear hbW hcA hcB O6 hSp
 by_cases h1:q<0
 ·clear h
  go_enter Tryz.func86,Tryz.ntmps86
  go_wp2_with (refine wpList_store_row rfl 29 (.tmp 2) (.tmp 15) rfl (w.heap.size+1) Qf rfl rfl 29 _ nP.out Tryz.vX rfl hone ?_)
  exact bodyPost_ret (v:=.tuple #[.agg Qf,.bool false]) (by simp[results,Tryz.results86,go_sem,kZ]) rfl ⟨rfl,iC.out⟩
 ·have h3:(L:Int)≤q:=by omega
  clear h
  go_enter Tryz.func86,Tryz.ntmps86
  go_wp2_with (refine wpList_store_row rfl 29 (.tmp 2) (.tmp 15) rfl (w.heap.size+1) Qf rfl rfl 29 _ nP.out Tryz.vX rfl hone ?_)
  exact bodyPost_ret (v:=.tuple #[.agg Qf,.bool false]) (by simp[results,Tryz.results86,go_sem,kZ]) rfl ⟨rfl,iC.out⟩
theorem M5 (S:Nat→Prop) (t:Tb) (cs:List Value) (w:World) (hR:NG t) (h:fG S w t cs) :
  Calls Tryz.prog 43 #[.agg cs.toArray] w fun e w'=>e = .returned (.bool (lK t))∧Below w.heap.size w w':=by
 have hTE:=h
 obtain⟨aa,nn,cc,rfl,hsl⟩:=h
 have hnn:nn=t.aC.length:=by obtain⟨_,_,hf⟩:=hsl.form;simp only[aah] at hf;exact hf.2.1
 obtain⟨W,hW,hbW,aJ,hcW⟩:=aK w (.cells #[.string (aj t.nm),.slice aa nn cc,.int .i64 t.pr] 42)
 have k0:=aH hcW
 have HB:=hid hbW
 have rJ:=hid hcW
 by_cases hp:0≤t.pr∧t.pr<t.aC.length
 ·obtain⟨p,hpp⟩:=Int.eq_ofNat_of_zero_le hp.1
  have hpl:p<t.aC.length:=by omega
  obtain⟨x,hx⟩:∃x,t.aC[p]?=some x:=⟨_,aaf hpl⟩
  have Om:=hsl.to (T:=S) (by decide) (R:=fun _=>False) (ak.aA hbW) (fun b hb _=>⟨id,hb⟩) (fun _ _ e=>e)
  have p9:=hid (Kn S t.nm t.aC aa nn cc p x W Om hx)
  have hnm:Ch t.aC t.pr.toNat=x.nm:=by rw[hpp,Int.toNat_natCast,Bg hpl,(aam.1 hx).2]
  have FX:Hid (∀V,Below w.heap.size w V→Calls Tryz.prog 28 #[.agg (Cx t.nm x.nm aa nn cc)] V fun e w'=>∃ds:List Value,e = .returned (.tuple #[.agg ds.toArray,.int .i64 (bU (dx t)).2])∧Mf V.heap.size w' (bU (dx t)).1 ds∧Below V.heap.size V w'):=hid (fun V hV=>EG (fun _=>True) (dx t) _ V (fun U hU=>Im (fun _=>True) (dx t) _ U hR.s (((xD hsl hnm).on hV).on hU) rfl) ((xD hsl hnm).on hV))
  rw[OG hp]
  have Vm:=hid hTE
  generalize bU (dx t)=M at FX ⊢
  obtain⟨N,e0⟩:=M
  dsimp only at FX ⊢
  obtain⟨R,hR0⟩:∃R,(decide (e0=0)&&xH t N)=R:=⟨_,rfl⟩
  rw[hR0]
  have Iu:=hid hR0
  clear hR0
  rw[hpp] at hW rJ k0 Vm ⊢
  have hcr:=rfl (a:=Cx t.nm x.nm aa nn cc)
  clear hnm hx Om hR hbW hcW hp hsl hTE hcr
  subst hnn
  go_enter Tryz.func43,Tryz.ntmps43
  go_wp2_with fail
  try rw[hW]
  refine p9.out.mono ?_
  rintro e w1 ⟨rfl,hb1⟩
  have hs1:=hb1.size
  obtain⟨Y,hY,bV,kL,dJ⟩:=aK w1 (.cells #[.int .i64 1,.string (aj t.nm),.slice aa t.aC.length cc,.string (aj x.nm),.slice none 0 0,.slice none 0 0,.slice none 0 0,.string ⟨#[]⟩,.slice none 0 0,.slice none 0 0,.slice none 0 0,.slice none 0 0,.bool false,.int .i64 (-1)] 29)
  have kY:=au dJ
  have hB1:=HB.out.trans (hb1.mono HB.out.size)
  have RF:=hB1.trans (bV.mono hB1.size)
  have Ti:=hid (FX.out Y RF)
  have bZ:=hid RF
  have dB:=hid ((bV.block w.heap.size (by omega)).trans ((hb1.block w.heap.size aJ).trans rJ.out))
  clear hb1 hB1 RF bV dJ p9 FX hW k0
  go_wp2_with fail
  try rw[hY]
  refine Ti.out.mono ?_
  rintro e w2 ⟨ds,rfl,hds,hb2⟩
  have XZ:=hid hds
  obtain⟨a2,n2,c2,rfl,hown⟩:=hds
  have hs2:=hb2.size
  obtain⟨U,hU,bB,jc,eU⟩:=aK w2 (.cells #[.string (aj N.nm),.slice a2 n2 c2,.int .i64 N.pr] 42)
  have Zv:=hb2.trans (bB.mono hb2.size)
  have jm:Below w.heap.size w U:=bZ.out.trans (Zv.mono bZ.out.size)
  have kU:=aH eU
  have kT:=aH ((Zv.block w.heap.size (by omega)).trans dB.out)
  have bS:=hid jm
  have HDU:=hid (XZ.out.e.on bB)
  by_cases he:e0=0
  ·subst he
   have Kr:=hid (Es _ _ t N _ _ U (Vm.out.on jm) HDU.out)
   rw[aar rfl,aaA] at Iu
   rw[Iu.out] at Kr
   try rw[hpp] at Kr
   clear bB hb2 eU jm Zv hown Ti kY hY
   go_wp2_with fail
   try rw[hU]
   refine Kr.out.mono ?_
   rintro e w3 ⟨rfl,hb3⟩
   have HB3:=hid (bS.out.trans (hb3.mono bS.out.size))
   clear hb3 Kr
   go_wp2
   go_ret
   exact⟨rfl,HB3.out⟩
  ·have he':(e0==0)=false:=by simpa using he
   rw[aaj he,aaz] at Iu
   obtain rfl:=Iu.out
   clear bB hb2 eU jm Zv hown Ti kY hY he
   go_wp2
   try rw[hU]
   go_ret
   exact⟨rfl,bS.out⟩
 ·have hm:lK t=false:=by unfold lK;rw[aaj hp,aaz]
  rw[hm]
  subst hnn
  have HST:=hid (Hf t.nm aa t.aC.length cc t.pr W hp)
  generalize t.aC.length=L at *
  generalize t.pr=q at *
  clear hm hR hsl hbW hcW rJ hp hTE
  go_enter Tryz.func43,Tryz.ntmps43
  go_wp2_with fail
  try rw[hW]
  refine HST.out.mono ?_
  rintro e w1 ⟨rfl,hb1⟩
  have hB1:=HB.out.trans (hb1.mono HB.out.size)
  have HB1:=hid hB1
  clear hb1 HST hB1
  go_wp2
  go_ret
  exact⟨rfl,HB1.out.alloc HB1.out.size _⟩
theorem zQ {w:World} {b1 b2 n1 n2:Nat} {v1 v2:Value} {xs1 xs2:List Value} (h1:w.ownsRow b1 42 3 v1 n1 xs1) (h2:w.ownsRow b2 60 4 v2 n2 xs2) (g:Nat) (hg:v2.ownBlock=some g):v1.ownBlock≠some g:=fun e=>by
 rcases h1.2 with⟨rfl,_⟩ | ⟨g1,_,ahT,rfl,_,Kw,_⟩
 ·cases e
 ·rcases h2.2 with⟨rfl,_⟩ | ⟨g2,_,agn,rfl,_,ZI,_⟩
  ·cases hg
  ·simp only[Value.ownBlock,abf] at e hg
   subst e
   subst hg
   rw[Kw] at ZI
   injection ZI with ZI
   injection ZI with e1 e2
   exact absurd e2 (by decide)
def Ap (w w':World) (rb:Nat) (T:List Tb) (D:Nat→Prop) (t:Tb) (q:Int) (e:Ending):Prop :=
 e = .returned (.int .i64 q)∧(∃v' Cb T' D',fM w' rb v' Cb T' D'∧T'.Perm (lI T t)∧∀b,D' b→D b∨(w.heap.size≤b∧b<w'.heap.size))∧ak (fun k=>k=rb) w w'
theorem Ap.kept {w w':World} {rb:Nat} {v:Value} {css:List (List Value)} {T:List Tb} {D:Nat→Prop} {t:Tb} {q:Int} (h:fM w rb v css T D) (hb:Below w.heap.size w w') (hl:lI T t=T):Ap w w' rb T D t q (.returned (.int .i64 q)) :=
 ⟨rfl,⟨v,css,T,D,h.new hb,by rw[hl],fun b hb=>.inl hb⟩,ak.aA hb⟩
theorem Oz (rb:Nat) (v:Value) (css:List (List Value)) (T:List Tb) (D R:Nat→Prop) (t:Tb) (cs:List Value) (w:World) (h:fM w rb v css T D) (hR:NG t) (hE:fG R w t cs) :
  Calls Tryz.prog 17 #[.pointer (some ⟨rb,0,none⟩),.agg cs.toArray] w fun e w'=>Ap w w' rb T D t (nT T t) e:=by
 have OB:=hE
 obtain⟨aa,nn,cc,rfl,hsl⟩:=hE
 obtain⟨W,hW,hbW,aJ,hcW⟩:=aK w (.cells #[.string (aj t.nm),.slice aa nn cc,.int .i64 t.pr] 42)
 have k0:=aH hcW
 have Eb:=hid (M5 R t _ W hR (OB.on hbW))
 have HB:=hid hbW
 have rJ:=hid hcW
 have HD:=hid h
 have HE:=hid OB
 cases hm:lK t with
 |
  false =>
  have e1:nT T t=4:=by unfold nT;rw[hm];rfl
  have e2:lI T t=T:=by unfold lI;rw[e1];rfl
  rw[e1]
  rw[hm] at Eb
  have HL:=hid e2
  clear e1 e2 hm hR hsl hbW hcW h OB
  go_enter Tryz.func17,Tryz.ntmps17
  go_wp2_with fail
  try rw[hW]
  refine Eb.out.mono ?_
  rintro e w1 ⟨rfl,hb1⟩
  have HB1:=htr HB hb1
  clear hb1 Eb
  go_wp2
  go_ret
  exact Ap.kept HD.out HB1.out HL.out
 |
  true =>
  rw[hm] at Eb
  obtain⟨q,hq⟩:∃q,nT T t=q:=⟨_,rfl⟩
  rw[hq]
  have HQ:=hid hq
  have h8:=(nS hm).1.2.1
  have HM:=hid hm
  have HR:=hid h.VZ
  have h6:=h.six
  obtain⟨a1,c1,rfl⟩:=h.sl.form
  clear hq hm hR hsl hbW hcW h OB
  go_enter Tryz.func17,Tryz.ntmps17
  go_wp2_with fail
  try rw[hW]
  refine Eb.out.mono ?_
  rintro e w1 ⟨rfl,hb1⟩
  have hB1:=HB.out.trans (hb1.mono HB.out.size)
  have hd1:=HD.out.new hB1
  have dB:=hid ((hb1.block w.heap.size aJ).trans rJ.out)
  have k1:=aH dB.out
  have hz1:=hb1.size
  have HAT:=hid (Ir D T t.nm rb _ w1 hd1.cell hd1.sl)
  have HB1:=hid hB1
  have HD1:=hid hd1
  clear hb1 hB1 hd1 Eb hW k0
  go_wp2_with fail
  refine HAT.out.mono ?_
  rintro e w2 ⟨k,rfl,hat,hw2⟩
  obtain rfl:w1=w2:=hw2.symm
  have HA:=hid hat
  have kR:=Bt HD1.out.box
  clear HAT hat
  by_cases hin:t.nm∈T.map Tb.nm
  ·have YH:q=13:=by rw[← HQ.out];unfold nT;rw[if_pos HM.out,if_pos hin]
   have HL:Hid (lI T t=T):=hid (by unfold lI;rw[HQ.out,YH];rfl)
   obtain⟨x,hx,hxn⟩:=(Nc HR.out HA.out).1 hin
   have hk:k<T.length:=(aam.1 hx).1
   obtain⟨b,off,c,hv,hlc,hcm,hel⟩:=HD1.out.sl.opened (by decide) (fun e=>by rw[e] at hk;exact absurd hk (Nat.not_lt_zero _))
   simp only[aah] at hv
   obtain⟨rfl,_,rfl⟩:=hv
   unfold maxLen at hcm
   obtain⟨cs,hE,hcl⟩:=hel k x hx
   obtain⟨ax,nx,cx,rfl,_⟩:=hE
   have p0:=hcl w1 (Below.refl _ _) 0 _ rfl
   rw[aa2] at p0
   have hk2:(k:Int)<(T.length:Int):=by omega
   have hkd:decide ((k:Int)<(T.length:Int))=true:=aar hk2
   have Sr:((aj x.nm).toList==(aj t.nm).toList)=true:=by rw[hxn];simp
   subst YH
   clear hx hxn hin hel hcl
   go_wp2_with fail
   go_quiet (fail)
   go_wp2
   go_ret
   exact Ap.kept HD.out (by first | exact below_drewN HB1.out nq | exact below_drewN HB1.out 1) HL.out
  ·have CB:=hid hin
   go_upto_region 5 with fail
   go_cut [35] (fun u35 wx=>u35 = .bool false∧Hid (Below w1.heap.size w1 wx))
   case first =>
    by_cases hk:k=T.length
    ·have hkd:decide ((k:Int)<(T.length:Int))=false:=aaj (by omega)
     have hk2 : ¬(k:Int)<(T.length:Int):=by omega
     have hkn:decide (k<T.length)=false:=aaj (by omega)
     clear hin hk
     go_wp2_with fail
     go_quiet (fail)
     go_wp2_with fail
     go_meet
     exact⟨rfl,hid (by first | exact below_drewN (Below.refl _ _) nq | exact below_drewN (Below.refl _ _) 1)⟩
    ·have hkl:k<T.length:=Nat.lt_of_le_of_ne HA.out.1 hk
     obtain⟨x,hx⟩:∃x,T[k]?=some x:=⟨_,aaf hkl⟩
     have hnx:x.nm≠t.nm:=fun e=>CB.out (List.mem_map.2 ⟨x,aaP hx,e⟩)
     obtain⟨b,off,c,hv,hlc,hcm,hel⟩:=HD1.out.sl.opened (by decide) (fun e=>by rw[e] at hkl;exact absurd hkl (Nat.not_lt_zero _))
     simp only[aah] at hv
     obtain⟨rfl,_,rfl⟩:=hv
     unfold maxLen at hcm
     obtain⟨cs,hE,hcl⟩:=hel k x hx
     obtain⟨ax,nx,cx,rfl,_⟩:=hE
     have p0:=hcl w1 (Below.refl _ _) 0 _ rfl
     rw[aa2] at p0
     have hk2:(k:Int)<(T.length:Int):=by omega
     have hkd:decide ((k:Int)<(T.length:Int))=true:=aar hk2
     have Sr:((aj x.nm).toList==(aj t.nm).toList)=false:=by rw[aS,aS];simp[hnx]
     clear hx hnx hin hel hcl hk
     go_wp2_with fail
     go_quiet (fail)
     go_wp2_with fail
     go_meet
     exact⟨rfl,hid (by first | exact below_drewN (Below.refl _ _) nq | exact below_drewN (Below.refl _ _) 1)⟩
   case rest =>
    obtain⟨rfl,HC⟩:=hcut
    have Vk:=HB1.out.trans (HC.out.mono HB1.out.size)
    have hdc:=HD1.out.new HC.out
    have hsc:=HC.out.size
    have HCc:=hid ((HC.out.block w.heap.size (by omega)).trans dB.out)
    have kRc:=Bt hdc.box
    have Ye:=hid Vk
    clear k1 kR hin
    by_cases Zk:6≤T.length
    ·have Xk:q=16:=by rw[← HQ.out];unfold nT;rw[if_pos HM.out,if_neg CB.out,if_pos Zk]
     have HL:Hid (lI T t=T):=hid (by unfold lI;rw[HQ.out,Xk];rfl)
     have h6':(6:Int)≤(T.length:Int):=by omega
     subst Xk
     clear Vk hdc Zk
     go_wp2
     go_ret
     exact Ap.kept HD.out Ye.out HL.out
    ·have hq0:q=0:=by rw[← HQ.out];unfold nT;rw[if_pos HM.out,if_neg CB.out,if_neg Zk]
     have Xd:lI T t=t::T:=by unfold lI;rw[HQ.out,hq0];rfl
     have h6' : ¬(6:Int)≤(T.length:Int):=by omega
     have kc:=aH HCc.out
     obtain⟨x1,y1,z1,e1,a2,n2,c2,w2,hr2,ho2,hB2⟩:=Mc hdc HA.out.1
     have hBw2:=Vk.trans (hB2.mono Vk.size)
     have hs2:=hB2.size
     have HR2:=hid hr2
     have k2:=aH ((hB2.block w.heap.size (by omega)).trans HCc.out)
     have JJ:=hid ho2
     have UU:=hid hBw2
     have HD2:=hid (hdc.new hB2)
     have zq:=hid (rY R t _ w2 (HE.out.on hBw2) (by omega))
     have abO:=hid Xd
     have hkl:=HA.out.1
     subst hq0
     clear Vk hdc Zk hr2 ho2 hB2 hBw2 Xd
     go_wp2_with (first | (at_builtin;refine wpList_append_run _ rfl (.tmp 42) (.tmp 48) 22 rfl _ _ _ _ rfl rfl HR2.out ?_))
     refine zq.out.mono ?_
     rintro e w4 ⟨ds,rfl,hds,hb4⟩
     have hs4:=hb4.size
     have XZ:=hid hds
     obtain⟨a4,n4,c4,rfl,IJ⟩:=hds
     obtain⟨V,hV,mU,K4,wH⟩:=aK w4 (.cells #[.string (aj t.nm),.slice a4 n4 c4,.int .i64 t.pr] 42)
     have YN:Below w2.heap.size w2 V:=hb4.trans (mU.mono hb4.size)
     have Q8:=ak.row (ak.aA (S:=fun _=>False) YN) JJ.out (fun _ _=>id)
     have hdV:=HD2.out.new YN
     have hBV:=UU.out.trans (YN.mono UU.out.size)
     have Vp:=YN.size
     have ahX:=UU.out.size
     obtain⟨a5,n5,c5,w5,hr5,ZU,hs5⟩:=pG Q8 ⟨w4.heap.size,0,none⟩ 1 1 [[.string (aj t.nm),.slice a4 n4 c4,.int .i64 t.pr]] rfl (fun d hd=>by
      obtain rfl:=List.mem_singleton.1 hd
      refine ⟨rfl,fun u hu=>?_⟩
      simp only[abg,List.not_mem_nil,or_false] at hu
      rcases hu with rfl | rfl | rfl<;>rfl) (fun j u hu=>by
      rw[List.flatten_cons,List.flatten_nil,List.append_nil] at hu
      rw[Addr.add_lit,Nat.zero_add,aB _ _ _ _ _ _ wH]
      simpa using hu) (by omega) (by omega) 22
     have Zw:Below wc.heap.size V w5:=hs5.below (fun i hi=>(Q8.lt i hi).1) (by omega)
     have Sw:Below w.heap.size w w5:=hBV.trans (Zw.mono Ye.out.size)
     have hd5:fM w5 rb (.slice a1 T.length c1) css T D:=HD.out.new Sw
     obtain⟨x6,y6,z6,e6,a7,n7,c7,w7,Zo,Zy,hs7⟩:=Ju hd5 hkl ZU (by omega) (by have:=Zw.size;omega)
     have hB7:Below wc.heap.size w5 w7:=hs7.below (fun i hi=>(ZU.lt i hi).1) (by have:=Zw.size;omega)
     have TI:Below w.heap.size w w7:=Sw.trans (hB7.mono Ye.out.size)
     have hrb:rb<w.heap.size:=World.lt_of_block HD.out.box
     have Mv:=(TI.block rb hrb).trans HD.out.box
     obtain⟨X,hX,vC,Fg⟩:=aaG Mv (.slice a7 n7 c7)
     have Yy:ak (fun k=>k=rb) w X:=(ak.aA (S:=fun k=>k=rb) TI).andThen Fg (fun i hi=>.inl hi)
     have hins:=QO HR.out HA.out CB.out
     have kV:=aH wH
     have kR5:=Bt hd5.box
     have kR7:=Bt Mv
     have hls:(T.take k++t::T.drop k).length=k+1+(T.length-k):=by rw[aaN,aa1,List.length_take,List.length_drop,Nat.min_eq_left hkl];omega
     have rV:=ak.row (ak.aA (S:=fun _=>False) mU) IJ (fun _ _=>id)
     have r5:=hs5.row rV (fun g hg=>zQ Q8 rV g hg)
     have r7:=hs7.row r5 (fun g hg=>zQ ZU r5 g hg)
     have rX:=Fg.row r7 (fun g hg e=>by have:=(IJ.lt g hg).1;omega)
     have HF:Hid (fM X rb (.slice a7 n7 c7) (css.take k++[[.string (aj t.nm),.slice a4 n4 c4,.int .i64 t.pr]]++css.drop k) (T.take k++t::T.drop k) (fun b=>D b∨(w.heap.size≤b∧b<X.heap.size))):=hid (HD.out.put vC (by
       rw[hls]
       exact gM (Fg.row Zy (fun b hb e=>by have:=(Zy.lt b hb).1;have:=Ye.out.size;omega)) (fun b hb=>by have:=(Zy.lt b hb).1;have:=Ye.out.size;omega)) (by
       rw[List.append_assoc]
       refine lH.append' ((HD.out.els.take k).to (fun x cs e=>e.to Yy (fun b hb _=>⟨fun e2=>HD.out.ne (e2 ▸ hb),.inl hb⟩))) ?_
       show lH 3 fG _ X ([t]++T.drop k) ([_]++css.drop k)
       refine lH.append' (lH.snoc lH.nil rfl ?_) ((HD.out.els.drop k).to (fun x cs e=>e.to Yy (fun b hb _=>⟨fun e2=>HD.out.ne (e2 ▸ hb),.inl hb⟩)))
       exact⟨a4,n4,c4,rfl,aM.iM (by decide) rX (wz _ _ _) (fun b hb=>.inr ⟨by have:=(IJ.lt b hb).1;omega,(rX.lt b hb).2⟩)⟩) Yy.size hins.1 (fun x hx=>by
       rcases List.mem_append.1 hx with h1 | h1
       ·exact HD.out.ok x (List.mem_of_mem_take h1)
       ·rcases abg.1 h1 with rfl | h1
        ·exact HM.out
        ·exact HD.out.ok x (List.mem_of_mem_drop h1)) (by rw[hls];omega))
     have HR5:=hid hr5
     have HR7:=hid Zo
     have SV:=hid Yy
     have Uo:Hid ((T.take k++t::T.drop k).Perm (lI T t)):=hid (by rw[abO.out];exact hins.2)
     clear hb4 mU wH YN Q8 hdV hBV hr5 ZU hs5 Zw Sw hd5 Zo Zy hs7 hB7 TI Mv vC Fg Yy hins hls IJ rV r5 r7 rX zq k2
     go_wp2_with (first
      | (at_builtin;refine wpList_append_run _ rfl (.tmp 50) (.tmp 53) 22 rfl _ _ _ _ rfl rfl HR5.out ?_)
      | (at_builtin;refine wpList_append_run _ rfl (.tmp 56) (.tmp 62) 22 rfl _ _ _ _ rfl rfl HR7.out ?_))
     try rw[hX]
     go_ret
     exact⟨rfl,⟨_,_,_,_,HF.out,Uo.out,fun b hb=>hb⟩,SV.out⟩
structure PM (w wr:World) (sb mb rb:Nat) (L T:List Tb) (H:Nat→Prop):Prop where
 both : ∃E f S v css D,iA wr sb mb E f L S∧fM wr rb v css T D∧(∀b,S b→w.heap.size≤b∧¬D b∧b≠rb∧¬H b)∧∀b,D b→w.heap.size≤b∧¬H b
 below:Below w.heap.size w wr
 lo:w.heap.size≤rb∧¬H rb
 h : ∀b,H b→b<wr.heap.size
theorem PM.all {w wr:World} {sb mb rb:Nat} {L T:List Tb} {H:Nat→Prop} (h:PM w wr sb mb rb L T H):PM w wr sb mb rb L T (fun _=>False):=by
 obtain⟨E,f,S,v,css,D,h1,h2,h3,h4⟩:=h.both
 exact⟨⟨E,f,S,v,css,D,h1,h2,fun b hb=>⟨(h3 b hb).1,(h3 b hb).2.1,(h3 b hb).2.2.1,id⟩,fun b hb=>⟨(h4 b hb).1,id⟩⟩,h.below,⟨h.lo.1,id⟩,fun b hH=>hH.elim⟩
theorem PM.cat {w wr:World} {sb mb rb:Nat} {L T:List Tb} {H:Nat→Prop} (h:PM w wr sb mb rb L T H):∃E f S,iA wr sb mb E f L S∧∀(w':World) (E':DataW Value) (f':List UInt8→Value) (L':List Tb) (S':Nat→Prop),iA w' sb mb E' f' L' S'→(∀b,S' b→S b∨(wr.heap.size≤b∧b<w'.heap.size))→ak (fun k=>k=mb) wr w'→PM w w' sb mb rb L' T H:=by
 obtain⟨E,f,S,v,css,D,h1,h2,h3,h4⟩:=h.both
 have hrb:=World.lt_of_block h2.box
 have hm:=h3 mb h1.dh.2
 have hw:=h.below.size
 refine ⟨E,f,S,h1,fun w' E' f' L' S' hc hS hk=>⟨⟨E',f',S',v,css,D,hc,h2.keeps hk (fun b hb e=>hm.2.1 (e ▸ hb)) (fun e=>hm.2.2.1 e.symm),fun b hb=>?_,h4⟩,h.below.trans (hk.below (fun b hb=>hb ▸ hm.1) h.below.size),h.lo,fun b hH=>aa7 (h.h b hH) hk.size⟩⟩
 rcases hS b hb with h5 | h5
 ·exact h3 b h5
 ·exact⟨by omega,fun hd=>by have:=h2.lt b hd;omega,by omega,fun hH=>by have:=h.h b hH;omega⟩
theorem PM.doc {w wr:World} {sb mb rb:Nat} {L T:List Tb} {H:Nat→Prop} (h:PM w wr sb mb rb L T H):∃v css D,fM wr rb v css T D∧∀(w':World) (v':Value) (Cb:List (List Value)) (T':List Tb) (D':Nat→Prop),fM w' rb v' Cb T' D'→(∀b,D' b→D b∨(wr.heap.size≤b∧b<w'.heap.size))→ak (fun k=>k=rb) wr w'→PM w w' sb mb rb L T' H:=by
 obtain⟨E,f,S,v,css,D,h1,h2,h3,h4⟩:=h.both
 have hw:=h.below.size
 refine ⟨v,css,D,h2,fun w' v' Cb T' D' hc hS hk=>⟨⟨E,f,S,v',Cb,D',h1.keeps hk (fun b hb e=>(h3 b hb).2.2.1 e),hc,fun b hb=>⟨(h3 b hb).1,fun hd=>?_,(h3 b hb).2.2⟩,fun b hd=>?_⟩,h.below.trans (hk.below (fun b hb=>by have:=h.lo.1;omega) h.below.size),h.lo,fun b hH=>aa7 (h.h b hH) hk.size⟩⟩
 ·rcases hS b hd with h5 | h5
  ·exact (h3 b hb).2.1 h5
  ·have:=h1.lt b hb
   omega
 ·rcases hS b hd with h5 | h5
  ·exact h4 b h5
  ·exact⟨by omega,fun hH=>by have:=h.h b hH;omega⟩
end Go.Proofs.YtfeglkleoijlaaaGreatDoor
namespace Go.Proofs.YtfeglkleoijlaaaGreatDoor
open Go.RowKit Go.Shelf
set_option linter.unusedSimpArgs false
set_option linter.unusedVariables false
set_option maxRecDepth 20000
set_option maxHeartbeats 8000000
theorem BX (l:List Tb) (lv:Value) (w:World) (hW:iL w) (hl:aM 3 fG (fun b=>b<w.heap.size) w l lv) (hR : ∀t∈l,NG t) :
  Calls Tryz.prog 7 #[lv] w fun e w'=>∃sb mb rb L T,e = .returned (.tuple #[.pointer (some ⟨sb,0,none⟩),.pointer (some ⟨rb,0,none⟩)])∧PM w w' sb mb rb L T (fun _=>False)∧T.Perm L:=by
 obtain⟨la,lc,rfl⟩:∃a c,lv = .slice a l.length c:=hl.form
 have hmx:l.length≤maxLen:=by obtain⟨_,_,_,e,h1,h2,_⟩:=hl;simp only[aah] at e;omega
 unfold maxLen at hmx
 have HL:=hid hl
 have HR:=hid hR
 have HW:=hid hW
 clear hl hR hW
 go_enter Tryz.func7,Tryz.ntmps7
 go_wp2_with fail
 refine (LV w).mono ?_
 rintro e w2 ⟨u,rfl,Gc,hb2⟩
 obtain⟨sb,mb,E,f,rfl,Gc⟩:=Gc
 have hs2:=hb2.size
 have XG:=hid Gc
 have HB2:=hid hb2
 clear Gc hb2
 go_wp2_with fail
 refine (LC w2).mono ?_
 rintro e w3 ⟨rfl,SN,hb3⟩
 obtain⟨rb,hrb⟩:∃rb,w2.heap.size=rb:=⟨_,rfl⟩
 have o9:Hid (PM w w3 sb mb rb [] [] (fun _=>False)):=hid (by
  rw[hrb] at SN
  refine ⟨⟨E,f,_,_,_,_,XG.out.new hb3,SN,fun b hb=>⟨by omega,id,by omega,id⟩,fun b hb=>hb.elim⟩,HB2.out.trans (hb3.mono (by omega)),⟨by omega,id⟩,fun b hb=>hb.elim⟩)
 rw[hrb]
 clear SN hb3 XG HB2 hrb
 go_wp2_with fail
 go_loopw [6] (fun i wr=>∃(k:Nat) (L T:List Tb),k≤l.length∧k≤12∧i = .int .i64 k∧Hid (PM w wr sb mb rb L T (fun _=>False))∧Hid (T.Perm L)) (fun i _=>l.length-(intOf i).toNat)
 case atStart=>exact⟨0,[],[],aaV _,by omega,rfl,o9,hid (List.Perm.refl _)⟩
 case round =>
  clear o9
  obtain⟨k,L,T,hk,ahx,rfl,HF,Uo⟩:=hrel
  by_cases hlt:k<l.length
  ·have hlt':((k:Int)<(l.length:Int)):=by omega
   by_cases h12:k<12
   ·have acP:((k:Int)<12):=by omega
    obtain⟨t,ht⟩:∃t,l[k]?=some t:=⟨_,aaf hlt⟩
    have O5:=hid (HR.out t (aaP ht))
    have hbr:=HF.out.below
    obtain⟨_,_,_,b,off,ds,rfl,hbS,hel,hcell⟩:=bC (HL.out.to (T:=fun b=>b<w.heap.size) (by decide) (R:=fun _=>False) (ak.aA hbr) (fun b hb _=>⟨id,hb⟩) (fun _ _ e=>e.on hbr)) ht
    have eO:=hel
    obtain⟨aa,nn,cc,rfl,hsl⟩:=hel
    have q0:=hcell 0 _ rfl
    have q1:=hcell 1 _ rfl
    have q2:=hcell 2 _ rfl
    simp only[aa2] at q0
    have vP:=hid eO
    have HCE:Hid (∀V,Below w.heap.size w V→V.cell? ⟨b,off+k*3,none⟩=some (.string (aj t.nm))∧V.cell? ⟨b,off+k*3+1,none⟩=some (.slice aa nn cc)∧V.cell? ⟨b,off+k*3+2,none⟩=some (.int .i64 t.pr)):=hid (fun V hV=>by
     obtain⟨_,_,_,b2,off2,Ro,h2,abh,FH,hc2⟩:=bC HL.out ht
     injection h2 with h2
     injection h2 with e1 e2
     subst e1 e2
     have hbl:b<w.heap.size:=abh
     have hsame : ∀(i:Nat) (v:Value),wr.cell? ⟨b,off+k*3+i,none⟩=some v→V.cell? ⟨b,off+k*3+i,none⟩=some v:=fun i v h=>((hV.cell (p:=⟨b,off+k*3+i,none⟩) hbl).trans (hbr.cell (p:=⟨b,off+k*3+i,none⟩) hbl).symm).trans h
     exact⟨hsame 0 _ q0,hsame 1 _ q1,hsame 2 _ q2⟩)
    obtain⟨E4,f4,S4,hc4,hmv⟩:=HF.out.cat
    have HMV:=hid hmv
    have HAD:=hid (ND sb mb E4 f4 L S4 _ t _ wr hc4 (HW.out.on hbr) O5.out eO)
    clear hcell hsl eO hc4 hmv ht hbS hbr
    go_wp2_with fail
    refine HAD.out.mono ?_
    rintro e w5 ⟨rfl,⟨E5,f5,S5,hc5,hS5⟩,hk5⟩
    have HP5:=hid (HMV.out w5 E5 f5 (lI L t) S5 hc5 hS5 hk5)
    obtain⟨r0,r1,r2⟩:=HCE.out w5 HP5.out.below
    have Xv:=hid (vP.out.to (T:=fun b=>b<w.heap.size) hk5 (fun b hb _=>⟨fun e=>by
     have:=HF.out.both
     obtain⟨_,_,S9,_,_,_,g1,_,g3,_⟩:=this
     have:=(g3 mb g1.dh.2).1
     have hb':b<w.heap.size:=hb
     omega,hb⟩))
    obtain⟨v6,aa6,D6,hd6,hmd⟩:=HP5.out.doc
    have HMD:=hid hmd
    have HRD:=hid (Oz rb v6 aa6 T D6 _ t _ w5 hd6 O5.out Xv.out)
    clear HAD HMV hc5 hS5 hk5 hd6 hmd q0 q1 q2 vP HF
    go_wp2_with fail
    refine HRD.out.mono ?_
    rintro e q7 ⟨rfl,⟨v7,acY,T7,D7,hd7,hp7,hD7⟩,hk7⟩
    have HP7:=hid (HMD.out q7 v7 acY T7 D7 hd7 hD7 hk7).all
    have abS:=hid (hp7.trans (Kj Uo.out t))
    clear hd7 hp7 hD7 hk7 HRD HMD r0 r1 r2 HP5 Xv
    go_wp2_with fail
    go_roundw
    case rel=>exact⟨k+1,_,T7,by omega,by omega,by go_num,HP7,abS⟩
    case measure=>simp[intOf];omega
   ·have acP : ¬((k:Int)<12):=by omega
    go_wp2_with fail
    exact bodyPost_ret (v:=.tuple #[.pointer (some ⟨sb,0,none⟩),.pointer (some ⟨rb,0,none⟩)]) (by simp[results,Tryz.results7,go_sem]) rfl (by first | exact⟨sb,mb,rb,rfl,L,T,HF.out,Uo.out⟩ | exact⟨sb,rb,rfl,mb,L,T,HF.out,Uo.out⟩)
  ·have hlt' : ¬((k:Int)<(l.length:Int)):=by omega
   go_wp2_with fail
   exact bodyPost_ret (v:=.tuple #[.pointer (some ⟨sb,0,none⟩),.pointer (some ⟨rb,0,none⟩)]) (by simp[results,Tryz.results7,go_sem]) rfl (by first | exact⟨sb,mb,rb,rfl,L,T,HF.out,Uo.out⟩ | exact⟨sb,rb,rfl,mb,L,T,HF.out,Uo.out⟩)
end Go.Proofs.YtfeglkleoijlaaaGreatDoor
