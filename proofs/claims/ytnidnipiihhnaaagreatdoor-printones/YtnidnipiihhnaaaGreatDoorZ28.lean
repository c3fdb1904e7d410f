/- Packed for the hand-in: PSameE PSameS -/
import Derived.Test.YtnidnipiihhnaaaGreatDoorZ15
import Derived.Deep.QuietTactic
import Derived.BigQuiet
namespace Go.Proofs.YtnidnipiihhnaaaGreatDoor
open Go.RowKit Go.Shelf
set_option linter.unusedSimpArgs false
set_option linter.unusedVariables false
set_option maxRecDepth 20000
set_option maxHeartbeats 8000000
theorem nQ (k op vk vn:Int) (tb nm vs:List UInt8) (aa aa':Option Addr) (nn nn' cc cc':Nat) (W:World)
  (H : ∀V,Below W.heap.size W V→Calls Tryz.prog 26 #[.slice aa nn cc,.slice aa' nn' cc'] V fun e w'=>e = .returned (.bool true)∧Below V.heap.size V w') :
  Calls Tryz.prog 13 #[.agg #[.int .i64 k,.int .i64 op,.string (aj tb),.string (aj nm),.int .i64 vk,.int .i64 vn,.string (aj vs),.slice aa nn cc],.agg #[.int .i64 k,.int .i64 op,.string (aj tb),.string (aj nm),.int .i64 vk,.int .i64 vn,.string (aj vs),.slice aa' nn' cc']] W fun e w'=>e = .returned (.bool true)∧Below W.heap.size W w':=by
 have hq:=Cw ⟨vk,vn,vs⟩ ⟨vk,vn,vs⟩
 have he:eqv ⟨vk,vn,vs⟩ ⟨vk,vn,vs⟩=true:=mO.2 rfl
 rw[he] at hq
 dsimp only at hq
 have hgd:=Tryz.nk
 obtain⟨U,hU,hbU,hzU,hcA,hcB⟩:=two W (.cells #[.int .i64 k,.int .i64 op,.string (aj tb),.string (aj nm),.int .i64 vk,.int .i64 vn,.string (aj vs),.slice aa nn cc] 26) (.cells #[.int .i64 k,.int .i64 op,.string (aj tb),.string (aj nm),.int .i64 vk,.int .i64 vn,.string (aj vs),.slice aa' nn' cc'] 26)
 have HC:=hid (H U hbU)
 have HB:=hid hbU
 have kA:=aP hcA
 have kB:=aP hcB
 have e1:((aj tb).toList==(aj tb).toList)=true:=by simp
 have e2:((aj nm).toList==(aj nm).toList)=true:=by simp
 clear H hbU hcA hcB he
 go_enter Tryz.func13,Tryz.ntmps13
 go_wp2_with fail
 try rw[hU]
 clear hU
 refine HC.out.mono ?_
 rintro e w1 ⟨rfl,hb1⟩
 have HB1:=hid (HB.out.trans (hb1.mono HB.out.size))
 clear hb1 HC
 go_wp2
 go_ret
 exact⟨by simp,HB1.out⟩
theorem fG (S T:Nat→Prop) (W:World) (xs:List Ex) (v:Value) (h:aO S W xs v):∀(V:World) (u:Value),Below W.heap.size W V→aO T V xs u →
  Calls Tryz.prog 26 #[v,u] V fun e w'=>e = .returned (.bool true)∧Below V.heap.size V w':=by
 induction h with
 |
  nil a c hc =>
  intro V u hV hu
  obtain⟨a',c',rfl,_⟩:=hu.form
  clear hu hV
  go_enter Tryz.func26,Tryz.ntmps26
  go_wp2_with fail
  go_rounds 1
  go_ret
  exact⟨rfl,Below.refl _ _⟩
 |
  cons xs b off c avs hne hSb hl hc hcell hrec ih =>
  intro V u hV hu
  generalize hxs:xs=ys at hu
  cases hu with
  | nil a' c' hc'=>exact absurd hxs hne
  |
   cons _ b' off' c' avs' hne' hTb' hl' hc' hcell' hrec' =>
   subst hxs
   unfold maxLen at hc hc'
   have hbl:b<W.heap.size:=by
    cases xs with
    | nil=>exact absurd rfl hne
    |
     cons x l =>
     obtain⟨k,op,tb,nm,⟨vk,vn,vs⟩,ys⟩:=x
     exact World.block_lt_of_cell? W _ (hcell 0 k op tb nm vk vn vs ys rfl).1
   have hbl':b'<V.heap.size:=by
    cases xs with
    | nil=>exact absurd rfl hne
    |
     cons x l =>
     obtain⟨k,op,tb,nm,⟨vk,vn,vs⟩,ys⟩:=x
     exact World.block_lt_of_cell? V _ (hcell' 0 k op tb nm vk vn vs ys rfl).1
   have HA:Hid (∀(Z:World),Below V.heap.size V Z→∀(j:Nat) (k op:Int) (tb nm:List UInt8) (vk vn:Int) (vs:List UInt8) (ys:List Ex),xs[j]?=some (.mk k op tb nm ⟨vk,vn,vs⟩ ys) →
     Z.cell? ⟨b,off+j*8,none⟩=some (.int .i64 k)∧Z.cell? ⟨b,off+j*8+1,none⟩=some (.int .i64 op)∧Z.cell? ⟨b,off+j*8+2,none⟩=some (.string (aj tb))∧Z.cell? ⟨b,off+j*8+3,none⟩=some (.string (aj nm))∧Z.cell? ⟨b,off+j*8+4,none⟩=some (.int .i64 vk)∧Z.cell? ⟨b,off+j*8+5,none⟩=some (.int .i64 vn)∧Z.cell? ⟨b,off+j*8+6,none⟩=some (.string (aj vs))∧Z.cell? ⟨b,off+j*8+7,none⟩=some (avs j)):=hid (fun Z hZ j k op tb nm vk vn vs ys hj=>by
    have hWZ:=hV.trans (hZ.mono hV.size)
    obtain⟨c0,c1,c2,c3,c4,c5,c6,c7⟩:=hcell j k op tb nm vk vn vs ys hj
    exact⟨(hWZ.cell (p:=⟨b,_,none⟩) hbl).trans c0,(hWZ.cell (p:=⟨b,_,none⟩) hbl).trans c1,(hWZ.cell (p:=⟨b,_,none⟩) hbl).trans c2,(hWZ.cell (p:=⟨b,_,none⟩) hbl).trans c3,(hWZ.cell (p:=⟨b,_,none⟩) hbl).trans c4,(hWZ.cell (p:=⟨b,_,none⟩) hbl).trans c5,(hWZ.cell (p:=⟨b,_,none⟩) hbl).trans c6,(hWZ.cell (p:=⟨b,_,none⟩) hbl).trans c7⟩)
   have HA':Hid (∀(Z:World),Below V.heap.size V Z→∀(j:Nat) (k op:Int) (tb nm:List UInt8) (vk vn:Int) (vs:List UInt8) (ys:List Ex),xs[j]?=some (.mk k op tb nm ⟨vk,vn,vs⟩ ys) →
     Z.cell? ⟨b',off'+j*8,none⟩=some (.int .i64 k)∧Z.cell? ⟨b',off'+j*8+1,none⟩=some (.int .i64 op)∧Z.cell? ⟨b',off'+j*8+2,none⟩=some (.string (aj tb))∧Z.cell? ⟨b',off'+j*8+3,none⟩=some (.string (aj nm))∧Z.cell? ⟨b',off'+j*8+4,none⟩=some (.int .i64 vk)∧Z.cell? ⟨b',off'+j*8+5,none⟩=some (.int .i64 vn)∧Z.cell? ⟨b',off'+j*8+6,none⟩=some (.string (aj vs))∧Z.cell? ⟨b',off'+j*8+7,none⟩=some (avs' j)):=hid (fun Z hZ j k op tb nm vk vn vs ys hj=>by
    obtain⟨c0,c1,c2,c3,c4,c5,c6,c7⟩:=hcell' j k op tb nm vk vn vs ys hj
    exact⟨(hZ.cell (p:=⟨b',_,none⟩) hbl').trans c0,(hZ.cell (p:=⟨b',_,none⟩) hbl').trans c1,(hZ.cell (p:=⟨b',_,none⟩) hbl').trans c2,(hZ.cell (p:=⟨b',_,none⟩) hbl').trans c3,(hZ.cell (p:=⟨b',_,none⟩) hbl').trans c4,(hZ.cell (p:=⟨b',_,none⟩) hbl').trans c5,(hZ.cell (p:=⟨b',_,none⟩) hbl').trans c6,(hZ.cell (p:=⟨b',_,none⟩) hbl').trans c7⟩)
   have HI:Hid (∀(Z:World),Below V.heap.size V Z→∀(j:Nat) (k op:Int) (tb nm:List UInt8) (vk vn:Int) (vs:List UInt8) (ys:List Ex),xs[j]?=some (.mk k op tb nm ⟨vk,vn,vs⟩ ys)→∃(aa aa':Option Addr) (nn nn' cc cc':Nat),avs j = .slice aa nn cc∧avs' j = .slice aa' nn' cc' ∧
     Calls Tryz.prog 13 #[.agg #[.int .i64 k,.int .i64 op,.string (aj tb),.string (aj nm),.int .i64 vk,.int .i64 vn,.string (aj vs),.slice aa nn cc],.agg #[.int .i64 k,.int .i64 op,.string (aj tb),.string (aj nm),.int .i64 vk,.int .i64 vn,.string (aj vs),.slice aa' nn' cc']] Z fun e w'=>e = .returned (.bool true)∧Below Z.heap.size Z w'):=hid (fun Z hZ j k op tb nm vk vn vs ys hj=>by
    obtain⟨aa,cc,e1,_⟩:=(hrec j k op tb nm vk vn vs ys hj).form
    obtain⟨aa',cc',e2,_⟩:=(hrec' j k op tb nm vk vn vs ys hj).form
    refine ⟨aa,aa',_,_,cc,cc',e1,e2,nQ k op vk vn tb nm vs aa aa' _ _ cc cc' Z (fun Y hY=>?_)⟩
    have hVY:=hZ.trans (hY.mono hZ.size)
    have:=ih j k op tb nm vk vn vs ys hj Y (avs' j) (hV.trans (hVY.mono hV.size)) ((hrec' j k op tb nm vk vn vs ys hj).to (R:=fun _=>False) (ay.aA hVY) (fun b hb _=>⟨id,hb⟩))
    rw[e1,e2] at this
    exact this)
   clear hcell hcell' hrec hrec' ih hV
   go_enter Tryz.func26,Tryz.ntmps26
   go_wp2_with fail
   go_loopw [5,6] (fun i _ wr=>∃k:Nat,k≤xs.length∧i = .int .i64 k∧Below V.heap.size V wr) (fun i _ _=>xs.length-(intOf i).toNat)
   case atStart=>exact⟨0,Nat.zero_le _,rfl,Below.refl _ _⟩
   case round =>
    obtain⟨j,hj,rfl,hbel⟩:=hrel
    by_cases hlt:j<xs.length
    ·obtain⟨⟨k,op,tb,nm,⟨vk,vn,vs⟩,ys⟩,hx⟩:∃x,xs[j]?=some x:=⟨_,List.getElem?_eq_getElem hlt⟩
     have hlt':((j:Int)<(xs.length:Int)):=by omega
     have kA:=HA.out wr hbel j k op tb nm vk vn vs ys hx
     have kB:=HA'.out wr hbel j k op tb nm vk vn vs ys hx
     obtain⟨aa,aa',nn,nn',cc,cc',e1,e2,hcall⟩:=HI.out wr.drew hbel.drew j k op tb nm vk vn vs ys hx
     rw[e1] at kA
     rw[e2] at kB
     have HCA:=hid hcall
     have HBR:=hid hbel
     clear hcall hbel hx e1 e2
     go_wp2_with fail
     go_region_with (first
      | (
       go_at_call 13;refine HCA.out.mono ?_
       rintro e w1 ⟨rfl,hb1⟩
       have HB1:Hid (Below V.heap.size V w1):=hid (HBR.out.drew.trans (hb1.mono HBR.out.size))
       clear hb1)
      | fail)
     all_goals go_wp2
     all_goals exact⟨⟨j+1,by omega,by go_num,HB1.out⟩,by simp[intOf];omega⟩
    ·have hlt' : ¬((j:Int)<(xs.length:Int)):=by omega
     have HBR:=hid hbel
     clear hbel
     go_wp2
     go_ret
     exact⟨rfl,HBR.out⟩
theorem bJ.opened {α:Type} {z:Nat} {El:(Nat→Prop)→World→α→List Value→Prop} {S:Nat→Prop} {w:World} {xs:List α} {v:Value} (hz:0<z) (h:bJ z El S w xs v) (hne:xs≠[]) :
  ∃(b off c:Nat),v = .slice (some ⟨b,off,none⟩) xs.length c∧xs.length≤c∧c≤maxLen∧∀(j:Nat) (x:α),xs[j]?=some x→∃cs:List Value,El S w x cs∧∀Z,Below w.heap.size w Z→∀(i:Nat) (u:Value),cs[i]?=some u→Z.cell? ⟨b,off+j*z+i,none⟩=some u:=by
 obtain⟨a,c,css,h1,h2,h3,h4,h5⟩:=h
 obtain⟨b,off,rfl,hb,hc⟩:=h5 hne
 have hlt:b<w.heap.size:=by
  cases xs with
  | nil=>exact absurd rfl hne
  |
   cons x l =>
   cases css with
   | nil=>have:=h4.1;simp at this
   |
    cons cs css =>
    have:=h4.2 0 x cs rfl rfl
    cases cs with
    | nil=>have:=this.1;simp at this;omega
    | cons u cs=>exact World.block_lt_of_cell? w _ (hc 0 (u::cs) rfl 0 u rfl)
 refine ⟨b,off,c,h1,h2,h3,fun j x hx=>?_⟩
 have hj:j<css.length:=by rw[h4.1];exact (List.getElem?_eq_some_iff.1 hx).1
 exact⟨css[j],(h4.2 j x _ hx (List.getElem?_eq_getElem hj)).2,fun Z hZ i u hu=>(hZ.cell (p:=⟨b,_,none⟩) hlt).trans (hc j _ (List.getElem?_eq_getElem hj) i u hu)⟩
theorem Tryz.Dr:Tryz.prog.underlying 100=some (.struct (Tryz.prog.fieldsOf 100)):=by kernel_rfl
theorem Tryz.F6:Tryz.prog.stoodInHeld 100=false:=by kernel_rfl
theorem Tryz.Bp:Tryz.prog.eqGuardType Tryz.prog.depth 100=false:=by kernel_rfl
theorem GZ (e:Nat) (A B:Array Value) (a1 a2 a3 a4 b1 b2 b3 b4:Value) (p q r t:Bool) (w:World)
  (h1:(Go.part 9 A 0).run Tryz.prog w = .ok a1 w) (h2:(Go.part 3 A 1).run Tryz.prog w = .ok a2 w) (h3:(Go.part 4 A 2).run Tryz.prog w = .ok a3 w) (h4:(Go.part 4 A 3).run Tryz.prog w = .ok a4 w)
  (g1:(Go.part 9 B 0).run Tryz.prog w = .ok b1 w) (g2:(Go.part 3 B 1).run Tryz.prog w = .ok b2 w) (g3:(Go.part 4 B 2).run Tryz.prog w = .ok b3 w) (g4:(Go.part 4 B 3).run Tryz.prog w = .ok b4 w)
  (e1:(Op.equalIn e 9 a1 b1).run Tryz.prog w = .ok p w) (e2:(Op.equalIn e 3 a2 b2).run Tryz.prog w = .ok q w) (e3:(Op.equalIn e 4 a3 b3).run Tryz.prog w = .ok r w) (e4:(Op.equalIn e 4 a4 b4).run Tryz.prog w = .ok t w) :
  (Op.eqFields e A B (Tryz.prog.fieldsOf 100).toList).run Tryz.prog w = .ok (p&&(q&&(r&&t))) w:=by
 simp only[Program.fieldsOf,Tryz.underlying100]
 cases p<;>cases q<;>cases r<;>cases t<;>simp[Op.eqFields,h1,h2,h3,h4,g1,g2,g3,g4,e1,e2,e3,e4]
theorem CZ (d:Nat) (s:ByteArray) (k:Int) (x y:Bool) (w:World):(Op.equalIn (d+1+1) 100 (.agg #[.string s,.int .i64 k,.bool x,.bool y]) (.agg #[.string s,.int .i64 k,.bool x,.bool y])).run Tryz.prog w = .ok (s.toList==s.toList&&(k==k&&(x==x&&y==y))) w:=by
 rw[run_equalIn_struct (P:=Tryz.prog) w (d+1) 100 _ _ Tryz.Dr Tryz.F6]
 exact GZ _ _ _ (.string s) (.int .i64 k) (.bool x) (.bool y) (.string s) (.int .i64 k) (.bool x) (.bool y) _ _ _ _ w (by simp[Go.part,go_sem]) (by simp[Go.part,go_sem]) (by simp[Go.part,go_sem]) (by simp[Go.part,go_sem]) (by simp[Go.part,go_sem]) (by simp[Go.part,go_sem]) (by simp[Go.part,go_sem]) (by simp[Go.part,go_sem])
  (run_equalIn_string (P:=Tryz.prog) w d 9 s s Tryz.underlying9) (run_equalIn_int (P:=Tryz.prog) w d 3 .i64 .i64 k k Tryz.underlying3) (run_equalIn_bool (P:=Tryz.prog) w d 4 x x Tryz.underlying4) (run_equalIn_bool (P:=Tryz.prog) w d 4 y y Tryz.underlying4)
theorem Gy (s:ByteArray) (k:Int) (x y:Bool) (w:World):(binOp .neq 100 (.agg #[.string s,.int .i64 k,.bool x,.bool y]) (.agg #[.string s,.int .i64 k,.bool x,.bool y])).run Tryz.prog w = .ok (.bool false) w:=by
 rw[run_neq_struct,show (10000:Nat)=9998+1+1 from rfl,CZ]
 simp
theorem zk (S T:Nat→Prop) (v u:Value) (xs:List Co) (w:World) (hv:bJ 4 lC S w xs v) (hu:bJ 4 lC T w xs u) :
  Calls Tryz.prog 104 #[v,u] w fun e w'=>e = .returned (.bool true)∧Below w.heap.size w w':=by
 have hgd:=Tryz.Bp
 by_cases hne:xs=[]
 ·subst hne
  obtain⟨a,c,rfl⟩:=hv.form
  obtain⟨a',c',rfl⟩:=hu.form
  clear hv hu
  go_enter Tryz.func104,Tryz.ntmps104
  go_wp2_with fail
  go_rounds 1
  go_ret
  exact⟨rfl,Below.refl _ _⟩
 ·obtain⟨b,off,c,rfl,hlc,hc,hel⟩:=hv.opened (by decide) hne
  obtain⟨b',off',c',rfl,hlc',hc',hel'⟩:=hu.opened (by decide) hne
  unfold maxLen at hc hc'
  have HA:=hid hel
  have HA':=hid hel'
  clear hv hu hel hel'
  go_enter Tryz.func104,Tryz.ntmps104
  go_wp2_with fail
  go_loopw [5] (fun i wr=>∃k:Nat,k≤xs.length∧i = .int .i64 k∧Below w.heap.size w wr) (fun i _=>xs.length-(intOf i).toNat)
  case atStart=>exact⟨0,Nat.zero_le _,rfl,Below.refl _ _⟩
  case round =>
   obtain⟨j,hj,rfl,hbel⟩:=hrel
   by_cases hlt:j<xs.length
   ·obtain⟨x,hx⟩:∃x,xs[j]?=some x:=⟨_,List.getElem?_eq_getElem hlt⟩
    have hlt':((j:Int)<(xs.length:Int)):=by omega
    obtain⟨cs,hE,hcl⟩:=HA.out j x hx
    obtain⟨cs',hE',hcl'⟩:=HA'.out j x hx
    obtain⟨nm,k,nn,uq⟩:=x
    have hE:cs=[.string (aj nm),.int .i64 k,.bool nn,.bool uq]:=hE
    have hE':cs'=[.string (aj nm),.int .i64 k,.bool nn,.bool uq]:=hE'
    subst hE hE'
    have p0:=hcl wr hbel 0 _ rfl
    have p1:=hcl wr hbel 1 _ rfl
    have p2:=hcl wr hbel 2 _ rfl
    have p3:=hcl wr hbel 3 _ rfl
    rw[Nat.add_zero] at p0
    have q0:=hcl' wr hbel 0 _ rfl
    have q1:=hcl' wr hbel 1 _ rfl
    have q2:=hcl' wr hbel 2 _ rfl
    have q3:=hcl' wr hbel 3 _ rfl
    rw[Nat.add_zero] at q0
    have heq:=Gy (aj nm) k nn uq
    have HBR:=hid hbel
    clear hbel hx hcl hcl'
    go_wp2_with fail
    go_quiet (fail)
    go_wp2
    go_roundw
    case rel=>exact⟨j+1,by omega,by go_num,by first | exact below_drewN HBR.out nq | exact HBR.out⟩
    case measure=>simp[intOf];omega
   ·have hlt' : ¬((j:Int)<(xs.length:Int)):=by omega
    have HBR:=hid hbel
    clear hbel
    go_wp2
    go_ret
    exact⟨rfl,HBR.out⟩
theorem Gl (S T:Nat→Prop) (v u:Value) (xs:List Vl) (w:World) (hv:bJ 3 uQ S w xs v) (hu:bJ 3 uQ T w xs u) :
  Calls Tryz.prog 157 #[v,u] w fun e w'=>e = .returned (.bool true)∧Below w.heap.size w w':=by
 have hgd:=Tryz.nk
 by_cases hne:xs=[]
 ·subst hne
  obtain⟨a,c,rfl⟩:=hv.form
  obtain⟨a',c',rfl⟩:=hu.form
  clear hv hu
  go_enter Tryz.func157,Tryz.ntmps157
  go_wp2_with fail
  go_rounds 1
  go_ret
  exact⟨rfl,Below.refl _ _⟩
 ·obtain⟨b,off,c,rfl,hlc,hc,hel⟩:=hv.opened (by decide) hne
  obtain⟨b',off',c',rfl,hlc',hc',hel'⟩:=hu.opened (by decide) hne
  unfold maxLen at hc hc'
  have HA:=hid hel
  have HA':=hid hel'
  clear hv hu hel hel'
  go_enter Tryz.func157,Tryz.ntmps157
  go_wp2_with fail
  go_loopw [5] (fun i wr=>∃k:Nat,k≤xs.length∧i = .int .i64 k∧Below w.heap.size w wr) (fun i _=>xs.length-(intOf i).toNat)
  case atStart=>exact⟨0,Nat.zero_le _,rfl,Below.refl _ _⟩
  case round =>
   obtain⟨j,hj,rfl,hbel⟩:=hrel
   by_cases hlt:j<xs.length
   ·obtain⟨x,hx⟩:∃x,xs[j]?=some x:=⟨_,List.getElem?_eq_getElem hlt⟩
    have hlt':((j:Int)<(xs.length:Int)):=by omega
    obtain⟨cs,hE,hcl⟩:=HA.out j x hx
    obtain⟨cs',hE',hcl'⟩:=HA'.out j x hx
    obtain⟨xk,xn,xt⟩:=x
    have hE:cs=[.int .i64 xk,.int .i64 xn,.string (aj xt)]:=hE
    have hE':cs'=[.int .i64 xk,.int .i64 xn,.string (aj xt)]:=hE'
    subst hE hE'
    have p0:=hcl wr hbel 0 _ rfl
    have p1:=hcl wr hbel 1 _ rfl
    have p2:=hcl wr hbel 2 _ rfl
    rw[Nat.add_zero] at p0
    have q0:=hcl' wr hbel 0 _ rfl
    have q1:=hcl' wr hbel 1 _ rfl
    have q2:=hcl' wr hbel 2 _ rfl
    rw[Nat.add_zero] at q0
    have heq : ∀w,(binOp .neq 23 (.agg #[.int .i64 xk,.int .i64 xn,.string (aj xt)]) (.agg #[.int .i64 xk,.int .i64 xn,.string (aj xt)])).run Tryz.prog w = .ok (.bool false) w:=fun w=>by
     have:=Cb ⟨xk,xn,xt⟩ ⟨xk,xn,xt⟩ w
     rw[mO.2 rfl] at this
     exact this
    have HBR:=hid hbel
    clear hbel hx hcl hcl'
    go_wp2_with fail
    go_quiet (fail)
    go_wp2
    go_roundw
    case rel=>exact⟨j+1,by omega,by go_num,by first | exact below_drewN HBR.out nq | exact HBR.out⟩
    case measure=>simp[intOf];omega
   ·have hlt' : ¬((j:Int)<(xs.length:Int)):=by omega
    have HBR:=hid hbel
    clear hbel
    go_wp2
    go_ret
    exact⟨rfl,HBR.out⟩
theorem xH (S T:Nat→Prop) (v u:Value) (xs:List (List Vl)) (w:World) (hv:bJ 1 wE S w xs v) (hu:bJ 1 wE T w xs u) :
  Calls Tryz.prog 105 #[v,u] w fun e w'=>e = .returned (.bool true)∧Below w.heap.size w w':=by
 by_cases hne:xs=[]
 ·subst hne
  obtain⟨a,c,rfl⟩:=hv.form
  obtain⟨a',c',rfl⟩:=hu.form
  clear hv hu
  go_enter Tryz.func105,Tryz.ntmps105
  go_wp2_with fail
  go_rounds 1
  go_ret
  exact⟨rfl,Below.refl _ _⟩
 ·obtain⟨b,off,c,rfl,hlc,hc,hel⟩:=hv.opened (by decide) hne
  obtain⟨b',off',c',rfl,hlc',hc',hel'⟩:=hu.opened (by decide) hne
  unfold maxLen at hc hc'
  have HA:=hid hel
  have HA':=hid hel'
  clear hv hu hel hel'
  go_enter Tryz.func105,Tryz.ntmps105
  go_wp2_with fail
  go_loopw [5,6] (fun i _ wr=>∃k:Nat,k≤xs.length∧i = .int .i64 k∧Below w.heap.size w wr) (fun i _ _=>xs.length-(intOf i).toNat)
  case atStart=>exact⟨0,Nat.zero_le _,rfl,Below.refl _ _⟩
  case round =>
   obtain⟨j,hj,rfl,hbel⟩:=hrel
   by_cases hlt:j<xs.length
   ·obtain⟨x,hx⟩:∃x,xs[j]?=some x:=⟨_,List.getElem?_eq_getElem hlt⟩
    have hlt':((j:Int)<(xs.length:Int)):=by omega
    obtain⟨cs,hE,hcl⟩:=HA.out j x hx
    obtain⟨cs',hE',hcl'⟩:=HA'.out j x hx
    obtain⟨aa,nn,cc,rfl,hsl⟩:=hE
    obtain⟨aa',nn',cc',rfl,hsl'⟩:=hE'
    have p0:=hcl wr hbel 0 _ rfl
    rw[Nat.add_zero] at p0
    have q0:=hcl' wr hbel 0 _ rfl
    rw[Nat.add_zero] at q0
    rw[Nat.mul_one] at p0 q0
    have hcall:=Gl S T _ _ x wr.drew (hsl.to (by decide) (R:=fun _=>False) (ay.aA hbel.drew) (fun b hb _=>⟨id,hb⟩) (fun _ _ e=>e)) (hsl'.to (by decide) (R:=fun _=>False) (ay.aA hbel.drew) (fun b hb _=>⟨id,hb⟩) (fun _ _ e=>e))
    clear hsl hsl'
    have HBR:=hid hbel
    have HCA:=hid hcall
    clear hcall hbel hx hcl hcl'
    go_wp2_with fail
    go_region_with (first
     | (
      go_at_call 157;refine HCA.out.mono ?_
      rintro e w1 ⟨rfl,hb1⟩
      have HB1:Hid (Below w.heap.size w w1):=hid (HBR.out.drew.trans (hb1.mono HBR.out.size))
      clear hb1)
     | fail)
    all_goals go_wp2
    all_goals exact⟨⟨j+1,by omega,by go_num,HB1.out⟩,by simp[intOf];omega⟩
   ·have hlt' : ¬((j:Int)<(xs.length:Int)):=by omega
    have HBR:=hid hbel
    clear hbel
    go_wp2
    go_ret
    exact⟨rfl,HBR.out⟩
theorem F5 (S T:Nat→Prop) (v u:Value) (xs:List Se) (w:World) (hv:bJ 9 sP S w xs v) (hu:bJ 9 sP T w xs u) :
  Calls Tryz.prog 106 #[v,u] w fun e w'=>e = .returned (.bool true)∧Below w.heap.size w w':=by
 by_cases hne:xs=[]
 ·subst hne
  obtain⟨a,c,rfl⟩:=hv.form
  obtain⟨a',c',rfl⟩:=hu.form
  clear hv hu
  go_enter Tryz.func106,Tryz.ntmps106
  go_wp2_with fail
  go_rounds 1
  go_ret
  exact⟨rfl,Below.refl _ _⟩
 ·obtain⟨b,off,c,rfl,hlc,hc,hel⟩:=hv.opened (by decide) hne
  obtain⟨b',off',c',rfl,hlc',hc',hel'⟩:=hu.opened (by decide) hne
  unfold maxLen at hc hc'
  have HA:=hid hel
  have HA':=hid hel'
  clear hv hu hel hel'
  go_enter Tryz.func106,Tryz.ntmps106
  go_wp2_with fail
  go_loopw [5,6] (fun i _ wr=>∃k:Nat,k≤xs.length∧i = .int .i64 k∧Below w.heap.size w wr) (fun i _ _=>xs.length-(intOf i).toNat)
  case atStart=>exact⟨0,Nat.zero_le _,rfl,Below.refl _ _⟩
  case round =>
   obtain⟨j,hj,rfl,hbel⟩:=hrel
   by_cases hlt:j<xs.length
   ·obtain⟨x,hx⟩:∃x,xs[j]?=some x:=⟨_,List.getElem?_eq_getElem hlt⟩
    have hlt':((j:Int)<(xs.length:Int)):=by omega
    obtain⟨cs,hE,hcl⟩:=HA.out j x hx
    obtain⟨cs',hE',hcl'⟩:=HA'.out j x hx
    obtain⟨sn,se⟩:=x
    obtain⟨k,op,tb,nm,vk,vn,vs,ys,aa,nn,cc,hxe,rfl,har⟩:=hE
    obtain⟨k',op',tb',nm',vk',vn',vs',ys',aa',nn',cc',hxe',rfl,har'⟩:=hE'
    dsimp only at hxe hxe' hcl hcl'
    subst hxe
    simp only[Ex.mk.injEq,Vl.mk.injEq] at hxe'
    obtain⟨rfl,rfl,rfl,rfl,⟨rfl,rfl,rfl⟩,rfl⟩:=hxe'
    have p0:=hcl wr hbel 0 _ rfl
    have p1:=hcl wr hbel 1 _ rfl
    have p2:=hcl wr hbel 2 _ rfl
    have p3:=hcl wr hbel 3 _ rfl
    have p4:=hcl wr hbel 4 _ rfl
    have p5:=hcl wr hbel 5 _ rfl
    have p6:=hcl wr hbel 6 _ rfl
    have p7:=hcl wr hbel 7 _ rfl
    have p8:=hcl wr hbel 8 _ rfl
    rw[Nat.add_zero] at p0
    have q0:=hcl' wr hbel 0 _ rfl
    have q1:=hcl' wr hbel 1 _ rfl
    have q2:=hcl' wr hbel 2 _ rfl
    have q3:=hcl' wr hbel 3 _ rfl
    have q4:=hcl' wr hbel 4 _ rfl
    have q5:=hcl' wr hbel 5 _ rfl
    have q6:=hcl' wr hbel 6 _ rfl
    have q7:=hcl' wr hbel 7 _ rfl
    have q8:=hcl' wr hbel 8 _ rfl
    rw[Nat.add_zero] at q0
    have HC1:=hid (fun Z hZ=>by have:=hcl Z hZ 0 _ rfl;rw[Nat.add_zero] at this;exact this)
    have HC2:=hid (fun Z hZ=>by have:=hcl' Z hZ 0 _ rfl;rw[Nat.add_zero] at this;exact this)
    have e1:((aj sn).toList != (aj sn).toList)=false:=by simp
    have hcall:=nQ k op vk vn tb nm vs aa aa' nn nn' cc cc' wr.drew (fun V hV=>fG S T w ys _ har V _ (hbel.drew.trans (hV.mono hbel.size)) (har'.to (R:=fun _=>False) (ay.aA (hbel.drew.trans (hV.mono hbel.size))) (fun b hb _=>⟨id,hb⟩)))
    clear har har'
    have HBR:=hid hbel
    have HCA:=hid hcall
    clear hcall hbel hx hcl hcl'
    go_wp2_with fail
    go_region_with (first
     | (
      go_at_call 13;refine HCA.out.mono ?_
      rintro e w1 ⟨rfl,hb1⟩
      have HB1:Hid (Below w.heap.size w w1):=hid (HBR.out.drew.trans (hb1.mono HBR.out.size))
      clear hb1)
     | fail)
    all_goals
     have r0:=HC1.out w1 HB1.out
     have s0:=HC2.out w1 HB1.out
     go_wp2_with fail
     go_quiet (fail)
     go_wp2
     exact⟨⟨j+1,by omega,by go_num,by first | exact below_drewN HB1.out nq | exact HB1.out⟩,by simp[intOf];omega⟩
   ·have hlt' : ¬((j:Int)<(xs.length:Int)):=by omega
    have HBR:=hid hbel
    clear hbel
    go_wp2
    go_ret
    exact⟨rfl,HBR.out⟩
theorem Eo (S T:Nat→Prop) (v u:Value) (xs:List It) (w:World) (hv:bJ 2 sM S w xs v) (hu:bJ 2 sM T w xs u) :
  Calls Tryz.prog 107 #[v,u] w fun e w'=>e = .returned (.bool true)∧Below w.heap.size w w':=by
 by_cases hne:xs=[]
 ·subst hne
  obtain⟨a,c,rfl⟩:=hv.form
  obtain⟨a',c',rfl⟩:=hu.form
  clear hv hu
  go_enter Tryz.func107,Tryz.ntmps107
  go_wp2_with fail
  go_rounds 1
  go_ret
  exact⟨rfl,Below.refl _ _⟩
 ·obtain⟨b,off,c,rfl,hlc,hc,hel⟩:=hv.opened (by decide) hne
  obtain⟨b',off',c',rfl,hlc',hc',hel'⟩:=hu.opened (by decide) hne
  unfold maxLen at hc hc'
  have HA:=hid hel
  have HA':=hid hel'
  clear hv hu hel hel'
  go_enter Tryz.func107,Tryz.ntmps107
  go_wp2_with fail
  go_loopw [5,6] (fun i _ wr=>∃k:Nat,k≤xs.length∧i = .int .i64 k∧Below w.heap.size w wr) (fun i _ _=>xs.length-(intOf i).toNat)
  case atStart=>exact⟨0,Nat.zero_le _,rfl,Below.refl _ _⟩
  case round =>
   obtain⟨j,hj,rfl,hbel⟩:=hrel
   by_cases hlt:j<xs.length
   ·obtain⟨x,hx⟩:∃x,xs[j]?=some x:=⟨_,List.getElem?_eq_getElem hlt⟩
    have hlt':((j:Int)<(xs.length:Int)):=by omega
    obtain⟨cs,hE,hcl⟩:=HA.out j x hx
    obtain⟨cs',hE',hcl'⟩:=HA'.out j x hx
    obtain⟨ik,ys⟩:=x
    obtain⟨aa,nn,cc,rfl,har⟩:=hE
    obtain⟨aa',nn',cc',rfl,har'⟩:=hE'
    dsimp only at har har' hcl hcl'
    have p0:=hcl wr hbel 0 _ rfl
    have p1:=hcl wr hbel 1 _ rfl
    rw[Nat.add_zero] at p0
    have q0:=hcl' wr hbel 0 _ rfl
    have q1:=hcl' wr hbel 1 _ rfl
    rw[Nat.add_zero] at q0
    have HC1:=hid (fun Z hZ=>by have:=hcl Z hZ 0 _ rfl;rw[Nat.add_zero] at this;exact this)
    have HC2:=hid (fun Z hZ=>by have:=hcl' Z hZ 0 _ rfl;rw[Nat.add_zero] at this;exact this)
    have hcall:=fG S T w ys _ har wr.drew _ hbel.drew (har'.to (R:=fun _=>False) (ay.aA hbel.drew) (fun b hb _=>⟨id,hb⟩))
    clear har har'
    have HBR:=hid hbel
    have HCA:=hid hcall
    clear hcall hbel hx hcl hcl'
    go_wp2_with fail
    go_region_with (first
     | (
      go_at_call 26;refine HCA.out.mono ?_
      rintro e w1 ⟨rfl,hb1⟩
      have HB1:Hid (Below w.heap.size w w1):=hid (HBR.out.drew.trans (hb1.mono HBR.out.size))
      clear hb1)
     | fail)
    all_goals
     have r0:=HC1.out w1 HB1.out
     have s0:=HC2.out w1 HB1.out
     go_wp2_with fail
     go_quiet (fail)
     go_wp2
     exact⟨⟨j+1,by omega,by go_num,by first | exact below_drewN HB1.out nq | exact HB1.out⟩,by simp[intOf];omega⟩
   ·have hlt' : ¬((j:Int)<(xs.length:Int)):=by omega
    have HBR:=hid hbel
    clear hbel
    go_wp2
    go_ret
    exact⟨rfl,HBR.out⟩
end Go.Proofs.YtnidnipiihhnaaaGreatDoor
