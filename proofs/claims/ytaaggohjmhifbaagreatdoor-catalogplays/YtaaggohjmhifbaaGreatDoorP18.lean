/- Packed for the hand-in: WLev WExpr WWrite WHeld -/
import Derived.Test.YtaaggohjmhifbaaGreatDoorP17
import Derived.Test.YtaaggohjmhifbaaGreatDoorP01
import Derived.OrdersHeld
import Derived.Deep.Quiet
import Derived.BigQuiet
namespace Go.Proofs.YtaaggohjmhifbaaGreatDoor
open Go.RowKit Go.Shelf
set_option linter.unusedSimpArgs false
set_option linter.unusedVariables false
set_option maxRecDepth 20000
set_option maxHeartbeats 8000000
def Cells8 (w:World) (b off:Nat) (k op:Int) (tb nm:List UInt8) (vk vn:Int) (vs:List UInt8) (a:Value):Prop :=
 w.cell? ⟨b,off,none⟩=some (.int .i64 k)∧w.cell? ⟨b,off+1,none⟩=some (.int .i64 op)∧w.cell? ⟨b,off+2,none⟩=some (.string (str8 tb))∧w.cell? ⟨b,off+3,none⟩=some (.string (str8 nm)) ∧
  w.cell? ⟨b,off+4,none⟩=some (.int .i64 vk)∧w.cell? ⟨b,off+5,none⟩=some (.int .i64 vn)∧w.cell? ⟨b,off+6,none⟩=some (.string (str8 vs))∧w.cell? ⟨b,off+7,none⟩=some a
theorem Cells8.on {w w':World} {b off:Nat} {k op:Int} {tb nm:List UInt8} {vk vn:Int} {vs:List UInt8} {a:Value} (h:Cells8 w b off k op tb nm vk vn vs a) {R:Nat→Prop} (hk:Spares R w w') (hb : ¬R b):Cells8 w' b off k op tb nm vk vn vs a:=by
 obtain⟨c0,c1,c2,c3,c4,c5,c6,c7⟩:=h
 exact⟨hk.cell c0 hb,hk.cell c1 hb,hk.cell c2 hb,hk.cell c3 hb,hk.cell c4 hb,hk.cell c5 hb,hk.cell c6 hb,hk.cell c7 hb⟩
theorem Cells8.lt {w:World} {b off:Nat} {k op:Int} {tb nm:List UInt8} {vk vn:Int} {vs:List UInt8} {a:Value} (h:Cells8 w b off k op tb nm vk vn vs a):b<w.heap.size:=World.block_lt_of_cell? w _ h.1
theorem Cells8.new {w w':World} {b off:Nat} {k op:Int} {tb nm:List UInt8} {vk vn:Int} {vs:List UInt8} {a:Value} (h:Cells8 w b off k op tb nm vk vn vs a) (hb:Below w.heap.size w w'):Cells8 w' b off k op tb nm vk vn vs a:=h.on (Spares.of_new (S:=fun _=>False) hb) id
theorem WrAt.setD {w:World} {g:Nat} {tb:Option Nat} {L:List Tk} {d m:Int} (h:WrAt w g tb L d m) (d':Int):∃V,w.setCell ⟨g,1,none⟩ (.int .i64 d')=V∧WrAt V g tb L d' m∧FrW g tb w V:=by
 obtain⟨v,hv,ho,hb⟩:=h.lie
 have hf:FrW g tb w (w.setCell ⟨g,1,none⟩ (.int .i64 d')):=Spares.setCell (Spares.refl _ _) (.inl (.inl rfl)) _
 refine ⟨_,rfl,⟨⟨v,?_,ownsRow_setCell_below ho (Nat.lt_succ_self g) _,hb⟩,h.tab.below (h.frBelow hf) h.big,h.big⟩,hf⟩
 rw[setCell_eq_setRow w g 1 _ _ _ _ hv,setRow_heap w g _ _ _ _ hv]
 rfl
theorem WrAt.cells {w:World} {g:Nat} {tb:Option Nat} {L:List Tk} {d m:Int} (h:WrAt w g tb L d m):∃va vb vc,w.cell? ⟨g,0,none⟩=some (.slice va vb vc)∧w.cell? ⟨g,1,none⟩=some (.int .i64 d)∧w.cell? ⟨g,2,none⟩=some (.int .i64 m)∧∀i,w.frozen? ⟨g,i,none⟩=false:=by
 obtain⟨v,hv,ho,_⟩:=h.lie
 obtain⟨va,vb,vc,rfl⟩:∃va vb vc,v = .slice va vb vc:=by
  rcases ho.2 with⟨rfl,_⟩ | ⟨_,_,_,rfl,_⟩
  ·exact⟨_,_,_,rfl⟩
  ·exact⟨_,_,_,rfl⟩
 exact⟨va,vb,vc,cells3W hv⟩
theorem ExV.mk' {S:Nat→Prop} {w:World} {x:Ex} {k op:Int} {tb nm:List UInt8} {vk vn:Int} {vs:List UInt8} {ys:List Ex} {aa:Option Addr} {nn cc:Nat} (he:x = .mk k op tb nm ⟨vk,vn,vs⟩ ys) (ha:ArgsAt S w ys (.slice aa nn cc)):ExV S w x (.agg #[.int .i64 k,.int .i64 op,.string (str8 tb),.string (str8 nm),.int .i64 vk,.int .i64 vn,.string (str8 vs),.slice aa nn cc]) :=
 ⟨k,op,tb,nm,vk,vn,vs,ys,aa,nn,cc,he,rfl,ha⟩
theorem joinW_any (B n:Nat) (v:Value) (ps:List (List UInt8)) (w:World) (hown:w.ownsRow B 9 1 v n (scs ps)) (hl : ∀p∈ps,p.length≤100) (hn:ps.length≤10000000) :
  Calls Tryz.prog 173 #[v,.string ⟨#[32]⟩] w fun e w'=>e = .returned (.string (str8 (Lib.join ps [32])))∧Below w.heap.size w w':=by
 have hlen:n=ps.length:=by have:=hown.1;simp[scs] at this;omega
 subst hlen
 have hj:=join_le ps hl
 have hc:=hown
 rcases hown.2 with⟨rfl,hz⟩ | ⟨g,cap,cur,rfl,hb,hg,hnc,hcm,hcs,ht⟩
 ·obtain rfl:ps=[]:=List.eq_nil_of_length_eq_zero hz
  have:=Any.strings_Join_none laysJo extraR none 0 ⟨#[32]⟩ w
  rw[numL.2.2.2.2.2.2.2.2.2] at this
  exact this.mono fun e w' ⟨he,hw⟩=>⟨he,hw ▸ Below.refl _ _⟩
 ·have k:=hc.cells (g:=g) rfl
  have hm:(ps.map str8).map (·.data.toList)=ps:=by
   rw[List.map_map]
   conv=>rhs;rw[← List.map_id ps]
   apply List.map_congr_left
   intro x _
   rfl
  have:=Any.strings_Join laysJo extraR g 0 cap (ps.map str8) ⟨#[32]⟩ w (fun j x hx=>by
   have:=k j (.string x) (by
    rw[List.getElem?_map] at hx
    simp only[scs,List.getElem?_map]
    cases hp:ps[j]? with
    | none=>rw[hp] at hx;cases hx
    | some l=>rw[hp] at hx;simp at hx;simp[hx])
   rwa [Addr.add_lit] at this) (Array.getElem?_eq_some_iff.1 hg).1 (by rw[List.length_map];omega) (by rw[List.length_map];exact hnc) (by
    rw[hm]
    show (Lib.join ps [32]).length≤_
    omega)
  rw[numL.2.2.2.2.2.2.2.2.2,hm,List.length_map] at this
  exact this
theorem writtenW_any (k n p:Int) (s:List UInt8) (w:World) (hT:TabW w) (hs:s.length≤40) (hn0:0≤n) (hn1:n≤9223372036854775807) :
  Calls Tryz.prog 172 #[.agg #[.int .i64 k,.string (str8 s),.int .i64 n,.int .i64 p]] w fun e w'=>e = .returned (.string (str8 (wr ⟨k,s,n,p⟩)))∧Below w.heap.size w w':=by
 obtain⟨W,hW,hbW,hzW,hcW⟩:=box4 w (.int .i64 k) (.string (str8 s)) (.int .i64 n) (.int .i64 p) 162
 have g0:=cells4 (hcW W (Below.refl _ _))
 have HI:=hid (itoa_any n W (hT.on hbW).tv (by omega) hn1)
 have HL:=hid (literal_any 2 0 s W (hT.on hbW).tv (by decide) (by decide) (by omega))
 have HB:=hid hbW
 clear hcW hbW hT
 by_cases h3:k=3
 ·have hd:wr ⟨k,s,n,p⟩=Lib.itoa n:=by rw[wr,if_pos h3]
  rw[hd]
  clear hd
  subst h3
  go_enter Tryz.func172,Tryz.ntmps172
  go_wp2_with fail
  refine HI.out.mono ?_
  rintro e w1 ⟨rfl,hb1⟩
  go_wp2
  go_ret
  exact⟨rfl,HB.out.trans (hb1.mono HB.out.size)⟩
 ·have h3':(k==3)=false:=by simpa using h3
  by_cases h4:k=4
  ·have hd:wr ⟨k,s,n,p⟩=litV ⟨2,0,s⟩:=by rw[wr,if_neg h3,if_pos h4];rfl
   rw[hd]
   clear hd
   subst h4
   go_enter Tryz.func172,Tryz.ntmps172
   go_wp2_with fail
   refine HL.out.mono ?_
   rintro e w1 ⟨rfl,hb1⟩
   go_wp2
   go_ret
   exact⟨rfl,HB.out.trans (hb1.mono HB.out.size)⟩
  ·have h4':(k==4)=false:=by simpa using h4
   have hd:wr ⟨k,s,n,p⟩=s:=by rw[wr,if_neg h3,if_neg h4]
   rw[hd]
   clear hd
   go_enter Tryz.func172,Tryz.ntmps172
   go_wp2
   go_ret
   exact⟨rfl,HB.out⟩
theorem writeW_any (B:Nat) (v:Value) (l:List Tk) (w:World) (hT:TabW w) (hB:B≤w.heap.size) (hv:Toks B w v l) (hok : ∀t∈l,OkT t) (hn:l.length≤10000000) :
  Calls Tryz.prog 106 #[v] w fun e w'=>e = .returned (.string (str8 (Lib.join (wrs l) [32])))∧Below w.heap.size w w':=by
 obtain⟨i0,hi,hz0,hz1,hz2⟩:=info_parts Tryz.infoStr
 obtain⟨a,c,rfl,h1,h2,h3⟩:=id hv
 unfold maxLen at h2
 have HV:=hid hv
 have HT:=hid hT
 have HOK:=hid hok
 have hwl : ∀k,∀p∈wrs (l.take k),p.length≤100:=fun k p hp=>by
  unfold wrs at hp
  obtain⟨t,ht,rfl⟩:=List.mem_map.1 hp
  exact wr_le (hok t (List.mem_of_mem_take (List.mem_filter.1 ht).1))
 have HWL:=hid hwl
 clear hwl h3 hv hT hok
 obtain⟨S,hS⟩:∃S,str8 (Lib.join (wrs l) [32])=S:=⟨_,rfl⟩
 rw[hS]
 have HS:=hid hS
 clear hS
 go_enter Tryz.func106,Tryz.ntmps106
 go_wp2_with fail
 go_loopw [3,8] (fun u i wr=>∃k:Nat,k≤l.length∧i = .int .i64 k∧wr.ownsRow w.heap.size 9 1 u (wrs (l.take k)).length (scs (wrs (l.take k)))∧Below w.heap.size w wr) (fun _ i _=>l.length-(intOf i).toNat)
 case atStart=>exact⟨0,Nat.zero_le _,rfl,World.ownsRow_nil _ _ _ _,Below.refl _ _⟩
 case round =>
  obtain⟨k,hk,rfl,hown,hbel⟩:=hrel
  have hszr:=hbel.size
  have hwl2:=wrs_len (l.take k)
  rw[List.length_take] at hwl2
  by_cases hlt:k<l.length
  ·obtain⟨x,hx⟩:∃x,l[k]?=some x:=⟨_,List.getElem?_eq_getElem hlt⟩
   obtain⟨a',c',hv',_,_,h3⟩:=HV.out.below (hbel.mono hB)
   simp only[Value.slice.injEq] at hv'
   obtain⟨rfl,_,rfl⟩:=hv'
   obtain⟨b,off,rfl,hbB,hcell⟩:=h3 (by intro e;rw[e] at hlt;simp at hlt)
   obtain⟨c0,c1,c2,c3⟩:=hcell k x hx
   have ht:=take_snocL l k x hx
   have hws:=wrs_snoc (l.take k) x
   rw[← ht] at hws
   obtain⟨o1,o2,o3⟩:=HOK.out x (List.mem_of_getElem? hx)
   obtain⟨xk,xs,xn,xp⟩:=x
   dsimp only at c0 c1 c2 c3 hws o1 o2 o3
   clear h3 hcell ht hx
   by_cases h6:xk=6
   ·rw[if_pos h6] at hws
    have HW2:=hid hws
    subst h6
    have hown2:=hid (hown.alloc (.cells #[.int .i64 6,.string (str8 xs),.int .i64 xn,.int .i64 xp] 162))
    have hbel2:=hid (hbel.alloc hszr (.cells #[.int .i64 6,.string (str8 xs),.int .i64 xn,.int .i64 xp] 162))
    clear hws hown
    go_wp2
    go_roundw
    case rel=>exact⟨k+1,by omega,by go_num,by rw[HW2.out];exact hown2.out,hbel2.out⟩
    case measure=>simp[intOf];omega
   ·rw[if_neg h6] at hws
    have HW2:=hid hws
    have h6':(xk != 6)=true:=by rw[bne_iff_ne];exact h6
    obtain⟨W,hW,hbW,hzW,hcW⟩:=box4 wr (.int .i64 xk) (.string (str8 xs)) (.int .i64 xn) (.int .i64 xp) 162
    have g0:=cells4 (hcW W (Below.refl _ _))
    have hownW:=hown.alloc (.cells #[.int .i64 xk,.string (str8 xs),.int .i64 xn,.int .i64 xp] 162)
    rw[hW] at hownW
    have hbelW:=hbel.trans (hbW.mono hszr)
    have HWR:=hid (writtenW_any xk xn xp xs W (HT.out.on hbelW) o1 o2 o3)
    generalize Go.Proofs.YtaaggohjmhifbaaGreatDoor.wr ⟨xk,xs,xn,xp⟩=tx at HWR HW2
    generalize hPS:wrs (l.take k)=PS at *
    clear hPS hws hown hcW h6
    go_wp2_with fail
    try rw[hW]
    clear hW
    refine HWR.out.mono ?_
    rintro e w2 ⟨rfl,hb2⟩
    have hown2:=owns_onL hownW hb2
    have hbel2:=hbelW.trans (hb2.mono hbelW.size)
    have hown22:=hown2.alloc (.cells #[.string (str8 tx)] 9)
    have hbel22:=hbel2.alloc hbel2.size (.cells #[.string (str8 tx)] 9)
    have HSA:=hid hbel22.size
    have HB22:=hid hbel22
    obtain⟨va,vcap,hvf⟩:∃va vcap,u3 = .slice va PS.length vcap:=by
     rcases hown2.2 with⟨rfl,hn⟩ | ⟨g,cap,cur,rfl,_⟩
     ·exact⟨_,_,by rw[hn]⟩
     ·exact⟨_,_,rfl⟩
    subst hvf
    have HL:=hid (fun q hq=>(hown22.lt q hq).1 : ∀q,(Value.slice va PS.length vcap).ownBlock=some q→w.heap.size≤q)
    have hnew : ∀(j:Nat) (u:Value),[Value.string (str8 tx)][j]?=some u→(w2.alloc (.cells #[.string (str8 tx)] 9)).cell? ((⟨w2.heap.size,0,none⟩:Addr).add j)=some u:=by
     intro j u hj
     match j,hj with
     | 0,hj=>simp at hj;subst hj;simp[Addr.add]
    have hone : ∀u∈[Value.string (str8 tx)],u.oneCell'=true:=by intro u hu;simp at hu;rw[hu];rfl
    clear hb2 hownW hbelW HWR hown2 hbel2 hbel22
    go_wp2_with (first
     | (at_builtin;refine wpList_append_own _ rfl (.tmp 15) (.tmp 18) 112 rfl w.heap.size 9 i0 (.string ⟨#[]⟩) 1 16 Tryz.underlying112 hi hz0 hz1 hz2 rfl (by decide) _ _ _ rfl hown22 ⟨w2.heap.size,0,none⟩ 1 1 [.string (str8 tx)] rfl rfl hnew hone (by unfold maxLen;omega) (by omega) HSA.out ?_;intro v3 w3 hown3 hg3 _)
     | fail)
    have HB3:Hid (Below w.heap.size w w3):=hid (HB22.out.grown hg3 HSA.out HL.out)
    go_roundw
    case rel =>
     refine ⟨k+1,by omega,by go_num,?_,HB3.out⟩
     rw[HW2.out,List.length_append,show scs (PS++[tx])=scs PS++[.string (str8 tx)] from by simp[scs]]
     exact hown3
    case measure=>simp[intOf];omega
  ·have hkl:k=l.length:=by omega
   have htk:l.take k=l:=List.take_of_length_le (by omega)
   have hwl3:=HWL.out k
   rw[htk] at hown hwl3 hwl2
   have HJ:=hid (joinW_any _ _ _ _ wr hown hwl3 (by omega))
   have hjl:=join_le (wrs l) hwl3
   have HC:=hid (fun w=>strClone_any (str8 (Lib.join (wrs l) [32])) w (by rw[str8_size];omega))
   rw[HS.out] at HJ HC
   clear hown hwl3 htk hjl
   go_wp2_with fail
   refine HJ.out.mono ?_
   rintro e w2 ⟨rfl,hb2⟩
   have hbel2:=hbel.trans (hb2.mono hszr)
   go_wp2_with fail
   refine (HC.out _).mono ?_
   rintro e w3 ⟨rfl,hb3⟩
   have HB3:=hid (hbel2.trans (hb3.mono hbel2.size))
   go_wp2
   go_ret
   exact⟨rfl,HB3.out⟩
end Go.Proofs.YtaaggohjmhifbaaGreatDoor
namespace Go.Proofs.YtaaggohjmhifbaaGreatDoor
open Go.RowKit
set_option linter.unusedSimpArgs false
set_option linter.unusedVariables false
set_option maxRecDepth 20000
set_option maxHeartbeats 8000000
section
variable {P : Program} {md : Region.Mode} {ops : Array Oper} {Q : Exit → Act → World → Prop} {S : World → Prop} {k0 : Nat}
def wpAnyE (P:Program) (md:Region.Mode) (ops:Array Oper) (Q:Exit→Act→World→Prop) (S:World→Prop) (k0:Nat):Nat→Array Bool→Act→World→Prop
 | 0,listed,a,w=>Region.ready md ops listed=[]∧Q .normal a w
 |
  fuel+1,listed,a,w =>
  (Region.ready md ops listed=[]→Q .normal a w) ∧
  ∀i∈Region.ready md ops listed,wpOp P ops Q i (fun a' w'=>(S w'∨i=k0)∧wpAnyE P md ops Q S k0 fuel (listed.setIfInBounds i true) a' w') a w
theorem wpAny_of_E : ∀(fuel:Nat) (listed:Array Bool) (a:Act) (w:World),wpAnyE P md ops Q S k0 fuel listed a w→wpAny P md ops Q fuel listed a w
 | 0,_,_,_,h=>h
 | fuel+1,_,_,_,h=>⟨h.1,fun i hi=>wpOp_mono (fun a' w' h'=>wpAny_of_E fuel _ a' w' h'.2) (h.2 i hi)⟩
def Legal (md:Region.Mode) (ops:Array Oper) (listed:Array Bool):Prop :=
 ∀j oj,ops[j]?=some oj→listed.getD j false=true→∀e∈oj.after,Region.binds md e=true→listed.getD e.on false=true
def legalB (md:Region.Mode) (ops:Array Oper) (listed:Array Bool):Bool :=
 (List.range ops.size).all fun j=>!listed.getD j false||((ops[j]?).map (·.after.all fun e=>!Region.binds md e||listed.getD e.on false)).getD true
theorem legalB_spec {listed:Array Bool} (h:legalB md ops listed=true):Legal md ops listed:=fun j oj hj hl e he hb=>by
 simp only[legalB,List.all_eq_true,List.mem_range] at h
 have h1:=h j (Array.getElem?_eq_some_iff.1 hj).1
 simp only[hj,hl,Option.map_some,Option.getD_some,Bool.not_true,Bool.false_or,Array.all_eq_true_iff_forall_mem,Bool.or_eq_true,Bool.not_eq_true'] at h1
 rcases h1 e he with h2 | h2
 ·rw[h2] at hb;cases hb
 ·exact h2
theorem Legal.step {listed:Array Bool} {j:Nat} (h:Legal md ops listed) (hj:j∈Region.ready md ops listed):Legal md ops (listed.setIfInBounds j true):=fun k ok hk hl e he hb=>by
 by_cases hjk:j=k
 ·subst hjk
  obtain⟨_,o,ho,hall⟩:=mem_ready.1 hj
  rw[ho] at hk
  cases hk
  exact getD_set_true (hall e he hb)
 ·rw[getD_set_ne false hjk] at hl
  exact getD_set_true (h k ok hk hl e he hb)
def leadsB (md:Region.Mode) (ops:Array Oper):Nat→Nat→Nat→Bool
 | 0,_,_=>false
 | f+1,k,i=>((ops[k]?).map (·.after.any fun e=>Region.binds md e&&(e.on==i||leadsB md ops f e.on i))).getD false
theorem leads_listed {listed:Array Bool} (hL:Legal md ops listed) (i:Nat):∀(f k:Nat),leadsB md ops f k i=true→listed.getD k false=true→listed.getD i false=true
 | 0,k,h,_=>by cases h
 |
  f+1,k,h,hk=>by
  unfold leadsB at h
  cases ho:ops[k]? with
  | none=>rw[ho] at h;cases h
  |
   some o =>
   rw[ho] at h
   simp only[Option.map_some,Option.getD_some] at h
   obtain⟨e,he,hb⟩:=Array.any_eq_true'.1 h
   simp only[Bool.and_eq_true,Bool.or_eq_true,beq_iff_eq] at hb
   have h1:=hL k o ho hk e he hb.1
   rcases hb.2 with h2 | h2
   ·rw[h2] at h1;exact h1
   ·exact leads_listed hL i f e.on h2 h1
theorem leads_ready {listed:Array Bool} (hL:Legal md ops listed) {i f:Nat} (h:leadsB md ops f k0 i=true) (hr:k0∈Region.ready md ops listed):listed.getD i false=true:=by
 have h1:=leads_listed (hL.step hr) i f k0 h (by
  have h0:=(mem_ready.1 hr).1
  have hlt:k0<listed.size:=by
   rcases Nat.lt_or_ge k0 listed.size with h' | h'
   ·exact h'
   ·simp[Array.getElem?_eq_none h'] at h0
  simp[hlt])
 by_cases hik:k0=i
 ·subst hik
  exfalso
  cases f with
  | zero=>cases h
  |
   succ f =>
   have hh : ∀(f k:Nat),leadsB md ops f k k0=true→(∀o,ops[k]?=some o→∀e∈o.after,Region.binds md e=true→listed.getD e.on false=true)→listed.getD k0 false=true:=by
    intro f
    induction f with
    | zero=>intro k h _;cases h
    |
     succ f ih =>
     intro k h hk
     unfold leadsB at h
     cases ho:ops[k]? with
     | none=>rw[ho] at h;cases h
     |
      some o =>
      rw[ho] at h
      simp only[Option.map_some,Option.getD_some] at h
      obtain⟨e,he,hb⟩:=Array.any_eq_true'.1 h
      simp only[Bool.and_eq_true,Bool.or_eq_true,beq_iff_eq] at hb
      have h1:=hk o ho e he hb.1
      rcases hb.2 with h2 | h2
      ·rw[h2] at h1;exact h1
      ·exact ih e.on h2 (fun o' ho' e' he' hb'=>hL e.on o' ho' h1 e' he' hb')
   obtain⟨h0,o,ho,hall⟩:=mem_ready.1 hr
   have h2:=hh (f+1) k0 h (fun o' ho'=>by rw[ho] at ho';cases ho';exact hall)
   rcases Nat.lt_or_ge k0 listed.size with h' | h'
   ·simp[h'] at h0 h2;rw[h0] at h2;cases h2
   ·simp[Array.getElem?_eq_none h'] at h2
 ·rw[getD_set_ne false hik] at h1
  exact h1
theorem wpAnyE_first {i:Nat} {oi:Oper} {v:Value} {f:Nat} (hi:ops[i]?=some oi) (hsel : ∀(j:Nat) (o:Oper) cs b,ops[j]?=some o→o.op≠.select cs b) (hlead:leadsB md ops f k0 i=true)
  (hQ : ∀c a w,Q (.panic c) (a.put oi.dst v) w→Q (.panic c) a w) :
  ∀
   (fuel:Nat) (listed:Array Bool) (a:Act) (w:World),Legal md ops listed →
   (∀j oj,ops[j]?=some oj→j≠i→listed.getD j true=false→(∀e∈oj.after,Region.binds md e=true→e.on≠i)→oi.apart ops oj=true) →
   i∈Region.ready md ops listed→YieldsIf P ops S oi v a→S w →
   wpAnyE P md ops Q S k0 fuel (listed.setIfInBounds i true) (a.put oi.dst v) w→wpAnyE P md ops Q S k0 (fuel+1) listed a w:=by
 intro fuel
 induction fuel with
 |
  zero =>
  intro listed a w _ _ hr hy hS H
  refine ⟨fun h=>(by rw[h] at hr;cases hr),fun j hj=>?_⟩
  by_cases hji:j=i
  ·subst hji;exact hy.wpOp hi hS ⟨.inl hS,H⟩
  ·have:=ready_mono hj hji
   rw[H.1] at this
   cases this
 |
  succ fuel ih =>
  intro listed a w hleg hfree hr hy hS H
  refine ⟨fun h=>(by rw[h] at hr;cases hr),fun j hj=>?_⟩
  by_cases hji:j=i
  ·subst hji;exact hy.wpOp hi hS ⟨.inl hS,H⟩
  ·have h1:=H.2 j (ready_mono hj hji)
   have hjk:j≠k0:=fun e=>by
    subst e
    have h2:=leads_ready hleg hlead hj
    have h0:=(mem_ready.1 hr).1
    rcases Nat.lt_or_ge i listed.size with h' | h'
    ·simp[h'] at h0 h2;rw[h0] at h2;cases h2
    ·simp[Array.getElem?_eq_none h'] at h2
   obtain⟨hjun,oj,hoj,hall⟩:=mem_ready.1 hj
   have hnot : ∀e∈oj.after,Region.binds md e=true→e.on≠i:=fun e he hb heq=>by
    have h1:=hall e he hb
    have h0:=(mem_ready.1 hr).1
    rw[heq] at h1
    rcases Nat.lt_or_ge i listed.size with h' | h'
    ·simp[h'] at h0 h1;rw[h0] at h1;cases h1
    ·simp[Array.getElem?_eq_none h'] at h1
   have h2:=wpOp_putIf hoj (hfree j oj hoj hji hjun hnot) (fun cs b=>hsel i oi cs b hi) (fun cs b=>hsel j oj cs b hoj) hQ hy h1
   have hfree' : ∀k ok,ops[k]?=some ok→k≠i→(listed.setIfInBounds j true).getD k true=false →
     (∀e∈ok.after,Region.binds md e=true→e.on≠i)→oi.apart ops ok=true:=fun k ok hk hki hun hno=>by
    refine hfree k ok hk hki ?_ hno
    by_cases hjk:j=k
    ·subst hjk;exact hjun
    ·rw[getD_set_ne true hjk] at hun;exact hun
   refine wpOp_mono (fun a' w' h3=>?_) h2
   have hS3:S w':=h3.2.1.resolve_right hjk
   refine ⟨.inl hS3,ih (listed.setIfInBounds j true) a' w' (hleg.step hj) hfree' (ready_mono hr (Ne.symm hji)) h3.1 hS3 ?_⟩
   rw[Array.setIfInBounds_comm _ _ hji]
   exact h3.2.2
theorem wpAnyE_take {i:Nat} {oi:Oper} {v:Value} {fuel:Nat} {listed:Array Bool} {a:Act} {w:World} (hi:ops[i]?=some oi)
  (hs:Region.noSelect ops=true) (hf:Region.free md ops listed i=true) (hr:(Region.ready md ops listed).contains i=true) (hl:legalB md ops listed=true) (hlead:leadsB md ops 40 k0 i=true)
  (hQ : ∀c a w,Q (.panic c) (a.put oi.dst v) w→Q (.panic c) a w) (hy:YieldsIf P ops S oi v a) (hS:S w)
  (h:wpAnyE P md ops Q S k0 fuel (listed.setIfInBounds i true) (a.put oi.dst v) w):wpAnyE P md ops Q S k0 (fuel+1) listed a w :=
 wpAnyE_first hi (Region.noSelect_spec hs) hlead hQ fuel listed a w (legalB_spec hl) (Region.free_spec hi hf) (by simpa using hr) hy hS h
theorem wpAnyE_all {rs:List Nat} {fuel:Nat} {listed:Array Bool} {a:Act} {w:World} (hr:Region.ready md ops listed=rs) (hne:rs≠[])
  (h : ∀i∈rs,wpOp P ops Q i (fun a' w'=>(S w'∨i=k0)∧wpAnyE P md ops Q S k0 fuel (listed.setIfInBounds i true) a' w') a w):wpAnyE P md ops Q S k0 (fuel+1) listed a w :=
 ⟨fun h0=>absurd (hr ▸ h0) hne,hr ▸ h⟩
theorem wpAnyE_done {listed:Array Bool} {a:Act} {w:World} (hr:Region.ready md ops listed=[]) (h:Q .normal a w) :
  ∀fuel,wpAnyE P md ops Q S k0 fuel listed a w
 | 0=>⟨hr,h⟩
 | _+1=>⟨fun _=>h,by rw[hr];simp⟩
end
section
variable {P : Program} {md : Region.Mode} {ops : Array Oper} {Q : Exit → Act → World → Prop} {S : World → Prop} {fuel : Nat} {listed : Array Bool} {a : Act} {w : World} {i k0 : Nat} {oi : Oper}
theorem takeE_one (hr:Region.ready md ops listed=[i]) (hi:ops[i]?=some oi) (gi:oi.guard=none)
  (h:oi.wp P a w (fun a' w'=>(S w'∨i=k0)∧wpAnyE P md ops Q S k0 fuel (listed.setIfInBounds i true) a' w') Q):wpAnyE P md ops Q S k0 (fuel+1) listed a w:=by
 refine wpAnyE_all hr (by simp) fun k hk=>?_
 simp only[List.mem_cons,List.not_mem_nil,or_false] at hk
 subst hk
 unfold wpOp
 simp only[hi,show Region.wanted oi (yielded ops a.tmps)=true by simp[Region.wanted,gi],if_true]
 exact .inl h
theorem takeE_value {v:Value} {w':World} (hr:Region.ready md ops listed=[i]) (hi:ops[i]?=some oi) (gi:oi.guard=none) (hrun:(execOp a.eval oi).run P w = .ok (.value v) w') (hS:S w')
  (h:wpAnyE P md ops Q S k0 fuel (listed.setIfInBounds i true) (a.put oi.dst v) w'):wpAnyE P md ops Q S k0 (fuel+1) listed a w :=
 takeE_one hr hi gi (by
  unfold Oper.wp
  rw[hrun]
  exact⟨.inl hS,h⟩)
def Only (Q:Exit→Act→World→Prop):Exit→Act→World→Prop
 | .normal,a,w=>Q .normal a w
 | _,_,_=>False
theorem last_region {id:Nat} (S:World→Prop) (k0:Nat) (hm:P.follows .mixedOrders=true) (h:wpAnyE P .any ops (Only Q) S k0 ops.size (Array.replicate ops.size false) a w.drew):(Code.region id ops true).wp P Q a w :=
 wp_mono (wp_region_any hm (wpAny_of_E _ _ _ _ h)) (fun e a w h=>by cases e<;>first | exact h | exact h.elim)
theorem takeE_skip (hr:Region.ready md ops listed=[i]) (hi:ops[i]?=some oi) (hw:Region.wanted oi (yielded ops a.tmps)=false) (hS:S w)
  (h:wpAnyE P md ops Q S k0 fuel (listed.setIfInBounds i true) (a.put oi.dst undef) w):wpAnyE P md ops Q S k0 (fuel+1) listed a w:=by
 refine wpAnyE_all hr (by simp) fun k hk=>?_
 simp only[List.mem_cons,List.not_mem_nil,or_false] at hk
 subst hk
 unfold wpOp
 simp only[hi,hw,Bool.false_eq_true,if_false]
 exact⟨.inl hS,h⟩
theorem takeE_callw {f:FuncId} {xs:Array Operand} {ts:Array TypeId} (args:Array Value) (R:Value→World→Prop) (hr:Region.ready md ops listed=[i]) (hi:ops[i]?=some oi) (hw:Region.wanted oi (yielded ops a.tmps)=true)
  (ki:oi.op = .call { callee:=.value (.func f),args:=xs,argTypes:=ts }) (ea:xs.map a.eval=args) (ef : ∀args w,(callFunc f args).run P w = .ok (.enter f args) w)
  (hc:Calls P f args w fun e w'=>∃v,e = .returned v∧R v w')
  (h : ∀v w',R v w'→S w'∧wpAnyE P md ops Q S k0 fuel (listed.setIfInBounds i true) (a.put oi.dst v) w'):wpAnyE P md ops Q S k0 (fuel+1) listed a w:=by
 refine wpAnyE_all hr (by simp) fun k hk=>?_
 simp only[List.mem_cons,List.not_mem_nil,or_false] at hk
 subst hk
 unfold wpOp
 simp only[hi,hw,if_true]
 refine .inl ?_
 unfold Oper.wp execOp
 simp only[ki,resolve,ea,Act.eval,Deferred.ofValue,invoke,Sem.run_bind,Sem.run_pure,Result.andThen_ok,Array.append_empty,Array.empty_append,ef]
 exact hc.mono fun e w' ⟨v,he,hR⟩=>by subst he;exact⟨.inl (h v w' hR).1,(h v w' hR).2⟩
theorem takeE_callv {f:FuncId} {x:Operand} {lb:Array Value} {xs:Array Operand} {ts:Array TypeId} (args:Array Value) (R:Value→World→Prop) (hr:Region.ready md ops listed=[i]) (hi:ops[i]?=some oi) (hw:Region.wanted oi (yielded ops a.tmps)=true)
  (ki:oi.op = .call { callee:=.value x,args:=xs,argTypes:=ts }) (ex:a.eval x = .func (.func f) #[] lb) (ea:xs.map a.eval=args) (ef : ∀args w,(callFunc f args).run P w = .ok (.enter f args) w)
  (hc:Calls P f (args++lb) w fun e w'=>∃v,e = .returned v∧R v w')
  (h : ∀v w',R v w'→S w'∧wpAnyE P md ops Q S k0 fuel (listed.setIfInBounds i true) (a.put oi.dst v) w'):wpAnyE P md ops Q S k0 (fuel+1) listed a w:=by
 refine wpAnyE_all hr (by simp) fun k hk=>?_
 simp only[List.mem_cons,List.not_mem_nil,or_false] at hk
 subst hk
 unfold wpOp
 simp only[hi,hw,if_true]
 refine .inl ?_
 unfold Oper.wp execOp
 simp only[ki,resolve,ea,ex,Deferred.ofValue,invoke,Sem.run_bind,Sem.run_pure,Result.andThen_ok,Array.append_empty,Array.empty_append,ef]
 exact hc.mono fun e w' ⟨v,he,hR⟩=>by subst he;exact⟨.inl (h v w' hR).1,(h v w' hR).2⟩
end
end Go.Proofs.YtaaggohjmhifbaaGreatDoor
