import Derived.Test.YtfeglkleoijlaaaGreatDoorY01
import Derived.OrdersHeld
import Derived.Deep.Quiet
import Derived.BigQuiet
import Derived.Test.YtfeglkleoijlaaaGreatDoorY05
import Derived.Deep.RegionHeld3
namespace Go.Proofs.YtfeglkleoijlaaaGreatDoor
open Go.RowKit
set_option linter.unusedSimpArgs false
set_option linter.unusedVariables false
set_option maxRecDepth 20000
set_option maxHeartbeats 8000000
section
variable {P : Program} {md : Region.Mode} {ops : Array Oper} {Q : Exit → Act → World → Prop} {S : World → Prop} {k0 : Nat}
def dK (P:Program) (md:Region.Mode) (ops:Array Oper) (Q:Exit→Act→World→Prop) (S:World→Prop) (k0:Nat):Nat→Array Bool→Act→World→Prop
 | 0,listed,a,w=>Region.ready md ops listed=[]∧Q .normal a w
 |
  fuel+1,listed,a,w =>
  (Region.ready md ops listed=[]→Q .normal a w) ∧
  ∀i∈Region.ready md ops listed,wpOp P ops Q i (fun a' w'=>(S w'∨i=k0)∧dK P md ops Q S k0 fuel (listed.setIfInBounds i true) a' w') a w
theorem yj : ∀(fuel:Nat) (listed:Array Bool) (a:Act) (w:World),dK P md ops Q S k0 fuel listed a w→wpAny P md ops Q fuel listed a w
 | 0,_,_,_,h=>h
 | fuel+1,_,_,_,h=>⟨h.1,fun i hi=>wpOp_mono (fun a' w' h'=>yj fuel _ a' w' h'.2) (h.2 i hi)⟩
def Legal (md:Region.Mode) (ops:Array Oper) (listed:Array Bool):Prop :=
 ∀j oj,ops[j]?=some oj→listed.getD j false=true→∀e∈oj.after,Region.binds md e=true→listed.getD e.on false=true
def tX (md:Region.Mode) (ops:Array Oper) (listed:Array Bool):Bool :=
 (List.range ops.size).all fun j=>!listed.getD j false||((ops[j]?).map (·.after.all fun e=>!Region.binds md e||listed.getD e.on false)).getD true
theorem vo {listed:Array Bool} (h:tX md ops listed=true):Legal md ops listed:=fun j oj hj hl e he hb=>by
 simp only[tX,List.all_eq_true,List.mem_range] at h
 have h1:=h j (Array.getElem?_eq_some_iff.1 hj).1
 simp only[hj,hl,Option.map_some,Option.getD_some,Bool.not_true,Bool.false_or,Array.all_eq_true_iff_forall_mem,Bool.or_eq_true,Bool.not_eq_true'] at h1
 rcases h1 e he with h2 | h2
 ·rw[h2] at hb;cases hb
 ·exact h2
theorem Legal.step {listed:Array Bool} {j:Nat} (h:Legal md ops listed) (hj:j∈Region.ready md ops listed):Legal md ops (listed.setIfInBounds j true):=fun k ok hk hl e he hb=>by
 by_cases hjk:j=k
 ·subst hjk
  obtain⟨_,o,ho,hall⟩:=mem_ready.1 hj
  rw[ho] at hk
  cases hk
  exact getD_set_true (hall e he hb)
 ·rw[getD_set_ne false hjk] at hl
  exact getD_set_true (h k ok hk hl e he hb)
def lq (md:Region.Mode) (ops:Array Oper):Nat→Nat→Nat→Bool
 | 0,_,_=>false
 | f+1,k,i=>((ops[k]?).map (·.after.any fun e=>Region.binds md e&&(e.on==i||lq md ops f e.on i))).getD false
theorem sJ {listed:Array Bool} (hL:Legal md ops listed) (i:Nat):∀(f k:Nat),lq md ops f k i=true→listed.getD k false=true→listed.getD i false=true
 | 0,k,h,_=>by cases h
 |
  f+1,k,h,hk=>by
  unfold lq at h
  cases ho:ops[k]? with
  | none=>rw[ho] at h;cases h
  |
   some o =>
   rw[ho] at h
   simp only[Option.map_some,Option.getD_some] at h
   obtain⟨e,he,hb⟩:=Array.any_eq_true'.1 h
   simp only[aaC,Bool.or_eq_true,beq_iff_eq] at hb
   have h1:=hL k o ho hk e he hb.1
   rcases hb.2 with h2 | h2
   ·rw[h2] at h1;exact h1
   ·exact sJ hL i f e.on h2 h1
theorem vM {listed:Array Bool} (hL:Legal md ops listed) {i f:Nat} (h:lq md ops f k0 i=true) (hr:k0∈Region.ready md ops listed):listed.getD i false=true:=by
 have h1:=sJ (hL.step hr) i f k0 h (by
  have h0:=(mem_ready.1 hr).1
  have hlt:k0<listed.size:=by
   rcases Nat.lt_or_ge k0 listed.size with h' | h'
   ·exact h'
   ·simp[Array.getElem?_eq_none h'] at h0
  simp[hlt])
 by_cases hik:k0=i
 ·subst hik
  exfalso
  cases f with
  | zero=>cases h
  |
   succ f =>
   have hh : ∀(f k:Nat),lq md ops f k k0=true→(∀o,ops[k]?=some o→∀e∈o.after,Region.binds md e=true→listed.getD e.on false=true)→listed.getD k0 false=true:=by
    intro f
    induction f with
    | zero=>intro k h _;cases h
    |
     succ f ih =>
     intro k h hk
     unfold lq at h
     cases ho:ops[k]? with
     | none=>rw[ho] at h;cases h
     |
      some o =>
      rw[ho] at h
      simp only[Option.map_some,Option.getD_some] at h
      obtain⟨e,he,hb⟩:=Array.any_eq_true'.1 h
      simp only[aaC,Bool.or_eq_true,beq_iff_eq] at hb
      have h1:=hk o ho e he hb.1
      rcases hb.2 with h2 | h2
      ·rw[h2] at h1;exact h1
      ·exact ih e.on h2 (fun o' ho' e' he' hb'=>hL e.on o' ho' h1 e' he' hb')
   obtain⟨h0,o,ho,hall⟩:=mem_ready.1 hr
   have h2:=hh (f+1) k0 h (fun o' ho'=>by rw[ho] at ho';cases ho';exact hall)
   rcases Nat.lt_or_ge k0 listed.size with h' | h'
   ·simp[h'] at h0 h2;rw[h0] at h2;cases h2
   ·simp[Array.getElem?_eq_none h'] at h2
 ·rw[getD_set_ne false hik] at h1
  exact h1
theorem Bf {i:Nat} {oi:Oper} {v:Value} {f:Nat} (hi:ops[i]?=some oi) (hsel : ∀(j:Nat) (o:Oper) cs b,ops[j]?=some o→o.op≠.select cs b) (hlead:lq md ops f k0 i=true)
  (hQ : ∀c a w,Q (.panic c) (a.put oi.dst v) w→Q (.panic c) a w) :
  ∀
   (fuel:Nat) (listed:Array Bool) (a:Act) (w:World),Legal md ops listed →
   (∀j oj,ops[j]?=some oj→j≠i→listed.getD j true=false→(∀e∈oj.after,Region.binds md e=true→e.on≠i)→oi.apart ops oj=true) →
   i∈Region.ready md ops listed→YieldsIf P ops S oi v a→S w →
   dK P md ops Q S k0 fuel (listed.setIfInBounds i true) (a.put oi.dst v) w→dK P md ops Q S k0 (fuel+1) listed a w:=by
 intro fuel
 induction fuel with
 |
  zero =>
  intro listed a w _ _ hr hy hS H
  refine ⟨fun h=>(by rw[h] at hr;cases hr),fun j hj=>?_⟩
  by_cases hji:j=i
  ·subst hji;exact hy.wpOp hi hS ⟨.inl hS,H⟩
  ·have:=ready_mono hj hji
   rw[H.1] at this
   cases this
 |
  succ fuel ih =>
  intro listed a w OD hfree hr hy hS H
  refine ⟨fun h=>(by rw[h] at hr;cases hr),fun j hj=>?_⟩
  by_cases hji:j=i
  ·subst hji;exact hy.wpOp hi hS ⟨.inl hS,H⟩
  ·have h1:=H.2 j (ready_mono hj hji)
   have hjk:j≠k0:=fun e=>by
    subst e
    have h2:=vM OD hlead hj
    have h0:=(mem_ready.1 hr).1
    rcases Nat.lt_or_ge i listed.size with h' | h'
    ·simp[h'] at h0 h2;rw[h0] at h2;cases h2
    ·simp[Array.getElem?_eq_none h'] at h2
   obtain⟨hjun,oj,hoj,hall⟩:=mem_ready.1 hj
   have hnot : ∀e∈oj.after,Region.binds md e=true→e.on≠i:=fun e he hb heq=>by
    have h1:=hall e he hb
    have h0:=(mem_ready.1 hr).1
    rw[heq] at h1
    rcases Nat.lt_or_ge i listed.size with h' | h'
    ·simp[h'] at h0 h1;rw[h0] at h1;cases h1
    ·simp[Array.getElem?_eq_none h'] at h1
   have h2:=wpOp_putIf hoj (hfree j oj hoj hji hjun hnot) (fun cs b=>hsel i oi cs b hi) (fun cs b=>hsel j oj cs b hoj) hQ hy h1
   have hfree' : ∀k ok,ops[k]?=some ok→k≠i→(listed.setIfInBounds j true).getD k true=false →
     (∀e∈ok.after,Region.binds md e=true→e.on≠i)→oi.apart ops ok=true:=fun k ok hk hki hun hno=>by
    refine hfree k ok hk hki ?_ hno
    by_cases hjk:j=k
    ·subst hjk;exact hjun
    ·rw[getD_set_ne true hjk] at hun;exact hun
   refine wpOp_mono (fun a' w' h3=>?_) h2
   have JE:S w':=h3.2.1.resolve_right hjk
   refine ⟨.inl JE,ih (listed.setIfInBounds j true) a' w' (OD.step hj) hfree' (ready_mono hr (Ne.symm hji)) h3.1 JE ?_⟩
   rw[Array.setIfInBounds_comm _ _ hji]
   exact h3.2.2
theorem bK {i:Nat} {oi:Oper} {v:Value} {fuel:Nat} {listed:Array Bool} {a:Act} {w:World} (hi:ops[i]?=some oi)
  (hs:Region.noSelect ops=true) (hf:Region.free md ops listed i=true) (hr:(Region.ready md ops listed).contains i=true) (hl:tX md ops listed=true) (hlead:lq md ops 40 k0 i=true)
  (hQ : ∀c a w,Q (.panic c) (a.put oi.dst v) w→Q (.panic c) a w) (hy:YieldsIf P ops S oi v a) (hS:S w)
  (h:dK P md ops Q S k0 fuel (listed.setIfInBounds i true) (a.put oi.dst v) w):dK P md ops Q S k0 (fuel+1) listed a w :=
 Bf hi (Region.noSelect_spec hs) hlead hQ fuel listed a w (vo hl) (Region.free_spec hi hf) (by simpa using hr) hy hS h
theorem rH {i:Nat} {oi:Oper} {v:Value} {a2:Act} {fuel:Nat} {listed:Array Bool} {a:Act} {w:World} (hi:ops[i]?=some oi) (hS:S w) (h:dK P md ops Q S k0 fuel (listed.setIfInBounds i true) a2 w)
  (hs:Region.noSelect ops=true:=by kernel_rfl) (hf:Region.free md ops listed i=true:=by kernel_rfl) (hr:(Region.ready md ops listed).contains i=true:=by kernel_rfl) (hl:tX md ops listed=true:=by kernel_rfl) (hlead:lq md ops 40 k0 i=true:=by kernel_rfl)
  (hQ : ∀c a w,Q (.panic c) (a.put oi.dst v) w→Q (.panic c) a w:=by exact fun _ _ _ h=>h)
  (hy:YieldsIf P ops S oi v a:=by exact Or.inl ⟨by rfl,by (intro w hSw;(try dsimp only at hSw);(try obtain⟨uo,uN,uH⟩:=hSw);go_simp<;>with_reducible rfl)⟩)
  (hp:a.put oi.dst v=a2:=by (simp only[Act.put,aas,aap,aaq,aag,aaw,aay];rfl)):dK P md ops Q S k0 (fuel+1) listed a w:=by
 subst hp
 exact bK hi hs hf hr hl hlead hQ hy hS h
theorem l7 {rs:List Nat} {fuel:Nat} {listed:Array Bool} {a:Act} {w:World} (hr:Region.ready md ops listed=rs) (hne:rs≠[])
  (h : ∀i∈rs,wpOp P ops Q i (fun a' w'=>(S w'∨i=k0)∧dK P md ops Q S k0 fuel (listed.setIfInBounds i true) a' w') a w):dK P md ops Q S k0 (fuel+1) listed a w :=
 ⟨fun h0=>absurd (hr ▸ h0) hne,hr ▸ h⟩
theorem jg {listed:Array Bool} {a:Act} {w:World} (hr:Region.ready md ops listed=[]) (h:Q .normal a w) :
  ∀fuel,dK P md ops Q S k0 fuel listed a w
 | 0=>⟨hr,h⟩
 | _+1=>⟨fun _=>h,by rw[hr];simp⟩
end
section
variable {P : Program} {md : Region.Mode} {ops : Array Oper} {Q : Exit → Act → World → Prop} {S : World → Prop} {fuel : Nat} {listed : Array Bool} {a : Act} {w : World} {i k0 : Nat} {oi : Oper}
theorem jQ (hr:Region.ready md ops listed=[i]) (hi:ops[i]?=some oi) (gi:oi.guard=none)
  (h:oi.wp P a w (fun a' w'=>(S w'∨i=k0)∧dK P md ops Q S k0 fuel (listed.setIfInBounds i true) a' w') Q):dK P md ops Q S k0 (fuel+1) listed a w:=by
 refine l7 hr (by simp) fun k hk=>?_
 simp only[abg,List.not_mem_nil,or_false] at hk
 subst hk
 unfold wpOp
 simp only[hi,show Region.wanted oi (yielded ops a.tmps)=true by simp[Region.wanted,gi],if_true]
 exact .inl h
theorem EO {v:Value} {w':World} (hr:Region.ready md ops listed=[i]) (hi:ops[i]?=some oi) (gi:oi.guard=none) (hrun:(execOp a.eval oi).run P w = .ok (.value v) w') (hS:S w')
  (h:dK P md ops Q S k0 fuel (listed.setIfInBounds i true) (a.put oi.dst v) w'):dK P md ops Q S k0 (fuel+1) listed a w :=
 jQ hr hi gi (by
  unfold Oper.wp
  rw[hrun]
  exact⟨.inl hS,h⟩)
def Only (Q:Exit→Act→World→Prop):Exit→Act→World→Prop
 | .normal,a,w=>Q .normal a w
 | _,_,_=>False
theorem mW {id:Nat} (S:World→Prop) (k0:Nat) (hm:P.follows .mixedOrders=true) (h:dK P .any ops (Only Q) S k0 ops.size (Array.replicate ops.size false) a w.drew):(Code.region id ops true).wp P Q a w :=
 wp_mono (wp_region_any hm (yj _ _ _ _ h)) (fun e a w h=>by cases e<;>first | exact h | exact h.elim)
theorem xM (hr:Region.ready md ops listed=[i]) (hi:ops[i]?=some oi) (hw:Region.wanted oi (yielded ops a.tmps)=false) (hS:S w)
  (h:dK P md ops Q S k0 fuel (listed.setIfInBounds i true) (a.put oi.dst undef) w):dK P md ops Q S k0 (fuel+1) listed a w:=by
 refine l7 hr (by simp) fun k hk=>?_
 simp only[abg,List.not_mem_nil,or_false] at hk
 subst hk
 unfold wpOp
 simp only[hi,hw,Bool.false_eq_true,if_false]
 exact⟨.inl hS,h⟩
theorem Di {f:FuncId} {xs:Array Operand} {ts:Array TypeId} (args:Array Value) (R:Value→World→Prop) (hr:Region.ready md ops listed=[i]) (hi:ops[i]?=some oi) (hw:Region.wanted oi (yielded ops a.tmps)=true)
  (ki:oi.op = .call { callee:=.value (.func f),args:=xs,argTypes:=ts }) (ea:xs.map a.eval=args) (ef : ∀args w,(callFunc f args).run P w = .ok (.enter f args) w)
  (hc:Calls P f args w fun e w'=>∃v,e = .returned v∧R v w')
  (h : ∀v w',R v w'→S w'∧dK P md ops Q S k0 fuel (listed.setIfInBounds i true) (a.put oi.dst v) w'):dK P md ops Q S k0 (fuel+1) listed a w:=by
 refine l7 hr (by simp) fun k hk=>?_
 simp only[abg,List.not_mem_nil,or_false] at hk
 subst hk
 unfold wpOp
 simp only[hi,hw,if_true]
 refine .inl ?_
 unfold Oper.wp execOp
 simp only[ki,resolve,ea,Act.eval,Deferred.ofValue,invoke,Sem.run_bind,Sem.run_pure,Result.andThen_ok,Array.append_empty,Array.empty_append,ef]
 exact hc.mono fun e w' ⟨v,he,hR⟩=>by subst he;exact⟨.inl (h v w' hR).1,(h v w' hR).2⟩
theorem Em {f:FuncId} {x:Operand} {lb:Array Value} {xs:Array Operand} {ts:Array TypeId} (args:Array Value) (R:Value→World→Prop) (hr:Region.ready md ops listed=[i]) (hi:ops[i]?=some oi) (hw:Region.wanted oi (yielded ops a.tmps)=true)
  (ki:oi.op = .call { callee:=.value x,args:=xs,argTypes:=ts }) (ex:a.eval x = .func (.func f) #[] lb) (ea:xs.map a.eval=args) (ef : ∀args w,(callFunc f args).run P w = .ok (.enter f args) w)
  (hc:Calls P f (args++lb) w fun e w'=>∃v,e = .returned v∧R v w')
  (h : ∀v w',R v w'→S w'∧dK P md ops Q S k0 fuel (listed.setIfInBounds i true) (a.put oi.dst v) w'):dK P md ops Q S k0 (fuel+1) listed a w:=by
 refine l7 hr (by simp) fun k hk=>?_
 simp only[abg,List.not_mem_nil,or_false] at hk
 subst hk
 unfold wpOp
 simp only[hi,hw,if_true]
 refine .inl ?_
 unfold Oper.wp execOp
 simp only[ki,resolve,ea,ex,Deferred.ofValue,invoke,Sem.run_bind,Sem.run_pure,Result.andThen_ok,Array.append_empty,Array.empty_append,ef]
 exact hc.mono fun e w' ⟨v,he,hR⟩=>by subst he;exact⟨.inl (h v w' hR).1,(h v w' hR).2⟩
end
open Go.Shelf
theorem je (s:List UInt8) (w:World) (hs:s.length≤9223372036854775807) :
  Calls Tryz.prog 90 #[.string (aj s)] w fun e w'=>e = .returned (.bool (aU s))∧Below w.heap.size w w':=by
 have hsz:(aj s).size=s.length:=rfl
 have HD:Hid (Below w.heap.size w w.drew):=hid (Below.refl _ w).drew
 by_cases h0:0<s.length
 ·by_cases h16:s.length≤16
  ·obtain⟨c,r,rfl⟩:∃c r,s=c::r:=by
    cases s with
    | nil=>simp at h0
    | cons c r=>exact⟨c,r,rfl⟩
   have hix : ∀W,(Instr.index 9 (.string (aj (c::r))) (.int .i64 0)).run Tryz.prog W = .ok (.int .u8 (c.toNat:Int)) W:=fun W=>BN (c::r) 0 c rfl W
   have HO:Hid (∀w,Calls Tryz.prog 138 #[.string ⟨#[97,98,99,100,101,102,103,104,105,106,107,108,109,110,111,112,113,114,115,116,117,118,119,120,121,122,95]⟩] w fun e w'=>(e = .returned (.func (.func 164) #[] #[.pointer (some ⟨w.heap.size,0,none⟩)])∧yP 164 #[.pointer (some ⟨w.heap.size,0,none⟩)] (dh gZ) w')∧Below w.heap.size w w'):=hid (fun w=>vw gZ w)
   have JJ:Hid (∀w,Calls Tryz.prog 138 #[.string ⟨#[97,98,99,100,101,102,103,104,105,106,107,108,109,110,111,112,113,114,115,116,117,118,119,120,121,122,95,48,49,50,51,52,53,54,55,56,57]⟩] w fun e w'=>(e = .returned (.func (.func 164) #[] #[.pointer (some ⟨w.heap.size,0,none⟩)])∧yP 164 #[.pointer (some ⟨w.heap.size,0,none⟩)] (dh fK) w')∧Below w.heap.size w w'):=hid (fun w=>vw fK w)
   have HW:=hid (fun B w1 hp=>He (c::r) fK B w1 (by omega) hp)
   have hnm:aU (c::r)=(dh gZ c&&((row (dh fK) (c::r):Int)==((aj (c::r)).size:Int))):=by
    unfold aU
    rw[aar h0,aar h16,show (c::r).headD 0=c from rfl,hsz]
    simp only[aaA]
    congr 1
    rw[Bool.eq_iff_iff,aaI,beq_iff_eq]
    omega
   rw[hnm]
   clear hnm
   have hS1:0<(aj (c::r)).size:=by rw[hsz];exact h0
   have hS2:(aj (c::r)).size≤16:=by rw[hsz];exact h16
   generalize aj (c::r)=S at hix HW hS1 hS2 ⊢
   have d1:decide ((0:Int)<(S.size:Int))=true:=aar (by omega)
   have d2:decide ((S.size:Int)≤16)=true:=aar (by omega)
   have d3:decide (0<S.size)=true:=aar hS1
   have d4:decide (S.size≤16)=true:=aar hS2
   clear h0 h16 hsz hs
   cases hl:dh gZ c with
   |
    true =>
    rw[aaA]
    have HL:=hid hl
    clear hl
    generalize row (dh fK) (c::r)=n at HW ⊢
    go_enter Tryz.func90,Tryz.ntmps90
    go_wp2_with fail
    go_region_held3 (fun _=>True) (first | trivial) (first
     | (
      go_at_call 138;refine (HO.out _).mono ?_;rintro e w1 ⟨⟨rfl,hp⟩,hb1⟩
      have Va:=hid (hp w1 c (Below.refl _ _))
      rw[HL.out] at Va
      have HD1:=htr HD hb1
      clear hp hb1)
     | (go_at_call 164;refine Va.out.mono ?_;rintro e w2 ⟨rfl,hw2⟩;rw[hw2])
     | (
      go_at_call 138;refine (JJ.out _).mono ?_;rintro e w3 ⟨⟨rfl,hp⟩,hb3⟩
      have HD3:=htr HD1 hb3
      have HP3:=hid (HW.out _ w3 hp)
      clear hp hb3)
     | (go_at_call 139;refine HP3.out.mono ?_;rintro e w4 ⟨rfl,hw4⟩;rw[hw4]))
    all_goals go_wp2
    all_goals go_ret
    all_goals exact⟨rfl,HD3.out⟩
   |
    false =>
    rw[aaz]
    have HL:=hid hl
    clear hl HW JJ
    go_enter Tryz.func90,Tryz.ntmps90
    go_wp2_with fail
    refine mW (fun _:World=>True) 22 (by kernel_rfl) ?_
    have hT0:True:=trivial
    refine rH (i:=0) rfl (by assumption) ?_
    refine rH (i:=1) rfl (by assumption) ?_
    refine bK (i:=2) (v:=.bool true) rfl (by kernel_rfl) (by kernel_rfl) (by kernel_rfl) (by kernel_rfl) (by kernel_rfl) (fun _ _ _ h=>h) (Or.inl ⟨by rfl,fun W _=>by go_simp<;>simp[d1,d3]⟩) trivial ?_
    simp only[Act.put,aas,aap,aaq,aag,aaw,aay]
    refine rH (i:=3) rfl (by assumption) ?_
    refine rH (i:=4) rfl (by assumption) ?_
    refine rH (i:=5) rfl (by assumption) ?_
    refine bK (i:=6) (v:=.bool true) rfl (by kernel_rfl) (by kernel_rfl) (by kernel_rfl) (by kernel_rfl) (by kernel_rfl) (fun _ _ _ h=>h) (Or.inl ⟨by rfl,fun W _=>by go_simp<;>simp[d2,d4]⟩) trivial ?_
    simp only[Act.put,aas,aap,aaq,aag,aaw,aay]
    refine rH (i:=7) rfl (by assumption) ?_
    refine rH (i:=8) rfl (by assumption) ?_
    refine rH (i:=10) rfl (by assumption) ?_
    refine bK (i:=11) (v:=.int .u8 (c.toNat:Int)) rfl (by kernel_rfl) (by kernel_rfl) (by kernel_rfl) (by kernel_rfl) (by kernel_rfl) (fun _ _ _ h=>h) (Or.inl ⟨by rfl,fun W _=>by go_simp<;>simp[hix]⟩) trivial ?_
    simp only[Act.put,aas,aap,aaq,aag,aaw,aay]
    refine Di (i:=9) #[.string ⟨#[97,98,99,100,101,102,103,104,105,106,107,108,109,110,111,112,113,114,115,116,117,118,119,120,121,122,95]⟩] (fun u w'=>(u=(.func (.func 164) #[] #[.pointer (some ⟨w.drew.heap.size,0,none⟩)])∧yP 164 #[.pointer (some ⟨w.drew.heap.size,0,none⟩)] (dh gZ) w')∧Below w.heap.size w w') (by kernel_rfl) rfl (by rfl) rfl (by kernel_rfl) (enters_of Tryz.func138 (by kernel_rfl) rfl) ((HO.out w.drew).mono fun e w' ⟨⟨h1,h2⟩,h3⟩=>⟨_,h1,⟨rfl,h2⟩,HD.out.trans (h3.mono HD.out.size)⟩) ?_
    rintro _ w1 ⟨⟨rfl,hp⟩,hb1⟩
    refine ⟨trivial,?_⟩
    simp only[Act.put,aas,aap,aaq,aag,aaw,aay]
    have Va:=hp w1 c (Below.refl _ _)
    rw[HL.out] at Va
    refine Em (i:=12) (f:=164) (lb:=#[.pointer (some ⟨w.drew.heap.size,0,none⟩)]) #[.int .u8 (c.toNat:Int)] (fun u w'=>u = .bool false∧w'=w1) (by kernel_rfl) rfl (by rfl) rfl (by kernel_rfl) (by kernel_rfl) (enters_of Tryz.func164 (by kernel_rfl) rfl) (Va.mono fun e w' ⟨h1,h2⟩=>⟨_,h1,rfl,h2⟩) ?_
    rintro _ w2 ⟨rfl,hw2⟩
    obtain rfl:w1=w2:=hw2.symm
    refine ⟨trivial,?_⟩
    simp only[Act.put,aas,aap,aaq,aag,aaw,aay]
    refine rH (i:=13) rfl (by assumption) ?_
    refine rH (i:=14) rfl (by assumption) ?_
    refine bK (i:=15) (v:=undef) rfl (by kernel_rfl) (by kernel_rfl) (by kernel_rfl) (by kernel_rfl) (by kernel_rfl) (fun _ _ _ h=>h) (Or.inr ⟨by rfl,rfl⟩) (by assumption) ?_;(try simp only[Act.put,aas,aap,aaq,aag,aaw,aay])
    refine bK (i:=18) (v:=undef) rfl (by kernel_rfl) (by kernel_rfl) (by kernel_rfl) (by kernel_rfl) (by kernel_rfl) (fun _ _ _ h=>h) (Or.inr ⟨by rfl,rfl⟩) (by assumption) ?_;(try simp only[Act.put,aas,aap,aaq,aag,aaw,aay])
    refine bK (i:=19) (v:=undef) rfl (by kernel_rfl) (by kernel_rfl) (by kernel_rfl) (by kernel_rfl) (by kernel_rfl) (fun _ _ _ h=>h) (Or.inr ⟨by rfl,rfl⟩) (by assumption) ?_;(try simp only[Act.put,aas,aap,aaq,aag,aaw,aay])
    refine xM (i:=16) (by kernel_rfl) rfl (by rfl) trivial ?_
    simp only[Act.put,aas,aap,aaq,aag,aaw,aay]
    refine xM (i:=17) (by kernel_rfl) rfl (by rfl) trivial ?_
    simp only[Act.put,aas,aap,aaq,aag,aaw,aay]
    refine bK (i:=20) (v:=undef) rfl (by kernel_rfl) (by kernel_rfl) (by kernel_rfl) (by kernel_rfl) (by kernel_rfl) (fun _ _ _ h=>h) (Or.inr ⟨by rfl,rfl⟩) (by assumption) ?_;(try simp only[Act.put,aas,aap,aaq,aag,aaw,aay])
    refine rH (i:=21) rfl (by assumption) ?_
    refine EO (i:=22) (v:=.bool false) (by kernel_rfl) rfl rfl (by rfl) trivial ?_
    simp only[Act.put,aas,aap,aaq,aag,aaw,aay]
    refine jg (by kernel_rfl) ?_ _
    show Only _ .normal _ _
    unfold Only
    clear hp Va
    have HB1:=hid hb1
    clear hb1
    go_wp2
    go_ret
    exact⟨rfl,HB1.out⟩
  ·have hnm:aU s=false:=by
    unfold aU
    rw[aaj h16]
    simp
   rw[hnm]
   have hS1:0<(aj s).size:=by rw[hsz];exact h0
   have hS2 : ¬(aj s).size≤16:=by rw[hsz];exact h16
   clear hnm h0 h16 hsz hs
   generalize aj s=S at hS1 hS2 ⊢
   have d1:decide ((0:Int)<(S.size:Int))=true:=aar (by omega)
   have d2:decide ((S.size:Int)≤16)=false:=aaj (by omega)
   have d3:decide (0<S.size)=true:=aar hS1
   have d4:decide (S.size≤16)=false:=aaj hS2
   go_enter Tryz.func90,Tryz.ntmps90
   go_wp2_with fail
   refine wp_region_quiet (C:=fun W'=>Below w.heap.size w W') (by kernel_rfl) (by kernel_rfl) HD.out ?_
   dsimp only
   repeat go_big_quiet_step ((intro _;rfl))
   refine wpQuiet_nil ?_
   intro w3 hD3
   have HD:=hid hD3
   clear hD3
   go_wp2
   go_ret
   exact⟨rfl,HD.out⟩
 ·have hnm:aU s=false:=by
   unfold aU
   rw[aaj h0]
   simp
  rw[hnm]
  have hS1 : ¬0<(aj s).size:=by rw[hsz];exact h0
  clear hnm h0 hsz hs
  generalize aj s=S at hS1 ⊢
  have d1:decide ((0:Int)<(S.size:Int))=false:=aaj (by omega)
  have d3:decide (0<S.size)=false:=aaj hS1
  go_enter Tryz.func90,Tryz.ntmps90
  go_wp2_with fail
  refine wp_region_quiet (C:=fun W'=>Below w.heap.size w W') (by kernel_rfl) (by kernel_rfl) HD.out ?_
  dsimp only
  repeat go_big_quiet_step ((intro _;rfl))
  refine wpQuiet_nil ?_
  intro w3 hD3
  have HD:=hid hD3
  clear hD3
  go_wp2
  go_ret
  exact⟨rfl,HD.out⟩
end Go.Proofs.YtfeglkleoijlaaaGreatDoor
