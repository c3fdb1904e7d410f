/- Packed for the hand-in: RefJ0 -/
import Derived.Test.YtnidnipiihhnaaaGreatDoorX13
import Derived.Test.YtnidnipiihhnaaaGreatDoorX02
import Derived.Deep.RegionWith
import Derived.Lib.ItoaMem
import Derived.Lib.Strings
namespace Go.Proofs.YtnidnipiihhnaaaGreatDoor
open Go.RowKit Go.Shelf
set_option linter.unusedSimpArgs false
set_option linter.unusedVariables false
set_option maxRecDepth 20000
set_option maxHeartbeats 8000000
theorem right_num (n:Int):rightV ⟨1,n,[]⟩=0:=by
 have:eqv ⟨1,n,[]⟩ (namedV ⟨1,n,[]⟩)=true:=by rw[eqv_iff];rfl
 rw[rightV,if_neg (by rw[this];simp)]
 rfl
theorem right_text (s:List UInt8):rightV ⟨2,0,s⟩=if 40<s.length then 2 else 0:=by
 have:eqv ⟨2,0,s⟩ (namedV ⟨2,0,s⟩)=true:=by rw[eqv_iff];rfl
 rw[rightV,if_neg (by rw[this];simp)]
theorem toNat_ne (c d:UInt8) (h:c≠d):((c.toNat:Int)==(d.toNat:Int))=false:=by
 rw[beq_eq_false_iff_ne]
 intro e
 exact h (UInt8.toNat_inj.1 (by omega))
theorem rightV_no {k n:Int} {s:List UInt8} (h : ¬(k=0∧n=0∧s=[]∨k=1∧s=[]∨k=2∧n=0)):rightV ⟨k,n,s⟩=4:=by
 have : ¬eqv ⟨k,n,s⟩ (namedV ⟨k,n,s⟩)=true:=by
  rw[eqv_iff]
  intro e
  unfold namedV at e
  dsimp only at e
  split at e
  ·simp only[Vl.mk.injEq] at e;exact h (.inr (.inl ⟨e.1,e.2.2⟩))
  ·split at e
   ·simp only[Vl.mk.injEq] at e;exact h (.inr (.inr ⟨e.1,e.2.1⟩))
   ·simp only[Vl.mk.injEq] at e;exact h (.inl e)
 rw[rightV,if_pos (by simpa using this)]
theorem empty_str (s:List UInt8):(str8 s).toList.isEmpty=decide (s=[]):=by
 rw[str8_toList]
 cases s<;>simp
theorem dright_any (k n:Int) (s:List UInt8) (w:World) (hs:s.length≤9223372036854775807) :
  Calls Tryz.prog 119 #[.agg #[.int .i64 k,.int .i64 n,.string (str8 s)]] w fun e w'=>e = .returned (.int .i64 (rightV ⟨k,n,s⟩))∧Below w.heap.size w w':=by
 have hb:Hid (∀(o:Obj),Below w.heap.size w (w.alloc o)):=hid fun o=>(Below.refl _ _).alloc (Nat.le_refl _) _
 have he:=empty_str s
 by_cases hk0:k<0
 ·have hd:=rightV_no (k:=k) (n:=n) (s:=s) (by omega)
  rw[hd]
  have hk0':decide (k<0)=true:=decide_eq_true hk0
  clear hd he
  go_enter Tryz.func119,Tryz.ntmps119
  go_wp2
  go_ret
  exact⟨rfl,hb.out _⟩
 ·have hk0':decide (k<0)=false:=decide_eq_false hk0
  by_cases hk2:2<k
  ·have hd:=rightV_no (k:=k) (n:=n) (s:=s) (by omega)
   rw[hd]
   have hk2':decide (2<k)=true:=decide_eq_true hk2
   clear hd he
   go_enter Tryz.func119,Tryz.ntmps119
   go_wp2
   go_ret
   exact⟨rfl,hb.out _⟩
  ·obtain rfl | rfl | rfl:k=0∨k=1∨k=2:=by omega
   ·clear hk0 hk0' hk2
    by_cases hn:n=0
    ·subst hn
     by_cases hs0:s=[]
     ·subst hs0
      rw[show rightV ⟨0,0,[]⟩=0 from rfl,show str8 []=⟨#[]⟩ from rfl]
      clear he
      go_enter Tryz.func119,Tryz.ntmps119
      go_wp2
      go_ret
      exact⟨rfl,hb.out _⟩
     ·rw[rightV_no (k:=0) (n:=0) (s:=s) (by simp[hs0])]
      rw[decide_eq_false hs0] at he
      go_enter Tryz.func119,Tryz.ntmps119
      go_wp2
      go_ret
      exact⟨rfl,hb.out _⟩
    ·rw[rightV_no (k:=0) (n:=n) (s:=s) (by simp[hn])]
     have hn1:(n==0)=false:=by simpa using hn
     have hn2:(n != 0)=true:=by simpa using hn
     clear he
     go_enter Tryz.func119,Tryz.ntmps119
     go_wp2
     go_ret
     exact⟨rfl,hb.out _⟩
   ·clear hk0 hk0' hk2
    by_cases hs0:s=[]
    ·subst hs0
     rw[right_num,show str8 []=⟨#[]⟩ from rfl]
     clear he
     go_enter Tryz.func119,Tryz.ntmps119
     go_wp2
     go_ret
     exact⟨rfl,hb.out _⟩
    ·rw[rightV_no (k:=1) (n:=n) (s:=s) (by simp[hs0])]
     rw[decide_eq_false hs0] at he
     go_enter Tryz.func119,Tryz.ntmps119
     go_wp2
     go_ret
     exact⟨rfl,hb.out _⟩
   ·clear hk0 hk0' hk2
    by_cases hn:n=0
    ·subst hn
     rw[right_text]
     clear he
     by_cases hl:40<s.length
     ·have hl':(40:Int)<((str8 s).size:Int):=by rw[str8_size];omega
      rw[if_pos hl]
      go_enter Tryz.func119,Tryz.ntmps119
      go_wp2
      go_ret
      exact⟨rfl,hb.out _⟩
     ·have hl' : ¬((40:Int)<((str8 s).size:Int)):=by rw[str8_size];omega
      rw[if_neg hl]
      go_enter Tryz.func119,Tryz.ntmps119
      go_wp2
      go_ret
      exact⟨rfl,hb.out _⟩
    ·rw[rightV_no (k:=2) (n:=n) (s:=s) (by simp[hn])]
     have hn1:(n==0)=false:=by simpa using hn
     have hn2:(n != 0)=true:=by simpa using hn
     clear he
     go_enter Tryz.func119,Tryz.ntmps119
     go_wp2
     go_ret
     exact⟨rfl,hb.out _⟩
theorem conv_one (W:World) (g:Nat) (b:Int) (h0:0≤b) (h1:b≤255) (h:W.cell? ⟨g,0,none⟩=some (.int .u8 b)):(convert 183 9 (.slice (some ⟨g,0,none⟩) 1 1)).run Tryz.prog W = .ok (.string (str8 [UInt8.ofNat b.toNat])) W:=by
 refine run_string_shows (P:=Tryz.prog) (B:=g+1) (bs:=[UInt8.ofNat b.toNat]) 183 5 9 Tryz.underlying183 Tryz.underlying5 Tryz.underlying9 ⟨_,1,rfl,Nat.le_refl _,by decide,(fun e=>by cases e),fun _=>⟨g,0,rfl,by omega,fun j hj=>?_⟩⟩
 have:j=0:=by simp at hj;omega
 subst this
 rw[Nat.zero_add,h]
 simp only[List.getElem?_cons_zero,Option.getD_some]
 refine congrArg (fun x=>some (Value.int .u8 x)) ?_
 rw[UInt8.toNat_ofNat']
 omega
theorem bcell {W w1:World} (hb:Below W.heap.size W w1):(∀b o,b<W.heap.size→w1.cell? ⟨b,o,none⟩=W.cell? ⟨b,o,none⟩):=fun b o h=>hb.cell (p:=⟨b,o,none⟩) h
theorem decDigits_le (u:Nat):(Lib.decDigits u).length≤u+1:=by
 induction u using Nat.strongRecOn with
 |
  _ u ih =>
  rw[Lib.decDigits]
  split
  ·simp
  ·have:=ih (u / 10) (by omega)
   simp
   omega
theorem digits_any : ∀(m:Nat) (n:Int) (w:World),n.toNat=m→0≤n→n≤9223372036854775807 →
  Calls Tryz.prog 170 #[.int .i64 n] w fun e w'=>e = .returned (.string (str8 (Lib.decDigits n.toNat)))∧Below w.heap.size w w':=by
 intro m
 induction m using Nat.strongRecOn with
 |
  _ m ih =>
  intro n w hm h0 h1
  by_cases h10:n<10
  ·have hd:Lib.decDigits n.toNat=[UInt8.ofNat (48+n.toNat)]:=Lib.decDigits_one (by omega)
   rw[hd]
   have hw:IntKind.u8.wrap (48+n)=48+n:=by rw[IntKind.wrap_u8];omega
   have hc:=conv_one (w.alloc (.cells #[.int .u8 (48+n)] 5)) w.heap.size (48+n) (by omega) (by omega) (by simp)
   rw[show (48+n).toNat=48+n.toNat by omega] at hc
   have hb:Hid (Below w.heap.size w (w.alloc (.cells #[.int .u8 (48+n)] 5))):=hid ((Below.refl _ _).alloc (Nat.le_refl _) _)
   clear hd ih hm
   generalize str8 [UInt8.ofNat (48+n.toNat)]=S at *
   go_enter Tryz.func170,Tryz.ntmps170
   go_wp2
   go_ret
   exact⟨rfl,hb.out⟩
  ·obtain⟨q,hq⟩:∃q:Int,n / 10=q:=⟨_,rfl⟩
   obtain⟨r,hr⟩:∃r:Int,n % 10=r:=⟨_,rfl⟩
   have hq0:0≤q:=by omega
   have hr0:0≤r:=by omega
   have hr9:r≤9:=by omega
   have hd:Lib.decDigits n.toNat=Lib.decDigits q.toNat++[UInt8.ofNat (48+r).toNat]:=by
    rw[Lib.decDigits,dif_neg (by omega),show n.toNat / 10=q.toNat by omega,show 48+n.toNat % 10=(48+r).toNat by omega]
   have hdl:=decDigits_le q.toNat
   have HI:=hid (fun w=>ih q.toNat (by omega) q w rfl hq0 (by omega))
   obtain⟨D,hD⟩:∃D,Lib.decDigits q.toNat=D:=⟨_,rfl⟩
   obtain⟨S,hS⟩:∃S,[UInt8.ofNat (48+r).toNat]=S:=⟨_,rfl⟩
   have hSl:S.length=1:=by rw[← hS];rfl
   have hadd : ∀w,(Op.stringOp .add (str8 D) (str8 S)).run Tryz.prog w = .ok (.string (str8 (D++S))) w:=fun w=>by
    rw[run_string_add_sum w _ _ (by rw[str8_size,str8_size,hSl,← hD];omega),str8_add]
   rw[hd,hD,hS]
   rw[hD] at HI
   have hw:IntKind.u8.wrap (48+r)=48+r:=by rw[IntKind.wrap_u8];omega
   have hc : ∀(W:World) (g:Nat),W.cell? ⟨g,0,none⟩=some (.int .u8 (48+r))→(convert 183 9 (.slice (some ⟨g,0,none⟩) 1 1)).run Tryz.prog W = .ok (.string (str8 S)) W:=fun W g h=>by
    rw[← hS]
    exact conv_one W g (48+r) (by omega) (by omega) h
   have hb10 : ¬n<10:=h10
   have hq1:IntKind.i64.wrap (n.tdiv 10)=q:=by rw[Int.tdiv_eq_ediv_of_nonneg h0,hq,IntKind.wrap_i64];omega
   have hr1:n.tmod 10=r:=by rw[Int.tmod_eq_emod_of_nonneg h0,hr]
   have hw1:IntKind.i64.wrap (48+r)=48+r:=by rw[IntKind.wrap_i64];omega
   have hd0:Hid (Below w.heap.size w w.drew):=hid (below_drewN (Below.refl _ _) 1)
   clear hq hr
   clear hd ih hm hD hS hSl hdl
   go_enter Tryz.func170,Tryz.ntmps170
   go_wp2_with fail
   go_region_with (go_at_call 170;refine (HI.out _).mono ?_;rintro e w2 ⟨rfl,hb2⟩;have hcl:=bcell hb2)
   all_goals (
    have HB2:=hid hb2
    clear hb2
    go_wp2
    go_ret
    refine ⟨rfl,?_⟩
    first
     | exact ((hd0.out.trans HB2.out).alloc (hd0.out.trans HB2.out).size _)
     | exact ((hd0.out.alloc hd0.out.size (.cells #[.int .u8 (48+r)] 5)).trans (HB2.out.mono (hd0.out.alloc hd0.out.size (.cells #[.int .u8 (48+r)] 5)).size)))
theorem digits_nat (u:Nat) (w:World) (n:Int) (hn:n=(u:Int)) (h1:n≤9223372036854775807) :
  Calls Tryz.prog 170 #[.int .i64 n] w fun e w'=>e = .returned (.string (str8 (Lib.decDigits u)))∧Below w.heap.size w w':=by
 have:=digits_any n.toNat n w rfl (by omega) h1
 rwa [show n.toNat=u by omega] at this
theorem dnumber_any (n:Int) (w:World) (h0 : -9223372036854775808≤n) (h1:n≤9223372036854775807) :
  Calls Tryz.prog 126 #[.int .i64 n] w fun e w'=>e = .returned (.string (str8 (Lib.itoa n)))∧Below w.heap.size w w':=by
 by_cases hn:0≤n
 ·have hd:Lib.itoa n=Lib.decDigits n.toNat:=by unfold Lib.itoa;rw[if_neg (by omega)]
  have HD:=hid (digits_nat n.toNat w n (by omega) h1)
  rw[hd]
  generalize Lib.decDigits n.toNat=D at *
  clear hd
  have hn':decide (n<0)=false:=decide_eq_false (by omega)
  go_enter Tryz.func126,Tryz.ntmps126
  go_wp2_with fail
  refine HD.out.mono ?_
  rintro e w2 ⟨rfl,hb2⟩
  go_wp2
  go_ret
  exact⟨rfl,hb2⟩
 ·have hdl:=decDigits_le n.natAbs
  by_cases h10 : -10<n
  ·have hd:Lib.itoa n=45::Lib.decDigits n.natAbs:=by unfold Lib.itoa;rw[if_pos (by omega)]
   have HD:=hid (digits_nat n.natAbs w (-n) (by omega) (by omega))
   rw[hd]
   obtain⟨D,hD⟩:∃D,Lib.decDigits n.natAbs=D:=⟨_,rfl⟩
   rw[hD] at HD hdl ⊢
   have ha : ∀w,(Op.stringOp .add ⟨#[45]⟩ (str8 D)).run Tryz.prog w = .ok (.string (str8 (45::D))) w:=fun w=>by
    rw[run_string_add_sum w _ _ (by rw[str8_size];show 1+D.length≤_;omega)]
    exact congrArg (fun x=>Result.ok (Value.string x) w) (str8_add [45] D)
   clear hd hD hdl
   go_enter Tryz.func126,Tryz.ntmps126
   go_wp2_with fail
   refine HD.out.mono ?_
   rintro e w2 ⟨rfl,hb2⟩
   go_wp2
   go_ret
   exact⟨rfl,hb2⟩
  ·obtain⟨u,hu⟩:∃u:Nat,n = -(u:Int):=⟨n.natAbs,by omega⟩
   have hd:Lib.itoa n=45::(Lib.decDigits (u / 10)++Lib.decDigits (u % 10)):=by
    unfold Lib.itoa
    rw[if_pos (by omega),show n.natAbs=u by omega,Lib.decDigits,dif_neg (by omega),Lib.decDigits_one (show u % 10<10 by omega)]
   have t1:n.tdiv 10 = -((u / 10:Nat):Int):=by rw[hu,Int.neg_tdiv,Int.tdiv_eq_ediv_of_nonneg (by omega)];rfl
   have t2:n.tmod 10 = -((u % 10:Nat):Int):=by rw[hu,Int.neg_tmod,Int.tmod_eq_emod_of_nonneg (by omega)];rfl
   obtain⟨q,hq⟩:∃q:Int,((u / 10:Nat):Int)=q:=⟨_,rfl⟩
   obtain⟨r,hr⟩:∃r:Int,((u % 10:Nat):Int)=r:=⟨_,rfl⟩
   have hd1:=decDigits_le (u / 10)
   have hd2:=decDigits_le (u % 10)
   have HD:=hid (fun w=>digits_nat (u / 10) w q hq.symm (by omega))
   have HE:=hid (fun w=>digits_nat (u % 10) w r hr.symm (by omega))
   have hq0:0≤q:=by omega
   have hqm:q≤922337203685477580:=by omega
   have hr0:0≤r:=by omega
   have hrm:r≤9:=by omega
   rw[hq] at t1
   rw[hr] at t2
   rw[hd]
   obtain⟨D,hD⟩:∃D,Lib.decDigits (u / 10)=D:=⟨_,rfl⟩
   obtain⟨E,hE⟩:∃E,Lib.decDigits (u % 10)=E:=⟨_,rfl⟩
   rw[hD] at HD hd1 ⊢
   rw[hE] at HE hd2 ⊢
   have ha : ∀w,(Op.stringOp .add ⟨#[45]⟩ (str8 D)).run Tryz.prog w = .ok (.string (str8 (45::D))) w:=fun w=>by
    rw[run_string_add_sum w _ _ (by rw[str8_size];show 1+D.length≤_;omega)]
    exact congrArg (fun x=>Result.ok (Value.string x) w) (str8_add [45] D)
   have hb : ∀w,(Op.stringOp .add (str8 (45::D)) (str8 E)).run Tryz.prog w = .ok (.string (str8 (45::(D++E)))) w:=fun w=>by
    rw[run_string_add_sum w _ _ (by rw[str8_size,str8_size];show D.length+1+E.length≤_;omega)]
    exact congrArg (fun x=>Result.ok (Value.string x) w) (str8_add (45::D) E)
   have t3:n.tdiv 10 = -q:=t1
   have t4:wrap64 (-q) = -q:=by simp only[wrap64];omega
   have h10':decide (-10<n)=false:=decide_eq_false h10
   have hn0:n≤-10:=by omega
   clear hd hD hE hd1 hd2 hdl hu hq hr t1 h10
   go_enter Tryz.func126,Tryz.ntmps126
   go_wp2_with fail
   refine (HD.out _).mono ?_
   rintro e w2 ⟨rfl,hb2⟩
   go_wp2_with fail
   refine (HE.out _).mono ?_
   rintro e w3 ⟨rfl,hb3⟩
   go_wp2
   go_ret
   exact⟨rfl,hb2.trans (hb3.mono hb2.size)⟩
theorem dbl_take (s:List UInt8) (k:Nat) (h:k<s.length):dbl (s.take (k+1))=dbl (s.take k)++(if s[k]=39 then [39,39] else [s[k]]):=by
 rw[List.take_succ_eq_append_getElem h,dbl_append]
 simp[dbl]
theorem dbl_take_le (s:List UInt8) (k:Nat):(dbl (s.take k)).length≤2*s.length:=by
 have:=dbl_le (s.take k)
 simp at this
 omega
set_option maxRecDepth 100000 in
theorem dliteral_any (k n:Int) (s:List UInt8) (w:World) (h0 : -9223372036854775808≤n) (h1:n≤9223372036854775807) (hs:s.length≤1048576) :
  Calls Tryz.prog 127 #[.agg #[.int .i64 k,.int .i64 n,.string (str8 s)]] w fun e w'=>e = .returned (.string (str8 (litV ⟨k,n,s⟩)))∧Below w.heap.size w w':=by
 obtain⟨W,hW,hbW,hzW,hcW⟩:=box3 w (.int .i64 k) (.int .i64 n) (.string (str8 s)) 23
 have c0:=hcW W (Below.refl _ _)
 have HI:=hid (dnumber_any n W h0 h1)
 have HB:=hid hbW
 clear hcW hbW
 by_cases hk1:k=1
 ·have hd:litV ⟨k,n,s⟩=Lib.itoa n:=by rw[litV,if_pos hk1]
  rw[hd]
  clear hd
  subst hk1
  go_enter Tryz.func127,Tryz.ntmps127
  go_wp2_with fail
  refine HI.out.mono ?_
  rintro e w1 ⟨rfl,hb1⟩
  go_wp2
  go_ret
  exact⟨rfl,HB.out.trans (hb1.mono HB.out.size)⟩
 ·have hk1':(k==1)=false:=by simpa using hk1
  by_cases hk2:k=2
  ·have hd:litV ⟨k,n,s⟩=[39]++(dbl s++[39]):=by rw[litV,if_neg hk1,if_pos hk2]
   rw[hd]
   clear hd HI
   subst hk2
   have hsz:(str8 s).size=s.length:=rfl
   have HSZ:=hid hsz
   go_enter Tryz.func127,Tryz.ntmps127
   go_wp2_with fail
   go_loopw [3,4] (fun u i wr=>∃(j:Nat),j≤s.length∧i = .int .i64 j∧u = .string (str8 (39::dbl (s.take j)))∧wr=W) (fun _ i _=>s.length-(intOf i).toNat)
   case atStart=>exact⟨0,Nat.zero_le _,rfl,rfl,rfl⟩
   case round =>
    obtain⟨j,hj,rfl,rfl,rfl⟩:=hrel
    have hdl:=dbl_take_le s j
    by_cases hlt:j<s.length
    ·have hlt':((j:Int)<((str8 s).size:Int)):=by rw[HSZ.out];omega
     have hsl : ∀w,(Instr.slice 9 (.string (str8 s)) (some (.int .i64 (j:Int))) (some (.int .i64 ((j:Int)+1))) none).run Tryz.prog w = .ok (.string (str8 [s[j]])) w:=fun w=>by
      rw[run_slice_string w 9 (str8 s) .i64 .i64 _ _ Tryz.underlying9 (by omega) (by omega) (by rw[HSZ.out];omega)]
      refine congrArg (fun x=>Result.ok (Value.string x) w) ?_
      apply ByteArray.ext
      apply Array.ext'
      rw[show ((j:Int)).toNat=j by omega,show ((j:Int)+1).toNat=j+1 by omega,Lib.extract_data]
      show (s.drop j).take (j+1-j)=[s[j]]
      rw[List.drop_eq_getElem_cons hlt,show j+1-j=1 by omega]
      rfl
     have hix : ∀w,(Instr.index 9 (.string (str8 s)) (.int .i64 (j:Int))).run Tryz.prog w = .ok (.int .u8 ((s[j]).toNat:Int)) w:=fun w=>by
      rw[run_index_string w 9 (str8 s) .i64 _ Tryz.underlying9,dif_pos ⟨by omega,hlt'⟩]
      rfl
     have hdt:=dbl_take s j hlt
     obtain⟨c,hc⟩:∃c,s[j]=c:=⟨_,rfl⟩
     rw[hc] at hsl hix hdt
     obtain⟨D,hD⟩:∃D,dbl (s.take j)=D:=⟨_,rfl⟩
     rw[hD] at hdl hdt ⊢
     clear hc hD
     by_cases h39:c=39
     ·subst h39
      rw[if_pos rfl] at hdt
      have HDT:=hid hdt
      have a1 : ∀w,(Op.stringOp .add (str8 (39::D)) ⟨#[39]⟩).run Tryz.prog w = .ok (.string (str8 (39::(D++[39])))) w:=fun w=>by
       rw[run_string_add_sum w _ _ (by rw[str8_size];show D.length+1+1≤_;omega)]
       exact congrArg (fun x=>Result.ok (Value.string x) w) (str8_add (39::D) [39])
      have a2 : ∀w,(Op.stringOp .add (str8 (39::(D++[39]))) (str8 [39])).run Tryz.prog w = .ok (.string (str8 (39::(D++[39,39])))) w:=fun w=>by
       rw[run_string_add_sum w _ _ (by rw[str8_size,str8_size];simp;omega),str8_add]
       simp
      clear hdt hdl
      go_wp2
      go_roundw
      case rel=>exact⟨j+1,by omega,by go_num,by rw[HDT.out],by trivial⟩
      case measure=>simp[intOf];omega
     ·rw[if_neg h39] at hdt
      have HDT:=hid hdt
      have hc39:=toNat_ne c 39 h39
      simp only[show ((39:UInt8).toNat:Int)=39 from rfl] at hc39
      have a2 : ∀w,(Op.stringOp .add (str8 (39::D)) (str8 [c])).run Tryz.prog w = .ok (.string (str8 (39::(D++[c])))) w:=fun w=>by
       rw[run_string_add_sum w _ _ (by rw[str8_size,str8_size];simp;omega),str8_add]
       simp
      clear hdt hdl
      go_wp2
      go_roundw
      case rel=>exact⟨j+1,by omega,by go_num,by rw[HDT.out],by trivial⟩
      case measure=>simp[intOf];omega
    ·have hlt' : ¬((j:Int)<((str8 s).size:Int)):=by rw[HSZ.out];omega
     have HT:Hid (s.take j=s):=hid (List.take_of_length_le (by omega))
     rw[HT.out] at hdl ⊢
     obtain⟨D,hD⟩:∃D,dbl s=D:=⟨_,rfl⟩
     rw[hD] at hdl ⊢
     have HD:=hid hD
     have a1 : ∀w,(Op.stringOp .add (str8 (39::D)) ⟨#[39]⟩).run Tryz.prog w = .ok (.string (str8 (39::(D++[39])))) w:=fun w=>by
      rw[run_string_add_sum w _ _ (by rw[str8_size];show D.length+1+1≤_;omega)]
      exact congrArg (fun x=>Result.ok (Value.string x) w) (str8_add (39::D) [39])
     clear hD hdl
     go_wp2
     go_ret
     exact⟨by rw[HD.out];rfl,HB.out⟩
  ·have hk2':(k==2)=false:=by simpa using hk2
   have hk3':(k != 2)=true:=by simpa using hk2
   have hd:litV ⟨k,n,s⟩=[78,85,76,76]:=by rw[litV,if_neg hk1,if_neg hk2]
   rw[hd]
   clear hd
   go_enter Tryz.func127,Tryz.ntmps127
   go_wp2
   go_ret
   exact⟨rfl,HB.out⟩
end Go.Proofs.YtnidnipiihhnaaaGreatDoor
