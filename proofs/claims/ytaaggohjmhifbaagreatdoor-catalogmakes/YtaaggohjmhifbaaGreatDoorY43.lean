/- Packed for the hand-in: RefJ3 -/
import Derived.Test.YtaaggohjmhifbaaGreatDoorY42
namespace Go.Proofs.YtaaggohjmhifbaaGreatDoor
open Go.RowKit Go.Shelf
set_option linter.unusedSimpArgs false
set_option linter.unusedVariables false
set_option maxRecDepth 20000
set_option maxHeartbeats 8000000
theorem JL (w:World) (o1 o2:Obj):Below w.heap.size w ((w.alloc o1).alloc o2):=((Below.refl _ w).alloc (Nat.le_refl _) o1).alloc (by simp) o2
theorem BI (S:Nat→Prop):∀(N:Nat) (x:Ex) (v:Value) (w:World),SizeOf.sizeOf x<N→tH x→pq S w x v →
  Calls Tryz.prog 84 #[v] w fun e w'=>e = .returned (.bool (aK x))∧Below w.heap.size w w':=by
 intro N
 induction N with
 | zero=>intro x v w h;exact absurd h (Nat.not_lt_zero _)
 | succ N ih =>
 intro x v w hN hR hx
 obtain⟨k,op,tb,nm,vk,vn,vs,ys,aa,nn,cc,rfl,rfl,ha⟩:=hx
 obtain⟨_,_,_,_,_,_,r1,r2,r3,r4,r5,rx⟩:=hR
 dsimp only at r1 r2 r3
 obtain⟨a',c',hsl,_⟩:=ha.form
 simp only[Value.slice.injEq] at hsl
 obtain⟨rfl,rfl,rfl⟩:=hsl
 rw[Ec]
 have hlen:ys.length≤9223372036854775807:=by
  obtain⟨_,_,_,he,q1,q2,_⟩:=Cx ha
  simp only[Value.slice.injEq] at he
  obtain⟨_,_,rfl⟩:=he
  unfold maxLen at q2
  omega
 have HA:Hid (∀V,Below w.heap.size w V→Calls Tryz.prog 85 #[.slice aa ys.length cc] V fun e w'=>e = .returned (.bool (ys.all aK))∧Below V.heap.size V w'):=hid (fun V hV=>vL S ys _ V (ha.new hV) (hid (fun y hy u U hU=>ih y u U (by have:=List.sizeOf_lt_of_mem hy;simp at hN;omega) (rx y hy) hU)))
 have hgd:=Tryz.Ap
 have hne : ∀w,(binOp .neq 128 (.agg #[.int .i64 vk,.int .i64 vn,.string (ah vs)]) (.agg #[.int .i64 0,.int .i64 0,.string ⟨#[]⟩])).run Tryz.prog w = .ok (.bool (!eqv ⟨vk,vn,vs⟩ zV)) w:=fun w=>Hg ⟨vk,vn,vs⟩ zV w
 have het:=bE tb
 have hen:=bE nm
 have HVL:=hid (fun V=>uK vk vn vs V r1 r2 r3)
 have HNM:=hid (fun V=>eT nm V r5)
 have HTB:=hid (fun V=>eT tb V r4)
 have HBB:=hid (JL w)
 have hob:(op != 0) = !decide (op=0):=by by_cases h:op=0<;>simp[h]
 unfold aX Dz qW
 rw[pW]
 clear ih rx ha hN r1 r2 r3 r4 r5
 generalize dL ⟨vk,vn,vs⟩=bv at HVL ⊢
 generalize eqv ⟨vk,vn,vs⟩ zV=z at hne ⊢
 generalize aQ nm=bn at HNM ⊢
 generalize aQ tb=bt at HTB ⊢
 generalize ys.all aK=ba at HA ⊢
 generalize decide (tb=[])=t0 at het ⊢
 generalize decide (nm=[])=n0 at hen ⊢
 generalize hoo:decide (op=0)=o0 at hob ⊢
 by_cases hk1:k=1
 ·subst hk1
  rw[if_pos rfl]
  obtain⟨G,hG⟩:∃G,(bv&&(o0&&(t0&&(n0&&(true&&decide (ys.length=0))))))=G:=⟨_,rfl⟩
  rw[hG]
  have HG:=hid hG
  clear hG hoo HNM HTB HA hne
  cases t0 with
  |
   false =>
   have HGF:Hid (G=false):=hid (by rw[← HG.out]<;>simp)
   go_enter Tryz.func84,Tryz.ntmps84
   go_wp2
   go_ret
   exact⟨by rw[HGF.out];rfl,HBB.out _ _⟩
  |
   true =>
   cases n0 with
   |
    false =>
    have HGF:Hid (G=false):=hid (by rw[← HG.out]<;>simp)
    go_enter Tryz.func84,Tryz.ntmps84
    go_wp2
    go_ret
    exact⟨by rw[HGF.out];rfl,HBB.out _ _⟩
   |
    true =>
    cases o0 with
    |
     false =>
     have HGF:Hid (G=false):=hid (by rw[← HG.out]<;>simp)
     go_enter Tryz.func84,Tryz.ntmps84
     go_wp2
     go_ret
     exact⟨by rw[HGF.out];rfl,HBB.out _ _⟩
    |
     true =>
     cases bv with
     |
      false =>
      by_cases hl:ys.length=0
      ·have hl':((ys.length:Int)==0)=true:=by rw[beq_iff_eq];omega
       rw[decide_eq_true hl] at HG
       clear hl
       go_enter Tryz.func84,Tryz.ntmps84
       go_wp2_with fail
       obtain⟨U,hU,hbU,hzU,hcA,hcB⟩:=two w (.cells #[.int .i64 1,.int .i64 op,.string (ah tb),.string (ah nm),.int .i64 vk,.int .i64 vn,.string (ah vs),.slice aa ys.length cc] 130) (.cells #[.int .i64 0,.int .i64 0,.string ⟨#[]⟩] 128)
       rw[hU]
       have HBU:=hid hbU
       have HCA:=hid hcA
       clear hU hbU hcA hcB
       refine (HVL.out U).mono ?_
       rintro e w1 ⟨rfl,hb⟩
       have HBu1:Hid (Below U.heap.size U w1):=hid hb
       have kq1:=aU ((HBu1.out.block w.heap.size (by omega)).trans HCA.out)
       clear hb
       try clear kq0
       go_wp2
       go_ret
       exact⟨by rw[← HG.out]<;>simp,HBU.out.trans (HBu1.out.mono HBU.out.size)⟩
      ·have hl':((ys.length:Int)==0)=false:=by rw[beq_eq_false_iff_ne];omega
       rw[decide_eq_false hl] at HG
       clear hl
       go_enter Tryz.func84,Tryz.ntmps84
       go_wp2_with fail
       obtain⟨U,hU,hbU,hzU,hcA,hcB⟩:=two w (.cells #[.int .i64 1,.int .i64 op,.string (ah tb),.string (ah nm),.int .i64 vk,.int .i64 vn,.string (ah vs),.slice aa ys.length cc] 130) (.cells #[.int .i64 0,.int .i64 0,.string ⟨#[]⟩] 128)
       rw[hU]
       have HBU:=hid hbU
       have HCA:=hid hcA
       clear hU hbU hcA hcB
       refine (HVL.out U).mono ?_
       rintro e w1 ⟨rfl,hb⟩
       have HBu1:Hid (Below U.heap.size U w1):=hid hb
       have kq1:=aU ((HBu1.out.block w.heap.size (by omega)).trans HCA.out)
       clear hb
       try clear kq0
       go_wp2
       go_ret
       exact⟨by rw[← HG.out]<;>simp,HBU.out.trans (HBu1.out.mono HBU.out.size)⟩
     |
      true =>
      by_cases hl:ys.length=0
      ·have hl':((ys.length:Int)==0)=true:=by rw[beq_iff_eq];omega
       rw[decide_eq_true hl] at HG
       clear hl
       go_enter Tryz.func84,Tryz.ntmps84
       go_wp2_with fail
       obtain⟨U,hU,hbU,hzU,hcA,hcB⟩:=two w (.cells #[.int .i64 1,.int .i64 op,.string (ah tb),.string (ah nm),.int .i64 vk,.int .i64 vn,.string (ah vs),.slice aa ys.length cc] 130) (.cells #[.int .i64 0,.int .i64 0,.string ⟨#[]⟩] 128)
       rw[hU]
       have HBU:=hid hbU
       have HCA:=hid hcA
       clear hU hbU hcA hcB
       refine (HVL.out U).mono ?_
       rintro e w1 ⟨rfl,hb⟩
       have HBu1:Hid (Below U.heap.size U w1):=hid hb
       have kq1:=aU ((HBu1.out.block w.heap.size (by omega)).trans HCA.out)
       clear hb
       try clear kq0
       go_wp2
       go_ret
       exact⟨by rw[← HG.out]<;>simp,HBU.out.trans (HBu1.out.mono HBU.out.size)⟩
      ·have hl':((ys.length:Int)==0)=false:=by rw[beq_eq_false_iff_ne];omega
       rw[decide_eq_false hl] at HG
       clear hl
       go_enter Tryz.func84,Tryz.ntmps84
       go_wp2_with fail
       obtain⟨U,hU,hbU,hzU,hcA,hcB⟩:=two w (.cells #[.int .i64 1,.int .i64 op,.string (ah tb),.string (ah nm),.int .i64 vk,.int .i64 vn,.string (ah vs),.slice aa ys.length cc] 130) (.cells #[.int .i64 0,.int .i64 0,.string ⟨#[]⟩] 128)
       rw[hU]
       have HBU:=hid hbU
       have HCA:=hid hcA
       clear hU hbU hcA hcB
       refine (HVL.out U).mono ?_
       rintro e w1 ⟨rfl,hb⟩
       have HBu1:Hid (Below U.heap.size U w1):=hid hb
       have kq1:=aU ((HBu1.out.block w.heap.size (by omega)).trans HCA.out)
       clear hb
       try clear kq0
       go_wp2
       go_ret
       exact⟨by rw[← HG.out]<;>simp,HBU.out.trans (HBu1.out.mono HBU.out.size)⟩
 ·rw[if_neg hk1]
  have hk1':(k==1)=false:=by simpa using hk1
  have hk1'':(k != 1)=true:=by simpa using hk1
  by_cases hk2:k=2
  ·subst hk2
   rw[if_pos rfl]
   obtain⟨G,hG⟩:∃G,((bn&&(t0||bt))&&(o0&&(decide (([]:List UInt8)=[])&&(decide (([]:List UInt8)=[])&&(z&&decide (ys.length=0))))))=G:=⟨_,rfl⟩
   rw[hG]
   have HG:=hid hG
   clear hG hoo HVL HA hk1 hk1' hk1''
   cases z with
   |
    false =>
    have HGF:Hid (G=false):=hid (by rw[← HG.out]<;>simp)
    go_enter Tryz.func84,Tryz.ntmps84
    go_wp2
    go_ret
    exact⟨by rw[HGF.out];rfl,HBB.out _ _⟩
   |
    true =>
    cases o0 with
    |
     false =>
     have HGF:Hid (G=false):=hid (by rw[← HG.out]<;>simp)
     go_enter Tryz.func84,Tryz.ntmps84
     go_wp2
     go_ret
     exact⟨by rw[HGF.out];rfl,HBB.out _ _⟩
    |
     true =>
     cases bn with
     |
      false =>
      cases bt with
      |
       false =>
       cases t0 with
       |
        false =>
        by_cases hl:ys.length=0
        ·have hl':((ys.length:Int)==0)=true:=by rw[beq_iff_eq];omega
         rw[decide_eq_true hl] at HG
         clear hl
         go_enter Tryz.func84,Tryz.ntmps84
         go_wp2_with fail
         obtain⟨U,hU,hbU,hzU,hcA,hcB⟩:=two w (.cells #[.int .i64 2,.int .i64 op,.string (ah tb),.string (ah nm),.int .i64 vk,.int .i64 vn,.string (ah vs),.slice aa ys.length cc] 130) (.cells #[.int .i64 0,.int .i64 0,.string ⟨#[]⟩] 128)
         rw[hU]
         have HBU:=hid hbU
         have HCA:=hid hcA
         clear hU hbU hcA hcB
         refine (HNM.out U).mono ?_
         rintro e w1 ⟨rfl,hb⟩
         have HBu1:Hid (Below U.heap.size U w1):=hid hb
         have kq1:=aU ((HBu1.out.block w.heap.size (by omega)).trans HCA.out)
         clear hb
         try clear kq0
         go_wp2_with fail
         refine (HTB.out w1).mono ?_
         rintro e w2 ⟨rfl,hb⟩
         have HBu2:Hid (Below U.heap.size U w2):=hid (HBu1.out.trans (hb.mono HBu1.out.size))
         have kq2:=aU ((HBu2.out.block w.heap.size (by omega)).trans HCA.out)
         clear hb
         try clear kq1
         go_wp2
         go_ret
         exact⟨by rw[← HG.out]<;>simp,HBU.out.trans (HBu2.out.mono HBU.out.size)⟩
        ·have hl':((ys.length:Int)==0)=false:=by rw[beq_eq_false_iff_ne];omega
         rw[decide_eq_false hl] at HG
         clear hl
         go_enter Tryz.func84,Tryz.ntmps84
         go_wp2_with fail
         obtain⟨U,hU,hbU,hzU,hcA,hcB⟩:=two w (.cells #[.int .i64 2,.int .i64 op,.string (ah tb),.string (ah nm),.int .i64 vk,.int .i64 vn,.string (ah vs),.slice aa ys.length cc] 130) (.cells #[.int .i64 0,.int .i64 0,.string ⟨#[]⟩] 128)
         rw[hU]
         have HBU:=hid hbU
         have HCA:=hid hcA
         clear hU hbU hcA hcB
         refine (HNM.out U).mono ?_
         rintro e w1 ⟨rfl,hb⟩
         have HBu1:Hid (Below U.heap.size U w1):=hid hb
         have kq1:=aU ((HBu1.out.block w.heap.size (by omega)).trans HCA.out)
         clear hb
         try clear kq0
         go_wp2_with fail
         refine (HTB.out w1).mono ?_
         rintro e w2 ⟨rfl,hb⟩
         have HBu2:Hid (Below U.heap.size U w2):=hid (HBu1.out.trans (hb.mono HBu1.out.size))
         have kq2:=aU ((HBu2.out.block w.heap.size (by omega)).trans HCA.out)
         clear hb
         try clear kq1
         go_wp2
         go_ret
         exact⟨by rw[← HG.out]<;>simp,HBU.out.trans (HBu2.out.mono HBU.out.size)⟩
       |
        true =>
        by_cases hl:ys.length=0
        ·have hl':((ys.length:Int)==0)=true:=by rw[beq_iff_eq];omega
         rw[decide_eq_true hl] at HG
         clear hl
         go_enter Tryz.func84,Tryz.ntmps84
         go_wp2_with fail
         obtain⟨U,hU,hbU,hzU,hcA,hcB⟩:=two w (.cells #[.int .i64 2,.int .i64 op,.string (ah tb),.string (ah nm),.int .i64 vk,.int .i64 vn,.string (ah vs),.slice aa ys.length cc] 130) (.cells #[.int .i64 0,.int .i64 0,.string ⟨#[]⟩] 128)
         rw[hU]
         have HBU:=hid hbU
         have HCA:=hid hcA
         clear hU hbU hcA hcB
         refine (HNM.out U).mono ?_
         rintro e w1 ⟨rfl,hb⟩
         have HBu1:Hid (Below U.heap.size U w1):=hid hb
         have kq1:=aU ((HBu1.out.block w.heap.size (by omega)).trans HCA.out)
         clear hb
         try clear kq0
         go_wp2_with fail
         refine (HTB.out w1).mono ?_
         rintro e w2 ⟨rfl,hb⟩
         have HBu2:Hid (Below U.heap.size U w2):=hid (HBu1.out.trans (hb.mono HBu1.out.size))
         have kq2:=aU ((HBu2.out.block w.heap.size (by omega)).trans HCA.out)
         clear hb
         try clear kq1
         go_wp2
         go_ret
         exact⟨by rw[← HG.out]<;>simp,HBU.out.trans (HBu2.out.mono HBU.out.size)⟩
        ·have hl':((ys.length:Int)==0)=false:=by rw[beq_eq_false_iff_ne];omega
         rw[decide_eq_false hl] at HG
         clear hl
         go_enter Tryz.func84,Tryz.ntmps84
         go_wp2_with fail
         obtain⟨U,hU,hbU,hzU,hcA,hcB⟩:=two w (.cells #[.int .i64 2,.int .i64 op,.string (ah tb),.string (ah nm),.int .i64 vk,.int .i64 vn,.string (ah vs),.slice aa ys.length cc] 130) (.cells #[.int .i64 0,.int .i64 0,.string ⟨#[]⟩] 128)
         rw[hU]
         have HBU:=hid hbU
         have HCA:=hid hcA
         clear hU hbU hcA hcB
         refine (HNM.out U).mono ?_
         rintro e w1 ⟨rfl,hb⟩
         have HBu1:Hid (Below U.heap.size U w1):=hid hb
         have kq1:=aU ((HBu1.out.block w.heap.size (by omega)).trans HCA.out)
         clear hb
         try clear kq0
         go_wp2_with fail
         refine (HTB.out w1).mono ?_
         rintro e w2 ⟨rfl,hb⟩
         have HBu2:Hid (Below U.heap.size U w2):=hid (HBu1.out.trans (hb.mono HBu1.out.size))
         have kq2:=aU ((HBu2.out.block w.heap.size (by omega)).trans HCA.out)
         clear hb
         try clear kq1
         go_wp2
         go_ret
         exact⟨by rw[← HG.out]<;>simp,HBU.out.trans (HBu2.out.mono HBU.out.size)⟩
      |
       true =>
       cases t0 with
       |
        false =>
        by_cases hl:ys.length=0
        ·have hl':((ys.length:Int)==0)=true:=by rw[beq_iff_eq];omega
         rw[decide_eq_true hl] at HG
         clear hl
         go_enter Tryz.func84,Tryz.ntmps84
         go_wp2_with fail
         obtain⟨U,hU,hbU,hzU,hcA,hcB⟩:=two w (.cells #[.int .i64 2,.int .i64 op,.string (ah tb),.string (ah nm),.int .i64 vk,.int .i64 vn,.string (ah vs),.slice aa ys.length cc] 130) (.cells #[.int .i64 0,.int .i64 0,.string ⟨#[]⟩] 128)
         rw[hU]
         have HBU:=hid hbU
         have HCA:=hid hcA
         clear hU hbU hcA hcB
         refine (HNM.out U).mono ?_
         rintro e w1 ⟨rfl,hb⟩
         have HBu1:Hid (Below U.heap.size U w1):=hid hb
         have kq1:=aU ((HBu1.out.block w.heap.size (by omega)).trans HCA.out)
         clear hb
         try clear kq0
         go_wp2_with fail
         refine (HTB.out w1).mono ?_
         rintro e w2 ⟨rfl,hb⟩
         have HBu2:Hid (Below U.heap.size U w2):=hid (HBu1.out.trans (hb.mono HBu1.out.size))
         have kq2:=aU ((HBu2.out.block w.heap.size (by omega)).trans HCA.out)
         clear hb
         try clear kq1
         go_wp2
         go_ret
         exact⟨by rw[← HG.out]<;>simp,HBU.out.trans (HBu2.out.mono HBU.out.size)⟩
        ·have hl':((ys.length:Int)==0)=false:=by rw[beq_eq_false_iff_ne];omega
         rw[decide_eq_false hl] at HG
         clear hl
         go_enter Tryz.func84,Tryz.ntmps84
         go_wp2_with fail
         obtain⟨U,hU,hbU,hzU,hcA,hcB⟩:=two w (.cells #[.int .i64 2,.int .i64 op,.string (ah tb),.string (ah nm),.int .i64 vk,.int .i64 vn,.string (ah vs),.slice aa ys.length cc] 130) (.cells #[.int .i64 0,.int .i64 0,.string ⟨#[]⟩] 128)
         rw[hU]
         have HBU:=hid hbU
         have HCA:=hid hcA
         clear hU hbU hcA hcB
         refine (HNM.out U).mono ?_
         rintro e w1 ⟨rfl,hb⟩
         have HBu1:Hid (Below U.heap.size U w1):=hid hb
         have kq1:=aU ((HBu1.out.block w.heap.size (by omega)).trans HCA.out)
         clear hb
         try clear kq0
         go_wp2_with fail
         refine (HTB.out w1).mono ?_
         rintro e w2 ⟨rfl,hb⟩
         have HBu2:Hid (Below U.heap.size U w2):=hid (HBu1.out.trans (hb.mono HBu1.out.size))
         have kq2:=aU ((HBu2.out.block w.heap.size (by omega)).trans HCA.out)
         clear hb
         try clear kq1
         go_wp2
         go_ret
         exact⟨by rw[← HG.out]<;>simp,HBU.out.trans (HBu2.out.mono HBU.out.size)⟩
       |
        true =>
        by_cases hl:ys.length=0
        ·have hl':((ys.length:Int)==0)=true:=by rw[beq_iff_eq];omega
         rw[decide_eq_true hl] at HG
         clear hl
         go_enter Tryz.func84,Tryz.ntmps84
         go_wp2_with fail
         obtain⟨U,hU,hbU,hzU,hcA,hcB⟩:=two w (.cells #[.int .i64 2,.int .i64 op,.string (ah tb),.string (ah nm),.int .i64 vk,.int .i64 vn,.string (ah vs),.slice aa ys.length cc] 130) (.cells #[.int .i64 0,.int .i64 0,.string ⟨#[]⟩] 128)
         rw[hU]
         have HBU:=hid hbU
         have HCA:=hid hcA
         clear hU hbU hcA hcB
         refine (HNM.out U).mono ?_
         rintro e w1 ⟨rfl,hb⟩
         have HBu1:Hid (Below U.heap.size U w1):=hid hb
         have kq1:=aU ((HBu1.out.block w.heap.size (by omega)).trans HCA.out)
         clear hb
         try clear kq0
         go_wp2_with fail
         refine (HTB.out w1).mono ?_
         rintro e w2 ⟨rfl,hb⟩
         have HBu2:Hid (Below U.heap.size U w2):=hid (HBu1.out.trans (hb.mono HBu1.out.size))
         have kq2:=aU ((HBu2.out.block w.heap.size (by omega)).trans HCA.out)
         clear hb
         try clear kq1
         go_wp2
         go_ret
         exact⟨by rw[← HG.out]<;>simp,HBU.out.trans (HBu2.out.mono HBU.out.size)⟩
        ·have hl':((ys.length:Int)==0)=false:=by rw[beq_eq_false_iff_ne];omega
         rw[decide_eq_false hl] at HG
         clear hl
         go_enter Tryz.func84,Tryz.ntmps84
         go_wp2_with fail
         obtain⟨U,hU,hbU,hzU,hcA,hcB⟩:=two w (.cells #[.int .i64 2,.int .i64 op,.string (ah tb),.string (ah nm),.int .i64 vk,.int .i64 vn,.string (ah vs),.slice aa ys.length cc] 130) (.cells #[.int .i64 0,.int .i64 0,.string ⟨#[]⟩] 128)
         rw[hU]
         have HBU:=hid hbU
         have HCA:=hid hcA
         clear hU hbU hcA hcB
         refine (HNM.out U).mono ?_
         rintro e w1 ⟨rfl,hb⟩
         have HBu1:Hid (Below U.heap.size U w1):=hid hb
         have kq1:=aU ((HBu1.out.block w.heap.size (by omega)).trans HCA.out)
         clear hb
         try clear kq0
         go_wp2_with fail
         refine (HTB.out w1).mono ?_
         rintro e w2 ⟨rfl,hb⟩
         have HBu2:Hid (Below U.heap.size U w2):=hid (HBu1.out.trans (hb.mono HBu1.out.size))
         have kq2:=aU ((HBu2.out.block w.heap.size (by omega)).trans HCA.out)
         clear hb
         try clear kq1
         go_wp2
         go_ret
         exact⟨by rw[← HG.out]<;>simp,HBU.out.trans (HBu2.out.mono HBU.out.size)⟩
     |
      true =>
      cases bt with
      |
       false =>
       cases t0 with
       |
        false =>
        by_cases hl:ys.length=0
        ·have hl':((ys.length:Int)==0)=true:=by rw[beq_iff_eq];omega
         rw[decide_eq_true hl] at HG
         clear hl
         go_enter Tryz.func84,Tryz.ntmps84
         go_wp2_with fail
         obtain⟨U,hU,hbU,hzU,hcA,hcB⟩:=two w (.cells #[.int .i64 2,.int .i64 op,.string (ah tb),.string (ah nm),.int .i64 vk,.int .i64 vn,.string (ah vs),.slice aa ys.length cc] 130) (.cells #[.int .i64 0,.int .i64 0,.string ⟨#[]⟩] 128)
         rw[hU]
         have HBU:=hid hbU
         have HCA:=hid hcA
         clear hU hbU hcA hcB
         refine (HNM.out U).mono ?_
         rintro e w1 ⟨rfl,hb⟩
         have HBu1:Hid (Below U.heap.size U w1):=hid hb
         have kq1:=aU ((HBu1.out.block w.heap.size (by omega)).trans HCA.out)
         clear hb
         try clear kq0
         go_wp2_with fail
         refine (HTB.out w1).mono ?_
         rintro e w2 ⟨rfl,hb⟩
         have HBu2:Hid (Below U.heap.size U w2):=hid (HBu1.out.trans (hb.mono HBu1.out.size))
         have kq2:=aU ((HBu2.out.block w.heap.size (by omega)).trans HCA.out)
         clear hb
         try clear kq1
         go_wp2
         go_ret
         exact⟨by rw[← HG.out]<;>simp,HBU.out.trans (HBu2.out.mono HBU.out.size)⟩
        ·have hl':((ys.length:Int)==0)=false:=by rw[beq_eq_false_iff_ne];omega
         rw[decide_eq_false hl] at HG
         clear hl
         go_enter Tryz.func84,Tryz.ntmps84
         go_wp2_with fail
         obtain⟨U,hU,hbU,hzU,hcA,hcB⟩:=two w (.cells #[.int .i64 2,.int .i64 op,.string (ah tb),.string (ah nm),.int .i64 vk,.int .i64 vn,.string (ah vs),.slice aa ys.length cc] 130) (.cells #[.int .i64 0,.int .i64 0,.string ⟨#[]⟩] 128)
         rw[hU]
         have HBU:=hid hbU
         have HCA:=hid hcA
         clear hU hbU hcA hcB
         refine (HNM.out U).mono ?_
         rintro e w1 ⟨rfl,hb⟩
         have HBu1:Hid (Below U.heap.size U w1):=hid hb
         have kq1:=aU ((HBu1.out.block w.heap.size (by omega)).trans HCA.out)
         clear hb
         try clear kq0
         go_wp2_with fail
         refine (HTB.out w1).mono ?_
         rintro e w2 ⟨rfl,hb⟩
         have HBu2:Hid (Below U.heap.size U w2):=hid (HBu1.out.trans (hb.mono HBu1.out.size))
         have kq2:=aU ((HBu2.out.block w.heap.size (by omega)).trans HCA.out)
         clear hb
         try clear kq1
         go_wp2
         go_ret
         exact⟨by rw[← HG.out]<;>simp,HBU.out.trans (HBu2.out.mono HBU.out.size)⟩
       |
        true =>
        by_cases hl:ys.length=0
        ·have hl':((ys.length:Int)==0)=true:=by rw[beq_iff_eq];omega
         rw[decide_eq_true hl] at HG
         clear hl
         go_enter Tryz.func84,Tryz.ntmps84
         go_wp2_with fail
         obtain⟨U,hU,hbU,hzU,hcA,hcB⟩:=two w (.cells #[.int .i64 2,.int .i64 op,.string (ah tb),.string (ah nm),.int .i64 vk,.int .i64 vn,.string (ah vs),.slice aa ys.length cc] 130) (.cells #[.int .i64 0,.int .i64 0,.string ⟨#[]⟩] 128)
         rw[hU]
         have HBU:=hid hbU
         have HCA:=hid hcA
         clear hU hbU hcA hcB
         refine (HNM.out U).mono ?_
         rintro e w1 ⟨rfl,hb⟩
         have HBu1:Hid (Below U.heap.size U w1):=hid hb
         have kq1:=aU ((HBu1.out.block w.heap.size (by omega)).trans HCA.out)
         clear hb
         try clear kq0
         go_wp2_with fail
         refine (HTB.out w1).mono ?_
         rintro e w2 ⟨rfl,hb⟩
         have HBu2:Hid (Below U.heap.size U w2):=hid (HBu1.out.trans (hb.mono HBu1.out.size))
         have kq2:=aU ((HBu2.out.block w.heap.size (by omega)).trans HCA.out)
         clear hb
         try clear kq1
         go_wp2
         go_ret
         exact⟨by rw[← HG.out]<;>simp,HBU.out.trans (HBu2.out.mono HBU.out.size)⟩
        ·have hl':((ys.length:Int)==0)=false:=by rw[beq_eq_false_iff_ne];omega
         rw[decide_eq_false hl] at HG
         clear hl
         go_enter Tryz.func84,Tryz.ntmps84
         go_wp2_with fail
         obtain⟨U,hU,hbU,hzU,hcA,hcB⟩:=two w (.cells #[.int .i64 2,.int .i64 op,.string (ah tb),.string (ah nm),.int .i64 vk,.int .i64 vn,.string (ah vs),.slice aa ys.length cc] 130) (.cells #[.int .i64 0,.int .i64 0,.string ⟨#[]⟩] 128)
         rw[hU]
         have HBU:=hid hbU
         have HCA:=hid hcA
         clear hU hbU hcA hcB
         refine (HNM.out U).mono ?_
         rintro e w1 ⟨rfl,hb⟩
         have HBu1:Hid (Below U.heap.size U w1):=hid hb
         have kq1:=aU ((HBu1.out.block w.heap.size (by omega)).trans HCA.out)
         clear hb
         try clear kq0
         go_wp2_with fail
         refine (HTB.out w1).mono ?_
         rintro e w2 ⟨rfl,hb⟩
         have HBu2:Hid (Below U.heap.size U w2):=hid (HBu1.out.trans (hb.mono HBu1.out.size))
         have kq2:=aU ((HBu2.out.block w.heap.size (by omega)).trans HCA.out)
         clear hb
         try clear kq1
         go_wp2
         go_ret
         exact⟨by rw[← HG.out]<;>simp,HBU.out.trans (HBu2.out.mono HBU.out.size)⟩
      |
       true =>
       cases t0 with
       |
        false =>
        by_cases hl:ys.length=0
        ·have hl':((ys.length:Int)==0)=true:=by rw[beq_iff_eq];omega
         rw[decide_eq_true hl] at HG
         clear hl
         go_enter Tryz.func84,Tryz.ntmps84
         go_wp2_with fail
         obtain⟨U,hU,hbU,hzU,hcA,hcB⟩:=two w (.cells #[.int .i64 2,.int .i64 op,.string (ah tb),.string (ah nm),.int .i64 vk,.int .i64 vn,.string (ah vs),.slice aa ys.length cc] 130) (.cells #[.int .i64 0,.int .i64 0,.string ⟨#[]⟩] 128)
         rw[hU]
         have HBU:=hid hbU
         have HCA:=hid hcA
         clear hU hbU hcA hcB
         refine (HNM.out U).mono ?_
         rintro e w1 ⟨rfl,hb⟩
         have HBu1:Hid (Below U.heap.size U w1):=hid hb
         have kq1:=aU ((HBu1.out.block w.heap.size (by omega)).trans HCA.out)
         clear hb
         try clear kq0
         go_wp2_with fail
         refine (HTB.out w1).mono ?_
         rintro e w2 ⟨rfl,hb⟩
         have HBu2:Hid (Below U.heap.size U w2):=hid (HBu1.out.trans (hb.mono HBu1.out.size))
         have kq2:=aU ((HBu2.out.block w.heap.size (by omega)).trans HCA.out)
         clear hb
         try clear kq1
         go_wp2
         go_ret
         exact⟨by rw[← HG.out]<;>simp,HBU.out.trans (HBu2.out.mono HBU.out.size)⟩
        ·have hl':((ys.length:Int)==0)=false:=by rw[beq_eq_false_iff_ne];omega
         rw[decide_eq_false hl] at HG
         clear hl
         go_enter Tryz.func84,Tryz.ntmps84
         go_wp2_with fail
         obtain⟨U,hU,hbU,hzU,hcA,hcB⟩:=two w (.cells #[.int .i64 2,.int .i64 op,.string (ah tb),.string (ah nm),.int .i64 vk,.int .i64 vn,.string (ah vs),.slice aa ys.length cc] 130) (.cells #[.int .i64 0,.int .i64 0,.string ⟨#[]⟩] 128)
         rw[hU]
         have HBU:=hid hbU
         have HCA:=hid hcA
         clear hU hbU hcA hcB
         refine (HNM.out U).mono ?_
         rintro e w1 ⟨rfl,hb⟩
         have HBu1:Hid (Below U.heap.size U w1):=hid hb
         have kq1:=aU ((HBu1.out.block w.heap.size (by omega)).trans HCA.out)
         clear hb
         try clear kq0
         go_wp2_with fail
         refine (HTB.out w1).mono ?_
         rintro e w2 ⟨rfl,hb⟩
         have HBu2:Hid (Below U.heap.size U w2):=hid (HBu1.out.trans (hb.mono HBu1.out.size))
         have kq2:=aU ((HBu2.out.block w.heap.size (by omega)).trans HCA.out)
         clear hb
         try clear kq1
         go_wp2
         go_ret
         exact⟨by rw[← HG.out]<;>simp,HBU.out.trans (HBu2.out.mono HBU.out.size)⟩
       |
        true =>
        by_cases hl:ys.length=0
        ·have hl':((ys.length:Int)==0)=true:=by rw[beq_iff_eq];omega
         rw[decide_eq_true hl] at HG
         clear hl
         go_enter Tryz.func84,Tryz.ntmps84
         go_wp2_with fail
         obtain⟨U,hU,hbU,hzU,hcA,hcB⟩:=two w (.cells #[.int .i64 2,.int .i64 op,.string (ah tb),.string (ah nm),.int .i64 vk,.int .i64 vn,.string (ah vs),.slice aa ys.length cc] 130) (.cells #[.int .i64 0,.int .i64 0,.string ⟨#[]⟩] 128)
         rw[hU]
         have HBU:=hid hbU
         have HCA:=hid hcA
         clear hU hbU hcA hcB
         refine (HNM.out U).mono ?_
         rintro e w1 ⟨rfl,hb⟩
         have HBu1:Hid (Below U.heap.size U w1):=hid hb
         have kq1:=aU ((HBu1.out.block w.heap.size (by omega)).trans HCA.out)
         clear hb
         try clear kq0
         go_wp2_with fail
         refine (HTB.out w1).mono ?_
         rintro e w2 ⟨rfl,hb⟩
         have HBu2:Hid (Below U.heap.size U w2):=hid (HBu1.out.trans (hb.mono HBu1.out.size))
         have kq2:=aU ((HBu2.out.block w.heap.size (by omega)).trans HCA.out)
         clear hb
         try clear kq1
         go_wp2
         go_ret
         exact⟨by rw[← HG.out]<;>simp,HBU.out.trans (HBu2.out.mono HBU.out.size)⟩
        ·have hl':((ys.length:Int)==0)=false:=by rw[beq_eq_false_iff_ne];omega
         rw[decide_eq_false hl] at HG
         clear hl
         go_enter Tryz.func84,Tryz.ntmps84
         go_wp2_with fail
         obtain⟨U,hU,hbU,hzU,hcA,hcB⟩:=two w (.cells #[.int .i64 2,.int .i64 op,.string (ah tb),.string (ah nm),.int .i64 vk,.int .i64 vn,.string (ah vs),.slice aa ys.length cc] 130) (.cells #[.int .i64 0,.int .i64 0,.string ⟨#[]⟩] 128)
         rw[hU]
         have HBU:=hid hbU
         have HCA:=hid hcA
         clear hU hbU hcA hcB
         refine (HNM.out U).mono ?_
         rintro e w1 ⟨rfl,hb⟩
         have HBu1:Hid (Below U.heap.size U w1):=hid hb
         have kq1:=aU ((HBu1.out.block w.heap.size (by omega)).trans HCA.out)
         clear hb
         try clear kq0
         go_wp2_with fail
         refine (HTB.out w1).mono ?_
         rintro e w2 ⟨rfl,hb⟩
         have HBu2:Hid (Below U.heap.size U w2):=hid (HBu1.out.trans (hb.mono HBu1.out.size))
         have kq2:=aU ((HBu2.out.block w.heap.size (by omega)).trans HCA.out)
         clear hb
         try clear kq1
         go_wp2
         go_ret
         exact⟨by rw[← HG.out]<;>simp,HBU.out.trans (HBu2.out.mono HBU.out.size)⟩
  ·rw[if_neg hk2]
   have hk2':(k==2)=false:=by simpa using hk2
   have hk2'':(k != 2)=true:=by simpa using hk2
   by_cases hk3:k=3
   ·subst hk3
    rw[if_pos rfl]
    obtain⟨G,hG⟩:∃G,((decide (1≤op∧op≤13)&&(decide (2≤ys.length∧ys.length≤2)&&ba))&&(decide ((0:Int)=0)&&(t0&&(n0&&(z&&decide ((0:Nat)=0))))))=G:=⟨_,rfl⟩
    rw[hG]
    have HG:=hid hG
    clear hG hoo hob HVL HNM HTB hk1 hk1' hk1'' hk2 hk2' hk2''
    cases z with
    |
     false =>
     have HGF:Hid (G=false):=hid (by rw[← HG.out]<;>simp)
     go_enter Tryz.func84,Tryz.ntmps84
     go_wp2
     go_ret
     exact⟨by rw[HGF.out];rfl,HBB.out _ _⟩
    |
     true =>
     cases t0 with
     |
      false =>
      have HGF:Hid (G=false):=hid (by rw[← HG.out]<;>simp)
      go_enter Tryz.func84,Tryz.ntmps84
      go_wp2
      go_ret
      exact⟨by rw[HGF.out];rfl,HBB.out _ _⟩
     |
      true =>
      cases n0 with
      |
       false =>
       have HGF:Hid (G=false):=hid (by rw[← HG.out]<;>simp)
       go_enter Tryz.func84,Tryz.ntmps84
       go_wp2
       go_ret
       exact⟨by rw[HGF.out];rfl,HBB.out _ _⟩
      |
       true =>
       by_cases ho1:1≤op
       ·have ho1' : ¬(op<1):=by omega
        by_cases ho2:op≤13
        ·have ho2' : ¬(13<op):=by omega
         rw[decide_eq_true (show 1≤op∧op≤13 from ⟨ho1,ho2⟩)] at HG
         clear ho1 ho2
         by_cases hl:ys.length=2
         ·have hl':((ys.length:Int)==2)=true:=by rw[beq_iff_eq];omega
          rw[decide_eq_true (show 2≤ys.length∧ys.length≤2 by omega)] at HG
          clear hl
          cases ba with
          |
           false =>
           go_enter Tryz.func84,Tryz.ntmps84
           go_wp2_with fail
           obtain⟨U,hU,hbU,hzU,hcA,hcB⟩:=two w (.cells #[.int .i64 3,.int .i64 op,.string (ah tb),.string (ah nm),.int .i64 vk,.int .i64 vn,.string (ah vs),.slice aa ys.length cc] 130) (.cells #[.int .i64 0,.int .i64 0,.string ⟨#[]⟩] 128)
           rw[hU]
           have HBU:=hid hbU
           have HCA:=hid hcA
           have HC:=hid (HA.out U hbU)
           clear hU hbU hcA hcB
           refine HC.out.mono ?_
           rintro e w1 ⟨rfl,hb⟩
           have HBu1:Hid (Below U.heap.size U w1):=hid hb
           have kq1:=aU ((HBu1.out.block w.heap.size (by omega)).trans HCA.out)
           clear hb
           try clear kq0
           go_wp2
           go_ret
           exact⟨by rw[← HG.out]<;>simp,HBU.out.trans (HBu1.out.mono HBU.out.size)⟩
          |
           true =>
           go_enter Tryz.func84,Tryz.ntmps84
           go_wp2_with fail
           obtain⟨U,hU,hbU,hzU,hcA,hcB⟩:=two w (.cells #[.int .i64 3,.int .i64 op,.string (ah tb),.string (ah nm),.int .i64 vk,.int .i64 vn,.string (ah vs),.slice aa ys.length cc] 130) (.cells #[.int .i64 0,.int .i64 0,.string ⟨#[]⟩] 128)
           rw[hU]
           have HBU:=hid hbU
           have HCA:=hid hcA
           have HC:=hid (HA.out U hbU)
           clear hU hbU hcA hcB
           refine HC.out.mono ?_
           rintro e w1 ⟨rfl,hb⟩
           have HBu1:Hid (Below U.heap.size U w1):=hid hb
           have kq1:=aU ((HBu1.out.block w.heap.size (by omega)).trans HCA.out)
           clear hb
           try clear kq0
           go_wp2
           go_ret
           exact⟨by rw[← HG.out]<;>simp,HBU.out.trans (HBu1.out.mono HBU.out.size)⟩
         ·have hl':((ys.length:Int)==2)=false:=by rw[beq_eq_false_iff_ne];omega
          rw[decide_eq_false (show ¬(2≤ys.length∧ys.length≤2) by omega)] at HG
          clear hl
          have HGF:Hid (G=false):=hid (by rw[← HG.out]<;>simp)
          go_enter Tryz.func84,Tryz.ntmps84
          go_wp2
          go_ret
          exact⟨by rw[HGF.out];rfl,HBB.out _ _⟩
        ·have ho2':13<op:=by omega
         rw[decide_eq_false (show ¬(1≤op∧op≤13) by omega)] at HG
         clear ho1 ho2
         have HGF:Hid (G=false):=hid (by rw[← HG.out]<;>simp)
         go_enter Tryz.func84,Tryz.ntmps84
         go_wp2
         go_ret
         exact⟨by rw[HGF.out];rfl,HBB.out _ _⟩
       ·have ho1':op<1:=by omega
        rw[decide_eq_false (show ¬(1≤op∧op≤13) by omega)] at HG
        clear ho1
        have HGF:Hid (G=false):=hid (by rw[← HG.out]<;>simp)
        go_enter Tryz.func84,Tryz.ntmps84
        go_wp2
        go_ret
        exact⟨by rw[HGF.out];rfl,HBB.out _ _⟩
   ·rw[if_neg hk3]
    have hk3':(k==3)=false:=by simpa using hk3
    have hk3'':(k != 3)=true:=by simpa using hk3
    by_cases hk4:k=4∨k=5∨k=6
    ·rw[if_pos hk4]
     obtain⟨G,hG⟩:∃G,((decide (1≤ys.length∧ys.length≤1)&&ba)&&(o0&&(t0&&(n0&&(z&&decide ((0:Nat)=0))))))=G:=⟨_,rfl⟩
     rw[hG]
     have HG:=hid hG
     clear hG hoo HVL HNM HTB hk1 hk1' hk1'' hk2 hk2' hk2'' hk3 hk3' hk3''
     rcases hk4 with rfl | rfl | rfl
     ·skip
      cases z with
      |
       false =>
       have HGF:Hid (G=false):=hid (by rw[← HG.out]<;>simp)
       go_enter Tryz.func84,Tryz.ntmps84
       go_wp2
       go_ret
       exact⟨by rw[HGF.out];rfl,HBB.out _ _⟩
      |
       true =>
       cases t0 with
       |
        false =>
        have HGF:Hid (G=false):=hid (by rw[← HG.out]<;>simp)
        go_enter Tryz.func84,Tryz.ntmps84
        go_wp2
        go_ret
        exact⟨by rw[HGF.out];rfl,HBB.out _ _⟩
       |
        true =>
        cases n0 with
        |
         false =>
         have HGF:Hid (G=false):=hid (by rw[← HG.out]<;>simp)
         go_enter Tryz.func84,Tryz.ntmps84
         go_wp2
         go_ret
         exact⟨by rw[HGF.out];rfl,HBB.out _ _⟩
        |
         true =>
         cases o0 with
         |
          false =>
          have HGF:Hid (G=false):=hid (by rw[← HG.out]<;>simp)
          go_enter Tryz.func84,Tryz.ntmps84
          go_wp2
          go_ret
          exact⟨by rw[HGF.out];rfl,HBB.out _ _⟩
         |
          true =>
          by_cases hl:ys.length=1
          ·have hl':((ys.length:Int)==1)=true:=by rw[beq_iff_eq];omega
           rw[decide_eq_true (show 1≤ys.length∧ys.length≤1 by omega)] at HG
           clear hl
           cases ba with
           |
            false =>
            go_enter Tryz.func84,Tryz.ntmps84
            go_wp2_with fail
            obtain⟨U,hU,hbU,hzU,hcA,hcB⟩:=two w (.cells #[.int .i64 4,.int .i64 op,.string (ah tb),.string (ah nm),.int .i64 vk,.int .i64 vn,.string (ah vs),.slice aa ys.length cc] 130) (.cells #[.int .i64 0,.int .i64 0,.string ⟨#[]⟩] 128)
            rw[hU]
            have HBU:=hid hbU
            have HCA:=hid hcA
            have HC:=hid (HA.out U hbU)
            clear hU hbU hcA hcB
            refine HC.out.mono ?_
            rintro e w1 ⟨rfl,hb⟩
            have HBu1:Hid (Below U.heap.size U w1):=hid hb
            have kq1:=aU ((HBu1.out.block w.heap.size (by omega)).trans HCA.out)
            clear hb
            try clear kq0
            go_wp2
            go_ret
            exact⟨by rw[← HG.out]<;>simp,HBU.out.trans (HBu1.out.mono HBU.out.size)⟩
           |
            true =>
            go_enter Tryz.func84,Tryz.ntmps84
            go_wp2_with fail
            obtain⟨U,hU,hbU,hzU,hcA,hcB⟩:=two w (.cells #[.int .i64 4,.int .i64 op,.string (ah tb),.string (ah nm),.int .i64 vk,.int .i64 vn,.string (ah vs),.slice aa ys.length cc] 130) (.cells #[.int .i64 0,.int .i64 0,.string ⟨#[]⟩] 128)
            rw[hU]
            have HBU:=hid hbU
            have HCA:=hid hcA
            have HC:=hid (HA.out U hbU)
            clear hU hbU hcA hcB
            refine HC.out.mono ?_
            rintro e w1 ⟨rfl,hb⟩
            have HBu1:Hid (Below U.heap.size U w1):=hid hb
            have kq1:=aU ((HBu1.out.block w.heap.size (by omega)).trans HCA.out)
            clear hb
            try clear kq0
            go_wp2
            go_ret
            exact⟨by rw[← HG.out]<;>simp,HBU.out.trans (HBu1.out.mono HBU.out.size)⟩
          ·have hl':((ys.length:Int)==1)=false:=by rw[beq_eq_false_iff_ne];omega
           rw[decide_eq_false (show ¬(1≤ys.length∧ys.length≤1) by omega)] at HG
           clear hl
           have HGF:Hid (G=false):=hid (by rw[← HG.out]<;>simp)
           go_enter Tryz.func84,Tryz.ntmps84
           go_wp2
           go_ret
           exact⟨by rw[HGF.out];rfl,HBB.out _ _⟩
     ·skip
      cases z with
      |
       false =>
       have HGF:Hid (G=false):=hid (by rw[← HG.out]<;>simp)
       go_enter Tryz.func84,Tryz.ntmps84
       go_wp2
       go_ret
       exact⟨by rw[HGF.out];rfl,HBB.out _ _⟩
      |
       true =>
       cases t0 with
       |
        false =>
        have HGF:Hid (G=false):=hid (by rw[← HG.out]<;>simp)
        go_enter Tryz.func84,Tryz.ntmps84
        go_wp2
        go_ret
        exact⟨by rw[HGF.out];rfl,HBB.out _ _⟩
       |
        true =>
        cases n0 with
        |
         false =>
         have HGF:Hid (G=false):=hid (by rw[← HG.out]<;>simp)
         go_enter Tryz.func84,Tryz.ntmps84
         go_wp2
         go_ret
         exact⟨by rw[HGF.out];rfl,HBB.out _ _⟩
        |
         true =>
         cases o0 with
         |
          false =>
          have HGF:Hid (G=false):=hid (by rw[← HG.out]<;>simp)
          go_enter Tryz.func84,Tryz.ntmps84
          go_wp2
          go_ret
          exact⟨by rw[HGF.out];rfl,HBB.out _ _⟩
         |
          true =>
          by_cases hl:ys.length=1
          ·have hl':((ys.length:Int)==1)=true:=by rw[beq_iff_eq];omega
           rw[decide_eq_true (show 1≤ys.length∧ys.length≤1 by omega)] at HG
           clear hl
           cases ba with
           |
            false =>
            go_enter Tryz.func84,Tryz.ntmps84
            go_wp2_with fail
            obtain⟨U,hU,hbU,hzU,hcA,hcB⟩:=two w (.cells #[.int .i64 5,.int .i64 op,.string (ah tb),.string (ah nm),.int .i64 vk,.int .i64 vn,.string (ah vs),.slice aa ys.length cc] 130) (.cells #[.int .i64 0,.int .i64 0,.string ⟨#[]⟩] 128)
            rw[hU]
            have HBU:=hid hbU
            have HCA:=hid hcA
            have HC:=hid (HA.out U hbU)
            clear hU hbU hcA hcB
            refine HC.out.mono ?_
            rintro e w1 ⟨rfl,hb⟩
            have HBu1:Hid (Below U.heap.size U w1):=hid hb
            have kq1:=aU ((HBu1.out.block w.heap.size (by omega)).trans HCA.out)
            clear hb
            try clear kq0
            go_wp2
            go_ret
            exact⟨by rw[← HG.out]<;>simp,HBU.out.trans (HBu1.out.mono HBU.out.size)⟩
           |
            true =>
            go_enter Tryz.func84,Tryz.ntmps84
            go_wp2_with fail
            obtain⟨U,hU,hbU,hzU,hcA,hcB⟩:=two w (.cells #[.int .i64 5,.int .i64 op,.string (ah tb),.string (ah nm),.int .i64 vk,.int .i64 vn,.string (ah vs),.slice aa ys.length cc] 130) (.cells #[.int .i64 0,.int .i64 0,.string ⟨#[]⟩] 128)
            rw[hU]
            have HBU:=hid hbU
            have HCA:=hid hcA
            have HC:=hid (HA.out U hbU)
            clear hU hbU hcA hcB
            refine HC.out.mono ?_
            rintro e w1 ⟨rfl,hb⟩
            have HBu1:Hid (Below U.heap.size U w1):=hid hb
            have kq1:=aU ((HBu1.out.block w.heap.size (by omega)).trans HCA.out)
            clear hb
            try clear kq0
            go_wp2
            go_ret
            exact⟨by rw[← HG.out]<;>simp,HBU.out.trans (HBu1.out.mono HBU.out.size)⟩
          ·have hl':((ys.length:Int)==1)=false:=by rw[beq_eq_false_iff_ne];omega
           rw[decide_eq_false (show ¬(1≤ys.length∧ys.length≤1) by omega)] at HG
           clear hl
           have HGF:Hid (G=false):=hid (by rw[← HG.out]<;>simp)
           go_enter Tryz.func84,Tryz.ntmps84
           go_wp2
           go_ret
           exact⟨by rw[HGF.out];rfl,HBB.out _ _⟩
     ·skip
      cases z with
      |
       false =>
       have HGF:Hid (G=false):=hid (by rw[← HG.out]<;>simp)
       go_enter Tryz.func84,Tryz.ntmps84
       go_wp2
       go_ret
       exact⟨by rw[HGF.out];rfl,HBB.out _ _⟩
      |
       true =>
       cases t0 with
       |
        false =>
        have HGF:Hid (G=false):=hid (by rw[← HG.out]<;>simp)
        go_enter Tryz.func84,Tryz.ntmps84
        go_wp2
        go_ret
        exact⟨by rw[HGF.out];rfl,HBB.out _ _⟩
       |
        true =>
        cases n0 with
        |
         false =>
         have HGF:Hid (G=false):=hid (by rw[← HG.out]<;>simp)
         go_enter Tryz.func84,Tryz.ntmps84
         go_wp2
         go_ret
         exact⟨by rw[HGF.out];rfl,HBB.out _ _⟩
        |
         true =>
         cases o0 with
         |
          false =>
          have HGF:Hid (G=false):=hid (by rw[← HG.out]<;>simp)
          go_enter Tryz.func84,Tryz.ntmps84
          go_wp2
          go_ret
          exact⟨by rw[HGF.out];rfl,HBB.out _ _⟩
         |
          true =>
          by_cases hl:ys.length=1
          ·have hl':((ys.length:Int)==1)=true:=by rw[beq_iff_eq];omega
           rw[decide_eq_true (show 1≤ys.length∧ys.length≤1 by omega)] at HG
           clear hl
           cases ba with
           |
            false =>
            go_enter Tryz.func84,Tryz.ntmps84
            go_wp2_with fail
            obtain⟨U,hU,hbU,hzU,hcA,hcB⟩:=two w (.cells #[.int .i64 6,.int .i64 op,.string (ah tb),.string (ah nm),.int .i64 vk,.int .i64 vn,.string (ah vs),.slice aa ys.length cc] 130) (.cells #[.int .i64 0,.int .i64 0,.string ⟨#[]⟩] 128)
            rw[hU]
            have HBU:=hid hbU
            have HCA:=hid hcA
            have HC:=hid (HA.out U hbU)
            clear hU hbU hcA hcB
            refine HC.out.mono ?_
            rintro e w1 ⟨rfl,hb⟩
            have HBu1:Hid (Below U.heap.size U w1):=hid hb
            have kq1:=aU ((HBu1.out.block w.heap.size (by omega)).trans HCA.out)
            clear hb
            try clear kq0
            go_wp2
            go_ret
            exact⟨by rw[← HG.out]<;>simp,HBU.out.trans (HBu1.out.mono HBU.out.size)⟩
           |
            true =>
            go_enter Tryz.func84,Tryz.ntmps84
            go_wp2_with fail
            obtain⟨U,hU,hbU,hzU,hcA,hcB⟩:=two w (.cells #[.int .i64 6,.int .i64 op,.string (ah tb),.string (ah nm),.int .i64 vk,.int .i64 vn,.string (ah vs),.slice aa ys.length cc] 130) (.cells #[.int .i64 0,.int .i64 0,.string ⟨#[]⟩] 128)
            rw[hU]
            have HBU:=hid hbU
            have HCA:=hid hcA
            have HC:=hid (HA.out U hbU)
            clear hU hbU hcA hcB
            refine HC.out.mono ?_
            rintro e w1 ⟨rfl,hb⟩
            have HBu1:Hid (Below U.heap.size U w1):=hid hb
            have kq1:=aU ((HBu1.out.block w.heap.size (by omega)).trans HCA.out)
            clear hb
            try clear kq0
            go_wp2
            go_ret
            exact⟨by rw[← HG.out]<;>simp,HBU.out.trans (HBu1.out.mono HBU.out.size)⟩
          ·have hl':((ys.length:Int)==1)=false:=by rw[beq_eq_false_iff_ne];omega
           rw[decide_eq_false (show ¬(1≤ys.length∧ys.length≤1) by omega)] at HG
           clear hl
           have HGF:Hid (G=false):=hid (by rw[← HG.out]<;>simp)
           go_enter Tryz.func84,Tryz.ntmps84
           go_wp2
           go_ret
           exact⟨by rw[HGF.out];rfl,HBB.out _ _⟩
    ·rw[if_neg hk4]
     have h4:(k==4)=false:=by rw[beq_eq_false_iff_ne];omega
     have h5:(k==5)=false:=by rw[beq_eq_false_iff_ne];omega
     have h6:(k==6)=false:=by rw[beq_eq_false_iff_ne];omega
     clear hoo HVL HNM HTB HA hk1 hk2 hk3 hk4
     obtain⟨G,hG⟩:∃G:Bool,false=G:=⟨_,rfl⟩
     rw[hG]
     have HG:=hid hG
     clear hG
     cases z with
     |
      false =>
      have HGF:Hid (G=false):=hid (by rw[← HG.out]<;>simp)
      go_enter Tryz.func84,Tryz.ntmps84
      go_wp2
      go_ret
      exact⟨by rw[HGF.out];rfl,HBB.out _ _⟩
     |
      true =>
      cases t0 with
      |
       false =>
       have HGF:Hid (G=false):=hid (by rw[← HG.out]<;>simp)
       go_enter Tryz.func84,Tryz.ntmps84
       go_wp2
       go_ret
       exact⟨by rw[HGF.out];rfl,HBB.out _ _⟩
      |
       true =>
       cases n0 with
       |
        false =>
        have HGF:Hid (G=false):=hid (by rw[← HG.out]<;>simp)
        go_enter Tryz.func84,Tryz.ntmps84
        go_wp2
        go_ret
        exact⟨by rw[HGF.out];rfl,HBB.out _ _⟩
       |
        true =>
        cases o0 with
        |
         false =>
         have HGF:Hid (G=false):=hid (by rw[← HG.out]<;>simp)
         go_enter Tryz.func84,Tryz.ntmps84
         go_wp2
         go_ret
         exact⟨by rw[HGF.out];rfl,HBB.out _ _⟩
        |
         true =>
         have HGF:Hid (G=false):=hid (by rw[← HG.out]<;>simp)
         go_enter Tryz.func84,Tryz.ntmps84
         go_wp2
         go_ret
         exact⟨by rw[HGF.out];rfl,HBB.out _ _⟩
theorem sK (S:Nat→Prop) (x:Ex) (v:Value) (w:World) (hR:tH x) (hx:pq S w x v):Calls Tryz.prog 84 #[v] w fun e w'=>e = .returned (.bool (aK x))∧Below w.heap.size w w' :=
 BI S _ x v w (Nat.lt_succ_self _) hR hx
theorem sQ (S:Nat→Prop) (xs:List Ex) (v:Value) (w:World) (hR : ∀x∈xs,tH x) (hx:bg S w xs v):Calls Tryz.prog 85 #[v] w fun e w'=>e = .returned (.bool (xs.all aK))∧Below w.heap.size w w' :=
 vL S xs v w hx (hid (fun y hy u V hV=>sK S y u V (hR y hy) hV))
end Go.Proofs.YtaaggohjmhifbaaGreatDoor
