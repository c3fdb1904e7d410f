import Derived.Test.YtfeglkleoijlaaaGreatDoorY37
namespace Go.Proofs.YtfeglkleoijlaaaGreatDoor
open Go.RowKit Go.Shelf
set_option linter.unusedSimpArgs false
set_option linter.unusedVariables false
set_option maxRecDepth 20000
set_option maxHeartbeats 8000000
theorem Ur (w:World) (o1 o2:Obj):Below w.heap.size w ((w.alloc o1).alloc o2):=((Below.refl _ w).alloc (aaF _) o1).alloc (by simp) o2
theorem FQ (S:Nat→Prop):∀(N:Nat) (x:Ex) (v:Value) (w:World),SizeOf.sizeOf x<N→mO x→gH S w x v →
  Calls Tryz.prog 122 #[v] w fun e w'=>e = .returned (.bool (aF x))∧Below w.heap.size w w':=by
 intro N
 induction N with
 | zero=>intro x v w h;exact absurd h (Nat.not_lt_zero _)
 | succ N ih =>
 intro x v w hN hR hx
 obtain⟨k,op,tb,nm,vk,vn,vs,ys,aa,nn,cc,rfl,rfl,ha⟩:=hx
 obtain⟨_,_,_,_,_,_,r1,r2,r3,r4,r5,rx⟩:=hR
 dsimp only at r1 r2 r3
 obtain⟨a',c',hsl,_⟩:=ha.form
 simp only[aah] at hsl
 obtain⟨rfl,rfl,rfl⟩:=hsl
 rw[Am]
 have hlen:ys.length≤9223372036854775807:=by
  obtain⟨_,_,_,he,q1,q2,_⟩:=eZ ha
  simp only[aah] at he
  obtain⟨_,_,rfl⟩:=he
  unfold maxLen at q2
  omega
 have HA:Hid (∀V,Below w.heap.size w V→Calls Tryz.prog 123 #[.slice aa ys.length cc] V fun e w'=>e = .returned (.bool (ys.all aF))∧Below V.heap.size V w'):=hid (fun V hV=>Ay S ys _ V (ha.new hV) (hid (fun y hy u U hU=>ih y u U (by have:=List.sizeOf_lt_of_mem hy;simp at hN;omega) (rx y hy) hU)))
 have hgd:=Tryz.jV
 have hne : ∀w,(binOp .neq 46 (.agg #[.int .i64 vk,.int .i64 vn,.string (aj vs)]) (.agg #[.int .i64 0,.int .i64 0,.string ⟨#[]⟩])).run Tryz.prog w = .ok (.bool (!eqv ⟨vk,vn,vs⟩ zV)) w:=fun w=>IX ⟨vk,vn,vs⟩ zV w
 have het:=bf tb
 have hen:=bf nm
 have Qr:=hid (fun V=>xu vk vn vs V r1 r2 r3)
 have rM:=hid (fun V=>fA nm V r5)
 have mI:=hid (fun V=>fA tb V r4)
 have qw:=hid (Ur w)
 have K3:(op != 0) = !decide (op=0):=by by_cases h:op=0<;>simp[h]
 unfold aR EN oI
 rw[G5]
 clear ih rx ha hN r1 r2 r3 r4 r5
 generalize dV ⟨vk,vn,vs⟩=bv at Qr ⊢
 generalize eqv ⟨vk,vn,vs⟩ zV=z at hne ⊢
 generalize aU nm=bn at rM ⊢
 generalize aU tb=bt at mI ⊢
 generalize ys.all aF=ba at HA ⊢
 generalize decide (tb=[])=t0 at het ⊢
 generalize decide (nm=[])=n0 at hen ⊢
 generalize WJ:decide (op=0)=o0 at K3 ⊢
 by_cases hk1:k=1
 ·subst hk1
  rw[if_pos rfl]
  obtain⟨G,hG⟩:∃G,(bv&&(o0&&(t0&&(n0&&(true&&decide (ys.length=0))))))=G:=⟨_,rfl⟩
  rw[hG]
  have HG:=hid hG
  clear hG WJ rM mI HA hne
  cases t0 with
  |
   false =>
   have jq:Hid (G=false):=hid (by rw[← HG.out]<;>simp)
   go_enter Tryz.func122,Tryz.ntmps122
   go_wp2
   go_ret
   exact⟨by rw[jq.out];rfl,qw.out _ _⟩
  |
   true =>
   cases n0 with
   |
    false =>
    have jq:Hid (G=false):=hid (by rw[← HG.out]<;>simp)
    go_enter Tryz.func122,Tryz.ntmps122
    go_wp2
    go_ret
    exact⟨by rw[jq.out];rfl,qw.out _ _⟩
   |
    true =>
    cases o0 with
    |
     false =>
     have jq:Hid (G=false):=hid (by rw[← HG.out]<;>simp)
     go_enter Tryz.func122,Tryz.ntmps122
     go_wp2
     go_ret
     exact⟨by rw[jq.out];rfl,qw.out _ _⟩
    |
     true =>
     cases bv with
     |
      false =>
      by_cases hl:ys.length=0
      ·have hl':((ys.length:Int)==0)=true:=by rw[beq_iff_eq];omega
       rw[aar hl] at HG
       clear hl
       go_enter Tryz.func122,Tryz.ntmps122
       go_wp2_with fail
       obtain⟨U,hU,bB,jc,hcA,hcB⟩:=two w (.cells #[.int .i64 1,.int .i64 op,.string (aj tb),.string (aj nm),.int .i64 vk,.int .i64 vn,.string (aj vs),.slice aa ys.length cc] 48) (.cells #[.int .i64 0,.int .i64 0,.string ⟨#[]⟩] 46)
       rw[hU]
       have bS:=hid bB
       have dw:=hid hcA
       clear hU bB hcA hcB
       refine (Qr.out U).mono ?_
       rintro e w1 ⟨rfl,hb⟩
       have bP:Hid (Below U.heap.size U w1):=hid hb
       have ni:=aG ((bP.out.block w.heap.size (by omega)).trans dw.out)
       clear hb
       try clear uM
       go_wp2
       go_ret
       exact⟨by rw[← HG.out]<;>simp,bS.out.trans (bP.out.mono bS.out.size)⟩
      ·have hl':((ys.length:Int)==0)=false:=by rw[aai];omega
       rw[aaj hl] at HG
       clear hl
       go_enter Tryz.func122,Tryz.ntmps122
       go_wp2_with fail
       obtain⟨U,hU,bB,jc,hcA,hcB⟩:=two w (.cells #[.int .i64 1,.int .i64 op,.string (aj tb),.string (aj nm),.int .i64 vk,.int .i64 vn,.string (aj vs),.slice aa ys.length cc] 48) (.cells #[.int .i64 0,.int .i64 0,.string ⟨#[]⟩] 46)
       rw[hU]
       have bS:=hid bB
       have dw:=hid hcA
       clear hU bB hcA hcB
       refine (Qr.out U).mono ?_
       rintro e w1 ⟨rfl,hb⟩
       have bP:Hid (Below U.heap.size U w1):=hid hb
       have ni:=aG ((bP.out.block w.heap.size (by omega)).trans dw.out)
       clear hb
       try clear uM
       go_wp2
       go_ret
       exact⟨by rw[← HG.out]<;>simp,bS.out.trans (bP.out.mono bS.out.size)⟩
     |
      true =>
      by_cases hl:ys.length=0
      ·have hl':((ys.length:Int)==0)=true:=by rw[beq_iff_eq];omega
       rw[aar hl] at HG
       clear hl
       go_enter Tryz.func122,Tryz.ntmps122
       go_wp2_with fail
       obtain⟨U,hU,bB,jc,hcA,hcB⟩:=two w (.cells #[.int .i64 1,.int .i64 op,.string (aj tb),.string (aj nm),.int .i64 vk,.int .i64 vn,.string (aj vs),.slice aa ys.length cc] 48) (.cells #[.int .i64 0,.int .i64 0,.string ⟨#[]⟩] 46)
       rw[hU]
       have bS:=hid bB
       have dw:=hid hcA
       clear hU bB hcA hcB
       refine (Qr.out U).mono ?_
       rintro e w1 ⟨rfl,hb⟩
       have bP:Hid (Below U.heap.size U w1):=hid hb
       have ni:=aG ((bP.out.block w.heap.size (by omega)).trans dw.out)
       clear hb
       try clear uM
       go_wp2
       go_ret
       exact⟨by rw[← HG.out]<;>simp,bS.out.trans (bP.out.mono bS.out.size)⟩
      ·have hl':((ys.length:Int)==0)=false:=by rw[aai];omega
       rw[aaj hl] at HG
       clear hl
       go_enter Tryz.func122,Tryz.ntmps122
       go_wp2_with fail
       obtain⟨U,hU,bB,jc,hcA,hcB⟩:=two w (.cells #[.int .i64 1,.int .i64 op,.string (aj tb),.string (aj nm),.int .i64 vk,.int .i64 vn,.string (aj vs),.slice aa ys.length cc] 48) (.cells #[.int .i64 0,.int .i64 0,.string ⟨#[]⟩] 46)
       rw[hU]
       have bS:=hid bB
       have dw:=hid hcA
       clear hU bB hcA hcB
       refine (Qr.out U).mono ?_
       rintro e w1 ⟨rfl,hb⟩
       have bP:Hid (Below U.heap.size U w1):=hid hb
       have ni:=aG ((bP.out.block w.heap.size (by omega)).trans dw.out)
       clear hb
       try clear uM
       go_wp2
       go_ret
       exact⟨by rw[← HG.out]<;>simp,bS.out.trans (bP.out.mono bS.out.size)⟩
 ·rw[if_neg hk1]
  have Cc:(k==1)=false:=by simpa using hk1
  have Ls:(k != 1)=true:=by simpa using hk1
  by_cases hk2:k=2
  ·subst hk2
   rw[if_pos rfl]
   obtain⟨G,hG⟩:∃G,((bn&&(t0||bt))&&(o0&&(decide (([]:List UInt8)=[])&&(decide (([]:List UInt8)=[])&&(z&&decide (ys.length=0))))))=G:=⟨_,rfl⟩
   rw[hG]
   have HG:=hid hG
   clear hG WJ Qr HA hk1 Cc Ls
   cases z with
   |
    false =>
    have jq:Hid (G=false):=hid (by rw[← HG.out]<;>simp)
    go_enter Tryz.func122,Tryz.ntmps122
    go_wp2
    go_ret
    exact⟨by rw[jq.out];rfl,qw.out _ _⟩
   |
    true =>
    cases o0 with
    |
     false =>
     have jq:Hid (G=false):=hid (by rw[← HG.out]<;>simp)
     go_enter Tryz.func122,Tryz.ntmps122
     go_wp2
     go_ret
     exact⟨by rw[jq.out];rfl,qw.out _ _⟩
    |
     true =>
     cases bn with
     |
      false =>
      cases bt with
      |
       false =>
       cases t0 with
       |
        false =>
        by_cases hl:ys.length=0
        ·have hl':((ys.length:Int)==0)=true:=by rw[beq_iff_eq];omega
         rw[aar hl] at HG
         clear hl
         go_enter Tryz.func122,Tryz.ntmps122
         go_wp2_with fail
         obtain⟨U,hU,bB,jc,hcA,hcB⟩:=two w (.cells #[.int .i64 2,.int .i64 op,.string (aj tb),.string (aj nm),.int .i64 vk,.int .i64 vn,.string (aj vs),.slice aa ys.length cc] 48) (.cells #[.int .i64 0,.int .i64 0,.string ⟨#[]⟩] 46)
         rw[hU]
         have bS:=hid bB
         have dw:=hid hcA
         clear hU bB hcA hcB
         refine (rM.out U).mono ?_
         rintro e w1 ⟨rfl,hb⟩
         have bP:Hid (Below U.heap.size U w1):=hid hb
         have ni:=aG ((bP.out.block w.heap.size (by omega)).trans dw.out)
         clear hb
         try clear uM
         go_wp2_with fail
         refine (mI.out w1).mono ?_
         rintro e w2 ⟨rfl,hb⟩
         have fB:=htr bP hb
         have Hl:=aG ((fB.out.block w.heap.size (by omega)).trans dw.out)
         clear hb
         try clear ni
         go_wp2
         go_ret
         exact⟨by rw[← HG.out]<;>simp,bS.out.trans (fB.out.mono bS.out.size)⟩
        ·have hl':((ys.length:Int)==0)=false:=by rw[aai];omega
         rw[aaj hl] at HG
         clear hl
         go_enter Tryz.func122,Tryz.ntmps122
         go_wp2_with fail
         obtain⟨U,hU,bB,jc,hcA,hcB⟩:=two w (.cells #[.int .i64 2,.int .i64 op,.string (aj tb),.string (aj nm),.int .i64 vk,.int .i64 vn,.string (aj vs),.slice aa ys.length cc] 48) (.cells #[.int .i64 0,.int .i64 0,.string ⟨#[]⟩] 46)
         rw[hU]
         have bS:=hid bB
         have dw:=hid hcA
         clear hU bB hcA hcB
         refine (rM.out U).mono ?_
         rintro e w1 ⟨rfl,hb⟩
         have bP:Hid (Below U.heap.size U w1):=hid hb
         have ni:=aG ((bP.out.block w.heap.size (by omega)).trans dw.out)
         clear hb
         try clear uM
         go_wp2_with fail
         refine (mI.out w1).mono ?_
         rintro e w2 ⟨rfl,hb⟩
         have fB:=htr bP hb
         have Hl:=aG ((fB.out.block w.heap.size (by omega)).trans dw.out)
         clear hb
         try clear ni
         go_wp2
         go_ret
         exact⟨by rw[← HG.out]<;>simp,bS.out.trans (fB.out.mono bS.out.size)⟩
       |
        true =>
        by_cases hl:ys.length=0
        ·have hl':((ys.length:Int)==0)=true:=by rw[beq_iff_eq];omega
         rw[aar hl] at HG
         clear hl
         go_enter Tryz.func122,Tryz.ntmps122
         go_wp2_with fail
         obtain⟨U,hU,bB,jc,hcA,hcB⟩:=two w (.cells #[.int .i64 2,.int .i64 op,.string (aj tb),.string (aj nm),.int .i64 vk,.int .i64 vn,.string (aj vs),.slice aa ys.length cc] 48) (.cells #[.int .i64 0,.int .i64 0,.string ⟨#[]⟩] 46)
         rw[hU]
         have bS:=hid bB
         have dw:=hid hcA
         clear hU bB hcA hcB
         refine (rM.out U).mono ?_
         rintro e w1 ⟨rfl,hb⟩
         have bP:Hid (Below U.heap.size U w1):=hid hb
         have ni:=aG ((bP.out.block w.heap.size (by omega)).trans dw.out)
         clear hb
         try clear uM
         go_wp2_with fail
         refine (mI.out w1).mono ?_
         rintro e w2 ⟨rfl,hb⟩
         have fB:=htr bP hb
         have Hl:=aG ((fB.out.block w.heap.size (by omega)).trans dw.out)
         clear hb
         try clear ni
         go_wp2
         go_ret
         exact⟨by rw[← HG.out]<;>simp,bS.out.trans (fB.out.mono bS.out.size)⟩
        ·have hl':((ys.length:Int)==0)=false:=by rw[aai];omega
         rw[aaj hl] at HG
         clear hl
         go_enter Tryz.func122,Tryz.ntmps122
         go_wp2_with fail
         obtain⟨U,hU,bB,jc,hcA,hcB⟩:=two w (.cells #[.int .i64 2,.int .i64 op,.string (aj tb),.string (aj nm),.int .i64 vk,.int .i64 vn,.string (aj vs),.slice aa ys.length cc] 48) (.cells #[.int .i64 0,.int .i64 0,.string ⟨#[]⟩] 46)
         rw[hU]
         have bS:=hid bB
         have dw:=hid hcA
         clear hU bB hcA hcB
         refine (rM.out U).mono ?_
         rintro e w1 ⟨rfl,hb⟩
         have bP:Hid (Below U.heap.size U w1):=hid hb
         have ni:=aG ((bP.out.block w.heap.size (by omega)).trans dw.out)
         clear hb
         try clear uM
         go_wp2_with fail
         refine (mI.out w1).mono ?_
         rintro e w2 ⟨rfl,hb⟩
         have fB:=htr bP hb
         have Hl:=aG ((fB.out.block w.heap.size (by omega)).trans dw.out)
         clear hb
         try clear ni
         go_wp2
         go_ret
         exact⟨by rw[← HG.out]<;>simp,bS.out.trans (fB.out.mono bS.out.size)⟩
      |
       true =>
       cases t0 with
       |
        false =>
        by_cases hl:ys.length=0
        ·have hl':((ys.length:Int)==0)=true:=by rw[beq_iff_eq];omega
         rw[aar hl] at HG
         clear hl
         go_enter Tryz.func122,Tryz.ntmps122
         go_wp2_with fail
         obtain⟨U,hU,bB,jc,hcA,hcB⟩:=two w (.cells #[.int .i64 2,.int .i64 op,.string (aj tb),.string (aj nm),.int .i64 vk,.int .i64 vn,.string (aj vs),.slice aa ys.length cc] 48) (.cells #[.int .i64 0,.int .i64 0,.string ⟨#[]⟩] 46)
         rw[hU]
         have bS:=hid bB
         have dw:=hid hcA
         clear hU bB hcA hcB
         refine (rM.out U).mono ?_
         rintro e w1 ⟨rfl,hb⟩
         have bP:Hid (Below U.heap.size U w1):=hid hb
         have ni:=aG ((bP.out.block w.heap.size (by omega)).trans dw.out)
         clear hb
         try clear uM
         go_wp2_with fail
         refine (mI.out w1).mono ?_
         rintro e w2 ⟨rfl,hb⟩
         have fB:=htr bP hb
         have Hl:=aG ((fB.out.block w.heap.size (by omega)).trans dw.out)
         clear hb
         try clear ni
         go_wp2
         go_ret
         exact⟨by rw[← HG.out]<;>simp,bS.out.trans (fB.out.mono bS.out.size)⟩
        ·have hl':((ys.length:Int)==0)=false:=by rw[aai];omega
         rw[aaj hl] at HG
         clear hl
         go_enter Tryz.func122,Tryz.ntmps122
         go_wp2_with fail
         obtain⟨U,hU,bB,jc,hcA,hcB⟩:=two w (.cells #[.int .i64 2,.int .i64 op,.string (aj tb),.string (aj nm),.int .i64 vk,.int .i64 vn,.string (aj vs),.slice aa ys.length cc] 48) (.cells #[.int .i64 0,.int .i64 0,.string ⟨#[]⟩] 46)
         rw[hU]
         have bS:=hid bB
         have dw:=hid hcA
         clear hU bB hcA hcB
         refine (rM.out U).mono ?_
         rintro e w1 ⟨rfl,hb⟩
         have bP:Hid (Below U.heap.size U w1):=hid hb
         have ni:=aG ((bP.out.block w.heap.size (by omega)).trans dw.out)
         clear hb
         try clear uM
         go_wp2_with fail
         refine (mI.out w1).mono ?_
         rintro e w2 ⟨rfl,hb⟩
         have fB:=htr bP hb
         have Hl:=aG ((fB.out.block w.heap.size (by omega)).trans dw.out)
         clear hb
         try clear ni
         go_wp2
         go_ret
         exact⟨by rw[← HG.out]<;>simp,bS.out.trans (fB.out.mono bS.out.size)⟩
       |
        true =>
        by_cases hl:ys.length=0
        ·have hl':((ys.length:Int)==0)=true:=by rw[beq_iff_eq];omega
         rw[aar hl] at HG
         clear hl
         go_enter Tryz.func122,Tryz.ntmps122
         go_wp2_with fail
         obtain⟨U,hU,bB,jc,hcA,hcB⟩:=two w (.cells #[.int .i64 2,.int .i64 op,.string (aj tb),.string (aj nm),.int .i64 vk,.int .i64 vn,.string (aj vs),.slice aa ys.length cc] 48) (.cells #[.int .i64 0,.int .i64 0,.string ⟨#[]⟩] 46)
         rw[hU]
         have bS:=hid bB
         have dw:=hid hcA
         clear hU bB hcA hcB
         refine (rM.out U).mono ?_
         rintro e w1 ⟨rfl,hb⟩
         have bP:Hid (Below U.heap.size U w1):=hid hb
         have ni:=aG ((bP.out.block w.heap.size (by omega)).trans dw.out)
         clear hb
         try clear uM
         go_wp2_with fail
         refine (mI.out w1).mono ?_
         rintro e w2 ⟨rfl,hb⟩
         have fB:=htr bP hb
         have Hl:=aG ((fB.out.block w.heap.size (by omega)).trans dw.out)
         clear hb
         try clear ni
         go_wp2
         go_ret
         exact⟨by rw[← HG.out]<;>simp,bS.out.trans (fB.out.mono bS.out.size)⟩
        ·have hl':((ys.length:Int)==0)=false:=by rw[aai];omega
         rw[aaj hl] at HG
         clear hl
         go_enter Tryz.func122,Tryz.ntmps122
         go_wp2_with fail
         obtain⟨U,hU,bB,jc,hcA,hcB⟩:=two w (.cells #[.int .i64 2,.int .i64 op,.string (aj tb),.string (aj nm),.int .i64 vk,.int .i64 vn,.string (aj vs),.slice aa ys.length cc] 48) (.cells #[.int .i64 0,.int .i64 0,.string ⟨#[]⟩] 46)
         rw[hU]
         have bS:=hid bB
         have dw:=hid hcA
         clear hU bB hcA hcB
         refine (rM.out U).mono ?_
         rintro e w1 ⟨rfl,hb⟩
         have bP:Hid (Below U.heap.size U w1):=hid hb
         have ni:=aG ((bP.out.block w.heap.size (by omega)).trans dw.out)
         clear hb
         try clear uM
         go_wp2_with fail
         refine (mI.out w1).mono ?_
         rintro e w2 ⟨rfl,hb⟩
         have fB:=htr bP hb
         have Hl:=aG ((fB.out.block w.heap.size (by omega)).trans dw.out)
         clear hb
         try clear ni
         go_wp2
         go_ret
         exact⟨by rw[← HG.out]<;>simp,bS.out.trans (fB.out.mono bS.out.size)⟩
     |
      true =>
      cases bt with
      |
       false =>
       cases t0 with
       |
        false =>
        by_cases hl:ys.length=0
        ·have hl':((ys.length:Int)==0)=true:=by rw[beq_iff_eq];omega
         rw[aar hl] at HG
         clear hl
         go_enter Tryz.func122,Tryz.ntmps122
         go_wp2_with fail
         obtain⟨U,hU,bB,jc,hcA,hcB⟩:=two w (.cells #[.int .i64 2,.int .i64 op,.string (aj tb),.string (aj nm),.int .i64 vk,.int .i64 vn,.string (aj vs),.slice aa ys.length cc] 48) (.cells #[.int .i64 0,.int .i64 0,.string ⟨#[]⟩] 46)
         rw[hU]
         have bS:=hid bB
         have dw:=hid hcA
         clear hU bB hcA hcB
         refine (rM.out U).mono ?_
         rintro e w1 ⟨rfl,hb⟩
         have bP:Hid (Below U.heap.size U w1):=hid hb
         have ni:=aG ((bP.out.block w.heap.size (by omega)).trans dw.out)
         clear hb
         try clear uM
         go_wp2_with fail
         refine (mI.out w1).mono ?_
         rintro e w2 ⟨rfl,hb⟩
         have fB:=htr bP hb
         have Hl:=aG ((fB.out.block w.heap.size (by omega)).trans dw.out)
         clear hb
         try clear ni
         go_wp2
         go_ret
         exact⟨by rw[← HG.out]<;>simp,bS.out.trans (fB.out.mono bS.out.size)⟩
        ·have hl':((ys.length:Int)==0)=false:=by rw[aai];omega
         rw[aaj hl] at HG
         clear hl
         go_enter Tryz.func122,Tryz.ntmps122
         go_wp2_with fail
         obtain⟨U,hU,bB,jc,hcA,hcB⟩:=two w (.cells #[.int .i64 2,.int .i64 op,.string (aj tb),.string (aj nm),.int .i64 vk,.int .i64 vn,.string (aj vs),.slice aa ys.length cc] 48) (.cells #[.int .i64 0,.int .i64 0,.string ⟨#[]⟩] 46)
         rw[hU]
         have bS:=hid bB
         have dw:=hid hcA
         clear hU bB hcA hcB
         refine (rM.out U).mono ?_
         rintro e w1 ⟨rfl,hb⟩
         have bP:Hid (Below U.heap.size U w1):=hid hb
         have ni:=aG ((bP.out.block w.heap.size (by omega)).trans dw.out)
         clear hb
         try clear uM
         go_wp2_with fail
         refine (mI.out w1).mono ?_
         rintro e w2 ⟨rfl,hb⟩
         have fB:=htr bP hb
         have Hl:=aG ((fB.out.block w.heap.size (by omega)).trans dw.out)
         clear hb
         try clear ni
         go_wp2
         go_ret
         exact⟨by rw[← HG.out]<;>simp,bS.out.trans (fB.out.mono bS.out.size)⟩
       |
        true =>
        by_cases hl:ys.length=0
        ·have hl':((ys.length:Int)==0)=true:=by rw[beq_iff_eq];omega
         rw[aar hl] at HG
         clear hl
         go_enter Tryz.func122,Tryz.ntmps122
         go_wp2_with fail
         obtain⟨U,hU,bB,jc,hcA,hcB⟩:=two w (.cells #[.int .i64 2,.int .i64 op,.string (aj tb),.string (aj nm),.int .i64 vk,.int .i64 vn,.string (aj vs),.slice aa ys.length cc] 48) (.cells #[.int .i64 0,.int .i64 0,.string ⟨#[]⟩] 46)
         rw[hU]
         have bS:=hid bB
         have dw:=hid hcA
         clear hU bB hcA hcB
         refine (rM.out U).mono ?_
         rintro e w1 ⟨rfl,hb⟩
         have bP:Hid (Below U.heap.size U w1):=hid hb
         have ni:=aG ((bP.out.block w.heap.size (by omega)).trans dw.out)
         clear hb
         try clear uM
         go_wp2_with fail
         refine (mI.out w1).mono ?_
         rintro e w2 ⟨rfl,hb⟩
         have fB:=htr bP hb
         have Hl:=aG ((fB.out.block w.heap.size (by omega)).trans dw.out)
         clear hb
         try clear ni
         go_wp2
         go_ret
         exact⟨by rw[← HG.out]<;>simp,bS.out.trans (fB.out.mono bS.out.size)⟩
        ·have hl':((ys.length:Int)==0)=false:=by rw[aai];omega
         rw[aaj hl] at HG
         clear hl
         go_enter Tryz.func122,Tryz.ntmps122
         go_wp2_with fail
         obtain⟨U,hU,bB,jc,hcA,hcB⟩:=two w (.cells #[.int .i64 2,.int .i64 op,.string (aj tb),.string (aj nm),.int .i64 vk,.int .i64 vn,.string (aj vs),.slice aa ys.length cc] 48) (.cells #[.int .i64 0,.int .i64 0,.string ⟨#[]⟩] 46)
         rw[hU]
         have bS:=hid bB
         have dw:=hid hcA
         clear hU bB hcA hcB
         refine (rM.out U).mono ?_
         rintro e w1 ⟨rfl,hb⟩
         have bP:Hid (Below U.heap.size U w1):=hid hb
         have ni:=aG ((bP.out.block w.heap.size (by omega)).trans dw.out)
         clear hb
         try clear uM
         go_wp2_with fail
         refine (mI.out w1).mono ?_
         rintro e w2 ⟨rfl,hb⟩
         have fB:=htr bP hb
         have Hl:=aG ((fB.out.block w.heap.size (by omega)).trans dw.out)
         clear hb
         try clear ni
         go_wp2
         go_ret
         exact⟨by rw[← HG.out]<;>simp,bS.out.trans (fB.out.mono bS.out.size)⟩
      |
       true =>
       cases t0 with
       |
        false =>
        by_cases hl:ys.length=0
        ·have hl':((ys.length:Int)==0)=true:=by rw[beq_iff_eq];omega
         rw[aar hl] at HG
         clear hl
         go_enter Tryz.func122,Tryz.ntmps122
         go_wp2_with fail
         obtain⟨U,hU,bB,jc,hcA,hcB⟩:=two w (.cells #[.int .i64 2,.int .i64 op,.string (aj tb),.string (aj nm),.int .i64 vk,.int .i64 vn,.string (aj vs),.slice aa ys.length cc] 48) (.cells #[.int .i64 0,.int .i64 0,.string ⟨#[]⟩] 46)
         rw[hU]
         have bS:=hid bB
         have dw:=hid hcA
         clear hU bB hcA hcB
         refine (rM.out U).mono ?_
         rintro e w1 ⟨rfl,hb⟩
         have bP:Hid (Below U.heap.size U w1):=hid hb
         have ni:=aG ((bP.out.block w.heap.size (by omega)).trans dw.out)
         clear hb
         try clear uM
         go_wp2_with fail
         refine (mI.out w1).mono ?_
         rintro e w2 ⟨rfl,hb⟩
         have fB:=htr bP hb
         have Hl:=aG ((fB.out.block w.heap.size (by omega)).trans dw.out)
         clear hb
         try clear ni
         go_wp2
         go_ret
         exact⟨by rw[← HG.out]<;>simp,bS.out.trans (fB.out.mono bS.out.size)⟩
        ·have hl':((ys.length:Int)==0)=false:=by rw[aai];omega
         rw[aaj hl] at HG
         clear hl
         go_enter Tryz.func122,Tryz.ntmps122
         go_wp2_with fail
         obtain⟨U,hU,bB,jc,hcA,hcB⟩:=two w (.cells #[.int .i64 2,.int .i64 op,.string (aj tb),.string (aj nm),.int .i64 vk,.int .i64 vn,.string (aj vs),.slice aa ys.length cc] 48) (.cells #[.int .i64 0,.int .i64 0,.string ⟨#[]⟩] 46)
         rw[hU]
         have bS:=hid bB
         have dw:=hid hcA
         clear hU bB hcA hcB
         refine (rM.out U).mono ?_
         rintro e w1 ⟨rfl,hb⟩
         have bP:Hid (Below U.heap.size U w1):=hid hb
         have ni:=aG ((bP.out.block w.heap.size (by omega)).trans dw.out)
         clear hb
         try clear uM
         go_wp2_with fail
         refine (mI.out w1).mono ?_
         rintro e w2 ⟨rfl,hb⟩
         have fB:=htr bP hb
         have Hl:=aG ((fB.out.block w.heap.size (by omega)).trans dw.out)
         clear hb
         try clear ni
         go_wp2
         go_ret
         exact⟨by rw[← HG.out]<;>simp,bS.out.trans (fB.out.mono bS.out.size)⟩
       |
        true =>
        by_cases hl:ys.length=0
        ·have hl':((ys.length:Int)==0)=true:=by rw[beq_iff_eq];omega
         rw[aar hl] at HG
         clear hl
         go_enter Tryz.func122,Tryz.ntmps122
         go_wp2_with fail
         obtain⟨U,hU,bB,jc,hcA,hcB⟩:=two w (.cells #[.int .i64 2,.int .i64 op,.string (aj tb),.string (aj nm),.int .i64 vk,.int .i64 vn,.string (aj vs),.slice aa ys.length cc] 48) (.cells #[.int .i64 0,.int .i64 0,.string ⟨#[]⟩] 46)
         rw[hU]
         have bS:=hid bB
         have dw:=hid hcA
         clear hU bB hcA hcB
         refine (rM.out U).mono ?_
         rintro e w1 ⟨rfl,hb⟩
         have bP:Hid (Below U.heap.size U w1):=hid hb
         have ni:=aG ((bP.out.block w.heap.size (by omega)).trans dw.out)
         clear hb
         try clear uM
         go_wp2_with fail
         refine (mI.out w1).mono ?_
         rintro e w2 ⟨rfl,hb⟩
         have fB:=htr bP hb
         have Hl:=aG ((fB.out.block w.heap.size (by omega)).trans dw.out)
         clear hb
         try clear ni
         go_wp2
         go_ret
         exact⟨by rw[← HG.out]<;>simp,bS.out.trans (fB.out.mono bS.out.size)⟩
        ·have hl':((ys.length:Int)==0)=false:=by rw[aai];omega
         rw[aaj hl] at HG
         clear hl
         go_enter Tryz.func122,Tryz.ntmps122
         go_wp2_with fail
         obtain⟨U,hU,bB,jc,hcA,hcB⟩:=two w (.cells #[.int .i64 2,.int .i64 op,.string (aj tb),.string (aj nm),.int .i64 vk,.int .i64 vn,.string (aj vs),.slice aa ys.length cc] 48) (.cells #[.int .i64 0,.int .i64 0,.string ⟨#[]⟩] 46)
         rw[hU]
         have bS:=hid bB
         have dw:=hid hcA
         clear hU bB hcA hcB
         refine (rM.out U).mono ?_
         rintro e w1 ⟨rfl,hb⟩
         have bP:Hid (Below U.heap.size U w1):=hid hb
         have ni:=aG ((bP.out.block w.heap.size (by omega)).trans dw.out)
         clear hb
         try clear uM
         go_wp2_with fail
         refine (mI.out w1).mono ?_
         rintro e w2 ⟨rfl,hb⟩
         have fB:=htr bP hb
         have Hl:=aG ((fB.out.block w.heap.size (by omega)).trans dw.out)
         clear hb
         try clear ni
         go_wp2
         go_ret
         exact⟨by rw[← HG.out]<;>simp,bS.out.trans (fB.out.mono bS.out.size)⟩
  ·rw[if_neg hk2]
   have Cj:(k==2)=false:=by simpa using hk2
   have RV:(k != 2)=true:=by simpa using hk2
   by_cases hk3:k=3
   ·subst hk3
    rw[if_pos rfl]
    obtain⟨G,hG⟩:∃G,((decide (1≤op∧op≤13)&&(decide (2≤ys.length∧ys.length≤2)&&ba))&&(decide ((0:Int)=0)&&(t0&&(n0&&(z&&decide ((0:Nat)=0))))))=G:=⟨_,rfl⟩
    rw[hG]
    have HG:=hid hG
    clear hG WJ K3 Qr rM mI hk1 Cc Ls hk2 Cj RV
    cases z with
    |
     false =>
     have jq:Hid (G=false):=hid (by rw[← HG.out]<;>simp)
     go_enter Tryz.func122,Tryz.ntmps122
     go_wp2
     go_ret
     exact⟨by rw[jq.out];rfl,qw.out _ _⟩
    |
     true =>
     cases t0 with
     |
      false =>
      have jq:Hid (G=false):=hid (by rw[← HG.out]<;>simp)
      go_enter Tryz.func122,Tryz.ntmps122
      go_wp2
      go_ret
      exact⟨by rw[jq.out];rfl,qw.out _ _⟩
     |
      true =>
      cases n0 with
      |
       false =>
       have jq:Hid (G=false):=hid (by rw[← HG.out]<;>simp)
       go_enter Tryz.func122,Tryz.ntmps122
       go_wp2
       go_ret
       exact⟨by rw[jq.out];rfl,qw.out _ _⟩
      |
       true =>
       by_cases ho1:1≤op
       ·have acU : ¬(op<1):=by omega
        by_cases ho2:op≤13
        ·have acB : ¬(13<op):=by omega
         rw[aar (show 1≤op∧op≤13 from ⟨ho1,ho2⟩)] at HG
         clear ho1 ho2
         by_cases hl:ys.length=2
         ·have hl':((ys.length:Int)==2)=true:=by rw[beq_iff_eq];omega
          rw[aar (show 2≤ys.length∧ys.length≤2 by omega)] at HG
          clear hl
          cases ba with
          |
           false =>
           go_enter Tryz.func122,Tryz.ntmps122
           go_wp2_with fail
           obtain⟨U,hU,bB,jc,hcA,hcB⟩:=two w (.cells #[.int .i64 3,.int .i64 op,.string (aj tb),.string (aj nm),.int .i64 vk,.int .i64 vn,.string (aj vs),.slice aa ys.length cc] 48) (.cells #[.int .i64 0,.int .i64 0,.string ⟨#[]⟩] 46)
           rw[hU]
           have bS:=hid bB
           have dw:=hid hcA
           have HC:=hid (HA.out U bB)
           clear hU bB hcA hcB
           refine HC.out.mono ?_
           rintro e w1 ⟨rfl,hb⟩
           have bP:Hid (Below U.heap.size U w1):=hid hb
           have ni:=aG ((bP.out.block w.heap.size (by omega)).trans dw.out)
           clear hb
           try clear uM
           go_wp2
           go_ret
           exact⟨by rw[← HG.out]<;>simp,bS.out.trans (bP.out.mono bS.out.size)⟩
          |
           true =>
           go_enter Tryz.func122,Tryz.ntmps122
           go_wp2_with fail
           obtain⟨U,hU,bB,jc,hcA,hcB⟩:=two w (.cells #[.int .i64 3,.int .i64 op,.string (aj tb),.string (aj nm),.int .i64 vk,.int .i64 vn,.string (aj vs),.slice aa ys.length cc] 48) (.cells #[.int .i64 0,.int .i64 0,.string ⟨#[]⟩] 46)
           rw[hU]
           have bS:=hid bB
           have dw:=hid hcA
           have HC:=hid (HA.out U bB)
           clear hU bB hcA hcB
           refine HC.out.mono ?_
           rintro e w1 ⟨rfl,hb⟩
           have bP:Hid (Below U.heap.size U w1):=hid hb
           have ni:=aG ((bP.out.block w.heap.size (by omega)).trans dw.out)
           clear hb
           try clear uM
           go_wp2
           go_ret
           exact⟨by rw[← HG.out]<;>simp,bS.out.trans (bP.out.mono bS.out.size)⟩
         ·have hl':((ys.length:Int)==2)=false:=by rw[aai];omega
          rw[aaj (show ¬(2≤ys.length∧ys.length≤2) by omega)] at HG
          clear hl
          have jq:Hid (G=false):=hid (by rw[← HG.out]<;>simp)
          go_enter Tryz.func122,Tryz.ntmps122
          go_wp2
          go_ret
          exact⟨by rw[jq.out];rfl,qw.out _ _⟩
        ·have acB:13<op:=by omega
         rw[aaj (show ¬(1≤op∧op≤13) by omega)] at HG
         clear ho1 ho2
         have jq:Hid (G=false):=hid (by rw[← HG.out]<;>simp)
         go_enter Tryz.func122,Tryz.ntmps122
         go_wp2
         go_ret
         exact⟨by rw[jq.out];rfl,qw.out _ _⟩
       ·have acU:op<1:=by omega
        rw[aaj (show ¬(1≤op∧op≤13) by omega)] at HG
        clear ho1
        have jq:Hid (G=false):=hid (by rw[← HG.out]<;>simp)
        go_enter Tryz.func122,Tryz.ntmps122
        go_wp2
        go_ret
        exact⟨by rw[jq.out];rfl,qw.out _ _⟩
   ·rw[if_neg hk3]
    have LM:(k==3)=false:=by simpa using hk3
    have Yg:(k != 3)=true:=by simpa using hk3
    by_cases hk4:k=4∨k=5∨k=6
    ·rw[if_pos hk4]
     obtain⟨G,hG⟩:∃G,((decide (1≤ys.length∧ys.length≤1)&&ba)&&(o0&&(t0&&(n0&&(z&&decide ((0:Nat)=0))))))=G:=⟨_,rfl⟩
     rw[hG]
     have HG:=hid hG
     clear hG WJ Qr rM mI hk1 Cc Ls hk2 Cj RV hk3 LM Yg
     rcases hk4 with rfl | rfl | rfl
     ·skip
      cases z with
      |
       false =>
       have jq:Hid (G=false):=hid (by rw[← HG.out]<;>simp)
       go_enter Tryz.func122,Tryz.ntmps122
       go_wp2
       go_ret
       exact⟨by rw[jq.out];rfl,qw.out _ _⟩
      |
       true =>
       cases t0 with
       |
        false =>
        have jq:Hid (G=false):=hid (by rw[← HG.out]<;>simp)
        go_enter Tryz.func122,Tryz.ntmps122
        go_wp2
        go_ret
        exact⟨by rw[jq.out];rfl,qw.out _ _⟩
       |
        true =>
        cases n0 with
        |
         false =>
         have jq:Hid (G=false):=hid (by rw[← HG.out]<;>simp)
         go_enter Tryz.func122,Tryz.ntmps122
         go_wp2
         go_ret
         exact⟨by rw[jq.out];rfl,qw.out _ _⟩
        |
         true =>
         cases o0 with
         |
          false =>
          have jq:Hid (G=false):=hid (by rw[← HG.out]<;>simp)
          go_enter Tryz.func122,Tryz.ntmps122
          go_wp2
          go_ret
          exact⟨by rw[jq.out];rfl,qw.out _ _⟩
         |
          true =>
          by_cases hl:ys.length=1
          ·have hl':((ys.length:Int)==1)=true:=by rw[beq_iff_eq];omega
           rw[aar (show 1≤ys.length∧ys.length≤1 by omega)] at HG
           clear hl
           cases ba with
           |
            false =>
            go_enter Tryz.func122,Tryz.ntmps122
            go_wp2_with fail
            obtain⟨U,hU,bB,jc,hcA,hcB⟩:=two w (.cells #[.int .i64 4,.int .i64 op,.string (aj tb),.string (aj nm),.int .i64 vk,.int .i64 vn,.string (aj vs),.slice aa ys.length cc] 48) (.cells #[.int .i64 0,.int .i64 0,.string ⟨#[]⟩] 46)
            rw[hU]
            have bS:=hid bB
            have dw:=hid hcA
            have HC:=hid (HA.out U bB)
            clear hU bB hcA hcB
            refine HC.out.mono ?_
            rintro e w1 ⟨rfl,hb⟩
            have bP:Hid (Below U.heap.size U w1):=hid hb
            have ni:=aG ((bP.out.block w.heap.size (by omega)).trans dw.out)
            clear hb
            try clear uM
            go_wp2
            go_ret
            exact⟨by rw[← HG.out]<;>simp,bS.out.trans (bP.out.mono bS.out.size)⟩
           |
            true =>
            go_enter Tryz.func122,Tryz.ntmps122
            go_wp2_with fail
            obtain⟨U,hU,bB,jc,hcA,hcB⟩:=two w (.cells #[.int .i64 4,.int .i64 op,.string (aj tb),.string (aj nm),.int .i64 vk,.int .i64 vn,.string (aj vs),.slice aa ys.length cc] 48) (.cells #[.int .i64 0,.int .i64 0,.string ⟨#[]⟩] 46)
            rw[hU]
            have bS:=hid bB
            have dw:=hid hcA
            have HC:=hid (HA.out U bB)
            clear hU bB hcA hcB
            refine HC.out.mono ?_
            rintro e w1 ⟨rfl,hb⟩
            have bP:Hid (Below U.heap.size U w1):=hid hb
            have ni:=aG ((bP.out.block w.heap.size (by omega)).trans dw.out)
            clear hb
            try clear uM
            go_wp2
            go_ret
            exact⟨by rw[← HG.out]<;>simp,bS.out.trans (bP.out.mono bS.out.size)⟩
          ·have hl':((ys.length:Int)==1)=false:=by rw[aai];omega
           rw[aaj (show ¬(1≤ys.length∧ys.length≤1) by omega)] at HG
           clear hl
           have jq:Hid (G=false):=hid (by rw[← HG.out]<;>simp)
           go_enter Tryz.func122,Tryz.ntmps122
           go_wp2
           go_ret
           exact⟨by rw[jq.out];rfl,qw.out _ _⟩
     ·skip
      cases z with
      |
       false =>
       have jq:Hid (G=false):=hid (by rw[← HG.out]<;>simp)
       go_enter Tryz.func122,Tryz.ntmps122
       go_wp2
       go_ret
       exact⟨by rw[jq.out];rfl,qw.out _ _⟩
      |
       true =>
       cases t0 with
       |
        false =>
        have jq:Hid (G=false):=hid (by rw[← HG.out]<;>simp)
        go_enter Tryz.func122,Tryz.ntmps122
        go_wp2
        go_ret
        exact⟨by rw[jq.out];rfl,qw.out _ _⟩
       |
        true =>
        cases n0 with
        |
         false =>
         have jq:Hid (G=false):=hid (by rw[← HG.out]<;>simp)
         go_enter Tryz.func122,Tryz.ntmps122
         go_wp2
         go_ret
         exact⟨by rw[jq.out];rfl,qw.out _ _⟩
        |
         true =>
         cases o0 with
         |
          false =>
          have jq:Hid (G=false):=hid (by rw[← HG.out]<;>simp)
          go_enter Tryz.func122,Tryz.ntmps122
          go_wp2
          go_ret
          exact⟨by rw[jq.out];rfl,qw.out _ _⟩
         |
          true =>
          by_cases hl:ys.length=1
          ·have hl':((ys.length:Int)==1)=true:=by rw[beq_iff_eq];omega
           rw[aar (show 1≤ys.length∧ys.length≤1 by omega)] at HG
           clear hl
           cases ba with
           |
            false =>
            go_enter Tryz.func122,Tryz.ntmps122
            go_wp2_with fail
            obtain⟨U,hU,bB,jc,hcA,hcB⟩:=two w (.cells #[.int .i64 5,.int .i64 op,.string (aj tb),.string (aj nm),.int .i64 vk,.int .i64 vn,.string (aj vs),.slice aa ys.length cc] 48) (.cells #[.int .i64 0,.int .i64 0,.string ⟨#[]⟩] 46)
            rw[hU]
            have bS:=hid bB
            have dw:=hid hcA
            have HC:=hid (HA.out U bB)
            clear hU bB hcA hcB
            refine HC.out.mono ?_
            rintro e w1 ⟨rfl,hb⟩
            have bP:Hid (Below U.heap.size U w1):=hid hb
            have ni:=aG ((bP.out.block w.heap.size (by omega)).trans dw.out)
            clear hb
            try clear uM
            go_wp2
            go_ret
            exact⟨by rw[← HG.out]<;>simp,bS.out.trans (bP.out.mono bS.out.size)⟩
           |
            true =>
            go_enter Tryz.func122,Tryz.ntmps122
            go_wp2_with fail
            obtain⟨U,hU,bB,jc,hcA,hcB⟩:=two w (.cells #[.int .i64 5,.int .i64 op,.string (aj tb),.string (aj nm),.int .i64 vk,.int .i64 vn,.string (aj vs),.slice aa ys.length cc] 48) (.cells #[.int .i64 0,.int .i64 0,.string ⟨#[]⟩] 46)
            rw[hU]
            have bS:=hid bB
            have dw:=hid hcA
            have HC:=hid (HA.out U bB)
            clear hU bB hcA hcB
            refine HC.out.mono ?_
            rintro e w1 ⟨rfl,hb⟩
            have bP:Hid (Below U.heap.size U w1):=hid hb
            have ni:=aG ((bP.out.block w.heap.size (by omega)).trans dw.out)
            clear hb
            try clear uM
            go_wp2
            go_ret
            exact⟨by rw[← HG.out]<;>simp,bS.out.trans (bP.out.mono bS.out.size)⟩
          ·have hl':((ys.length:Int)==1)=false:=by rw[aai];omega
           rw[aaj (show ¬(1≤ys.length∧ys.length≤1) by omega)] at HG
           clear hl
           have jq:Hid (G=false):=hid (by rw[← HG.out]<;>simp)
           go_enter Tryz.func122,Tryz.ntmps122
           go_wp2
           go_ret
           exact⟨by rw[jq.out];rfl,qw.out _ _⟩
     ·skip
      cases z with
      |
       false =>
       have jq:Hid (G=false):=hid (by rw[← HG.out]<;>simp)
       go_enter Tryz.func122,Tryz.ntmps122
       go_wp2
       go_ret
       exact⟨by rw[jq.out];rfl,qw.out _ _⟩
      |
       true =>
       cases t0 with
       |
        false =>
        have jq:Hid (G=false):=hid (by rw[← HG.out]<;>simp)
        go_enter Tryz.func122,Tryz.ntmps122
        go_wp2
        go_ret
        exact⟨by rw[jq.out];rfl,qw.out _ _⟩
       |
        true =>
        cases n0 with
        |
         false =>
         have jq:Hid (G=false):=hid (by rw[← HG.out]<;>simp)
         go_enter Tryz.func122,Tryz.ntmps122
         go_wp2
         go_ret
         exact⟨by rw[jq.out];rfl,qw.out _ _⟩
        |
         true =>
         cases o0 with
         |
          false =>
          have jq:Hid (G=false):=hid (by rw[← HG.out]<;>simp)
          go_enter Tryz.func122,Tryz.ntmps122
          go_wp2
          go_ret
          exact⟨by rw[jq.out];rfl,qw.out _ _⟩
         |
          true =>
          by_cases hl:ys.length=1
          ·have hl':((ys.length:Int)==1)=true:=by rw[beq_iff_eq];omega
           rw[aar (show 1≤ys.length∧ys.length≤1 by omega)] at HG
           clear hl
           cases ba with
           |
            false =>
            go_enter Tryz.func122,Tryz.ntmps122
            go_wp2_with fail
            obtain⟨U,hU,bB,jc,hcA,hcB⟩:=two w (.cells #[.int .i64 6,.int .i64 op,.string (aj tb),.string (aj nm),.int .i64 vk,.int .i64 vn,.string (aj vs),.slice aa ys.length cc] 48) (.cells #[.int .i64 0,.int .i64 0,.string ⟨#[]⟩] 46)
            rw[hU]
            have bS:=hid bB
            have dw:=hid hcA
            have HC:=hid (HA.out U bB)
            clear hU bB hcA hcB
            refine HC.out.mono ?_
            rintro e w1 ⟨rfl,hb⟩
            have bP:Hid (Below U.heap.size U w1):=hid hb
            have ni:=aG ((bP.out.block w.heap.size (by omega)).trans dw.out)
            clear hb
            try clear uM
            go_wp2
            go_ret
            exact⟨by rw[← HG.out]<;>simp,bS.out.trans (bP.out.mono bS.out.size)⟩
           |
            true =>
            go_enter Tryz.func122,Tryz.ntmps122
            go_wp2_with fail
            obtain⟨U,hU,bB,jc,hcA,hcB⟩:=two w (.cells #[.int .i64 6,.int .i64 op,.string (aj tb),.string (aj nm),.int .i64 vk,.int .i64 vn,.string (aj vs),.slice aa ys.length cc] 48) (.cells #[.int .i64 0,.int .i64 0,.string ⟨#[]⟩] 46)
            rw[hU]
            have bS:=hid bB
            have dw:=hid hcA
            have HC:=hid (HA.out U bB)
            clear hU bB hcA hcB
            refine HC.out.mono ?_
            rintro e w1 ⟨rfl,hb⟩
            have bP:Hid (Below U.heap.size U w1):=hid hb
            have ni:=aG ((bP.out.block w.heap.size (by omega)).trans dw.out)
            clear hb
            try clear uM
            go_wp2
            go_ret
            exact⟨by rw[← HG.out]<;>simp,bS.out.trans (bP.out.mono bS.out.size)⟩
          ·have hl':((ys.length:Int)==1)=false:=by rw[aai];omega
           rw[aaj (show ¬(1≤ys.length∧ys.length≤1) by omega)] at HG
           clear hl
           have jq:Hid (G=false):=hid (by rw[← HG.out]<;>simp)
           go_enter Tryz.func122,Tryz.ntmps122
           go_wp2
           go_ret
           exact⟨by rw[jq.out];rfl,qw.out _ _⟩
    ·rw[if_neg hk4]
     have h4:(k==4)=false:=by rw[aai];omega
     have h5:(k==5)=false:=by rw[aai];omega
     have h6:(k==6)=false:=by rw[aai];omega
     clear WJ Qr rM mI HA hk1 hk2 hk3 hk4
     obtain⟨G,hG⟩:∃G:Bool,false=G:=⟨_,rfl⟩
     rw[hG]
     have HG:=hid hG
     clear hG
     cases z with
     |
      false =>
      have jq:Hid (G=false):=hid (by rw[← HG.out]<;>simp)
      go_enter Tryz.func122,Tryz.ntmps122
      go_wp2
      go_ret
      exact⟨by rw[jq.out];rfl,qw.out _ _⟩
     |
      true =>
      cases t0 with
      |
       false =>
       have jq:Hid (G=false):=hid (by rw[← HG.out]<;>simp)
       go_enter Tryz.func122,Tryz.ntmps122
       go_wp2
       go_ret
       exact⟨by rw[jq.out];rfl,qw.out _ _⟩
      |
       true =>
       cases n0 with
       |
        false =>
        have jq:Hid (G=false):=hid (by rw[← HG.out]<;>simp)
        go_enter Tryz.func122,Tryz.ntmps122
        go_wp2
        go_ret
        exact⟨by rw[jq.out];rfl,qw.out _ _⟩
       |
        true =>
        cases o0 with
        |
         false =>
         have jq:Hid (G=false):=hid (by rw[← HG.out]<;>simp)
         go_enter Tryz.func122,Tryz.ntmps122
         go_wp2
         go_ret
         exact⟨by rw[jq.out];rfl,qw.out _ _⟩
        |
         true =>
         have jq:Hid (G=false):=hid (by rw[← HG.out]<;>simp)
         go_enter Tryz.func122,Tryz.ntmps122
         go_wp2
         go_ret
         exact⟨by rw[jq.out];rfl,qw.out _ _⟩
theorem vG (S:Nat→Prop) (x:Ex) (v:Value) (w:World) (hR:mO x) (hx:gH S w x v):Calls Tryz.prog 122 #[v] w fun e w'=>e = .returned (.bool (aF x))∧Below w.heap.size w w' :=
 FQ S _ x v w (Nat.lt_succ_self _) hR hx
theorem uV (S:Nat→Prop) (xs:List Ex) (v:Value) (w:World) (hR : ∀x∈xs,mO x) (hx:bA S w xs v):Calls Tryz.prog 123 #[v] w fun e w'=>e = .returned (.bool (xs.all aF))∧Below w.heap.size w w' :=
 Ay S xs v w hx (hid (fun y hy u V hV=>vG S y u V (hR y hy) hV))
end Go.Proofs.YtfeglkleoijlaaaGreatDoor
