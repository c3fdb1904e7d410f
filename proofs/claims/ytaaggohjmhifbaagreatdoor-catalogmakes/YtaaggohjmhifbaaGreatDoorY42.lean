/- Packed for the hand-in: RefJ0 RefJ1 RefJ2 -/
import Derived.Test.YtaaggohjmhifbaaGreatDoorY21
import Derived.Test.YtaaggohjmhifbaaGreatDoorY03
import Derived.Deep.RegionWith
import Derived.Lib.ItoaMem
import Derived.Lib.Strings
namespace Go.Proofs.YtaaggohjmhifbaaGreatDoor
open Go.RowKit Go.Shelf
set_option linter.unusedSimpArgs false
set_option linter.unusedVariables false
set_option maxRecDepth 20000
set_option maxHeartbeats 8000000
theorem CX (n:Int):fV ⟨1,n,[]⟩=0:=by
 have:eqv ⟨1,n,[]⟩ (kL ⟨1,n,[]⟩)=true:=by rw[lC];rfl
 rw[fV,if_neg (by rw[this];simp)]
 rfl
theorem BL (s:List UInt8):fV ⟨2,0,s⟩=if 40<s.length then 2 else 0:=by
 have:eqv ⟨2,0,s⟩ (kL ⟨2,0,s⟩)=true:=by rw[lC];rfl
 rw[fV,if_neg (by rw[this];simp)]
theorem j3 {k n:Int} {s:List UInt8} (h : ¬(k=0∧n=0∧s=[]∨k=1∧s=[]∨k=2∧n=0)):fV ⟨k,n,s⟩=4:=by
 have : ¬eqv ⟨k,n,s⟩ (kL ⟨k,n,s⟩)=true:=by
  rw[lC]
  intro e
  unfold kL at e
  dsimp only at e
  split at e
  ·simp only[Vl.mk.injEq] at e;exact h (.inr (.inl ⟨e.1,e.2.2⟩))
  ·split at e
   ·simp only[Vl.mk.injEq] at e;exact h (.inr (.inr ⟨e.1,e.2.1⟩))
   ·simp only[Vl.mk.injEq] at e;exact h (.inl e)
 rw[fV,if_pos (by simpa using this)]
theorem Er (s:List UInt8):(ah s).toList.isEmpty=decide (s=[]):=by
 rw[dx]
 cases s<;>simp
theorem BG (k n:Int) (s:List UInt8) (w:World) (hs:s.length≤9223372036854775807) :
  Calls Tryz.prog 152 #[.agg #[.int .i64 k,.int .i64 n,.string (ah s)]] w fun e w'=>e = .returned (.int .i64 (fV ⟨k,n,s⟩))∧Below w.heap.size w w':=by
 have hb:Hid (∀(o:Obj),Below w.heap.size w (w.alloc o)):=hid fun o=>(Below.refl _ _).alloc (Nat.le_refl _) _
 have he:=Er s
 by_cases hk0:k<0
 ·have hd:=j3 (k:=k) (n:=n) (s:=s) (by omega)
  rw[hd]
  have hk0':decide (k<0)=true:=decide_eq_true hk0
  clear hd he
  go_enter Tryz.func152,Tryz.ntmps152
  go_wp2
  go_ret
  exact⟨rfl,hb.out _⟩
 ·have hk0':decide (k<0)=false:=decide_eq_false hk0
  by_cases hk2:2<k
  ·have hd:=j3 (k:=k) (n:=n) (s:=s) (by omega)
   rw[hd]
   have hk2':decide (2<k)=true:=decide_eq_true hk2
   clear hd he
   go_enter Tryz.func152,Tryz.ntmps152
   go_wp2
   go_ret
   exact⟨rfl,hb.out _⟩
  ·obtain rfl | rfl | rfl:k=0∨k=1∨k=2:=by omega
   ·clear hk0 hk0' hk2
    by_cases hn:n=0
    ·subst hn
     by_cases hs0:s=[]
     ·subst hs0
      rw[show fV ⟨0,0,[]⟩=0 from rfl,show ah []=⟨#[]⟩ from rfl]
      clear he
      go_enter Tryz.func152,Tryz.ntmps152
      go_wp2
      go_ret
      exact⟨rfl,hb.out _⟩
     ·rw[j3 (k:=0) (n:=0) (s:=s) (by simp[hs0])]
      rw[decide_eq_false hs0] at he
      go_enter Tryz.func152,Tryz.ntmps152
      go_wp2
      go_ret
      exact⟨rfl,hb.out _⟩
    ·rw[j3 (k:=0) (n:=n) (s:=s) (by simp[hn])]
     have hn1:(n==0)=false:=by simpa using hn
     have hn2:(n != 0)=true:=by simpa using hn
     clear he
     go_enter Tryz.func152,Tryz.ntmps152
     go_wp2
     go_ret
     exact⟨rfl,hb.out _⟩
   ·clear hk0 hk0' hk2
    by_cases hs0:s=[]
    ·subst hs0
     rw[CX,show ah []=⟨#[]⟩ from rfl]
     clear he
     go_enter Tryz.func152,Tryz.ntmps152
     go_wp2
     go_ret
     exact⟨rfl,hb.out _⟩
    ·rw[j3 (k:=1) (n:=n) (s:=s) (by simp[hs0])]
     rw[decide_eq_false hs0] at he
     go_enter Tryz.func152,Tryz.ntmps152
     go_wp2
     go_ret
     exact⟨rfl,hb.out _⟩
   ·clear hk0 hk0' hk2
    by_cases hn:n=0
    ·subst hn
     rw[BL]
     clear he
     by_cases hl:40<s.length
     ·have hl':(40:Int)<((ah s).size:Int):=by rw[cu];omega
      rw[if_pos hl]
      go_enter Tryz.func152,Tryz.ntmps152
      go_wp2
      go_ret
      exact⟨rfl,hb.out _⟩
     ·have hl' : ¬((40:Int)<((ah s).size:Int)):=by rw[cu];omega
      rw[if_neg hl]
      go_enter Tryz.func152,Tryz.ntmps152
      go_wp2
      go_ret
      exact⟨rfl,hb.out _⟩
    ·rw[j3 (k:=2) (n:=n) (s:=s) (by simp[hn])]
     have hn1:(n==0)=false:=by simpa using hn
     have hn2:(n != 0)=true:=by simpa using hn
     clear he
     go_enter Tryz.func152,Tryz.ntmps152
     go_wp2
     go_ret
     exact⟨rfl,hb.out _⟩
theorem Fx (c:UInt8):bK eY c=(decide (97≤c.toNat∧c.toNat≤122)||decide (c.toNat=95)):=by
 have : ∀n:Fin 256,bK eY (UInt8.ofNat n.1)=(decide (97≤n.1∧n.1≤122)||decide (n.1=95)):=by decide +kernel
 have h:=this ⟨c.toNat,c.toNat_lt⟩
 simpa using h
theorem EM (c:UInt8):bK bU c=decide (48≤c.toNat∧c.toNat≤57):=by
 have : ∀n:Fin 256,bK bU (UInt8.ofNat n.1)=decide (48≤n.1∧n.1≤57):=by decide +kernel
 have h:=this ⟨c.toNat,c.toNat_lt⟩
 simpa using h
theorem Df (c:UInt8):bK bS c=(bK eY c||bK bU c):=by
 have : ∀n:Fin 256,bK bS (UInt8.ofNat n.1)=(bK eY (UInt8.ofNat n.1)||bK bU (UInt8.ofNat n.1)):=by decide +kernel
 have h:=this ⟨c.toNat,c.toNat_lt⟩
 simpa using h
theorem wM (c:UInt8) (w:World):Calls Tryz.prog 80 #[.int .u8 (c.toNat:Int)] w fun e w'=>e = .returned (.bool (bK eY c))∧w'=w:=by
 rw[Fx]
 generalize c.toNat=n
 by_cases h1:97≤n
 ·have h1':((97:Int)≤(n:Int)):=by omega
  by_cases h2:n≤122
  ·have h2':((n:Int)≤122):=by omega
   rw[decide_eq_true ⟨h1,h2⟩,Bool.true_or]
   clear h1 h2
   generalize (n:Int)=m at h1' h2' ⊢
   go_enter Tryz.func80,Tryz.ntmps80
   go_wp2
   go_ret
   exact⟨rfl,rfl⟩
  ·have h2' : ¬((n:Int)≤122):=by omega
   have h3:(((n:Int))==95)=false:=by rw[beq_eq_false_iff_ne];omega
   rw[decide_eq_false (fun h=>h2 h.2),decide_eq_false (by omega),Bool.false_or]
   clear h1 h2
   generalize (n:Int)=m at h1' h2' h3 ⊢
   go_enter Tryz.func80,Tryz.ntmps80
   go_wp2
   go_ret
   exact⟨rfl,rfl⟩
 ·have h1' : ¬((97:Int)≤(n:Int)):=by omega
  rw[decide_eq_false (fun h=>h1 h.1),Bool.false_or]
  by_cases h3:n=95
  ·subst h3
   go_enter Tryz.func80,Tryz.ntmps80
   go_wp2
   go_ret
   exact⟨rfl,rfl⟩
  ·have h3':(((n:Int))==95)=false:=by rw[beq_eq_false_iff_ne];omega
   rw[decide_eq_false h3]
   clear h1 h3
   generalize (n:Int)=m at h1' h3' ⊢
   go_enter Tryz.func80,Tryz.ntmps80
   go_wp2
   go_ret
   exact⟨rfl,rfl⟩
theorem Bf (c:UInt8) (w:World):Calls Tryz.prog 150 #[.int .u8 (c.toNat:Int)] w fun e w'=>(∃b,e = .returned b∧(b = .bool true∨b = .bool false))∧w'=w:=by
 generalize c.toNat=n
 by_cases h1:65≤n
 ·have h1':((65:Int)≤(n:Int)):=by omega
  clear h1
  by_cases h2:n≤90
  ·have h2':((n:Int)≤90):=by omega
   clear h2
   generalize (n:Int)=m at h1' h2' ⊢
   go_enter Tryz.func150,Tryz.ntmps150
   go_wp2
   go_ret
   exact⟨⟨_,rfl,.inl rfl⟩,rfl⟩
  ·have h2' : ¬((n:Int)≤90):=by omega
   clear h2
   generalize (n:Int)=m at h1' h2' ⊢
   go_enter Tryz.func150,Tryz.ntmps150
   go_wp2
   go_ret
   exact⟨⟨_,rfl,.inr rfl⟩,rfl⟩
 ·have h1' : ¬((65:Int)≤(n:Int)):=by omega
  clear h1
  generalize (n:Int)=m at h1' ⊢
  go_enter Tryz.func150,Tryz.ntmps150
  go_wp2
  go_ret
  exact⟨⟨_,rfl,.inr rfl⟩,rfl⟩
theorem CV (c:UInt8) (w:World):Calls Tryz.prog 151 #[.int .u8 (c.toNat:Int)] w fun e w'=>e = .returned (.bool (bK bU c))∧w'=w:=by
 rw[EM]
 generalize c.toNat=n
 by_cases h1:48≤n
 ·have h1':((48:Int)≤(n:Int)):=by omega
  by_cases h2:n≤57
  ·have h2':((n:Int)≤57):=by omega
   rw[decide_eq_true ⟨h1,h2⟩]
   clear h1 h2
   generalize (n:Int)=m at h1' h2' ⊢
   go_enter Tryz.func151,Tryz.ntmps151
   go_wp2
   go_ret
   exact⟨rfl,rfl⟩
  ·have h2' : ¬((n:Int)≤57):=by omega
   rw[decide_eq_false (fun h=>h2 h.2)]
   clear h1 h2
   generalize (n:Int)=m at h1' h2' ⊢
   go_enter Tryz.func151,Tryz.ntmps151
   go_wp2
   go_ret
   exact⟨rfl,rfl⟩
 ·have h1' : ¬((48:Int)≤(n:Int)):=by omega
  rw[decide_eq_false (fun h=>h1 h.1)]
  clear h1
  generalize (n:Int)=m at h1' ⊢
  go_enter Tryz.func151,Tryz.ntmps151
  go_wp2
  go_ret
  exact⟨rfl,rfl⟩
theorem FD (s:List UInt8) (w:World) (hs:s.length≤140737488351232) :
  Calls Tryz.prog 81 #[.string (ah s),.int .i64 0,.int .i64 1] w fun e w'=>e = .returned (.int .i64 (row (bK bS) s:Nat))∧w'=w:=by
 have hsz:(ah s).size=s.length:=rfl
 have HL:=hid (fun c=>wM c w)
 have HU:=hid (fun c=>Bf c w)
 have HD:=hid (fun c=>CV c w)
 go_enter Tryz.func81,Tryz.ntmps81
 go_wp2_with fail
 go_loopw [7,8,9,10] (fun i _ _ _ wr=>∃k:Nat,k≤s.length∧i = .int .i64 k∧wr=w∧Hid (row (bK bS) s=k+row (bK bS) (s.drop k))) (fun i _ _ _ _=>s.length-(intOf i).toNat)
 case atStart=>exact⟨0,Nat.zero_le _,rfl,rfl,hid (by simp)⟩
 case round =>
  obtain⟨k,hk,rfl,rfl,HR⟩:=hrel
  by_cases hlt:k<s.length
  ·obtain⟨c,hc⟩:∃c,s[k]?=some c:=⟨_,List.getElem?_eq_getElem hlt⟩
   have hix:=rU s k c hc
   have hd:s.drop k=c::s.drop (k+1):=by
    obtain⟨h1,h2⟩:=List.getElem?_eq_some_iff.1 hc
    rw[List.drop_eq_getElem_cons h1,h2]
   have hlt':((k:Int)<((ah s).size:Int)):=by rw[hsz];omega
   have h1:=HL.out c
   have h2:=HU.out c
   have h3:=HD.out c
   have hnb:=Df c
   cases hl:bK eY c with
   |
    true =>
    rw[hl] at h1 hnb
    have HR2:Hid (row (bK bS) s=(k+1)+row (bK bS) (s.drop (k+1))):=hid (by rw[HR.out,hd,eO (by rw[hnb];rfl)];omega)
    obtain⟨bd,hbd⟩:∃b,bK bU c=b:=⟨_,rfl⟩
    rw[hbd] at h3
    clear HR hd hc hl hnb hbd
    go_wp2_with (first
     | (go_at_call 80;refine h1.mono ?_;rintro e w1 ⟨rfl,rfl⟩)
     | (go_at_call 150;refine h2.mono ?_;rintro e w1 ⟨⟨bu,rfl,hbu⟩,rfl⟩;clear hbu)
     | (go_at_call 151;refine h3.mono ?_;rintro e w1 ⟨rfl,rfl⟩))
    go_roundw
    case rel=>exact⟨k+1,by omega,by go_num,by first | rfl | trivial,HR2⟩
    case measure=>simp[intOf];omega
   |
    false =>
    rw[hl] at h1 hnb
    cases hdg:bK bU c with
    |
     true =>
     rw[hdg] at h3 hnb
     have HR2:Hid (row (bK bS) s=(k+1)+row (bK bS) (s.drop (k+1))):=hid (by rw[HR.out,hd,eO (by rw[hnb];rfl)];omega)
     clear HR hd hc hl hnb hdg
     go_wp2_with (first
      | (go_at_call 80;refine h1.mono ?_;rintro e w1 ⟨rfl,rfl⟩)
      | (go_at_call 150;refine h2.mono ?_;rintro e w1 ⟨⟨bu,rfl,hbu⟩,rfl⟩;clear hbu)
      | (go_at_call 151;refine h3.mono ?_;rintro e w1 ⟨rfl,rfl⟩))
     go_roundw
     case rel=>exact⟨k+1,by omega,by go_num,by first | rfl | trivial,HR2⟩
     case measure=>simp[intOf];omega
    |
     false =>
     rw[hdg] at h3 hnb
     have HR2:Hid (row (bK bS) s=k):=hid (by rw[HR.out,hd,fU (by rw[hnb];rfl)];omega)
     clear HR hd hc hl hnb hdg
     go_wp2_with (first
      | (go_at_call 80;refine h1.mono ?_;rintro e w1 ⟨rfl,rfl⟩)
      | (go_at_call 150;refine h2.mono ?_;rintro e w1 ⟨⟨bu,rfl,hbu⟩,rfl⟩;clear hbu)
      | (go_at_call 151;refine h3.mono ?_;rintro e w1 ⟨rfl,rfl⟩))
     go_ret
     exact⟨by rw[HR2.out];rfl,rfl⟩
  ·have hlt' : ¬((k:Int)<((ah s).size:Int)):=by rw[hsz];omega
   have HR2:Hid (row (bK bS) s=s.length):=hid (by rw[HR.out,List.drop_of_length_le (by omega),wZ];omega)
   have hkl:k=s.length:=by omega
   subst hkl
   clear HR
   go_wp2
   go_ret
   exact⟨by rw[HR2.out];rfl,rfl⟩
theorem eT (s:List UInt8) (w:World) (hs:s.length≤9223372036854775807):Calls Tryz.prog 50 #[.string (ah s)] w fun e w'=>e = .returned (.bool (aQ s))∧Below w.heap.size w w':=by
 have hsz:(ah s).size=s.length:=rfl
 have hem:=bE s
 unfold aQ
 by_cases h0:s=[]
 ·subst h0
  rw[show (decide (0<([]:List UInt8).length)&&_)=false from rfl]
  go_enter Tryz.func50,Tryz.ntmps50
  go_wp2
  go_ret
  exact⟨rfl,Below.refl _ _⟩
 ·rw[decide_eq_false h0] at hem
  have hpos:0<s.length:=List.length_pos_iff.2 h0
  rw[decide_eq_true hpos,Bool.true_and]
  by_cases h1:s.length≤16
  ·rw[decide_eq_true h1,Bool.true_and]
   have h1':(((ah s).size:Int)≤16):=by rw[hsz];omega
   obtain⟨c,hc⟩:∃c,s[0]?=some c:=⟨_,List.getElem?_eq_getElem hpos⟩
   have hhd:s.headD 0=c:=by
    cases s with
    | nil=>exact absurd rfl h0
    | cons x l=>simpa using hc
   have hix : ∀w,(Instr.index 9 (.string (ah s)) (.int .i64 0)).run Tryz.prog w = .ok (.int .u8 (c.toNat:Int)) w:=rU s 0 c hc
   have HL:=hid (fun V=>wM c V)
   have HRn:=hid (fun V=>FD s V (by omega))
   rw[hhd]
   cases hl:bK eY c with
   |
    false =>
    rw[hl] at HL
    rw[Bool.false_and]
    clear hhd hl hc h0 hpos h1 hs
    go_enter Tryz.func50,Tryz.ntmps50
    go_wp2_with fail
    refine (HL.out _).mono ?_
    rintro e w1 ⟨rfl,rfl⟩
    go_wp2
    go_ret
    exact⟨rfl,Below.refl _ _⟩
   |
    true =>
    rw[hl] at HL
    rw[Bool.true_and]
    have hrl:=kK (bK bS) s
    generalize row (bK bS) s=r at HRn hrl ⊢
    by_cases hr:r=s.length
    ·rw[decide_eq_true hr]
     have hr':(((r:Nat):Int)==((ah s).size:Int))=true:=by rw[hsz,beq_iff_eq];omega
     clear hhd hl hc h0 hpos h1 hs hr hrl
     generalize ((r:Nat):Int)=r' at HRn hr'
     go_enter Tryz.func50,Tryz.ntmps50
     go_wp2_with fail
     refine (HL.out _).mono ?_
     rintro e w1 ⟨rfl,rfl⟩
     go_wp2_with fail
     refine (HRn.out _).mono ?_
     rintro e w1 ⟨rfl,rfl⟩
     go_wp2
     go_ret
     exact⟨by rw[hsz] at hr';simp[hr'],Below.refl _ _⟩
    ·rw[decide_eq_false hr]
     have hr':(((r:Nat):Int)==((ah s).size:Int))=false:=by rw[hsz,beq_eq_false_iff_ne];omega
     clear hhd hl hc h0 hpos h1 hs hr hrl
     generalize ((r:Nat):Int)=r' at HRn hr'
     go_enter Tryz.func50,Tryz.ntmps50
     go_wp2_with fail
     refine (HL.out _).mono ?_
     rintro e w1 ⟨rfl,rfl⟩
     go_wp2_with fail
     refine (HRn.out _).mono ?_
     rintro e w1 ⟨rfl,rfl⟩
     go_wp2
     go_ret
     exact⟨by rw[hsz] at hr';simp[hr'],Below.refl _ _⟩
  ·rw[decide_eq_false h1,Bool.false_and]
   have h1' : ¬(((ah s).size:Int)≤16):=by rw[hsz];omega
   clear h1 h0 hpos hs
   go_enter Tryz.func50,Tryz.ntmps50
   go_wp2
   go_ret
   exact⟨rfl,Below.refl _ _⟩
theorem uK (k n:Int) (s:List UInt8) (w:World) (h1 : -9223372036854775808≤n) (h2:n≤9223372036854775807) (hs:s.length≤9223372036854775807) :
  Calls Tryz.prog 83 #[.agg #[.int .i64 k,.int .i64 n,.string (ah s)]] w fun e w'=>e = .returned (.bool (dL ⟨k,n,s⟩))∧Below w.heap.size w w':=by
 obtain⟨W,hW,hbW,hzW,hcW⟩:=bF w (.cells #[.int .i64 k,.int .i64 n,.string (ah s)] 128)
 have k0:=mG hcW
 have HR:=hid (BG k n s W hs)
 have HB:=hid hbW
 have HC:=hid hcW
 have hd:dL ⟨k,n,s⟩=(decide (fV ⟨k,n,s⟩=0)&&decide (n≠-9223372036854775808)):=by
  unfold dL
  dsimp only
  congr 1
  rw[Bool.eq_iff_iff,decide_eq_true_eq,decide_eq_true_eq]
  omega
 rw[hd]
 clear hd hbW hcW
 by_cases h0:fV ⟨k,n,s⟩=0
 ·rw[h0] at HR
  rw[decide_eq_true h0,Bool.true_and]
  clear h0
  by_cases hm:n = -9223372036854775808
  ·have hm':(n != -9223372036854775808)=false:=by rw[hm];rfl
   rw[decide_eq_false (fun h=>h hm)]
   clear hm h1 h2
   go_enter Tryz.func83,Tryz.ntmps83
   go_wp2_with fail
   refine HR.out.mono ?_
   rintro e w1 ⟨rfl,hb1⟩
   have k1:=mG ((hb1.block w.heap.size hzW).trans HC.out)
   have HB1:=hid (HB.out.trans (hb1.mono HB.out.size))
   clear hb1 HR
   go_wp2
   go_ret
   exact⟨rfl,HB1.out⟩
  ·have hm':(n != -9223372036854775808)=true:=by rw[bne_iff_ne];exact hm
   rw[decide_eq_true hm]
   clear hm h1 h2
   go_enter Tryz.func83,Tryz.ntmps83
   go_wp2_with fail
   refine HR.out.mono ?_
   rintro e w1 ⟨rfl,hb1⟩
   have k1:=mG ((hb1.block w.heap.size hzW).trans HC.out)
   have HB1:=hid (HB.out.trans (hb1.mono HB.out.size))
   clear hb1 HR
   go_wp2
   go_ret
   exact⟨rfl,HB1.out⟩
 ·rw[decide_eq_false h0,Bool.false_and]
  have h0':(((fV ⟨k,n,s⟩:Nat):Int)==0)=false:=by rw[beq_eq_false_iff_ne];omega
  generalize ((fV ⟨k,n,s⟩:Nat):Int)=r at HR h0'
  clear h0 h1 h2
  go_enter Tryz.func83,Tryz.ntmps83
  go_wp2_with fail
  refine HR.out.mono ?_
  rintro e w1 ⟨rfl,hb1⟩
  have HB1:=hid (HB.out.trans (hb1.mono HB.out.size))
  clear hb1 HR
  go_wp2
  go_ret
  exact⟨rfl,HB1.out⟩
theorem vL (S:Nat→Prop) (xs:List Ex) (v:Value) (w:World) (hx:bg S w xs v)
  (HF:Hid (∀y∈xs,∀u V,pq S V y u→Calls Tryz.prog 84 #[u] V fun e w'=>e = .returned (.bool (aK y))∧Below V.heap.size V w')) :
  Calls Tryz.prog 85 #[v] w fun e w'=>e = .returned (.bool (xs.all aK))∧Below w.heap.size w w':=by
 have hsl:=Cx hx
 have HV:=hid hsl
 obtain⟨aa,cc,css,rfl,h1,h2,_⟩:=hsl
 unfold maxLen at h2
 obtain⟨X,hX⟩:∃X,xs.all aK=X:=⟨_,rfl⟩
 rw[hX]
 have HX:=hid hX
 clear hX hx
 go_enter Tryz.func85,Tryz.ntmps85
 go_wp2_with fail
 go_loopw [3,4] (fun i _ wr=>∃(j:Nat),j≤xs.length∧i = .int .i64 j∧Below w.heap.size w wr∧Hid ((xs.take j).all aK=true)) (fun i _ _=>xs.length-(intOf i).toNat)
 case atStart=>exact⟨0,Nat.zero_le _,rfl,Below.refl _ _,hid rfl⟩
 case round =>
  obtain⟨j,hj,rfl,hbel,HK⟩:=hrel
  by_cases hlt:j<xs.length
  ·have hlt':((j:Int)<(xs.length:Int)):=by omega
   obtain⟨y,hy⟩:∃y,xs[j]?=some y:=⟨_,List.getElem?_eq_getElem hlt⟩
   obtain⟨_,_,_,b,off,cs,rfl,_,hel,hcell⟩:=lD (HV.out.to (T:=S) (by decide) (R:=fun _=>False) (aj.aC hbel) (fun b hb _=>⟨id,hb⟩) (fun _ _ e=>e.to (R:=fun _=>False) (aj.aC hbel) (fun b hb _=>⟨id,hb⟩))) hy
   have HC:=hid (HF.out y (List.mem_of_getElem? hy) _ wr hel.v)
   have HT:Hid ((xs.take (j+1)).all aK=((xs.take j).all aK&&aK y)):=hid (by
    obtain⟨h1,h2⟩:=List.getElem?_eq_some_iff.1 hy
    rw[List.take_succ_eq_append_getElem h1,h2,List.all_append]
    simp)
   have HM:=hid (List.mem_of_getElem? hy)
   obtain⟨k1,op1,tb1,nm1,vk1,vn1,vs1,ys1,aa1,nn1,cc1,_,rfl,_⟩:=hel
   have q0:=hcell 0 _ rfl
   have q1:=hcell 1 _ rfl
   have q2:=hcell 2 _ rfl
   have q3:=hcell 3 _ rfl
   have q4:=hcell 4 _ rfl
   have q5:=hcell 5 _ rfl
   have q6:=hcell 6 _ rfl
   have q7:=hcell 7 _ rfl
   simp only[Nat.add_zero] at q0
   have HBR:=hid hbel
   clear hbel hcell hy
   cases hp:aK y with
   |
    true =>
    rw[hp] at HC HT
    have HK2:Hid ((xs.take (j+1)).all aK=true):=hid (by rw[HT.out,HK.out];rfl)
    clear HK hp HT HM
    go_wp2_with fail
    refine HC.out.mono ?_
    rintro e w2 ⟨rfl,hb2⟩
    have HB2:Hid (Below w.heap.size w w2):=hid (HBR.out.trans (hb2.mono HBR.out.size))
    clear hb2 HC
    go_wp2
    go_roundw
    case rel=>exact⟨j+1,by omega,by go_num,HB2.out,HK2⟩
    case measure=>simp[intOf];omega
   |
    false =>
    rw[hp] at HC
    have HXF:Hid (X=false):=hid (by
     rw[← HX.out,Bool.eq_false_iff]
     intro h
     have:=List.all_eq_true.1 h y HM.out
     rw[hp] at this
     cases this)
    clear HK hp HT HM
    go_wp2_with fail
    refine HC.out.mono ?_
    rintro e w2 ⟨rfl,hb2⟩
    have HB2:Hid (Below w.heap.size w w2):=hid (HBR.out.trans (hb2.mono HBR.out.size))
    clear hb2 HC
    go_wp2
    go_ret
    exact⟨by rw[HXF.out];rfl,HB2.out⟩
  ·have hlt' : ¬((j:Int)<(xs.length:Int)):=by omega
   have HXT:Hid (X=true):=hid (by
    rw[← HX.out]
    have:=HK.out
    rw[List.take_of_length_le (by omega)] at this
    exact this)
   have HB2:=hid hbel
   clear hbel HK
   go_wp2
   go_ret
   exact⟨by rw[HXT.out];rfl,HB2.out⟩
end Go.Proofs.YtaaggohjmhifbaaGreatDoor
