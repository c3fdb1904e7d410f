/- Packed for the hand-in: RefJ1 RefJ4 -/
import Derived.Test.YtnidnipiihhnaaaGreatDoorX30
import Derived.Test.YtnidnipiihhnaaaGreatDoorX10
import Derived.Deep.RegionWith
namespace Go.Proofs.YtnidnipiihhnaaaGreatDoor
open Go.RowKit Go.Shelf
set_option linter.unusedSimpArgs false
set_option linter.unusedVariables false
set_option maxRecDepth 20000
set_option maxHeartbeats 8000000
theorem low_byte (c:UInt8):inS lowsB c=(decide (97≤c.toNat∧c.toNat≤122)||decide (c.toNat=95)):=by
 have : ∀n:Fin 256,inS lowsB (UInt8.ofNat n.1)=(decide (97≤n.1∧n.1≤122)||decide (n.1=95)):=by decide +kernel
 have h:=this ⟨c.toNat,c.toNat_lt⟩
 simpa using h
theorem dig_byte (c:UInt8):inS digsB c=decide (48≤c.toNat∧c.toNat≤57):=by
 have : ∀n:Fin 256,inS digsB (UInt8.ofNat n.1)=decide (48≤n.1∧n.1≤57):=by decide +kernel
 have h:=this ⟨c.toNat,c.toNat_lt⟩
 simpa using h
theorem name_byte (c:UInt8):inS nameB c=(inS lowsB c||inS digsB c):=by
 have : ∀n:Fin 256,inS nameB (UInt8.ofNat n.1)=(inS lowsB (UInt8.ofNat n.1)||inS digsB (UInt8.ofNat n.1)):=by decide +kernel
 have h:=this ⟨c.toNat,c.toNat_lt⟩
 simpa using h
theorem lower_any (c:UInt8) (w:World):Calls Tryz.prog 120 #[.int .u8 (c.toNat:Int)] w fun e w'=>e = .returned (.bool (inS lowsB c))∧w'=w:=by
 rw[low_byte]
 generalize c.toNat=n
 by_cases h1:97≤n
 ·have h1':((97:Int)≤(n:Int)):=by omega
  by_cases h2:n≤122
  ·have h2':((n:Int)≤122):=by omega
   rw[decide_eq_true ⟨h1,h2⟩,Bool.true_or]
   clear h1 h2
   generalize (n:Int)=m at h1' h2' ⊢
   go_enter Tryz.func120,Tryz.ntmps120
   go_wp2
   go_ret
   exact⟨rfl,rfl⟩
  ·have h2' : ¬((n:Int)≤122):=by omega
   have h3:(((n:Int))==95)=false:=by rw[beq_eq_false_iff_ne];omega
   rw[decide_eq_false (fun h=>h2 h.2),decide_eq_false (by omega),Bool.false_or]
   clear h1 h2
   generalize (n:Int)=m at h1' h2' h3 ⊢
   go_enter Tryz.func120,Tryz.ntmps120
   go_wp2
   go_ret
   exact⟨rfl,rfl⟩
 ·have h1' : ¬((97:Int)≤(n:Int)):=by omega
  rw[decide_eq_false (fun h=>h1 h.1),Bool.false_or]
  by_cases h3:n=95
  ·subst h3
   go_enter Tryz.func120,Tryz.ntmps120
   go_wp2
   go_ret
   exact⟨rfl,rfl⟩
  ·have h3':(((n:Int))==95)=false:=by rw[beq_eq_false_iff_ne];omega
   rw[decide_eq_false h3]
   clear h1 h3
   generalize (n:Int)=m at h1' h3' ⊢
   go_enter Tryz.func120,Tryz.ntmps120
   go_wp2
   go_ret
   exact⟨rfl,rfl⟩
theorem upper_some (c:UInt8) (w:World):Calls Tryz.prog 168 #[.int .u8 (c.toNat:Int)] w fun e w'=>(∃b,e = .returned b∧(b = .bool true∨b = .bool false))∧w'=w:=by
 generalize c.toNat=n
 by_cases h1:65≤n
 ·have h1':((65:Int)≤(n:Int)):=by omega
  clear h1
  by_cases h2:n≤90
  ·have h2':((n:Int)≤90):=by omega
   clear h2
   generalize (n:Int)=m at h1' h2' ⊢
   go_enter Tryz.func168,Tryz.ntmps168
   go_wp2
   go_ret
   exact⟨⟨_,rfl,.inl rfl⟩,rfl⟩
  ·have h2' : ¬((n:Int)≤90):=by omega
   clear h2
   generalize (n:Int)=m at h1' h2' ⊢
   go_enter Tryz.func168,Tryz.ntmps168
   go_wp2
   go_ret
   exact⟨⟨_,rfl,.inr rfl⟩,rfl⟩
 ·have h1' : ¬((65:Int)≤(n:Int)):=by omega
  clear h1
  generalize (n:Int)=m at h1' ⊢
  go_enter Tryz.func168,Tryz.ntmps168
  go_wp2
  go_ret
  exact⟨⟨_,rfl,.inr rfl⟩,rfl⟩
theorem digit_any (c:UInt8) (w:World):Calls Tryz.prog 169 #[.int .u8 (c.toNat:Int)] w fun e w'=>e = .returned (.bool (inS digsB c))∧w'=w:=by
 rw[dig_byte]
 generalize c.toNat=n
 by_cases h1:48≤n
 ·have h1':((48:Int)≤(n:Int)):=by omega
  by_cases h2:n≤57
  ·have h2':((n:Int)≤57):=by omega
   rw[decide_eq_true ⟨h1,h2⟩]
   clear h1 h2
   generalize (n:Int)=m at h1' h2' ⊢
   go_enter Tryz.func169,Tryz.ntmps169
   go_wp2
   go_ret
   exact⟨rfl,rfl⟩
  ·have h2' : ¬((n:Int)≤57):=by omega
   rw[decide_eq_false (fun h=>h2 h.2)]
   clear h1 h2
   generalize (n:Int)=m at h1' h2' ⊢
   go_enter Tryz.func169,Tryz.ntmps169
   go_wp2
   go_ret
   exact⟨rfl,rfl⟩
 ·have h1' : ¬((48:Int)≤(n:Int)):=by omega
  rw[decide_eq_false (fun h=>h1 h.1)]
  clear h1
  generalize (n:Int)=m at h1' ⊢
  go_enter Tryz.func169,Tryz.ntmps169
  go_wp2
  go_ret
  exact⟨rfl,rfl⟩
theorem run1_any (s:List UInt8) (w:World) (hs:s.length≤140737488351232) :
  Calls Tryz.prog 121 #[.string (str8 s),.int .i64 0,.int .i64 1] w fun e w'=>e = .returned (.int .i64 (row (inS nameB) s:Nat))∧w'=w:=by
 have hsz:(str8 s).size=s.length:=rfl
 have HL:=hid (fun c=>lower_any c w)
 have HU:=hid (fun c=>upper_some c w)
 have HD:=hid (fun c=>digit_any c w)
 go_enter Tryz.func121,Tryz.ntmps121
 go_wp2_with fail
 go_loopw [7,8,9,10] (fun i _ _ _ wr=>∃k:Nat,k≤s.length∧i = .int .i64 k∧wr=w∧Hid (row (inS nameB) s=k+row (inS nameB) (s.drop k))) (fun i _ _ _ _=>s.length-(intOf i).toNat)
 case atStart=>exact⟨0,Nat.zero_le _,rfl,rfl,hid (by simp)⟩
 case round =>
  obtain⟨k,hk,rfl,rfl,HR⟩:=hrel
  by_cases hlt:k<s.length
  ·obtain⟨c,hc⟩:∃c,s[k]?=some c:=⟨_,List.getElem?_eq_getElem hlt⟩
   have hix:=run_ix s k c hc
   have hd:s.drop k=c::s.drop (k+1):=by
    obtain⟨h1,h2⟩:=List.getElem?_eq_some_iff.1 hc
    rw[List.drop_eq_getElem_cons h1,h2]
   have hlt':((k:Int)<((str8 s).size:Int)):=by rw[hsz];omega
   have h1:=HL.out c
   have h2:=HU.out c
   have h3:=HD.out c
   have hnb:=name_byte c
   cases hl:inS lowsB c with
   |
    true =>
    rw[hl] at h1 hnb
    have HR2:Hid (row (inS nameB) s=(k+1)+row (inS nameB) (s.drop (k+1))):=hid (by rw[HR.out,hd,row_cons_pos (by rw[hnb];rfl)];omega)
    obtain⟨bd,hbd⟩:∃b,inS digsB c=b:=⟨_,rfl⟩
    rw[hbd] at h3
    clear HR hd hc hl hnb hbd
    go_wp2_with (first
     | (go_at_call 120;refine h1.mono ?_;rintro e w1 ⟨rfl,rfl⟩)
     | (go_at_call 168;refine h2.mono ?_;rintro e w1 ⟨⟨bu,rfl,hbu⟩,rfl⟩;clear hbu)
     | (go_at_call 169;refine h3.mono ?_;rintro e w1 ⟨rfl,rfl⟩))
    go_roundw
    case rel=>exact⟨k+1,by omega,by go_num,by first | rfl | trivial,HR2⟩
    case measure=>simp[intOf];omega
   |
    false =>
    rw[hl] at h1 hnb
    cases hdg:inS digsB c with
    |
     true =>
     rw[hdg] at h3 hnb
     have HR2:Hid (row (inS nameB) s=(k+1)+row (inS nameB) (s.drop (k+1))):=hid (by rw[HR.out,hd,row_cons_pos (by rw[hnb];rfl)];omega)
     clear HR hd hc hl hnb hdg
     go_wp2_with (first
      | (go_at_call 120;refine h1.mono ?_;rintro e w1 ⟨rfl,rfl⟩)
      | (go_at_call 168;refine h2.mono ?_;rintro e w1 ⟨⟨bu,rfl,hbu⟩,rfl⟩;clear hbu)
      | (go_at_call 169;refine h3.mono ?_;rintro e w1 ⟨rfl,rfl⟩))
     go_roundw
     case rel=>exact⟨k+1,by omega,by go_num,by first | rfl | trivial,HR2⟩
     case measure=>simp[intOf];omega
    |
     false =>
     rw[hdg] at h3 hnb
     have HR2:Hid (row (inS nameB) s=k):=hid (by rw[HR.out,hd,row_cons_neg (by rw[hnb];rfl)];omega)
     clear HR hd hc hl hnb hdg
     go_wp2_with (first
      | (go_at_call 120;refine h1.mono ?_;rintro e w1 ⟨rfl,rfl⟩)
      | (go_at_call 168;refine h2.mono ?_;rintro e w1 ⟨⟨bu,rfl,hbu⟩,rfl⟩;clear hbu)
      | (go_at_call 169;refine h3.mono ?_;rintro e w1 ⟨rfl,rfl⟩))
     go_ret
     exact⟨by rw[HR2.out];rfl,rfl⟩
  ·have hlt' : ¬((k:Int)<((str8 s).size:Int)):=by rw[hsz];omega
   have HR2:Hid (row (inS nameB) s=s.length):=hid (by rw[HR.out,List.drop_of_length_le (by omega),row_nil];omega)
   have hkl:k=s.length:=by omega
   subst hkl
   clear HR
   go_wp2
   go_ret
   exact⟨by rw[HR2.out];rfl,rfl⟩
theorem jname_any (s:List UInt8) (w:World) (hs:s.length≤9223372036854775807):Calls Tryz.prog 56 #[.string (str8 s)] w fun e w'=>e = .returned (.bool (nameOk s))∧Below w.heap.size w w':=by
 have hsz:(str8 s).size=s.length:=rfl
 have hem:=str8_empty s
 unfold nameOk
 by_cases h0:s=[]
 ·subst h0
  rw[show (decide (0<([]:List UInt8).length)&&_)=false from rfl]
  go_enter Tryz.func56,Tryz.ntmps56
  go_wp2
  go_ret
  exact⟨rfl,Below.refl _ _⟩
 ·rw[decide_eq_false h0] at hem
  have hpos:0<s.length:=List.length_pos_iff.2 h0
  rw[decide_eq_true hpos,Bool.true_and]
  by_cases h1:s.length≤16
  ·rw[decide_eq_true h1,Bool.true_and]
   have h1':(((str8 s).size:Int)≤16):=by rw[hsz];omega
   obtain⟨c,hc⟩:∃c,s[0]?=some c:=⟨_,List.getElem?_eq_getElem hpos⟩
   have hhd:s.headD 0=c:=by
    cases s with
    | nil=>exact absurd rfl h0
    | cons x l=>simpa using hc
   have hix : ∀w,(Instr.index 9 (.string (str8 s)) (.int .i64 0)).run Tryz.prog w = .ok (.int .u8 (c.toNat:Int)) w:=run_ix s 0 c hc
   have HL:=hid (fun V=>lower_any c V)
   have HRn:=hid (fun V=>run1_any s V (by omega))
   rw[hhd]
   cases hl:inS lowsB c with
   |
    false =>
    rw[hl] at HL
    rw[Bool.false_and]
    clear hhd hl hc h0 hpos h1 hs
    go_enter Tryz.func56,Tryz.ntmps56
    go_wp2_with fail
    refine (HL.out _).mono ?_
    rintro e w1 ⟨rfl,rfl⟩
    go_wp2
    go_ret
    exact⟨rfl,Below.refl _ _⟩
   |
    true =>
    rw[hl] at HL
    rw[Bool.true_and]
    have hrl:=row_le (inS nameB) s
    generalize row (inS nameB) s=r at HRn hrl ⊢
    by_cases hr:r=s.length
    ·rw[decide_eq_true hr]
     have hr':(((r:Nat):Int)==((str8 s).size:Int))=true:=by rw[hsz,beq_iff_eq];omega
     clear hhd hl hc h0 hpos h1 hs hr hrl
     generalize ((r:Nat):Int)=r' at HRn hr'
     go_enter Tryz.func56,Tryz.ntmps56
     go_wp2_with fail
     refine (HL.out _).mono ?_
     rintro e w1 ⟨rfl,rfl⟩
     go_wp2_with fail
     refine (HRn.out _).mono ?_
     rintro e w1 ⟨rfl,rfl⟩
     go_wp2
     go_ret
     exact⟨by rw[hsz] at hr';simp[hr'],Below.refl _ _⟩
    ·rw[decide_eq_false hr]
     have hr':(((r:Nat):Int)==((str8 s).size:Int))=false:=by rw[hsz,beq_eq_false_iff_ne];omega
     clear hhd hl hc h0 hpos h1 hs hr hrl
     generalize ((r:Nat):Int)=r' at HRn hr'
     go_enter Tryz.func56,Tryz.ntmps56
     go_wp2_with fail
     refine (HL.out _).mono ?_
     rintro e w1 ⟨rfl,rfl⟩
     go_wp2_with fail
     refine (HRn.out _).mono ?_
     rintro e w1 ⟨rfl,rfl⟩
     go_wp2
     go_ret
     exact⟨by rw[hsz] at hr';simp[hr'],Below.refl _ _⟩
  ·rw[decide_eq_false h1,Bool.false_and]
   have h1' : ¬(((str8 s).size:Int)≤16):=by rw[hsz];omega
   clear h1 h0 hpos hs
   go_enter Tryz.func56,Tryz.ntmps56
   go_wp2
   go_ret
   exact⟨rfl,Below.refl _ _⟩
theorem jvalue_any (k n:Int) (s:List UInt8) (w:World) (h1 : -9223372036854775808≤n) (h2:n≤9223372036854775807) (hs:s.length≤9223372036854775807) :
  Calls Tryz.prog 55 #[.agg #[.int .i64 k,.int .i64 n,.string (str8 s)]] w fun e w'=>e = .returned (.bool (valOk ⟨k,n,s⟩))∧Below w.heap.size w w':=by
 obtain⟨W,hW,hbW,hzW,hcW⟩:=box8 w (.cells #[.int .i64 k,.int .i64 n,.string (str8 s)] 23)
 have k0:=cells3W hcW
 have HR:=hid (dright_any k n s W hs)
 have HB:=hid hbW
 have HC:=hid hcW
 have hd:valOk ⟨k,n,s⟩=(decide (rightV ⟨k,n,s⟩=0)&&decide (n≠-9223372036854775808)):=by
  unfold valOk
  dsimp only
  congr 1
  rw[Bool.eq_iff_iff,decide_eq_true_eq,decide_eq_true_eq]
  omega
 rw[hd]
 clear hd hbW hcW
 by_cases h0:rightV ⟨k,n,s⟩=0
 ·rw[h0] at HR
  rw[decide_eq_true h0,Bool.true_and]
  clear h0
  by_cases hm:n = -9223372036854775808
  ·have hm':(n != -9223372036854775808)=false:=by rw[hm];rfl
   rw[decide_eq_false (fun h=>h hm)]
   clear hm h1 h2
   go_enter Tryz.func55,Tryz.ntmps55
   go_wp2_with fail
   refine HR.out.mono ?_
   rintro e w1 ⟨rfl,hb1⟩
   have k1:=cells3W ((hb1.block w.heap.size hzW).trans HC.out)
   have HB1:=hid (HB.out.trans (hb1.mono HB.out.size))
   clear hb1 HR
   go_wp2
   go_ret
   exact⟨rfl,HB1.out⟩
  ·have hm':(n != -9223372036854775808)=true:=by rw[bne_iff_ne];exact hm
   rw[decide_eq_true hm]
   clear hm h1 h2
   go_enter Tryz.func55,Tryz.ntmps55
   go_wp2_with fail
   refine HR.out.mono ?_
   rintro e w1 ⟨rfl,hb1⟩
   have k1:=cells3W ((hb1.block w.heap.size hzW).trans HC.out)
   have HB1:=hid (HB.out.trans (hb1.mono HB.out.size))
   clear hb1 HR
   go_wp2
   go_ret
   exact⟨rfl,HB1.out⟩
 ·rw[decide_eq_false h0,Bool.false_and]
  have h0':(((rightV ⟨k,n,s⟩:Nat):Int)==0)=false:=by rw[beq_eq_false_iff_ne];omega
  generalize ((rightV ⟨k,n,s⟩:Nat):Int)=r at HR h0'
  clear h0 h1 h2
  go_enter Tryz.func55,Tryz.ntmps55
  go_wp2_with fail
  refine HR.out.mono ?_
  rintro e w1 ⟨rfl,hb1⟩
  have HB1:=hid (HB.out.trans (hb1.mono HB.out.size))
  clear hb1 HR
  go_wp2
  go_ret
  exact⟨rfl,HB1.out⟩
abbrev tokV (t:Tk):Value:=.agg #[.int .i64 t.k,.string (str8 t.s),.int .i64 t.n,.int .i64 t.p]
theorem owns_block {W:World} {g base:Nat} {L:List Tk} {cs:Array Value} (h:W.heap[g]?=some (.cells cs 119)) (hcs:cs.toList=tcs L) (hb:base≤g) (hl:L.length≤1000000000):W.ownsRow base 119 4 (.slice (some ⟨g,0,none⟩) L.length L.length) L.length (tcs L):=by
 have hlen:cs.size=L.length*4:=by
  rw[← Array.length_toList,hcs,tcs_length]
 refine ⟨by rw[tcs_length],.inr ⟨g,L.length,cs,rfl,hb,h,Nat.le_refl _,by unfold maxLen;omega,hlen,?_⟩⟩
 rw[hcs,List.take_of_length_le (by rw[tcs_length];omega)]
theorem jword_any (s:ByteArray) (w:World):Calls Tryz.prog 83 #[.string s] w fun e w'=>e = .returned (.agg #[.int .i64 2,.string s,.int .i64 0,.int .i64 0])∧Below w.heap.size w w':=by
 have hb:Below w.heap.size w (w.alloc (.cells #[.int .i64 2,.string s,.int .i64 0,.int .i64 0] 119)):=(Below.refl _ _).alloc (Nat.le_refl _) _
 go_enter Tryz.func83,Tryz.ntmps83
 go_wp2
 exact bodyPost_ret (v:=.agg #[.int .i64 2,.string s,.int .i64 0,.int .i64 0]) (by simp[results,Tryz.results83,go_sem]) rfl ⟨rfl,hb⟩
theorem jsign_any (s:ByteArray) (w:World):Calls Tryz.prog 84 #[.string s] w fun e w'=>e = .returned (.agg #[.int .i64 5,.string s,.int .i64 0,.int .i64 0])∧Below w.heap.size w w':=by
 have hb:Below w.heap.size w (w.alloc (.cells #[.int .i64 5,.string s,.int .i64 0,.int .i64 0] 119)):=(Below.refl _ _).alloc (Nat.le_refl _) _
 go_enter Tryz.func84,Tryz.ntmps84
 go_wp2
 exact bodyPost_ret (v:=.agg #[.int .i64 5,.string s,.int .i64 0,.int .i64 0]) (by simp[results,Tryz.results84,go_sem]) rfl ⟨rfl,hb⟩
theorem jnameT_any (s:ByteArray) (w:World):Calls Tryz.prog 122 #[.string s] w fun e w'=>e = .returned (.agg #[.int .i64 1,.string s,.int .i64 0,.int .i64 0])∧Below w.heap.size w w':=by
 have hb:Below w.heap.size w (w.alloc (.cells #[.int .i64 1,.string s,.int .i64 0,.int .i64 0] 119)):=(Below.refl _ _).alloc (Nat.le_refl _) _
 go_enter Tryz.func122,Tryz.ntmps122
 go_wp2
 exact bodyPost_ret (v:=.agg #[.int .i64 1,.string s,.int .i64 0,.int .i64 0]) (by simp[results,Tryz.results122,go_sem]) rfl ⟨rfl,hb⟩
theorem jliteral_any (v:Vl) (hv:valOk v=true) (w:World):Calls Tryz.prog 88 #[.agg #[.int .i64 v.k,.int .i64 v.n,.string (str8 v.s)]] w fun e w'=>∃u,e = .returned u∧w'.ownsRow w.heap.size 119 4 u (litK v).length (tcs (litK v))∧Below w.heap.size w w':=by
 obtain⟨k,n,s⟩:=v
 have hk:=val_kind hv
 dsimp only at hk ⊢
 obtain⟨W,hW,hbW,hzW,hcW⟩:=box8 w (.cells #[.int .i64 k,.int .i64 n,.string (str8 s)] 23)
 have k0:=cells3W hcW
 have HB:=hid hbW
 have HC:=hid hcW
 clear hbW hcW
 rcases hk with⟨rfl,rfl,h3⟩ | ⟨rfl,rfl,rfl⟩ | ⟨rfl,rfl,h3,h4⟩
 ·go_enter Tryz.func88,Tryz.ntmps88
  go_wp2
  go_ret
  have hn:Below W.heap.size W (W.alloc (.cells #[.int .i64 4,.string (str8 s),.int .i64 0,.int .i64 0] 119)):=(Below.refl _ _).alloc (Nat.le_refl _) _
  exact⟨_,rfl,owns_block (L:=litK ⟨2,0,s⟩) (heap_alloc_new W _) rfl HB.out.size (by have:=(litK_len ⟨2,0,s⟩).2;omega),HB.out.trans (hn.mono HB.out.size)⟩
 ·have HWD:=hid (jword_any ⟨#[78,85,76,76]⟩ W)
  go_enter Tryz.func88,Tryz.ntmps88
  go_wp2_with fail
  refine HWD.out.mono ?_
  rintro e w1 ⟨rfl,hb1⟩
  have HB1:=hid (HB.out.trans (hb1.mono HB.out.size))
  clear hb1 HWD
  go_wp2
  go_ret
  have hn:Below w1.heap.size w1 (w1.alloc (.cells #[.int .i64 2,.string ⟨#[78,85,76,76]⟩,.int .i64 0,.int .i64 0] 119)):=(Below.refl _ _).alloc (Nat.le_refl _) _
  exact⟨_,rfl,owns_block (L:=litK ⟨0,0,[]⟩) (heap_alloc_new w1 _) rfl HB1.out.size (by decide),HB1.out.trans (hn.mono HB1.out.size)⟩
 ·by_cases hn:n<0
  ·have hlit:litK ⟨1,n,[]⟩=[fxT [45],nuT (-n)]:=by unfold litK;dsimp only;rw[if_neg (by decide),if_neg (by decide),if_pos hn]
   have hwr:IntKind.i64.wrap (-n) = -n:=by rw[IntKind.wrap_i64];omega
   have hwr2:wrap64 (-n) = -n:=by simp only[wrap64];omega
   rw[hlit]
   have HS:=hid (fun V=>jsign_any ⟨#[45]⟩ V)
   have HCC:=hid (fun V (hV:Below W.heap.size W V)=>cells3W ((hV.block w.heap.size hzW).trans HC.out))
   clear hlit h3 h4 k0
   have k0:=HCC.out W (Below.refl _ _)
   go_enter Tryz.func88,Tryz.ntmps88
   go_wp2_with fail
   go_region_with (first
    | (
     go_at_call 84;refine (HS.out _).mono ?_
     rintro e w1 ⟨rfl,hb1⟩
     have hB1:Below W.heap.size W w1:=(Below.refl _ W).drew.trans (hb1.mono (Nat.le_refl _))
     have k1:=HCC.out w1 hB1
     have HB1:Hid (Below w.heap.size w w1):=hid (HB.out.trans (hB1.mono HB.out.size))
     clear hb1 hB1)
    | fail)
   all_goals go_wp2
   all_goals go_ret
   all_goals
    have hnw:Below w1.heap.size w1 (w1.alloc (.cells #[.int .i64 5,.string ⟨#[45]⟩,.int .i64 0,.int .i64 0,.int .i64 3,.string ⟨#[]⟩,.int .i64 (-n),.int .i64 0] 119)):=(Below.refl _ _).alloc (Nat.le_refl _) _
    exact⟨_,rfl,owns_block (L:=[fxT [45],nuT (-n)]) (heap_alloc_new w1 _) rfl HB1.out.size (by simp),HB1.out.trans (hnw.mono HB1.out.size)⟩
  ·have hlit:litK ⟨1,n,[]⟩=[nuT n]:=by unfold litK;dsimp only;rw[if_neg (by decide),if_neg (by decide),if_neg hn]
   rw[hlit]
   clear hlit h3 h4
   go_enter Tryz.func88,Tryz.ntmps88
   go_wp2
   go_ret
   have hnw:Below W.heap.size W (W.alloc (.cells #[.int .i64 3,.string ⟨#[]⟩,.int .i64 n,.int .i64 0] 119)):=(Below.refl _ _).alloc (Nat.le_refl _) _
   exact⟨_,rfl,owns_block (L:=[nuT n]) (heap_alloc_new W _) rfl HB.out.size (by simp),HB.out.trans (hnw.mono HB.out.size)⟩
end Go.Proofs.YtnidnipiihhnaaaGreatDoor
