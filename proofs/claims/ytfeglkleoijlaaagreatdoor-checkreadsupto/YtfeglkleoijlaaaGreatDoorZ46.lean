/- Packed for the hand-in: RefJ1 RefJK RefJL RefJM1 -/
import Derived.Test.YtfeglkleoijlaaaGreatDoorZ11
import Derived.Test.YtfeglkleoijlaaaGreatDoorZ01
import Derived.Deep.RegionWith
import Derived.Lib.ItoaMem
import Derived.Lib.Strings
import Derived.Test.YtfeglkleoijlaaaGreatDoorZ12
import Derived.Test.YtfeglkleoijlaaaGreatDoorZ44
import Derived.Test.YtfeglkleoijlaaaGreatDoorZ15
import Derived.Test.YtfeglkleoijlaaaGreatDoorZ22
namespace Go.Proofs.YtfeglkleoijlaaaGreatDoor
open Go.RowKit Go.Shelf
set_option linter.unusedSimpArgs false
set_option linter.unusedVariables false
set_option maxRecDepth 20000
set_option maxHeartbeats 8000000
theorem Cu (c:UInt8):bT dX c=(decide (97≤c.toNat∧c.toNat≤122)||decide (c.toNat=95)):=by
 have : ∀n:Fin 256,bT dX (UInt8.ofNat n.1)=(decide (97≤n.1∧n.1≤122)||decide (n.1=95)):=by decide +kernel
 have h:=this ⟨c.toNat,c.toNat_lt⟩
 simpa using h
theorem Dk (c:UInt8):bT dH c=decide (48≤c.toNat∧c.toNat≤57):=by
 have : ∀n:Fin 256,bT dH (UInt8.ofNat n.1)=decide (48≤n.1∧n.1≤57):=by decide +kernel
 have h:=this ⟨c.toNat,c.toNat_lt⟩
 simpa using h
theorem Aa (c:UInt8):bT dD c=(bT dX c||bT dH c):=by
 have : ∀n:Fin 256,bT dD (UInt8.ofNat n.1)=(bT dX (UInt8.ofNat n.1)||bT dH (UInt8.ofNat n.1)):=by decide +kernel
 have h:=this ⟨c.toNat,c.toNat_lt⟩
 simpa using h
theorem rH (c:UInt8) (w:World):Calls Tryz.prog 118 #[.int .u8 (c.toNat:Int)] w fun e w'=>e = .returned (.bool (bT dX c))∧w'=w:=by
 rw[Cu]
 generalize c.toNat=n
 by_cases h1:97≤n
 ·have h1':((97:Int)≤(n:Int)):=by omega
  by_cases h2:n≤122
  ·have h2':((n:Int)≤122):=by omega
   rw[decide_eq_true ⟨h1,h2⟩,Bool.true_or]
   clear h1 h2
   generalize (n:Int)=m at h1' h2' ⊢
   go_enter Tryz.func118,Tryz.ntmps118
   go_wp2
   go_ret
   exact⟨rfl,rfl⟩
  ·have h2' : ¬((n:Int)≤122):=by omega
   have h3:(((n:Int))==95)=false:=by rw[beq_eq_false_iff_ne];omega
   rw[decide_eq_false (fun h=>h2 h.2),decide_eq_false (by omega),Bool.false_or]
   clear h1 h2
   generalize (n:Int)=m at h1' h2' h3 ⊢
   go_enter Tryz.func118,Tryz.ntmps118
   go_wp2
   go_ret
   exact⟨rfl,rfl⟩
 ·have h1' : ¬((97:Int)≤(n:Int)):=by omega
  rw[decide_eq_false (fun h=>h1 h.1),Bool.false_or]
  by_cases h3:n=95
  ·subst h3
   go_enter Tryz.func118,Tryz.ntmps118
   go_wp2
   go_ret
   exact⟨rfl,rfl⟩
  ·have h3':(((n:Int))==95)=false:=by rw[beq_eq_false_iff_ne];omega
   rw[decide_eq_false h3]
   clear h1 h3
   generalize (n:Int)=m at h1' h3' ⊢
   go_enter Tryz.func118,Tryz.ntmps118
   go_wp2
   go_ret
   exact⟨rfl,rfl⟩
theorem xR (c:UInt8) (w:World):Calls Tryz.prog 155 #[.int .u8 (c.toNat:Int)] w fun e w'=>(∃b,e = .returned b∧(b = .bool true∨b = .bool false))∧w'=w:=by
 generalize c.toNat=n
 by_cases h1:65≤n
 ·have h1':((65:Int)≤(n:Int)):=by omega
  clear h1
  by_cases h2:n≤90
  ·have h2':((n:Int)≤90):=by omega
   clear h2
   generalize (n:Int)=m at h1' h2' ⊢
   go_enter Tryz.func155,Tryz.ntmps155
   go_wp2
   go_ret
   exact⟨⟨_,rfl,.inl rfl⟩,rfl⟩
  ·have h2' : ¬((n:Int)≤90):=by omega
   clear h2
   generalize (n:Int)=m at h1' h2' ⊢
   go_enter Tryz.func155,Tryz.ntmps155
   go_wp2
   go_ret
   exact⟨⟨_,rfl,.inr rfl⟩,rfl⟩
 ·have h1' : ¬((65:Int)≤(n:Int)):=by omega
  clear h1
  generalize (n:Int)=m at h1' ⊢
  go_enter Tryz.func155,Tryz.ntmps155
  go_wp2
  go_ret
  exact⟨⟨_,rfl,.inr rfl⟩,rfl⟩
theorem Ba (c:UInt8) (w:World):Calls Tryz.prog 156 #[.int .u8 (c.toNat:Int)] w fun e w'=>e = .returned (.bool (bT dH c))∧w'=w:=by
 rw[Dk]
 generalize c.toNat=n
 by_cases h1:48≤n
 ·have h1':((48:Int)≤(n:Int)):=by omega
  by_cases h2:n≤57
  ·have h2':((n:Int)≤57):=by omega
   rw[decide_eq_true ⟨h1,h2⟩]
   clear h1 h2
   generalize (n:Int)=m at h1' h2' ⊢
   go_enter Tryz.func156,Tryz.ntmps156
   go_wp2
   go_ret
   exact⟨rfl,rfl⟩
  ·have h2' : ¬((n:Int)≤57):=by omega
   rw[decide_eq_false (fun h=>h2 h.2)]
   clear h1 h2
   generalize (n:Int)=m at h1' h2' ⊢
   go_enter Tryz.func156,Tryz.ntmps156
   go_wp2
   go_ret
   exact⟨rfl,rfl⟩
 ·have h1' : ¬((48:Int)≤(n:Int)):=by omega
  rw[decide_eq_false (fun h=>h1 h.1)]
  clear h1
  generalize (n:Int)=m at h1' ⊢
  go_enter Tryz.func156,Tryz.ntmps156
  go_wp2
  go_ret
  exact⟨rfl,rfl⟩
theorem Df (s:List UInt8) (w:World) (hs:s.length≤140737488351232) :
  Calls Tryz.prog 119 #[.string (aj s),.int .i64 0,.int .i64 1] w fun e w'=>e = .returned (.int .i64 (row (bT dD) s:Nat))∧w'=w:=by
 have hsz:(aj s).size=s.length:=rfl
 have HL:=hid (fun c=>rH c w)
 have HU:=hid (fun c=>xR c w)
 have HD:=hid (fun c=>Ba c w)
 go_enter Tryz.func119,Tryz.ntmps119
 go_wp2_with fail
 go_loopw [7,8,9,10] (fun i _ _ _ wr=>∃k:Nat,k≤s.length∧i = .int .i64 k∧wr=w∧Hid (row (bT dD) s=k+row (bT dD) (s.drop k))) (fun i _ _ _ _=>s.length-(intOf i).toNat)
 case atStart=>exact⟨0,Nat.zero_le _,rfl,rfl,hid (by simp)⟩
 case round =>
  obtain⟨k,hk,rfl,rfl,HR⟩:=hrel
  by_cases hlt:k<s.length
  ·obtain⟨c,hc⟩:∃c,s[k]?=some c:=⟨_,List.getElem?_eq_getElem hlt⟩
   have hix:=uF s k c hc
   have hd:s.drop k=c::s.drop (k+1):=by
    obtain⟨h1,h2⟩:=List.getElem?_eq_some_iff.1 hc
    rw[List.drop_eq_getElem_cons h1,h2]
   have hlt':((k:Int)<((aj s).size:Int)):=by rw[hsz];omega
   have h1:=HL.out c
   have h2:=HU.out c
   have h3:=HD.out c
   have hnb:=Aa c
   cases hl:bT dX c with
   |
    true =>
    rw[hl] at h1 hnb
    have HR2:Hid (row (bT dD) s=(k+1)+row (bT dD) (s.drop (k+1))):=hid (by rw[HR.out,hd,dO (by rw[hnb];rfl)];omega)
    obtain⟨bd,hbd⟩:∃b,bT dH c=b:=⟨_,rfl⟩
    rw[hbd] at h3
    clear HR hd hc hl hnb hbd
    go_wp2_with (first
     | (go_at_call 118;refine h1.mono ?_;rintro e w1 ⟨rfl,rfl⟩)
     | (go_at_call 155;refine h2.mono ?_;rintro e w1 ⟨⟨bu,rfl,hbu⟩,rfl⟩;clear hbu)
     | (go_at_call 156;refine h3.mono ?_;rintro e w1 ⟨rfl,rfl⟩))
    go_roundw
    case rel=>exact⟨k+1,by omega,by go_num,by first | rfl | trivial,HR2⟩
    case measure=>simp[intOf];omega
   |
    false =>
    rw[hl] at h1 hnb
    cases hdg:bT dH c with
    |
     true =>
     rw[hdg] at h3 hnb
     have HR2:Hid (row (bT dD) s=(k+1)+row (bT dD) (s.drop (k+1))):=hid (by rw[HR.out,hd,dO (by rw[hnb];rfl)];omega)
     clear HR hd hc hl hnb hdg
     go_wp2_with (first
      | (go_at_call 118;refine h1.mono ?_;rintro e w1 ⟨rfl,rfl⟩)
      | (go_at_call 155;refine h2.mono ?_;rintro e w1 ⟨⟨bu,rfl,hbu⟩,rfl⟩;clear hbu)
      | (go_at_call 156;refine h3.mono ?_;rintro e w1 ⟨rfl,rfl⟩))
     go_roundw
     case rel=>exact⟨k+1,by omega,by go_num,by first | rfl | trivial,HR2⟩
     case measure=>simp[intOf];omega
    |
     false =>
     rw[hdg] at h3 hnb
     have HR2:Hid (row (bT dD) s=k):=hid (by rw[HR.out,hd,eP (by rw[hnb];rfl)];omega)
     clear HR hd hc hl hnb hdg
     go_wp2_with (first
      | (go_at_call 118;refine h1.mono ?_;rintro e w1 ⟨rfl,rfl⟩)
      | (go_at_call 155;refine h2.mono ?_;rintro e w1 ⟨⟨bu,rfl,hbu⟩,rfl⟩;clear hbu)
      | (go_at_call 156;refine h3.mono ?_;rintro e w1 ⟨rfl,rfl⟩))
     go_ret
     exact⟨by rw[HR2.out];rfl,rfl⟩
  ·have hlt' : ¬((k:Int)<((aj s).size:Int)):=by rw[hsz];omega
   have HR2:Hid (row (bT dD) s=s.length):=hid (by rw[HR.out,List.drop_of_length_le (by omega),zw];omega)
   have hkl:k=s.length:=by omega
   subst hkl
   clear HR
   go_wp2
   go_ret
   exact⟨by rw[HR2.out];rfl,rfl⟩
theorem mY (s:List UInt8) (w:World) (hs:s.length≤9223372036854775807):Calls Tryz.prog 67 #[.string (aj s)] w fun e w'=>e = .returned (.bool (bC s))∧Below w.heap.size w w':=by
 have hsz:(aj s).size=s.length:=rfl
 have hem:=dF s
 unfold bC
 by_cases h0:s=[]
 ·subst h0
  rw[show (decide (0<([]:List UInt8).length)&&_)=false from rfl]
  go_enter Tryz.func67,Tryz.ntmps67
  go_wp2
  go_ret
  exact⟨rfl,Below.refl _ _⟩
 ·rw[decide_eq_false h0] at hem
  have hpos:0<s.length:=List.length_pos_iff.2 h0
  rw[decide_eq_true hpos,Bool.true_and]
  by_cases h1:s.length≤16
  ·rw[decide_eq_true h1,Bool.true_and]
   have h1':(((aj s).size:Int)≤16):=by rw[hsz];omega
   obtain⟨c,hc⟩:∃c,s[0]?=some c:=⟨_,List.getElem?_eq_getElem hpos⟩
   have hhd:s.headD 0=c:=by
    cases s with
    | nil=>exact absurd rfl h0
    | cons x l=>simpa using hc
   have hix : ∀w,(Instr.index 9 (.string (aj s)) (.int .i64 0)).run Tryz.prog w = .ok (.int .u8 (c.toNat:Int)) w:=uF s 0 c hc
   have HL:=hid (fun V=>rH c V)
   have HRn:=hid (fun V=>Df s V (by omega))
   rw[hhd]
   cases hl:bT dX c with
   |
    false =>
    rw[hl] at HL
    rw[Bool.false_and]
    clear hhd hl hc h0 hpos h1 hs
    go_enter Tryz.func67,Tryz.ntmps67
    go_wp2_with fail
    refine (HL.out _).mono ?_
    rintro e w1 ⟨rfl,rfl⟩
    go_wp2
    go_ret
    exact⟨rfl,Below.refl _ _⟩
   |
    true =>
    rw[hl] at HL
    rw[Bool.true_and]
    have hrl:=nA (bT dD) s
    generalize row (bT dD) s=r at HRn hrl ⊢
    by_cases hr:r=s.length
    ·rw[decide_eq_true hr]
     have hr':(((r:Nat):Int)==((aj s).size:Int))=true:=by rw[hsz,beq_iff_eq];omega
     clear hhd hl hc h0 hpos h1 hs hr hrl
     generalize ((r:Nat):Int)=r' at HRn hr'
     go_enter Tryz.func67,Tryz.ntmps67
     go_wp2_with fail
     refine (HL.out _).mono ?_
     rintro e w1 ⟨rfl,rfl⟩
     go_wp2_with fail
     refine (HRn.out _).mono ?_
     rintro e w1 ⟨rfl,rfl⟩
     go_wp2
     go_ret
     exact⟨by rw[hsz] at hr';simp[hr'],Below.refl _ _⟩
    ·rw[decide_eq_false hr]
     have hr':(((r:Nat):Int)==((aj s).size:Int))=false:=by rw[hsz,beq_eq_false_iff_ne];omega
     clear hhd hl hc h0 hpos h1 hs hr hrl
     generalize ((r:Nat):Int)=r' at HRn hr'
     go_enter Tryz.func67,Tryz.ntmps67
     go_wp2_with fail
     refine (HL.out _).mono ?_
     rintro e w1 ⟨rfl,rfl⟩
     go_wp2_with fail
     refine (HRn.out _).mono ?_
     rintro e w1 ⟨rfl,rfl⟩
     go_wp2
     go_ret
     exact⟨by rw[hsz] at hr';simp[hr'],Below.refl _ _⟩
  ·rw[decide_eq_false h1,Bool.false_and]
   have h1' : ¬(((aj s).size:Int)≤16):=by rw[hsz];omega
   clear h1 h0 hpos hs
   go_enter Tryz.func67,Tryz.ntmps67
   go_wp2
   go_ret
   exact⟨rfl,Below.refl _ _⟩
theorem EN {α:Type} {xs:List α} {p:α→Bool} {lo hi:Nat} {x:α} (hx:x∈xs) (hp:p x=false):bf xs lo hi p=false:=by
 unfold bf
 have:xs.all p=false:=by
  rw[Bool.eq_false_iff]
  intro h
  have:=List.all_eq_true.1 h x hx
  rw[hp] at this
  cases this
 rw[this,Bool.and_false]
theorem Ei {α:Type} {xs:List α} {p:α→Bool} {lo hi:Nat} (h:xs.all p=true):decide (lo≤xs.length∧xs.length≤hi)=bf xs lo hi p:=by
 unfold bf
 rw[h,Bool.and_true]
theorem AO (n most:Nat) (hn:n≤9223372036854775807) (hm:most≤100) (w:World):Calls Tryz.prog 120 #[.int .i64 n,.int .i64 most] w fun e w'=>e = .returned (.bool (decide (1≤n∧n≤most)))∧w'=w:=by
 by_cases h1:1≤n
 ·have h1':((1:Int)≤(n:Int)):=by omega
  by_cases h2:n≤most
  ·have h2':((n:Int)≤(most:Int)):=by omega
   rw[decide_eq_true ⟨h1,h2⟩]
   go_enter Tryz.func120,Tryz.ntmps120
   go_wp2
   go_ret
   exact⟨rfl,rfl⟩
  ·have h2' : ¬((n:Int)≤(most:Int)):=by omega
   rw[decide_eq_false (fun h=>h2 h.2)]
   go_enter Tryz.func120,Tryz.ntmps120
   go_wp2
   go_ret
   exact⟨rfl,rfl⟩
 ·have h1' : ¬((1:Int)≤(n:Int)):=by omega
  rw[decide_eq_false (fun h=>h1 h.1)]
  go_enter Tryz.func120,Tryz.ntmps120
  go_wp2
  go_ret
  exact⟨rfl,rfl⟩
theorem tO (S:Nat→Prop) (xs:List (Co)) (v:Value) (w:World) (hR : ∀c∈xs,c.nm.length≤9223372036854775807) (hv:aQ 4 gH S w xs v) :
  Calls Tryz.prog 68 #[v] w fun e w'=>e = .returned (.bool (bf xs 1 8 eY))∧Below w.heap.size w w':=by
 have HV:=hid hv
 obtain⟨aa,cc,css,rfl,h1,h2,_⟩:=hv
 unfold maxLen at h2
 have HR:=hid hR
 have HM:=hid (fun V=>AO xs.length 8 (by omega) (by decide) V)
 have HFA:=hid (fun x (hx:x∈xs) (hp:eY x=false)=>EN (lo:=1) (hi:=8) hx hp)
 have HTR:=hid (fun (h:xs.all eY=true)=>Ei (lo:=1) (hi:=8) h)
 obtain⟨X,hX⟩:∃X,bf xs 1 8 eY=X:=⟨_,rfl⟩
 rw[hX] at HFA HTR ⊢
 clear hX hR
 go_enter Tryz.func68,Tryz.ntmps68
 go_wp2_with fail
 go_loopw [3,4] (fun i _ wr=>∃(k:Nat),k≤xs.length∧i = .int .i64 k∧Below w.heap.size w wr∧Hid ((xs.take k).all eY=true)) (fun i _ _=>xs.length-(intOf i).toNat)
 case atStart=>exact⟨0,Nat.zero_le _,rfl,Below.refl _ _,hid rfl⟩
 case round =>
  obtain⟨k,hk,rfl,hbel,HK⟩:=hrel
  by_cases hlt:k<xs.length
  ·obtain⟨x,hx⟩:∃x,xs[k]?=some x:=⟨_,List.getElem?_eq_getElem hlt⟩
   have hlt':((k:Int)<(xs.length:Int)):=by omega
   obtain⟨_,_,_,b,off,cs,rfl,_,hel,hcell⟩:=bN (HV.out.to (T:=S) (by decide) (R:=fun _=>False) (aA.aC hbel) (fun b hb _=>⟨id,hb⟩) (fun _ _ e=>e)) hx
   have hxm:=List.mem_of_getElem? hx
   have HXF:=hid (HFA.out x hxm)
   have HTT:=hid (lF eY hx)
   have HBR:=hid hbel
   obtain rfl:=hel
   have q0:=hcell 0 _ rfl
   have q1:=hcell 1 _ rfl
   simp only[Nat.add_zero] at q0
   have hbl:b<wr.heap.size:=World.block_lt_of_cell? wr _ q0
   have HQ1:=hid q1
   have HN:=hid (mY x.nm wr (HR.out x hxm))
   have hpx:eY x=(bC x.nm&&decide (x.k=1∨x.k=2)):=rfl
   rw[hpx] at HXF HTT
   generalize bC x.nm=bn at HN HXF HTT
   clear hbel hcell hx hxm hpx q1
   go_wp2_with fail
   refine HN.out.mono ?_
   rintro e w2 ⟨rfl,hb2⟩
   have q1:=(hb2.cell (p:=⟨b,off+k*4+1,none⟩) hbl).trans HQ1.out
   have HB2:=hid (HBR.out.trans (hb2.mono HBR.out.size))
   clear hb2 HN HBR HQ1 q0
   cases bn with
   |
    false =>
    have HXX:=hid (HXF.out rfl)
    clear HXF HTT HK
    go_wp2
    go_ret
    exact⟨HXX.out.symm ▸ rfl,HB2.out⟩
   |
    true =>
    by_cases k1:x.k=1
    ·have n1:(x.k != 1)=false:=by rw[k1];rfl
     have HK2:Hid ((xs.take (k+1)).all eY=true):=hid (by rw[HTT.out,HK.out,decide_eq_true (.inl k1)];rfl)
     clear HXF HTT HK k1
     go_wp2
     go_roundw
     case rel=>exact⟨k+1,by omega,by go_num,HB2.out,HK2⟩
     case measure=>simp[intOf];omega
    ·have n1:(x.k != 1)=true:=by simpa using k1
     by_cases k2:x.k=2
     ·have n2:(x.k != 2)=false:=by rw[k2];rfl
      have HK2:Hid ((xs.take (k+1)).all eY=true):=hid (by rw[HTT.out,HK.out,decide_eq_true (.inr k2)];rfl)
      clear HXF HTT HK k1 k2
      go_wp2
      go_roundw
      case rel=>exact⟨k+1,by omega,by go_num,HB2.out,HK2⟩
      case measure=>simp[intOf];omega
     ·have n2:(x.k != 2)=true:=by simpa using k2
      have HXX:=hid (HXF.out (by rw[decide_eq_false (fun e=>e.elim k1 k2)];rfl))
      clear HXF HTT HK k1 k2
      go_wp2
      go_ret
      exact⟨HXX.out.symm ▸ rfl,HB2.out⟩
  ·have hlt' : ¬((k:Int)<(xs.length:Int)):=by omega
   have HXT:Hid (decide (1≤xs.length∧xs.length≤8)=X):=hid (by have:=HK.out;rw[List.take_of_length_le (by omega)] at this;exact HTR.out this)
   have HMW:=hid (HM.out wr)
   have HB2:=hid hbel
   clear hbel HK HTR HFA HM
   rw[HXT.out] at HMW
   clear HXT
   go_wp2_with fail
   refine HMW.out.mono ?_
   rintro e w2 ⟨rfl,rfl⟩
   go_wp2
   go_ret
   exact⟨rfl,HB2.out⟩
theorem wR {a b c d:Bool} (h:a=b) (h2:c=d):(a&&c)=(b&&d):=by rw[h,h2]
theorem Fv (S:Nat→Prop) (s:St) (cs:List Value) (w:World) (hR:xH s) (hx:eZ S w s cs) (hk:s.k=1) :
  Calls Tryz.prog 26 #[.agg cs.toArray] w fun e w'=>e = .returned (.bool (aZ s))∧Below w.heap.size w w':=by
 obtain⟨a1,a2,a3,a4,a5,a6,a7,a8,n1,n2,n3,n4,n5,n6,n7,n8,c1,c2,c3,c4,c5,c6,c7,c8,rfl,x1,x2,x3,x4,x5,x6,x7,x8⟩:=hx
 have e1:n1=s.cols.length:=by obtain⟨_,_,hf⟩:=x1.form;simp only[Value.slice.injEq] at hf;exact hf.2.1
 have e2:n2=s.rows.length:=by obtain⟨_,_,hf⟩:=x2.form;simp only[Value.slice.injEq] at hf;exact hf.2.1
 have e3:n3=s.sets.length:=by obtain⟨_,_,hf⟩:=x3.form;simp only[Value.slice.injEq] at hf;exact hf.2.1
 have e4:n4=s.items.length:=by obtain⟨_,_,hf⟩:=x4.form;simp only[Value.slice.injEq] at hf;exact hf.2.1
 have e5:n5=s.on.length:=by obtain⟨_,_,hf,_⟩:=x5.form;simp only[Value.slice.injEq] at hf;exact hf.2.1
 have e6:n6=s.wh.length:=by obtain⟨_,_,hf,_⟩:=x6.form;simp only[Value.slice.injEq] at hf;exact hf.2.1
 have e7:n7=s.gr.length:=by obtain⟨_,_,hf,_⟩:=x7.form;simp only[Value.slice.injEq] at hf;exact hf.2.1
 have e8:n8=s.od.length:=by obtain⟨_,_,hf,_⟩:=x8.form;simp only[Value.slice.injEq] at hf;exact hf.2.1
 obtain⟨k,tn,cols,prim,rows,sets,items,jn,on,wh,gr,od,desc,lim⟩:=s
 obtain⟨rt,rp,rj,rl,rc,rr,rs,ri,ro,rw',rg,rd⟩:=hR
 dsimp only at *
 subst hk
 obtain⟨W,hW,hbW,hzW,hcW⟩:=aL w (.cells #[.int .i64 1,.string (aj tn),.slice a1 n1 c1,.string (aj prim),.slice a2 n2 c2,.slice a3 n3 c3,.slice a4 n4 c4,.string (aj jn),.slice a5 n5 c5,.slice a6 n6 c6,.slice a7 n7 c7,.slice a8 n8 c8,.bool desc,.int .i64 lim] 29)
 have k0:=ay hcW
 have HC0:=hid hcW
 have HBW:=hid hbW
 have HW0:Hid (Below W.heap.size W W):=hid (Below.refl _ _)
 have HNT:=hid (mY tn W rt)
 have HC:=hid (fun V (hV0:Below W.heap.size W V)=>by have hV:=HBW.out.trans (hV0.mono HBW.out.size);exact tO S cols _ V rc (x1.to (by decide) (R:=fun _=>False) (T:=S) (aA.aC hV) (fun b hb _=>⟨id,hb⟩) (fun _ _ e=>e)))
 have HP:=hid (fun V=>mY prim V rp)
 obtain⟨X,hX⟩:∃X,aZ ⟨1,tn,cols,prim,rows,sets,items,jn,on,wh,gr,od,desc,lim⟩=X:=⟨_,rfl⟩
 rw[hX]
 have hXe:X=((bf cols 1 8 eY&&bC prim)&&(bC tn&&decide (n2=0∧n3=0∧n6=0∧n4=0∧jn=[]∧n5=0∧n7=0∧n8=0∧desc=false∧lim = -1))):=by
  rw[← hX]
  unfold aZ
  refine wR rfl (wR rfl ?_)
  show wK ⟨0,[],[],[],rows,sets,items,jn,on,wh,gr,od,desc,lim⟩=_
  unfold wK
  dsimp only
  rw[Bool.eq_iff_iff,decide_eq_true_eq,decide_eq_true_eq,e2,e3,e4,e5,e6,e7,e8]
  exact⟨fun ⟨_,_,h_cols,h_prim,h_rows,h_sets,h_items,h_jn,h_on,h_wh,h_gr,h_od,h_desc,h_lim⟩=>⟨h_rows,h_sets,h_wh,h_items,h_jn,h_on,h_gr,h_od,h_desc,h_lim⟩,fun ⟨h_rows,h_sets,h_wh,h_items,h_jn,h_on,h_gr,h_od,h_desc,h_lim⟩=>⟨rfl,rfl,rfl,rfl,h_rows,h_sets,h_items,h_jn,h_on,h_wh,h_gr,h_od,h_desc,h_lim⟩⟩
 clear hX
 generalize bf cols 1 8 eY=b1 at HC hXe
 generalize bC prim=b2 at HP hXe
 generalize bC tn=bn at HNT hXe
 have HXN:Hid (bn=false→X=false):=hid (fun h=>by rw[hXe,h,Bool.false_and,Bool.and_false])
 have HXF:Hid (¬(n2=0∧n3=0∧n6=0∧n4=0∧jn=[]∧n5=0∧n7=0∧n8=0∧desc=false∧lim = -1)→X=false):=hid (fun h=>by rw[hXe,decide_eq_false h,Bool.and_false,Bool.and_false])
 have HXT:Hid (bn=true→(n2=0∧n3=0∧n6=0∧n4=0∧jn=[]∧n5=0∧n7=0∧n8=0∧desc=false∧lim = -1)→X=(b1&&b2)):=hid (fun h1 h=>by rw[hXe,decide_eq_true h,h1];simp)
 clear hXe e1 e2 e3 e4 e5 e6 e7 e8 x1 x2 x3 x4 x5 x6 x7 x8 rt rp rj rc rr rs ri ro rw' rg rd hcW hbW
 go_enter Tryz.func26,Tryz.ntmps26
 go_wp2_with fail
 try rw[hW]
 clear hW k0
 refine HNT.out.mono ?_
 rintro e w1 ⟨rfl,hb1⟩
 have HW1:=hid (HW0.out.trans (hb1.mono HW0.out.size))
 have HB1:=hid (HBW.out.trans (HW1.out.mono HBW.out.size))
 have kk:=ay ((HW1.out.block w.heap.size hzW).trans HC0.out)
 clear hb1 HNT HW0
 cases bn with
 |
  false =>
  have HXX:=hid (HXN.out rfl)
  clear HXN HXF HXT
  go_wp2
  go_ret
  exact⟨HXX.out.symm ▸ rfl,HB1.out⟩
 |
  true =>
  clear HXN
  rcases Nat.eq_zero_or_pos n2 with c0 | c0
  ·subst c0
   rcases Nat.eq_zero_or_pos n3 with c1 | c1
   ·subst c1
    rcases Nat.eq_zero_or_pos n6 with c2 | c2
    ·subst c2
     rcases Nat.eq_zero_or_pos n4 with c3 | c3
     ·subst c3
      by_cases c4:jn=[]
      ·have t4:(aj jn).toList.isEmpty=true:=by rw[dF,decide_eq_true c4]
       have d4:=hid c4
       clear c4
       rcases Nat.eq_zero_or_pos n5 with c5 | c5
       ·subst c5
        rcases Nat.eq_zero_or_pos n7 with c6 | c6
        ·subst c6
         rcases Nat.eq_zero_or_pos n8 with c7 | c7
         ·subst c7
          cases desc with
          |
           true =>
           have HXX:=hid (HXF.out (fun h=>by obtain⟨q0,q1,q2,q3,q4,q5,q6,q7,q8,q9⟩:=h;cases q8))
           clear HXF HXT
           go_wp2
           go_ret
           exact⟨HXX.out.symm ▸ rfl,HB1.out⟩
          |
           false =>
           by_cases c9:lim = -1
           ·have t9:(lim != -1)=false:=by rw[c9];rfl
            have d9:=hid c9
            clear c9
            have HXX:=hid (HXT.out rfl ⟨rfl,rfl,rfl,rfl,d4.out,rfl,rfl,rfl,rfl,d9.out⟩)
            clear HXF HXT
            have HC1:=hid (HC.out w1 HW1.out)
            clear HC
            go_wp2_with fail
            refine HC1.out.mono ?_
            rintro e w2 ⟨rfl,hb2⟩
            have HW2:=hid (HW1.out.trans (hb2.mono HW1.out.size))
            have HB1:=hid (HBW.out.trans (HW2.out.mono HBW.out.size))
            have kk:=ay ((HW2.out.block w.heap.size hzW).trans HC0.out)
            clear hb2 HC1 HW1
            cases b1 with
            |
             false =>
             clear HP
             go_wp2
             go_ret
             exact⟨HXX.out.symm ▸ rfl,HB1.out⟩
            |
             true =>
             have HC2:=hid (HP.out w2)
             clear HP
             go_wp2_with fail
             refine HC2.out.mono ?_
             rintro e w3 ⟨rfl,hb3⟩
             have HW3:=hid (HW2.out.trans (hb3.mono HW2.out.size))
             have HB1:=hid (HBW.out.trans (HW3.out.mono HBW.out.size))
             have kk:=ay ((HW3.out.block w.heap.size hzW).trans HC0.out)
             clear hb3 HC2 HW2
             go_wp2
             go_ret
             exact⟨HXX.out.symm ▸ rfl,HB1.out⟩
           ·have t9:(lim != -1)=true:=by rw[bne_iff_ne];exact c9
            have HXX:=hid (HXF.out (fun h=>by obtain⟨q0,q1,q2,q3,q4,q5,q6,q7,q8,q9⟩:=h;exact c9 q9))
            clear HXF HXT c9
            go_wp2
            go_ret
            exact⟨HXX.out.symm ▸ rfl,HB1.out⟩
         ·have t7:((0:Int)<(n8:Int)):=by omega
          have HXX:=hid (HXF.out (fun h=>by obtain⟨q0,q1,q2,q3,q4,q5,q6,q7,q8,q9⟩:=h;omega))
          clear HXF HXT c7
          go_wp2
          go_ret
          exact⟨HXX.out.symm ▸ rfl,HB1.out⟩
        ·have t6:((0:Int)<(n7:Int)):=by omega
         have HXX:=hid (HXF.out (fun h=>by obtain⟨q0,q1,q2,q3,q4,q5,q6,q7,q8,q9⟩:=h;omega))
         clear HXF HXT c6
         go_wp2
         go_ret
         exact⟨HXX.out.symm ▸ rfl,HB1.out⟩
       ·have t5:((0:Int)<(n5:Int)):=by omega
        have HXX:=hid (HXF.out (fun h=>by obtain⟨q0,q1,q2,q3,q4,q5,q6,q7,q8,q9⟩:=h;omega))
        clear HXF HXT c5
        go_wp2
        go_ret
        exact⟨HXX.out.symm ▸ rfl,HB1.out⟩
      ·have t4:(aj jn).toList.isEmpty=false:=by rw[dF,decide_eq_false c4]
       have HXX:=hid (HXF.out (fun h=>by obtain⟨q0,q1,q2,q3,q4,q5,q6,q7,q8,q9⟩:=h;exact c4 q4))
       clear HXF HXT c4
       go_wp2
       go_ret
       exact⟨HXX.out.symm ▸ rfl,HB1.out⟩
     ·have t3:((0:Int)<(n4:Int)):=by omega
      have HXX:=hid (HXF.out (fun h=>by obtain⟨q0,q1,q2,q3,q4,q5,q6,q7,q8,q9⟩:=h;omega))
      clear HXF HXT c3
      go_wp2
      go_ret
      exact⟨HXX.out.symm ▸ rfl,HB1.out⟩
    ·have t2:((0:Int)<(n6:Int)):=by omega
     have HXX:=hid (HXF.out (fun h=>by obtain⟨q0,q1,q2,q3,q4,q5,q6,q7,q8,q9⟩:=h;omega))
     clear HXF HXT c2
     go_wp2
     go_ret
     exact⟨HXX.out.symm ▸ rfl,HB1.out⟩
   ·have t1:((0:Int)<(n3:Int)):=by omega
    have HXX:=hid (HXF.out (fun h=>by obtain⟨q0,q1,q2,q3,q4,q5,q6,q7,q8,q9⟩:=h;omega))
    clear HXF HXT c1
    go_wp2
    go_ret
    exact⟨HXX.out.symm ▸ rfl,HB1.out⟩
  ·have t0:((0:Int)<(n2:Int)):=by omega
   have HXX:=hid (HXF.out (fun h=>by obtain⟨q0,q1,q2,q3,q4,q5,q6,q7,q8,q9⟩:=h;omega))
   clear HXF HXT c0
   go_wp2
   go_ret
   exact⟨HXX.out.symm ▸ rfl,HB1.out⟩
end Go.Proofs.YtfeglkleoijlaaaGreatDoor
