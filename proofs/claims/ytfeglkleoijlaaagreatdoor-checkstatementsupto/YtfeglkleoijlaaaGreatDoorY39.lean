import Derived.Test.YtfeglkleoijlaaaGreatDoorY38
import Derived.Test.YtfeglkleoijlaaaGreatDoorY35
import Derived.Test.YtfeglkleoijlaaaGreatDoorY13
import Derived.Test.YtfeglkleoijlaaaGreatDoorY19
namespace Go.Proofs.YtfeglkleoijlaaaGreatDoor
open Go.RowKit Go.Shelf
set_option linter.unusedSimpArgs false
set_option linter.unusedVariables false
set_option maxRecDepth 20000
set_option maxHeartbeats 8000000
theorem sj {α:Type} {xs:List α} {p:α→Bool} {lo hi:Nat} {x:α} (hx:x∈xs) (hp:p x=false):aR xs lo hi p=false:=by
 unfold aR
 have:xs.all p=false:=by
  rw[Bool.eq_false_iff]
  intro h
  have:=List.all_eq_true.1 h x hx
  rw[hp] at this
  cases this
 rw[this,Bool.and_false]
theorem pK {α:Type} {xs:List α} {p:α→Bool} {lo hi:Nat} (h:xs.all p=true):decide (lo≤xs.length∧xs.length≤hi)=aR xs lo hi p:=by
 unfold aR
 rw[h,Bool.and_true]
theorem nG (n most:Nat) (hn:n≤9223372036854775807) (hm:most≤100) (w:World):Calls Tryz.prog 120 #[.int .i64 n,.int .i64 most] w fun e w'=>e = .returned (.bool (decide (1≤n∧n≤most)))∧w'=w:=by
 by_cases h1:1≤n
 ·have h1':((1:Int)≤(n:Int)):=by omega
  by_cases h2:n≤most
  ·have h2':((n:Int)≤(most:Int)):=by omega
   rw[aar ⟨h1,h2⟩]
   go_enter Tryz.func120,Tryz.ntmps120
   go_wp2
   go_ret
   exact⟨rfl,rfl⟩
  ·have h2' : ¬((n:Int)≤(most:Int)):=by omega
   rw[aaj (fun h=>h2 h.2)]
   go_enter Tryz.func120,Tryz.ntmps120
   go_wp2
   go_ret
   exact⟨rfl,rfl⟩
 ·have h1' : ¬((1:Int)≤(n:Int)):=by omega
  rw[aaj (fun h=>h1 h.1)]
  go_enter Tryz.func120,Tryz.ntmps120
  go_wp2
  go_ret
  exact⟨rfl,rfl⟩
theorem qh (S:Nat→Prop) (xs:List Ex) (v:Value) (w:World) (hR : ∀x∈xs,mO x) (hx:bA S w xs v):Calls Tryz.prog 71 #[v] w fun e w'=>e = .returned (.bool (aR xs 0 1 aF))∧Below w.heap.size w w':=by
 have HC:=hid (uV S xs v w hR hx)
 obtain⟨a',c',rfl,_⟩:=hx.form
 have hA:aR xs 0 1 aF=(decide (xs.length≤1)&&xs.all aF):=by unfold aR;simp
 rw[hA]
 clear hA hx hR
 by_cases h1:xs.length≤1
 ·have h1':((xs.length:Int)≤1):=by omega
  rw[aar h1,aaA]
  generalize xs.all aF=br at HC ⊢
  clear h1
  go_enter Tryz.func71,Tryz.ntmps71
  go_wp2_with fail
  refine HC.out.mono ?_
  rintro e w2 ⟨rfl,hb2⟩
  have HB:=hid hb2
  clear hb2 HC
  go_wp2
  go_ret
  exact⟨rfl,HB.out⟩
 ·have h1' : ¬((xs.length:Int)≤1):=by omega
  rw[aaj h1,aaz]
  clear HC h1
  go_enter Tryz.func71,Tryz.ntmps71
  go_wp2
  go_ret
  exact⟨rfl,Below.refl _ _⟩
theorem zX (S:Nat→Prop) (xs:List Ex) (v:Value) (w:World) (hR : ∀x∈xs,mO x) (hx:bA S w xs v):Calls Tryz.prog 73 #[v] w fun e w'=>e = .returned (.bool (aR xs 0 1 dO))∧Below w.heap.size w w':=by
 have HC:=hid (qh S xs v w hR hx)
 have HX:=hid hx
 obtain⟨a',c',rfl,_⟩:=hx.form
 clear hx hR
 match xs,HC,HX with
 |
  [],HC,HX =>
  have hA:aR ([]:List Ex) 0 1 aF=true:=rfl
  rw[hA] at HC
  show Calls Tryz.prog 73 _ w fun e w'=>e = .returned (.bool true)∧_
  clear HX hA
  go_enter Tryz.func73,Tryz.ntmps73
  go_wp2_with fail
  refine HC.out.mono ?_
  rintro e w2 ⟨rfl,hb2⟩
  have HB:=hid hb2
  clear hb2 HC
  go_wp2
  go_ret
  exact⟨rfl,HB.out⟩
 |
  [x],HC,HX =>
  have hA:aR [x] 0 1 aF=aF x:=by unfold aR;simp
  have hB:aR [x] 0 1 dO=(decide (fV x=2)&&aF x):=by unfold aR dO;simp
  rw[hA] at HC
  rw[hB]
  obtain⟨q1,q2,q3,bb,off,k1,op1,dN,fU,fJ,fI,vs1,ys1,a1,n1,c1,hae,rfl,_,h7,h8⟩:=fH HX.out
  unfold Cells8 at h7
  have hbl:bb<w.heap.size:=World.block_lt_of_cell? w _ h7.1
  have HQ:=hid h7.1
  have hk:fV x=k1:=by rw[hae];rfl
  rw[hk]
  generalize aF x=br at HC ⊢
  clear hA hB h7 h8 hae HX hk
  cases br with
  |
   false =>
   rw[Bool.and_false]
   go_enter Tryz.func73,Tryz.ntmps73
   go_wp2_with fail
   refine HC.out.mono ?_
   rintro e w2 ⟨rfl,hb2⟩
   have HB:=hid hb2
   clear hb2 HC
   go_wp2
   go_ret
   exact⟨rfl,HB.out⟩
  |
   true =>
   rw[Bool.and_true]
   by_cases hk2:k1=2
   ·subst hk2
    rw[aar rfl]
    go_enter Tryz.func73,Tryz.ntmps73
    go_wp2_with fail
    refine HC.out.mono ?_
    rintro e w2 ⟨rfl,hb2⟩
    have HB:=hid hb2
    have k2:=(hb2.cell (p:=⟨bb,off,none⟩) hbl).trans HQ.out
    clear hb2 HC HQ
    go_wp2
    go_ret
    exact⟨rfl,HB.out⟩
   ·have hkb:(k1==2)=false:=by rw[aai];exact hk2
    rw[aaj hk2]
    go_enter Tryz.func73,Tryz.ntmps73
    go_wp2_with fail
    refine HC.out.mono ?_
    rintro e w2 ⟨rfl,hb2⟩
    have HB:=hid hb2
    have k2:=(hb2.cell (p:=⟨bb,off,none⟩) hbl).trans HQ.out
    clear hb2 HC HQ
    go_wp2
    go_ret
    exact⟨rfl,HB.out⟩
 |
  x::y::l,HC,HX =>
  have hA:aR (x::y::l) 0 1 aF=false:=by unfold aR;rw[aaj (by simp)];rfl
  have hB:aR (x::y::l) 0 1 dO=false:=by unfold aR;rw[aaj (by simp)];rfl
  rw[hA] at HC
  rw[hB]
  clear HX hA hB
  generalize (x::y::l).length=nn at HC ⊢
  go_enter Tryz.func73,Tryz.ntmps73
  go_wp2_with fail
  refine HC.out.mono ?_
  rintro e w2 ⟨rfl,hb2⟩
  have HB:=hid hb2
  clear hb2 HC
  go_wp2
  go_ret
  exact⟨rfl,HB.out⟩
theorem BZ (S:Nat→Prop) (xs:List (Co)) (v:Value) (w:World) (hR : ∀c∈xs,c.nm.length≤9223372036854775807) (hv:aM 4 ku S w xs v) :
  Calls Tryz.prog 68 #[v] w fun e w'=>e = .returned (.bool (aR xs 1 8 iV))∧Below w.heap.size w w':=by
 have HV:=hid hv
 obtain⟨aa,cc,css,rfl,h1,h2,_⟩:=hv
 unfold maxLen at h2
 have HR:=hid hR
 have HM:=hid (fun V=>nG xs.length 8 (by omega) (by decide) V)
 have yN:=hid (fun x (hx:x∈xs) (hp:iV x=false)=>sj (lo:=1) (hi:=8) hx hp)
 have FM:=hid (fun (h:xs.all iV=true)=>pK (lo:=1) (hi:=8) h)
 obtain⟨X,hX⟩:∃X,aR xs 1 8 iV=X:=⟨_,rfl⟩
 rw[hX] at yN FM ⊢
 clear hX hR
 go_enter Tryz.func68,Tryz.ntmps68
 go_wp2_with fail
 go_loopw [3,4] (fun i _ wr=>∃(k:Nat),k≤xs.length∧i = .int .i64 k∧Below w.heap.size w wr∧Hid ((xs.take k).all iV=true)) (fun i _ _=>xs.length-(intOf i).toNat)
 case atStart=>exact⟨0,aaV _,rfl,Below.refl _ _,hid rfl⟩
 case round =>
  obtain⟨k,hk,rfl,hbel,HK⟩:=hrel
  by_cases hlt:k<xs.length
  ·obtain⟨x,hx⟩:∃x,xs[k]?=some x:=⟨_,aaf hlt⟩
   have hlt':((k:Int)<(xs.length:Int)):=by omega
   obtain⟨_,_,_,b,off,cs,rfl,_,hel,hcell⟩:=bC (HV.out.to (T:=S) (by decide) (R:=fun _=>False) (ak.aA hbel) (fun b hb _=>⟨id,hb⟩) (fun _ _ e=>e)) hx
   have hxm:=aaP hx
   have bE:=hid (yN.out x hxm)
   have nC:=hid (gX iV hx)
   have nZ:=hid hbel
   obtain rfl:=hel
   have q0:=hcell 0 _ rfl
   have q1:=hcell 1 _ rfl
   simp only[aa2] at q0
   have hbl:b<wr.heap.size:=World.block_lt_of_cell? wr _ q0
   have cZ:=hid q1
   have HN:=hid (fA x.nm wr (HR.out x hxm))
   have hpx:iV x=(aU x.nm&&decide (x.k=1∨x.k=2)):=rfl
   rw[hpx] at bE nC
   generalize aU x.nm=bn at HN bE nC
   clear hbel hcell hx hxm hpx q1
   go_wp2_with fail
   refine HN.out.mono ?_
   rintro e w2 ⟨rfl,hb2⟩
   have q1:=(hb2.cell (p:=⟨b,off+k*4+1,none⟩) hbl).trans cZ.out
   have HB2:=htr nZ hb2
   clear hb2 HN nZ cZ q0
   cases bn with
   |
    false =>
    have bI:=hid (bE.out rfl)
    clear bE nC HK
    go_wp2
    go_ret
    exact⟨bI.out.symm ▸ rfl,HB2.out⟩
   |
    true =>
    by_cases k1:x.k=1
    ·have n1:(x.k != 1)=false:=by rw[k1];rfl
     have mE:Hid ((xs.take (k+1)).all iV=true):=hid (by rw[nC.out,HK.out,aar (.inl k1)];rfl)
     clear bE nC HK k1
     go_wp2
     go_roundw
     case rel=>exact⟨k+1,by omega,by go_num,HB2.out,mE⟩
     case measure=>simp[intOf];omega
    ·have n1:(x.k != 1)=true:=by simpa using k1
     by_cases k2:x.k=2
     ·have n2:(x.k != 2)=false:=by rw[k2];rfl
      have mE:Hid ((xs.take (k+1)).all iV=true):=hid (by rw[nC.out,HK.out,aar (.inr k2)];rfl)
      clear bE nC HK k1 k2
      go_wp2
      go_roundw
      case rel=>exact⟨k+1,by omega,by go_num,HB2.out,mE⟩
      case measure=>simp[intOf];omega
     ·have n2:(x.k != 2)=true:=by simpa using k2
      have bI:=hid (bE.out (by rw[aaj (fun e=>e.elim k1 k2)];rfl))
      clear bE nC HK k1 k2
      go_wp2
      go_ret
      exact⟨bI.out.symm ▸ rfl,HB2.out⟩
  ·have hlt' : ¬((k:Int)<(xs.length:Int)):=by omega
   have dz:Hid (decide (1≤xs.length∧xs.length≤8)=X):=hid (by have:=HK.out;rw[aaU (by omega)] at this;exact FM.out this)
   have D8:=hid (HM.out wr)
   have HB2:=hid hbel
   clear hbel HK FM yN HM
   rw[dz.out] at D8
   clear dz
   go_wp2_with fail
   refine D8.out.mono ?_
   rintro e w2 ⟨rfl,rfl⟩
   go_wp2
   go_ret
   exact⟨rfl,HB2.out⟩
theorem JG (S:Nat→Prop) (xs:List (Se)) (v:Value) (w:World) (hR : ∀x∈xs,x.nm.length≤9223372036854775807∧mO x.e) (hv:aM 9 BM S w xs v) :
  Calls Tryz.prog 70 #[v] w fun e w'=>e = .returned (.bool (aR xs 1 8 j6))∧Below w.heap.size w w':=by
 have HV:=hid hv
 obtain⟨aa,cc,css,rfl,h1,h2,_⟩:=hv
 unfold maxLen at h2
 have HR:=hid hR
 have HM:=hid (fun V=>nG xs.length 8 (by omega) (by decide) V)
 have yN:=hid (fun x (hx:x∈xs) (hp:j6 x=false)=>sj (lo:=1) (hi:=8) hx hp)
 have FM:=hid (fun (h:xs.all j6=true)=>pK (lo:=1) (hi:=8) h)
 obtain⟨X,hX⟩:∃X,aR xs 1 8 j6=X:=⟨_,rfl⟩
 rw[hX] at yN FM ⊢
 clear hX hR
 go_enter Tryz.func70,Tryz.ntmps70
 go_wp2_with fail
 go_loopw [3,4,5] (fun i _ _ wr=>∃(k:Nat),k≤xs.length∧i = .int .i64 k∧Below w.heap.size w wr∧Hid ((xs.take k).all j6=true)) (fun i _ _ _=>xs.length-(intOf i).toNat)
 case atStart=>exact⟨0,aaV _,rfl,Below.refl _ _,hid rfl⟩
 case round =>
  obtain⟨k,hk,rfl,hbel,HK⟩:=hrel
  by_cases hlt:k<xs.length
  ·obtain⟨x,hx⟩:∃x,xs[k]?=some x:=⟨_,aaf hlt⟩
   have hlt':((k:Int)<(xs.length:Int)):=by omega
   obtain⟨_,_,_,b,off,cs,rfl,_,hel,hcell⟩:=bC (HV.out.to (T:=S) (by decide) (R:=fun _=>False) (ak.aA hbel) (fun b hb _=>⟨id,hb⟩) (fun _ _ e=>e.to (R:=fun _=>False) (ak.aA hbel) (fun b hb _=>⟨id,hb⟩))) hx
   have hxm:=aaP hx
   have bE:=hid (yN.out x hxm)
   have nC:=hid (gX j6 hx)
   have nZ:=hid hbel
   obtain⟨k1,op1,dN,fU,fJ,fI,vs1,ys1,eD,dF,eB,hxe,rfl,O7⟩:=hel
   have q0:=hcell 0 _ rfl
   have q1:=hcell 1 _ rfl
   have q2:=hcell 2 _ rfl
   have q3:=hcell 3 _ rfl
   have q4:=hcell 4 _ rfl
   have q5:=hcell 5 _ rfl
   have q6:=hcell 6 _ rfl
   have q7:=hcell 7 _ rfl
   have q8:=hcell 8 _ rfl
   simp only[aa2] at q0
   have hbl:b<wr.heap.size:=World.block_lt_of_cell? wr _ q0
   have Jz:=hid (fun (V:World) (hV:Below wr.heap.size wr V)=>(⟨(hV.cell (p:=⟨b,off+k*9+1,none⟩) hbl).trans q1,(hV.cell (p:=⟨b,off+k*9+2,none⟩) hbl).trans q2,(hV.cell (p:=⟨b,off+k*9+3,none⟩) hbl).trans q3,(hV.cell (p:=⟨b,off+k*9+4,none⟩) hbl).trans q4,(hV.cell (p:=⟨b,off+k*9+5,none⟩) hbl).trans q5,(hV.cell (p:=⟨b,off+k*9+6,none⟩) hbl).trans q6,(hV.cell (p:=⟨b,off+k*9+7,none⟩) hbl).trans q7,(hV.cell (p:=⟨b,off+k*9+8,none⟩) hbl).trans q8⟩:V.cell? ⟨b,off+k*9+1,none⟩=some (.int .i64 k1)∧V.cell? ⟨b,off+k*9+2,none⟩=some (.int .i64 op1)∧V.cell? ⟨b,off+k*9+3,none⟩=some (.string (aj dN))∧V.cell? ⟨b,off+k*9+4,none⟩=some (.string (aj fU))∧V.cell? ⟨b,off+k*9+5,none⟩=some (.int .i64 fJ)∧V.cell? ⟨b,off+k*9+6,none⟩=some (.int .i64 fI)∧V.cell? ⟨b,off+k*9+7,none⟩=some (.string (aj vs1))∧V.cell? ⟨b,off+k*9+8,none⟩=some (.slice eD dF eB)))
   have HN:=hid (fA x.nm wr (HR.out x hxm).1)
   have Pf:=hid (fun V (hV:Below wr.heap.size wr V)=>vG S x.e _ V (HR.out x hxm).2 (⟨k1,op1,dN,fU,fJ,fI,vs1,ys1,eD,dF,eB,hxe,rfl,O7.new hV⟩:gH S V x.e (.agg #[.int .i64 k1,.int .i64 op1,.string (aj dN),.string (aj fU),.int .i64 fJ,.int .i64 fI,.string (aj vs1),.slice eD dF eB])))
   have hpx:j6 x=(aU x.nm&&aF x.e):=rfl
   rw[hpx] at bE nC
   generalize aU x.nm=bn at HN bE nC
   generalize aF x.e=br at Pf bE nC
   clear hbel hcell hx hxm hpx q1 q2 q3 q4 q5 q6 q7 q8 hxe O7
   go_wp2_with fail
   refine HN.out.mono ?_
   rintro e w2 ⟨rfl,hb2⟩
   have q1:=Jz.out w2 hb2
   have HR2:=hid (Pf.out w2 hb2)
   have Ua:=htr nZ hb2
   clear hb2 HN nZ Jz Pf q0
   go_wp2_with fail
   refine HR2.out.mono ?_
   rintro e w3 ⟨rfl,hb3⟩
   have HB2:=hid (Ua.out.trans (hb3.mono Ua.out.size))
   clear hb3 HR2 Ua q1
   cases bn with
   |
    false =>
    have bI:=hid (bE.out rfl)
    clear bE nC HK
    go_wp2
    go_ret
    exact⟨bI.out.symm ▸ rfl,HB2.out⟩
   |
    true =>
    cases br with
    |
     false =>
     have bI:=hid (bE.out rfl)
     clear bE nC HK
     go_wp2
     go_ret
     exact⟨bI.out.symm ▸ rfl,HB2.out⟩
    |
     true =>
     have mE:Hid ((xs.take (k+1)).all j6=true):=hid (by rw[nC.out,HK.out];rfl)
     clear bE nC HK
     go_wp2
     go_roundw
     case rel=>exact⟨k+1,by omega,by go_num,HB2.out,mE⟩
     case measure=>simp[intOf];omega
  ·have hlt' : ¬((k:Int)<(xs.length:Int)):=by omega
   have dz:Hid (decide (1≤xs.length∧xs.length≤8)=X):=hid (by have:=HK.out;rw[aaU (by omega)] at this;exact FM.out this)
   have D8:=hid (HM.out wr)
   have HB2:=hid hbel
   clear hbel HK FM yN HM
   rw[dz.out] at D8
   clear dz
   go_wp2_with fail
   refine D8.out.mono ?_
   rintro e w2 ⟨rfl,rfl⟩
   go_wp2
   go_ret
   exact⟨rfl,HB2.out⟩
theorem gV {a b c d:Bool} (h:a=b) (h2:c=d):(a&&c)=(b&&d):=by rw[h,h2]
def OJ (K:Int) (n:Nat) (br:Bool):Bool:=if K=1∨K=3 then br&&decide (n=0) else if 1≤K∧K≤7 then br&&decide (n=1) else false
theorem Tf (x:It):oQ x=OJ x.k x.xs.length (x.xs.all aF):=by
 unfold oQ OJ
 by_cases h:x.k=1∨x.k=3
 ·rw[if_pos h,if_pos h]
  cases hx:x.xs with
  | nil=>rfl
  | cons y l=>simp
 ·rw[if_neg h,if_neg h]
  by_cases h2:1≤x.k∧x.k≤7
  ·rw[if_pos h2,if_pos (by omega)]
   unfold aR
   rw[Bool.and_comm]
   congr 1
   rw[Bool.eq_iff_iff,aaI,aaI]
   omega
  ·rw[if_neg h2,if_neg (by omega)]
theorem FE (K:Int) (n:Nat):OJ K n false=false:=by
 unfold OJ
 split
 ·rfl
 ·split<;>rfl
theorem Ia {K:Int} {n:Nat} {br:Bool} (h:K<1∨7<K):OJ K n br=false:=by
 unfold OJ
 rw[if_neg (by omega),if_neg (by omega)]
theorem Np {K:Int} (h:K=1∨K=3) {n:Nat}:OJ K n true=decide (n=0):=by
 unfold OJ
 rw[if_pos h,aaA]
theorem TT {K:Int} (h1 : ¬K=1) (h3 : ¬K=3) (hl : ¬K<1) (hh : ¬7<K) {n:Nat}:OJ K n true=decide (n=1):=by
 unfold OJ
 rw[if_neg (by omega),if_pos (by omega),aaA]
theorem G6 (S:Nat→Prop) (xs:List (It)) (v:Value) (w:World) (hR : ∀i∈xs,∀x∈i.xs,mO x) (hv:aM 2 vY S w xs v) :
  Calls Tryz.prog 72 #[v] w fun e w'=>e = .returned (.bool (aR xs 1 8 oQ))∧Below w.heap.size w w':=by
 have HV:=hid hv
 obtain⟨aa,cc,css,rfl,h1,h2,_⟩:=hv
 unfold maxLen at h2
 have HR:=hid hR
 have HM:=hid (fun V=>nG xs.length 8 (by omega) (by decide) V)
 have yN:=hid (fun x (hx:x∈xs) (hp:oQ x=false)=>sj (lo:=1) (hi:=8) hx hp)
 have FM:=hid (fun (h:xs.all oQ=true)=>pK (lo:=1) (hi:=8) h)
 obtain⟨X,hX⟩:∃X,aR xs 1 8 oQ=X:=⟨_,rfl⟩
 rw[hX] at yN FM ⊢
 clear hX hR
 go_enter Tryz.func72,Tryz.ntmps72
 go_wp2_with fail
 go_loopw [3,4,5] (fun i _ _ wr=>∃(k:Nat),k≤xs.length∧i = .int .i64 k∧Below w.heap.size w wr∧Hid ((xs.take k).all oQ=true)) (fun i _ _ _=>xs.length-(intOf i).toNat)
 case atStart=>exact⟨0,aaV _,rfl,Below.refl _ _,hid rfl⟩
 case round =>
  obtain⟨k,hk,rfl,hbel,HK⟩:=hrel
  by_cases hlt:k<xs.length
  ·obtain⟨x,hx⟩:∃x,xs[k]?=some x:=⟨_,aaf hlt⟩
   have hlt':((k:Int)<(xs.length:Int)):=by omega
   obtain⟨_,_,_,b,off,cs,rfl,_,hel,hcell⟩:=bC (HV.out.to (T:=S) (by decide) (R:=fun _=>False) (ak.aA hbel) (fun b hb _=>⟨id,hb⟩) (fun _ _ e=>e.to (R:=fun _=>False) (ak.aA hbel) (fun b hb _=>⟨id,hb⟩))) hx
   have hxm:=aaP hx
   have bE:=hid (yN.out x hxm)
   have nC:=hid (gX oQ hx)
   have nZ:=hid hbel
   obtain⟨eD,dF,eB,rfl,O7⟩:=hel
   have q0:=hcell 0 _ rfl
   have q1:=hcell 1 _ rfl
   simp only[aa2] at q0
   have hbl:b<wr.heap.size:=World.block_lt_of_cell? wr _ q0
   have Jz:=hid (fun (V:World) (hV:Below wr.heap.size wr V)=>(⟨(hV.cell (p:=⟨b,off+k*2,none⟩) hbl).trans q0,(hV.cell (p:=⟨b,off+k*2+1,none⟩) hbl).trans q1⟩:V.cell? ⟨b,off+k*2,none⟩=some (.int .i64 x.k)∧V.cell? ⟨b,off+k*2+1,none⟩=some (.slice eD dF eB)))
   have OV:=hid (uV S x.xs _ wr (HR.out x hxm) O7)
   have hnl:dF=x.xs.length:=by obtain⟨_,_,hf,_⟩:=O7.form;simp only[aah] at hf;exact hf.2.1
   have WB:oQ x=OJ x.k dF (x.xs.all aF):=by rw[hnl];exact Tf x
   rw[WB] at bE nC
   generalize x.xs.all aF=br at OV bE nC
   clear hbel hcell hx hxm WB hnl O7
   generalize x.k=K at q0 Jz bE nC
   by_cases e1:K=1
   ·have n1:(K==1)=true:=by rw[e1];rfl
    go_wp2_with fail
    refine OV.out.mono ?_
    rintro e w2 ⟨rfl,hb2⟩
    obtain⟨q0,q1⟩:=Jz.out w2 hb2
    have HB2:=htr nZ hb2
    clear hb2 OV nZ Jz
    cases br with
    |
     false =>
     have bI:=hid (bE.out (FE K dF))
     clear bE nC HK
     go_wp2
     go_ret
     exact⟨bI.out.symm ▸ rfl,HB2.out⟩
    |
     true =>
     have lo : ¬K<1:=by omega
     ·have hi : ¬7<K:=by omega
      ·have hyes:=Np (.inl e1) (n:=dF)
       rw[hyes] at bE nC
       clear hyes
       by_cases hn:dF=0
       ·subst hn
        have mE:Hid ((xs.take (k+1)).all oQ=true):=hid (by rw[nC.out,HK.out];rfl)
        clear bE nC HK
        go_wp2
        go_roundw
        case rel=>exact⟨k+1,by omega,by go_num,HB2.out,mE⟩
        case measure=>simp[intOf];omega
       ·have hnb:((dF:Int) != 0)=true:=by rw[bne_iff_ne];omega
        have bI:=hid (bE.out (aaj hn))
        clear bE nC HK hn
        go_wp2
        go_ret
        exact⟨bI.out.symm ▸ rfl,HB2.out⟩
   ·have n1:(K==1)=false:=by rw[aai];exact e1
    by_cases e3:K=3
    ·have n3:(K==3)=true:=by rw[e3];rfl
     go_wp2_with fail
     refine OV.out.mono ?_
     rintro e w2 ⟨rfl,hb2⟩
     obtain⟨q0,q1⟩:=Jz.out w2 hb2
     have HB2:=htr nZ hb2
     clear hb2 OV nZ Jz
     cases br with
     |
      false =>
      have bI:=hid (bE.out (FE K dF))
      clear bE nC HK
      go_wp2
      go_ret
      exact⟨bI.out.symm ▸ rfl,HB2.out⟩
     |
      true =>
      have lo : ¬K<1:=by omega
      ·have hi : ¬7<K:=by omega
       ·have hyes:=Np (.inr e3) (n:=dF)
        rw[hyes] at bE nC
        clear hyes
        by_cases hn:dF=0
        ·subst hn
         have mE:Hid ((xs.take (k+1)).all oQ=true):=hid (by rw[nC.out,HK.out];rfl)
         clear bE nC HK
         go_wp2
         go_roundw
         case rel=>exact⟨k+1,by omega,by go_num,HB2.out,mE⟩
         case measure=>simp[intOf];omega
        ·have hnb:((dF:Int) != 0)=true:=by rw[bne_iff_ne];omega
         have bI:=hid (bE.out (aaj hn))
         clear bE nC HK hn
         go_wp2
         go_ret
         exact⟨bI.out.symm ▸ rfl,HB2.out⟩
    ·have n3:(K==3)=false:=by rw[aai];exact e3
     go_wp2_with fail
     refine OV.out.mono ?_
     rintro e w2 ⟨rfl,hb2⟩
     obtain⟨q0,q1⟩:=Jz.out w2 hb2
     have HB2:=htr nZ hb2
     clear hb2 OV nZ Jz
     cases br with
     |
      false =>
      have bI:=hid (bE.out (FE K dF))
      clear bE nC HK
      go_wp2
      go_ret
      exact⟨bI.out.symm ▸ rfl,HB2.out⟩
     |
      true =>
      by_cases lo:K<1
      ·have bI:=hid (bE.out (Ia (.inl lo)))
       clear bE nC HK
       go_wp2
       go_ret
       exact⟨bI.out.symm ▸ rfl,HB2.out⟩
      ·by_cases hi:7<K
       ·have bI:=hid (bE.out (Ia (.inr hi)))
        clear bE nC HK
        go_wp2
        go_ret
        exact⟨bI.out.symm ▸ rfl,HB2.out⟩
       ·have hyes:=TT e1 e3 lo hi (n:=dF)
        rw[hyes] at bE nC
        clear hyes
        by_cases hn:dF=1
        ·subst hn
         have mE:Hid ((xs.take (k+1)).all oQ=true):=hid (by rw[nC.out,HK.out];rfl)
         clear bE nC HK
         go_wp2
         go_roundw
         case rel=>exact⟨k+1,by omega,by go_num,HB2.out,mE⟩
         case measure=>simp[intOf];omega
        ·have hnb:((dF:Int) != 1)=true:=by rw[bne_iff_ne];omega
         have bI:=hid (bE.out (aaj hn))
         clear bE nC HK hn
         go_wp2
         go_ret
         exact⟨bI.out.symm ▸ rfl,HB2.out⟩
  ·have hlt' : ¬((k:Int)<(xs.length:Int)):=by omega
   have dz:Hid (decide (1≤xs.length∧xs.length≤8)=X):=hid (by have:=HK.out;rw[aaU (by omega)] at this;exact FM.out this)
   have D8:=hid (HM.out wr)
   have HB2:=hid hbel
   clear hbel HK FM yN HM
   rw[dz.out] at D8
   clear dz
   go_wp2_with fail
   refine D8.out.mono ?_
   rintro e w2 ⟨rfl,rfl⟩
   go_wp2
   go_ret
   exact⟨rfl,HB2.out⟩
theorem JL (S:Nat→Prop) (xs:List (List Vl)) (v:Value) (w:World) (hR : ∀r∈xs,∀v∈r,Xz v) (hv:aM 1 Cw S w xs v) :
  Calls Tryz.prog 69 #[v] w fun e w'=>e = .returned (.bool (aR xs 1 16 om))∧Below w.heap.size w w':=by
 have HV:=hid hv
 obtain⟨aa,cc,css,rfl,h1,h2,_⟩:=hv
 unfold maxLen at h2
 have HR:=hid hR
 have HM:=hid (fun V=>nG xs.length 16 (by omega) (by decide) V)
 have yN:=hid (fun x (hx:x∈xs) (hp:om x=false)=>sj (lo:=1) (hi:=16) hx hp)
 have FM:=hid (fun (h:xs.all om=true)=>pK (lo:=1) (hi:=16) h)
 obtain⟨X,hX⟩:∃X,aR xs 1 16 om=X:=⟨_,rfl⟩
 rw[hX] at yN FM ⊢
 clear hX hR
 go_enter Tryz.func69,Tryz.ntmps69
 go_wp2_with fail
 go_loopw [3,4,5] (fun i _ _ wr=>∃(k:Nat),k≤xs.length∧i = .int .i64 k∧Below w.heap.size w wr∧Hid ((xs.take k).all om=true)) (fun i _ _ _=>xs.length-(intOf i).toNat)
 case atStart=>exact⟨0,aaV _,rfl,Below.refl _ _,hid rfl⟩
 case round =>
  obtain⟨k,hk,rfl,hbel,HK⟩:=hrel
  by_cases hlt:k<xs.length
  ·obtain⟨x,hx⟩:∃x,xs[k]?=some x:=⟨_,aaf hlt⟩
   have hlt':((k:Int)<(xs.length:Int)):=by omega
   obtain⟨_,_,_,b,off,cs,rfl,_,hel,hcell⟩:=bC (HV.out.to (T:=S) (by decide) (R:=fun _=>False) (ak.aA hbel) (fun b hb _=>⟨id,hb⟩) (fun _ _ e=>e.to (R:=fun _=>False) (ak.aA hbel) (fun b hb _=>⟨id,hb⟩))) hx
   have hxm:=aaP hx
   have bE:=hid (yN.out x hxm)
   have nC:=hid (gX om hx)
   have nZ:=hid hbel
   obtain⟨eD,dF,eB,rfl,O7⟩:=hel
   have q0:=hcell 0 _ rfl
   simp only[aa2,Nat.mul_one] at q0
   have hbl:b<wr.heap.size:=World.block_lt_of_cell? wr _ q0
   have Jz:=hid (fun (V:World) (hV:Below wr.heap.size wr V)=>(hV.cell (p:=⟨b,off+k,none⟩) hbl).trans q0)
   have HAY:=hid O7
   have OI:=hid (HR.out x hxm)
   have hnl:dF=x.length∧dF≤9223372036854775807:=by
    obtain⟨_,_,_,hf,hl1,hl2,_⟩:=O7
    simp only[aah] at hf
    unfold maxLen at hl2
    omega
   obtain⟨hnl,hnm⟩:=hnl
   subst hnl
   have hrB:om x=aR x 1 8 dV:=rfl
   rw[hrB] at bE nC
   have RU:=hid (fun y (hy:y∈x) (hp:dV y=false)=>bE.out (sj hy hp))
   have HTX:=hid (fun (h:x.all dV=true)=>pK (lo:=1) (hi:=8) h)
   have HMX:=hid (fun V=>nG x.length 8 hnm (by decide) V)
   clear hbel hcell hx hxm hrB O7
   obtain⟨wo,hwo⟩:∃wo,wo=wr:=⟨_,rfl⟩
   have HB0:Hid (Below wo.heap.size wo wr):=hid (by rw[hwo];exact Below.refl _ _)
   rw[← hwo] at Jz HAY nZ hbl
   clear hwo q0
   go_wp2_with fail
   go_loopw [4,5] (fun i _ wi=>∃(j:Nat),j≤x.length∧i = .int .i64 j∧Below wo.heap.size wo wi∧Hid ((x.take j).all dV=true)) (fun i _ _=>x.length-(intOf i).toNat)
   case atStart=>exact⟨0,aaV _,rfl,HB0.out,hid rfl⟩
   case round =>
    clear HB0
    obtain⟨j,hj,rfl,hbi,HJ⟩:=hrel
    have q0:=Jz.out wr hbi
    have kJ:=htr nZ hbi
    by_cases hjt:j<x.length
    ·obtain⟨y,hy⟩:∃y,x[j]?=some y:=⟨_,aaf hjt⟩
     have abp:((j:Int)<(x.length:Int)):=by omega
     obtain⟨_,_,_,b2,off2,cs2,rfl,_,FH,hcell2⟩:=bC (HAY.out.to (T:=S) (by decide) (R:=fun _=>False) (ak.aA hbi) (fun b hb _=>⟨id,hb⟩) (fun _ _ e=>e)) hy
     obtain rfl:=FH
     have r0:=hcell2 0 _ rfl
     have r1:=hcell2 1 _ rfl
     have r2:=hcell2 2 _ rfl
     simp only[aa2] at r0
     have hym:=aaP hy
     have ZE:=OI.out y hym
     have Vf:=hid (xu y.k y.n y.s wr ZE.1 ZE.2.1 ZE.2.2)
     have HTJ:=hid (gX dV hy)
     have HFY:=hid (RU.out y hym)
     have Sl:=hid hbi
     clear hcell2 hy hym ZE hbi
     cases hp:dV y with
     |
      true =>
      rw[show dV ⟨y.k,y.n,y.s⟩=dV y from rfl,hp] at Vf
      have HJ2:Hid ((x.take (j+1)).all dV=true):=hid (by rw[HTJ.out,HJ.out,hp];rfl)
      clear HJ hp HTJ HFY
      go_wp2_with fail
      refine Vf.out.mono ?_
      rintro e w2 ⟨rfl,hb2⟩
      have HB2:=htr Sl hb2
      clear hb2 Vf
      go_wp2
      go_roundw
      case rel=>exact⟨j+1,by omega,by go_num,HB2.out,HJ2⟩
      case measure=>simp[intOf];omega
     |
      false =>
      rw[show dV ⟨y.k,y.n,y.s⟩=dV y from rfl,hp] at Vf
      have bI:=hid (HFY.out hp)
      clear HJ hp HTJ HFY
      go_wp2_with fail
      refine Vf.out.mono ?_
      rintro e w2 ⟨rfl,hb2⟩
      have HB2:=htr kJ hb2
      clear hb2 Vf
      go_wp2
      go_ret
      exact⟨bI.out.symm ▸ rfl,HB2.out⟩
    ·have abp : ¬((j:Int)<(x.length:Int)):=by omega
     have hall:x.all dV=true:=by have:=HJ.out;rw[aaU (by omega)] at this;exact this
     have D8:=hid (HMX.out wr)
     rw[HTX.out hall] at D8
     have HB2:=kJ
     clear hall HJ HTX HMX RU hbi kJ
     cases hp:aR x 1 8 dV with
     |
      true =>
      rw[hp] at D8
      have mE:Hid ((xs.take (k+1)).all om=true):=hid (by rw[nC.out,HK.out,hp];rfl)
      clear bE nC HK hp
      go_wp2_with fail
      refine D8.out.mono ?_
      rintro e w2 ⟨rfl,rfl⟩
      go_wp2
      go_roundw
      case rel=>exact⟨k+1,by omega,by go_num,HB2.out,mE⟩
      case measure=>simp[intOf];omega
     |
      false =>
      rw[hp] at D8
      have bI:=hid (bE.out hp)
      clear bE nC HK hp
      go_wp2_with fail
      refine D8.out.mono ?_
      rintro e w2 ⟨rfl,rfl⟩
      go_wp2
      go_ret
      exact⟨bI.out.symm ▸ rfl,HB2.out⟩
  ·have hlt' : ¬((k:Int)<(xs.length:Int)):=by omega
   have dz:Hid (decide (1≤xs.length∧xs.length≤16)=X):=hid (by have:=HK.out;rw[aaU (by omega)] at this;exact FM.out this)
   have D8:=hid (HM.out wr)
   have HB2:=hid hbel
   clear hbel HK FM yN HM
   rw[dz.out] at D8
   clear dz
   go_wp2_with fail
   refine D8.out.mono ?_
   rintro e w2 ⟨rfl,rfl⟩
   go_wp2
   go_ret
   exact⟨rfl,HB2.out⟩
theorem Im (S:Nat→Prop) (s:St) (cs:List Value) (w:World) (hR:vZ s) (hx:fD S w s cs) (hk:s.k=1) :
  Calls Tryz.prog 26 #[.agg cs.toArray] w fun e w'=>e = .returned (.bool (aQ s))∧Below w.heap.size w w':=by
 obtain⟨a1,a2,a3,a4,a5,a6,a7,a8,n1,n2,n3,n4,n5,n6,n7,n8,c1,c2,c3,c4,c5,c6,c7,c8,rfl,x1,x2,x3,x4,x5,x6,x7,x8⟩:=hx
 have e1:n1=s.aC.length:=by obtain⟨_,_,hf⟩:=x1.form;simp only[aah] at hf;exact hf.2.1
 have e2:n2=s.rows.length:=by obtain⟨_,_,hf⟩:=x2.form;simp only[aah] at hf;exact hf.2.1
 have e3:n3=s.sets.length:=by obtain⟨_,_,hf⟩:=x3.form;simp only[aah] at hf;exact hf.2.1
 have e4:n4=s.items.length:=by obtain⟨_,_,hf⟩:=x4.form;simp only[aah] at hf;exact hf.2.1
 have e5:n5=s.on.length:=by obtain⟨_,_,hf,_⟩:=x5.form;simp only[aah] at hf;exact hf.2.1
 have e6:n6=s.wh.length:=by obtain⟨_,_,hf,_⟩:=x6.form;simp only[aah] at hf;exact hf.2.1
 have e7:n7=s.gr.length:=by obtain⟨_,_,hf,_⟩:=x7.form;simp only[aah] at hf;exact hf.2.1
 have e8:n8=s.od.length:=by obtain⟨_,_,hf,_⟩:=x8.form;simp only[aah] at hf;exact hf.2.1
 obtain⟨k,tn,aC,aD,rows,sets,items,jn,on,wh,gr,od,desc,lim⟩:=s
 obtain⟨rt,rp,rj,rl,rc,rr,rs,ri,ro,rw',rg,rd⟩:=hR
 dsimp only at *
 subst hk
 obtain⟨W,hW,hbW,aJ,hcW⟩:=aK w (.cells #[.int .i64 1,.string (aj tn),.slice a1 n1 c1,.string (aj aD),.slice a2 n2 c2,.slice a3 n3 c3,.slice a4 n4 c4,.string (aj jn),.slice a5 n5 c5,.slice a6 n6 c6,.slice a7 n7 c7,.slice a8 n8 c8,.bool desc,.int .i64 lim] 29)
 have k0:=au hcW
 have dI:=hid hcW
 have eF:=hid hbW
 have HW0:Hid (Below W.heap.size W W):=hid (Below.refl _ _)
 have jI:=hid (fA tn W rt)
 have HC:=hid (fun V (ze:Below W.heap.size W V)=>by have hV:=eF.out.trans (ze.mono eF.out.size);exact BZ S aC _ V rc (x1.to (by decide) (R:=fun _=>False) (T:=S) (ak.aA hV) (fun b hb _=>⟨id,hb⟩) (fun _ _ e=>e)))
 have HP:=hid (fun V=>fA aD V rp)
 obtain⟨X,hX⟩:∃X,aQ ⟨1,tn,aC,aD,rows,sets,items,jn,on,wh,gr,od,desc,lim⟩=X:=⟨_,rfl⟩
 rw[hX]
 have gT:X=((aR aC 1 8 iV&&aU aD)&&(aU tn&&decide (n2=0∧n3=0∧n6=0∧n4=0∧jn=[]∧n5=0∧n7=0∧n8=0∧desc=false∧lim = -1))):=by
  rw[← hX]
  unfold aQ
  refine gV rfl (gV rfl ?_)
  show oF ⟨0,[],[],[],rows,sets,items,jn,on,wh,gr,od,desc,lim⟩=_
  unfold oF
  dsimp only
  rw[Bool.eq_iff_iff,aaI,aaI,e2,e3,e4,e5,e6,e7,e8]
  exact⟨fun ⟨_,_,fZ,gF,gy,gD,dZ,nJ,nR,sW,nI,nE,gu,ji⟩=>⟨gy,gD,sW,dZ,nJ,nR,nI,nE,gu,ji⟩,fun ⟨gy,gD,sW,dZ,nJ,nR,nI,nE,gu,ji⟩=>⟨rfl,rfl,rfl,rfl,gy,gD,dZ,nJ,nR,sW,nI,nE,gu,ji⟩⟩
 clear hX
 generalize aR aC 1 8 iV=b1 at HC gT
 generalize aU aD=b2 at HP gT
 generalize aU tn=bn at jI gT
 have qV:Hid (bn=false→X=false):=hid (fun h=>by rw[gT,h,aaz,Bool.and_false])
 have bE:Hid (¬(n2=0∧n3=0∧n6=0∧n4=0∧jn=[]∧n5=0∧n7=0∧n8=0∧desc=false∧lim = -1)→X=false):=hid (fun h=>by rw[gT,aaj h,Bool.and_false,Bool.and_false])
 have dz:Hid (bn=true→(n2=0∧n3=0∧n6=0∧n4=0∧jn=[]∧n5=0∧n7=0∧n8=0∧desc=false∧lim = -1)→X=(b1&&b2)):=hid (fun h1 h=>by rw[gT,aar h,h1];simp)
 clear gT e1 e2 e3 e4 e5 e6 e7 e8 x1 x2 x3 x4 x5 x6 x7 x8 rt rp rj rc rr rs ri ro rw' rg rd hcW hbW
 go_enter Tryz.func26,Tryz.ntmps26
 go_wp2_with fail
 try rw[hW]
 clear hW k0
 refine jI.out.mono ?_
 rintro e w1 ⟨rfl,hb1⟩
 have HW1:=htr HW0 hb1
 have HB1:=hid (eF.out.trans (HW1.out.mono eF.out.size))
 have kk:=au ((HW1.out.block w.heap.size aJ).trans dI.out)
 clear hb1 jI HW0
 cases bn with
 |
  false =>
  have bI:=hid (qV.out rfl)
  clear qV bE dz
  go_wp2
  go_ret
  exact⟨bI.out.symm ▸ rfl,HB1.out⟩
 |
  true =>
  clear qV
  rcases aa9 n2 with c0 | c0
  ·subst c0
   rcases aa9 n3 with c1 | c1
   ·subst c1
    rcases aa9 n6 with c2 | c2
    ·subst c2
     rcases aa9 n4 with c3 | c3
     ·subst c3
      by_cases c4:jn=[]
      ·have t4:(aj jn).toList.isEmpty=true:=by rw[bf,aar c4]
       have d4:=hid c4
       clear c4
       rcases aa9 n5 with c5 | c5
       ·subst c5
        rcases aa9 n7 with c6 | c6
        ·subst c6
         rcases aa9 n8 with c7 | c7
         ·subst c7
          cases desc with
          |
           true =>
           have bI:=hid (bE.out (fun h=>by obtain⟨q0,q1,q2,q3,q4,q5,q6,q7,q8,q9⟩:=h;cases q8))
           clear bE dz
           go_wp2
           go_ret
           exact⟨bI.out.symm ▸ rfl,HB1.out⟩
          |
           false =>
           by_cases c9:lim = -1
           ·have t9:(lim != -1)=false:=by rw[c9];rfl
            have d9:=hid c9
            clear c9
            have bI:=hid (dz.out rfl ⟨rfl,rfl,rfl,rfl,d4.out,rfl,rfl,rfl,rfl,d9.out⟩)
            clear bE dz
            have dB:=hid (HC.out w1 HW1.out)
            clear HC
            go_wp2_with fail
            refine dB.out.mono ?_
            rintro e w2 ⟨rfl,hb2⟩
            have HW2:=htr HW1 hb2
            have HB1:=hid (eF.out.trans (HW2.out.mono eF.out.size))
            have kk:=au ((HW2.out.block w.heap.size aJ).trans dI.out)
            clear hb2 dB HW1
            cases b1 with
            |
             false =>
             clear HP
             go_wp2
             go_ret
             exact⟨bI.out.symm ▸ rfl,HB1.out⟩
            |
             true =>
             have jr:=hid (HP.out w2)
             clear HP
             go_wp2_with fail
             refine jr.out.mono ?_
             rintro e w3 ⟨rfl,hb3⟩
             have HW3:=htr HW2 hb3
             have HB1:=hid (eF.out.trans (HW3.out.mono eF.out.size))
             have kk:=au ((HW3.out.block w.heap.size aJ).trans dI.out)
             clear hb3 jr HW2
             go_wp2
             go_ret
             exact⟨bI.out.symm ▸ rfl,HB1.out⟩
           ·have t9:(lim != -1)=true:=by rw[bne_iff_ne];exact c9
            have bI:=hid (bE.out (fun h=>by obtain⟨q0,q1,q2,q3,q4,q5,q6,q7,q8,q9⟩:=h;exact c9 q9))
            clear bE dz c9
            go_wp2
            go_ret
            exact⟨bI.out.symm ▸ rfl,HB1.out⟩
         ·have t7:((0:Int)<(n8:Int)):=by omega
          have bI:=hid (bE.out (fun h=>by obtain⟨q0,q1,q2,q3,q4,q5,q6,q7,q8,q9⟩:=h;omega))
          clear bE dz c7
          go_wp2
          go_ret
          exact⟨bI.out.symm ▸ rfl,HB1.out⟩
        ·have t6:((0:Int)<(n7:Int)):=by omega
         have bI:=hid (bE.out (fun h=>by obtain⟨q0,q1,q2,q3,q4,q5,q6,q7,q8,q9⟩:=h;omega))
         clear bE dz c6
         go_wp2
         go_ret
         exact⟨bI.out.symm ▸ rfl,HB1.out⟩
       ·have t5:((0:Int)<(n5:Int)):=by omega
        have bI:=hid (bE.out (fun h=>by obtain⟨q0,q1,q2,q3,q4,q5,q6,q7,q8,q9⟩:=h;omega))
        clear bE dz c5
        go_wp2
        go_ret
        exact⟨bI.out.symm ▸ rfl,HB1.out⟩
      ·have t4:(aj jn).toList.isEmpty=false:=by rw[bf,aaj c4]
       have bI:=hid (bE.out (fun h=>by obtain⟨q0,q1,q2,q3,q4,q5,q6,q7,q8,q9⟩:=h;exact c4 q4))
       clear bE dz c4
       go_wp2
       go_ret
       exact⟨bI.out.symm ▸ rfl,HB1.out⟩
     ·have t3:((0:Int)<(n4:Int)):=by omega
      have bI:=hid (bE.out (fun h=>by obtain⟨q0,q1,q2,q3,q4,q5,q6,q7,q8,q9⟩:=h;omega))
      clear bE dz c3
      go_wp2
      go_ret
      exact⟨bI.out.symm ▸ rfl,HB1.out⟩
    ·have t2:((0:Int)<(n6:Int)):=by omega
     have bI:=hid (bE.out (fun h=>by obtain⟨q0,q1,q2,q3,q4,q5,q6,q7,q8,q9⟩:=h;omega))
     clear bE dz c2
     go_wp2
     go_ret
     exact⟨bI.out.symm ▸ rfl,HB1.out⟩
   ·have t1:((0:Int)<(n3:Int)):=by omega
    have bI:=hid (bE.out (fun h=>by obtain⟨q0,q1,q2,q3,q4,q5,q6,q7,q8,q9⟩:=h;omega))
    clear bE dz c1
    go_wp2
    go_ret
    exact⟨bI.out.symm ▸ rfl,HB1.out⟩
  ·have t0:((0:Int)<(n2:Int)):=by omega
   have bI:=hid (bE.out (fun h=>by obtain⟨q0,q1,q2,q3,q4,q5,q6,q7,q8,q9⟩:=h;omega))
   clear bE dz c0
   go_wp2
   go_ret
   exact⟨bI.out.symm ▸ rfl,HB1.out⟩
end Go.Proofs.YtfeglkleoijlaaaGreatDoor
