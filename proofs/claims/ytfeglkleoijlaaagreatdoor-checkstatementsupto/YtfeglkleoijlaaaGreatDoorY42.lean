import Derived.Test.YtfeglkleoijlaaaGreatDoorY25
namespace Go.Proofs.YtfeglkleoijlaaaGreatDoor
open Go.RowKit Go.Shelf
set_option linter.unusedSimpArgs false
set_option linter.unusedVariables false
set_option maxRecDepth 20000
set_option maxHeartbeats 8000000
def rA (r:Int × Int × Nat):Int × Int × Int:=if r.2.2=0 then (0,0,12) else if 1<r.2.2 then (0,0,13) else (r.1,r.2.1,0)
def tJ (L:List Tb) (tb nm:List UInt8):Int × Int × Int:=rA (jL tb nm L 0 (0,0,0))
theorem G7 (L:List Tb) (tb nm:List UInt8):AU L tb nm=if (tJ L tb nm).2.2=0 then (.mk 2 0 [] [] ⟨1,(tJ L tb nm).1,[]⟩ [],(tJ L tb nm).2.1,0) else (tO,0,(tJ L tb nm).2.2):=by
 show rF (jL tb nm L 0 (0,0,0))=_
 unfold tJ
 generalize jL tb nm L 0 (0,0,0)=r
 unfold rF rA
 by_cases h0:r.2.2=0
 ·simp[h0]
 ·by_cases h1:1<r.2.2
  ·simp[h0,h1]
  ·simp[h0,h1]
theorem CK {r:Int × Int × Nat} (h:2≤r.2.2):rA r=(0,0,13):=by
 unfold rA
 rw[if_neg (by omega),if_pos (by omega)]
theorem zO {l:List Co} {nm:List UInt8} {q:Nat} {x:Co} (hq:q≤bF l nm) (hx:l[q]?=some x) (h:x.nm=nm):bF l nm=q:=by
 obtain⟨h1,h2⟩:=aam.1 hx
 have:=su (l:=l) (nm:=nm) h1 (by rw[h2];exact h)
 omega
theorem Ae {l:List Co} {nm:List UInt8} {q:Nat} {x:Co} (hq:q≤bF l nm) (hx:l[q]?=some x) (h:x.nm≠nm):q+1≤bF l nm:=by
 obtain⟨h1,h2⟩:=aam.1 hx
 rcases Nat.lt_or_ge q (bF l nm) with h3 | h3
 ·exact h3
 ·have e:bF l nm=q:=by omega
  have:=ou (l:=l) (nm:=nm) (by omega)
  simp only[e] at this
  rw[h2] at this
  exact absurd this h
theorem uX (S:Nat→Prop) (L:List Tb) (v:Value) (tb nm:List UInt8) (w:World) (hL:aM 3 fG S w L v) (hK : ∀t∈L,mR t) (hn:L.length≤100) :
  Calls Tryz.prog 74 #[v,.string (aj tb),.string (aj nm)] w fun e w'=>e = .returned (.tuple #[.int .i64 (tJ L tb nm).1,.int .i64 (tJ L tb nm).2.1,.int .i64 (tJ L tb nm).2.2])∧w'=w:=by
 have HL:=hid hL
 have HK:=hid hK
 obtain⟨aa,cc,css,rfl,h1,h2,_⟩:=hL
 unfold maxLen at h2
 show Calls Tryz.prog _ _ w fun e w'=>e = .returned (.tuple #[.int .i64 (rA (jL tb nm L 0 (0,0,0))).1,.int .i64 (rA (jL tb nm L 0 (0,0,0))).2.1,.int .i64 (rA (jL tb nm L 0 (0,0,0))).2.2])∧w'=w
 obtain⟨R,hR⟩:∃R,jL tb nm L 0 (0,0,0)=R:=⟨_,rfl⟩
 rw[hR]
 have HR:=hid hR
 have het:=AP tb
 clear hR hK
 go_enter Tryz.func74,Tryz.ntmps74
 go_wp2_with fail
 go_loopw [9,10,11,12,13] (fun a f k i _ wr=>∃(m:Nat) (a' F n' k':Int) (h':Nat),m≤L.length∧i = .int .i64 m∧a = .int .i64 a'∧f = .int .i64 F∧k = .int .i64 k'∧0≤a'∧a'≤8*m∧(h'=0∧F = -1∨h'=1∧F=n'∧0≤F)∧wr=w∧Hid (jL tb nm (L.drop m) a' (n',k',h')=R)) (fun _ _ _ i _ _=>L.length-(intOf i).toNat)
 case atStart=>exact⟨0,0,-1,0,0,0,aaV _,rfl,rfl,rfl,rfl,by omega,by omega,.inl ⟨rfl,rfl⟩,rfl,hid (by rw[List.drop_zero];exact HR.out)⟩
 case round =>
  obtain⟨m,a',F,n',k',h',hm,rfl,rfl,rfl,rfl,ha0,ha1,hh,rfl,HC⟩:=hrel
  obtain⟨wo,rfl⟩:∃wo,wo=wr:=⟨_,rfl⟩
  by_cases hlt:m<L.length
  ·obtain⟨t,ht⟩:∃t,L[m]?=some t:=⟨_,aaf hlt⟩
   have hlt':((m:Int)<(L.length:Int)):=by omega
   obtain⟨hn16,hc8,Lf,hck⟩:=HK.out t (aaP ht)
   obtain⟨_,_,_,b,off,cs,rfl,_,hel,hcell⟩:=bC HL.out ht
   obtain⟨ab,nb,cb,rfl,hsl⟩:=hel
   have q0:=hcell 0 _ rfl
   have q1:=hcell 1 _ rfl
   simp only[aa2] at q0
   have hnb:nb=t.aC.length:=by obtain⟨_,_,hf⟩:=hsl.form;simp only[aah] at hf;exact hf.2.1
   subst hnb
   have HSL:=hid hsl
   have hd:L.drop m=t::L.drop (m+1):=by
    obtain⟨g1,g2⟩:=aam.1 ht
    rw[List.drop_eq_getElem_cons g1,g2]
   have hC2:=HC.out
   rw[hd,jL] at hC2
   dsimp only at hC2
   have hi0:=I4 t.aC nm
   have hent:((aj t.nm).toList==(aj tb).toList)=decide (t.nm=tb):=by
    rw[aS,aS]
    by_cases h:t.nm=tb<;>simp[h]
   have hw3:IntKind.i64.wrap (a'+(t.aC.length:Int))=a'+(t.aC.length:Int):=rD _ (by omega) (by omega)
   clear hsl hcell hd HC ht hck hn16 Lf
   by_cases htb:tb=[]
   ·rw[aar htb] at het
    rw[if_neg (show ¬(tb≠[]∧t.nm=tb) from fun h=>h.1 htb)] at hC2
    have mI:=hid htb
    clear htb
    go_wp2_with fail
    go_loopw [10,11,13] (fun f k j wi=>∃(q:Nat),q≤t.aC.length∧j = .int .i64 q∧f = .int .i64 F∧k = .int .i64 k'∧wi=wo∧Hid (q≤bF t.aC nm)) (fun _ _ j _=>t.aC.length-(intOf j).toNat)
    case atStart=>exact⟨0,aaV _,rfl,rfl,rfl,rfl,hid (aaV _)⟩
    case round =>
     obtain⟨q,hq,rfl,rfl,rfl,hwr,HQ⟩:=hrel
     obtain rfl:wo=wr:=hwr.symm
     by_cases hlq:q<t.aC.length
     ·obtain⟨x,hx⟩:∃x,t.aC[q]?=some x:=⟨_,aaf hlq⟩
      have Gh:((q:Int)<(t.aC.length:Int)):=by omega
      obtain⟨_,_,_,b2,off2,Ro,rfl,_,hx2,hcell2⟩:=bC HSL.out hx
      obtain rfl:Ro=[.string (aj x.nm),.int .i64 x.k,.bool x.nn,.bool x.uq]:=hx2
      have c0:=hcell2 0 _ rfl
      have c1:=hcell2 1 _ rfl
      simp only[aa2] at c0
      have ET:((aj x.nm).toList==(aj nm).toList)=decide (x.nm=nm):=by
       rw[aS,aS]
       by_cases h:x.nm=nm<;>simp[h]
      clear hcell2
      by_cases hxn:x.nm=nm
      ·rw[aar hxn] at ET
       have hp:=zO HQ.out hx hxn
       have hkx:Af t.aC q=x.k:=by unfold Af;rw[hx];rfl
       rw[hp,hkx] at hC2
       have hw1:IntKind.i64.wrap (a'+(q:Int))=a'+(q:Int):=rD _ (by omega) (by omega)
       rw[if_pos (show q<t.aC.length∧(tb=[]∨t.nm=tb) from ⟨hlq,.inl mI.out⟩)] at hC2
       have jr:=hid hC2
       clear hC2 hx hp hkx hi0 HQ hxn
       rcases hh with⟨hh0,hF⟩ | ⟨Kw,hFn,KV⟩
       ·have HH0:=hid hh0
        have hFn : ¬0≤F:=by omega
        clear hh0 hF
        have PK:Hid (jL tb nm (L.drop (m+1)) (a'+(t.aC.length:Nat)) (a'+(q:Nat),x.k,1)=R):=hid (by have:=jr.out;rw[HH0.out] at this;exact this)
        clear jr
        have jr:=PK
        go_wp2
        go_roundw
        case rel=>exact⟨m+1,a'+t.aC.length,(a'+q),(a'+q),x.k,1,by omega,by go_num,by go_num,by go_num,by go_num,by omega,by omega,.inr ⟨rfl,rfl,by omega⟩,(by first | rfl | trivial),hid jr.out⟩
        case measure=>simp[intOf];omega
       ·have YK:=hid Kw
        have HU:Hid (2≤R.2.2):=hid (by
         have:=jr.out
         first
         | (rw[← this];exact Nat.le_trans (by rw[YK.out];exact aaF _) (Bh _ _ _ _ _))
         | (rw[← this];show 2≤h'+1;have:=YK.out;omega))
        have HE:Hid (rA R=(0,0,13)):=hid (CK HU.out)
        clear Kw hFn
        go_wp2
        exact bodyPost_ret (v:=.tuple #[.int .i64 0,.int .i64 0,.int .i64 13]) (by simp[results,Tryz.results74,go_sem]) rfl ⟨by rw[HE.out],rfl⟩
      ·rw[aaj hxn] at ET
       have dA:=hid (Ae HQ.out hx hxn)
       clear hx HQ hxn hC2 hi0
       go_wp2
       go_roundw
       case rel=>exact⟨q+1,by omega,by go_num,rfl,rfl,trivial,dA⟩
       case measure=>simp[intOf];omega
     ·have Gh : ¬((q:Int)<(t.aC.length:Int)):=by omega
      have hp : ¬bF t.aC nm<t.aC.length:=by have:=HQ.out;omega
      rw[if_neg (show ¬(bF t.aC nm<t.aC.length∧(tb=[]∨t.nm=tb)) from fun h=>hp h.1)] at hC2
      have jr:=hid hC2
      clear hC2 hp hi0 HQ
      go_wp2
      go_roundw
      case rel=>exact⟨m+1,a'+t.aC.length,F,n',k',h',by omega,by go_num,by go_num,by go_num,by go_num,by omega,by omega,hh,(by first | rfl | trivial),hid jr.out⟩
      case measure=>simp[intOf];omega
   ·rw[aaj htb] at het
    by_cases hnt:t.nm=tb
    ·rw[aar hnt] at hent
     rw[if_pos (show tb≠[]∧t.nm=tb from ⟨htb,hnt⟩)] at hC2
     have jI:=hid hnt
     clear hnt
     go_wp2_with fail
     go_loopw [10,11,13] (fun f k j wi=>∃(q:Nat),q≤t.aC.length∧j = .int .i64 q∧f = .int .i64 F∧k = .int .i64 k'∧wi=wo∧Hid (q≤bF t.aC nm)) (fun _ _ j _=>t.aC.length-(intOf j).toNat)
     case atStart=>exact⟨0,aaV _,rfl,rfl,rfl,rfl,hid (aaV _)⟩
     case round =>
      obtain⟨q,hq,rfl,rfl,rfl,hwr,HQ⟩:=hrel
      obtain rfl:wo=wr:=hwr.symm
      by_cases hlq:q<t.aC.length
      ·obtain⟨x,hx⟩:∃x,t.aC[q]?=some x:=⟨_,aaf hlq⟩
       have Gh:((q:Int)<(t.aC.length:Int)):=by omega
       obtain⟨_,_,_,b2,off2,Ro,rfl,_,hx2,hcell2⟩:=bC HSL.out hx
       obtain rfl:Ro=[.string (aj x.nm),.int .i64 x.k,.bool x.nn,.bool x.uq]:=hx2
       have c0:=hcell2 0 _ rfl
       have c1:=hcell2 1 _ rfl
       simp only[aa2] at c0
       have ET:((aj x.nm).toList==(aj nm).toList)=decide (x.nm=nm):=by
        rw[aS,aS]
        by_cases h:x.nm=nm<;>simp[h]
       clear hcell2
       by_cases hxn:x.nm=nm
       ·rw[aar hxn] at ET
        have hp:=zO HQ.out hx hxn
        have hkx:Af t.aC q=x.k:=by unfold Af;rw[hx];rfl
        rw[hp,hkx] at hC2
        have hw1:IntKind.i64.wrap (a'+(q:Int))=a'+(q:Int):=rD _ (by omega) (by omega)
        rw[if_pos (show q<t.aC.length∧(tb=[]∨t.nm=tb) from ⟨hlq,.inr jI.out⟩)] at hC2
        have jr:=hid hC2
        clear hC2 hx hp hkx hi0 HQ hxn
        rcases hh with⟨hh0,hF⟩ | ⟨Kw,hFn,KV⟩
        ·have HH0:=hid hh0
         have hFn : ¬0≤F:=by omega
         clear hh0 hF
         have PK:Hid ((a'+(q:Int),x.k,1)=R):=hid (by have:=jr.out;rw[HH0.out] at this;exact this)
         clear jr
         have hFq : ¬(a'+(q:Int))<0:=by omega
         have HE:Hid (rA R=(a'+(q:Int),x.k,0)):=hid (by rw[← PK.out];rfl)
         go_wp2
         exact bodyPost_ret (v:=.tuple #[.int .i64 (a'+(q:Int)),.int .i64 x.k,.int .i64 0]) (by simp[results,Tryz.results74,go_sem]) rfl ⟨by rw[HE.out],rfl⟩
        ·have YK:=hid Kw
         have HU:Hid (2≤R.2.2):=hid (by
          have:=jr.out
          first
          | (rw[← this];exact Nat.le_trans (by rw[YK.out];exact aaF _) (Bh _ _ _ _ _))
          | (rw[← this];show 2≤h'+1;have:=YK.out;omega))
         have HE:Hid (rA R=(0,0,13)):=hid (CK HU.out)
         clear Kw hFn
         go_wp2
         exact bodyPost_ret (v:=.tuple #[.int .i64 0,.int .i64 0,.int .i64 13]) (by simp[results,Tryz.results74,go_sem]) rfl ⟨by rw[HE.out],rfl⟩
       ·rw[aaj hxn] at ET
        have dA:=hid (Ae HQ.out hx hxn)
        clear hx HQ hxn hC2 hi0
        go_wp2
        go_roundw
        case rel=>exact⟨q+1,by omega,by go_num,rfl,rfl,trivial,dA⟩
        case measure=>simp[intOf];omega
      ·have Gh : ¬((q:Int)<(t.aC.length:Int)):=by omega
       have hp : ¬bF t.aC nm<t.aC.length:=by have:=HQ.out;omega
       rw[if_neg (show ¬(bF t.aC nm<t.aC.length∧(tb=[]∨t.nm=tb)) from fun h=>hp h.1)] at hC2
       have jr:=hid hC2
       clear hC2 hp hi0 HQ
       rcases hh with⟨hh0,hF⟩ | ⟨Kw,hFn,KV⟩
       ·have HE:Hid (rA R=(0,0,12)):=hid (by rw[← jr.out,hh0];rfl)
        have hFn:F<0:=by omega
        clear hh0 hF
        go_wp2
        exact bodyPost_ret (v:=.tuple #[.int .i64 0,.int .i64 0,.int .i64 12]) (by simp[results,Tryz.results74,go_sem]) rfl ⟨by rw[HE.out],rfl⟩
       ·have HE:Hid (rA R=(F,k',0)):=hid (by rw[← jr.out,Kw,hFn];rfl)
        have aa0 : ¬F<0:=by omega
        clear Kw hFn KV
        go_wp2
        exact bodyPost_ret (v:=.tuple #[.int .i64 F,.int .i64 k',.int .i64 0]) (by simp[results,Tryz.results74,go_sem]) rfl ⟨by rw[HE.out],rfl⟩
    ·rw[aaj hnt] at hent
     rw[if_neg (show ¬(tb≠[]∧t.nm=tb) from fun h=>hnt h.2),if_neg (show ¬(bF t.aC nm<t.aC.length∧(tb=[]∨t.nm=tb)) from fun h=>h.2.elim htb hnt)] at hC2
     have jr:=hid hC2
     clear hC2 htb hnt hi0
     go_wp2
     go_roundw
     case rel=>exact⟨m+1,a'+t.aC.length,F,n',k',h',by omega,by go_num,by go_num,by go_num,by go_num,by omega,by omega,hh,(by first | rfl | trivial),hid jr.out⟩
     case measure=>simp[intOf];omega
  ·have hlt' : ¬((m:Int)<(L.length:Int)):=by omega
   have hC2:=HC.out
   rw[List.drop_eq_nil_of_le (by omega)] at hC2
   have jr:Hid ((n',k',h')=R):=hid hC2
   clear hC2 HC
   rcases hh with⟨hh0,hF⟩ | ⟨Kw,hFn,KV⟩
   ·have HE:Hid (rA R=(0,0,12)):=hid (by rw[← jr.out,hh0];rfl)
    have hFn:F<0:=by omega
    clear hh0 hF
    go_wp2
    exact bodyPost_ret (v:=.tuple #[.int .i64 0,.int .i64 0,.int .i64 12]) (by simp[results,Tryz.results74,go_sem]) rfl ⟨by rw[HE.out],rfl⟩
   ·have HE:Hid (rA R=(F,k',0)):=hid (by rw[← jr.out,Kw,hFn];rfl)
    have aa0 : ¬F<0:=by omega
    clear Kw hFn KV
    go_wp2
    exact bodyPost_ret (v:=.tuple #[.int .i64 F,.int .i64 k',.int .i64 0]) (by simp[results,Tryz.results74,go_sem]) rfl ⟨by rw[HE.out],rfl⟩
def GQ (ks:List Int):Prop:=∀k∈ks,k=0∨k=1∨k=2
theorem Ph {ks:List Int} (h:GQ ks):(ks.all fun x=>decide (x=1)||decide (x=0)) = !ks.any fun x=>decide (x=2):=by
 induction ks with
 | nil=>rfl
 |
  cons k ks ih =>
  rw[List.all_cons,List.any_cons,Bool.not_or,ih (fun x hx=>h x (List.mem_cons_of_mem _ hx))]
  congr 1
  rcases h k (List.mem_cons_self ..) with rfl | rfl | rfl<;>rfl
theorem Ki (S T:Nat→Prop) (x:Ex) (v:Value) (k op:Int) (tb nm:List UInt8) (vl:Vl) (xs:List Ex) (hx:x = .mk k op tb nm vl xs) (ks:List Int) (kv:Value) (w:World) (hv:gH S w x v) (h:aM 1 uj T w ks kv) (h2:k=3→ks.length=2) (hks:GQ ks) :
  Calls Tryz.prog 124 #[v,kv] w fun e w'=>e = .returned (.bool (uU k op ks))∧Below w.heap.size w w':=by
 obtain⟨k',op',tb',nm',vk,vn,vs,ys,aa,nn,cc,he,rfl,_⟩:=hv
 rw[hx] at he
 obtain⟨rfl,rfl,rfl,rfl,rfl,rfl⟩:=Ex.mk.inj he
 obtain⟨W,hW,hbW,aJ,hcW⟩:=aK w (.cells #[.int .i64 k,.int .i64 op,.string (aj tb),.string (aj nm),.int .i64 vk,.int .i64 vn,.string (aj vs),.slice aa nn cc] 48)
 have k0:=aG hcW
 have hT:=wS (T:=T) h (ak.aA (S:=fun _=>False) hbW) (fun b hb _=>⟨id,hb⟩)
 have HB:=hid hbW
 obtain⟨a2,c2,css,rfl,h1,h3,_⟩:=id hT
 unfold maxLen at h3
 have HT:=hid hT
 clear hbW hcW hT h he hx
 unfold uU
 by_cases h6:k=6
 ·rw[if_pos h6]
  subst h6
  go_enter Tryz.func124,Tryz.ntmps124
  go_wp2_with fail
  try rw[hW]
  go_ret
  exact⟨rfl,HB.out⟩
 ·rw[if_neg h6]
  have h6':(k==6)=false:=by rw[aai];exact h6
  by_cases KF:k=3∧3≤op∧op≤8
  ·rw[if_pos KF]
   obtain⟨rfl,ho1,ho2⟩:=KF
   match ks,h2 rfl with
   |
    [p,q],_ =>
    obtain⟨b,off,rfl,_,c0⟩:=lN HT.out (j:=0) (x:=p) rfl
    obtain⟨b',off',e',_,c1⟩:=lN HT.out (j:=1) (x:=q) rfl
    simp only[abf,Addr.mk.injEq,and_true] at e'
    obtain⟨rfl,rfl⟩:=e'
    rw[aa2] at c0
    have hpq:(([p,q]:List Int)[0]?=[p,q][1]?)↔p=q:=by simp
    by_cases he:p=q
    ·rw[aar (hpq.2 he),Bool.true_or]
     subst he
     have hpp:(p==p)=true:=beq_self_eq_true p
     go_enter Tryz.func124,Tryz.ntmps124
     go_wp2_with fail
     try rw[hW]
     go_wp2_with fail
     go_quiet (fail)
     go_wp2
     go_ret
     exact⟨rfl,below_drewN HB.out nq⟩
    ·rw[aaj (fun h=>he (hpq.1 h)),Bool.false_or]
     have he':(p==q)=false:=by rw[aai];exact he
     have e0:([p,q].any fun x=>decide (x=0))=(p==0||q==0):=by by_cases hp1:p=0<;>by_cases hq1:q=0<;>simp[hp1,hq1]
     rw[e0]
     by_cases hp0:p=0
     ·have TY:(p==0)=true:=by rw[beq_iff_eq];exact hp0
      rw[TY,Bool.true_or]
      clear hpq e0 he hp0
      go_enter Tryz.func124,Tryz.ntmps124
      go_wp2_with fail
      try rw[hW]
      go_wp2_with fail
      go_quiet (fail)
      go_wp2
      go_ret
      exact⟨rfl,below_drewN HB.out nq⟩
     ·have TY:(p==0)=false:=by rw[aai];exact hp0
      rw[TY,Bool.false_or]
      clear hpq e0 he hp0
      go_enter Tryz.func124,Tryz.ntmps124
      go_wp2_with fail
      try rw[hW]
      go_wp2_with fail
      go_quiet (fail)
      go_wp2
      go_ret
      exact⟨rfl,below_drewN HB.out nq⟩
  ·rw[if_neg KF,Ph hks]
   have hK3:k=3∧3≤op∧¬op≤8∨k=3∧¬3≤op∨(k==3)=false:=by
    by_cases h3:k=3
    ·by_cases ho:3≤op
     ·exact .inl ⟨h3,ho,fun h=>KF ⟨h3,ho,h⟩⟩
     ·exact .inr (.inl ⟨h3,ho⟩)
    ·exact .inr (.inr (by rw[aai];exact h3))
   obtain⟨R,hR⟩:∃R,(!ks.any fun x=>decide (x=2))=R:=⟨_,rfl⟩
   rw[hR]
   have HR:=hid hR
   clear h2 KF hR hks
   go_enter Tryz.func124,Tryz.ntmps124
   rcases hK3 with⟨rfl,ho1,ho2⟩ | ⟨rfl,ho1⟩ | hk3
   ·go_wp2_with fail
    try rw[hW]
    go_wp2_with fail
    go_loopw [5] (fun i wr=>∃(m:Nat),m≤ks.length∧i = .int .i64 m∧wr=W∧Hid ((ks.take m).any (fun x=>decide (x=2))=false)) (fun i _=>ks.length-(intOf i).toNat)
    case atStart=>exact⟨0,aaV _,rfl,rfl,hid rfl⟩
    case round =>
     obtain⟨m,hm,rfl,rfl,HM⟩:=hrel
     by_cases hlt:m<ks.length
     ·obtain⟨y,hy⟩:∃y,ks[m]?=some y:=⟨_,aaf hlt⟩
      obtain⟨b,off,rfl,_,c0⟩:=lN HT.out hy
      have hlt':((m:Int)<(ks.length:Int)):=by omega
      have hg:=aam.1 hy
      by_cases hy2:y=2
      ·have Ll:(y==2)=true:=by rw[beq_iff_eq];exact hy2
       have X6:Hid (R=false):=hid (by rw[← HR.out];have:(ks.any fun x=>decide (x=2))=true:=List.any_eq_true.2 ⟨y,aaP hy,aar hy2⟩;rw[this];rfl)
       clear hg hy HM hy2
       go_wp2
       go_ret
       exact⟨by rw[X6.out];try rfl,HB.out⟩
      ·have Ll:(y==2)=false:=by rw[aai];exact hy2
       have TF:Hid ((ks.take (m+1)).any (fun x=>decide (x=2))=false):=hid (by
        rw[aaJ hg.1,hg.2,List.any_append,HM.out]
        simp[hy2])
       clear hg hy HM hy2
       go_wp2
       go_roundw
       case rel=>exact⟨m+1,by omega,by go_num,trivial,TF⟩
       case measure=>simp[intOf];omega
     ·have hlt' : ¬((m:Int)<(ks.length:Int)):=by omega
      have O5:Hid (R=true):=hid (by rw[← HR.out];have:=HM.out;rw[aaU (by omega)] at this;rw[this];rfl)
      clear HM
      go_wp2
      go_ret
      exact⟨by rw[O5.out];try rfl,HB.out⟩
   ·go_wp2_with fail
    try rw[hW]
    go_wp2_with fail
    go_loopw [5] (fun i wr=>∃(m:Nat),m≤ks.length∧i = .int .i64 m∧wr=W∧Hid ((ks.take m).any (fun x=>decide (x=2))=false)) (fun i _=>ks.length-(intOf i).toNat)
    case atStart=>exact⟨0,aaV _,rfl,rfl,hid rfl⟩
    case round =>
     obtain⟨m,hm,rfl,rfl,HM⟩:=hrel
     by_cases hlt:m<ks.length
     ·obtain⟨y,hy⟩:∃y,ks[m]?=some y:=⟨_,aaf hlt⟩
      obtain⟨b,off,rfl,_,c0⟩:=lN HT.out hy
      have hlt':((m:Int)<(ks.length:Int)):=by omega
      have hg:=aam.1 hy
      by_cases hy2:y=2
      ·have Ll:(y==2)=true:=by rw[beq_iff_eq];exact hy2
       have X6:Hid (R=false):=hid (by rw[← HR.out];have:(ks.any fun x=>decide (x=2))=true:=List.any_eq_true.2 ⟨y,aaP hy,aar hy2⟩;rw[this];rfl)
       clear hg hy HM hy2
       go_wp2
       go_ret
       exact⟨by rw[X6.out];try rfl,HB.out⟩
      ·have Ll:(y==2)=false:=by rw[aai];exact hy2
       have TF:Hid ((ks.take (m+1)).any (fun x=>decide (x=2))=false):=hid (by
        rw[aaJ hg.1,hg.2,List.any_append,HM.out]
        simp[hy2])
       clear hg hy HM hy2
       go_wp2
       go_roundw
       case rel=>exact⟨m+1,by omega,by go_num,trivial,TF⟩
       case measure=>simp[intOf];omega
     ·have hlt' : ¬((m:Int)<(ks.length:Int)):=by omega
      have O5:Hid (R=true):=hid (by rw[← HR.out];have:=HM.out;rw[aaU (by omega)] at this;rw[this];rfl)
      clear HM
      go_wp2
      go_ret
      exact⟨by rw[O5.out];try rfl,HB.out⟩
   ·go_wp2_with fail
    try rw[hW]
    go_wp2_with fail
    go_loopw [5] (fun i wr=>∃(m:Nat),m≤ks.length∧i = .int .i64 m∧wr=W∧Hid ((ks.take m).any (fun x=>decide (x=2))=false)) (fun i _=>ks.length-(intOf i).toNat)
    case atStart=>exact⟨0,aaV _,rfl,rfl,hid rfl⟩
    case round =>
     obtain⟨m,hm,rfl,rfl,HM⟩:=hrel
     by_cases hlt:m<ks.length
     ·obtain⟨y,hy⟩:∃y,ks[m]?=some y:=⟨_,aaf hlt⟩
      obtain⟨b,off,rfl,_,c0⟩:=lN HT.out hy
      have hlt':((m:Int)<(ks.length:Int)):=by omega
      have hg:=aam.1 hy
      by_cases hy2:y=2
      ·have Ll:(y==2)=true:=by rw[beq_iff_eq];exact hy2
       have X6:Hid (R=false):=hid (by rw[← HR.out];have:(ks.any fun x=>decide (x=2))=true:=List.any_eq_true.2 ⟨y,aaP hy,aar hy2⟩;rw[this];rfl)
       clear hg hy HM hy2
       go_wp2
       go_ret
       exact⟨by rw[X6.out];try rfl,HB.out⟩
      ·have Ll:(y==2)=false:=by rw[aai];exact hy2
       have TF:Hid ((ks.take (m+1)).any (fun x=>decide (x=2))=false):=hid (by
        rw[aaJ hg.1,hg.2,List.any_append,HM.out]
        simp[hy2])
       clear hg hy HM hy2
       go_wp2
       go_roundw
       case rel=>exact⟨m+1,by omega,by go_num,trivial,TF⟩
       case measure=>simp[intOf];omega
     ·have hlt' : ¬((m:Int)<(ks.length:Int)):=by omega
      have O5:Hid (R=true):=hid (by rw[← HR.out];have:=HM.out;rw[aaU (by omega)] at this;rw[this];rfl)
      clear HM
      go_wp2
      go_ret
      exact⟨by rw[O5.out];try rfl,HB.out⟩
end Go.Proofs.YtfeglkleoijlaaaGreatDoor
