/- Packed for the hand-in: WRg WSmall WOnesL WReadsL -/
import Derived.Test.YtnidnipiihhnaaaGreatDoorZ37
import Derived.Test.YtnidnipiihhnaaaGreatDoorZ44
import Derived.Test.YtnidnipiihhnaaaGreatDoorZ46
import Derived.Test.YtnidnipiihhnaaaGreatDoorZ28
import Derived.Test.YtnidnipiihhnaaaGreatDoorZ29
namespace Go.Proofs.YtnidnipiihhnaaaGreatDoor
set_option linter.unusedSimpArgs false
set_option linter.unusedVariables false
set_option maxHeartbeats 8000000
theorem iY {s:List UInt8} (h:bM s=true):s.length≤16:=by
 unfold bM at h
 simp only[Bool.and_eq_true,decide_eq_true_eq] at h
 exact h.2.1
theorem yQ {v:Vl} (h:fq v=true):JC v:=by
 rcases nW h with⟨_,h2,h3⟩ | ⟨_,h2,h3⟩ | ⟨_,h2,h3,h4⟩
 ·refine ⟨by omega,by omega,by omega⟩
 ·refine ⟨by omega,by omega,by rw[h3];simp⟩
 ·refine ⟨by omega,by omega,by rw[h2];simp⟩
theorem JL (t:Tm) (h:t.ok):oK t.ex:=by
 have z:JC zV:=⟨by decide,by decide,by decide⟩
 have one : ∀(k op:Int) (l:List Ex),(∀x∈l,oK x)→oK (.mk k op [] [] zV l):=fun k op l hl=>.mk k op _ _ _ _ z.1 z.2.1 z.2.2 (by simp) (by simp) hl
 induction t with
 |
  val v =>
  have hv:=yQ (v:=v) h
  exact .mk 1 0 _ _ _ _ hv.1 hv.2.1 hv.2.2 (by simp) (by simp) (by simp)
 |
  col t n =>
  have hn:=iY h.1
  have ht:t.length≤16:=by
   rcases h.2 with e | e
   ·rw[e];simp
   ·exact iY e
  exact .mk 2 0 _ _ _ _ z.1 z.2.1 z.2.2 (by omega) (by omega) (by simp)
 |
  op o a b ha hb =>
  refine one 3 o _ (fun x hx=>?_)
  rcases List.mem_cons.1 hx with rfl | hx
  ·exact ha h.2.2.1
  ·rw[List.mem_singleton.1 hx];exact hb h.2.2.2
 | not a ha=>exact one 4 0 _ (fun x hx=>by rw[List.mem_singleton.1 hx];exact ha h.2)
 | neg a ha=>exact one 5 0 _ (fun x hx=>by rw[List.mem_singleton.1 hx];exact ha h)
 | nul a ha=>exact one 6 0 _ (fun x hx=>by rw[List.mem_singleton.1 hx];exact ha h)
 | nnul a ha=>exact one 4 0 _ (fun x hx=>by rw[List.mem_singleton.1 hx];exact one 6 0 _ (fun x hx=>by rw[List.mem_singleton.1 hx];exact ha h))
theorem jF {x:Ex} (h:aN x=true):oK x:=by
 obtain⟨h1,h2⟩:=jo h
 rw[← h2]
 exact JL _ h1
theorem Cg {x:Ex} (h:eu x=true):oK x:=jF (qz h)
theorem vQ {s:St} (h:dQ s=true):IY s:=by
 have hk0:=yR h
 unfold dQ at h
 simp only[Bool.and_eq_true] at h
 obtain⟨hk,hn,he⟩:=h
 have hz:=rD he
 have htb:s.tb.length≤9223372036854775807:=by have:=iY hn;omega
 clear he hn
 obtain⟨k,tb,cols,prim,rows,sets,items,jn,on,wh,gr,od,desc,lim⟩:=s
 unfold nC at hk
 unfold zu iP at hz
 dsimp only at hk hz hk0 htb
 rcases hk0 with rfl | rfl | rfl | rfl | rfl | rfl
 ·rw[if_pos rfl] at hk hz
  simp only[St.mk.injEq,true_and,and_true] at hz
  obtain⟨rfl,rfl,rfl,rfl,rfl,rfl,rfl,rfl,rfl,rfl⟩:=hz
  rw[Bool.and_eq_true] at hk
  refine ⟨htb,by have:=iY hk.2;show prim.length≤_;omega,by simp,by simp,fun c hc=>?_,by simp,by simp,by simp,by simp,by simp,by simp,by simp⟩
  have:=aS hk.1 c hc
  unfold lU at this
  simp only[Bool.and_eq_true] at this
  have:=iY this.1
  omega
 ·rw[if_neg (by decide),if_neg (by decide),if_neg (by decide),if_neg (by decide),if_neg (by decide)] at hz
  simp only[St.mk.injEq,true_and,and_true] at hz
  obtain⟨rfl,rfl,rfl,rfl,rfl,rfl,rfl,rfl,rfl,rfl,rfl,rfl⟩:=hz
  exact⟨htb,by simp,by simp,by simp,by simp,by simp,by simp,by simp,by simp,by simp,by simp,by simp⟩
 ·rw[if_neg (by decide),if_neg (by decide),if_pos rfl] at hk
  rw[if_neg (by decide),if_pos rfl] at hz
  simp only[St.mk.injEq,true_and,and_true] at hz
  obtain⟨rfl,rfl,rfl,rfl,rfl,rfl,rfl,rfl,rfl,rfl,rfl⟩:=hz
  exact⟨htb,by simp,by simp,by simp,by simp,fun r hr v hv=>yQ (aS (aS hk r hr) v hv),by simp,by simp,by simp,by simp,by simp,by simp⟩
 ·rw[if_neg (by decide),if_neg (by decide),if_neg (by decide),if_pos rfl,Bool.and_eq_true] at hk
  rw[if_neg (by decide),if_neg (by decide),if_pos rfl] at hz
  simp only[St.mk.injEq,true_and,and_true] at hz
  obtain⟨rfl,rfl,rfl,rfl,rfl,rfl,rfl,rfl,rfl,rfl⟩:=hz
  refine ⟨htb,by simp,by simp,by simp,by simp,by simp,fun x hx=>?_,by simp,by simp,fun x hx=>jF (aS hk.2 x hx),by simp,by simp⟩
  have:=aS hk.1 x hx
  unfold nY at this
  simp only[Bool.and_eq_true] at this
  have h1:=iY this.1
  exact⟨by omega,jF this.2⟩
 ·rw[if_neg (by decide),if_neg (by decide),if_neg (by decide),if_neg (by decide),if_pos rfl] at hk
  rw[if_neg (by decide),if_neg (by decide),if_neg (by decide),if_pos rfl] at hz
  simp only[St.mk.injEq,true_and,and_true] at hz
  obtain⟨rfl,rfl,rfl,rfl,rfl,rfl,rfl,rfl,rfl,rfl,rfl⟩:=hz
  exact⟨htb,by simp,by simp,by simp,by simp,by simp,by simp,by simp,by simp,fun x hx=>jF (aS hk x hx),by simp,by simp⟩
 ·rw[if_neg (by decide),if_neg (by decide),if_neg (by decide),if_neg (by decide),if_neg (by decide),if_pos rfl] at hk
  rw[if_neg (by decide),if_neg (by decide),if_neg (by decide),if_neg (by decide),if_pos rfl] at hz
  simp only[St.mk.injEq,true_and,and_true] at hz
  obtain⟨rfl,rfl,rfl,rfl⟩:=hz
  unfold xQ at hk
  simp only[Bool.and_eq_true,decide_eq_true_eq] at hk
  obtain⟨q1,q2,q3,q4,q5,q6,q7,q8⟩:=hk
  refine ⟨htb,by simp,?_,q8.2,by simp,by simp,by simp,fun i hi x hx=>?_,fun x hx=>jF (aS q3 x hx),fun x hx=>jF (aS q4 x hx),fun x hx=>Cg (aS q5 x hx),fun x hx=>Cg (aS q6 x hx)⟩
  ·unfold mD at q2
   dsimp only at q2 ⊢
   rw[Bool.or_eq_true,decide_eq_true_eq] at q2
   rcases q2 with e | e
   ·rw[e];simp
   ·have:=iY e;omega
  ·have hb:=aS q1 i hi
   unfold tN at hb
   split at hb
   ·have:i.xs=[]:=List.eq_nil_of_length_eq_zero (by simpa using hb)
    rw[this] at hx;cases hx
   ·split at hb
    ·exact jF (aS hb x hx)
    ·cases hb
theorem tQ (L:List Tk) (m:Int):((qg L m).2=10∨(qg L m).2=2)∨(qg L m=(Lib.join (pV L) [32],0)∧m≤10∧(Lib.join (pV L) [32]).length≤2000):=by
 unfold qg
 by_cases h1:10<m
 ·rw[if_pos h1];exact .inl (.inl rfl)
 ·rw[if_neg h1]
  by_cases h2:2000<(Lib.join (pV L) [32]).length
  ·rw[if_pos h2];exact .inl (.inr rfl)
  ·rw[if_neg h2];exact .inr ⟨rfl,by omega,by omega⟩
theorem tX {x:Ex} (h:aN x=true):((jy x).2=10∨(jy x).2=2)∨((jy x).2=0∧qO (jy x).1=(x,0,0)∧(jy x).1.length≤2000):=by
 unfold jy
 rw[if_pos h]
 rcases tQ (je x) (iM x) with h1 | ⟨h1,h2,h3⟩
 ·exact .inl h1
 ·rw[h1]
  exact .inr ⟨rfl,E5 h (by omega) h3,h3⟩
theorem qX {l:List St} (h:bf l 1 8 dQ=true):((om l).2=10∨(om l).2=2)∨((om l).2=0∧gT (om l).1=(l,0,0)∧(om l).1.length≤2000):=by
 unfold om
 rw[if_neg (by have:=(dA h).2;omega),if_pos h]
 rcases tQ (aQ (aI [59]) (l.map pI)) ((bq (l.map x9):Nat):Int) with h1 | ⟨h1,h2,h3⟩
 ·exact .inl h1
 ·rw[h1]
  refine .inr ⟨rfl,Af h (fun s hs=>lK (show bq (l.map x9)≤10 by omega) _ (List.mem_map.2 ⟨s,hs,rfl⟩)) (bG.sep (bS (by decide)) (fun x hx=>?_)) h3,h3⟩
  obtain⟨s,hs,rfl⟩:=List.mem_map.1 hx
  exact uV (aS h s hs)
theorem EI (t:Tm) (h:t.ok):jy t.ex=qg t.tk t.dp:=by
 unfold jy je iM
 rw[if_pos (tZ t h),wX t h]
end Go.Proofs.YtnidnipiihhnaaaGreatDoor
namespace Go.Proofs.YtnidnipiihhnaaaGreatDoor
open Go.RowKit Go.Shelf
set_option linter.unusedSimpArgs false
set_option linter.unusedVariables false
set_option maxRecDepth 20000
set_option maxHeartbeats 8000000
theorem Ea:jy (eT 5 (jf ⟨1,5,[]⟩))=([45,32,40,32,53,32,41],0) :=
 (EI (.neg (.val ⟨1,5,[]⟩)) (show fq ⟨1,5,[]⟩=true by decide)).trans (show qg (Tm.neg (.val ⟨1,5,[]⟩)).tk (((Tm.neg (.val ⟨1,5,[]⟩)).dp:Nat):Int)=([45,32,40,32,53,32,41],0) by first | kernel_rfl | rfl | decide +kernel)
theorem Bl:om [{ iP 2 with tb:=[116] }]=([68,82,79,80,32,84,65,66,76,69,32,116],0):=by kernel_rfl
theorem oz (w:World) (hT:j6 w):Calls Tryz.prog 8 #[] w fun e w'=>e = .returned (.bool true)∧Below w.heap.size w w':=by
 obtain⟨W,hW,hbW,hzW,hcW⟩:=aY w (.cells #[.int .i64 1,.int .i64 0,.string ⟨#[]⟩,.string ⟨#[]⟩,.int .i64 1,.int .i64 5,.string ⟨#[]⟩,.slice none 0 0] 26)
 obtain⟨V,hV,hbV,hzV,hcV⟩:=aY W (.cells #[.int .i64 1,.int .i64 0,.string ⟨#[]⟩,.string ⟨#[]⟩,.int .i64 1,.int .i64 5,.string ⟨#[]⟩,.slice none 0 0] 26)
 have k0:=aP hcW
 have hBV:Below w.heap.size w V:=hbW.trans (hbV.mono hbW.size)
 have hxa:zO (fun _=>True) V (jf ⟨1,5,[]⟩) [.int .i64 1,.int .i64 0,.string ⟨#[]⟩,.string ⟨#[]⟩,.int .i64 1,.int .i64 5,.string ⟨#[]⟩,.slice none 0 0]:=⟨1,0,[],[],1,5,[],[],none,0,0,rfl,rfl,.nil none 0 (by unfold maxLen;omega)⟩
 have kV:=aP hcV
 have hargs:aO (fun _=>True) V [jf ⟨1,5,[]⟩] (.slice (some ⟨W.heap.size,0,none⟩) 1 1):=by
  refine .cons [jf ⟨1,5,[]⟩] W.heap.size 0 1 (fun _=>.slice none 0 0) (by simp) trivial (by simp) (by unfold maxLen;omega) (fun j k op tb nm vk vn vs ys hx=>?_) (fun j k op tb nm vk vn vs ys hx=>?_)
  ·match j,hx with
   |
    0,hx =>
    simp only[jf,List.getElem?_cons_zero,Option.some.injEq,Ex.mk.injEq,Vl.mk.injEq] at hx
    obtain⟨rfl,rfl,rfl,rfl,⟨rfl,rfl,rfl⟩,rfl⟩:=hx
    exact kV
  ·match j,hx with
   |
    0,hx =>
    simp only[jf,List.getElem?_cons_zero,Option.some.injEq,Ex.mk.injEq,Vl.mk.injEq] at hx
    obtain⟨rfl,rfl,rfl,rfl,⟨rfl,rfl,rfl⟩,rfl⟩:=hx
    exact .nil none 0 (by unfold maxLen;omega)
 have hr5:aN (eT 5 (jf ⟨1,5,[]⟩))=true:=tZ (.neg (.val ⟨1,5,[]⟩)) (show fq ⟨1,5,[]⟩=true by decide)
 have HE:Hid (Calls Tryz.prog 11 #[.agg #[.int .i64 5,.int .i64 0,.string ⟨#[]⟩,.string ⟨#[]⟩,.int .i64 0,.int .i64 0,.string ⟨#[]⟩,.slice (some ⟨W.heap.size,0,none⟩) 1 1]] V fun e w'=>e = .returned (.tuple #[.string ⟨#[45,32,40,32,53,32,41]⟩,.int .i64 0])∧Below V.heap.size V w'):=hid (by
  have:=lS (fun _=>True) (eT 5 (jf ⟨1,5,[]⟩)) (.agg #[.int .i64 5,.int .i64 0,.string ⟨#[]⟩,.string ⟨#[]⟩,.int .i64 0,.int .i64 0,.string ⟨#[]⟩,.slice (some ⟨W.heap.size,0,none⟩) 1 1]) V (hT.on hBV) (jF hr5) ⟨5,0,[],[],0,0,[],[jf ⟨1,5,[]⟩],_,1,1,rfl,rfl,hargs⟩ (fun _=>by
   have e:nA (eT 5 (jf ⟨1,5,[]⟩))=2:=by
    unfold nA
    rw[show eT 5 (jf ⟨1,5,[]⟩)=(Tm.neg (.val ⟨1,5,[]⟩)).ex from rfl,wX (.neg (.val ⟨1,5,[]⟩)) (show fq ⟨1,5,[]⟩=true by decide)]
    rfl
   rw[e]
   decide)
  rw[Ea] at this
  exact this)
 have hst:nE (fun _=>True) w { iP 2 with tb:=[116] } [.int .i64 2,.string ⟨#[116]⟩,.slice none 0 0,.string ⟨#[]⟩,.slice none 0 0,.slice none 0 0,.slice none 0 0,.string ⟨#[]⟩,.slice none 0 0,.slice none 0 0,.slice none 0 0,.slice none 0 0,.bool false,.int .i64 (-1)]:=by
  have n:aO (fun _=>True) w [] (.slice none 0 0):=.nil none 0 (by unfold maxLen;omega)
  exact⟨none,none,none,none,none,none,none,none,0,0,0,0,0,0,0,0,0,0,0,0,0,0,0,0,rfl,bJ.nil,bJ.nil,bJ.nil,bJ.nil,n,n,n,n⟩
 have HSc:Hid (∀Z,Below w.heap.size w Z→Calls Tryz.prog 15 #[.slice (some ⟨Z.heap.size,0,none⟩) 1 1] (Z.alloc (.cells #[.int .i64 2,.string ⟨#[116]⟩,.slice none 0 0,.string ⟨#[]⟩,.slice none 0 0,.slice none 0 0,.slice none 0 0,.string ⟨#[]⟩,.slice none 0 0,.slice none 0 0,.slice none 0 0,.slice none 0 0,.bool false,.int .i64 (-1)] 42)) fun e w'=>e = .returned (.tuple #[.string ⟨#[68,82,79,80,32,84,65,66,76,69,32,116]⟩,.int .i64 0])∧Below w.heap.size w w'):=hid (fun Z hZ=>by
  obtain⟨U,hU,hbU,hzU,hcU⟩:=aY Z (.cells #[.int .i64 2,.string ⟨#[116]⟩,.slice none 0 0,.string ⟨#[]⟩,.slice none 0 0,.slice none 0 0,.slice none 0 0,.string ⟨#[]⟩,.slice none 0 0,.slice none 0 0,.slice none 0 0,.slice none 0 0,.bool false,.int .i64 (-1)] 42)
  rw[hU]
  have hBU:=hZ.trans (hbU.mono hZ.size)
  have hstU:=hst.to (R:=fun _=>False) (T:=fun _=>True) (ay.aA hBU) (fun b _ _=>⟨id,trivial⟩)
  have hsl:bJ 14 nE (fun _=>True) U [{ iP 2 with tb:=[116] }] (.slice (some ⟨Z.heap.size,0,none⟩) 1 1):=by
   refine ⟨_,1,[_],rfl,by simp,by unfold maxLen;omega,lQ.nil.snoc (by rfl) hstU,fun _=>⟨Z.heap.size,0,rfl,trivial,fun j cs hj i u hu=>?_⟩⟩
   match j,hj with
   |
    0,hj =>
    simp only[List.nil_append,List.getElem?_cons_zero,Option.some.injEq] at hj
    subst hj
    rw[Nat.zero_mul,Nat.zero_add,aD _ _ _ _ _ _ hcU]
    rw[← List.getElem?_toArray] at hu
    exact hu
  have:=j4 (fun _=>True) [{ iP 2 with tb:=[116] }] _ U (hT.on hBU) (fun s hs=>by rw[List.mem_singleton.1 hs];exact vQ (by decide)) hsl (fun _ s hs _ e he=>by rw[List.mem_singleton.1 hs] at he;cases he)
  rw[Bl] at this
  exact this.mono fun e w' ⟨h1,h2⟩=>⟨h1,hBU.trans (h2.mono hBU.size)⟩)
 have HBV:=hid hBV
 have HWE:=hid hW
 have HVE:=hid hV
 have hWs:W.heap.size=w.heap.size+1:=by rw[← hW];simp
 rw[hWs] at HE
 clear hT hbW hcW hbV hcV hBV hxa kV hargs hr5 hst hW hV hWs hzV hzW k0
 go_enter Tryz.func8,Tryz.ntmps8
 go_wp2_with fail
 rw[HWE.out,HVE.out]
 refine HE.out.mono ?_
 rintro e w1 ⟨rfl,hb1⟩
 have HB1:=hid (HBV.out.trans (hb1.mono HBV.out.size))
 have HS1:=hid (HSc.out w1 HB1.out)
 clear hb1 HE HSc
 go_wp2_with fail
 refine HS1.out.mono ?_
 rintro e w2 ⟨rfl,hb2⟩
 have HB2:=hid hb2
 clear hb2 HS1
 go_wp2
 go_ret
 exact⟨by simp,HB2.out⟩
theorem IE (w:World) (o1 o2:Obj):Below w.heap.size w ((w.alloc o1).alloc o2):=((Below.refl _ w).alloc (Nat.le_refl _) o1).alloc (by simp) o2
theorem uI {S T:Nat→Prop} {W:World} {x:Ex} {u u':Value} (h:iQ S W x u) (h':iQ T W x u'):∀V,Below W.heap.size W V→Calls Tryz.prog 13 #[u,u'] V fun e w'=>e = .returned (.bool true)∧Below V.heap.size V w':=by
 obtain⟨k,op,tb,nm,vk,vn,vs,ys,aa,nn,cc,rfl,rfl,ha⟩:=h
 obtain⟨k',op',tb',nm',vk',vn',vs',ys',aa',nn',cc',hx,rfl,ha'⟩:=h'
 simp only[Ex.mk.injEq,Vl.mk.injEq] at hx
 obtain⟨rfl,rfl,rfl,rfl,⟨rfl,rfl,rfl⟩,rfl⟩:=hx
 intro V hV
 exact nQ k op vk vn tb nm vs aa aa' nn nn' cc cc' V (fun Z hZ=>fG S T W ys _ ha Z _ (hV.trans (hZ.mono hV.size)) (ha'.to (R:=fun _=>False) (ay.aA (hV.trans (hZ.mono hV.size))) (fun b hb _=>⟨id,hb⟩)))
theorem vF (s:List UInt8) (w:World) (hs:s.length≤140737488351232) (hT:jH w) (hTW:j6 w) :
  Calls Tryz.prog 7 #[.string (aj s)] w fun e w'=>e = .returned (.bool true)∧Below w.heap.size w w':=by
 have HSM:=hid (oz w hTW)
 have HK1:=hid (fun V (h:jH V)=>wR s V h hs)
 have hright:=DR (s:=s)
 have HT:=hid hT
 have HTW:=hid hTW
 clear hT hTW
 obtain⟨⟨X,p,q⟩,hX⟩:∃x,qO s=x:=⟨_,rfl⟩
 rw[hX] at HK1 hright
 dsimp only at HK1 hright
 clear hX
 by_cases hp:p=0
 ·subst hp
  obtain⟨hr,hz⟩:=hright rfl
  have HE:=hid (fun V S v (h:j6 V) (hv:iQ S V X v)=>lS S X v V h (jF hr) hv (fun _=>by omega))
  have hpl:=tX hr
  obtain⟨⟨A,c⟩,hA⟩:∃a,jy X=a:=⟨_,rfl⟩
  rw[hA] at HE hpl
  dsimp only at HE hpl
  clear hA hr hz hright
  rcases hpl with hc | ⟨hc,ho,hl⟩
  ·have hcb:(c != 0)=true:=by rcases hc with rfl | rfl<;>rfl
   have hcc:(c==2)=true∨((c==2)=false∧(c==10)=true):=by rcases hc with rfl | rfl<;>simp
   clear hc
   go_enter Tryz.func7,Tryz.ntmps7
   go_wp2_with fail
   refine HSM.out.mono ?_
   rintro e w1 ⟨rfl,hb1⟩
   have HB1:=hid hb1
   clear hb1 HSM
   go_wp2_with fail
   refine (HK1.out w1 (HT.out.on HB1.out)).mono ?_
   rintro e w2 ⟨u,rfl,hu,hb2⟩
   have HU:=hid hu
   obtain⟨k3,op3,tb3,nm3,vk3,vn3,vs3,ys3,aa3,nn3,cc3,_,rfl,_⟩:=hu
   have hB2:=HB1.out.trans (hb2.mono HB1.out.size)
   obtain⟨W2,hW2,hbW2,hzW2,hcA,hcB⟩:=two w2 (.cells #[.int .i64 k3,.int .i64 op3,.string (aj tb3),.string (aj nm3),.int .i64 vk3,.int .i64 vn3,.string (aj vs3),.slice aa3 nn3 cc3] 26) (.cells #[.int .i64 0,.int .i64 q] 47)
   have HW2:=hid hW2
   clear hW2
   have HB2:Hid (Below w.heap.size w W2):=hid (hB2.trans (hbW2.mono hB2.size))
   have HC:=hid (HE.out W2 _ _ (HTW.out.on HB2.out) (HU.out.new hbW2))
   clear hbW2 hcA hcB hb2 hB2 HK1 HU HE
   go_wp2_with fail
   rw[HW2.out]
   refine HC.out.mono ?_
   rintro e w3 ⟨rfl,hb3⟩
   have HB3:Hid (Below w.heap.size w w3):=hid (HB2.out.trans (hb3.mono HB2.out.size))
   clear hb3 HC HW2
   rcases hcc with h2 | ⟨h2,h10⟩
   ·go_wp2
    go_ret
    exact⟨by simp,HB3.out⟩
   ·go_wp2
    go_ret
    exact⟨by simp,HB3.out⟩
  ·subst hc
   have HK2:=hid (fun V (h:jH V)=>wR A V h (by omega))
   rw[ho] at HK2
   dsimp only at HK2
   clear ho hl
   go_enter Tryz.func7,Tryz.ntmps7
   go_wp2_with fail
   refine HSM.out.mono ?_
   rintro e w1 ⟨rfl,hb1⟩
   have HB1:=hid hb1
   clear hb1 HSM
   go_wp2_with fail
   refine (HK1.out w1 (HT.out.on HB1.out)).mono ?_
   rintro e w2 ⟨u,rfl,hu,hb2⟩
   have HU:=hid hu
   obtain⟨k3,op3,tb3,nm3,vk3,vn3,vs3,ys3,aa3,nn3,cc3,_,rfl,_⟩:=hu
   have hB2:=HB1.out.trans (hb2.mono HB1.out.size)
   obtain⟨W2,hW2,hbW2,hzW2,hcA,hcB⟩:=two w2 (.cells #[.int .i64 k3,.int .i64 op3,.string (aj tb3),.string (aj nm3),.int .i64 vk3,.int .i64 vn3,.string (aj vs3),.slice aa3 nn3 cc3] 26) (.cells #[.int .i64 0,.int .i64 q] 47)
   have HW2:=hid hW2
   clear hW2
   have HB2:Hid (Below w.heap.size w W2):=hid (hB2.trans (hbW2.mono hB2.size))
   have HU2:=hid (HU.out.new hbW2)
   have HC:=hid (HE.out W2 _ _ (HTW.out.on HB2.out) HU2.out)
   have HCA:=hid hcA
   clear hbW2 hcA hcB hb2 hB2 HK1 HU
   go_wp2_with fail
   rw[HW2.out]
   refine HC.out.mono ?_
   rintro e w3 ⟨rfl,hb3⟩
   have HB3:Hid (Below w.heap.size w w3):=hid (HB2.out.trans (hb3.mono HB2.out.size))
   have HU3:=hid (HU2.out.new hb3)
   have HCA3:=hid ((hb3.block w2.heap.size (by omega)).trans HCA.out)
   have hz3:w2.heap.size<w3.heap.size:=by have:=hb3.size;omega
   clear hb3 HC HW2 HU2 HCA
   go_wp2_with fail
   refine (HK2.out w3 (HT.out.on HB3.out)).mono ?_
   rintro e w4 ⟨u',rfl,hu',hb4⟩
   have HV:=hid hu'
   obtain⟨k4,op4,tb4,nm4,vk4,vn4,vs4,ys4,aa4,nn4,cc4,_,rfl,_⟩:=hu'
   have hB4:=HB3.out.trans (hb4.mono HB3.out.size)
   obtain⟨W4,hW4,hbW4,hzW4,hcC,hcD⟩:=two w4 (.cells #[.int .i64 k4,.int .i64 op4,.string (aj tb4),.string (aj nm4),.int .i64 vk4,.int .i64 vn4,.string (aj vs4),.slice aa4 nn4 cc4] 26) (.cells #[.int .i64 0,.int .i64 0] 47)
   have HW4:=hid hW4
   clear hW4
   have HB4:Hid (Below w.heap.size w W4):=hid (hB4.trans (hbW4.mono hB4.size))
   have HV4:=hid (HV.out.new hbW4)
   have HU4:=hid ((HU3.out.new hb4).new hbW4)
   have HC4:=hid (HE.out W4 _ _ (HTW.out.on HB4.out) HV4.out)
   have HCA4:=hid ((hbW4.block w2.heap.size (by have:=hb4.size;omega)).trans ((hb4.block w2.heap.size hz3).trans HCA3.out))
   have HCC:=hid hcC
   have HCD:=hid hcD
   have hz4:w2.heap.size<W4.heap.size:=by have:=hb4.size;omega
   clear hbW4 hcC hcD hb4 hB4 HK2 HV HU3 HCA3 HE
   go_wp2_with fail
   rw[HW4.out]
   refine HC4.out.mono ?_
   rintro e w5 ⟨rfl,hb5⟩
   have HB5:Hid (Below w.heap.size w w5):=hid (HB4.out.trans (hb5.mono HB4.out.size))
   have HSX:=hid (uI (HU4.out.new hb5) (HV4.out.new hb5) w5 (Below.refl _ _))
   have kA:=aP ((hb5.block w2.heap.size hz4).trans HCA4.out)
   have kC:=aP ((hb5.block w4.heap.size (by omega)).trans HCC.out)
   have kD:=dh ((hb5.block (w4.heap.size+1) (by omega)).trans HCD.out)
   clear hb5 HC4 HW4 HU4 HV4 HCA4 HCC HCD
   go_wp2_with fail
   refine HSX.out.mono ?_
   rintro e w6 ⟨rfl,hb6⟩
   have HB6:Hid (Below w.heap.size w w6):=hid (HB5.out.trans (hb6.mono HB5.out.size))
   clear hb6 HSX
   go_wp2
   go_ret
   exact⟨by simp,HB6.out⟩
 ·have hp':(p != 0)=true:=by simpa using hp
  clear hright hp
  go_enter Tryz.func7,Tryz.ntmps7
  go_wp2_with fail
  refine HSM.out.mono ?_
  rintro e w1 ⟨rfl,hb1⟩
  have HB1:=hid hb1
  clear hb1 HSM
  go_wp2_with fail
  refine (HK1.out w1 (HT.out.on HB1.out)).mono ?_
  rintro e w2 ⟨u,rfl,hu,hb2⟩
  obtain⟨k3,op3,tb3,nm3,vk3,vn3,vs3,ys3,aa3,nn3,cc3,_,rfl,_⟩:=hu
  have hB2:=HB1.out.trans (hb2.mono HB1.out.size)
  have HB2:Hid (∀o1 o2,Below w.heap.size w ((w2.alloc o1).alloc o2)):=hid (fun o1 o2=>hB2.trans ((IE w2 o1 o2).mono hB2.size))
  clear hb2 hB2 HK1
  go_wp2
  go_ret
  exact⟨rfl,HB2.out _ _⟩
theorem bJ.newS {S:Nat→Prop} {w w':World} {l:List St} {v:Value} (h:bJ 14 nE S w l v) (hb:Below w.heap.size w w'):bJ 14 nE S w' l v :=
 h.to (by decide) (R:=fun _=>False) (ay.aA hb) (fun b h _=>⟨id,h⟩) (fun _ _ e=>e.to (R:=fun _=>False) (ay.aA hb) (fun b h _=>⟨id,h⟩))
theorem uh (s:List UInt8) (w:World) (hs:s.length≤140737488351232) (hT:jH w) (hTW:j6 w) :
  Calls Tryz.prog 6 #[.string (aj s)] w fun e w'=>e = .returned (.bool true)∧Below w.heap.size w w':=by
 have HSM:=hid (oz w hTW)
 have HK1:=hid (fun V (h:jH V)=>mV s V h hs)
 have hright:=xG (s:=s)
 have HT:=hid hT
 have HTW:=hid hTW
 clear hT hTW
 obtain⟨⟨X,p,q⟩,hX⟩:∃x,gT s=x:=⟨_,rfl⟩
 rw[hX] at HK1 hright
 dsimp only at HK1 hright
 clear hX
 by_cases hp:p=0
 ·subst hp
  obtain⟨hr,hz⟩:=hright rfl
  have HE:=hid (fun V S v (h:j6 V) (hv:bJ 14 nE S V X v)=>j4 S X v V h (fun x hx=>vQ (aS hr x hx)) hv (fun _ x hx _ e he=>Nat.le_trans (hz x hx e he) (by decide)))
  have hpl:=qX hr
  obtain⟨⟨A,c⟩,hA⟩:∃a,om X=a:=⟨_,rfl⟩
  rw[hA] at HE hpl
  dsimp only at HE hpl
  clear hA hr hz hright
  rcases hpl with hc | ⟨hc,ho,hl⟩
  ·have hcb:(c != 0)=true:=by rcases hc with rfl | rfl<;>rfl
   have hcc:(c==2)=true∨((c==2)=false∧(c==10)=true):=by rcases hc with rfl | rfl<;>simp
   clear hc
   go_enter Tryz.func6,Tryz.ntmps6
   go_wp2_with fail
   refine HSM.out.mono ?_
   rintro e w1 ⟨rfl,hb1⟩
   have HB1:=hid hb1
   clear hb1 HSM
   go_wp2_with fail
   refine (HK1.out w1 (HT.out.on HB1.out)).mono ?_
   rintro e w2 ⟨aa,nn,cc,rfl,hu,hb2⟩
   have hB2:=HB1.out.trans (hb2.mono HB1.out.size)
   obtain⟨W2,hW2,hbW2,hzW2,hcA⟩:=FL w2 (.int .i64 0) (.int .i64 q) 47
   have HW2:=hid hW2
   clear hW2
   have HB2:Hid (Below w.heap.size w W2):=hid (hB2.trans (hbW2.mono hB2.size))
   have HC:=hid (HE.out W2 _ _ (HTW.out.on HB2.out) (hu.newS hbW2))
   clear hbW2 hcA hb2 hB2 HK1 hu HE
   go_wp2_with fail
   rw[HW2.out]
   refine HC.out.mono ?_
   rintro e w3 ⟨rfl,hb3⟩
   have HB3:Hid (Below w.heap.size w w3):=hid (HB2.out.trans (hb3.mono HB2.out.size))
   clear hb3 HC HW2
   rcases hcc with h2 | ⟨h2,h10⟩
   ·go_wp2
    go_ret
    exact⟨by simp,HB3.out⟩
   ·go_wp2
    go_ret
    exact⟨by simp,HB3.out⟩
  ·subst hc
   have HK2:=hid (fun V (h:jH V)=>mV A V h (by omega))
   rw[ho] at HK2
   dsimp only at HK2
   clear ho hl
   go_enter Tryz.func6,Tryz.ntmps6
   go_wp2_with fail
   refine HSM.out.mono ?_
   rintro e w1 ⟨rfl,hb1⟩
   have HB1:=hid hb1
   clear hb1 HSM
   go_wp2_with fail
   refine (HK1.out w1 (HT.out.on HB1.out)).mono ?_
   rintro e w2 ⟨aa,nn,cc,rfl,hu,hb2⟩
   have hB2:=HB1.out.trans (hb2.mono HB1.out.size)
   obtain⟨W2,hW2,hbW2,hzW2,hcA⟩:=FL w2 (.int .i64 0) (.int .i64 q) 47
   have HW2:=hid hW2
   clear hW2
   have HB2:Hid (Below w.heap.size w W2):=hid (hB2.trans (hbW2.mono hB2.size))
   have HU2:=hid (hu.newS hbW2)
   have HC:=hid (HE.out W2 _ _ (HTW.out.on HB2.out) HU2.out)
   clear hbW2 hcA hb2 hB2 HK1 hu
   go_wp2_with fail
   rw[HW2.out]
   refine HC.out.mono ?_
   rintro e w3 ⟨rfl,hb3⟩
   have HB3:Hid (Below w.heap.size w w3):=hid (HB2.out.trans (hb3.mono HB2.out.size))
   have HU3:=hid (HU2.out.newS hb3)
   clear hb3 HC HW2 HU2
   go_wp2_with fail
   refine (HK2.out w3 (HT.out.on HB3.out)).mono ?_
   rintro e w4 ⟨aa4,nn4,cc4,rfl,hu',hb4⟩
   have hB4:=HB3.out.trans (hb4.mono HB3.out.size)
   obtain⟨W4,hW4,hbW4,hzW4,hcD⟩:=FL w4 (.int .i64 0) (.int .i64 0) 47
   have HW4:=hid hW4
   clear hW4
   have HB4:Hid (Below w.heap.size w W4):=hid (hB4.trans (hbW4.mono hB4.size))
   have HV4:=hid (hu'.newS hbW4)
   have HU4:=hid ((HU3.out.newS hb4).newS hbW4)
   have HC4:=hid (HE.out W4 _ _ (HTW.out.on HB4.out) HV4.out)
   have HCD:=hid hcD
   clear hbW4 hcD hb4 hB4 HK2 hu' HU3 HE
   go_wp2_with fail
   rw[HW4.out]
   refine HC4.out.mono ?_
   rintro e w5 ⟨rfl,hb5⟩
   have HB5:Hid (Below w.heap.size w w5):=hid (HB4.out.trans (hb5.mono HB4.out.size))
   have HSX:=hid (nN _ _ _ _ _ w5 (HU4.out.newS hb5) (HV4.out.newS hb5))
   have kD:=dh (HCD.out w5 hb5)
   clear hb5 HC4 HW4 HU4 HV4 HCD
   go_wp2_with fail
   refine HSX.out.mono ?_
   rintro e w6 ⟨rfl,hb6⟩
   have HB6:Hid (Below w.heap.size w w6):=hid (HB5.out.trans (hb6.mono HB5.out.size))
   clear hb6 HSX
   go_wp2
   go_ret
   exact⟨by simp,HB6.out⟩
 ·have hp':(p != 0)=true:=by simpa using hp
  clear hright hp
  go_enter Tryz.func6,Tryz.ntmps6
  go_wp2_with fail
  refine HSM.out.mono ?_
  rintro e w1 ⟨rfl,hb1⟩
  have HB1:=hid hb1
  clear hb1 HSM
  go_wp2_with fail
  refine (HK1.out w1 (HT.out.on HB1.out)).mono ?_
  rintro e w2 ⟨aa,nn,cc,rfl,hu,hb2⟩
  have hB2:=HB1.out.trans (hb2.mono HB1.out.size)
  have HB2:Hid (∀o1,Below w.heap.size w (w2.alloc o1)):=hid (fun o1=>hB2.alloc hB2.size o1)
  clear hb2 hB2 HK1
  go_wp2
  go_ret
  exact⟨rfl,HB2.out _⟩
end Go.Proofs.YtnidnipiihhnaaaGreatDoor
