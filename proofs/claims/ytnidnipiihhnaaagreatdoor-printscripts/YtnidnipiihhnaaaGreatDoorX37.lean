/- Packed for the hand-in: RefJC RefJD RefJE -/
import Derived.Test.YtnidnipiihhnaaaGreatDoorX33
import Derived.Test.YtnidnipiihhnaaaGreatDoorX34
import Derived.Test.YtnidnipiihhnaaaGreatDoorX35
import Derived.Test.YtnidnipiihhnaaaGreatDoorX36
import Derived.Test.YtnidnipiihhnaaaGreatDoorX14
import Derived.Test.YtnidnipiihhnaaaGreatDoorX30
import Derived.Test.YtnidnipiihhnaaaGreatDoorX09
import Derived.Deep.RegionHeld3
namespace Go.Proofs.YtnidnipiihhnaaaGreatDoor
open Go.RowKit Go.Shelf
set_option linter.unusedSimpArgs false
set_option linter.unusedVariables false
set_option maxRecDepth 20000
set_option maxHeartbeats 8000000
theorem jtokens_any : ∀t:Tm,t.ok→JX t:=by
 intro t
 induction t with
 | val v=>intro h;exact jt_val v h
 | col t n=>intro h;exact jt_col t n
 | op o a b ha hb=>intro h;exact jt_op o h.1 h.2.1 a b h.2.2.1 h.2.2.2 (ha h.2.2.1) (hb h.2.2.2)
 | not a ha=>intro h;exact jt_not a h.2 h.1 (ha h.2)
 |
  neg a ha =>
  intro h
  cases hn:a.isNum with
  | true=>exact jt_negN a h hn (ha h)
  | false=>exact jt_neg a h hn (ha h)
 | nul a ha=>intro h;exact jt_nul a h (ha h)
 | nnul a ha=>intro h;exact jt_nnul a h (ha h)
theorem join_snoc (ps:List (List UInt8)) (p:List UInt8):Lib.join (ps++[p]) [32]=if ps=[] then p else Lib.join ps [32]++([32]++p):=by
 cases ps with
 | nil=>rw[if_pos rfl,List.nil_append,Lib.join_one]
 |
  cons q ps =>
  rw[if_neg (by simp),List.cons_append,Lib.join_cons,Lib.join_cons]
  unfold Lib.joinTail
  simp
theorem jwrite_any (B:Nat) (v:Value) (l:List Tk) (w:World) (hB:B≤w.heap.size) (hv:Toks B w v l) (hok : ∀t∈l,OkT t) (hn:l.length≤10000000) :
  Calls Tryz.prog 59 #[v] w fun e w'=>e = .returned (.string (str8 (Lib.join (wrs l) [32])))∧Below w.heap.size w w':=by
 obtain⟨a,c,rfl,h1,h2,h3⟩:=id hv
 unfold maxLen at h2
 have HV:=hid hv
 have HOK:=hid hok
 have HJL:Hid (∀k,(Lib.join (wrs (l.take k)) [32]).length≤1010000000):=hid (fun k=>by
  have q1:=join_le (wrs (l.take k)) (fun p hp=>by
   unfold wrs at hp
   obtain⟨t,ht,rfl⟩:=List.mem_map.1 hp
   exact wr_le (hok t (List.mem_of_mem_take (List.mem_filter.1 ht).1)))
  have q2:=wrs_len (l.take k)
  rw[List.length_take] at q2
  omega)
 clear h3 hv hok
 obtain⟨S,hS⟩:∃S,str8 (Lib.join (wrs l) [32])=S:=⟨_,rfl⟩
 rw[hS]
 have HS:=hid hS
 clear hS
 go_enter Tryz.func59,Tryz.ntmps59
 go_wp2_with fail
 go_loopw [3,4,5,6] (fun s b i _ wr=>∃(k:Nat) (sb:ByteArray) (bb:Bool),k≤l.length∧i = .int .i64 k∧s = .string sb∧b = .bool bb∧Hid (sb=str8 (Lib.join (wrs (l.take k)) [32]))∧Hid (bb = !decide (wrs (l.take k)=[]))∧Below w.heap.size w wr) (fun _ _ i _ _=>l.length-(intOf i).toNat)
 case atStart=>exact⟨0,⟨#[]⟩,false,Nat.zero_le _,rfl,rfl,rfl,hid rfl,hid rfl,Below.refl _ _⟩
 case round =>
  obtain⟨k,sb,bb,hk,rfl,rfl,rfl,HSB,HBB,hbel⟩:=hrel
  have hszr:=hbel.size
  by_cases hlt:k<l.length
  ·obtain⟨x,hx⟩:∃x,l[k]?=some x:=⟨_,List.getElem?_eq_getElem hlt⟩
   have hlt':((k:Int)<(l.length:Int)):=by omega
   obtain⟨a',c',hv',_,_,h3⟩:=HV.out.below (hbel.mono hB)
   simp only[Value.slice.injEq] at hv'
   obtain⟨rfl,_,rfl⟩:=hv'
   obtain⟨b,off,rfl,hbB,hcell⟩:=h3 (by intro e;rw[e] at hlt;simp at hlt)
   obtain⟨c0,c1,c2,c3⟩:=hcell k x hx
   have ht:=take_snocL l k x hx
   have hws:=wrs_snoc (l.take k) x
   rw[← ht] at hws
   obtain⟨o1,o2,o3⟩:=HOK.out x (List.mem_of_getElem? hx)
   have hJ1:=HJL.out k
   have hJ2:=HJL.out (k+1)
   obtain⟨xk,xs,xn,xp⟩:=x
   dsimp only at c0 c1 c2 c3 hws o1 o2 o3
   clear h3 hcell ht hx
   by_cases h6:xk=6
   ·rw[if_pos h6] at hws
    have HW2:=hid hws
    subst h6
    have HBR:=hid hbel
    clear hws hbel hJ1 hJ2
    go_wp2
    go_roundw
    case rel=>exact⟨k+1,sb,bb,by omega,by go_num,rfl,rfl,hid (by rw[HW2.out];exact HSB.out),hid (by rw[HW2.out];exact HBB.out),HBR.out⟩
    case measure=>simp[intOf];omega
   ·rw[if_neg h6] at hws
    have h6':(xk==6)=false:=by rw[beq_eq_false_iff_ne];exact h6
    rw[hws,join_snoc] at hJ2
    have HW2:=hid hws
    obtain⟨PS,hPS⟩:∃PS,wrs (l.take k)=PS:=⟨_,rfl⟩
    rw[hPS] at HSB HBB HW2 hJ1 hJ2
    have hwr:Go.Proofs.YtnidnipiihhnaaaGreatDoor.wr ⟨xk,xs,xn,xp⟩=if xk=3 then Lib.itoa xn else if xk=4 then [39]++(dbl xs++[39]) else xs:=rfl
    obtain⟨tx,htx⟩:∃tx,Go.Proofs.YtnidnipiihhnaaaGreatDoor.wr ⟨xk,xs,xn,xp⟩=tx:=⟨_,rfl⟩
    rw[htx] at HW2 hJ2 hwr
    have HN:=hid (fun V=>dnumber_any xn V (by omega) o3)
    have HLt:Hid (∀V,Calls Tryz.prog 127 #[.agg #[.int .i64 2,.int .i64 0,.string (str8 xs)]] V fun e w'=>e = .returned (.string (str8 ([39]++(dbl xs++[39]))))∧Below V.heap.size V w'):=hid (fun V=>dliteral_any 2 0 xs V (by decide) (by decide) (by omega))
    have hsb:=HSB.out
    have hsz1:sb.size=(Lib.join PS [32]).length:=by rw[hsb];rfl
    have HBR:=hid hbel
    clear hws hPS htx hbel
    have hadd:(bb=true∧PS≠[]∧(∀W,(Op.stringOp .add sb ⟨#[32]⟩).run Tryz.prog W = .ok (.string (str8 (Lib.join PS [32]++[32]))) W)∧(∀W,(Op.stringOp .add (str8 (Lib.join PS [32]++[32])) (str8 tx)).run Tryz.prog W = .ok (.string (str8 (Lib.join (PS++[tx]) [32]))) W))∨(bb=false∧PS=[]∧(∀W,(Op.stringOp .add sb (str8 tx)).run Tryz.prog W = .ok (.string (str8 (Lib.join (PS++[tx]) [32]))) W)):=by
     by_cases hp:PS=[]
     ·refine .inr ⟨by rw[HBB.out,decide_eq_true hp];rfl,hp,fun W=>?_⟩
      rw[if_pos hp] at hJ2
      rw[hsb,join_snoc,if_pos hp,hp,Lib.join_nil]
      rw[run_string_add_sum W _ _ (by rw[str8_size,str8_size];simp;omega)]
      exact congrArg (fun x=>Result.ok (Value.string x) W) (str8_add [] tx)
     ·refine .inl ⟨by rw[HBB.out,decide_eq_false hp];rfl,hp,fun W=>?_,fun W=>?_⟩
      ·rw[hsb,run_string_add_sum W _ _ (by rw[str8_size];show _+1≤_;omega)]
       exact congrArg (fun x=>Result.ok (Value.string x) W) (str8_add (Lib.join PS [32]) [32])
      ·rw[if_neg hp] at hJ2
       simp only[List.length_append,List.length_cons,List.length_nil] at hJ2
       rw[run_string_add_sum W _ _ (by rw[str8_size,str8_size,List.length_append];simp;omega)]
       rw[join_snoc,if_neg hp]
       refine congrArg (fun x=>Result.ok (Value.string x) W) ((str8_add (Lib.join PS [32]++[32]) tx).trans ?_)
       rw[List.append_assoc]
    have HEND:Hid (str8 (Lib.join (PS++[tx]) [32])=str8 (Lib.join (wrs (l.take (k+1))) [32])∧true = !decide (wrs (l.take (k+1))=[])):=hid (by rw[HW2.out];simp)
    generalize str8 (Lib.join (PS++[tx]) [32])=S2 at hadd HEND
    generalize str8 (Lib.join PS [32]++[32])=S1 at hadd
    by_cases h3k:xk=3
    ·rw[if_pos h3k] at hwr
     subst h3k
     subst hwr
     generalize str8 (Lib.itoa xn)=TX at HN hadd
     clear hJ1 hJ2 hsb hsz1 HSB HBB HLt
     rcases hadd with⟨rfl,_,y1,y2⟩ | ⟨rfl,_,y1⟩
     all_goals
      go_wp2_with fail
      refine (HN.out _).mono ?_
      rintro e w2 ⟨rfl,hb2⟩
      have HB2:Hid (Below w.heap.size w w2):=hid (HBR.out.trans (hb2.mono HBR.out.size))
      have hbl:b<wr.heap.size:=World.block_lt_of_cell? wr _ c0
      have hcl:=fun (o:Nat)=>hb2.cell (p:=⟨b,o,none⟩) hbl
      have d0:=(hcl _).trans c0
      have d1:=(hcl _).trans c1
      have d2:=(hcl _).trans c2
      clear hb2 hcl
      go_wp2
      go_roundw
      case rel=>exact⟨k+1,S2,true,by omega,by go_num,rfl,rfl,hid HEND.out.1,hid HEND.out.2,HB2.out⟩
      case measure=>simp[intOf];omega
    ·have h3':(xk==3)=false:=by rw[beq_eq_false_iff_ne];exact h3k
     rw[if_neg h3k] at hwr
     by_cases h4k:xk=4
     ·rw[if_pos h4k] at hwr
      subst h4k
      subst hwr
      generalize str8 ([39]++(dbl xs++[39]))=TX at HLt hadd
      clear hJ1 hJ2 hsb hsz1 HSB HBB HN h3k
      rcases hadd with⟨rfl,_,y1,y2⟩ | ⟨rfl,_,y1⟩
      all_goals
       go_wp2_with fail
       refine (HLt.out _).mono ?_
       rintro e w2 ⟨rfl,hb2⟩
       have HB2:Hid (Below w.heap.size w w2):=hid (HBR.out.trans (hb2.mono HBR.out.size))
       clear hb2
       go_wp2
       go_roundw
       case rel=>exact⟨k+1,S2,true,by omega,by go_num,rfl,rfl,hid HEND.out.1,hid HEND.out.2,HB2.out⟩
       case measure=>simp[intOf];omega
     ·have h4':(xk==4)=false:=by rw[beq_eq_false_iff_ne];exact h4k
      rw[if_neg h4k] at hwr
      subst hwr
      clear hJ1 hJ2 hsb hsz1 HSB HBB HN HLt h3k h4k
      rcases hadd with⟨rfl,_,y1,y2⟩ | ⟨rfl,_,y1⟩
      all_goals
       go_wp2
       go_roundw
       case rel=>exact⟨k+1,S2,true,by omega,by go_num,rfl,rfl,hid HEND.out.1,hid HEND.out.2,HBR.out⟩
       case measure=>simp[intOf];omega
  ·have hlt' : ¬((k:Int)<(l.length:Int)):=by omega
   have HSB2:Hid (sb=S):=hid (by rw[HSB.out,List.take_of_length_le (by omega)];exact HS.out)
   have HBR:=hid hbel
   clear hbel HSB HBB
   go_wp2
   go_ret
   exact⟨by rw[HSB2.out];rfl,HBR.out⟩
theorem cells2J {w:World} {g:Nat} {a b:Value} {t:TypeId} (h:w.heap[g]?=some (.cells #[a,b] t)):w.cell? ⟨g,0,none⟩=some a∧w.cell? ⟨g,1,none⟩=some b∧∀i,w.frozen? ⟨g,i,none⟩=false :=
 ⟨by rw[cell_row _ _ _ _ _ _ h];rfl,by rw[cell_row _ _ _ _ _ _ h];rfl,fun i=>by simp[World.frozen?,h]⟩
theorem jend_any (g:Nat) (tb:Option Nat) (L:List Tk) (m:Int) (w:World) (h:JwAt w g tb L m) (hok : ∀t∈L,OkT t) (hn:L.length≤10000000) :
  Calls Tryz.prog 25 #[.pointer (some ⟨g,0,none⟩)] w fun e w'=>e = .returned (.tuple #[.string (str8 (srcA L m).1),.int .i64 (srcA L m).2])∧Below w.heap.size w w':=by
 obtain⟨v,hv,ho,_⟩:=h
 have hT:=(toks_of_owns ho).2
 obtain⟨va,vb,vc,rfl⟩:∃va vb vc,v = .slice va vb vc:=by
  rcases ho.2 with⟨rfl,_⟩ | ⟨_,_,_,rfl,_⟩
  ·exact⟨_,_,_,rfl⟩
  ·exact⟨_,_,_,rfl⟩
 have k:=cells2J hv
 have HW:=hid (jwrite_any w.heap.size _ L w (Nat.le_refl _) hT hok hn)
 unfold srcA
 generalize Lib.join (wrs L) [32]=T at HW ⊢
 clear hv ho hT hok hn
 by_cases hm:10<m
 ·rw[if_pos hm]
  clear HW
  go_enter Tryz.func25,Tryz.ntmps25
  go_wp2
  exact bodyPost_ret (v:=.tuple #[.string ⟨#[]⟩,.int .i64 10]) (by simp[results,Tryz.results25,go_sem]) rfl ⟨rfl,Below.refl _ _⟩
 ·rw[if_neg hm]
  have hsz:(str8 T).size=T.length:=rfl
  by_cases hl:2000<T.length
  ·rw[if_pos hl]
   have hl':((2000:Int)<((str8 T).size:Int)):=by rw[hsz];omega
   clear hl hsz
   generalize str8 T=S at HW hl'
   go_enter Tryz.func25,Tryz.ntmps25
   go_wp2_with fail
   refine HW.out.mono ?_
   rintro e w1 ⟨rfl,hb1⟩
   have HB:=hid hb1
   clear hb1 HW
   go_wp2
   exact bodyPost_ret (v:=.tuple #[.string ⟨#[]⟩,.int .i64 2]) (by simp[results,Tryz.results25,go_sem]) rfl ⟨rfl,HB.out⟩
  ·rw[if_neg hl]
   have hl' : ¬((2000:Int)<((str8 T).size:Int)):=by rw[hsz];omega
   clear hl hsz
   dsimp only
   generalize str8 T=S at HW hl' ⊢
   go_enter Tryz.func25,Tryz.ntmps25
   go_wp2_with fail
   refine HW.out.mono ?_
   rintro e w1 ⟨rfl,hb1⟩
   have HB:=hid hb1
   clear hb1 HW
   go_wp2
   exact bodyPost_ret (v:=.tuple #[.string S,.int .i64 0]) (by simp[results,Tryz.results25,go_sem]) rfl ⟨rfl,HB.out⟩
theorem jexprs_of (S:Nat→Prop) (x:Ex) (hr:rightE x=true) (wv:Value) (WK:List Tk) (g:Nat) (tb:Option Nat) (L:List Tk) (m:Int) (w:World) (v:Value) (h:JwAt w g tb L m) (hS : ∀b,S b→¬(b=g∨tb=some b)) (hx:ArgsAt S w [x] v) (hl:L.length+WK.length+(exK x).length≤100000000) (hd:exD x≤1000000) (hm0 : -9223372036854775808≤m) (hm1:m≤9223372036854775807)
  (HWD:Hid (Calls Tryz.prog 33 #[.pointer (some ⟨g,0,none⟩),wv] w fun e w'=>e = .returned (.tuple #[])∧JWrote g tb w w' (L++WK) m)) :
  Calls Tryz.prog 24 #[.pointer (some ⟨g,0,none⟩),wv,v] w fun e w'=>e = .returned (.tuple #[])∧JWrote g tb w w' (L++WK++exK x) (max m (exD x:Int)):=by
 have HX:=hid hx
 have hgt:=h.lt
 obtain⟨a',c',hsl,_⟩:=hx.form
 subst hsl
 have hlen1:((([x]:List Ex).length:Int)==0)=false:=rfl
 obtain⟨hok,hex⟩:=right_ok hr
 have hne:exK x≠[]:=tk_ne _
 have HTK:=hid (fun V u (hu:ExV S V x u)=>jtokens_any (tmE x) hok S u V (by rw[hex];exact hu) (by show (exK x).length≤_;omega) hd)
 have HH:=hid h
 obtain⟨D,hDx⟩:∃D:Int,(exD x:Int)=D:=⟨_,rfl⟩
 rw[hDx]
 clear hr hok hex h
 go_enter Tryz.func24,Tryz.ntmps24
 go_wp2_with fail
 refine HWD.out.mono ?_
 rintro e w1 ⟨rfl,tb1,hw1,ht1,hf1⟩
 have hx1:ArgsAt S w1 [x] (.slice a' 1 c'):=HX.out.to hf1 (fun b hb _=>⟨hS b hb,hb⟩)
 obtain⟨q1,q2,q3,bb,off,k1,op1,tb1',nm1,vk1,vn1,vs1,ys1,a1,n1,c1,hae,rfl,_,h7,h8⟩:=args_get0 hx1
 unfold Cells8 at h7
 unfold maxLen at q3
 have HC1:=hid (HTK.out w1 _ ⟨k1,op1,tb1',nm1,vk1,vn1,vs1,ys1,a1,n1,c1,hae,rfl,h8⟩)
 have HW1:=hid hw1
 have HT1:=hid ht1
 have HF1:=hid hf1
 clear hw1 ht1 hf1 hx1 h8 hae HTK HWD q1
 go_wp2_with fail
 refine HC1.out.mono ?_
 rintro e w2 ⟨u,rfl,hu,hb2⟩
 have hw2:=HW1.out.below hb2
 have HTB:=hid HW1.out.tbs
 obtain⟨gu,cu,rfl,hgu1,hgu2,hcu⟩:=Row.some (L:=exK x) hu hne
 obtain⟨lv,hlv,hlo,hlt⟩:=hw2
 obtain⟨la,lb,lc,hlf⟩:∃la lb lc,lv = .slice la lb lc:=by
  rcases hlo.2 with⟨rfl,_⟩ | ⟨_,_,_,rfl,_⟩
  ·exact⟨_,_,_,rfl⟩
  ·exact⟨_,_,_,rfl⟩
 subst hlf
 have kg:=cells2J hlv
 have HLV:=hid hlv
 have HW2:=hid (HW1.out.below hb2)
 have HB2:=hid hb2
 have hgs:g+1≤w2.heap.size:=by have:=HW2.out.lt;omega
 have hlT:(L++WK).length+(exK x).length≤1000000000:=by simp;omega
 have hcu':TksAt w2 gu 0 (exK x):=hcu
 have HLT:=hid hlt
 have hTE:(tmE x).tk.length=(exK x).length:=rfl
 clear hu hb2 HC1 hcu hlt
 have hDE:((tmE x).dp:Int)=D:=hDx
 rw[hDE]
 clear hDE hDx
 go_wp2_with (first
  | (
    at_builtin;refine wpList_rowW _ rfl (.tmp 25) (.tmp 26) rfl (g+1) _ (L++WK) (exK x) rfl hlo gu 0 cu rfl hcu' hne hlT hgs ?_;intro v3 w3 hr3 hg3 hob3
    have HV3:Hid (w3.heap[g]?=some (.cells #[.slice la lb lc,.int .i64 m] 64)):=hid ((hg3.block g HW2.out.lt (fun e=>by have:=(hlo.lt g e.symm).1;omega)).trans HLV.out)
    have k3:=cells2J HV3.out
    obtain⟨va,vn,vc,rfl⟩:∃va vn vc,v3 = .slice va vn vc:=by
     rcases hr3.2 with⟨rfl,_⟩ | ⟨_,_,_,rfl,_⟩
     ·exact⟨_,_,_,rfl⟩
     ·exact⟨_,_,_,rfl⟩
    have HF3:Hid (FrW g tb1 w2 w3):=hid (Spares.of_grown hg3 (fun k hk=>.inr (HLT.out ▸ hk)))
    have hset:JWrote g tb1 w2 (w3.setCell ⟨g,0,none⟩ (.slice va vn vc)) (L++WK++exK x) m:=jw_set0 HW2.out HV3.out hr3 HF3.out (by
     rcases hob3 with e | e
     ·exact .inl (e.trans HLT.out)
     ·exact .inr ⟨_,e,Nat.le_refl _⟩)
    obtain⟨Z,hZ⟩:∃Z,w3.setCell ⟨g,0,none⟩ (.slice va vn vc)=Z:=⟨_,rfl⟩
    rw[hZ] at hset
    obtain⟨tb3,hz1,hz2,hz3⟩:=hset
    obtain⟨zv,hzv,hzo,hzt⟩:=id hz1
    have kz:=cells2J hzv
    have HZ1:=hid hz1
    have HZ2:=hid hz2
    have HZ3:=hid hz3
    clear hr3 hg3 hob3 hlo hcu' hz1 hz2 hz3 hzv hzo hzt kg)
  | fail)
 have hfin:JWrote g tb w (Z.setCell ⟨g,1,none⟩ (.int .i64 (max m D))) (L++WK++exK x) (max m D) :=
  JWrote.then HT1.out HF1.out (JWrote.new HB2.out (JWrote.then HZ2.out HZ3.out (jw_set1 HZ1.out (max m D))))
 exact bodyPost_end (v:=.tuple #[]) (by simp[results,Tryz.results24,go_sem]) rfl ⟨rfl,hfin⟩
end Go.Proofs.YtnidnipiihhnaaaGreatDoor
