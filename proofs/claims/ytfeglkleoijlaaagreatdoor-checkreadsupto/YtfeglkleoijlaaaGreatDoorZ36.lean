/- Packed for the hand-in: KBnd -/
import Derived.Test.YtfeglkleoijlaaaGreatDoorZ35
namespace Go.Proofs.YtfeglkleoijlaaaGreatDoor
open Go.RowKit Go.Shelf
set_option linter.unusedSimpArgs false
set_option linter.unusedVariables false
set_option maxRecDepth 20000
set_option maxHeartbeats 8000000
def qw (L:List Tb) (xs:List Ex) (B0:Nat) (w:World) (cs:Array Value) (i:Nat) (V:World):Prop :=
 ∃
  va vk S1,Two B0 w V va vk ((xs.take i).map fun x=>(aR L x).1) ((xs.take i).map fun x=>(aR L x).2.1) S1 [(w.heap.size,.cells cs 48),(w.heap.size+1,.cells bS 48)] [] ∧
  V.heap[w.heap.size+2]?=some (.cells #[va] 27)∧V.heap[w.heap.size+3]?=some (.cells #[vk] 87)∧(¬S1 (w.heap.size+2)∧¬S1 (w.heap.size+3))
theorem qw.Gx {L:List Tb} {xs:List Ex} {B0:Nat} {w V U:World} {cs:Array Value} {i:Nat} (h:qw L xs B0 w cs i V) (hb:Below V.heap.size V U):qw L xs B0 w cs i U:=by
 obtain⟨va,vk,S1,h1,h2,h3,h4⟩:=h
 exact⟨va,vk,S1,h1.pE hb,(hb.block _ (World.lt_of_block h2)).trans h2,(hb.block _ (World.lt_of_block h3)).trans h3,h4⟩
theorem Ja (w:World) (A B C D:Obj):∃W,(((w.alloc A).alloc B).alloc C).alloc D=W∧Below w.heap.size w W∧W.heap.size=w.heap.size+4∧W.heap[w.heap.size]?=some A∧W.heap[w.heap.size+1]?=some B∧W.heap[w.heap.size+2]?=some C∧W.heap[w.heap.size+3]?=some D:=by
 obtain⟨W1,h1,b1,z1,c1⟩:=aL w A
 obtain⟨W2,h2,b2,z2,c2⟩:=aL W1 B
 obtain⟨W3,h3,b3,z3,c3⟩:=aL W2 C
 obtain⟨W4,h4,b4,z4,c4⟩:=aL W3 D
 have e1:W1.heap.size=w.heap.size+1:=by rw[← h1];simp
 have e2:W2.heap.size=w.heap.size+2:=by rw[← h2];simp[e1]
 have e3:W3.heap.size=w.heap.size+3:=by rw[← h3];simp[e2]
 have e4:W4.heap.size=w.heap.size+4:=by rw[← h4];simp[e3]
 have b12:=b1.trans (b2.mono b1.size)
 have b13:=b12.trans (b3.mono b12.size)
 refine ⟨W4,by rw[h1,h2,h3,h4],b13.trans (b4.mono b13.size),e4,?_,?_,?_,?_⟩
 ·exact (b4.block _ (by omega)).trans ((b3.block _ (by omega)).trans ((b2.block _ (by omega)).trans c1))
 ·rw[← e1];exact (b4.block _ (by omega)).trans ((b3.block _ (by omega)).trans c2)
 ·rw[← e2];exact (b4.block _ (by omega)).trans c3
 ·rw[← e3];exact c4
theorem FP {v:Vl} (h:gK v=true):v.s.length≤40:=by
 unfold gK iw at h
 simp only[Bool.and_eq_true,decide_eq_true_eq] at h
 have h1:=h.1
 split at h1
 ·cases h1
 ·split at h1
  ·cases h1
  ·omega
theorem yg {k op:Int} {tb nm:List UInt8} {v:Vl} {xs:List Ex} (h:aJ (.mk k op tb nm v xs)=true):xs.length≤2∧(∀x∈xs,aJ x=true)∧(k=1→xs=[]∧v.s.length≤40)∧(k=2→xs=[])∧(k=3→xs.length=2)∧(k=1∨k=2∨k=3∨k=4∨k=5∨k=6):=by
 rw[iW] at h
 split at h
 ·rename_i h1
  simp only[Bool.and_eq_true,decide_eq_true_eq] at h
  obtain rfl:xs=[]:=List.eq_nil_of_length_eq_zero h.2.2
  refine ⟨by simp,by simp,fun _=>⟨rfl,FP h.1⟩,fun _=>rfl,fun e=>by omega,.inl h1⟩
 ·rename_i h1
  split at h
  ·rename_i h2
   simp only[Bool.and_eq_true,decide_eq_true_eq] at h
   obtain rfl:xs=[]:=List.eq_nil_of_length_eq_zero h.2.2
   exact⟨by simp,by simp,fun e=>absurd e h1,fun _=>rfl,fun e=>by omega,.inr (.inl h2)⟩
  ·rename_i h2
   split at h
   ·rename_i h3
    simp only[Bool.and_eq_true,decide_eq_true_eq] at h
    exact⟨by omega,fun x hx=>List.all_eq_true.1 h.1.2.2 x hx,fun e=>absurd e h1,fun e=>absurd e h2,fun _=>h.1.2.1,.inr (.inr (.inl h3))⟩
   ·rename_i h3
    split at h
    ·rename_i h4
     simp only[Bool.and_eq_true,decide_eq_true_eq] at h
     exact⟨by omega,fun x hx=>List.all_eq_true.1 h.1.2 x hx,fun e=>absurd e h1,fun e=>absurd e h2,fun e=>absurd e h3,.inr (.inr (.inr h4))⟩
    ·cases h
theorem bE (a b:Int) (c d:ByteArray) (e f:Int) (g:ByteArray) (h:Option Addr) (i j:Nat):(#[.int .i64 a,.int .i64 b,.string c,.string d,.int .i64 e,.int .i64 f,.string g,.slice h i j]:Array Value).all (·.oneCell')=true:=by simp[Value.oneCell']
abbrev Hf (k op:Int) (a:Option Addr) (n c:Nat):Array Value:=#[.int .i64 k,.int .i64 op,.string ⟨#[]⟩,.string ⟨#[]⟩,.int .i64 0,.int .i64 0,.string ⟨#[]⟩,.slice a n c]
theorem EX (k op:Int) (a:Option Addr) (n c:Nat):(Hf k op a n c).all (·.oneCell')=true:=by simp[Value.oneCell']
theorem zT (L:List Tb):∀(n:Nat) (x:Ex),SizeOf.sizeOf x<n→aJ x=true→uD L x
 | 0,x,hn,_=>absurd hn (Nat.not_lt_zero _)
 |
  n+1,.mk k op tb nm v xs,hn,hr=>fun S T A B w vv hx hC=>by
  obtain⟨hx2,hxr,hk1,hk2,hk3,hks⟩:=yg hr
  obtain⟨k',op',tb',nm',vk,vn,vs,ys,aa,nn,cc,he,rfl,ha⟩:=hx
  obtain⟨rfl,rfl,rfl,rfl,hve,rfl⟩:=Ex.mk.inj he
  subst hve
  have hIH : ∀y∈xs,uD L y:=fun y hy=>zT L n y (by have:=List.sizeOf_lt_of_mem hy;simp at hn;omega) (hxr y hy)
  rw[mQ]
  obtain⟨W,hW,hbW,hzW,hc0,hc1,hc2,hc3⟩:=Ja w (.cells #[.int .i64 k,.int .i64 op,.string (aj tb),.string (aj nm),.int .i64 vk,.int .i64 vn,.string (aj vs),.slice aa nn cc] 48) (.cells bS 48) (.cells #[.slice none 0 0] 27) (.cells #[.slice none 0 0] 87)
  have k0:=aN hc0
  have hT0:Two (w.heap.size+4) w W (.slice none 0 0) (.slice none 0 0) [] [] (fun _=>False) [(w.heap.size,.cells #[.int .i64 k,.int .i64 op,.string (aj tb),.string (aj nm),.int .i64 vk,.int .i64 vn,.string (aj vs),.slice aa nn cc] 48),(w.heap.size+1,.cells bS 48)] [] :=
   ⟨hbW,by omega,by omega,World.ownsRow_nil _ _ _ _,⟨[],World.ownsRow_nil _ _ _ _,gJ.nil⟩,fun b hb=>(by cases hb),fun b hb=>hb.elim,(fun p hp=>by
    simp only[List.mem_cons,List.not_mem_nil,or_false] at hp
    rcases hp with rfl | rfl
    ·exact⟨hc0,fun e=>(by cases e),fun e=>(by cases e)⟩
    ·exact⟨hc1,fun e=>(by cases e),fun e=>(by cases e)⟩),fun p hp=>(by cases hp)⟩
  have hsl:=dN ha
  have HEA:=hid (lM T 39 #[] #[.pointer (some ⟨B,0,none⟩),.pointer (some ⟨w.heap.size+2,0,none⟩),.pointer (some ⟨w.heap.size+3,0,none⟩)] (enters_of Tryz.func39 (by kernel_rfl) rfl)
   (qw L xs (w.heap.size+4) w #[.int .i64 k,.int .i64 op,.string (aj tb),.string (aj nm),.int .i64 vk,.int .i64 vn,.string (aj vs),.slice aa nn cc]) (fun V=>∃i,qw L xs (w.heap.size+4) w #[.int .i64 k,.int .i64 op,.string (aj tb),.string (aj nm),.int .i64 vk,.int .i64 vn,.string (aj vs),.slice aa nn cc] i V) xs (xs.map fun x=>(aR L x).2.2) (.slice aa nn cc) W (by simp)
   ⟨_,_,_,hT0,hc2,hc3,id,id⟩
   (hid (fun i V hI=>by
    obtain⟨va,vk',S1,h1,_⟩:=hI
    exact hsl.to (by decide) (R:=fun _=>False) (aA.aC h1.bel) (fun b hb _=>⟨id,hb⟩) (fun _ _ e=>e.to (R:=fun _=>False) (aA.aC h1.bel) (fun b hb _=>⟨id,hb⟩))))
   (hid (fun i V U hI hb=>hI.Gx hb))
   (hid (fun i y c hy hcy V hI ds hds=>by
    obtain⟨va,vk',S1,h1,h2,h3,h4⟩:=hI
    have hlt:=(List.getElem?_eq_some_iff.1 hy)
    obtain rfl:(aR L y).2.2=c:=by rw[List.getElem?_map,hy] at hcy;simpa using hcy
    have hlen:((xs.take i).map fun x=>(aR L x).1).length≤1000000∧((xs.take i).map fun x=>(aR L x).2.1).length≤1000000:=by
     simp only[List.length_map,List.length_take]
     omega
    have hsz:=h1.leW
    refine (Ab L y (hid (hIH y (List.mem_of_getElem? hy))) S T S1 A B (w.heap.size+2) (w.heap.size+3) (w.heap.size+4) w V va vk' _ _ ds _ h1 hC hds h2 h3 (by omega) ⟨by omega,by omega⟩ ⟨by omega,by omega⟩ h4 (fun p hp=>by
     simp only[List.mem_cons,List.not_mem_nil,or_false] at hp
     rcases hp with rfl | rfl
     ·exact⟨by show w.heap.size≠_;omega,by show w.heap.size≠_;omega⟩
     ·exact⟨by show w.heap.size+1≠_;omega,by show w.heap.size+1≠_;omega⟩) hlen).mono ?_
    rintro e w' ⟨rfl,va',vk'',S2,g1,g2,g3,g4⟩
    have ht : ∀{β:Type} (f:Ex→β),(xs.take (i+1)).map f=(xs.take i).map f++[f y]:=fun f=>by
     rw[List.take_succ_eq_append_getElem hlt.1,hlt.2,List.map_append]
     rfl
    have hI2:qw L xs (w.heap.size+4) w #[.int .i64 k,.int .i64 op,.string (aj tb),.string (aj nm),.int .i64 vk,.int .i64 vn,.string (aj vs),.slice aa nn cc] (i+1) w':=⟨va',vk'',S2,by rw[ht,ht];exact g1,g2,g3,g4⟩
    exact⟨rfl,fun _=>hI2,fun _=>⟨i+1,hI2⟩⟩)))
  obtain⟨F,hF⟩:∃F,aX (xs.map fun x=>(aR L x).2.2)=F:=⟨_,rfl⟩
  rw[hF] at HEA ⊢
  have HCx:=hid hC
  have HHA:=hid ha
  have HCB:=hid hC.selfB
  have HHX:=hid hx2
  clear hT0 hc0 hc1 hc2 hc3 hF hIH hxr hn hr ha hsl hC hx2
  by_cases hF0:F=0
  ·rw[if_neg (fun h=>h hF0)]
   subst hF0
   have HGO:Hid (∀V,qw L xs (w.heap.size+4) w #[.int .i64 k,.int .i64 op,.string (aj tb),.string (aj nm),.int .i64 vk,.int .i64 vn,.string (aj vs),.slice aa nn cc] xs.length V→∃va vk',V.heap[w.heap.size]?=some (.cells #[.int .i64 k,.int .i64 op,.string (aj tb),.string (aj nm),.int .i64 vk,.int .i64 vn,.string (aj vs),.slice aa nn cc] 48)∧V.heap[w.heap.size+1]?=some (.cells bS 48)∧V.cell? ⟨w.heap.size+2,0,none⟩=some va∧V.cell? ⟨w.heap.size+3,0,none⟩=some vk'∧Below w.heap.size w V∧w.heap.size+4≤V.heap.size∧bF (fun b=>w.heap.size+4≤b) V (xs.map fun x=>(aR L x).1) va∧aQ 1 qb (fun b=>w.heap.size+4≤b) V (xs.map fun x=>(aR L x).2.1) vk'):=hid (fun V hV=>by
    obtain⟨va,vk',S1,h1,h2,h3,h4,h5⟩:=hV
    have e1:=(h1.keep (w.heap.size,.cells #[.int .i64 k,.int .i64 op,.string (aj tb),.string (aj nm),.int .i64 vk,.int .i64 vn,.string (aj vs),.slice aa nn cc] 48) (by simp)).1
    have e2:=(h1.keep (w.heap.size+1,.cells bS 48) (by simp)).1
    rw[List.take_of_length_le (Nat.le_refl _)] at h1
    obtain⟨g1,g2⟩:=h1.Gq
    exact⟨va,vk',e1,e2,by rw[aD _ _ _ _ _ _ h2];rfl,by rw[aD _ _ _ _ _ _ h3];rfl,h1.bel,h1.leW,g1,g2⟩)
   by_cases h1:k=1
   ·rw[if_pos h1]
    obtain⟨rfl,hvs⟩:=hk1 h1
    subst h1
    have HBV:=hid (fun V=>ru ⟨vk,vn,vs⟩ V (by dsimp only at hvs ⊢;omega))
    dsimp only at HBV
    clear hk1 hk2 hk3 hks hvs
    go_enter Tryz.func38,Tryz.ntmps38
    go_wp2_with fail
    try rw[hW]
    refine HEA.out.mono ?_
    rintro e w1 ⟨rfl,hI,_⟩
    obtain⟨va,vk',e0,e1,_,_,hb1,hz1,_⟩:=HGO.out w1 (by simpa using hI)
    have k1:=aN e0
    have HE1:=hid e1
    have HB1:=hid hb1
    clear hI e0 e1 hb1 HEA HGO k0
    go_wp2_with fail
    refine (HBV.out _).mono ?_
    rintro e w2 ⟨rfl,hb2⟩
    have hc2:=(hb2.block (w.heap.size+1) (by omega)).trans HE1.out
    have HB2:=hid (dA (HB1.out.trans (hb2.mono HB1.out.size)) (Nat.le_succ w.heap.size) (mO vk vn (aj vs)))
    have HZ:=hid (setRow_heap w2 (w.heap.size+1) _ (mO vk vn (aj vs)) _ _ hc2)
    clear hb2 HBV k1
    go_wp2_with (first | (refine wpList_store_row rfl 48 (.tmp 4) (.tmp 25) rfl (w.heap.size+1) (mO vk vn (aj vs)) rfl rfl 48 bS hc2 Tryz.bA rfl (vM _ _ _) ?_) | fail)
    exact bodyPost_ret (v:=.tuple #[.agg (mO vk vn (aj vs)),.int .i64 vk,.int .i64 0]) (by simp[results,Tryz.results38,go_sem,aN HZ.out]) rfl ⟨_,rfl,FT _ _ ⟨vk,vn,vs⟩,HB2.out⟩
   ·rw[if_neg h1]
    have h1':(k==1)=false:=by rw[beq_eq_false_iff_ne];exact h1
    by_cases h2:k=2
    ·rw[if_pos h2]
     obtain rfl:=hk2 h2
     subst h2
     obtain⟨sv,hsA,hsL⟩:=HCx.out.scopeB
     have HSA:=hid hsA
     have HSL:=hid hsL
     have HBC:=hid (fun V hV=>qm S L sv tb nm V hV HCx.out.okB HCx.out.fewL)
     obtain⟨R,hR⟩:∃R,yA L tb nm=R:=⟨_,rfl⟩
     simp only[hR] at HBC
     rw[hR]
     clear hk1 hk2 hk3 hks hsA hsL hR
     go_enter Tryz.func38,Tryz.ntmps38
     go_wp2_with fail
     try rw[hW]
     refine HEA.out.mono ?_
     rintro e w1 ⟨rfl,hI,_⟩
     obtain⟨va,vk',e0,e1,_,_,hb1,hz1,_⟩:=HGO.out w1 (by simpa using hI)
     have k1:=aN e0
     have kA:=(hb1.cell (p:=⟨A,0,none⟩) HCx.out.ltB.1).trans HSA.out
     have HBC1:=hid (HBC.out w1 (HSL.out.to (by decide) (R:=fun _=>False) (aA.aC hb1) (fun b hb _=>⟨id,hb⟩) (fun _ _ e=>e.on hb1)))
     have HE1:=hid e1
     have HB1:=hid hb1
     clear hI e0 e1 hb1 HEA HGO k0 HBC
     go_wp2_with fail
     refine HBC1.out.mono ?_
     rintro e w2 ⟨u,rfl,hxu,hb2⟩
     obtain⟨k2,op2,tb2,nm2,vk2,vn2,vs2,ys2,aa2,nn2,cc2,hXe,rfl,hxa2⟩:=hxu (fun _=>False)
     have hc2:=(hb2.block (w.heap.size+1) (by omega)).trans HE1.out
     have hxu2:=hxu (fun _=>False)
     have HZ:=hid (setRow_heap w2 (w.heap.size+1) _ #[.int .i64 k2,.int .i64 op2,.string (aj tb2),.string (aj nm2),.int .i64 vk2,.int .i64 vn2,.string (aj vs2),.slice aa2 nn2 cc2] _ _ hc2)
     have HB2:=hid (dA (HB1.out.trans (hb2.mono HB1.out.size)) (Nat.le_succ w.heap.size) #[.int .i64 k2,.int .i64 op2,.string (aj tb2),.string (aj nm2),.int .i64 vk2,.int .i64 vn2,.string (aj vs2),.slice aa2 nn2 cc2])
     have HX2:Hid (fB (fun b=>w.heap.size≤b) (w2.setRow (w.heap.size+1) #[.int .i64 k2,.int .i64 op2,.string (aj tb2),.string (aj nm2),.int .i64 vk2,.int .i64 vn2,.string (aj vs2),.slice aa2 nn2 cc2]) R.1 (.agg #[.int .i64 k2,.int .i64 op2,.string (aj tb2),.string (aj nm2),.int .i64 vk2,.int .i64 vn2,.string (aj vs2),.slice aa2 nn2 cc2])):=hid (hxu2.to (R:=fun b=>b=w.heap.size+1) (aA.setRow (S:=fun b=>b=w.heap.size+1) (aA.refl _ w2) (p:=w.heap.size+1) (.inl rfl) _) (fun b hb _=>hb.elim))
     clear hb2 HBC1 k1 kA hxu hxu2 hXe hxa2
     go_wp2_with (first | (refine wpList_store_row rfl 48 (.tmp 4) (.tmp 36) rfl (w.heap.size+1) #[.int .i64 k2,.int .i64 op2,.string (aj tb2),.string (aj nm2),.int .i64 vk2,.int .i64 vn2,.string (aj vs2),.slice aa2 nn2 cc2] rfl rfl 48 bS hc2 Tryz.bA rfl (bE _ _ _ _ _ _ _ _ _ _) ?_) | fail)
     exact bodyPost_ret (v:=.tuple #[.agg #[.int .i64 k2,.int .i64 op2,.string (aj tb2),.string (aj nm2),.int .i64 vk2,.int .i64 vn2,.string (aj vs2),.slice aa2 nn2 cc2],.int .i64 R.2.1,.int .i64 R.2.2]) (by simp[results,Tryz.results38,go_sem,aN HZ.out]) rfl ⟨_,rfl,HX2.out,HB2.out⟩
    ·rw[if_neg h2]
     have h2':(k==2)=false:=by rw[beq_eq_false_iff_ne];exact h2
     have hlen3:k=3→(xs.map fun x=>(aR L x).2.1).length=2:=fun e=>by rw[List.length_map];exact hk3 e
     have HL3:=hid hlen3
     clear hk1 hk2 hk3 hks hlen3 h1 h2
     cases hfit:wY k op (xs.map fun x=>(aR L x).2.1) with
     |
      false =>
      rw[if_neg (by simp)]
      go_enter Tryz.func38,Tryz.ntmps38
      go_wp2_with fail
      try rw[hW]
      refine HEA.out.mono ?_
      rintro e w1 ⟨rfl,hI,_⟩
      obtain⟨va,vk',e0,e1,_,e3,hb1,hz1,_,hks⟩:=HGO.out w1 (by simpa using hI)
      have k1:=aN e0
      have HMH:=hid (nR T _ (.mk k op tb nm ⟨vk,vn,vs⟩ xs) (.agg #[.int .i64 k,.int .i64 op,.string (aj tb),.string (aj nm),.int .i64 vk,.int .i64 vn,.string (aj vs),.slice aa nn cc]) k op tb nm ⟨vk,vn,vs⟩ xs rfl _ vk' w1 ⟨k,op,tb,nm,vk,vn,vs,xs,aa,nn,cc,rfl,rfl,HHA.out.to (R:=fun _=>False) (aA.aC hb1) (fun b hb _=>⟨id,hb⟩)⟩ hks HL3.out)
      rw[hfit] at HMH
      have HE1:=hid e1
      have HB1:=hid hb1
      clear hI e0 e1 hb1 HEA HGO k0 hks
      go_wp2_with fail
      refine HMH.out.mono ?_
      rintro e w2 ⟨rfl,hb2⟩
      have hc2:=(hb2.block (w.heap.size+1) (by omega)).trans HE1.out
      have HB2:=hid (dA (HB1.out.trans (hb2.mono HB1.out.size)) (Nat.le_succ w.heap.size) bS)
      have HZ:=hid (setRow_heap w2 (w.heap.size+1) _ bS _ _ hc2)
      clear hb2 HMH k1 e3
      go_wp2_with (first | (refine wpList_store_row rfl 48 (.tmp 4) (.tmp 43) rfl (w.heap.size+1) bS rfl rfl 48 bS hc2 Tryz.bA rfl iZ ?_) | fail)
      exact bodyPost_ret (v:=.tuple #[.agg bS,.int .i64 0,.int .i64 9]) (by simp[results,Tryz.results38,go_sem,aN HZ.out]) rfl ⟨_,rfl,vG _ _,HB2.out⟩
     |
      true =>
      rw[if_pos rfl]
      go_enter Tryz.func38,Tryz.ntmps38
      go_wp2_with fail
      try rw[hW]
      refine HEA.out.mono ?_
      rintro e w1 ⟨rfl,hI,_⟩
      obtain⟨va,vk',e0,e1,e2,e3,hb1,hz1,has,hks⟩:=HGO.out w1 (by simpa using hI)
      have k1:=aN e0
      have HMH:=hid (nR T _ (.mk k op tb nm ⟨vk,vn,vs⟩ xs) (.agg #[.int .i64 k,.int .i64 op,.string (aj tb),.string (aj nm),.int .i64 vk,.int .i64 vn,.string (aj vs),.slice aa nn cc]) k op tb nm ⟨vk,vn,vs⟩ xs rfl _ vk' w1 ⟨k,op,tb,nm,vk,vn,vs,xs,aa,nn,cc,rfl,rfl,HHA.out.to (R:=fun _=>False) (aA.aC hb1) (fun b hb _=>⟨id,hb⟩)⟩ hks HL3.out)
      rw[hfit] at HMH
      obtain⟨a9,n9,c9,rfl⟩:∃a9 n9 c9,va = .slice a9 n9 c9:=by
       obtain⟨a9,c9,e9,_⟩:=has.form
       exact⟨_,_,_,e9⟩
      have HE0:=hid e0
      have HE1:=hid e1
      have HE2:=hid e2
      have HB1:=hid hb1
      have HAS:=hid has
      clear hI e0 e1 e2 hb1 HEA HGO k0 hks has
      go_wp2_with fail
      refine HMH.out.mono ?_
      rintro e w2 ⟨rfl,hb2⟩
      have hc2:=(hb2.block (w.heap.size+1) (by omega)).trans HE1.out
      have kk:=aN ((hb2.block w.heap.size (by omega)).trans HE0.out)
      have kv:=(hb2.cell (p:=⟨w.heap.size+2,0,none⟩) (by show w.heap.size+2<_;omega)).trans HE2.out
      have HB2:=hid (dA (HB1.out.trans (hb2.mono HB1.out.size)) (Nat.le_succ w.heap.size) (Hf k op a9 n9 c9))
      have HZ:=hid (setRow_heap w2 (w.heap.size+1) _ (Hf k op a9 n9 c9) _ _ hc2)
      have HX2:Hid (bF (fun b=>w.heap.size≤b) (w2.setRow (w.heap.size+1) (Hf k op a9 n9 c9)) (xs.map fun x=>(aR L x).1) (.slice a9 n9 c9)):=hid ((HAS.out.to (T:=fun b=>w.heap.size+4≤b) (R:=fun _=>False) (aA.aC hb2) (fun b hb _=>⟨id,hb⟩)).to (R:=fun b=>b=w.heap.size+1) (aA.setRow (S:=fun b=>b=w.heap.size+1) (aA.refl _ w2) (p:=w.heap.size+1) (.inl rfl) _) (fun b hb _=>⟨by show ¬b=_;omega,by show _≤b;omega⟩))
      clear hb2 HMH k1 e3
      go_wp2_with (first | (refine wpList_store_row rfl 48 (.tmp 4) (.tmp 49) rfl (w.heap.size+1) (Hf k op a9 n9 c9) rfl rfl 48 bS hc2 Tryz.bA rfl (EX _ _ _ _ _) ?_) | fail)
      exact bodyPost_ret (v:=.tuple #[.agg (Hf k op a9 n9 c9),.int .i64 1,.int .i64 0]) (by simp[results,Tryz.results38,go_sem,aN HZ.out]) rfl ⟨_,rfl,⟨k,op,[],[],0,0,[],_,a9,n9,c9,rfl,rfl,HX2.out⟩,HB2.out⟩
  ·rw[if_pos hF0]
   have hF1:(F != 0)=true:=by simpa using hF0
   have HF0:=hid hF0
   clear hk1 hk2 hk3 hks hF0
   go_enter Tryz.func38,Tryz.ntmps38
   go_wp2_with fail
   try rw[hW]
   refine HEA.out.mono ?_
   rintro e w1 ⟨rfl,_,hI⟩
   obtain⟨i,va,vk',S1,hT,_⟩:=hI HF0.out
   have hc2:=(hT.keep (w.heap.size+1,.cells bS 48) (by simp)).1
   have HB2:=hid (dA hT.bel (Nat.le_succ w.heap.size) bS)
   have HZ:=hid (setRow_heap w1 (w.heap.size+1) _ bS _ _ hc2)
   clear hI hT HEA k0
   go_wp2_with (first | (refine wpList_store_row rfl 48 (.tmp 4) (.tmp 16) rfl (w.heap.size+1) bS rfl rfl 48 bS hc2 Tryz.bA rfl iZ ?_) | fail)
   exact bodyPost_ret (v:=.tuple #[.agg bS,.int .i64 0,.int .i64 F]) (by simp[results,Tryz.results38,go_sem,aN HZ.out]) rfl ⟨_,rfl,vG _ _,HB2.out⟩
end Go.Proofs.YtfeglkleoijlaaaGreatDoor
