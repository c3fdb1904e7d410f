import Derived.Test.YtfeglkleoijlaaaGreatDoorY28
namespace Go.Proofs.YtfeglkleoijlaaaGreatDoor
open Go.RowKit Go.Shelf
set_option linter.unusedSimpArgs false
set_option linter.unusedVariables false
set_option maxRecDepth 20000
set_option maxHeartbeats 8000000
def xO (L:List Tb) (xs:List Ex) (B0:Nat) (w:World) (cs:Array Value) (i:Nat) (V:World):Prop :=
 ∃
  va vk S1,Two B0 w V va vk ((xs.take i).map fun x=>(aI L x).1) ((xs.take i).map fun x=>(aI L x).2.1) S1 [(w.heap.size,.cells cs 48),(w.heap.size+1,.cells eT 48)] [] ∧
  V.heap[w.heap.size+2]?=some (.cells #[va] 27)∧V.heap[w.heap.size+3]?=some (.cells #[vk] 87)∧(¬S1 (w.heap.size+2)∧¬S1 (w.heap.size+3))
theorem xO.Ux {L:List Tb} {xs:List Ex} {B0:Nat} {w V U:World} {cs:Array Value} {i:Nat} (h:xO L xs B0 w cs i V) (hb:Below V.heap.size V U):xO L xs B0 w cs i U:=by
 obtain⟨va,vk,S1,h1,h2,h3,h4⟩:=h
 exact⟨va,vk,S1,h1.um hb,(hb.block _ (World.lt_of_block h2)).trans h2,(hb.block _ (World.lt_of_block h3)).trans h3,h4⟩
theorem XU (w:World) (A B C D:Obj):∃W,(((w.alloc A).alloc B).alloc C).alloc D=W∧Below w.heap.size w W∧W.heap.size=w.heap.size+4∧W.heap[w.heap.size]?=some A∧W.heap[w.heap.size+1]?=some B∧W.heap[w.heap.size+2]?=some C∧W.heap[w.heap.size+3]?=some D:=by
 obtain⟨W1,h1,b1,z1,c1⟩:=aK w A
 obtain⟨W2,h2,b2,z2,c2⟩:=aK W1 B
 obtain⟨W3,h3,b3,z3,c3⟩:=aK W2 C
 obtain⟨W4,h4,b4,z4,c4⟩:=aK W3 D
 have e1:W1.heap.size=w.heap.size+1:=by rw[← h1];simp
 have e2:W2.heap.size=w.heap.size+2:=by rw[← h2];simp[e1]
 have e3:W3.heap.size=w.heap.size+3:=by rw[← h3];simp[e2]
 have e4:W4.heap.size=w.heap.size+4:=by rw[← h4];simp[e3]
 have b12:=b1.trans (b2.mono b1.size)
 have b13:=b12.trans (b3.mono b12.size)
 refine ⟨W4,by rw[h1,h2,h3,h4],b13.trans (b4.mono b13.size),e4,?_,?_,?_,?_⟩
 ·exact (b4.block _ (by omega)).trans ((b3.block _ (by omega)).trans ((b2.block _ (by omega)).trans c1))
 ·rw[← e1];exact (b4.block _ (by omega)).trans ((b3.block _ (by omega)).trans c2)
 ·rw[← e2];exact (b4.block _ (by omega)).trans c3
 ·rw[← e3];exact c4
theorem Qq {v:Vl} (h:dV v=true):v.s.length≤40:=by
 unfold dV eY at h
 simp only[aaC,aaI] at h
 have h1:=h.1
 split at h1
 ·cases h1
 ·split at h1
  ·cases h1
  ·omega
theorem l8 {k op:Int} {tb nm:List UInt8} {v:Vl} {xs:List Ex} (h:aF (.mk k op tb nm v xs)=true):xs.length≤2∧(∀x∈xs,aF x=true)∧(k=1→xs=[]∧v.s.length≤40)∧(k=2→xs=[])∧(k=3→xs.length=2)∧(k=1∨k=2∨k=3∨k=4∨k=5∨k=6):=by
 rw[lW] at h
 split at h
 ·rename_i h1
  simp only[aaC,aaI] at h
  obtain rfl:xs=[]:=aaR h.2.2
  refine ⟨by simp,by simp,fun _=>⟨rfl,Qq h.1⟩,fun _=>rfl,fun e=>by omega,.inl h1⟩
 ·rename_i h1
  split at h
  ·rename_i h2
   simp only[aaC,aaI] at h
   obtain rfl:xs=[]:=aaR h.2.2
   exact⟨by simp,by simp,fun e=>absurd e h1,fun _=>rfl,fun e=>by omega,.inr (.inl h2)⟩
  ·rename_i h2
   split at h
   ·rename_i h3
    simp only[aaC,aaI] at h
    exact⟨by omega,fun x hx=>List.all_eq_true.1 h.1.2.2 x hx,fun e=>absurd e h1,fun e=>absurd e h2,fun _=>h.1.2.1,.inr (.inr (.inl h3))⟩
   ·rename_i h3
    split at h
    ·rename_i h4
     simp only[aaC,aaI] at h
     exact⟨by omega,fun x hx=>List.all_eq_true.1 h.1.2 x hx,fun e=>absurd e h1,fun e=>absurd e h2,fun e=>absurd e h3,.inr (.inr (.inr h4))⟩
    ·cases h
theorem iF (a b:Int) (c d:ByteArray) (e f:Int) (g:ByteArray) (h:Option Addr) (i j:Nat):(#[.int .i64 a,.int .i64 b,.string c,.string d,.int .i64 e,.int .i64 f,.string g,.slice h i j]:Array Value).all (·.oneCell')=true:=by simp[Value.oneCell']
abbrev ZJ (k op:Int) (a:Option Addr) (n c:Nat):Array Value:=#[.int .i64 k,.int .i64 op,.string ⟨#[]⟩,.string ⟨#[]⟩,.int .i64 0,.int .i64 0,.string ⟨#[]⟩,.slice a n c]
theorem Ic (L:List Tb):∀(n:Nat) (x:Ex),SizeOf.sizeOf x<n→aF x=true→A9 L x
 | 0,x,hn,_=>absurd hn (Nat.not_lt_zero _)
 |
  n+1,.mk k op tb nm v xs,hn,hr=>fun S T A B w vv hx hC=>by
  obtain⟨hx2,K7,hk1,hk2,hk3,hks⟩:=l8 hr
  obtain⟨k',op',tb',nm',vk,vn,vs,ys,aa,nn,cc,he,rfl,ha⟩:=hx
  obtain⟨rfl,rfl,rfl,rfl,Iq,rfl⟩:=Ex.mk.inj he
  subst Iq
  have hIH : ∀y∈xs,A9 L y:=fun y hy=>Ic L n y (by have:=List.sizeOf_lt_of_mem hy;simp at hn;omega) (K7 y hy)
  rw[jF]
  obtain⟨W,hW,hbW,aJ,hc0,hc1,hc2,hc3⟩:=XU w (.cells #[.int .i64 k,.int .i64 op,.string (aj tb),.string (aj nm),.int .i64 vk,.int .i64 vn,.string (aj vs),.slice aa nn cc] 48) (.cells eT 48) (.cells #[.slice none 0 0] 27) (.cells #[.slice none 0 0] 87)
  have k0:=aG hc0
  have hT0:Two (w.heap.size+4) w W (.slice none 0 0) (.slice none 0 0) [] [] (fun _=>False) [(w.heap.size,.cells #[.int .i64 k,.int .i64 op,.string (aj tb),.string (aj nm),.int .i64 vk,.int .i64 vn,.string (aj vs),.slice aa nn cc] 48),(w.heap.size+1,.cells eT 48)] [] :=
   ⟨hbW,by omega,by omega,World.ownsRow_nil _ _ _ _,⟨[],World.ownsRow_nil _ _ _ _,lH.nil⟩,fun b hb=>(by cases hb),fun b hb=>hb.elim,(fun p hp=>by
    simp only[abg,List.not_mem_nil,or_false] at hp
    rcases hp with rfl | rfl
    ·exact⟨hc0,fun e=>(by cases e),fun e=>(by cases e)⟩
    ·exact⟨hc1,fun e=>(by cases e),fun e=>(by cases e)⟩),fun p hp=>(by cases hp)⟩
  have hsl:=eZ ha
  have DV:=hid (rz T 39 #[] #[.pointer (some ⟨B,0,none⟩),.pointer (some ⟨w.heap.size+2,0,none⟩),.pointer (some ⟨w.heap.size+3,0,none⟩)] (enters_of Tryz.func39 (by kernel_rfl) rfl)
   (xO L xs (w.heap.size+4) w #[.int .i64 k,.int .i64 op,.string (aj tb),.string (aj nm),.int .i64 vk,.int .i64 vn,.string (aj vs),.slice aa nn cc]) (fun V=>∃i,xO L xs (w.heap.size+4) w #[.int .i64 k,.int .i64 op,.string (aj tb),.string (aj nm),.int .i64 vk,.int .i64 vn,.string (aj vs),.slice aa nn cc] i V) xs (xs.map fun x=>(aI L x).2.2) (.slice aa nn cc) W (by simp)
   ⟨_,_,_,hT0,hc2,hc3,id,id⟩
   (hid (fun i V hI=>by
    obtain⟨va,jM,S1,h1,_⟩:=hI
    exact hsl.to (by decide) (R:=fun _=>False) (ak.aA h1.qJ) (fun b hb _=>⟨id,hb⟩) (fun _ _ e=>e.to (R:=fun _=>False) (ak.aA h1.qJ) (fun b hb _=>⟨id,hb⟩))))
   (hid (fun i V U hI hb=>hI.Ux hb))
   (hid (fun i y c hy hcy V hI ds hds=>by
    obtain⟨va,jM,S1,h1,h2,h3,h4⟩:=hI
    have hlt:=(aam.1 hy)
    obtain rfl:(aI L y).2.2=c:=by rw[List.getElem?_map,hy] at hcy;simpa using hcy
    have hlen:((xs.take i).map fun x=>(aI L x).1).length≤1000000∧((xs.take i).map fun x=>(aI L x).2.1).length≤1000000:=by
     simp only[List.length_map,List.length_take]
     omega
    have hsz:=h1.AX
    refine (JX L y (hid (hIH y (aaP hy))) S T S1 A B (w.heap.size+2) (w.heap.size+3) (w.heap.size+4) w V va jM _ _ ds _ h1 hC hds h2 h3 (by omega) ⟨by omega,by omega⟩ ⟨by omega,by omega⟩ h4 (fun p hp=>by
     simp only[abg,List.not_mem_nil,or_false] at hp
     rcases hp with rfl | rfl
     ·exact⟨by show w.heap.size≠_;omega,by show w.heap.size≠_;omega⟩
     ·exact⟨by show w.heap.size+1≠_;omega,by show w.heap.size+1≠_;omega⟩) hlen).mono ?_
    rintro e w' ⟨rfl,rZ,PW,S2,g1,g2,g3,g4⟩
    have ht : ∀{β:Type} (f:Ex→β),(xs.take (i+1)).map f=(xs.take i).map f++[f y]:=fun f=>by
     rw[aaJ hlt.1,hlt.2,List.map_append]
     rfl
    have hI2:xO L xs (w.heap.size+4) w #[.int .i64 k,.int .i64 op,.string (aj tb),.string (aj nm),.int .i64 vk,.int .i64 vn,.string (aj vs),.slice aa nn cc] (i+1) w':=⟨rZ,PW,S2,by rw[ht,ht];exact g1,g2,g3,g4⟩
    exact⟨rfl,fun _=>hI2,fun _=>⟨i+1,hI2⟩⟩)))
  obtain⟨F,hF⟩:∃F,aO (xs.map fun x=>(aI L x).2.2)=F:=⟨_,rfl⟩
  rw[hF] at DV ⊢
  have Zq:=hid hC
  have HHA:=hid ha
  have nP:=hid hC.Mw
  have HHX:=hid hx2
  clear hT0 hc0 hc1 hc2 hc3 hF hIH K7 hn hr ha hsl hC hx2
  by_cases KV:F=0
  ·rw[if_neg (fun h=>h KV)]
   subst KV
   have qY:Hid (∀V,xO L xs (w.heap.size+4) w #[.int .i64 k,.int .i64 op,.string (aj tb),.string (aj nm),.int .i64 vk,.int .i64 vn,.string (aj vs),.slice aa nn cc] xs.length V→∃va jM,V.heap[w.heap.size]?=some (.cells #[.int .i64 k,.int .i64 op,.string (aj tb),.string (aj nm),.int .i64 vk,.int .i64 vn,.string (aj vs),.slice aa nn cc] 48)∧V.heap[w.heap.size+1]?=some (.cells eT 48)∧V.cell? ⟨w.heap.size+2,0,none⟩=some va∧V.cell? ⟨w.heap.size+3,0,none⟩=some jM∧Below w.heap.size w V∧w.heap.size+4≤V.heap.size∧bA (fun b=>w.heap.size+4≤b) V (xs.map fun x=>(aI L x).1) va∧aM 1 uj (fun b=>w.heap.size+4≤b) V (xs.map fun x=>(aI L x).2.1) jM):=hid (fun V hV=>by
    obtain⟨va,jM,S1,h1,h2,h3,h4,h5⟩:=hV
    have e1:=(h1.keep (w.heap.size,.cells #[.int .i64 k,.int .i64 op,.string (aj tb),.string (aj nm),.int .i64 vk,.int .i64 vn,.string (aj vs),.slice aa nn cc] 48) (by simp)).1
    have e2:=(h1.keep (w.heap.size+1,.cells eT 48) (by simp)).1
    rw[aaU (aaF _)] at h1
    obtain⟨g1,g2⟩:=h1.Ox
    exact⟨va,jM,e1,e2,by rw[aB _ _ _ _ _ _ h2];rfl,by rw[aB _ _ _ _ _ _ h3];rfl,h1.qJ,h1.AX,g1,g2⟩)
   by_cases h1:k=1
   ·rw[if_pos h1]
    obtain⟨rfl,hvs⟩:=hk1 h1
    subst h1
    have zl:=hid (fun V=>zi ⟨vk,vn,vs⟩ V (by dsimp only at hvs ⊢;omega))
    dsimp only at zl
    clear hk1 hk2 hk3 hks hvs
    go_enter Tryz.func38,Tryz.ntmps38
    go_wp2_with fail
    try rw[hW]
    refine DV.out.mono ?_
    rintro e w1 ⟨rfl,hI,_⟩
    obtain⟨va,jM,e0,e1,_,_,hb1,hz1,_⟩:=qY.out w1 (by simpa using hI)
    have k1:=aG e0
    have Fw:=hid e1
    have HB1:=hid hb1
    clear hI e0 e1 hb1 DV qY k0
    go_wp2_with fail
    refine (zl.out _).mono ?_
    rintro e w2 ⟨rfl,hb2⟩
    have hc2:=(hb2.block (w.heap.size+1) (by omega)).trans Fw.out
    have HB2:=hid (cK (HB1.out.trans (hb2.mono HB1.out.size)) (Nat.le_succ w.heap.size) (uE vk vn (aj vs)))
    have HZ:=hid (setRow_heap w2 (w.heap.size+1) _ (uE vk vn (aj vs)) _ _ hc2)
    clear hb2 zl k1
    go_wp2_with (first | (refine lC hc2 ?_) | fail)
    exact bodyPost_ret (v:=.tuple #[.agg (uE vk vn (aj vs)),.int .i64 vk,.int .i64 0]) (by simp[results,Tryz.results38,go_sem,aG HZ.out]) rfl ⟨_,rfl,PX _ _ ⟨vk,vn,vs⟩,HB2.out⟩
   ·rw[if_neg h1]
    have h1':(k==1)=false:=by rw[aai];exact h1
    by_cases h2:k=2
    ·rw[if_pos h2]
     obtain rfl:=hk2 h2
     subst h2
     obtain⟨sv,hsA,hsL⟩:=Zq.out.M8
     have RB:=hid hsA
     have HSL:=hid hsL
     have VJ:=hid (fun V hV=>wW S L sv tb nm V hV Zq.out.okB Zq.out.YV)
     obtain⟨R,hR⟩:∃R,AU L tb nm=R:=⟨_,rfl⟩
     simp only[hR] at VJ
     rw[hR]
     clear hk1 hk2 hk3 hks hsA hsL hR
     go_enter Tryz.func38,Tryz.ntmps38
     go_wp2_with fail
     try rw[hW]
     refine DV.out.mono ?_
     rintro e w1 ⟨rfl,hI,_⟩
     obtain⟨va,jM,e0,e1,_,_,hb1,hz1,_⟩:=qY.out w1 (by simpa using hI)
     have k1:=aG e0
     have kA:=(hb1.cell (p:=⟨A,0,none⟩) Zq.out.YI.1).trans RB.out
     have Yc:=hid (VJ.out w1 (HSL.out.to (by decide) (R:=fun _=>False) (ak.aA hb1) (fun b hb _=>⟨id,hb⟩) (fun _ _ e=>e.on hb1)))
     have Fw:=hid e1
     have HB1:=hid hb1
     clear hI e0 e1 hb1 DV qY k0 VJ
     go_wp2_with fail
     refine Yc.out.mono ?_
     rintro e w2 ⟨u,rfl,hxu,hb2⟩
     obtain⟨k2,op2,bX,eH,dS,dU,vs2,ys2,dR,dY,dP,gT,rfl,yh⟩:=hxu (fun _=>False)
     have hc2:=(hb2.block (w.heap.size+1) (by omega)).trans Fw.out
     have yM:=hxu (fun _=>False)
     have HZ:=hid (setRow_heap w2 (w.heap.size+1) _ #[.int .i64 k2,.int .i64 op2,.string (aj bX),.string (aj eH),.int .i64 dS,.int .i64 dU,.string (aj vs2),.slice dR dY dP] _ _ hc2)
     have HB2:=hid (cK (HB1.out.trans (hb2.mono HB1.out.size)) (Nat.le_succ w.heap.size) #[.int .i64 k2,.int .i64 op2,.string (aj bX),.string (aj eH),.int .i64 dS,.int .i64 dU,.string (aj vs2),.slice dR dY dP])
     have tN:Hid (gH (fun b=>w.heap.size≤b) (w2.setRow (w.heap.size+1) #[.int .i64 k2,.int .i64 op2,.string (aj bX),.string (aj eH),.int .i64 dS,.int .i64 dU,.string (aj vs2),.slice dR dY dP]) R.1 (.agg #[.int .i64 k2,.int .i64 op2,.string (aj bX),.string (aj eH),.int .i64 dS,.int .i64 dU,.string (aj vs2),.slice dR dY dP])):=hid (yM.to (R:=fun b=>b=w.heap.size+1) (ak.setRow (S:=fun b=>b=w.heap.size+1) (ak.refl _ w2) (p:=w.heap.size+1) (.inl rfl) _) (fun b hb _=>hb.elim))
     clear hb2 Yc k1 kA hxu yM gT yh
     go_wp2_with (first | (refine lC hc2 ?_) | fail)
     exact bodyPost_ret (v:=.tuple #[.agg #[.int .i64 k2,.int .i64 op2,.string (aj bX),.string (aj eH),.int .i64 dS,.int .i64 dU,.string (aj vs2),.slice dR dY dP],.int .i64 R.2.1,.int .i64 R.2.2]) (by simp[results,Tryz.results38,go_sem,aG HZ.out]) rfl ⟨_,rfl,tN.out,HB2.out⟩
    ·rw[if_neg h2]
     have h2':(k==2)=false:=by rw[aai];exact h2
     have hlen3:k=3→(xs.map fun x=>(aI L x).2.1).length=2:=fun e=>by rw[List.length_map];exact hk3 e
     have Vi:=hid hlen3
     clear hk1 hk2 hk3 hks hlen3 h1 h2
     cases hfit:uU k op (xs.map fun x=>(aI L x).2.1) with
     |
      false =>
      rw[if_neg (by simp)]
      go_enter Tryz.func38,Tryz.ntmps38
      go_wp2_with fail
      try rw[hW]
      refine DV.out.mono ?_
      rintro e w1 ⟨rfl,hI,_⟩
      obtain⟨va,jM,e0,e1,_,e3,hb1,hz1,_,hks⟩:=qY.out w1 (by simpa using hI)
      have k1:=aG e0
      have Uh:=hid (uP T _ (.mk k op tb nm ⟨vk,vn,vs⟩ xs) (.agg #[.int .i64 k,.int .i64 op,.string (aj tb),.string (aj nm),.int .i64 vk,.int .i64 vn,.string (aj vs),.slice aa nn cc]) k op tb nm ⟨vk,vn,vs⟩ xs rfl _ jM w1 ⟨k,op,tb,nm,vk,vn,vs,xs,aa,nn,cc,rfl,rfl,HHA.out.to (R:=fun _=>False) (ak.aA hb1) (fun b hb _=>⟨id,hb⟩)⟩ hks Vi.out)
      rw[hfit] at Uh
      have Fw:=hid e1
      have HB1:=hid hb1
      clear hI e0 e1 hb1 DV qY k0 hks
      go_wp2_with fail
      refine Uh.out.mono ?_
      rintro e w2 ⟨rfl,hb2⟩
      have hc2:=(hb2.block (w.heap.size+1) (by omega)).trans Fw.out
      have HB2:=hid (cK (HB1.out.trans (hb2.mono HB1.out.size)) (Nat.le_succ w.heap.size) eT)
      have HZ:=hid (setRow_heap w2 (w.heap.size+1) _ eT _ _ hc2)
      clear hb2 Uh k1 e3
      go_wp2_with (first | (refine lC hc2 ?_) | fail)
      exact bodyPost_ret (v:=.tuple #[.agg eT,.int .i64 0,.int .i64 9]) (by simp[results,Tryz.results38,go_sem,aG HZ.out]) rfl ⟨_,rfl,uY _ _,HB2.out⟩
     |
      true =>
      rw[if_pos rfl]
      go_enter Tryz.func38,Tryz.ntmps38
      go_wp2_with fail
      try rw[hW]
      refine DV.out.mono ?_
      rintro e w1 ⟨rfl,hI,_⟩
      obtain⟨va,jM,e0,e1,e2,e3,hb1,hz1,has,hks⟩:=qY.out w1 (by simpa using hI)
      have k1:=aG e0
      have Uh:=hid (uP T _ (.mk k op tb nm ⟨vk,vn,vs⟩ xs) (.agg #[.int .i64 k,.int .i64 op,.string (aj tb),.string (aj nm),.int .i64 vk,.int .i64 vn,.string (aj vs),.slice aa nn cc]) k op tb nm ⟨vk,vn,vs⟩ xs rfl _ jM w1 ⟨k,op,tb,nm,vk,vn,vs,xs,aa,nn,cc,rfl,rfl,HHA.out.to (R:=fun _=>False) (ak.aA hb1) (fun b hb _=>⟨id,hb⟩)⟩ hks Vi.out)
      rw[hfit] at Uh
      obtain⟨a9,n9,c9,rfl⟩:∃a9 n9 c9,va = .slice a9 n9 c9:=by
       obtain⟨a9,c9,e9,_⟩:=has.form
       exact⟨_,_,_,e9⟩
      have HE0:=hid e0
      have Fw:=hid e1
      have HE2:=hid e2
      have HB1:=hid hb1
      have HAS:=hid has
      clear hI e0 e1 e2 hb1 DV qY k0 hks has
      go_wp2_with fail
      refine Uh.out.mono ?_
      rintro e w2 ⟨rfl,hb2⟩
      have hc2:=(hb2.block (w.heap.size+1) (by omega)).trans Fw.out
      have kk:=aG ((hb2.block w.heap.size (by omega)).trans HE0.out)
      have kv:=(hb2.cell (p:=⟨w.heap.size+2,0,none⟩) (by show w.heap.size+2<_;omega)).trans HE2.out
      have HB2:=hid (cK (HB1.out.trans (hb2.mono HB1.out.size)) (Nat.le_succ w.heap.size) (ZJ k op a9 n9 c9))
      have HZ:=hid (setRow_heap w2 (w.heap.size+1) _ (ZJ k op a9 n9 c9) _ _ hc2)
      have tN:Hid (bA (fun b=>w.heap.size≤b) (w2.setRow (w.heap.size+1) (ZJ k op a9 n9 c9)) (xs.map fun x=>(aI L x).1) (.slice a9 n9 c9)):=hid ((HAS.out.to (T:=fun b=>w.heap.size+4≤b) (R:=fun _=>False) (ak.aA hb2) (fun b hb _=>⟨id,hb⟩)).to (R:=fun b=>b=w.heap.size+1) (ak.setRow (S:=fun b=>b=w.heap.size+1) (ak.refl _ w2) (p:=w.heap.size+1) (.inl rfl) _) (fun b hb _=>⟨by show ¬b=_;omega,by show _≤b;omega⟩))
      clear hb2 Uh k1 e3
      go_wp2_with (first | (refine lC hc2 ?_) | fail)
      exact bodyPost_ret (v:=.tuple #[.agg (ZJ k op a9 n9 c9),.int .i64 1,.int .i64 0]) (by simp[results,Tryz.results38,go_sem,aG HZ.out]) rfl ⟨_,rfl,⟨k,op,[],[],0,0,[],_,a9,n9,c9,rfl,rfl,tN.out⟩,HB2.out⟩
  ·rw[if_pos KV]
   have hF1:(F != 0)=true:=by simpa using KV
   have o9:=hid KV
   clear hk1 hk2 hk3 hks KV
   go_enter Tryz.func38,Tryz.ntmps38
   go_wp2_with fail
   try rw[hW]
   refine DV.out.mono ?_
   rintro e w1 ⟨rfl,_,hI⟩
   obtain⟨i,va,jM,S1,hT,_⟩:=hI o9.out
   have hc2:=(hT.keep (w.heap.size+1,.cells eT 48) (by simp)).1
   have HB2:=hid (cK hT.qJ (Nat.le_succ w.heap.size) eT)
   have HZ:=hid (setRow_heap w1 (w.heap.size+1) _ eT _ _ hc2)
   clear hI hT DV k0
   go_wp2_with (first | (refine lC hc2 ?_) | fail)
   exact bodyPost_ret (v:=.tuple #[.agg eT,.int .i64 0,.int .i64 F]) (by simp[results,Tryz.results38,go_sem,aG HZ.out]) rfl ⟨_,rfl,uY _ _,HB2.out⟩
theorem Gq (x:Ex):((xZ x).2=4)↔aF x=false:=by
 unfold xZ
 cases h:aF x with
 |
  true =>
  rw[if_pos rfl]
  unfold tC
  split
  ·simp
  ·split<;>simp
 | false=>rw[if_neg (by simp)];simp
theorem Gu (w:World) (A B C:Obj):∃W,((w.alloc A).alloc B).alloc C=W∧Below w.heap.size w W∧W.heap.size=w.heap.size+3∧W.heap[w.heap.size]?=some A∧W.heap[w.heap.size+1]?=some B∧W.heap[w.heap.size+2]?=some C:=by
 obtain⟨W1,h1,b1,z1,c1⟩:=aK w A
 obtain⟨W2,h2,b2,z2,c2⟩:=aK W1 B
 obtain⟨W3,h3,b3,z3,c3⟩:=aK W2 C
 have e1:W1.heap.size=w.heap.size+1:=by rw[← h1];simp
 have e2:W2.heap.size=w.heap.size+2:=by rw[← h2];simp[e1]
 have e3:W3.heap.size=w.heap.size+3:=by rw[← h3];simp[e2]
 have b12:=b1.trans (b2.mono b1.size)
 refine ⟨W3,by rw[h1,h2,h3],b12.trans (b3.mono b12.size),e3,?_,?_,?_⟩
 ·exact (b3.block _ (by omega)).trans ((b2.block _ (by omega)).trans c1)
 ·rw[← e1];exact (b3.block _ (by omega)).trans c2
 ·rw[← e2];exact c3
theorem Tryz.sizeFnK:(Tryz.prog.info? 86).map (·.size)=some 1:=by kernel_rfl
theorem jH (S T:Nat→Prop) (L:List Tb) (x:Ex) (lv v:Value) (w:World) (hW:iL w) (hR:mO x) (hx:gH T w x v) (hl:aM 3 fG S w L lv) (hK : ∀t∈L,mR t) (hn:L.length≤100) (hz:aF x=true→pX x≤1000000) :
  Calls Tryz.prog 12 #[lv,v] w fun e w'=>∃u,e = .returned (.tuple #[u,.int .i64 (iP L x).2.1,.int .i64 (iP L x).2.2])∧gH (fun b=>w.heap.size≤b) w' (iP L x).1 u∧Below w.heap.size w w':=by
 have hx0:=hx
 obtain⟨k,op,tb,nm,vk,vn,vs,ys,aa,nn,cc,he,rfl,ha⟩:=hx
 obtain⟨la,ln,lc,rfl⟩:∃a n c,lv = .slice a n c:=by
  obtain⟨a,c,e⟩:=hl.form
  exact⟨_,_,_,e⟩
 obtain⟨W,hW3,hbW,aJ,hc0,hc1,hc2⟩:=Gu w (.cells #[.slice la ln lc] 22) (.cells #[.int .i64 k,.int .i64 op,.string (aj tb),.string (aj nm),.int .i64 vk,.int .i64 vn,.string (aj vs),.slice aa nn cc] 48) (.cells eT 48)
 have k1:=aG hc1
 have HX:=hid hx0
 have HP:=hid (zy T x _ W (hW.on hbW) hR (hx0.new hbW) hz)
 have dI:=hid hc0
 have dB:=hid hc1
 have jr:=hid hc2
 have HB:=hid hbW
 have HL:=hid hl
 have HK:=hid hK
 have h4:=Gq x
 generalize (xZ x).2=c at HP h4
 generalize aj (xZ x).1=sx at HP
 unfold iP
 clear hc0 hc1 hc2 hbW hx0 he ha hR hz hl hW hK
 cases hr:aF x with
 |
  false =>
  obtain rfl:=h4.2 hr
  rw[if_neg (by simp)]
  clear h4 hr
  go_enter Tryz.func12,Tryz.ntmps12
  go_wp2_with fail
  try rw[hW3]
  refine HP.out.mono ?_
  rintro e w1 ⟨rfl,hb1⟩
  have hcz:=(hb1.block (w.heap.size+2) (by omega)).trans jr.out
  have HB1:=HB.out.trans (hb1.mono HB.out.size)
  have HB2:=hid (cK HB1 (Nat.le_add_right w.heap.size 2) eT)
  have HZ:=hid (setRow_heap w1 (w.heap.size+2) _ eT _ _ hcz)
  clear hb1 HP HB1 k1
  go_wp2_with (first | (refine lC hcz ?_) | fail)
  exact bodyPost_ret (v:=.tuple #[.agg eT,.int .i64 0,.int .i64 4]) (by simp[results,Tryz.results12,go_sem,aG HZ.out]) rfl ⟨_,rfl,uY _ _,HB2.out⟩
 |
  true =>
  have hc4:(c==4)=false:=by
   rw[aai]
   intro e
   rw[h4.1 e] at hr
   cases hr
  rw[if_pos rfl]
  have Z0:=hid (Ic L (SizeOf.sizeOf x+1) x (Nat.lt_succ_self _) hr)
  clear h4 hr
  obtain⟨R,hR⟩:∃R,aI L x=R:=⟨_,rfl⟩
  rw[hR]
  have HRR:=hid hR
  clear hR
  go_enter Tryz.func12,Tryz.ntmps12
  go_wp2_with fail
  try rw[hW3]
  refine HP.out.mono ?_
  rintro e w1 ⟨rfl,hb1⟩
  obtain⟨Y,hY,bV,kL,dJ⟩:=aK w1 (.cells #[ZN w.heap.size w1.heap.size] 86)
  have hs1:=hb1.size
  have HB1:=htr HB hb1
  have bZ:=htr HB1 bV
  have hcA:=(bV.block w.heap.size (by omega)).trans ((hb1.block w.heap.size (by omega)).trans dI.out)
  have hcE:=(bV.block (w.heap.size+1) (by omega)).trans ((hb1.block (w.heap.size+1) (by omega)).trans dB.out)
  have p9:=hid ((bV.block (w.heap.size+2) (by omega)).trans ((hb1.block (w.heap.size+2) (by omega)).trans jr.out))
  have kE:=aG hcE
  have kF:Y.cell? ⟨w1.heap.size,0,none⟩=some (ZN w.heap.size w1.heap.size):=by rw[aB _ _ _ _ _ _ dJ];rfl
  have Zj:JK Y w.heap.size w1.heap.size S L:=⟨⟨_,by rw[aB _ _ _ _ _ _ hcA];rfl,HL.out.to (by decide) (R:=fun _=>False) (ak.aA bZ.out) (fun b hb _=>⟨id,hb⟩) (fun _ _ e=>e.on bZ.out)⟩,kF,⟨by omega,kL⟩,HK.out,hn⟩
  have SY:=hid (HX.out.to (T:=T) (R:=fun _=>False) (ak.aA bZ.out) (fun b hb _=>⟨id,hb⟩))
  have nP:=hid (Z0.out S T w.heap.size w1.heap.size Y _ SY.out Zj)
  rw[HRR.out] at nP
  clear hb1 HP bV dJ hcA hcE Zj k1 Z0
  go_wp2_with (first | (refine wpList_store_oneTo rfl 86 (.tmp 9) (.tmp 18) rfl rfl w1.heap.size (ZN w.heap.size w1.heap.size) rfl rfl rfl 86 _ (heap_alloc_new w1 _) Tryz.sizeFnK ?_;rw[bW,hY];clear hY) | fail)
  refine nP.out.mono ?_
  rintro e w2 ⟨u,rfl,hxu,hb2⟩
  have yM:=hxu
  obtain⟨k2,op2,bX,eH,dS,dU,vs2,ys2,dR,dY,dP,gT,rfl,yh⟩:=hxu
  have hcz:=(hb2.block (w.heap.size+2) (by omega)).trans p9.out
  have HZ:=hid (setRow_heap w2 (w.heap.size+2) _ #[.int .i64 k2,.int .i64 op2,.string (aj bX),.string (aj eH),.int .i64 dS,.int .i64 dU,.string (aj vs2),.slice dR dY dP] _ _ hcz)
  have HB2:=hid (cK (bZ.out.trans (hb2.mono bZ.out.size)) (Nat.le_add_right w.heap.size 2) #[.int .i64 k2,.int .i64 op2,.string (aj bX),.string (aj eH),.int .i64 dS,.int .i64 dU,.string (aj vs2),.slice dR dY dP])
  have tN:Hid (gH (fun b=>w.heap.size≤b) (w2.setRow (w.heap.size+2) #[.int .i64 k2,.int .i64 op2,.string (aj bX),.string (aj eH),.int .i64 dS,.int .i64 dU,.string (aj vs2),.slice dR dY dP]) R.1 (.agg #[.int .i64 k2,.int .i64 op2,.string (aj bX),.string (aj eH),.int .i64 dS,.int .i64 dU,.string (aj vs2),.slice dR dY dP])):=hid (yM.to (R:=fun b=>b=w.heap.size+2) (ak.setRow (S:=fun b=>b=w.heap.size+2) (ak.refl _ w2) (p:=w.heap.size+2) (.inl rfl) _) (fun b hb _=>⟨by show ¬b=_;omega,by show _≤b;omega⟩))
  clear hb2 nP yM gT yh kE kF
  go_wp2_with (first | (refine lC hcz ?_) | fail)
  exact bodyPost_ret (v:=.tuple #[.agg #[.int .i64 k2,.int .i64 op2,.string (aj bX),.string (aj eH),.int .i64 dS,.int .i64 dU,.string (aj vs2),.slice dR dY dP],.int .i64 R.2.1,.int .i64 R.2.2]) (by simp[results,Tryz.results12,go_sem,aG HZ.out]) rfl ⟨_,rfl,tN.out,HB2.out⟩
theorem pQ (S:Nat→Prop) (fr:Nat) (pre post:Array Value) (eg : ∀args w,(callFunc fr args).run Tryz.prog w = .ok (.enter fr args) w) (f:Ex→Int) (xs:List (Ex)) (v:Value) (w:World) (hv:aM 8 jl S w xs v)
  (HF:Hid (∀x∈xs,∀V,Below w.heap.size w V→∀ds,jl S V x ds→Calls Tryz.prog fr (pre++#[.agg ds.toArray]++post) V fun e w'=>e = .returned (.int .i64 (f x))∧Below V.heap.size V w')) :
  Calls Tryz.prog 23 #[v,.func (.func fr) pre post] w fun e w'=>e = .returned (.int .i64 (aO (xs.map f)))∧Below w.heap.size w w':=by
 refine (rz S fr pre post eg (fun _ V=>Below w.heap.size w V) (fun V=>Below w.heap.size w V) xs (xs.map f) v w (by simp) (Below.refl _ _)
  (hid fun i V hb=>hv.to (by decide) (R:=fun _=>False) (ak.aA hb) (fun b hb _=>⟨id,hb⟩) (fun _ _ e=>e.to (R:=fun _=>False) (ak.aA hb) (fun b hb _=>⟨id,hb⟩)))
  (hid fun i V U h hb=>h.trans (hb.mono h.size))
  (hid fun i x c hx hc V hV ds hds=>(HF.out x (aaP hx) V hV ds hds).mono ?_)).mono ?_
 ·rintro e w' ⟨rfl,hb⟩
  rw[List.getElem?_map,hx] at hc
  obtain rfl:f x=c:=by simpa using hc
  exact⟨rfl,fun _=>hV.trans (hb.mono hV.size),fun _=>hV.trans (hb.mono hV.size)⟩
 ·rintro e w' ⟨rfl,h1,h2⟩
  refine ⟨rfl,?_⟩
  by_cases h:aO (xs.map f)=0
  ·exact h1 h
  ·exact h2 h
theorem Dk (S:Nat→Prop) (fr:Nat) (pre post:Array Value) (eg : ∀args w,(callFunc fr args).run Tryz.prog w = .ok (.enter fr args) w) (f:It→Int) (xs:List (It)) (v:Value) (w:World) (hv:aM 2 vY S w xs v)
  (HF:Hid (∀x∈xs,∀V,Below w.heap.size w V→∀ds,vY S V x ds→Calls Tryz.prog fr (pre++#[.agg ds.toArray]++post) V fun e w'=>e = .returned (.int .i64 (f x))∧Below V.heap.size V w')) :
  Calls Tryz.prog 63 #[v,.func (.func fr) pre post] w fun e w'=>e = .returned (.int .i64 (aO (xs.map f)))∧Below w.heap.size w w':=by
 refine (Gd S fr pre post eg (fun _ V=>Below w.heap.size w V) (fun V=>Below w.heap.size w V) xs (xs.map f) v w (by simp) (Below.refl _ _)
  (hid fun i V hb=>hv.to (by decide) (R:=fun _=>False) (ak.aA hb) (fun b hb _=>⟨id,hb⟩) (fun _ _ e=>e.to (R:=fun _=>False) (ak.aA hb) (fun b hb _=>⟨id,hb⟩)))
  (hid fun i V U h hb=>h.trans (hb.mono h.size))
  (hid fun i x c hx hc V hV ds hds=>(HF.out x (aaP hx) V hV ds hds).mono ?_)).mono ?_
 ·rintro e w' ⟨rfl,hb⟩
  rw[List.getElem?_map,hx] at hc
  obtain rfl:f x=c:=by simpa using hc
  exact⟨rfl,fun _=>hV.trans (hb.mono hV.size),fun _=>hV.trans (hb.mono hV.size)⟩
 ·rintro e w' ⟨rfl,h1,h2⟩
  refine ⟨rfl,?_⟩
  by_cases h:aO (xs.map f)=0
  ·exact h1 h
  ·exact h2 h
theorem Eu (S:Nat→Prop) (fr:Nat) (pre post:Array Value) (eg : ∀args w,(callFunc fr args).run Tryz.prog w = .ok (.enter fr args) w) (f:List Vl→Int) (xs:List (List Vl)) (v:Value) (w:World) (hv:aM 1 Cw S w xs v)
  (HF:Hid (∀x∈xs,∀V,Below w.heap.size w V→∀ds,Cw S V x ds→Calls Tryz.prog fr (pre++#[(ds.headD undef)]++post) V fun e w'=>e = .returned (.int .i64 (f x))∧Below V.heap.size V w')) :
  Calls Tryz.prog 52 #[v,.func (.func fr) pre post] w fun e w'=>e = .returned (.int .i64 (aO (xs.map f)))∧Below w.heap.size w w':=by
 refine (Gf S fr pre post eg (fun _ V=>Below w.heap.size w V) (fun V=>Below w.heap.size w V) xs (xs.map f) v w (by simp) (Below.refl _ _)
  (hid fun i V hb=>hv.to (by decide) (R:=fun _=>False) (ak.aA hb) (fun b hb _=>⟨id,hb⟩) (fun _ _ e=>e.to (R:=fun _=>False) (ak.aA hb) (fun b hb _=>⟨id,hb⟩)))
  (hid fun i V U h hb=>h.trans (hb.mono h.size))
  (hid fun i x c hx hc V hV ds hds=>(HF.out x (aaP hx) V hV ds hds).mono ?_)).mono ?_
 ·rintro e w' ⟨rfl,hb⟩
  rw[List.getElem?_map,hx] at hc
  obtain rfl:f x=c:=by simpa using hc
  exact⟨rfl,fun _=>hV.trans (hb.mono hV.size),fun _=>hV.trans (hb.mono hV.size)⟩
 ·rintro e w' ⟨rfl,h1,h2⟩
  refine ⟨rfl,?_⟩
  by_cases h:aO (xs.map f)=0
  ·exact h1 h
  ·exact h2 h
def gW (x:Ex):Prop:=aF x=true∧mO x∧pX x≤1000000
theorem JA (S T:Nat→Prop) (L:List Tb) (x:Ex) (v sv:Value) (b:Nat) (w:World) (hW:iL w) (hg:gW x) (hx:gH T w x v) (hb:w.cell? ⟨b,0,none⟩=some sv) (hb2:b<w.heap.size) (hl:aM 3 fG S w L sv) (hK : ∀t∈L,mR t) (hn:L.length≤100) :
  Calls Tryz.prog 58 #[v,.pointer (some ⟨b,0,none⟩)] w fun e w'=>e = .returned (.int .i64 (sS L x))∧Below w.heap.size w w':=by
 have hx0:=hx
 obtain⟨k,op,tb,nm,vk,vn,vs,ys,aa,nn,cc,he,rfl,ha⟩:=hx
 obtain⟨la,ln,lc,rfl⟩:∃a n c,sv = .slice a n c:=by
  obtain⟨a,c,e⟩:=hl.form
  exact⟨_,_,_,e⟩
 obtain⟨W,gI,hbW,aJ,hcW⟩:=aK w (.cells #[.int .i64 k,.int .i64 op,.string (aj tb),.string (aj nm),.int .i64 vk,.int .i64 vn,.string (aj vs),.slice aa nn cc] 48)
 have k0:=aG hcW
 have kb:=(hbW.cell (p:=⟨b,0,none⟩) hb2).trans hb
 have kJ:=hid (jH S T L x (.slice la ln lc) _ W (hW.on hbW) hg.2.1 (hx0.new hbW) (hl.to (by decide) (R:=fun _=>False) (ak.aA hbW) (fun b hb _=>⟨id,hb⟩) (fun _ _ e=>e.on hbW)) hK hn (fun _=>hg.2.2))
 have hT:iP L x=aI L x:=by unfold iP;rw[if_pos hg.1]
 rw[hT] at kJ
 have HB:=hid hbW
 unfold sS
 generalize aI L x=R at kJ ⊢
 obtain⟨X,kk,c⟩:=R
 dsimp only at kJ ⊢
 clear hbW hcW hx0 he ha hb hl hK hg hT hW
 by_cases hc:c=0
 ·subst hc
  by_cases hk:kk=2
  ·subst hk
   rw[if_pos ⟨rfl,rfl⟩]
   go_enter Tryz.func58,Tryz.ntmps58
   go_wp2_with fail
   try rw[gI]
   refine kJ.out.mono ?_
   rintro e w1 ⟨u,rfl,hxu,hb1⟩
   obtain⟨k2,op2,bX,eH,dS,dU,vs2,ys2,dR,dY,dP,_,rfl,_⟩:=hxu
   obtain⟨Y,hY,bV,kL,dJ⟩:=aK w1 (.cells #[.int .i64 k2,.int .i64 op2,.string (aj bX),.string (aj eH),.int .i64 dS,.int .i64 dU,.string (aj vs2),.slice dR dY dP] 48)
   have HB1:=HB.out.trans (hb1.mono HB.out.size)
   have bZ:=hid (HB1.trans (bV.mono HB1.size))
   clear hb1 bV dJ HB1 kJ k0 kb
   go_wp2_with (first | (refine eX hY ?_;clear hY) | fail)
   go_ret
   exact⟨rfl,bZ.out⟩
  ·rw[if_neg (fun h=>hk h.2)]
   have hk':(kk==2)=false:=by rw[aai];exact hk
   clear hk
   go_enter Tryz.func58,Tryz.ntmps58
   go_wp2_with fail
   try rw[gI]
   refine kJ.out.mono ?_
   rintro e w1 ⟨u,rfl,hxu,hb1⟩
   obtain⟨k2,op2,bX,eH,dS,dU,vs2,ys2,dR,dY,dP,_,rfl,_⟩:=hxu
   obtain⟨Y,hY,bV,kL,dJ⟩:=aK w1 (.cells #[.int .i64 k2,.int .i64 op2,.string (aj bX),.string (aj eH),.int .i64 dS,.int .i64 dU,.string (aj vs2),.slice dR dY dP] 48)
   have HB1:=HB.out.trans (hb1.mono HB.out.size)
   have bZ:=hid (HB1.trans (bV.mono HB1.size))
   clear hb1 bV dJ HB1 kJ k0 kb
   go_wp2_with (first | (refine eX hY ?_;clear hY) | fail)
   go_ret
   exact⟨rfl,bZ.out⟩
 ·rw[if_neg (fun h=>hc h.1)]
  have hc':(c==0)=false:=by rw[aai];exact hc
  clear hc
  go_enter Tryz.func58,Tryz.ntmps58
  go_wp2_with fail
  try rw[gI]
  refine kJ.out.mono ?_
  rintro e w1 ⟨u,rfl,hxu,hb1⟩
  obtain⟨k2,op2,bX,eH,dS,dU,vs2,ys2,dR,dY,dP,_,rfl,_⟩:=hxu
  obtain⟨Y,hY,bV,kL,dJ⟩:=aK w1 (.cells #[.int .i64 k2,.int .i64 op2,.string (aj bX),.string (aj eH),.int .i64 dS,.int .i64 dU,.string (aj vs2),.slice dR dY dP] 48)
  have HB1:=HB.out.trans (hb1.mono HB.out.size)
  have bZ:=hid (HB1.trans (bV.mono HB1.size))
  clear hb1 bV dJ HB1 kJ k0 kb
  go_wp2_with (first | (refine eX hY ?_;clear hY) | fail)
  go_ret
  exact⟨rfl,bZ.out⟩
theorem yD (a:Option Addr) (n c:Nat) (w:World):Calls Tryz.prog 24 #[.slice a n c] w fun e w'=>e = .returned (.func (.func 58) #[] #[.pointer (some ⟨w.heap.size,0,none⟩)])∧w'.heap[w.heap.size]?=some (.cells #[.slice a n c] 22)∧Below w.heap.size w w':=by
 obtain⟨W,gI,hbW,aJ,hcW⟩:=aK w (.cells #[.slice a n c] 22)
 have HB:=hid hbW
 have HC:=hid hcW
 clear hbW hcW
 go_enter Tryz.func24,Tryz.ntmps24
 go_wp2_with fail
 try rw[gI]
 go_ret
 exact⟨rfl,HC.out,HB.out⟩
theorem tZ (S T:Nat→Prop) (L:List Tb) (xs:List Ex) (v sv:Value) (b:Nat) (w:World) (hW:iL w) (hg : ∀x∈xs,gW x) (hx:aM 8 jl T w xs v) (hb:w.cell? ⟨b,0,none⟩=some sv) (hb2:b<w.heap.size) (hl:aM 3 fG S w L sv) (hK : ∀t∈L,mR t) (hn:L.length≤100) :
  Calls Tryz.prog 23 #[v,.func (.func 58) #[] #[.pointer (some ⟨b,0,none⟩)]] w fun e w'=>e = .returned (.int .i64 (fE L xs))∧Below w.heap.size w w' :=
 pQ T 58 #[] #[.pointer (some ⟨b,0,none⟩)] (enters_of Tryz.func58 (by kernel_rfl) rfl) (sS L) xs v w hx
  (hid fun x hxm V hV ds hds=>JA S T L x _ sv b V (hW.on hV) (hg x hxm) hds.v ((hV.cell (p:=⟨b,0,none⟩) hb2).trans hb) (aa7 hb2 hV.size) (hl.to (by decide) (R:=fun _=>False) (ak.aA hV) (fun b hb _=>⟨id,hb⟩) (fun _ _ e=>e.on hV)) hK hn)
theorem oL {t:Tb} {r:List Vl} (hl:r.length=t.aC.length):oD t r=true↔∀(i:Nat) (v:Vl) (c:Co),r[i]?=some v→t.aC[i]?=some c→v.k=0∨v.k=c.k:=by
 unfold oD
 rw[List.all_eq_true]
 constructor
 ·intro h i v c hv hc
  have:=h (v,c) (by
   rw[List.mem_iff_getElem?]
   exact⟨i,by rw[List.getElem?_zip_eq_some];exact⟨hv,hc⟩⟩)
  simpa using this
 ·rintro h ⟨v,c⟩ hm
  obtain⟨i,hi⟩:=List.mem_iff_getElem?.1 hm
  rw[List.getElem?_zip_eq_some] at hi
  simpa using h i v c hi.1 hi.2
theorem DZ (S T:Nat→Prop) (t:Tb) (r:List Vl) (v:Value) (cs:List Value) (b:Nat) (w:World) (hr:aM 3 Ib T w r v) (ht:fG S w t cs) (hc:w.heap[b]?=some (.cells cs.toArray 42)) (hK:mR t) :
  Calls Tryz.prog 53 #[v,.pointer (some ⟨b,0,none⟩)] w fun e w'=>e = .returned (.int .i64 (qW t r))∧Below w.heap.size w w':=by
 obtain⟨a2,n2,c2,rfl,hsl⟩:=ht
 have hn2:n2=t.aC.length:=by obtain⟨_,_,hf⟩:=hsl.form;simp only[aah] at hf;exact hf.2.1
 subst hn2
 have HR:=hid hr
 obtain⟨aa,cc,css,rfl,h1,h2,_⟩:=hr
 unfold maxLen at h2
 have k0:=aH hc
 have HC:=hid hc
 have HSL:=hid hsl
 have hb:=World.lt_of_block hc
 clear hc hsl
 unfold qW
 by_cases hl:r.length=t.aC.length
 ·rw[if_neg (fun h=>h hl)]
  have hli:(((r.length:Nat):Int)==(t.aC.length:Int))=true:=by rw[beq_iff_eq];omega
  have hne:(((r.length:Nat):Int) != (t.aC.length:Int))=false:=by rw[bne,hli];rfl
  obtain⟨R,hR⟩:∃R,(if oD t r=true then (0:Int) else 9)=R:=⟨_,rfl⟩
  rw[hR]
  have HRR:=hid hR
  have HL:=hid hl
  clear hR hl
  go_enter Tryz.func53,Tryz.ntmps53
  go_wp2_with fail
  go_loopw [4,5,14] (fun _ _ i wr=>∃(m:Nat),m≤r.length∧i = .int .i64 m∧Hid (Below w.heap.size w wr)∧Hid (∀(j:Nat) (v:Vl) (c:Co),j<m→r[j]?=some v→t.aC[j]?=some c→v.k=0∨v.k=c.k)) (fun _ _ i _=>r.length-(intOf i).toNat)
  case atStart=>exact⟨0,aaV _,rfl,hid (Below.refl _ _),hid (fun j v c h=>absurd h (Nat.not_lt_zero _))⟩
  case round =>
   obtain⟨m,hm,rfl,HB,HQ⟩:=hrel
   by_cases hlt:m<r.length
   ·obtain⟨x,hx⟩:∃x,r[m]?=some x:=⟨_,aaf hlt⟩
    obtain⟨y,hy⟩:∃y,t.aC[m]?=some y:=⟨_,aaf (by have:=HL.out;omega)⟩
    have hlt':((m:Int)<(r.length:Int)):=by omega
    have aaT:((m:Int)<(t.aC.length:Int)):=by have:=HL.out;omega
    obtain⟨_,_,_,b1,o1,d1,rfl,_,hx1,g1⟩:=bC (HR.out.to (T:=T) (by decide) (R:=fun _=>False) (ak.aA HB.out) (fun b hb _=>⟨id,hb⟩) (fun _ _ e=>e)) hx
    obtain rfl:d1=[.int .i64 x.k,.int .i64 x.n,.string (aj x.s)]:=hx1
    have q0:=g1 0 _ rfl
    have q1:=g1 1 _ rfl
    have q2:=g1 2 _ rfl
    simp only[aa2] at q0
    obtain⟨_,_,_,b2,o2,d2,rfl,_,hy1,g2⟩:=bC (HSL.out.to (T:=S) (by decide) (R:=fun _=>False) (ak.aA HB.out) (fun b hb _=>⟨id,hb⟩) (fun _ _ e=>e)) hy
    obtain rfl:d2=[.string (aj y.nm),.int .i64 y.k,.bool y.nn,.bool y.uq]:=hy1
    have p1:=g2 1 _ rfl
    have hb2:=World.block_lt_of_cell? wr _ p1
    obtain⟨U,hU,bB,jc,eU⟩:=aK wr (.cells #[.int .i64 x.k,.int .i64 x.n,.string (aj x.s)] 46)
    have kU:=aH eU
    have kT:=aH ((bB.block b (aa7 hb HB.out.size)).trans ((HB.out.block b hb).trans HC.out))
    have pU:=(bB.cell (p:=⟨b2,_,none⟩) hb2).trans p1
    have bS:=htr HB bB
    have ES:Hid (x.k=0∨x.k=y.k→∀(j:Nat) (v:Vl) (c:Co),j<m+1→r[j]?=some v→t.aC[j]?=some c→v.k=0∨v.k=c.k):=hid (fun hh j v c hj hv hc=>by
     rcases Nat.lt_or_ge j m with h | h
     ·exact HQ.out j v c h hv hc
     ·obtain rfl:j=m:=by omega
      rw[hx] at hv
      rw[hy] at hc
      cases hv;cases hc
      exact hh)
    have HBAD:Hid (¬(x.k=0∨x.k=y.k)→R=9):=hid (fun hh=>by rw[← HRR.out,if_neg (fun h=>hh ((oL HL.out).1 h m x y hx hy))])
    clear g1 g2 bB eU p1 hx hy HB HQ
    by_cases hz:x.k=0
    ·have hz1:(x.k != 0)=false:=by simp[hz]
     have hz2:(x.k==0)=true:=by simp[hz]
     have dA:=hid (ES.out (.inl hz))
     clear ES HBAD hz
     go_wp2_with (first | (refine eX hU ?_;clear hU) | fail)
     go_quiet (fail)
     have HB3:=hid (below_drewN bS.out nq)
     go_wp2_with fail
     go_roundw
     case rel=>exact⟨m+1,by omega,by go_num,HB3,dA⟩
     case measure=>simp[intOf];omega
    ·have hz1:(x.k != 0)=true:=by simpa using hz
     have hz2:(x.k==0)=false:=by simpa using hz
     by_cases he:x.k=y.k
     ·have he1:(x.k != y.k)=false:=by simp[he]
      have he2:(x.k==y.k)=true:=by simp[he]
      have dA:=hid (ES.out (.inr he))
      clear ES HBAD hz he
      go_wp2_with (first | (refine eX hU ?_;clear hU) | fail)
      go_quiet (fail)
      have HB3:=hid (below_drewN bS.out nq)
      go_wp2_with fail
      go_roundw
      case rel=>exact⟨m+1,by omega,by go_num,HB3,dA⟩
      case measure=>simp[intOf];omega
     ·have he1:(x.k != y.k)=true:=by simpa using he
      have he2:(x.k==y.k)=false:=by simpa using he
      have HR9:=hid (HBAD.out (fun h=>h.elim hz he))
      clear ES HBAD hz he
      go_wp2_with (first | (refine eX hU ?_;clear hU) | fail)
      go_quiet (fail)
      have HB3:=hid (below_drewN bS.out nq)
      go_wp2_with fail
      go_ret
      exact⟨by rw[HR9.out];rfl,HB3.out⟩
   ·have hlt' : ¬((m:Int)<(r.length:Int)):=by omega
    have Iu:Hid (R=0):=hid (by rw[← HRR.out,if_pos ((oL HL.out).2 (fun i v c hv hc=>HQ.out i v c (by have:=(aam.1 hv).1;omega) hv hc))])
    clear HQ
    go_wp2_with fail
    go_ret
    exact⟨by rw[Iu.out];rfl,HB.out⟩
 ·rw[if_pos hl]
  have hne:(((r.length:Nat):Int) != (t.aC.length:Int))=true:=by rw[bne_iff_ne];omega
  have hli:(((r.length:Nat):Int)==(t.aC.length:Int))=false:=by rw[aai];omega
  clear hl
  go_enter Tryz.func53,Tryz.ntmps53
  go_wp2_with fail
  go_ret
  exact⟨rfl,Below.refl _ _⟩
theorem E9 (S T:Nat→Prop) (t:Tb) (rows:List (List Vl)) (v:Value) (cs:List Value) (w:World) (hr:aM 1 Cw T w rows v) (ht:fG S w t cs) (hK:mR t) :
  Calls Tryz.prog 21 #[.agg cs.toArray,v] w fun e w'=>e = .returned (.int .i64 (oh t rows))∧Below w.heap.size w w':=by
 have ht0:=ht
 obtain⟨a2,n2,c2,rfl,hsl⟩:=ht
 obtain⟨W,gI,hbW,aJ,hcW⟩:=aK w (.cells #[.string (aj t.nm),.slice a2 n2 c2,.int .i64 t.pr] 42)
 have HE:=hid (Eu T 53 #[] #[.pointer (some ⟨w.heap.size,0,none⟩)] (enters_of Tryz.func53 (by kernel_rfl) rfl) (qW t) rows v W (hr.to (by decide) (R:=fun _=>False) (ak.aA hbW) (fun b hb _=>⟨id,hb⟩) (fun _ _ e=>e.to (R:=fun _=>False) (ak.aA hbW) (fun b hb _=>⟨id,hb⟩)))
  (hid fun r hrm V hV ds hds=>by
   obtain⟨aa,nn,cc,rfl,hs⟩:=hds
   exact DZ S T t r _ _ w.heap.size V hs ((ht0.on hbW).on hV) ((hV.block _ aJ).trans hcW) hK))
 have HB:=hid hbW
 unfold oh
 generalize aO (rows.map (qW t))=R at HE ⊢
 obtain⟨va,vc,rfl⟩:∃a c,v = .slice a rows.length c:=hr.form
 clear hbW hcW ht0 hsl hr
 go_enter Tryz.func21,Tryz.ntmps21
 go_wp2_with fail
 try rw[gI]
 refine HE.out.mono ?_
 rintro e w1 ⟨rfl,hb1⟩
 have HB1:=htr HB hb1
 clear hb1 HE
 go_wp2_with fail
 go_ret
 exact⟨rfl,HB1.out⟩
end Go.Proofs.YtfeglkleoijlaaaGreatDoor
