/- Packed for the hand-in: PState -/
import Derived.Test.YtaaggohjmhifbaaGreatDoorP29
import Derived.Deep.Cut
namespace Go.Proofs.YtaaggohjmhifbaaGreatDoor
open Go.RowKit Go.Shelf
set_option linter.unusedSimpArgs false
set_option linter.unusedVariables false
set_option maxRecDepth 20000
set_option maxHeartbeats 8000000
theorem Tryz.stmInfo:(Tryz.prog.info? 28).map (·.size)=some 14:=by kernel_rfl
theorem Tryz.stmFields:Tryz.prog.underlying 28=some (.struct (Tryz.prog.fieldsOf 28)):=by kernel_rfl
theorem create_self (q:Rd):{ zSt 1 with tb:=(createP q).1.tb,cols:=(createP q).1.cols,prim:=(createP q).1.prim } = (createP q).1:=by rw[create_eq]
theorem insert_self (q:Rd):{ zSt 3 with tb:=(insertP q).1.tb,rows:=(insertP q).1.rows } = (insertP q).1:=by rw[insert_eq]
theorem update_self (ex:Pa Ex) (q:Rd):{ zSt 4 with tb:=(updateP ex q).1.tb,sets:=(updateP ex q).1.sets,wh:=(updateP ex q).1.wh } = (updateP ex q).1:=by rw[update_eq]
theorem drop_eq (r:Rd):dropP r=({ zSt 2 with tb:=(nameP (mustsP [[84,65,66,76,69]] r).2).1 },(nameP (mustsP [[84,65,66,76,69]] r).2).2):=by
 simp only[musts_one]
 rfl
theorem delete_eq (ex:Pa Ex) (r:Rd):deleteP ex r=({ zSt 5 with tb:=(nameP (mustsP [[70,82,79,77]] r).2).1,wh:=(partP ex [87,72,69,82,69] [] (nameP (mustsP [[70,82,79,77]] r).2).2).1 },(partP ex [87,72,69,82,69] [] (nameP (mustsP [[70,82,79,77]] r).2).2).2):=by
 simp only[musts_one]
 rfl
theorem state_at (ex:Pa Ex) {r q:Rd} {k:Int} (h:chooseP statesB r=(k,q)):stateP ex r=(if k=1 then createP else if k=2 then dropP else if k=3 then insertP else if k=4 then updateP ex else if k=5 then deleteP ex else if k=6 then selectP ex else bindP (failP 4) fun _=>retP (zSt k)) q:=by
 unfold stateP bindP
 rw[h]
theorem one14 (k l:Int) (s1 s2 s3:ByteArray) (d:Bool) (a1 a2 a3 a4 a5 a6 a7 a8:Option Addr) (m1 m2 m3 m4 m5 m6 m7 m8 c1 c2 c3 c4 c5 c6 c7 c8:Nat) :
  ([.int .i64 k,.string s1,.slice a1 m1 c1,.string s2,.slice a2 m2 c2,.slice a3 m3 c3,.slice a4 m4 c4,.string s3,.slice a5 m5 c5,.slice a6 m6 c6,.slice a7 m7 c7,.slice a8 m8 c8,.bool d,.int .i64 l]:List Value).toArray.all (·.oneCell')=true:=by
 simp[Value.oneCell']
theorem st_done {F g sb:Nat} {w W:World} {r:Rd} {x:St} {old:Array Value} (hS:StB W sb x) (hR:RdAt F W g r) (hF:Fr2 g sb w W) (hB:W.heap[w.heap.size]?=some (.cells old 28)) (ho:old.size=14) (hg:g<w.heap.size) (hsb:w.heap.size<sb) :
  ∃
   cs:List Value,W.heap[sb]?=some (.cells cs.toArray 28)∧cs.toArray.size=14∧cs.toArray.all (·.oneCell')=true∧(W.setRow w.heap.size cs.toArray).heap[w.heap.size]?=some (.cells cs.toArray 28) ∧
   StE (fun b=>w.heap.size≤b) (W.setRow w.heap.size cs.toArray) x cs∧RdAt F (W.setRow w.heap.size cs.toArray) g r∧Fr g w (W.setRow w.heap.size cs.toArray):=by
 obtain⟨cs,h1,h2⟩:=hS
 have h2':=h2
 obtain⟨a1,a2,a3,a4,a5,a6,a7,a8,m1,m2,m3,m4,m5,m6,m7,m8,c1,c2,c3,c4,c5,c6,c7,c8,rfl,_⟩:=h2'
 have hs:=Spares.setRow (S:=fun k=>k=w.heap.size) (Spares.refl _ W) (p:=w.heap.size) (.inl rfl) ([.int .i64 x.k,.string (str8 x.tb),.slice a1 m1 c1,.string (str8 x.prim),.slice a2 m2 c2,.slice a3 m3 c3,.slice a4 m4 c4,.string (str8 x.jn),.slice a5 m5 c5,.slice a6 m6 c6,.slice a7 m7 c7,.slice a8 m8 c8,.bool x.desc,.int .i64 x.lim]:List Value).toArray
 refine ⟨_,h1,rfl,one14 _ _ _ _ _ _ _ _ _ _ _ _ _ _ _ _ _ _ _ _ _ _ _ _ _ _ _ _ _ _,setRow_heap W w.heap.size old _ _ _ hB,h2.to hs (fun b hb _=>⟨by omega,by omega⟩),hR.keeps hs (fun i hi e=>by omega),?_⟩
 refine ⟨hF.os,hF.tape,hF.output,by simpa using hF.size,fun k hk hne=>?_⟩
 rw[setRow_other _ _ _ _ (by omega)]
 exact hF.block k hk (fun e=>by rcases e with e | e;exact hne e;omega)
theorem state_any (F:Nat) (ex:Pa Ex) (hx:RdsE F D0 116 ex) (hN:Nice false F ex):RdsX F StE 65 (stateP ex):=fun g r w h hD=>by
 have hgw:=h.lt
 have hG:=h.good
 obtain⟨W1,hW1,hbW1,hzW1,hcA,hcB⟩:=two w (.cells #[.int .i64 0,.string ⟨#[]⟩,.slice none 0 0,.string ⟨#[]⟩,.slice none 0 0,.slice none 0 0,.slice none 0 0,.string ⟨#[]⟩,.slice none 0 0,.slice none 0 0,.slice none 0 0,.slice none 0 0,.bool false,.int .i64 0] 28) (.cells #[.int .i64 0,.string ⟨#[]⟩,.slice none 0 0,.string ⟨#[]⟩,.slice none 0 0,.slice none 0 0,.slice none 0 0,.string ⟨#[]⟩,.slice none 0 0,.slice none 0 0,.slice none 0 0,.slice none 0 0,.bool false,.int .i64 (-1)] 28)
 have HR1:=hid (h.below hbW1)
 have HF1:Hid (Spares (fun k=>k=g) w W1):=hid (Spares.of_new hbW1)
 have HA1:=hid hcA
 have HS1:Hid (StB W1 (w.heap.size+1) (zSt 0)):=hid ⟨_,hcB,none,none,none,none,none,none,none,none,0,0,0,0,0,0,0,0,0,0,0,0,0,0,0,0,rfl,SlAt.nil,SlAt.nil,SlAt.nil,SlAt.nil,.nil _ _ (by unfold maxLen;omega),.nil _ _ (by unfold maxLen;omega),.nil _ _ (by unfold maxLen;omega),.nil _ _ (by unfold maxLen;omega)⟩
 obtain⟨⟨k,q2⟩,hq⟩:∃x,chooseP statesB r=x:=⟨_,rfl⟩
 have hEQ:=state_at ex hq
 rw[hEQ]
 have DG2:DG F q2:=by
  have:=(show DG F r from ⟨hG,hD⟩).after (nice_choose (b:=false) statesB (fun e=>by cases e))
  rw[hq] at this
  exact this
 have HC:Hid (∀V,RdAt F V g r→Calls Tryz.prog 109 #[.pointer (some ⟨g,0,none⟩),.slice (some ⟨V.heap.size,0,none⟩) 6 6] (V.alloc (.cells #[.string ⟨#[67,82,69,65,84,69]⟩,.int .i64 1,.string ⟨#[68,82,79,80]⟩,.int .i64 2,.string ⟨#[73,78,83,69,82,84]⟩,.int .i64 3,.string ⟨#[85,80,68,65,84,69]⟩,.int .i64 4,.string ⟨#[68,69,76,69,84,69]⟩,.int .i64 5,.string ⟨#[83,69,76,69,67,84]⟩,.int .i64 6] 155)) fun e w'=>e = .returned (.int .i64 (chooseP statesB r).1)∧RdAt F w' g (chooseP statesB r).2∧Fr g V w'):=hid (fun V hV=>choose_new F g r statesB (by decide) V hV)
 rw[hq] at HC
 dsimp only at HC
 obtain⟨sb,hsb⟩:∃x,x=w.heap.size+1:=⟨_,rfl⟩
 rw[← hsb] at HS1 hzW1
 have hgs:g<sb:=by omega
 have hws:w.heap.size<sb:=by omega
 have HSB:=hid hsb
 clear h hD hG hcA hcB hbW1 hEQ hq
 by_cases h1:k=1
 ·subst h1
  have hP:(if (1:Int)=1 then createP else if (1:Int)=2 then dropP else if (1:Int)=3 then insertP else if (1:Int)=4 then updateP ex else if (1:Int)=5 then deleteP ex else if (1:Int)=6 then selectP ex else bindP (failP 4) fun _=>retP (zSt 1))=createP:=by rw[if_pos rfl]
  rw[hP]
  clear hP
  have HK:=hid (fun V (hV:RdAt F V g q2) (hS:StB V sb (zSt 1))=>create_any F g sb q2 V (zSt 1) hV DG2.2 hS hgs)
  have hself:=create_self q2
  simp only[hself] at HK
  clear hself
  generalize (createP q2).1=y1 at HK ⊢
  generalize (createP q2).2=y2 at HK ⊢
  clear DG2 hx hN
  go_enter Tryz.func65,Tryz.ntmps65
  go_wp2_with fail
  clear hW1
  rw[← hsb]
  clear hsb
  refine (HC.out W1 HR1.out).mono ?_
  rintro e w2 ⟨rfl,hr2,hf2⟩
  have hz2:=hf2.size
  have hS2:=HS1.out.keeps hf2 (fun b hb _ e=>by omega)
  obtain⟨u2,hu2⟩:=hS2.at 0 (by decide)
  have hfz2:=hS2.frozen
  obtain⟨V2,hV2,hSV2,hsV2,hk2⟩:=hS2.set_k 1
  have hzV2:=hsV2.size
  have hsV:=hSV2.lt
  have HR2:=hid (hr2.keeps hsV2 (fun i hi e=>by omega))
  have HS2:Hid (StB V2 sb (zSt 1)):=hid hSV2
  have HF2:Hid (Fr2 g sb w V2):=hid (((HF1.out.mono (fun i hi=>Or.inl hi)).then2 hf2).put2 hsV2)
  have HA2:=hid ((hsV2.block w.heap.size (by omega) (by omega)).trans ((hf2.block w.heap.size (by omega) (by omega)).trans HA1.out))
  clear hr2 hf2 hS2 hSV2 hsV2 HC HR1 HS1 HF1 HA1
  go_wp2_with fail
  clear hV2 hu2 hfz2 hk2
  refine (HK.out V2 HR2.out HS2.out).mono ?_
  rintro e w3 ⟨rfl,hS3,hr3,hf3⟩
  have HR3:=hid hr3
  have HF3:Hid (Fr2 g sb w w3):=hid (HF2.out.andThen hf3 (fun i hi=>.inl hi))
  have HA3:=hid ((hf3.block w.heap.size (by omega) (by omega)).trans HA2.out)
  have HS3:=hid hS3
  clear hr3 hf3 hS3 HK
  obtain⟨cs,d1,d2,d3,d4,d5,d6,d7⟩:=st_done HS3.out HR3.out HF3.out HA3.out rfl hgw hws
  go_wp2_with (first
   | (refine wpList_load_row rfl 28 (.tmp 3) rfl sb rfl 28 cs.toArray (0,0) (.struct (Tryz.prog.fieldsOf 28)) d1 Tryz.stmFields rfl (by rw[Tryz.stmInfo,d2]) ?_)
   | (refine wpList_store_row rfl 28 (.tmp 2) (.tmp 56) rfl w.heap.size cs.toArray rfl rfl 28 _ HA3.out (by rw[Tryz.stmInfo,d2]) (by rw[d2];rfl) d3 ?_)
   | (refine bodyPost_ret (v:=.agg cs.toArray) (results_cell_row Tryz.results65 _ _ w.heap.size 28 cs.toArray (0,0) (.struct (Tryz.prog.fieldsOf 28)) rfl d4 Tryz.stmFields rfl (by rw[Tryz.stmInfo,d2])) rfl ⟨cs,rfl,?_,d6,d7⟩)
   | fail)
  exact d5
 by_cases h3:k=3
 ·subst h3
  have hP:(if (3:Int)=1 then createP else if (3:Int)=2 then dropP else if (3:Int)=3 then insertP else if (3:Int)=4 then updateP ex else if (3:Int)=5 then deleteP ex else if (3:Int)=6 then selectP ex else bindP (failP 4) fun _=>retP (zSt 3))=insertP:=by rw[if_neg (show ¬((3:Int)=1) by decide)];rw[if_neg (show ¬((3:Int)=2) by decide)];rw[if_pos rfl]
  rw[hP]
  clear hP
  have HK:=hid (fun V (hV:RdAt F V g q2) (hS:StB V sb (zSt 3))=>insert_any F g sb q2 V (zSt 3) hV DG2.2 hS hgs)
  have hself:=insert_self q2
  simp only[hself] at HK
  clear hself
  generalize (insertP q2).1=y1 at HK ⊢
  generalize (insertP q2).2=y2 at HK ⊢
  clear DG2 hx hN
  go_enter Tryz.func65,Tryz.ntmps65
  go_wp2_with fail
  clear hW1
  rw[← hsb]
  clear hsb
  refine (HC.out W1 HR1.out).mono ?_
  rintro e w2 ⟨rfl,hr2,hf2⟩
  have hz2:=hf2.size
  have hS2:=HS1.out.keeps hf2 (fun b hb _ e=>by omega)
  obtain⟨u2,hu2⟩:=hS2.at 0 (by decide)
  have hfz2:=hS2.frozen
  obtain⟨V2,hV2,hSV2,hsV2,hk2⟩:=hS2.set_k 3
  have hzV2:=hsV2.size
  have hsV:=hSV2.lt
  have HR2:=hid (hr2.keeps hsV2 (fun i hi e=>by omega))
  have HS2:Hid (StB V2 sb (zSt 3)):=hid hSV2
  have HF2:Hid (Fr2 g sb w V2):=hid (((HF1.out.mono (fun i hi=>Or.inl hi)).then2 hf2).put2 hsV2)
  have HA2:=hid ((hsV2.block w.heap.size (by omega) (by omega)).trans ((hf2.block w.heap.size (by omega) (by omega)).trans HA1.out))
  clear hr2 hf2 hS2 hSV2 hsV2 HC HR1 HS1 HF1 HA1
  go_wp2_with fail
  clear hV2 hu2 hfz2 hk2
  refine (HK.out V2 HR2.out HS2.out).mono ?_
  rintro e w3 ⟨rfl,hS3,hr3,hf3⟩
  have HR3:=hid hr3
  have HF3:Hid (Fr2 g sb w w3):=hid (HF2.out.andThen hf3 (fun i hi=>.inl hi))
  have HA3:=hid ((hf3.block w.heap.size (by omega) (by omega)).trans HA2.out)
  have HS3:=hid hS3
  clear hr3 hf3 hS3 HK
  obtain⟨cs,d1,d2,d3,d4,d5,d6,d7⟩:=st_done HS3.out HR3.out HF3.out HA3.out rfl hgw hws
  go_wp2_with (first
   | (refine wpList_load_row rfl 28 (.tmp 3) rfl sb rfl 28 cs.toArray (0,0) (.struct (Tryz.prog.fieldsOf 28)) d1 Tryz.stmFields rfl (by rw[Tryz.stmInfo,d2]) ?_)
   | (refine wpList_store_row rfl 28 (.tmp 2) (.tmp 56) rfl w.heap.size cs.toArray rfl rfl 28 _ HA3.out (by rw[Tryz.stmInfo,d2]) (by rw[d2];rfl) d3 ?_)
   | (refine bodyPost_ret (v:=.agg cs.toArray) (results_cell_row Tryz.results65 _ _ w.heap.size 28 cs.toArray (0,0) (.struct (Tryz.prog.fieldsOf 28)) rfl d4 Tryz.stmFields rfl (by rw[Tryz.stmInfo,d2])) rfl ⟨cs,rfl,?_,d6,d7⟩)
   | fail)
  exact d5
 by_cases h4:k=4
 ·subst h4
  have hP:(if (4:Int)=1 then createP else if (4:Int)=2 then dropP else if (4:Int)=3 then insertP else if (4:Int)=4 then updateP ex else if (4:Int)=5 then deleteP ex else if (4:Int)=6 then selectP ex else bindP (failP 4) fun _=>retP (zSt 4))=updateP ex:=by rw[if_neg (show ¬((4:Int)=1) by decide)];rw[if_neg (show ¬((4:Int)=2) by decide)];rw[if_neg (show ¬((4:Int)=3) by decide)];rw[if_pos rfl]
  rw[hP]
  clear hP
  have HK:=hid (fun V (hV:RdAt F V g q2) (hS:StB V sb (zSt 4))=>update_any F ex hx hN g sb q2 V (zSt 4) hV DG2.2 hS hgs)
  have hself:=update_self ex q2
  simp only[hself] at HK
  clear hself
  generalize (updateP ex q2).1=y1 at HK ⊢
  generalize (updateP ex q2).2=y2 at HK ⊢
  clear DG2 hx hN
  go_enter Tryz.func65,Tryz.ntmps65
  go_wp2_with fail
  clear hW1
  rw[← hsb]
  clear hsb
  refine (HC.out W1 HR1.out).mono ?_
  rintro e w2 ⟨rfl,hr2,hf2⟩
  have hz2:=hf2.size
  have hS2:=HS1.out.keeps hf2 (fun b hb _ e=>by omega)
  obtain⟨u2,hu2⟩:=hS2.at 0 (by decide)
  have hfz2:=hS2.frozen
  obtain⟨V2,hV2,hSV2,hsV2,hk2⟩:=hS2.set_k 4
  have hzV2:=hsV2.size
  have hsV:=hSV2.lt
  have HR2:=hid (hr2.keeps hsV2 (fun i hi e=>by omega))
  have HS2:Hid (StB V2 sb (zSt 4)):=hid hSV2
  have HF2:Hid (Fr2 g sb w V2):=hid (((HF1.out.mono (fun i hi=>Or.inl hi)).then2 hf2).put2 hsV2)
  have HA2:=hid ((hsV2.block w.heap.size (by omega) (by omega)).trans ((hf2.block w.heap.size (by omega) (by omega)).trans HA1.out))
  clear hr2 hf2 hS2 hSV2 hsV2 HC HR1 HS1 HF1 HA1
  go_wp2_with fail
  clear hV2 hu2 hfz2 hk2
  refine (HK.out V2 HR2.out HS2.out).mono ?_
  rintro e w3 ⟨rfl,hS3,hr3,hf3⟩
  have HR3:=hid hr3
  have HF3:Hid (Fr2 g sb w w3):=hid (HF2.out.andThen hf3 (fun i hi=>.inl hi))
  have HA3:=hid ((hf3.block w.heap.size (by omega) (by omega)).trans HA2.out)
  have HS3:=hid hS3
  clear hr3 hf3 hS3 HK
  obtain⟨cs,d1,d2,d3,d4,d5,d6,d7⟩:=st_done HS3.out HR3.out HF3.out HA3.out rfl hgw hws
  go_wp2_with (first
   | (refine wpList_load_row rfl 28 (.tmp 3) rfl sb rfl 28 cs.toArray (0,0) (.struct (Tryz.prog.fieldsOf 28)) d1 Tryz.stmFields rfl (by rw[Tryz.stmInfo,d2]) ?_)
   | (refine wpList_store_row rfl 28 (.tmp 2) (.tmp 56) rfl w.heap.size cs.toArray rfl rfl 28 _ HA3.out (by rw[Tryz.stmInfo,d2]) (by rw[d2];rfl) d3 ?_)
   | (refine bodyPost_ret (v:=.agg cs.toArray) (results_cell_row Tryz.results65 _ _ w.heap.size 28 cs.toArray (0,0) (.struct (Tryz.prog.fieldsOf 28)) rfl d4 Tryz.stmFields rfl (by rw[Tryz.stmInfo,d2])) rfl ⟨cs,rfl,?_,d6,d7⟩)
   | fail)
  exact d5
 by_cases h6:k=6
 ·subst h6
  have hP:(if (6:Int)=1 then createP else if (6:Int)=2 then dropP else if (6:Int)=3 then insertP else if (6:Int)=4 then updateP ex else if (6:Int)=5 then deleteP ex else if (6:Int)=6 then selectP ex else bindP (failP 4) fun _=>retP (zSt 6))=selectP ex:=by rw[if_neg (show ¬((6:Int)=1) by decide)];rw[if_neg (show ¬((6:Int)=2) by decide)];rw[if_neg (show ¬((6:Int)=3) by decide)];rw[if_neg (show ¬((6:Int)=4) by decide)];rw[if_neg (show ¬((6:Int)=5) by decide)];rw[if_pos rfl]
  rw[hP]
  clear hP
  have HK:=hid (fun V (hV:RdAt F V g q2) (hS:StB V sb (zSt 6))=>selects_any F ex hx hN g sb q2 V hV DG2.2 hS hgs)
  generalize (selectP ex q2).1=y1 at HK ⊢
  generalize (selectP ex q2).2=y2 at HK ⊢
  clear DG2 hx hN
  go_enter Tryz.func65,Tryz.ntmps65
  go_wp2_with fail
  clear hW1
  rw[← hsb]
  clear hsb
  refine (HC.out W1 HR1.out).mono ?_
  rintro e w2 ⟨rfl,hr2,hf2⟩
  have hz2:=hf2.size
  have hS2:=HS1.out.keeps hf2 (fun b hb _ e=>by omega)
  obtain⟨u2,hu2⟩:=hS2.at 0 (by decide)
  have hfz2:=hS2.frozen
  obtain⟨V2,hV2,hSV2,hsV2,hk2⟩:=hS2.set_k 6
  have hzV2:=hsV2.size
  have hsV:=hSV2.lt
  have HR2:=hid (hr2.keeps hsV2 (fun i hi e=>by omega))
  have HS2:Hid (StB V2 sb (zSt 6)):=hid hSV2
  have HF2:Hid (Fr2 g sb w V2):=hid (((HF1.out.mono (fun i hi=>Or.inl hi)).then2 hf2).put2 hsV2)
  have HA2:=hid ((hsV2.block w.heap.size (by omega) (by omega)).trans ((hf2.block w.heap.size (by omega) (by omega)).trans HA1.out))
  clear hr2 hf2 hS2 hSV2 hsV2 HC HR1 HS1 HF1 HA1
  go_wp2_with fail
  clear hV2 hu2 hfz2 hk2
  refine (HK.out V2 HR2.out HS2.out).mono ?_
  rintro e w3 ⟨rfl,hS3,hr3,hf3⟩
  have HR3:=hid hr3
  have HF3:Hid (Fr2 g sb w w3):=hid (HF2.out.andThen hf3 (fun i hi=>.inl hi))
  have HA3:=hid ((hf3.block w.heap.size (by omega) (by omega)).trans HA2.out)
  have HS3:=hid hS3
  clear hr3 hf3 hS3 HK
  obtain⟨cs,d1,d2,d3,d4,d5,d6,d7⟩:=st_done HS3.out HR3.out HF3.out HA3.out rfl hgw hws
  go_wp2_with (first
   | (refine wpList_load_row rfl 28 (.tmp 3) rfl sb rfl 28 cs.toArray (0,0) (.struct (Tryz.prog.fieldsOf 28)) d1 Tryz.stmFields rfl (by rw[Tryz.stmInfo,d2]) ?_)
   | (refine wpList_store_row rfl 28 (.tmp 2) (.tmp 56) rfl w.heap.size cs.toArray rfl rfl 28 _ HA3.out (by rw[Tryz.stmInfo,d2]) (by rw[d2];rfl) d3 ?_)
   | (refine bodyPost_ret (v:=.agg cs.toArray) (results_cell_row Tryz.results65 _ _ w.heap.size 28 cs.toArray (0,0) (.struct (Tryz.prog.fieldsOf 28)) rfl d4 Tryz.stmFields rfl (by rw[Tryz.stmInfo,d2])) rfl ⟨cs,rfl,?_,d6,d7⟩)
   | fail)
  exact d5
 by_cases h2:k=2
 ·subst h2
  have hP:(if (2:Int)=1 then createP else if (2:Int)=2 then dropP else if (2:Int)=3 then insertP else if (2:Int)=4 then updateP ex else if (2:Int)=5 then deleteP ex else if (2:Int)=6 then selectP ex else bindP (failP 4) fun _=>retP (zSt 2))=dropP:=by rw[if_neg (show ¬((2:Int)=1) by decide)];rw[if_pos rfl]
  rw[hP]
  clear hP
  have hEQ:=drop_eq q2
  have H1:Hid (∀V,RdAt F V g q2→Calls Tryz.prog 111 #[.pointer (some ⟨g,0,none⟩),.slice (some ⟨V.heap.size,0,none⟩) 1 1] (V.alloc (.cells #[.string ⟨#[84,65,66,76,69]⟩] 9)) fun e w'=>e = .returned (.tuple #[])∧RdAt F w' g (mustsP [[84,65,66,76,69]] q2).2∧Fr g V w'):=hid (fun V hV=>must_new F g q2 [[84,65,66,76,69]] (by decide) V hV)
  obtain⟨q3,eq3⟩:∃x,(mustsP [[84,65,66,76,69]] q2).2=x:=⟨_,rfl⟩
  have DG3:=DG2.after (nice_musts (b:=false) [[84,65,66,76,69]])
  rw[eq3] at DG3
  rw[eq3] at H1 hEQ
  have H2:=hid (fun V (hV:RdAt F V g q3)=>name_any F g q3 V hV)
  obtain⟨n3,en3⟩:∃x,(nameP q3).1=x:=⟨_,rfl⟩
  obtain⟨q4,eq4⟩:∃x,(nameP q3).2=x:=⟨_,rfl⟩
  have DG4:=DG3.after (nice_name (b:=false))
  rw[eq4] at DG4
  rw[en3,eq4] at H2 hEQ
  rw[hEQ]
  dsimp only
  clear hEQ hx hN DG2 DG3 DG4
  go_enter Tryz.func65,Tryz.ntmps65
  go_wp2_with fail
  clear hW1
  rw[← hsb]
  clear hsb
  refine (HC.out W1 HR1.out).mono ?_
  rintro e w2 ⟨rfl,hr2,hf2⟩
  have hz2:=hf2.size
  have hS2:=HS1.out.keeps hf2 (fun b hb _ e=>by omega)
  obtain⟨u2,hu2⟩:=hS2.at 0 (by decide)
  have hfz2:=hS2.frozen
  obtain⟨V2,hV2,hSV2,hsV2,hk2⟩:=hS2.set_k 2
  have hzV2:=hsV2.size
  have hsV:=hSV2.lt
  have HR2:=hid (hr2.keeps hsV2 (fun i hi e=>by omega))
  have HS2:Hid (StB V2 sb (zSt 2)):=hid hSV2
  have HF2:Hid (Fr2 g sb w V2):=hid (((HF1.out.mono (fun i hi=>Or.inl hi)).then2 hf2).put2 hsV2)
  have HA2:=hid ((hsV2.block w.heap.size (by omega) (by omega)).trans ((hf2.block w.heap.size (by omega) (by omega)).trans HA1.out))
  clear hr2 hf2 hS2 hSV2 hsV2 HC HR1 HS1 HF1 HA1
  go_wp2_with fail
  clear hV2 hu2 hfz2 hk2
  refine (H1.out V2 HR2.out).mono ?_
  rintro e w3 ⟨rfl,hr3,hf3⟩
  have hz3:=hf3.size
  have HA3:=hid ((hf3.block w.heap.size (by omega) (by omega)).trans HA2.out)
  have HR3:=hid hr3
  have HF3:=hid (HF2.out.then2 hf3)
  have HS3:=hid (HS2.out.keeps hf3 (fun b hb _ e=>by omega))
  clear hr3 hf3 H1
  go_wp2_with fail
  refine (H2.out w3 HR3.out).mono ?_
  rintro e w4 ⟨rfl,hr4,hf4⟩
  have hz4:=hf4.size
  have HA4:=hid ((hf4.block w.heap.size (by omega) (by omega)).trans HA3.out)
  have HR4:=hid hr4
  have HF4:=hid (HF3.out.then2 hf4)
  have HS4:=hid (HS3.out.keeps hf4 (fun b hb _ e=>by omega))
  clear hr4 hf4 H2
  obtain⟨u4,hu4⟩:=HS4.out.at 1 (by decide)
  have hfz4:=HS4.out.frozen
  obtain⟨V4,hV4,hS4,hs4,_⟩:=HS4.out.set_tb n3
  have hzV4:=hs4.size
  have HA4':=hid ((hs4.block w.heap.size (by omega) (by omega)).trans HA4.out)
  clear HA4
  have HA4:=HA4'
  clear HA4'
  have HR4':=hid (HR4.out.keeps hs4 (fun i hi e=>by omega))
  have HF4':=hid (HF4.out.put2 hs4)
  have HS4':=hid hS4
  clear hS4 hs4 HR4 HF4 HS4
  have HR4:=HR4'
  have HF4:=HF4'
  have HS4:=HS4'
  clear HR4' HF4' HS4'
  obtain⟨cs,d1,d2,d3,d4,d5,d6,d7⟩:=st_done HS4.out HR4.out HF4.out HA4.out rfl hgw hws
  go_wp2_with (first
   | (refine wpList_load_row rfl 28 (.tmp 3) rfl sb rfl 28 cs.toArray (0,0) (.struct (Tryz.prog.fieldsOf 28)) d1 Tryz.stmFields rfl (by rw[Tryz.stmInfo,d2]) ?_)
   | (refine wpList_store_row rfl 28 (.tmp 2) (.tmp 56) rfl w.heap.size cs.toArray rfl rfl 28 _ HA4.out (by rw[Tryz.stmInfo,d2]) (by rw[d2];rfl) d3 ?_)
   | (refine bodyPost_ret (v:=.agg cs.toArray) (results_cell_row Tryz.results65 _ _ w.heap.size 28 cs.toArray (0,0) (.struct (Tryz.prog.fieldsOf 28)) rfl d4 Tryz.stmFields rfl (by rw[Tryz.stmInfo,d2])) rfl ⟨cs,rfl,?_,d6,d7⟩)
   | fail)
  exact d5
 by_cases h5:k=5
 ·subst h5
  have hP:(if (5:Int)=1 then createP else if (5:Int)=2 then dropP else if (5:Int)=3 then insertP else if (5:Int)=4 then updateP ex else if (5:Int)=5 then deleteP ex else if (5:Int)=6 then selectP ex else bindP (failP 4) fun _=>retP (zSt 5))=deleteP ex:=by rw[if_neg (show ¬((5:Int)=1) by decide)];rw[if_neg (show ¬((5:Int)=2) by decide)];rw[if_neg (show ¬((5:Int)=3) by decide)];rw[if_neg (show ¬((5:Int)=4) by decide)];rw[if_pos rfl]
  rw[hP]
  clear hP
  have hEQ:=delete_eq ex q2
  have H1:Hid (∀V,RdAt F V g q2→Calls Tryz.prog 111 #[.pointer (some ⟨g,0,none⟩),.slice (some ⟨V.heap.size,0,none⟩) 1 1] (V.alloc (.cells #[.string ⟨#[70,82,79,77]⟩] 9)) fun e w'=>e = .returned (.tuple #[])∧RdAt F w' g (mustsP [[70,82,79,77]] q2).2∧Fr g V w'):=hid (fun V hV=>must_new F g q2 [[70,82,79,77]] (by decide) V hV)
  obtain⟨q3,eq3⟩:∃x,(mustsP [[70,82,79,77]] q2).2=x:=⟨_,rfl⟩
  have DG3:=DG2.after (nice_musts (b:=false) [[70,82,79,77]])
  rw[eq3] at DG3
  rw[eq3] at H1 hEQ
  have H2:=hid (fun V (hV:RdAt F V g q3)=>name_any F g q3 V hV)
  obtain⟨n3,en3⟩:∃x,(nameP q3).1=x:=⟨_,rfl⟩
  obtain⟨q4,eq4⟩:∃x,(nameP q3).2=x:=⟨_,rfl⟩
  have DG4:=DG3.after (nice_name (b:=false))
  rw[eq4] at DG4
  rw[en3,eq4] at H2 hEQ
  have H3:Hid (∀V,RdAt F V g q4→Calls Tryz.prog 115 #[.pointer (some ⟨g,0,none⟩),.func (.func 116) #[.pointer (some ⟨g,0,none⟩)] #[],.string ⟨#[87,72,69,82,69]⟩,.slice none 0 0] V fun e w'=>∃(aa:Option Addr) (nn cc:Nat),e = .returned (.slice aa nn cc)∧ArgsAt (fun b=>V.heap.size≤b) w' (partP ex [87,72,69,82,69] [] q4).1 (.slice aa nn cc)∧RdAt F w' g (partP ex [87,72,69,82,69] [] q4).2∧Fr g V w') :=
   hid (fun V hV=>part_any F _ ex hx (enters_of Tryz.func116 (by kernel_rfl) rfl) [87,72,69,82,69] [] g q4 V hV DG4.2 (.slice none 0 0) ⟨none,0,rfl,by decide,fun e=>absurd rfl e⟩)
  obtain⟨l4,el4⟩:∃x,(partP ex [87,72,69,82,69] [] q4).1=x:=⟨_,rfl⟩
  obtain⟨q5,eq5⟩:∃x,(partP ex [87,72,69,82,69] [] q4).2=x:=⟨_,rfl⟩
  have DG5:=DG4.after (nice_part (b:=false) hN [87,72,69,82,69] [] (by decide))
  rw[eq5] at DG5
  rw[el4,eq5] at H3 hEQ
  rw[hEQ]
  dsimp only
  clear hEQ hx hN DG2 DG3 DG4 DG5
  go_enter Tryz.func65,Tryz.ntmps65
  go_wp2_with fail
  clear hW1
  rw[← hsb]
  clear hsb
  refine (HC.out W1 HR1.out).mono ?_
  rintro e w2 ⟨rfl,hr2,hf2⟩
  have hz2:=hf2.size
  have hS2:=HS1.out.keeps hf2 (fun b hb _ e=>by omega)
  obtain⟨u2,hu2⟩:=hS2.at 0 (by decide)
  have hfz2:=hS2.frozen
  obtain⟨V2,hV2,hSV2,hsV2,hk2⟩:=hS2.set_k 5
  have hzV2:=hsV2.size
  have hsV:=hSV2.lt
  have HR2:=hid (hr2.keeps hsV2 (fun i hi e=>by omega))
  have HS2:Hid (StB V2 sb (zSt 5)):=hid hSV2
  have HF2:Hid (Fr2 g sb w V2):=hid (((HF1.out.mono (fun i hi=>Or.inl hi)).then2 hf2).put2 hsV2)
  have HA2:=hid ((hsV2.block w.heap.size (by omega) (by omega)).trans ((hf2.block w.heap.size (by omega) (by omega)).trans HA1.out))
  clear hr2 hf2 hS2 hSV2 hsV2 HC HR1 HS1 HF1 HA1
  go_wp2_with fail
  clear hV2 hu2 hfz2 hk2
  refine (H1.out V2 HR2.out).mono ?_
  rintro e w3 ⟨rfl,hr3,hf3⟩
  have hz3:=hf3.size
  have HA3:=hid ((hf3.block w.heap.size (by omega) (by omega)).trans HA2.out)
  have HR3:=hid hr3
  have HF3:=hid (HF2.out.then2 hf3)
  have HS3:=hid (HS2.out.keeps hf3 (fun b hb _ e=>by omega))
  clear hr3 hf3 H1
  go_wp2_with fail
  refine (H2.out w3 HR3.out).mono ?_
  rintro e w4 ⟨rfl,hr4,hf4⟩
  have hz4:=hf4.size
  have HA4:=hid ((hf4.block w.heap.size (by omega) (by omega)).trans HA3.out)
  have HR4:=hid hr4
  have HF4:=hid (HF3.out.then2 hf4)
  have HS4:=hid (HS3.out.keeps hf4 (fun b hb _ e=>by omega))
  clear hr4 hf4 H2
  obtain⟨u4,hu4⟩:=HS4.out.at 1 (by decide)
  have hfz4:=HS4.out.frozen
  obtain⟨V4,hV4,hS4,hs4,_⟩:=HS4.out.set_tb n3
  have hzV4:=hs4.size
  have HA4':=hid ((hs4.block w.heap.size (by omega) (by omega)).trans HA4.out)
  clear HA4
  have HA4:=HA4'
  clear HA4'
  have HR4':=hid (HR4.out.keeps hs4 (fun i hi e=>by omega))
  have HF4':=hid (HF4.out.put2 hs4)
  have HS4':=hid hS4
  clear hS4 hs4 HR4 HF4 HS4
  have HR4:=HR4'
  have HF4:=HF4'
  have HS4:=HS4'
  clear HR4' HF4' HS4'
  go_wp2_with fail
  clear hV4 hu4 hfz4
  refine (H3.out V4 HR4.out).mono ?_
  rintro e w5 ⟨aa5,nn5,cc5,rfl,hl5,hr5,hf5⟩
  have hz5:=hf5.size
  have HA5:=hid ((hf5.block w.heap.size (by omega) (by omega)).trans HA4.out)
  have HR5:=hid hr5
  have HF5:=hid (HF4.out.then2 hf5)
  have HS5:=hid (HS4.out.keeps hf5 (fun b hb _ e=>by omega))
  have HL5:=hid (hl5.to (T:=fun b=>sb<b) (R:=fun _=>False) (Spares.refl _ _) (fun b hb _=>⟨id,by omega⟩))
  clear hl5
  clear hr5 hf5 H3
  obtain⟨u5,hu5⟩:=HS5.out.at 9 (by decide)
  have hfz5:=HS5.out.frozen
  obtain⟨V5,hV5,hS5,hs5,_⟩:=HS5.out.set_wh l4 HL5.out
  have hzV5:=hs5.size
  have HA5':=hid ((hs5.block w.heap.size (by omega) (by omega)).trans HA5.out)
  clear HA5
  have HA5:=HA5'
  clear HA5'
  have HR5':=hid (HR5.out.keeps hs5 (fun i hi e=>by omega))
  have HF5':=hid (HF5.out.put2 hs5)
  have HS5':=hid hS5
  clear hS5 hs5 HR5 HF5 HS5
  have HR5:=HR5'
  have HF5:=HF5'
  have HS5:=HS5'
  clear HR5' HF5' HS5'
  obtain⟨cs,d1,d2,d3,d4,d5,d6,d7⟩:=st_done HS5.out HR5.out HF5.out HA5.out rfl hgw hws
  go_wp2_with (first
   | (refine wpList_load_row rfl 28 (.tmp 3) rfl sb rfl 28 cs.toArray (0,0) (.struct (Tryz.prog.fieldsOf 28)) d1 Tryz.stmFields rfl (by rw[Tryz.stmInfo,d2]) ?_)
   | (refine wpList_store_row rfl 28 (.tmp 2) (.tmp 56) rfl w.heap.size cs.toArray rfl rfl 28 _ HA5.out (by rw[Tryz.stmInfo,d2]) (by rw[d2];rfl) d3 ?_)
   | (refine bodyPost_ret (v:=.agg cs.toArray) (results_cell_row Tryz.results65 _ _ w.heap.size 28 cs.toArray (0,0) (.struct (Tryz.prog.fieldsOf 28)) rfl d4 Tryz.stmFields rfl (by rw[Tryz.stmInfo,d2])) rfl ⟨cs,rfl,?_,d6,d7⟩)
   | fail)
  exact d5
 ·have hP:(if k=1 then createP else if k=2 then dropP else if k=3 then insertP else if k=4 then updateP ex else if k=5 then deleteP ex else if k=6 then selectP ex else bindP (failP 4) fun _=>retP (zSt k))=bindP (failP 4) fun _=>retP (zSt k):=by
   rw[if_neg h1,if_neg h2,if_neg h3,if_neg h4,if_neg h5,if_neg h6]
  rw[hP]
  have hP2:((bindP (failP 4) fun _=>retP (zSt k)) q2)=(zSt k,failR 4 q2):=rfl
  rw[hP2]
  dsimp only
  have HX:=hid (fun V (hV:RdAt F V g q2)=>fail_any F g q2 V hV 4 (by decide))
  have e1:(k==1)=false:=by simpa using h1
  have e2:(k==2)=false:=by simpa using h2
  have e3:(k==3)=false:=by simpa using h3
  have e4:(k==4)=false:=by simpa using h4
  have e5:(k==5)=false:=by simpa using h5
  have e6:(k==6)=false:=by simpa using h6
  clear hP hP2 DG2 hx hN h1 h2 h3 h4 h5 h6
  go_enter Tryz.func65,Tryz.ntmps65
  go_wp2_with fail
  clear hW1
  rw[← hsb]
  clear hsb
  refine (HC.out W1 HR1.out).mono ?_
  rintro e w2 ⟨rfl,hr2,hf2⟩
  have hz2:=hf2.size
  have hS2:=HS1.out.keeps hf2 (fun b hb _ e=>by omega)
  obtain⟨u2,hu2⟩:=hS2.at 0 (by decide)
  have hfz2:=hS2.frozen
  obtain⟨V2,hV2,hSV2,hsV2,hk2⟩:=hS2.set_k k
  have hzV2:=hsV2.size
  have hsV:=hSV2.lt
  have HR2:=hid (hr2.keeps hsV2 (fun i hi e=>by omega))
  have HS2:Hid (StB V2 sb (zSt k)):=hid hSV2
  have HF2:Hid (Fr2 g sb w V2):=hid (((HF1.out.mono (fun i hi=>Or.inl hi)).then2 hf2).put2 hsV2)
  have HA2:=hid ((hsV2.block w.heap.size (by omega) (by omega)).trans ((hf2.block w.heap.size (by omega) (by omega)).trans HA1.out))
  clear hr2 hf2 hS2 hSV2 hsV2 HC HR1 HS1 HF1 HA1
  go_wp2_with fail
  clear hV2 hu2 hfz2 hk2
  refine (HX.out V2 HR2.out).mono ?_
  rintro e w3 ⟨rfl,hr3,hf3⟩
  have HR3:=hid hr3
  have HF3:Hid (Fr2 g sb w w3):=hid (HF2.out.then2 hf3)
  have HA3:=hid ((hf3.block w.heap.size (by omega) (by omega)).trans HA2.out)
  have HS3:=hid (HS2.out.keeps hf3 (fun b hb _ e=>by omega))
  clear hr3 hf3 HX
  obtain⟨cs,d1,d2,d3,d4,d5,d6,d7⟩:=st_done HS3.out HR3.out HF3.out HA3.out rfl hgw hws
  go_wp2_with (first
   | (refine wpList_load_row rfl 28 (.tmp 3) rfl sb rfl 28 cs.toArray (0,0) (.struct (Tryz.prog.fieldsOf 28)) d1 Tryz.stmFields rfl (by rw[Tryz.stmInfo,d2]) ?_)
   | (refine wpList_store_row rfl 28 (.tmp 2) (.tmp 56) rfl w.heap.size cs.toArray rfl rfl 28 _ HA3.out (by rw[Tryz.stmInfo,d2]) (by rw[d2];rfl) d3 ?_)
   | (refine bodyPost_ret (v:=.agg cs.toArray) (results_cell_row Tryz.results65 _ _ w.heap.size 28 cs.toArray (0,0) (.struct (Tryz.prog.fieldsOf 28)) rfl d4 Tryz.stmFields rfl (by rw[Tryz.stmInfo,d2])) rfl ⟨cs,rfl,?_,d6,d7⟩)
   | fail)
  exact d5
end Go.Proofs.YtaaggohjmhifbaaGreatDoor
