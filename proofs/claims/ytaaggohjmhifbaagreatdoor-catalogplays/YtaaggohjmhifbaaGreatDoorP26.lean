/- Packed for the hand-in: PPart PItem -/
import Derived.Test.YtaaggohjmhifbaaGreatDoorP25
namespace Go.Proofs.YtaaggohjmhifbaaGreatDoor
open Go.RowKit Go.Shelf
set_option linter.unusedSimpArgs false
set_option linter.unusedVariables false
set_option maxRecDepth 20000
set_option maxHeartbeats 8000000
theorem musts_one (t:List UInt8) (r:Rd):(mustsP [t] r).2=(mustP t r).2:=rfl
theorem part_no {read:Pa Ex} {t:List UInt8} {l:List (List UInt8)} {r:Rd} (h:isR t r=false):partP read t l r=([],r):=by
 unfold partP ifP
 rw[if_neg (by rw[h];exact Bool.false_ne_true)]
 rfl
theorem part_yes {read:Pa Ex} {t:List UInt8} {l:List (List UInt8)} {r:Rd} (h:isR t r=true):partP read t l r=([(read (mustsP l (nextR r)).2).1],(read (mustsP l (nextR r)).2).2):=by
 unfold partP ifP
 rw[if_pos h]
 rfl
theorem part_any (F fr:Nat) (p:Pa Ex) (hp:RdsE F D0 fr p) (eg : ∀args w,(callFunc fr args).run Tryz.prog w = .ok (.enter fr args) w) (t:List UInt8) (l:List (List UInt8)) (g:Nat) (r:Rd) (w:World) (h:RdAt F w g r) (hD:D0 r) (v:Value) (hv:StrsG g w v l) :
  Calls Tryz.prog 115 #[.pointer (some ⟨g,0,none⟩),.func (.func fr) #[.pointer (some ⟨g,0,none⟩)] #[],.string (str8 t),v] w fun e w'=>∃(aa:Option Addr) (nn cc:Nat),e = .returned (.slice aa nn cc)∧ArgsAt (fun b=>w.heap.size≤b) w' (partP p t l r).1 (.slice aa nn cc)∧RdAt F w' g (partP p t l r).2∧Fr g w w':=by
 have HV:=hid hv
 have hgw:=h.lt
 cases hi:isR t r with
 |
  false =>
  rw[part_no hi]
  have HS:=hid (skip_no F g r w h t hi)
  clear h hp hv hi
  go_enter Tryz.func115,Tryz.ntmps115
  go_wp2_with fail
  refine HS.out.mono ?_
  rintro e w1 ⟨rfl,hr1,hf1⟩
  have HR1:=hid hr1
  have HF1:=hid hf1
  clear hr1 hf1 HS
  go_wp2
  exact bodyPost_ret (v:=.slice none 0 0) (by simp[results,Tryz.results115,go_sem]) rfl ⟨none,0,0,rfl,.nil _ _ (by unfold maxLen;omega),HR1.out,HF1.out⟩
 |
  true =>
  rw[part_yes hi]
  have HS:=hid (skip_yes F g r w h t hi)
  have hG1:=h.good.next (is_ok hi) (kind6 hi)
  have hD1:D0 (nextR r):=hD
  have hD2:=hD1.after (nice_musts (b:=false) l) hG1
  have HM:=hid (fun V (hV:RdAt F V g (nextR r)) (hs:StrsG g V v l)=>must_any F g (nextR r) V hV v l hs)
  obtain⟨r2,hr2e⟩:∃x,(mustsP l (nextR r)).2=x:=⟨_,rfl⟩
  rw[hr2e] at HM hD2 ⊢
  have HP:=hid (fun V (hV:RdAt F V g r2)=>hp g r2 V hV hD2)
  dsimp only
  generalize (p r2).1=y1 at HP ⊢
  generalize (p r2).2=y2 at HP ⊢
  clear h hp hv hi hG1 hD1 hD2 hr2e hD
  go_enter Tryz.func115,Tryz.ntmps115
  go_wp2_with fail
  refine HS.out.mono ?_
  rintro e w1 ⟨rfl,hr1,hf1⟩
  have hz1:=hf1.size
  have HF1:=hid hf1
  have HM1:=hid (HM.out w1 hr1 (HV.out.keeps hf1 (fun i hi e=>by omega)))
  clear hr1 hf1 HS HM
  go_wp2_with fail
  refine HM1.out.mono ?_
  rintro e w2 ⟨rfl,hr2,hf2⟩
  have hz2:=hf2.size
  have HF2:=hid (HF1.out.then hf2)
  have HP2:=hid (HP.out w2 hr2)
  clear hr2 hf2 HM1 HP
  go_wp2_with fail
  refine HP2.out.mono ?_
  rintro e w3 ⟨u,rfl,hu,hr3,hf3⟩
  obtain⟨k3,op3,tb3,nm3,vk3,vn3,vs3,ys3,aa3,nn3,cc3,hxe,rfl,ha3⟩:=hu
  have hz3:=hf3.size
  have HR3:=hid hr3
  have HF3:=hid (HF2.out.then hf3)
  have HA3:=hid ha3
  have HXE:=hid hxe
  clear hr3 hf3 HP2 ha3 hxe
  go_wp2
  obtain⟨U,hU,hbU,hzU,hcU⟩:=box8 w3 (.cells #[.int .i64 k3,.int .i64 op3,.string (str8 tb3),.string (str8 nm3),.int .i64 vk3,.int .i64 vn3,.string (str8 vs3),.slice aa3 nn3 cc3] 130)
  rw[hU]
  refine bodyPost_ret (v:=.slice (some ⟨w3.heap.size,0,none⟩) 1 1) (by simp[results,Tryz.results115,go_sem]) rfl ⟨_,1,1,rfl,?_,HR3.out.below hbU,HF3.out.thenNew hbU⟩
  rw[HXE.out]
  exact args_one (show w.heap.size≤w3.heap.size by omega) hcU (HA3.out.to (R:=fun _=>False) (Spares.of_new hbU) (fun b hb _=>⟨id,by have:w2.heap.size≤b:=hb;omega⟩))
theorem lit_X (F:Nat):RdsX F VlE 232 litP:=fun g r w h _=>by
 refine (lit_any F g r w h).mono ?_
 rintro e w' ⟨rfl,h1,h2⟩
 exact⟨_,rfl,rfl,h1,h2⟩
theorem comma_B (F:Nat):RdsB F 182 commaP:=fun g r w h=>comma_any F g r w h
theorem semi_B (F:Nat):RdsB F 66 semiP:=fun g r w h=>semi_any F g r w h
theorem values_eq (r:Rd):valuesP r=((listL litP commaP 8 [] (mustsP [[40]] r).2).1,(mustsP [[41]] (listL litP commaP 8 [] (mustsP [[40]] r).2).2).2):=by
 simp only[musts_one]
 rfl
theorem values_any (F:Nat):RdsV F 181 valuesP:=fun g r w h hD=>by
 rw[values_eq]
 have hgw:=h.lt
 have HRw:=hid h
 have hD1:=hD.after (nice_musts (b:=false) [[40]]) h.good
 have HM:Hid (∀V,RdAt F V g r→Calls Tryz.prog 111 #[.pointer (some ⟨g,0,none⟩),.slice (some ⟨V.heap.size,0,none⟩) 1 1] (V.alloc (.cells #[.string ⟨#[40]⟩] 9)) fun e w'=>e = .returned (.tuple #[])∧RdAt F w' g (mustsP [[40]] r).2∧Fr g V w'):=hid (fun V hV=>must_new F g r [[40]] (by decide) V hV)
 obtain⟨r1,hr1e⟩:∃x,(mustsP [[40]] r).2=x:=⟨_,rfl⟩
 rw[hr1e] at HM hD1 ⊢
 have HL:Hid (∀V,RdAt F V g r1→Calls Tryz.prog 231 #[.pointer (some ⟨g,0,none⟩),.int .i64 8,.func (.func 232) #[.pointer (some ⟨g,0,none⟩)] #[],.func (.func 182) #[.pointer (some ⟨g,0,none⟩)] #[]] V fun e w'=>∃(aa:Option Addr) (nn cc:Nat),e = .returned (.slice aa nn cc)∧SlAt 3 VlE (fun b=>V.heap.size≤b) w' (listL litP commaP 8 [] r1).1 (.slice aa nn cc)∧RdAt F w' g (listL litP commaP 8 [] r1).2∧Fr g V w') :=
  hid (fun V hV=>listVl_any F _ _ litP commaP (lit_X F) (comma_B F) nice_lit nice_comma (enters_of Tryz.func232 (by kernel_rfl) rfl) (enters_of Tryz.func182 (by kernel_rfl) rfl) 8 (by decide) g r1 V hV hD1)
 dsimp only
 generalize (listL litP commaP 8 [] r1).1=l1 at HL ⊢
 generalize (listL litP commaP 8 [] r1).2=r2 at HL ⊢
 have HN:Hid (∀V,RdAt F V g r2→Calls Tryz.prog 111 #[.pointer (some ⟨g,0,none⟩),.slice (some ⟨V.heap.size,0,none⟩) 1 1] (V.alloc (.cells #[.string ⟨#[41]⟩] 9)) fun e w'=>e = .returned (.tuple #[])∧RdAt F w' g (mustsP [[41]] r2).2∧Fr g V w'):=hid (fun V hV=>must_new F g r2 [[41]] (by decide) V hV)
 generalize (mustsP [[41]] r2).2=r3 at HN ⊢
 clear h hD hD1 hr1e
 go_enter Tryz.func181,Tryz.ntmps181
 go_wp2_with fail
 refine (HM.out w HRw.out).mono ?_
 rintro e w1 ⟨rfl,hr1,hf1⟩
 have hz1:=hf1.size
 have HR1:=hid hr1
 have HF1:=hid hf1
 clear hr1 hf1 HM
 go_wp2_with fail
 refine (HL.out w1 HR1.out).mono ?_
 rintro e w2 ⟨aa,nn,cc,rfl,hl2,hr2,hf2⟩
 have hz2:=hf2.size
 have HR2:=hid hr2
 have HF2:=hid (HF1.out.then hf2)
 have HL2:=hid hl2
 clear hr2 hf2 HL hl2
 go_wp2_with fail
 refine (HN.out w2 HR2.out).mono ?_
 rintro e w3 ⟨rfl,hr3,hf3⟩
 have HR3:=hid hr3
 have HF3:=hid (HF2.out.then hf3)
 have HL3:=hid (HL2.out.to (by decide) (T:=fun b=>w.heap.size≤b) hf3 (fun b hb _=>⟨by omega,by omega⟩) (fun _ _ e=>e))
 clear hr3 hf3 HN
 go_wp2
 exact bodyPost_ret (v:=.slice aa nn cc) (by simp[results,Tryz.results181,go_sem]) rfl ⟨aa,nn,cc,rfl,HL3.out,HR3.out,HF3.out⟩
theorem set_eq (ex:Pa Ex) (r:Rd):setP ex r=(⟨(nameP r).1,(ex (mustsP [[61]] (nameP r).2).2).1⟩,(ex (mustsP [[61]] (nameP r).2).2).2):=by
 simp only[musts_one]
 rfl
theorem Tryz.setInfo:(Tryz.prog.info? 132).map (·.size)=some 9:=by kernel_rfl
theorem set_any (F:Nat) (ex:Pa Ex) (hx:RdsE F D0 116 ex):RdsX F SeE 184 (setP ex):=fun g r w h hD=>by
 rw[set_eq]
 have hgw:=h.lt
 obtain⟨w0,hW,hbW,hzW,hcW⟩:=box8 w (.cells #[.string ⟨#[]⟩,.int .i64 0,.int .i64 0,.string ⟨#[]⟩,.string ⟨#[]⟩,.int .i64 0,.int .i64 0,.string ⟨#[]⟩,.slice none 0 0] 132)
 have HCW:=hid hcW
 have HR0:=hid (h.below hbW)
 have HF0:=hid (Spares.of_new (S:=fun k=>k=g) hbW)
 have hD1:=hD.after (nice_name (b:=false)) h.good
 have hG1:=(nice_name (b:=false) (F:=F)).fine r trivial h.good
 have HN:=hid (fun V (hV:RdAt F V g r)=>name_any F g r V hV)
 obtain⟨n1,hn1⟩:∃x,(nameP r).1=x:=⟨_,rfl⟩
 obtain⟨r1,hr1e⟩:∃x,(nameP r).2=x:=⟨_,rfl⟩
 rw[hn1,hr1e] at HN
 rw[hn1,hr1e]
 rw[hr1e] at hD1 hG1
 have hD2:=hD1.after (nice_musts (b:=false) [[61]]) hG1.1
 have HM:Hid (∀V,RdAt F V g r1→Calls Tryz.prog 111 #[.pointer (some ⟨g,0,none⟩),.slice (some ⟨V.heap.size,0,none⟩) 1 1] (V.alloc (.cells #[.string ⟨#[61]⟩] 9)) fun e w'=>e = .returned (.tuple #[])∧RdAt F w' g (mustsP [[61]] r1).2∧Fr g V w'):=hid (fun V hV=>must_new F g r1 [[61]] (by decide) V hV)
 obtain⟨r2,hr2e⟩:∃x,(mustsP [[61]] r1).2=x:=⟨_,rfl⟩
 rw[hr2e] at HM hD2 ⊢
 have HX:=hid (fun V (hV:RdAt F V g r2)=>hx g r2 V hV hD2)
 dsimp only
 generalize (ex r2).1=y1 at HX ⊢
 generalize (ex r2).2=y2 at HX ⊢
 clear h hD hD1 hD2 hG1 hn1 hr1e hr2e hx hcW hbW
 go_enter Tryz.func184,Tryz.ntmps184
 go_wp2_with fail
 try rw[hW]
 clear hW
 refine (HN.out w0 HR0.out).mono ?_
 rintro e w1 ⟨rfl,hr1,hf1⟩
 have hz1:=hf1.size
 have HR1:=hid hr1
 have HF1:=hid (HF0.out.then hf1)
 have HB1:=hid ((hf1.block w.heap.size hzW (by omega)).trans HCW.out)
 clear hr1 hf1 HN
 go_wp2_with fail
 refine (HM.out w1 HR1.out).mono ?_
 rintro e w2 ⟨rfl,hr2,hf2⟩
 have hz2:=hf2.size
 have HR2:=hid hr2
 have HF2:=hid (HF1.out.then hf2)
 have HB2:=hid ((hf2.block w.heap.size (by omega) (by omega)).trans HB1.out)
 clear hr2 hf2 HM
 go_wp2_with fail
 refine (HX.out w2 HR2.out).mono ?_
 rintro e w3 ⟨u,rfl,hu,hr3,hf3⟩
 obtain⟨k3,op3,tb3,nm3,vk3,vn3,vs3,ys3,aa3,nn3,cc3,hxe,rfl,ha3⟩:=hu
 have HXE:=hid hxe
 have HA3:=hid ha3
 have hz3:=hf3.size
 have HR3:=hid hr3
 have HF3:=hid (HF2.out.then hf3)
 have HB3:=hid ((hf3.block w.heap.size (by omega) (by omega)).trans HB2.out)
 clear hr3 hf3 HX ha3 hxe
 have hall:(#[.string (str8 n1),.int .i64 k3,.int .i64 op3,.string (str8 tb3),.string (str8 nm3),.int .i64 vk3,.int .i64 vn3,.string (str8 vs3),.slice aa3 nn3 cc3]:Array Value).all (·.oneCell')=true:=by simp[Value.oneCell']
 go_wp2_with (first
  | (
   refine wpList_store_row rfl 132 (.tmp 2) (.tmp 12) rfl w.heap.size #[.string (str8 n1),.int .i64 k3,.int .i64 op3,.string (str8 tb3),.string (str8 nm3),.int .i64 vk3,.int .i64 vn3,.string (str8 vs3),.slice aa3 nn3 cc3] rfl rfl 132 _ HB3.out Tryz.setInfo rfl hall ?_
   obtain⟨Z,hZ,hZB,hZs,hZR,hZF⟩:=put_box (w:=w) #[.string (str8 n1),.int .i64 k3,.int .i64 op3,.string (str8 tb3),.string (str8 nm3),.int .i64 vk3,.int .i64 vn3,.string (str8 vs3),.slice aa3 nn3 cc3] HB3.out (Nat.le_refl _) hgw HR3.out HF3.out
   rw[hZ]
   clear hZ)
  | fail)
 refine bodyPost_ret (v:=.agg #[.string (str8 n1),.int .i64 k3,.int .i64 op3,.string (str8 tb3),.string (str8 nm3),.int .i64 vk3,.int .i64 vn3,.string (str8 vs3),.slice aa3 nn3 cc3]) (results_cell_row (d:=.struct (Tryz.prog.fieldsOf 132)) Tryz.results184 _ _ w.heap.size 132 _ _ rfl hZB (by kernel_rfl) rfl Tryz.setInfo) rfl ⟨[.string (str8 n1),.int .i64 k3,.int .i64 op3,.string (str8 tb3),.string (str8 nm3),.int .i64 vk3,.int .i64 vn3,.string (str8 vs3),.slice aa3 nn3 cc3],rfl,⟨k3,op3,tb3,nm3,vk3,vn3,vs3,ys3,aa3,nn3,cc3,HXE.out,rfl,?_⟩,hZR,hZF⟩
 exact HA3.out.to hZs (fun b hb _=>⟨by have:w2.heap.size≤b:=hb;omega,by have:w2.heap.size≤b:=hb;omega⟩)
theorem boxset {w:World} {b:Nat} {cs:Array Value} {t:TypeId} (h:w.heap[b]?=some (.cells cs t)) (i:Nat) (v:Value):∃V,w.setCell ⟨b,i,none⟩ v=V∧V.heap[b]?=some (.cells (cs.setIfInBounds i v) t)∧Spares (fun k=>k=b) w V:=by
 refine ⟨_,rfl,?_,(Spares.refl (fun k=>k=b) w).own _ _⟩
 rw[setCell_eq_setRow w b i cs t _ v h]
 exact setRow_heap w b _ _ t _ h
theorem Tryz.colInfo:(Tryz.prog.info? 37).map (·.size)=some 4:=by kernel_rfl
theorem Tryz.itemInfo:(Tryz.prog.info? 135).map (·.size)=some 2:=by kernel_rfl
theorem more_yes {r:Rd} (h:isR [44] r=true):moreColumnsP r=(!(isR [80,82,73,77,65,82,89] (nextR r)),nextR r):=by
 unfold moreColumnsP ifP
 rw[if_pos h]
 rfl
theorem more_no {r:Rd} (h:isR [44] r=false):moreColumnsP r=(false,failR 4 r):=by
 unfold moreColumnsP ifP
 rw[if_neg (by rw[h];exact Bool.false_ne_true)]
 rfl
theorem moreColumns_B (F:Nat):RdsB F 178 moreColumnsP:=fun g r w h=>by
 have HRw:=hid h
 cases hi:isR [44] r with
 |
  true =>
  rw[more_yes hi]
  have HS:Hid (∀V,RdAt F V g r→Calls Tryz.prog 118 #[.pointer (some ⟨g,0,none⟩),.string ⟨#[44]⟩] V fun e w'=>e = .returned (.bool true)∧RdAt F w' g (nextR r)∧Fr g V w'):=hid (fun V hV=>skip_yes F g r V hV [44] hi)
  have HI:Hid (∀V,RdAt F V g (nextR r)→Calls Tryz.prog 191 #[.pointer (some ⟨g,0,none⟩),.string ⟨#[80,82,73,77,65,82,89]⟩] V fun e w'=>e = .returned (.bool (isR [80,82,73,77,65,82,89] (nextR r)))∧Below V.heap.size V w'):=hid (fun V hV=>is_any F g (nextR r) V hV _)
  dsimp only
  generalize isR [80,82,73,77,65,82,89] (nextR r)=b at HI ⊢
  clear h hi
  go_enter Tryz.func178,Tryz.ntmps178
  go_wp2_with fail
  refine (HS.out w HRw.out).mono ?_
  rintro e w1 ⟨rfl,hr1,hf1⟩
  have HR1:=hid hr1
  have HF1:=hid hf1
  clear hr1 hf1 HS
  go_wp2_with fail
  refine (HI.out w1 HR1.out).mono ?_
  rintro e w2 ⟨rfl,hb2⟩
  have HR2:=hid (HR1.out.below hb2)
  have HF2:=hid (HF1.out.thenNew hb2)
  clear hb2 HI
  go_wp2
  go_ret
  exact⟨rfl,HR2.out,HF2.out⟩
 |
  false =>
  rw[more_no hi]
  have HS:Hid (∀V,RdAt F V g r→Calls Tryz.prog 118 #[.pointer (some ⟨g,0,none⟩),.string ⟨#[44]⟩] V fun e w'=>e = .returned (.bool false)∧RdAt F w' g r∧Fr g V w'):=hid (fun V hV=>skip_no F g r V hV [44] hi)
  have HX:=hid (fun V (hV:RdAt F V g r)=>fail_any F g r V hV 4 (by decide))
  dsimp only
  clear h hi
  go_enter Tryz.func178,Tryz.ntmps178
  go_wp2_with fail
  refine (HS.out w HRw.out).mono ?_
  rintro e w1 ⟨rfl,hr1,hf1⟩
  have HR1:=hid hr1
  have HF1:=hid hf1
  clear hr1 hf1 HS
  go_wp2_with fail
  refine (HX.out w1 HR1.out).mono ?_
  rintro e w2 ⟨rfl,hr2,hf2⟩
  have HR2:=hid hr2
  have HF2:=hid (HF1.out.then hf2)
  clear hr2 hf2 HX
  go_wp2
  go_ret
  exact⟨rfl,HR2.out,HF2.out⟩
def kindR (r:Rd):Rd:=if (chooseP kindsB r).1=0 then failR 4 (chooseP kindsB r).2 else (chooseP kindsB r).2
def nnR (r:Rd):Rd:=if isR [78,79,84] r=true then (mustsP [[78,85,76,76]] (nextR r)).2 else r
theorem column_eq (r:Rd):columnP r=(⟨(nameP r).1,(chooseP kindsB (nameP r).2).1,isR [78,79,84] (kindR (nameP r).2),isR [85,78,73,81,85,69] (nnR (kindR (nameP r).2))⟩,skipR [85,78,73,81,85,69] (nnR (kindR (nameP r).2))):=by
 unfold columnP bindP
 have e1 : ∀q:Rd,((if (chooseP kindsB (nameP r).2).1=0 then failP 4 else retP ()) q).2=if (chooseP kindsB (nameP r).2).1=0 then failR 4 q else q:=fun q=>by split<;>rfl
 have e2 : ∀q:Rd,(ifP [78,79,84] (fun r=>retP true (mustP [78,85,76,76] r).2) (retP false) q)=(isR [78,79,84] q,nnR q):=fun q=>by
  unfold ifP nnR
  split
  ·rename_i h;rw[h];rfl
  ·rename_i h;rw[Bool.not_eq_true] at h;rw[h];rfl
 dsimp only
 rw[e1,e2,skipP_eq]
 rfl
theorem column_any (F:Nat):RdsX F ColE 177 columnP:=fun g r w h hD=>by
 rw[column_eq]
 have hgw:=h.lt
 obtain⟨w0,hW,hbW,hzW,hcW⟩:=box8 w (.cells #[.string ⟨#[]⟩,.int .i64 0,.bool false,.bool false] 37)
 have HCW:=hid hcW
 have HR0:=hid (h.below hbW)
 have HF0:=hid (Spares.of_new (S:=fun k=>k=g) hbW)
 have HN:=hid (fun V (hV:RdAt F V g r)=>name_any F g r V hV)
 dsimp only
 generalize (nameP r).1=n1 at HN ⊢
 generalize (nameP r).2=r1 at HN ⊢
 have HC:Hid (∀V,RdAt F V g r1→Calls Tryz.prog 109 #[.pointer (some ⟨g,0,none⟩),.slice (some ⟨V.heap.size,0,none⟩) 2 2] (V.alloc (.cells #[.string ⟨#[73,78,84]⟩,.int .i64 1,.string ⟨#[84,69,88,84]⟩,.int .i64 2] 155)) fun e w'=>e = .returned (.int .i64 (chooseP kindsB r1).1)∧RdAt F w' g (chooseP kindsB r1).2∧Fr g V w'):=hid (fun V hV=>choose_new F g r1 kindsB (by decide) V hV)
 have hkr:kindR r1=if (chooseP kindsB r1).1=0 then failR 4 (chooseP kindsB r1).2 else (chooseP kindsB r1).2:=rfl
 obtain⟨k1,hk1⟩:∃x,(chooseP kindsB r1).1=x:=⟨_,rfl⟩
 obtain⟨r2,hr2e⟩:∃x,(chooseP kindsB r1).2=x:=⟨_,rfl⟩
 rw[hk1,hr2e] at hkr HC
 rw[hk1]
 obtain⟨r3,hr3e⟩:∃x,kindR r1=x:=⟨_,rfl⟩
 rw[hr3e] at hkr ⊢
 obtain⟨r4,hr4e⟩:∃x,nnR r3=x:=⟨_,rfl⟩
 have hnr:nnR r3=if isR [78,79,84] r3=true then (mustsP [[78,85,76,76]] (nextR r3)).2 else r3:=rfl
 rw[hr4e] at hnr ⊢
 have HU:Hid (∀V,RdAt F V g r4→Calls Tryz.prog 118 #[.pointer (some ⟨g,0,none⟩),.string ⟨#[85,78,73,81,85,69]⟩] V fun e w'=>e = .returned (.bool (isR [85,78,73,81,85,69] r4))∧RdAt F w' g (skipR [85,78,73,81,85,69] r4)∧Fr g V w'):=hid (fun V hV=>skip_any F g r4 V hV [85,78,73,81,85,69])
 generalize isR [85,78,73,81,85,69] r4=u1 at HU ⊢
 generalize skipR [85,78,73,81,85,69] r4=r5 at HU ⊢
 clear h hD hcW hbW hk1 hr2e hr3e hr4e
 by_cases h0:k1=0
 ·rw[if_pos h0] at hkr
  subst h0
  have HX:=hid (fun V (hV:RdAt F V g r2)=>fail_any F g r2 V hV 4 (by decide))
  rw[← hkr] at HX
  clear hkr
  cases hi:isR [78,79,84] r3 with
  |
   true =>
   rw[if_pos hi] at hnr
   have HS:Hid (∀V,RdAt F V g r3→Calls Tryz.prog 118 #[.pointer (some ⟨g,0,none⟩),.string ⟨#[78,79,84]⟩] V fun e w'=>e = .returned (.bool true)∧RdAt F w' g (nextR r3)∧Fr g V w'):=hid (fun V hV=>skip_yes F g r3 V hV [78,79,84] hi)
   have HM:Hid (∀V,RdAt F V g (nextR r3)→Calls Tryz.prog 111 #[.pointer (some ⟨g,0,none⟩),.slice (some ⟨V.heap.size,0,none⟩) 1 1] (V.alloc (.cells #[.string ⟨#[78,85,76,76]⟩] 9)) fun e w'=>e = .returned (.tuple #[])∧RdAt F w' g (mustsP [[78,85,76,76]] (nextR r3)).2∧Fr g V w'):=hid (fun V hV=>must_new F g (nextR r3) [[78,85,76,76]] (by decide) V hV)
   rw[← hnr] at HM
   clear hi hnr
   go_enter Tryz.func177,Tryz.ntmps177
   go_wp2_with fail
   try rw[hW]
   clear hW
   refine (HN.out w0 HR0.out).mono ?_
   rintro e w1 ⟨rfl,hr1,hf1⟩
   have hz1:=hf1.size
   go_wp2_with fail
   obtain⟨V1,hV1,hbV1,hzV1,hcV1⟩:=box8 w1 (.cells #[.string (str8 n1),.int .i64 0,.bool false,.bool false] 37)
   have hVs:V1.heap.size=w1.heap.size+1:=by rw[← hV1];simp
   have hC1:=HC.out V1 (hr1.below hbV1)
   rw[hVs] at hC1
   have HC1:=hid hC1
   have HFV1:=hid ((HF0.out.then hf1).thenNew hbV1)
   have HB01:=hid ((hbV1.block w.heap.size (by omega)).trans ((hf1.block w.heap.size hzW (by omega)).trans HCW.out))
   have HB11:=hid hcV1
   rw[hV1]
   clear hV1 hr1 hf1 hbV1 hcV1 hC1 HN HC hVs
   refine HC1.out.mono ?_
   rintro e w2 ⟨rfl,hr2,hf2⟩
   have hz2:=hf2.size
   have hB12:=(hf2.block w1.heap.size hzV1 (by omega)).trans HB11.out
   have k12:=cells4 hB12
   obtain⟨V2,hV2,hcV2,hsV2⟩:=boxset hB12 1 (.int .i64 0)
   have hcV2:V2.heap[w1.heap.size]?=some (.cells #[.string (str8 n1),.int .i64 0,.bool false,.bool false] 37):=hcV2
   have kV2:=cells4 hcV2
   have hzV2:=hsV2.size
   have HRV2:=hid (hr2.keeps hsV2 (fun i hi e=>by omega))
   have HFV2:Hid (Fr g w V2):=hid ((HFV1.out.then hf2).andThen hsV2 (fun i hi=>.inr (by omega)))
   have HB0V2:=hid ((hsV2.block w.heap.size (by omega) (by omega)).trans ((hf2.block w.heap.size (by omega) (by omega)).trans HB01.out))
   have HB1V2:=hid hcV2
   clear hr2 hf2 hB12 hcV2 hsV2 HC1
   go_wp2_with fail
   refine (HX.out V2 HRV2.out).mono ?_
   rintro e w3 ⟨rfl,hr3,hf3⟩
   have hz3:=hf3.size
   have HR3:=hid hr3
   have HF3:=hid (HFV2.out.then hf3)
   have HB03:=hid ((hf3.block w.heap.size (by omega) (by omega)).trans HB0V2.out)
   have HB13:=hid ((hf3.block w1.heap.size (by omega) (by omega)).trans HB1V2.out)
   clear hr3 hf3 HX kV2
   clear hV2 k12
   go_wp2_with fail
   refine (HS.out w3 HR3.out).mono ?_
   rintro e w4 ⟨rfl,hr4,hf4⟩
   have hz4:=hf4.size
   have HR4:=hid hr4
   have HF4:=hid (HF3.out.then hf4)
   have HB04:=hid ((hf4.block w.heap.size (by omega) (by omega)).trans HB03.out)
   have HB14:=hid ((hf4.block w1.heap.size (by omega) (by omega)).trans HB13.out)
   clear hr4 hf4 HS
   go_wp2_with fail
   refine (HM.out w4 HR4.out).mono ?_
   rintro e w5 ⟨rfl,hr5,hf5⟩
   have hz5:=hf5.size
   have hB15:=(hf5.block w1.heap.size (by omega) (by omega)).trans HB14.out
   have k15:=cells4 hB15
   obtain⟨V5,hV5,hcV5,hsV5⟩:=boxset hB15 2 (.bool true)
   have hcV5:V5.heap[w1.heap.size]?=some (.cells #[.string (str8 n1),.int .i64 0,.bool true,.bool false] 37):=hcV5
   have hzV5:=hsV5.size
   have HR5:=hid (hr5.keeps hsV5 (fun i hi e=>by omega))
   have HF5:Hid (Fr g w V5):=hid ((HF4.out.then hf5).andThen hsV5 (fun i hi=>.inr (by omega)))
   have HB05:=hid ((hsV5.block w.heap.size (by omega) (by omega)).trans ((hf5.block w.heap.size (by omega) (by omega)).trans HB04.out))
   have HB15:=hid hcV5
   clear hr5 hf5 hB15 hcV5 hsV5 HM
   go_wp2_with fail
   refine (HU.out V5 HR5.out).mono ?_
   rintro e w6 ⟨rfl,hr6,hf6⟩
   have hz6:=hf6.size
   have hB16:=(hf6.block w1.heap.size (by omega) (by omega)).trans HB15.out
   have k16:=cells4 hB16
   obtain⟨V6,hV6,hcV6,hsV6⟩:=boxset hB16 3 (.bool u1)
   have hcV6:V6.heap[w1.heap.size]?=some (.cells #[.string (str8 n1),.int .i64 0,.bool true,.bool u1] 37):=hcV6
   have hzV6:=hsV6.size
   have HR6:=hid (hr6.keeps hsV6 (fun i hi e=>by omega))
   have HF6:Hid (Fr g w V6):=hid ((HF5.out.then hf6).andThen hsV6 (fun i hi=>.inr (by omega)))
   have HB06:=hid ((hsV6.block w.heap.size (by omega) (by omega)).trans ((hf6.block w.heap.size (by omega) (by omega)).trans HB05.out))
   have kV6:=cells4 hcV6
   have hall:(#[.string (str8 n1),.int .i64 0,.bool true,.bool u1]:Array Value).all (·.oneCell')=true:=by simp[Value.oneCell']
   clear hr6 hf6 hB16 hcV6 hsV6 HU
   go_wp2_with (first
    | (
     refine wpList_store_row rfl 37 (.tmp 2) (.tmp 27) rfl w.heap.size #[.string (str8 n1),.int .i64 0,.bool true,.bool u1] rfl rfl 37 _ HB06.out Tryz.colInfo rfl hall ?_
     obtain⟨Z,hZ,hZB,hZs,hZR,hZF⟩:=put_box (w:=w) #[.string (str8 n1),.int .i64 0,.bool true,.bool u1] HB06.out (Nat.le_refl _) hgw HR6.out HF6.out
     rw[hZ]
     clear hZ)
    | fail)
   have kc:=cells4 hZB
   exact bodyPost_ret (v:=.agg #[.string (str8 n1),.int .i64 0,.bool true,.bool u1]) (by simp[results,Tryz.results177,go_sem,kc]) rfl ⟨_,rfl,rfl,hZR,hZF⟩
  |
   false =>
   rw[if_neg (by rw[hi];exact Bool.false_ne_true)] at hnr
   subst hnr
   have HS:Hid (∀V,RdAt F V g r4→Calls Tryz.prog 118 #[.pointer (some ⟨g,0,none⟩),.string ⟨#[78,79,84]⟩] V fun e w'=>e = .returned (.bool false)∧RdAt F w' g r4∧Fr g V w'):=hid (fun V hV=>skip_no F g r4 V hV [78,79,84] hi)
   clear hi
   go_enter Tryz.func177,Tryz.ntmps177
   go_wp2_with fail
   try rw[hW]
   clear hW
   refine (HN.out w0 HR0.out).mono ?_
   rintro e w1 ⟨rfl,hr1,hf1⟩
   have hz1:=hf1.size
   go_wp2_with fail
   obtain⟨V1,hV1,hbV1,hzV1,hcV1⟩:=box8 w1 (.cells #[.string (str8 n1),.int .i64 0,.bool false,.bool false] 37)
   have hVs:V1.heap.size=w1.heap.size+1:=by rw[← hV1];simp
   have hC1:=HC.out V1 (hr1.below hbV1)
   rw[hVs] at hC1
   have HC1:=hid hC1
   have HFV1:=hid ((HF0.out.then hf1).thenNew hbV1)
   have HB01:=hid ((hbV1.block w.heap.size (by omega)).trans ((hf1.block w.heap.size hzW (by omega)).trans HCW.out))
   have HB11:=hid hcV1
   rw[hV1]
   clear hV1 hr1 hf1 hbV1 hcV1 hC1 HN HC hVs
   refine HC1.out.mono ?_
   rintro e w2 ⟨rfl,hr2,hf2⟩
   have hz2:=hf2.size
   have hB12:=(hf2.block w1.heap.size hzV1 (by omega)).trans HB11.out
   have k12:=cells4 hB12
   obtain⟨V2,hV2,hcV2,hsV2⟩:=boxset hB12 1 (.int .i64 0)
   have hcV2:V2.heap[w1.heap.size]?=some (.cells #[.string (str8 n1),.int .i64 0,.bool false,.bool false] 37):=hcV2
   have kV2:=cells4 hcV2
   have hzV2:=hsV2.size
   have HRV2:=hid (hr2.keeps hsV2 (fun i hi e=>by omega))
   have HFV2:Hid (Fr g w V2):=hid ((HFV1.out.then hf2).andThen hsV2 (fun i hi=>.inr (by omega)))
   have HB0V2:=hid ((hsV2.block w.heap.size (by omega) (by omega)).trans ((hf2.block w.heap.size (by omega) (by omega)).trans HB01.out))
   have HB1V2:=hid hcV2
   clear hr2 hf2 hB12 hcV2 hsV2 HC1
   go_wp2_with fail
   refine (HX.out V2 HRV2.out).mono ?_
   rintro e w3 ⟨rfl,hr3,hf3⟩
   have hz3:=hf3.size
   have HR3:=hid hr3
   have HF3:=hid (HFV2.out.then hf3)
   have HB03:=hid ((hf3.block w.heap.size (by omega) (by omega)).trans HB0V2.out)
   have HB13:=hid ((hf3.block w1.heap.size (by omega) (by omega)).trans HB1V2.out)
   clear hr3 hf3 HX kV2
   clear hV2 k12
   go_wp2_with fail
   refine (HS.out w3 HR3.out).mono ?_
   rintro e w4 ⟨rfl,hr4,hf4⟩
   have hz4:=hf4.size
   have HR4:=hid hr4
   have HF4:=hid (HF3.out.then hf4)
   have HB04:=hid ((hf4.block w.heap.size (by omega) (by omega)).trans HB03.out)
   have HB14:=hid ((hf4.block w1.heap.size (by omega) (by omega)).trans HB13.out)
   clear hr4 hf4 HS
   obtain⟨V5,hw5⟩:∃x,x=w4:=⟨_,rfl⟩
   subst hw5
   have hzV5:=Nat.le_refl V5.heap.size
   have HR5:=HR4
   have HF5:=HF4
   have HB05:=HB04
   have HB15:=HB14
   go_wp2_with fail
   refine (HU.out V5 HR5.out).mono ?_
   rintro e w6 ⟨rfl,hr6,hf6⟩
   have hz6:=hf6.size
   have hB16:=(hf6.block w1.heap.size (by omega) (by omega)).trans HB15.out
   have k16:=cells4 hB16
   obtain⟨V6,hV6,hcV6,hsV6⟩:=boxset hB16 3 (.bool u1)
   have hcV6:V6.heap[w1.heap.size]?=some (.cells #[.string (str8 n1),.int .i64 0,.bool false,.bool u1] 37):=hcV6
   have hzV6:=hsV6.size
   have HR6:=hid (hr6.keeps hsV6 (fun i hi e=>by omega))
   have HF6:Hid (Fr g w V6):=hid ((HF5.out.then hf6).andThen hsV6 (fun i hi=>.inr (by omega)))
   have HB06:=hid ((hsV6.block w.heap.size (by omega) (by omega)).trans ((hf6.block w.heap.size (by omega) (by omega)).trans HB05.out))
   have kV6:=cells4 hcV6
   have hall:(#[.string (str8 n1),.int .i64 0,.bool false,.bool u1]:Array Value).all (·.oneCell')=true:=by simp[Value.oneCell']
   clear hr6 hf6 hB16 hcV6 hsV6 HU
   go_wp2_with (first
    | (
     refine wpList_store_row rfl 37 (.tmp 2) (.tmp 27) rfl w.heap.size #[.string (str8 n1),.int .i64 0,.bool false,.bool u1] rfl rfl 37 _ HB06.out Tryz.colInfo rfl hall ?_
     obtain⟨Z,hZ,hZB,hZs,hZR,hZF⟩:=put_box (w:=w) #[.string (str8 n1),.int .i64 0,.bool false,.bool u1] HB06.out (Nat.le_refl _) hgw HR6.out HF6.out
     rw[hZ]
     clear hZ)
    | fail)
   have kc:=cells4 hZB
   exact bodyPost_ret (v:=.agg #[.string (str8 n1),.int .i64 0,.bool false,.bool u1]) (by simp[results,Tryz.results177,go_sem,kc]) rfl ⟨_,rfl,rfl,hZR,hZF⟩
 ·rw[if_neg h0] at hkr
  have h0':(k1==0)=false:=by simpa using h0
  subst hkr
  clear h0
  cases hi:isR [78,79,84] r3 with
  |
   true =>
   rw[if_pos hi] at hnr
   have HS:Hid (∀V,RdAt F V g r3→Calls Tryz.prog 118 #[.pointer (some ⟨g,0,none⟩),.string ⟨#[78,79,84]⟩] V fun e w'=>e = .returned (.bool true)∧RdAt F w' g (nextR r3)∧Fr g V w'):=hid (fun V hV=>skip_yes F g r3 V hV [78,79,84] hi)
   have HM:Hid (∀V,RdAt F V g (nextR r3)→Calls Tryz.prog 111 #[.pointer (some ⟨g,0,none⟩),.slice (some ⟨V.heap.size,0,none⟩) 1 1] (V.alloc (.cells #[.string ⟨#[78,85,76,76]⟩] 9)) fun e w'=>e = .returned (.tuple #[])∧RdAt F w' g (mustsP [[78,85,76,76]] (nextR r3)).2∧Fr g V w'):=hid (fun V hV=>must_new F g (nextR r3) [[78,85,76,76]] (by decide) V hV)
   rw[← hnr] at HM
   clear hi hnr
   go_enter Tryz.func177,Tryz.ntmps177
   go_wp2_with fail
   try rw[hW]
   clear hW
   refine (HN.out w0 HR0.out).mono ?_
   rintro e w1 ⟨rfl,hr1,hf1⟩
   have hz1:=hf1.size
   go_wp2_with fail
   obtain⟨V1,hV1,hbV1,hzV1,hcV1⟩:=box8 w1 (.cells #[.string (str8 n1),.int .i64 0,.bool false,.bool false] 37)
   have hVs:V1.heap.size=w1.heap.size+1:=by rw[← hV1];simp
   have hC1:=HC.out V1 (hr1.below hbV1)
   rw[hVs] at hC1
   have HC1:=hid hC1
   have HFV1:=hid ((HF0.out.then hf1).thenNew hbV1)
   have HB01:=hid ((hbV1.block w.heap.size (by omega)).trans ((hf1.block w.heap.size hzW (by omega)).trans HCW.out))
   have HB11:=hid hcV1
   rw[hV1]
   clear hV1 hr1 hf1 hbV1 hcV1 hC1 HN HC hVs
   refine HC1.out.mono ?_
   rintro e w2 ⟨rfl,hr2,hf2⟩
   have hz2:=hf2.size
   have hB12:=(hf2.block w1.heap.size hzV1 (by omega)).trans HB11.out
   have k12:=cells4 hB12
   obtain⟨V2,hV2,hcV2,hsV2⟩:=boxset hB12 1 (.int .i64 k1)
   have hcV2:V2.heap[w1.heap.size]?=some (.cells #[.string (str8 n1),.int .i64 k1,.bool false,.bool false] 37):=hcV2
   have kV2:=cells4 hcV2
   have hzV2:=hsV2.size
   have HRV2:=hid (hr2.keeps hsV2 (fun i hi e=>by omega))
   have HFV2:Hid (Fr g w V2):=hid ((HFV1.out.then hf2).andThen hsV2 (fun i hi=>.inr (by omega)))
   have HB0V2:=hid ((hsV2.block w.heap.size (by omega) (by omega)).trans ((hf2.block w.heap.size (by omega) (by omega)).trans HB01.out))
   have HB1V2:=hid hcV2
   clear hr2 hf2 hB12 hcV2 hsV2 HC1
   obtain⟨w3,hw3⟩:∃x,x=V2:=⟨_,rfl⟩
   subst hw3
   have hz3:=Nat.le_refl w3.heap.size
   have HR3:=HRV2
   have HF3:=HFV2
   have HB03:=HB0V2
   have HB13:=HB1V2
   go_wp2_with fail
   refine (HS.out w3 HR3.out).mono ?_
   rintro e w4 ⟨rfl,hr4,hf4⟩
   have hz4:=hf4.size
   have HR4:=hid hr4
   have HF4:=hid (HF3.out.then hf4)
   have HB04:=hid ((hf4.block w.heap.size (by omega) (by omega)).trans HB03.out)
   have HB14:=hid ((hf4.block w1.heap.size (by omega) (by omega)).trans HB13.out)
   clear hr4 hf4 HS
   clear hV2 k12 kV2
   go_wp2_with fail
   refine (HM.out w4 HR4.out).mono ?_
   rintro e w5 ⟨rfl,hr5,hf5⟩
   have hz5:=hf5.size
   have hB15:=(hf5.block w1.heap.size (by omega) (by omega)).trans HB14.out
   have k15:=cells4 hB15
   obtain⟨V5,hV5,hcV5,hsV5⟩:=boxset hB15 2 (.bool true)
   have hcV5:V5.heap[w1.heap.size]?=some (.cells #[.string (str8 n1),.int .i64 k1,.bool true,.bool false] 37):=hcV5
   have hzV5:=hsV5.size
   have HR5:=hid (hr5.keeps hsV5 (fun i hi e=>by omega))
   have HF5:Hid (Fr g w V5):=hid ((HF4.out.then hf5).andThen hsV5 (fun i hi=>.inr (by omega)))
   have HB05:=hid ((hsV5.block w.heap.size (by omega) (by omega)).trans ((hf5.block w.heap.size (by omega) (by omega)).trans HB04.out))
   have HB15:=hid hcV5
   clear hr5 hf5 hB15 hcV5 hsV5 HM
   go_wp2_with fail
   refine (HU.out V5 HR5.out).mono ?_
   rintro e w6 ⟨rfl,hr6,hf6⟩
   have hz6:=hf6.size
   have hB16:=(hf6.block w1.heap.size (by omega) (by omega)).trans HB15.out
   have k16:=cells4 hB16
   obtain⟨V6,hV6,hcV6,hsV6⟩:=boxset hB16 3 (.bool u1)
   have hcV6:V6.heap[w1.heap.size]?=some (.cells #[.string (str8 n1),.int .i64 k1,.bool true,.bool u1] 37):=hcV6
   have hzV6:=hsV6.size
   have HR6:=hid (hr6.keeps hsV6 (fun i hi e=>by omega))
   have HF6:Hid (Fr g w V6):=hid ((HF5.out.then hf6).andThen hsV6 (fun i hi=>.inr (by omega)))
   have HB06:=hid ((hsV6.block w.heap.size (by omega) (by omega)).trans ((hf6.block w.heap.size (by omega) (by omega)).trans HB05.out))
   have kV6:=cells4 hcV6
   have hall:(#[.string (str8 n1),.int .i64 k1,.bool true,.bool u1]:Array Value).all (·.oneCell')=true:=by simp[Value.oneCell']
   clear hr6 hf6 hB16 hcV6 hsV6 HU
   go_wp2_with (first
    | (
     refine wpList_store_row rfl 37 (.tmp 2) (.tmp 27) rfl w.heap.size #[.string (str8 n1),.int .i64 k1,.bool true,.bool u1] rfl rfl 37 _ HB06.out Tryz.colInfo rfl hall ?_
     obtain⟨Z,hZ,hZB,hZs,hZR,hZF⟩:=put_box (w:=w) #[.string (str8 n1),.int .i64 k1,.bool true,.bool u1] HB06.out (Nat.le_refl _) hgw HR6.out HF6.out
     rw[hZ]
     clear hZ)
    | fail)
   have kc:=cells4 hZB
   exact bodyPost_ret (v:=.agg #[.string (str8 n1),.int .i64 k1,.bool true,.bool u1]) (by simp[results,Tryz.results177,go_sem,kc]) rfl ⟨_,rfl,rfl,hZR,hZF⟩
  |
   false =>
   rw[if_neg (by rw[hi];exact Bool.false_ne_true)] at hnr
   subst hnr
   have HS:Hid (∀V,RdAt F V g r4→Calls Tryz.prog 118 #[.pointer (some ⟨g,0,none⟩),.string ⟨#[78,79,84]⟩] V fun e w'=>e = .returned (.bool false)∧RdAt F w' g r4∧Fr g V w'):=hid (fun V hV=>skip_no F g r4 V hV [78,79,84] hi)
   clear hi
   go_enter Tryz.func177,Tryz.ntmps177
   go_wp2_with fail
   try rw[hW]
   clear hW
   refine (HN.out w0 HR0.out).mono ?_
   rintro e w1 ⟨rfl,hr1,hf1⟩
   have hz1:=hf1.size
   go_wp2_with fail
   obtain⟨V1,hV1,hbV1,hzV1,hcV1⟩:=box8 w1 (.cells #[.string (str8 n1),.int .i64 0,.bool false,.bool false] 37)
   have hVs:V1.heap.size=w1.heap.size+1:=by rw[← hV1];simp
   have hC1:=HC.out V1 (hr1.below hbV1)
   rw[hVs] at hC1
   have HC1:=hid hC1
   have HFV1:=hid ((HF0.out.then hf1).thenNew hbV1)
   have HB01:=hid ((hbV1.block w.heap.size (by omega)).trans ((hf1.block w.heap.size hzW (by omega)).trans HCW.out))
   have HB11:=hid hcV1
   rw[hV1]
   clear hV1 hr1 hf1 hbV1 hcV1 hC1 HN HC hVs
   refine HC1.out.mono ?_
   rintro e w2 ⟨rfl,hr2,hf2⟩
   have hz2:=hf2.size
   have hB12:=(hf2.block w1.heap.size hzV1 (by omega)).trans HB11.out
   have k12:=cells4 hB12
   obtain⟨V2,hV2,hcV2,hsV2⟩:=boxset hB12 1 (.int .i64 k1)
   have hcV2:V2.heap[w1.heap.size]?=some (.cells #[.string (str8 n1),.int .i64 k1,.bool false,.bool false] 37):=hcV2
   have kV2:=cells4 hcV2
   have hzV2:=hsV2.size
   have HRV2:=hid (hr2.keeps hsV2 (fun i hi e=>by omega))
   have HFV2:Hid (Fr g w V2):=hid ((HFV1.out.then hf2).andThen hsV2 (fun i hi=>.inr (by omega)))
   have HB0V2:=hid ((hsV2.block w.heap.size (by omega) (by omega)).trans ((hf2.block w.heap.size (by omega) (by omega)).trans HB01.out))
   have HB1V2:=hid hcV2
   clear hr2 hf2 hB12 hcV2 hsV2 HC1
   obtain⟨w3,hw3⟩:∃x,x=V2:=⟨_,rfl⟩
   subst hw3
   have hz3:=Nat.le_refl w3.heap.size
   have HR3:=HRV2
   have HF3:=HFV2
   have HB03:=HB0V2
   have HB13:=HB1V2
   go_wp2_with fail
   refine (HS.out w3 HR3.out).mono ?_
   rintro e w4 ⟨rfl,hr4,hf4⟩
   have hz4:=hf4.size
   have HR4:=hid hr4
   have HF4:=hid (HF3.out.then hf4)
   have HB04:=hid ((hf4.block w.heap.size (by omega) (by omega)).trans HB03.out)
   have HB14:=hid ((hf4.block w1.heap.size (by omega) (by omega)).trans HB13.out)
   clear hr4 hf4 HS
   clear hV2 k12 kV2
   obtain⟨V5,hw5⟩:∃x,x=w4:=⟨_,rfl⟩
   subst hw5
   have hzV5:=Nat.le_refl V5.heap.size
   have HR5:=HR4
   have HF5:=HF4
   have HB05:=HB04
   have HB15:=HB14
   go_wp2_with fail
   refine (HU.out V5 HR5.out).mono ?_
   rintro e w6 ⟨rfl,hr6,hf6⟩
   have hz6:=hf6.size
   have hB16:=(hf6.block w1.heap.size (by omega) (by omega)).trans HB15.out
   have k16:=cells4 hB16
   obtain⟨V6,hV6,hcV6,hsV6⟩:=boxset hB16 3 (.bool u1)
   have hcV6:V6.heap[w1.heap.size]?=some (.cells #[.string (str8 n1),.int .i64 k1,.bool false,.bool u1] 37):=hcV6
   have hzV6:=hsV6.size
   have HR6:=hid (hr6.keeps hsV6 (fun i hi e=>by omega))
   have HF6:Hid (Fr g w V6):=hid ((HF5.out.then hf6).andThen hsV6 (fun i hi=>.inr (by omega)))
   have HB06:=hid ((hsV6.block w.heap.size (by omega) (by omega)).trans ((hf6.block w.heap.size (by omega) (by omega)).trans HB05.out))
   have kV6:=cells4 hcV6
   have hall:(#[.string (str8 n1),.int .i64 k1,.bool false,.bool u1]:Array Value).all (·.oneCell')=true:=by simp[Value.oneCell']
   clear hr6 hf6 hB16 hcV6 hsV6 HU
   go_wp2_with (first
    | (
     refine wpList_store_row rfl 37 (.tmp 2) (.tmp 27) rfl w.heap.size #[.string (str8 n1),.int .i64 k1,.bool false,.bool u1] rfl rfl 37 _ HB06.out Tryz.colInfo rfl hall ?_
     obtain⟨Z,hZ,hZB,hZs,hZR,hZF⟩:=put_box (w:=w) #[.string (str8 n1),.int .i64 k1,.bool false,.bool u1] HB06.out (Nat.le_refl _) hgw HR6.out HF6.out
     rw[hZ]
     clear hZ)
    | fail)
   have kc:=cells4 hZB
   exact bodyPost_ret (v:=.agg #[.string (str8 n1),.int .i64 k1,.bool false,.bool u1]) (by simp[results,Tryz.results177,go_sem,kc]) rfl ⟨_,rfl,rfl,hZR,hZF⟩
end Go.Proofs.YtaaggohjmhifbaaGreatDoor
