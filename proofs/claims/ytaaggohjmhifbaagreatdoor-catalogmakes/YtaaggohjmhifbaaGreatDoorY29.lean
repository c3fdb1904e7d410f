/- Packed for the hand-in: PPart PItem -/
import Derived.Test.YtaaggohjmhifbaaGreatDoorY28
namespace Go.Proofs.YtaaggohjmhifbaaGreatDoor
open Go.RowKit Go.Shelf
set_option linter.unusedSimpArgs false
set_option linter.unusedVariables false
set_option maxRecDepth 20000
set_option maxHeartbeats 8000000
theorem iQ (t:List UInt8) (r:Rd):(aD [t] r).2=(cK t r).2:=rfl
theorem Jg {read:Pa Ex} {t:List UInt8} {l:List (List UInt8)} {r:Rd} (h:dK t r=false):bI read t l r=([],r):=by
 unfold bI gI
 rw[if_neg (by rw[h];exact Bool.false_ne_true)]
 rfl
theorem GA {read:Pa Ex} {t:List UInt8} {l:List (List UInt8)} {r:Rd} (h:dK t r=true):bI read t l r=([(read (aD l (nextR r)).2).1],(read (aD l (nextR r)).2).2):=by
 unfold bI gI
 rw[if_pos h]
 rfl
theorem qN (F fr:Nat) (p:Pa Ex) (hp:iM F D0 fr p) (eg : ∀args w,(callFunc fr args).run Tryz.prog w = .ok (.enter fr args) w) (t:List UInt8) (l:List (List UInt8)) (g:Nat) (r:Rd) (w:World) (h:aA F w g r) (hD:D0 r) (v:Value) (hv:wJ g w v l) :
  Calls Tryz.prog 115 #[.pointer (some ⟨g,0,none⟩),.func (.func fr) #[.pointer (some ⟨g,0,none⟩)] #[],.string (ah t),v] w fun e w'=>∃(aa:Option Addr) (nn cc:Nat),e = .returned (.slice aa nn cc)∧bg (fun b=>w.heap.size≤b) w' (bI p t l r).1 (.slice aa nn cc)∧aA F w' g (bI p t l r).2∧Fr g w w':=by
 have HV:=hid hv
 have hgw:=h.lt
 cases hi:dK t r with
 |
  false =>
  rw[Jg hi]
  have HS:=hid (fC F g r w h t hi)
  clear h hp hv hi
  go_enter Tryz.func115,Tryz.ntmps115
  go_wp2_with fail
  refine HS.out.mono ?_
  rintro e w1 ⟨rfl,hr1,hf1⟩
  have HR1:=hid hr1
  have HF1:=hid hf1
  clear hr1 hf1 HS
  go_wp2
  exact bodyPost_ret (v:=.slice none 0 0) (by simp[results,Tryz.results115,go_sem]) rfl ⟨none,0,0,rfl,.nil _ _ (by unfold maxLen;omega),HR1.out,HF1.out⟩
 |
  true =>
  rw[GA hi]
  have HS:=hid (eF F g r w h t hi)
  have hG1:=h.good.next (jO hi) (mg hi)
  have hD1:D0 (nextR r):=hD
  have hD2:=hD1.after (aY (b:=false) l) hG1
  have HM:=hid (fun V (hV:aA F V g (nextR r)) (hs:wJ g V v l)=>zU F g (nextR r) V hV v l hs)
  obtain⟨r2,hr2e⟩:∃x,(aD l (nextR r)).2=x:=⟨_,rfl⟩
  rw[hr2e] at HM hD2 ⊢
  have HP:=hid (fun V (hV:aA F V g r2)=>hp g r2 V hV hD2)
  dsimp only
  generalize (p r2).1=y1 at HP ⊢
  generalize (p r2).2=y2 at HP ⊢
  clear h hp hv hi hG1 hD1 hD2 hr2e hD
  go_enter Tryz.func115,Tryz.ntmps115
  go_wp2_with fail
  refine HS.out.mono ?_
  rintro e w1 ⟨rfl,hr1,hf1⟩
  have hz1:=hf1.size
  have HF1:=hid hf1
  have HM1:=hid (HM.out w1 hr1 (HV.out.keeps hf1 (fun i hi e=>by omega)))
  clear hr1 hf1 HS HM
  go_wp2_with fail
  refine HM1.out.mono ?_
  rintro e w2 ⟨rfl,hr2,hf2⟩
  have hz2:=hf2.size
  have HF2:=hid (HF1.out.then hf2)
  have HP2:=hid (HP.out w2 hr2)
  clear hr2 hf2 HM1 HP
  go_wp2_with fail
  refine HP2.out.mono ?_
  rintro e w3 ⟨u,rfl,hu,hr3,hf3⟩
  obtain⟨k3,op3,tb3,nm3,vk3,vn3,vs3,ys3,aa3,nn3,cc3,hxe,rfl,ha3⟩:=hu
  have hz3:=hf3.size
  have HR3:=hid hr3
  have HF3:=hid (HF2.out.then hf3)
  have HA3:=hid ha3
  have HXE:=hid hxe
  clear hr3 hf3 HP2 ha3 hxe
  go_wp2
  obtain⟨U,hU,hbU,hzU,hcU⟩:=bF w3 (.cells #[.int .i64 k3,.int .i64 op3,.string (ah tb3),.string (ah nm3),.int .i64 vk3,.int .i64 vn3,.string (ah vs3),.slice aa3 nn3 cc3] 130)
  rw[hU]
  refine bodyPost_ret (v:=.slice (some ⟨w3.heap.size,0,none⟩) 1 1) (by simp[results,Tryz.results115,go_sem]) rfl ⟨_,1,1,rfl,?_,HR3.out.below hbU,HF3.out.aO hbU⟩
  rw[HXE.out]
  exact lQ (show w.heap.size≤w3.heap.size by omega) hcU (HA3.out.to (R:=fun _=>False) (aj.aC hbU) (fun b hb _=>⟨id,by have:w2.heap.size≤b:=hb;omega⟩))
theorem KT (F:Nat):uz F Bv 232 jk:=fun g r w h _=>by
 refine (xR F g r w h).mono ?_
 rintro e w' ⟨rfl,h1,h2⟩
 exact⟨_,rfl,rfl,h1,h2⟩
theorem tN (F:Nat):wR F 182 bH:=fun g r w h=>Dy F g r w h
theorem Jw (F:Nat):wR F 66 iG:=fun g r w h=>Gn F g r w h
theorem values_eq (r:Rd):fI r=((aR jk bH 8 [] (aD [[40]] r).2).1,(aD [[41]] (aR jk bH 8 [] (aD [[40]] r).2).2).2):=by
 simp only[iQ]
 rfl
theorem Bz (F:Nat):K8 F 181 fI:=fun g r w h hD=>by
 rw[values_eq]
 have hgw:=h.lt
 have HRw:=hid h
 have hD1:=hD.after (aY (b:=false) [[40]]) h.good
 have HM:Hid (∀V,aA F V g r→Calls Tryz.prog 111 #[.pointer (some ⟨g,0,none⟩),.slice (some ⟨V.heap.size,0,none⟩) 1 1] (V.alloc (.cells #[.string ⟨#[40]⟩] 9)) fun e w'=>e = .returned (.tuple #[])∧aA F w' g (aD [[40]] r).2∧Fr g V w'):=hid (fun V hV=>cO F g r [[40]] (by decide) V hV)
 obtain⟨r1,hr1e⟩:∃x,(aD [[40]] r).2=x:=⟨_,rfl⟩
 rw[hr1e] at HM hD1 ⊢
 have HL:Hid (∀V,aA F V g r1→Calls Tryz.prog 231 #[.pointer (some ⟨g,0,none⟩),.int .i64 8,.func (.func 232) #[.pointer (some ⟨g,0,none⟩)] #[],.func (.func 182) #[.pointer (some ⟨g,0,none⟩)] #[]] V fun e w'=>∃(aa:Option Addr) (nn cc:Nat),e = .returned (.slice aa nn cc)∧bP 3 Bv (fun b=>V.heap.size≤b) w' (aR jk bH 8 [] r1).1 (.slice aa nn cc)∧aA F w' g (aR jk bH 8 [] r1).2∧Fr g V w') :=
  hid (fun V hV=>Bj F _ _ jk bH (KT F) (tN F) ny bR (enters_of Tryz.func232 (by kernel_rfl) rfl) (enters_of Tryz.func182 (by kernel_rfl) rfl) 8 (by decide) g r1 V hV hD1)
 dsimp only
 generalize (aR jk bH 8 [] r1).1=l1 at HL ⊢
 generalize (aR jk bH 8 [] r1).2=r2 at HL ⊢
 have HN:Hid (∀V,aA F V g r2→Calls Tryz.prog 111 #[.pointer (some ⟨g,0,none⟩),.slice (some ⟨V.heap.size,0,none⟩) 1 1] (V.alloc (.cells #[.string ⟨#[41]⟩] 9)) fun e w'=>e = .returned (.tuple #[])∧aA F w' g (aD [[41]] r2).2∧Fr g V w'):=hid (fun V hV=>cO F g r2 [[41]] (by decide) V hV)
 generalize (aD [[41]] r2).2=r3 at HN ⊢
 clear h hD hD1 hr1e
 go_enter Tryz.func181,Tryz.ntmps181
 go_wp2_with fail
 refine (HM.out w HRw.out).mono ?_
 rintro e w1 ⟨rfl,hr1,hf1⟩
 have hz1:=hf1.size
 have HR1:=hid hr1
 have HF1:=hid hf1
 clear hr1 hf1 HM
 go_wp2_with fail
 refine (HL.out w1 HR1.out).mono ?_
 rintro e w2 ⟨aa,nn,cc,rfl,hl2,hr2,hf2⟩
 have hz2:=hf2.size
 have HR2:=hid hr2
 have HF2:=hid (HF1.out.then hf2)
 have HL2:=hid hl2
 clear hr2 hf2 HL hl2
 go_wp2_with fail
 refine (HN.out w2 HR2.out).mono ?_
 rintro e w3 ⟨rfl,hr3,hf3⟩
 have HR3:=hid hr3
 have HF3:=hid (HF2.out.then hf3)
 have HL3:=hid (HL2.out.to (by decide) (T:=fun b=>w.heap.size≤b) hf3 (fun b hb _=>⟨by omega,by omega⟩) (fun _ _ e=>e))
 clear hr3 hf3 HN
 go_wp2
 exact bodyPost_ret (v:=.slice aa nn cc) (by simp[results,Tryz.results181,go_sem]) rfl ⟨aa,nn,cc,rfl,HL3.out,HR3.out,HF3.out⟩
theorem J6 (ex:Pa Ex) (r:Rd):nR ex r=(⟨(nameP r).1,(ex (aD [[61]] (nameP r).2).2).1⟩,(ex (aD [[61]] (nameP r).2).2).2):=by
 simp only[iQ]
 rfl
theorem Tryz.setInfo:(Tryz.prog.info? 132).map (·.size)=some 9:=by kernel_rfl
theorem IJ (F:Nat) (ex:Pa Ex) (hx:iM F D0 116 ex):uz F Ab 184 (nR ex):=fun g r w h hD=>by
 rw[J6]
 have hgw:=h.lt
 obtain⟨w0,hW,hbW,hzW,hcW⟩:=bF w (.cells #[.string ⟨#[]⟩,.int .i64 0,.int .i64 0,.string ⟨#[]⟩,.string ⟨#[]⟩,.int .i64 0,.int .i64 0,.string ⟨#[]⟩,.slice none 0 0] 132)
 have HCW:=hid hcW
 have HR0:=hid (h.below hbW)
 have HF0:=hid (aj.aC (S:=fun k=>k=g) hbW)
 have hD1:=hD.after (aZ (b:=false)) h.good
 have hG1:=(aZ (b:=false) (F:=F)).fine r trivial h.good
 have HN:=hid (fun V (hV:aA F V g r)=>gq F g r V hV)
 obtain⟨n1,hn1⟩:∃x,(nameP r).1=x:=⟨_,rfl⟩
 obtain⟨r1,hr1e⟩:∃x,(nameP r).2=x:=⟨_,rfl⟩
 rw[hn1,hr1e] at HN
 rw[hn1,hr1e]
 rw[hr1e] at hD1 hG1
 have hD2:=hD1.after (aY (b:=false) [[61]]) hG1.1
 have HM:Hid (∀V,aA F V g r1→Calls Tryz.prog 111 #[.pointer (some ⟨g,0,none⟩),.slice (some ⟨V.heap.size,0,none⟩) 1 1] (V.alloc (.cells #[.string ⟨#[61]⟩] 9)) fun e w'=>e = .returned (.tuple #[])∧aA F w' g (aD [[61]] r1).2∧Fr g V w'):=hid (fun V hV=>cO F g r1 [[61]] (by decide) V hV)
 obtain⟨r2,hr2e⟩:∃x,(aD [[61]] r1).2=x:=⟨_,rfl⟩
 rw[hr2e] at HM hD2 ⊢
 have HX:=hid (fun V (hV:aA F V g r2)=>hx g r2 V hV hD2)
 dsimp only
 generalize (ex r2).1=y1 at HX ⊢
 generalize (ex r2).2=y2 at HX ⊢
 clear h hD hD1 hD2 hG1 hn1 hr1e hr2e hx hcW hbW
 go_enter Tryz.func184,Tryz.ntmps184
 go_wp2_with fail
 try rw[hW]
 clear hW
 refine (HN.out w0 HR0.out).mono ?_
 rintro e w1 ⟨rfl,hr1,hf1⟩
 have hz1:=hf1.size
 have HR1:=hid hr1
 have HF1:=hid (HF0.out.then hf1)
 have HB1:=hid ((hf1.block w.heap.size hzW (by omega)).trans HCW.out)
 clear hr1 hf1 HN
 go_wp2_with fail
 refine (HM.out w1 HR1.out).mono ?_
 rintro e w2 ⟨rfl,hr2,hf2⟩
 have hz2:=hf2.size
 have HR2:=hid hr2
 have HF2:=hid (HF1.out.then hf2)
 have HB2:=hid ((hf2.block w.heap.size (by omega) (by omega)).trans HB1.out)
 clear hr2 hf2 HM
 go_wp2_with fail
 refine (HX.out w2 HR2.out).mono ?_
 rintro e w3 ⟨u,rfl,hu,hr3,hf3⟩
 obtain⟨k3,op3,tb3,nm3,vk3,vn3,vs3,ys3,aa3,nn3,cc3,hxe,rfl,ha3⟩:=hu
 have HXE:=hid hxe
 have HA3:=hid ha3
 have hz3:=hf3.size
 have HR3:=hid hr3
 have HF3:=hid (HF2.out.then hf3)
 have HB3:=hid ((hf3.block w.heap.size (by omega) (by omega)).trans HB2.out)
 clear hr3 hf3 HX ha3 hxe
 have hall:(#[.string (ah n1),.int .i64 k3,.int .i64 op3,.string (ah tb3),.string (ah nm3),.int .i64 vk3,.int .i64 vn3,.string (ah vs3),.slice aa3 nn3 cc3]:Array Value).all (·.oneCell')=true:=by simp[Value.oneCell']
 go_wp2_with (first
  | (
   refine wpList_store_row rfl 132 (.tmp 2) (.tmp 12) rfl w.heap.size #[.string (ah n1),.int .i64 k3,.int .i64 op3,.string (ah tb3),.string (ah nm3),.int .i64 vk3,.int .i64 vn3,.string (ah vs3),.slice aa3 nn3 cc3] rfl rfl 132 _ HB3.out Tryz.setInfo rfl hall ?_
   obtain⟨Z,hZ,hZB,hZs,hZR,hZF⟩:=fB (w:=w) #[.string (ah n1),.int .i64 k3,.int .i64 op3,.string (ah tb3),.string (ah nm3),.int .i64 vk3,.int .i64 vn3,.string (ah vs3),.slice aa3 nn3 cc3] HB3.out (Nat.le_refl _) hgw HR3.out HF3.out
   rw[hZ]
   clear hZ)
  | fail)
 refine bodyPost_ret (v:=.agg #[.string (ah n1),.int .i64 k3,.int .i64 op3,.string (ah tb3),.string (ah nm3),.int .i64 vk3,.int .i64 vn3,.string (ah vs3),.slice aa3 nn3 cc3]) (results_cell_row (d:=.struct (Tryz.prog.fieldsOf 132)) Tryz.results184 _ _ w.heap.size 132 _ _ rfl hZB (by kernel_rfl) rfl Tryz.setInfo) rfl ⟨[.string (ah n1),.int .i64 k3,.int .i64 op3,.string (ah tb3),.string (ah nm3),.int .i64 vk3,.int .i64 vn3,.string (ah vs3),.slice aa3 nn3 cc3],rfl,⟨k3,op3,tb3,nm3,vk3,vn3,vs3,ys3,aa3,nn3,cc3,HXE.out,rfl,?_⟩,hZR,hZF⟩
 exact HA3.out.to hZs (fun b hb _=>⟨by have:w2.heap.size≤b:=hb;omega,by have:w2.heap.size≤b:=hb;omega⟩)
theorem dS {w:World} {b:Nat} {cs:Array Value} {t:TypeId} (h:w.heap[b]?=some (.cells cs t)) (i:Nat) (v:Value):∃V,w.setCell ⟨b,i,none⟩ v=V∧V.heap[b]?=some (.cells (cs.setIfInBounds i v) t)∧aj (fun k=>k=b) w V:=by
 refine ⟨_,rfl,?_,(aj.refl (fun k=>k=b) w).own _ _⟩
 rw[setCell_eq_setRow w b i cs t _ v h]
 exact setRow_heap w b _ _ t _ h
theorem Tryz.tJ:(Tryz.prog.info? 37).map (·.size)=some 4:=by kernel_rfl
theorem Tryz.nS:(Tryz.prog.info? 135).map (·.size)=some 2:=by kernel_rfl
theorem Fp {r:Rd} (h:dK [44] r=true):bM r=(!(dK [80,82,73,77,65,82,89] (nextR r)),nextR r):=by
 unfold bM gI
 rw[if_pos h]
 rfl
theorem Jd {r:Rd} (h:dK [44] r=false):bM r=(false,dh 4 r):=by
 unfold bM gI
 rw[if_neg (by rw[h];exact Bool.false_ne_true)]
 rfl
theorem vH (F:Nat):wR F 178 bM:=fun g r w h=>by
 have HRw:=hid h
 cases hi:dK [44] r with
 |
  true =>
  rw[Fp hi]
  have HS:Hid (∀V,aA F V g r→Calls Tryz.prog 118 #[.pointer (some ⟨g,0,none⟩),.string ⟨#[44]⟩] V fun e w'=>e = .returned (.bool true)∧aA F w' g (nextR r)∧Fr g V w'):=hid (fun V hV=>eF F g r V hV [44] hi)
  have HI:Hid (∀V,aA F V g (nextR r)→Calls Tryz.prog 191 #[.pointer (some ⟨g,0,none⟩),.string ⟨#[80,82,73,77,65,82,89]⟩] V fun e w'=>e = .returned (.bool (dK [80,82,73,77,65,82,89] (nextR r)))∧Below V.heap.size V w'):=hid (fun V hV=>rP F g (nextR r) V hV _)
  dsimp only
  generalize dK [80,82,73,77,65,82,89] (nextR r)=b at HI ⊢
  clear h hi
  go_enter Tryz.func178,Tryz.ntmps178
  go_wp2_with fail
  refine (HS.out w HRw.out).mono ?_
  rintro e w1 ⟨rfl,hr1,hf1⟩
  have HR1:=hid hr1
  have HF1:=hid hf1
  clear hr1 hf1 HS
  go_wp2_with fail
  refine (HI.out w1 HR1.out).mono ?_
  rintro e w2 ⟨rfl,hb2⟩
  have HR2:=hid (HR1.out.below hb2)
  have HF2:=hid (HF1.out.aO hb2)
  clear hb2 HI
  go_wp2
  go_ret
  exact⟨rfl,HR2.out,HF2.out⟩
 |
  false =>
  rw[Jd hi]
  have HS:Hid (∀V,aA F V g r→Calls Tryz.prog 118 #[.pointer (some ⟨g,0,none⟩),.string ⟨#[44]⟩] V fun e w'=>e = .returned (.bool false)∧aA F w' g r∧Fr g V w'):=hid (fun V hV=>fC F g r V hV [44] hi)
  have HX:=hid (fun V (hV:aA F V g r)=>fK F g r V hV 4 (by decide))
  dsimp only
  clear h hi
  go_enter Tryz.func178,Tryz.ntmps178
  go_wp2_with fail
  refine (HS.out w HRw.out).mono ?_
  rintro e w1 ⟨rfl,hr1,hf1⟩
  have HR1:=hid hr1
  have HF1:=hid hf1
  clear hr1 hf1 HS
  go_wp2_with fail
  refine (HX.out w1 HR1.out).mono ?_
  rintro e w2 ⟨rfl,hr2,hf2⟩
  have HR2:=hid hr2
  have HF2:=hid (HF1.out.then hf2)
  clear hr2 hf2 HX
  go_wp2
  go_ret
  exact⟨rfl,HR2.out,HF2.out⟩
def yh (r:Rd):Rd:=if (aF gJ r).1=0 then dh 4 (aF gJ r).2 else (aF gJ r).2
def KE (r:Rd):Rd:=if dK [78,79,84] r=true then (aD [[78,85,76,76]] (nextR r)).2 else r
theorem Dj (r:Rd):eX r=(⟨(nameP r).1,(aF gJ (nameP r).2).1,dK [78,79,84] (yh (nameP r).2),dK [85,78,73,81,85,69] (KE (yh (nameP r).2))⟩,gT [85,78,73,81,85,69] (KE (yh (nameP r).2))):=by
 unfold eX aB
 have e1 : ∀q:Rd,((if (aF gJ (nameP r).2).1=0 then iF 4 else aT ()) q).2=if (aF gJ (nameP r).2).1=0 then dh 4 q else q:=fun q=>by split<;>rfl
 have e2 : ∀q:Rd,(gI [78,79,84] (fun r=>aT true (cK [78,85,76,76] r).2) (aT false) q)=(dK [78,79,84] q,KE q):=fun q=>by
  unfold gI KE
  split
  ·rename_i h;rw[h];rfl
  ·rename_i h;rw[Bool.not_eq_true] at h;rw[h];rfl
 dsimp only
 rw[e1,e2,ku]
 rfl
theorem BJ (F:Nat):uz F iE 177 eX:=fun g r w h hD=>by
 rw[Dj]
 have hgw:=h.lt
 obtain⟨w0,hW,hbW,hzW,hcW⟩:=bF w (.cells #[.string ⟨#[]⟩,.int .i64 0,.bool false,.bool false] 37)
 have HCW:=hid hcW
 have HR0:=hid (h.below hbW)
 have HF0:=hid (aj.aC (S:=fun k=>k=g) hbW)
 have HN:=hid (fun V (hV:aA F V g r)=>gq F g r V hV)
 dsimp only
 generalize (nameP r).1=n1 at HN ⊢
 generalize (nameP r).2=r1 at HN ⊢
 have HC:Hid (∀V,aA F V g r1→Calls Tryz.prog 109 #[.pointer (some ⟨g,0,none⟩),.slice (some ⟨V.heap.size,0,none⟩) 2 2] (V.alloc (.cells #[.string ⟨#[73,78,84]⟩,.int .i64 1,.string ⟨#[84,69,88,84]⟩,.int .i64 2] 155)) fun e w'=>e = .returned (.int .i64 (aF gJ r1).1)∧aA F w' g (aF gJ r1).2∧Fr g V w'):=hid (fun V hV=>iN F g r1 gJ (by decide) V hV)
 have hkr:yh r1=if (aF gJ r1).1=0 then dh 4 (aF gJ r1).2 else (aF gJ r1).2:=rfl
 obtain⟨k1,hk1⟩:∃x,(aF gJ r1).1=x:=⟨_,rfl⟩
 obtain⟨r2,hr2e⟩:∃x,(aF gJ r1).2=x:=⟨_,rfl⟩
 rw[hk1,hr2e] at hkr HC
 rw[hk1]
 obtain⟨r3,hr3e⟩:∃x,yh r1=x:=⟨_,rfl⟩
 rw[hr3e] at hkr ⊢
 obtain⟨r4,hr4e⟩:∃x,KE r3=x:=⟨_,rfl⟩
 have hnr:KE r3=if dK [78,79,84] r3=true then (aD [[78,85,76,76]] (nextR r3)).2 else r3:=rfl
 rw[hr4e] at hnr ⊢
 have HU:Hid (∀V,aA F V g r4→Calls Tryz.prog 118 #[.pointer (some ⟨g,0,none⟩),.string ⟨#[85,78,73,81,85,69]⟩] V fun e w'=>e = .returned (.bool (dK [85,78,73,81,85,69] r4))∧aA F w' g (gT [85,78,73,81,85,69] r4)∧Fr g V w'):=hid (fun V hV=>jM F g r4 V hV [85,78,73,81,85,69])
 generalize dK [85,78,73,81,85,69] r4=u1 at HU ⊢
 generalize gT [85,78,73,81,85,69] r4=r5 at HU ⊢
 clear h hD hcW hbW hk1 hr2e hr3e hr4e
 by_cases h0:k1=0
 ·rw[if_pos h0] at hkr
  subst h0
  have HX:=hid (fun V (hV:aA F V g r2)=>fK F g r2 V hV 4 (by decide))
  rw[← hkr] at HX
  clear hkr
  cases hi:dK [78,79,84] r3 with
  |
   true =>
   rw[if_pos hi] at hnr
   have HS:Hid (∀V,aA F V g r3→Calls Tryz.prog 118 #[.pointer (some ⟨g,0,none⟩),.string ⟨#[78,79,84]⟩] V fun e w'=>e = .returned (.bool true)∧aA F w' g (nextR r3)∧Fr g V w'):=hid (fun V hV=>eF F g r3 V hV [78,79,84] hi)
   have HM:Hid (∀V,aA F V g (nextR r3)→Calls Tryz.prog 111 #[.pointer (some ⟨g,0,none⟩),.slice (some ⟨V.heap.size,0,none⟩) 1 1] (V.alloc (.cells #[.string ⟨#[78,85,76,76]⟩] 9)) fun e w'=>e = .returned (.tuple #[])∧aA F w' g (aD [[78,85,76,76]] (nextR r3)).2∧Fr g V w'):=hid (fun V hV=>cO F g (nextR r3) [[78,85,76,76]] (by decide) V hV)
   rw[← hnr] at HM
   clear hi hnr
   go_enter Tryz.func177,Tryz.ntmps177
   go_wp2_with fail
   try rw[hW]
   clear hW
   refine (HN.out w0 HR0.out).mono ?_
   rintro e w1 ⟨rfl,hr1,hf1⟩
   have hz1:=hf1.size
   go_wp2_with fail
   obtain⟨V1,hV1,hbV1,hzV1,hcV1⟩:=bF w1 (.cells #[.string (ah n1),.int .i64 0,.bool false,.bool false] 37)
   have hVs:V1.heap.size=w1.heap.size+1:=by rw[← hV1];simp
   have hC1:=HC.out V1 (hr1.below hbV1)
   rw[hVs] at hC1
   have HC1:=hid hC1
   have HFV1:=hid ((HF0.out.then hf1).aO hbV1)
   have HB01:=hid ((hbV1.block w.heap.size (by omega)).trans ((hf1.block w.heap.size hzW (by omega)).trans HCW.out))
   have HB11:=hid hcV1
   rw[hV1]
   clear hV1 hr1 hf1 hbV1 hcV1 hC1 HN HC hVs
   refine HC1.out.mono ?_
   rintro e w2 ⟨rfl,hr2,hf2⟩
   have hz2:=hf2.size
   have hB12:=(hf2.block w1.heap.size hzV1 (by omega)).trans HB11.out
   have k12:=aW hB12
   obtain⟨V2,hV2,hcV2,hsV2⟩:=dS hB12 1 (.int .i64 0)
   have hcV2:V2.heap[w1.heap.size]?=some (.cells #[.string (ah n1),.int .i64 0,.bool false,.bool false] 37):=hcV2
   have kV2:=aW hcV2
   have hzV2:=hsV2.size
   have HRV2:=hid (hr2.keeps hsV2 (fun i hi e=>by omega))
   have HFV2:Hid (Fr g w V2):=hid ((HFV1.out.then hf2).andThen hsV2 (fun i hi=>.inr (by omega)))
   have HB0V2:=hid ((hsV2.block w.heap.size (by omega) (by omega)).trans ((hf2.block w.heap.size (by omega) (by omega)).trans HB01.out))
   have HB1V2:=hid hcV2
   clear hr2 hf2 hB12 hcV2 hsV2 HC1
   go_wp2_with fail
   refine (HX.out V2 HRV2.out).mono ?_
   rintro e w3 ⟨rfl,hr3,hf3⟩
   have hz3:=hf3.size
   have HR3:=hid hr3
   have HF3:=hid (HFV2.out.then hf3)
   have HB03:=hid ((hf3.block w.heap.size (by omega) (by omega)).trans HB0V2.out)
   have HB13:=hid ((hf3.block w1.heap.size (by omega) (by omega)).trans HB1V2.out)
   clear hr3 hf3 HX kV2
   clear hV2 k12
   go_wp2_with fail
   refine (HS.out w3 HR3.out).mono ?_
   rintro e w4 ⟨rfl,hr4,hf4⟩
   have hz4:=hf4.size
   have HR4:=hid hr4
   have HF4:=hid (HF3.out.then hf4)
   have HB04:=hid ((hf4.block w.heap.size (by omega) (by omega)).trans HB03.out)
   have HB14:=hid ((hf4.block w1.heap.size (by omega) (by omega)).trans HB13.out)
   clear hr4 hf4 HS
   go_wp2_with fail
   refine (HM.out w4 HR4.out).mono ?_
   rintro e w5 ⟨rfl,hr5,hf5⟩
   have hz5:=hf5.size
   have hB15:=(hf5.block w1.heap.size (by omega) (by omega)).trans HB14.out
   have k15:=aW hB15
   obtain⟨V5,hV5,hcV5,hsV5⟩:=dS hB15 2 (.bool true)
   have hcV5:V5.heap[w1.heap.size]?=some (.cells #[.string (ah n1),.int .i64 0,.bool true,.bool false] 37):=hcV5
   have hzV5:=hsV5.size
   have HR5:=hid (hr5.keeps hsV5 (fun i hi e=>by omega))
   have HF5:Hid (Fr g w V5):=hid ((HF4.out.then hf5).andThen hsV5 (fun i hi=>.inr (by omega)))
   have HB05:=hid ((hsV5.block w.heap.size (by omega) (by omega)).trans ((hf5.block w.heap.size (by omega) (by omega)).trans HB04.out))
   have HB15:=hid hcV5
   clear hr5 hf5 hB15 hcV5 hsV5 HM
   go_wp2_with fail
   refine (HU.out V5 HR5.out).mono ?_
   rintro e w6 ⟨rfl,hr6,hf6⟩
   have hz6:=hf6.size
   have hB16:=(hf6.block w1.heap.size (by omega) (by omega)).trans HB15.out
   have k16:=aW hB16
   obtain⟨V6,hV6,hcV6,hsV6⟩:=dS hB16 3 (.bool u1)
   have hcV6:V6.heap[w1.heap.size]?=some (.cells #[.string (ah n1),.int .i64 0,.bool true,.bool u1] 37):=hcV6
   have hzV6:=hsV6.size
   have HR6:=hid (hr6.keeps hsV6 (fun i hi e=>by omega))
   have HF6:Hid (Fr g w V6):=hid ((HF5.out.then hf6).andThen hsV6 (fun i hi=>.inr (by omega)))
   have HB06:=hid ((hsV6.block w.heap.size (by omega) (by omega)).trans ((hf6.block w.heap.size (by omega) (by omega)).trans HB05.out))
   have kV6:=aW hcV6
   have hall:(#[.string (ah n1),.int .i64 0,.bool true,.bool u1]:Array Value).all (·.oneCell')=true:=by simp[Value.oneCell']
   clear hr6 hf6 hB16 hcV6 hsV6 HU
   go_wp2_with (first
    | (
     refine wpList_store_row rfl 37 (.tmp 2) (.tmp 27) rfl w.heap.size #[.string (ah n1),.int .i64 0,.bool true,.bool u1] rfl rfl 37 _ HB06.out Tryz.tJ rfl hall ?_
     obtain⟨Z,hZ,hZB,hZs,hZR,hZF⟩:=fB (w:=w) #[.string (ah n1),.int .i64 0,.bool true,.bool u1] HB06.out (Nat.le_refl _) hgw HR6.out HF6.out
     rw[hZ]
     clear hZ)
    | fail)
   have kc:=aW hZB
   exact bodyPost_ret (v:=.agg #[.string (ah n1),.int .i64 0,.bool true,.bool u1]) (by simp[results,Tryz.results177,go_sem,kc]) rfl ⟨_,rfl,rfl,hZR,hZF⟩
  |
   false =>
   rw[if_neg (by rw[hi];exact Bool.false_ne_true)] at hnr
   subst hnr
   have HS:Hid (∀V,aA F V g r4→Calls Tryz.prog 118 #[.pointer (some ⟨g,0,none⟩),.string ⟨#[78,79,84]⟩] V fun e w'=>e = .returned (.bool false)∧aA F w' g r4∧Fr g V w'):=hid (fun V hV=>fC F g r4 V hV [78,79,84] hi)
   clear hi
   go_enter Tryz.func177,Tryz.ntmps177
   go_wp2_with fail
   try rw[hW]
   clear hW
   refine (HN.out w0 HR0.out).mono ?_
   rintro e w1 ⟨rfl,hr1,hf1⟩
   have hz1:=hf1.size
   go_wp2_with fail
   obtain⟨V1,hV1,hbV1,hzV1,hcV1⟩:=bF w1 (.cells #[.string (ah n1),.int .i64 0,.bool false,.bool false] 37)
   have hVs:V1.heap.size=w1.heap.size+1:=by rw[← hV1];simp
   have hC1:=HC.out V1 (hr1.below hbV1)
   rw[hVs] at hC1
   have HC1:=hid hC1
   have HFV1:=hid ((HF0.out.then hf1).aO hbV1)
   have HB01:=hid ((hbV1.block w.heap.size (by omega)).trans ((hf1.block w.heap.size hzW (by omega)).trans HCW.out))
   have HB11:=hid hcV1
   rw[hV1]
   clear hV1 hr1 hf1 hbV1 hcV1 hC1 HN HC hVs
   refine HC1.out.mono ?_
   rintro e w2 ⟨rfl,hr2,hf2⟩
   have hz2:=hf2.size
   have hB12:=(hf2.block w1.heap.size hzV1 (by omega)).trans HB11.out
   have k12:=aW hB12
   obtain⟨V2,hV2,hcV2,hsV2⟩:=dS hB12 1 (.int .i64 0)
   have hcV2:V2.heap[w1.heap.size]?=some (.cells #[.string (ah n1),.int .i64 0,.bool false,.bool false] 37):=hcV2
   have kV2:=aW hcV2
   have hzV2:=hsV2.size
   have HRV2:=hid (hr2.keeps hsV2 (fun i hi e=>by omega))
   have HFV2:Hid (Fr g w V2):=hid ((HFV1.out.then hf2).andThen hsV2 (fun i hi=>.inr (by omega)))
   have HB0V2:=hid ((hsV2.block w.heap.size (by omega) (by omega)).trans ((hf2.block w.heap.size (by omega) (by omega)).trans HB01.out))
   have HB1V2:=hid hcV2
   clear hr2 hf2 hB12 hcV2 hsV2 HC1
   go_wp2_with fail
   refine (HX.out V2 HRV2.out).mono ?_
   rintro e w3 ⟨rfl,hr3,hf3⟩
   have hz3:=hf3.size
   have HR3:=hid hr3
   have HF3:=hid (HFV2.out.then hf3)
   have HB03:=hid ((hf3.block w.heap.size (by omega) (by omega)).trans HB0V2.out)
   have HB13:=hid ((hf3.block w1.heap.size (by omega) (by omega)).trans HB1V2.out)
   clear hr3 hf3 HX kV2
   clear hV2 k12
   go_wp2_with fail
   refine (HS.out w3 HR3.out).mono ?_
   rintro e w4 ⟨rfl,hr4,hf4⟩
   have hz4:=hf4.size
   have HR4:=hid hr4
   have HF4:=hid (HF3.out.then hf4)
   have HB04:=hid ((hf4.block w.heap.size (by omega) (by omega)).trans HB03.out)
   have HB14:=hid ((hf4.block w1.heap.size (by omega) (by omega)).trans HB13.out)
   clear hr4 hf4 HS
   obtain⟨V5,hw5⟩:∃x,x=w4:=⟨_,rfl⟩
   subst hw5
   have hzV5:=Nat.le_refl V5.heap.size
   have HR5:=HR4
   have HF5:=HF4
   have HB05:=HB04
   have HB15:=HB14
   go_wp2_with fail
   refine (HU.out V5 HR5.out).mono ?_
   rintro e w6 ⟨rfl,hr6,hf6⟩
   have hz6:=hf6.size
   have hB16:=(hf6.block w1.heap.size (by omega) (by omega)).trans HB15.out
   have k16:=aW hB16
   obtain⟨V6,hV6,hcV6,hsV6⟩:=dS hB16 3 (.bool u1)
   have hcV6:V6.heap[w1.heap.size]?=some (.cells #[.string (ah n1),.int .i64 0,.bool false,.bool u1] 37):=hcV6
   have hzV6:=hsV6.size
   have HR6:=hid (hr6.keeps hsV6 (fun i hi e=>by omega))
   have HF6:Hid (Fr g w V6):=hid ((HF5.out.then hf6).andThen hsV6 (fun i hi=>.inr (by omega)))
   have HB06:=hid ((hsV6.block w.heap.size (by omega) (by omega)).trans ((hf6.block w.heap.size (by omega) (by omega)).trans HB05.out))
   have kV6:=aW hcV6
   have hall:(#[.string (ah n1),.int .i64 0,.bool false,.bool u1]:Array Value).all (·.oneCell')=true:=by simp[Value.oneCell']
   clear hr6 hf6 hB16 hcV6 hsV6 HU
   go_wp2_with (first
    | (
     refine wpList_store_row rfl 37 (.tmp 2) (.tmp 27) rfl w.heap.size #[.string (ah n1),.int .i64 0,.bool false,.bool u1] rfl rfl 37 _ HB06.out Tryz.tJ rfl hall ?_
     obtain⟨Z,hZ,hZB,hZs,hZR,hZF⟩:=fB (w:=w) #[.string (ah n1),.int .i64 0,.bool false,.bool u1] HB06.out (Nat.le_refl _) hgw HR6.out HF6.out
     rw[hZ]
     clear hZ)
    | fail)
   have kc:=aW hZB
   exact bodyPost_ret (v:=.agg #[.string (ah n1),.int .i64 0,.bool false,.bool u1]) (by simp[results,Tryz.results177,go_sem,kc]) rfl ⟨_,rfl,rfl,hZR,hZF⟩
 ·rw[if_neg h0] at hkr
  have h0':(k1==0)=false:=by simpa using h0
  subst hkr
  clear h0
  cases hi:dK [78,79,84] r3 with
  |
   true =>
   rw[if_pos hi] at hnr
   have HS:Hid (∀V,aA F V g r3→Calls Tryz.prog 118 #[.pointer (some ⟨g,0,none⟩),.string ⟨#[78,79,84]⟩] V fun e w'=>e = .returned (.bool true)∧aA F w' g (nextR r3)∧Fr g V w'):=hid (fun V hV=>eF F g r3 V hV [78,79,84] hi)
   have HM:Hid (∀V,aA F V g (nextR r3)→Calls Tryz.prog 111 #[.pointer (some ⟨g,0,none⟩),.slice (some ⟨V.heap.size,0,none⟩) 1 1] (V.alloc (.cells #[.string ⟨#[78,85,76,76]⟩] 9)) fun e w'=>e = .returned (.tuple #[])∧aA F w' g (aD [[78,85,76,76]] (nextR r3)).2∧Fr g V w'):=hid (fun V hV=>cO F g (nextR r3) [[78,85,76,76]] (by decide) V hV)
   rw[← hnr] at HM
   clear hi hnr
   go_enter Tryz.func177,Tryz.ntmps177
   go_wp2_with fail
   try rw[hW]
   clear hW
   refine (HN.out w0 HR0.out).mono ?_
   rintro e w1 ⟨rfl,hr1,hf1⟩
   have hz1:=hf1.size
   go_wp2_with fail
   obtain⟨V1,hV1,hbV1,hzV1,hcV1⟩:=bF w1 (.cells #[.string (ah n1),.int .i64 0,.bool false,.bool false] 37)
   have hVs:V1.heap.size=w1.heap.size+1:=by rw[← hV1];simp
   have hC1:=HC.out V1 (hr1.below hbV1)
   rw[hVs] at hC1
   have HC1:=hid hC1
   have HFV1:=hid ((HF0.out.then hf1).aO hbV1)
   have HB01:=hid ((hbV1.block w.heap.size (by omega)).trans ((hf1.block w.heap.size hzW (by omega)).trans HCW.out))
   have HB11:=hid hcV1
   rw[hV1]
   clear hV1 hr1 hf1 hbV1 hcV1 hC1 HN HC hVs
   refine HC1.out.mono ?_
   rintro e w2 ⟨rfl,hr2,hf2⟩
   have hz2:=hf2.size
   have hB12:=(hf2.block w1.heap.size hzV1 (by omega)).trans HB11.out
   have k12:=aW hB12
   obtain⟨V2,hV2,hcV2,hsV2⟩:=dS hB12 1 (.int .i64 k1)
   have hcV2:V2.heap[w1.heap.size]?=some (.cells #[.string (ah n1),.int .i64 k1,.bool false,.bool false] 37):=hcV2
   have kV2:=aW hcV2
   have hzV2:=hsV2.size
   have HRV2:=hid (hr2.keeps hsV2 (fun i hi e=>by omega))
   have HFV2:Hid (Fr g w V2):=hid ((HFV1.out.then hf2).andThen hsV2 (fun i hi=>.inr (by omega)))
   have HB0V2:=hid ((hsV2.block w.heap.size (by omega) (by omega)).trans ((hf2.block w.heap.size (by omega) (by omega)).trans HB01.out))
   have HB1V2:=hid hcV2
   clear hr2 hf2 hB12 hcV2 hsV2 HC1
   obtain⟨w3,hw3⟩:∃x,x=V2:=⟨_,rfl⟩
   subst hw3
   have hz3:=Nat.le_refl w3.heap.size
   have HR3:=HRV2
   have HF3:=HFV2
   have HB03:=HB0V2
   have HB13:=HB1V2
   go_wp2_with fail
   refine (HS.out w3 HR3.out).mono ?_
   rintro e w4 ⟨rfl,hr4,hf4⟩
   have hz4:=hf4.size
   have HR4:=hid hr4
   have HF4:=hid (HF3.out.then hf4)
   have HB04:=hid ((hf4.block w.heap.size (by omega) (by omega)).trans HB03.out)
   have HB14:=hid ((hf4.block w1.heap.size (by omega) (by omega)).trans HB13.out)
   clear hr4 hf4 HS
   clear hV2 k12 kV2
   go_wp2_with fail
   refine (HM.out w4 HR4.out).mono ?_
   rintro e w5 ⟨rfl,hr5,hf5⟩
   have hz5:=hf5.size
   have hB15:=(hf5.block w1.heap.size (by omega) (by omega)).trans HB14.out
   have k15:=aW hB15
   obtain⟨V5,hV5,hcV5,hsV5⟩:=dS hB15 2 (.bool true)
   have hcV5:V5.heap[w1.heap.size]?=some (.cells #[.string (ah n1),.int .i64 k1,.bool true,.bool false] 37):=hcV5
   have hzV5:=hsV5.size
   have HR5:=hid (hr5.keeps hsV5 (fun i hi e=>by omega))
   have HF5:Hid (Fr g w V5):=hid ((HF4.out.then hf5).andThen hsV5 (fun i hi=>.inr (by omega)))
   have HB05:=hid ((hsV5.block w.heap.size (by omega) (by omega)).trans ((hf5.block w.heap.size (by omega) (by omega)).trans HB04.out))
   have HB15:=hid hcV5
   clear hr5 hf5 hB15 hcV5 hsV5 HM
   go_wp2_with fail
   refine (HU.out V5 HR5.out).mono ?_
   rintro e w6 ⟨rfl,hr6,hf6⟩
   have hz6:=hf6.size
   have hB16:=(hf6.block w1.heap.size (by omega) (by omega)).trans HB15.out
   have k16:=aW hB16
   obtain⟨V6,hV6,hcV6,hsV6⟩:=dS hB16 3 (.bool u1)
   have hcV6:V6.heap[w1.heap.size]?=some (.cells #[.string (ah n1),.int .i64 k1,.bool true,.bool u1] 37):=hcV6
   have hzV6:=hsV6.size
   have HR6:=hid (hr6.keeps hsV6 (fun i hi e=>by omega))
   have HF6:Hid (Fr g w V6):=hid ((HF5.out.then hf6).andThen hsV6 (fun i hi=>.inr (by omega)))
   have HB06:=hid ((hsV6.block w.heap.size (by omega) (by omega)).trans ((hf6.block w.heap.size (by omega) (by omega)).trans HB05.out))
   have kV6:=aW hcV6
   have hall:(#[.string (ah n1),.int .i64 k1,.bool true,.bool u1]:Array Value).all (·.oneCell')=true:=by simp[Value.oneCell']
   clear hr6 hf6 hB16 hcV6 hsV6 HU
   go_wp2_with (first
    | (
     refine wpList_store_row rfl 37 (.tmp 2) (.tmp 27) rfl w.heap.size #[.string (ah n1),.int .i64 k1,.bool true,.bool u1] rfl rfl 37 _ HB06.out Tryz.tJ rfl hall ?_
     obtain⟨Z,hZ,hZB,hZs,hZR,hZF⟩:=fB (w:=w) #[.string (ah n1),.int .i64 k1,.bool true,.bool u1] HB06.out (Nat.le_refl _) hgw HR6.out HF6.out
     rw[hZ]
     clear hZ)
    | fail)
   have kc:=aW hZB
   exact bodyPost_ret (v:=.agg #[.string (ah n1),.int .i64 k1,.bool true,.bool u1]) (by simp[results,Tryz.results177,go_sem,kc]) rfl ⟨_,rfl,rfl,hZR,hZF⟩
  |
   false =>
   rw[if_neg (by rw[hi];exact Bool.false_ne_true)] at hnr
   subst hnr
   have HS:Hid (∀V,aA F V g r4→Calls Tryz.prog 118 #[.pointer (some ⟨g,0,none⟩),.string ⟨#[78,79,84]⟩] V fun e w'=>e = .returned (.bool false)∧aA F w' g r4∧Fr g V w'):=hid (fun V hV=>fC F g r4 V hV [78,79,84] hi)
   clear hi
   go_enter Tryz.func177,Tryz.ntmps177
   go_wp2_with fail
   try rw[hW]
   clear hW
   refine (HN.out w0 HR0.out).mono ?_
   rintro e w1 ⟨rfl,hr1,hf1⟩
   have hz1:=hf1.size
   go_wp2_with fail
   obtain⟨V1,hV1,hbV1,hzV1,hcV1⟩:=bF w1 (.cells #[.string (ah n1),.int .i64 0,.bool false,.bool false] 37)
   have hVs:V1.heap.size=w1.heap.size+1:=by rw[← hV1];simp
   have hC1:=HC.out V1 (hr1.below hbV1)
   rw[hVs] at hC1
   have HC1:=hid hC1
   have HFV1:=hid ((HF0.out.then hf1).aO hbV1)
   have HB01:=hid ((hbV1.block w.heap.size (by omega)).trans ((hf1.block w.heap.size hzW (by omega)).trans HCW.out))
   have HB11:=hid hcV1
   rw[hV1]
   clear hV1 hr1 hf1 hbV1 hcV1 hC1 HN HC hVs
   refine HC1.out.mono ?_
   rintro e w2 ⟨rfl,hr2,hf2⟩
   have hz2:=hf2.size
   have hB12:=(hf2.block w1.heap.size hzV1 (by omega)).trans HB11.out
   have k12:=aW hB12
   obtain⟨V2,hV2,hcV2,hsV2⟩:=dS hB12 1 (.int .i64 k1)
   have hcV2:V2.heap[w1.heap.size]?=some (.cells #[.string (ah n1),.int .i64 k1,.bool false,.bool false] 37):=hcV2
   have kV2:=aW hcV2
   have hzV2:=hsV2.size
   have HRV2:=hid (hr2.keeps hsV2 (fun i hi e=>by omega))
   have HFV2:Hid (Fr g w V2):=hid ((HFV1.out.then hf2).andThen hsV2 (fun i hi=>.inr (by omega)))
   have HB0V2:=hid ((hsV2.block w.heap.size (by omega) (by omega)).trans ((hf2.block w.heap.size (by omega) (by omega)).trans HB01.out))
   have HB1V2:=hid hcV2
   clear hr2 hf2 hB12 hcV2 hsV2 HC1
   obtain⟨w3,hw3⟩:∃x,x=V2:=⟨_,rfl⟩
   subst hw3
   have hz3:=Nat.le_refl w3.heap.size
   have HR3:=HRV2
   have HF3:=HFV2
   have HB03:=HB0V2
   have HB13:=HB1V2
   go_wp2_with fail
   refine (HS.out w3 HR3.out).mono ?_
   rintro e w4 ⟨rfl,hr4,hf4⟩
   have hz4:=hf4.size
   have HR4:=hid hr4
   have HF4:=hid (HF3.out.then hf4)
   have HB04:=hid ((hf4.block w.heap.size (by omega) (by omega)).trans HB03.out)
   have HB14:=hid ((hf4.block w1.heap.size (by omega) (by omega)).trans HB13.out)
   clear hr4 hf4 HS
   clear hV2 k12 kV2
   obtain⟨V5,hw5⟩:∃x,x=w4:=⟨_,rfl⟩
   subst hw5
   have hzV5:=Nat.le_refl V5.heap.size
   have HR5:=HR4
   have HF5:=HF4
   have HB05:=HB04
   have HB15:=HB14
   go_wp2_with fail
   refine (HU.out V5 HR5.out).mono ?_
   rintro e w6 ⟨rfl,hr6,hf6⟩
   have hz6:=hf6.size
   have hB16:=(hf6.block w1.heap.size (by omega) (by omega)).trans HB15.out
   have k16:=aW hB16
   obtain⟨V6,hV6,hcV6,hsV6⟩:=dS hB16 3 (.bool u1)
   have hcV6:V6.heap[w1.heap.size]?=some (.cells #[.string (ah n1),.int .i64 k1,.bool false,.bool u1] 37):=hcV6
   have hzV6:=hsV6.size
   have HR6:=hid (hr6.keeps hsV6 (fun i hi e=>by omega))
   have HF6:Hid (Fr g w V6):=hid ((HF5.out.then hf6).andThen hsV6 (fun i hi=>.inr (by omega)))
   have HB06:=hid ((hsV6.block w.heap.size (by omega) (by omega)).trans ((hf6.block w.heap.size (by omega) (by omega)).trans HB05.out))
   have kV6:=aW hcV6
   have hall:(#[.string (ah n1),.int .i64 k1,.bool false,.bool u1]:Array Value).all (·.oneCell')=true:=by simp[Value.oneCell']
   clear hr6 hf6 hB16 hcV6 hsV6 HU
   go_wp2_with (first
    | (
     refine wpList_store_row rfl 37 (.tmp 2) (.tmp 27) rfl w.heap.size #[.string (ah n1),.int .i64 k1,.bool false,.bool u1] rfl rfl 37 _ HB06.out Tryz.tJ rfl hall ?_
     obtain⟨Z,hZ,hZB,hZs,hZR,hZF⟩:=fB (w:=w) #[.string (ah n1),.int .i64 k1,.bool false,.bool u1] HB06.out (Nat.le_refl _) hgw HR6.out HF6.out
     rw[hZ]
     clear hZ)
    | fail)
   have kc:=aW hZB
   exact bodyPost_ret (v:=.agg #[.string (ah n1),.int .i64 k1,.bool false,.bool u1]) (by simp[results,Tryz.results177,go_sem,kc]) rfl ⟨_,rfl,rfl,hZR,hZF⟩
end Go.Proofs.YtaaggohjmhifbaaGreatDoor
