import Derived.Test.YtfeglkleoijlaaaGreatDoorY40
import Derived.Test.YtfeglkleoijlaaaGreatDoorY35
import Derived.Test.YtfeglkleoijlaaaGreatDoorY27
import Derived.Test.YtfeglkleoijlaaaGreatDoorY24
import Derived.Test.YtfeglkleoijlaaaGreatDoorRows
import Derived.Test.YtfeglkleoijlaaaGreatDoorY05
import Derived.Handed
import Derived.LaidLaws
import Derived.Lay
import Derived.Lib.LaidTab
import Derived.Shelf.Vars
import Derived.SizedLaws
import Derived.MakeChecks
import Derived.Stop.LaidErr
import Derived.OpenShut
import Derived.ChangeArms
import Derived.Test.YtfeglkleoijlaaaGreatDoorY22
import Derived.Test.YtfeglkleoijlaaaGreatDoorCards
namespace Go.Proofs.YtfeglkleoijlaaaGreatDoor
open Go.RowKit Go.Shelf
set_option linter.unusedSimpArgs false
set_option linter.unusedVariables false
set_option maxRecDepth 20000
set_option maxHeartbeats 8000000
theorem MN {w W:World} {zs:List Ex} {v:Value} (hr:nV w.heap.size (fun b=>b<w.heap.size) W zs v) (hB:Below w.heap.size w W) (x:Ex) (cs:List Value) (g:Nat) (hl:cs.length=8) (h1 : ∀u∈cs,u.oneCell'=true) (hg:W.heap[g]?=some (.cells cs.toArray 48)) (hx:jl (fun b=>b<w.heap.size) W x cs) (hn:zs.length≤1000000000) (ty:TypeId) :
  ∃v' W',(Builtin.append_ #[27,27] ty #[v,.slice (some ⟨g,0,none⟩) 1 1]).run Tryz.prog W = .ok v' W'∧nV w.heap.size (fun b=>b<w.heap.size) W' (zs++[x]) v'∧Below w.heap.size w W':=by
 obtain⟨i0,hi,hy0,hy1,hy2⟩:=info_parts Tryz.sU
 obtain⟨css,ho,he⟩:=hr.has
 obtain⟨v',W',hrn,ho2,hg2,_⟩:=run_append_own (P:=Tryz.prog) W w.heap.size 27 ty 48 i0 _ 8 104 Tryz.underlying27 hi hy0 hy1 hy2 rfl (by decide) v zs.length css.flatten ho ⟨g,0,none⟩ 1 1 cs (by omega) (fun j u hu=>by
  rw[Addr.add_lit,Nat.zero_add,cell_of_row _ _ _ _ _ _ hg]
  simpa using hu) h1 (by unfold maxLen;omega) (by omega) hB.size
 have hsp:=jD hg2
 have hlow : ∀b,v.ownBlock=some b→w.heap.size≤b:=fun b hb=>(ho.lt b hb).1
 refine ⟨v',W',hrn,⟨css++[cs],?_,?_⟩,hB.trans (hsp.below (fun i hi=>hlow i hi) hB.size)⟩
 ·rw[aaN,List.flatten_append]
  simpa using ho2
 ·exact (he.snoc hl hx).to (fun x cs e=>e.to hsp (fun b hb _=>⟨fun e=>by have:=hlow b e;have:b<w.heap.size:=hb;omega,hb⟩))
theorem nV.MF {n0:Nat} {S:Nat→Prop} {W V:World} {zs:List Ex} {v:Value} (h:nV n0 S W zs v) (hb:Below W.heap.size W V):nV n0 S V zs v:=by
 obtain⟨css,ho,he⟩:=h.has
 exact⟨css,ak.row (ak.aA (S:=fun _=>False) hb) ho (fun _ _=>id),he.to (fun x cs e=>e.to (R:=fun _=>False) (ak.aA hb) (fun b hb _=>⟨id,hb⟩))⟩
theorem KI (a:Act) (oi:Oper) (ki:oi.op = .buildSlice 27 0 #[]) (V:World):(execOp a.eval oi).run Tryz.prog V = .ok (.value (.slice (some ⟨V.heap.size,0,none⟩) 0 0)) (V.alloc (.cells #[] 48)):=by
 have u:=Tryz.underlying27
 unfold execOp
 simp only[ki]
 go_simp
def IB (s:St):List Ex:=((s.on++s.wh)++s.gr)++s.od
def gJ (s:St):List Ex:=(IB s++s.sets.map fun x=>x.e)++s.items.flatMap fun i=>i.xs
theorem JR {s:St} {e:Ex} (h:e∈oM s):e∈gJ s:=by
 unfold oM at h
 unfold gJ IB
 simp only[List.mem_append] at h ⊢
 rcases h with h | h | h | h | h | h
 ·exact .inl (.inr h)
 ·exact .inr h
 ·exact .inl (.inl (.inl (.inl (.inl h))))
 ·exact .inl (.inl (.inl (.inl (.inr h))))
 ·exact .inl (.inl (.inl (.inr h)))
 ·exact .inl (.inl (.inr h))
def Sd (s:St):Prop:=(∀e∈gJ s,jK 12 e=true)∧s.tb.length≤4096∧s.jn.length≤4096
theorem Ns {s:St} (h:vZ s):∀e∈gJ s,mO e:=fun e he=>by
 unfold gJ IB at he
 simp only[List.mem_append,List.mem_map,List.mem_flatMap] at he
 rcases he with (((((he | he) | he) | he) | ⟨x,hx,rfl⟩) | ⟨i,hi,he⟩)
 ·exact h.on e he
 ·exact h.wh e he
 ·exact h.gr e he
 ·exact h.od e he
 ·exact (h.sets x hx).2
 ·exact h.items i hi e he
theorem J6 (s:St) (sc:List Value) (w:World) (hR:vZ s) (hs:fD (fun b=>b<w.heap.size) w s sc) (hN:(gJ s).length≤100000000) (ZA:s.sets.length≤100000000∧s.items.length≤1000000000000) :
  Calls Tryz.prog 6 #[.agg sc.toArray] w fun e w'=>∃b,e = .returned (.bool b)∧(b=true→Sd s)∧Below w.heap.size w w':=by
 have hs0:=hs
 obtain⟨b1,b2,b3,b4,b5,b6,b7,b8,m1,m2,m3,m4,m5,m6,m7,m8,d1,d2,d3,d4,d5,d6,d7,d8,rfl,_,_,zY,_⟩:=hs
 obtain⟨W,gI,hbW,aJ,hcA⟩:=aK w (.cells #[.int .i64 s.k,.string (aj s.tb),.slice b1 m1 d1,.string (aj s.aD),.slice b2 m2 d2,.slice b3 m3 d3,.slice b4 m4 d4,.string (aj s.jn),.slice b5 m5 d5,.slice b6 m6 d6,.slice b7 m7 d7,.slice b8 m8 d8,.bool s.desc,.int .i64 s.lim] 29)
 have kA:=au hcA
 have HB:=hid hbW
 have dw:=hid hcA
 have Fj:Hid (∀V,Below W.heap.size W V→fD (fun b=>b<W.heap.size) V s [.int .i64 s.k,.string (aj s.tb),.slice b1 m1 d1,.string (aj s.aD),.slice b2 m2 d2,.slice b3 m3 d3,.slice b4 m4 d4,.string (aj s.jn),.slice b5 m5 d5,.slice b6 m6 d6,.slice b7 m7 d7,.slice b8 m8 d8,.bool s.desc,.int .i64 s.lim]∧aM 9 BM (fun b=>b<W.heap.size) V s.sets (.slice b3 m3 d3)):=hid (fun V hV=>by
  have hb2:=hbW.trans (hV.mono hbW.size)
  exact⟨hs0.to (R:=fun _=>False) (ak.aA hb2) (fun b hb _=>⟨id,aa7 hb hbW.size⟩),zY.to (by decide) (R:=fun _=>False) (ak.aA hb2) (fun b hb _=>⟨id,aa7 hb hbW.size⟩) (fun _ _ e=>e.to (R:=fun _=>False) (ak.aA hb2) (fun b hb _=>⟨id,aa7 hb hbW.size⟩))⟩)
 have hm3:m3=s.sets.length:=by obtain⟨_,_,hf⟩:=zY.form;simp only[aah] at hf;exact hf.2.1
 have Xi:m4=s.items.length:=by obtain⟨_,_,hf⟩:=(fD.slices hs0).1.form;simp only[aah] at hf;exact hf.2.1
 subst hm3 Xi
 have HRA:=hid (Ns hR)
 have HN:=hid hN
 obtain⟨hn1,hn2⟩:=ZA
 clear hbW hcA hs0 zY hR hN
 go_enter Tryz.func6,Tryz.ntmps6
 go_wp2_with fail
 try rw[gI]
 have HS:Hid (∀V,Below W.heap.size W V→V.cell? ⟨w.heap.size,8,none⟩=some (.slice b5 m5 d5)∧V.cell? ⟨w.heap.size,9,none⟩=some (.slice b6 m6 d6)∧(V.cell? ⟨w.heap.size,10,none⟩=some (.slice b7 m7 d7)∧V.cell? ⟨w.heap.size,11,none⟩=some (.slice b8 m8 d8))):=hid (fun V hV=>by
  have q:=au ((hV.block w.heap.size aJ).trans dw.out)
  exact⟨q.2.2.2.2.2.2.2.2.1,q.2.2.2.2.2.2.2.2.2.1,q.2.2.2.2.2.2.2.2.2.2.1,q.2.2.2.2.2.2.2.2.2.2.2.1⟩)
 have hS0:=HS.out W.drew (Below.refl _ W).drew
 have SG:(IB s).length≤100000000:=by
  have:=HN.out
  unfold gJ at this
  simp only[aaN] at this
  omega
 have hla:s.on.length+s.wh.length+s.gr.length+s.od.length≤100000000:=by
  unfold IB at SG
  simp only[aaN] at SG
  omega
 clear SG
 refine dG (fun V:World=>V.cell? ⟨w.heap.size,8,none⟩=some (.slice b5 m5 d5)∧V.cell? ⟨w.heap.size,9,none⟩=some (.slice b6 m6 d6)∧(V.cell? ⟨w.heap.size,10,none⟩=some (.slice b7 m7 d7)∧V.cell? ⟨w.heap.size,11,none⟩=some (.slice b8 m8 d8))) [] (by kernel_rfl) ?_
 refine fF (i:=1) rfl (by assumption) ?_
 refine fF (i:=2) rfl (by assumption) ?_
 refine fF (i:=4) rfl (by assumption) ?_
 refine fF (i:=5) rfl (by assumption) ?_
 refine fF (i:=7) rfl (by assumption) ?_
 refine fF (i:=8) rfl (by assumption) ?_
 refine fF (i:=10) rfl (by assumption) ?_
 refine fF (i:=11) rfl (by assumption) ?_
 obtain⟨Z,hZ,o8,VD,wB⟩:=aK W.drew (.cells #[] 48)
 have jo:Below W.heap.size W Z:=((Below.refl _ W).drew).trans o8
 refine bH (i:=0) (by kernel_rfl) rfl rfl (aW (KI _ _ rfl _) ?_)
 rw[hZ]
 refine ⟨.inl (HS.out Z jo),?_⟩
 simp only[Act.put,aas,aap,aaq,aag,aaw,aay]
 have hr0:nV W.heap.size (fun b=>b<W.heap.size) Z [] (.slice (some ⟨W.drew.heap.size,0,none⟩) 0 0):=⟨[],⟨by simp,.inr ⟨W.drew.heap.size,0,#[],rfl,aaF _,wB,aaF _,by unfold maxLen;omega,rfl,by simp⟩⟩,lH.nil⟩
 obtain⟨v1,W1,hr1,hx1,hb1,_⟩:=oN hr0 jo (fD.slices (Fj.out Z jo).1).2.1 (by simp only[List.length_nil];omega) 27
 refine bH (i:=3) (by kernel_rfl) rfl rfl (aW (dX rfl (by rfl) (by rfl) hr1) ⟨.inl (HS.out W1 hb1),?_⟩)
 simp only[Act.put,aas,aap,aaq,aag,aaw,aay]
 rw[List.nil_append] at hx1
 obtain⟨v2,W2,hr2,hx2,hb2,_⟩:=oN hx1 hb1 (fD.slices (Fj.out W1 hb1).1).2.2.1 (by omega) 27
 refine bH (i:=6) (by kernel_rfl) rfl rfl (aW (dX rfl (by rfl) (by rfl) hr2) ⟨.inl (HS.out W2 hb2),?_⟩)
 simp only[Act.put,aas,aap,aaq,aag,aaw,aay]
 obtain⟨v3,W3,hr3,hx3,hb3,_⟩:=oN hx2 hb2 (fD.slices (Fj.out W2 hb2).1).2.2.2.1 (by simp only[aaN];omega) 27
 refine bH (i:=9) (by kernel_rfl) rfl rfl (aW (dX rfl (by rfl) (by rfl) hr3) ⟨.inl (HS.out W3 hb3),?_⟩)
 simp only[Act.put,aas,aap,aaq,aag,aaw,aay]
 obtain⟨v4,W4,hr4,hx4,hb4,_⟩:=oN hx3 hb3 (fD.slices (Fj.out W3 hb3).1).2.2.2.2 (by simp only[aaN];omega) 27
 refine bH (i:=12) (by kernel_rfl) rfl rfl (aW (dX rfl (by rfl) (by rfl) hr4) ⟨.inl (HS.out W4 hb4),?_⟩)
 simp only[Act.put,aas,aap,aaq,aag,aaw,aay]
 refine fF (i:=13) rfl (HS.out W4 hb4) ?_
 refine bN (by kernel_rfl) ?_ _
 show Only _ .normal _ _
 unfold Only
 have Iu:Hid (nV W.heap.size (fun b=>b<W.heap.size) W4 (IB s++(s.sets.take 0).map fun x=>x.e) v4):=hid (by simpa [IB] using hx4)
 have XH:=hid hb4
 clear hS0 hZ o8 wB jo hr0 hr1 hx1 hb1 hr2 hx2 hb2 hr3 hx3 hb3 hr4 hx4 hb4 hla kA
 go_wp2_with fail
 go_loopw [3,4] (fun v i wr=>∃(k:Nat),k≤s.sets.length∧i = .int .i64 k∧Hid (nV W.heap.size (fun b=>b<W.heap.size) wr (IB s++(s.sets.take k).map fun x=>x.e) v)∧Hid (Below W.heap.size W wr)) (fun _ i _=>s.sets.length-(intOf i).toNat)
 case atStart=>exact⟨0,aaV _,rfl,Iu,XH⟩
 case round =>
  clear Iu XH
  obtain⟨k,hk,rfl,OI,iW⟩:=hrel
  have kW:=au ((iW.out.block w.heap.size aJ).trans dw.out)
  by_cases hlt:k<s.sets.length
  ·have hlt':((k:Int)<(s.sets.length:Int)):=by omega
   obtain⟨y,hy⟩:∃y,s.sets[k]?=some y:=⟨_,aaf hlt⟩
   obtain⟨_,_,_,b,off,cs,rfl,_,hel,hcell⟩:=bC (Fj.out _ iW.out).2 hy
   obtain⟨k1,op1,dN,fU,fJ,fI,vs1,ys1,eD,dF,eB,hye,rfl,hya⟩:=hel
   have Wy:jl (fun b=>b<W.heap.size) wr y.e [.int .i64 k1,.int .i64 op1,.string (aj dN),.string (aj fU),.int .i64 fJ,.int .i64 fI,.string (aj vs1),.slice eD dF eB]:=⟨k1,op1,dN,fU,fJ,fI,vs1,ys1,eD,dF,eB,hye,rfl,hya⟩
   have q1:=hcell 1 _ rfl
   have q2:=hcell 2 _ rfl
   have q3:=hcell 3 _ rfl
   have q4:=hcell 4 _ rfl
   have q5:=hcell 5 _ rfl
   have q6:=hcell 6 _ rfl
   have q7:=hcell 7 _ rfl
   have q8:=hcell 8 _ rfl
   obtain⟨U,hU,bB,jc,eU⟩:=aK wr (.cells #[.int .i64 k1,.int .i64 op1,.string (aj dN),.string (aj fU),.int .i64 fJ,.int .i64 fI,.string (aj vs1),.slice eD dF eB] 48)
   have Zh:=iW.out.trans (bB.mono iW.out.size)
   have hlen:(IB s++(s.sets.take k).map fun x=>x.e).length≤1000000000:=by
    have:=HN.out
    unfold gJ at this
    simp only[aaN,List.length_map,List.length_take] at this ⊢
    omega
   obtain⟨v',W',hrun,hrow,MG⟩:=MN (OI.out.MF bB) Zh y.e _ wr.heap.size rfl (fun u hu=>(Array.all_eq_true_iff_forall_mem.1 (iF k1 op1 (aj dN) (aj fU) fJ fI (aj vs1) eD dF eB)) u (by simpa using hu)) eU (Wy.to (R:=fun _=>False) (ak.aA bB) (fun b hb _=>⟨id,hb⟩)) hlen 27
   have rQ:=hid hrun
   have GY:Hid (nV W.heap.size (fun b=>b<W.heap.size) W' (IB s++(s.sets.take (k+1)).map fun x=>x.e) v'):=hid (by
    have hg:=aam.1 hy
    rw[aaJ hg.1,hg.2,List.map_append,← List.append_assoc]
    exact hrow)
   have eF:=hid MG
   clear hrun hrow MG hcell hye hya Wy bB eU Zh hlen OI hy
   go_wp2_with (first | (at_builtin;(try rw[hU]);refine wpList_append_run _ rfl (.tmp 28) (.tmp 35) 27 rfl _ _ _ _ rfl rfl rQ.out ?_) | fail)
   go_roundw
   case rel=>exact⟨k+1,by omega,by go_num,GY,eF⟩
   case measure=>simp[intOf];omega
  ·have hlt' : ¬((k:Int)<(s.sets.length:Int)):=by omega
   obtain rfl:k=s.sets.length:=by omega
   have HR1:Hid (nV W.heap.size (fun b=>b<W.heap.size) wr ((IB s++s.sets.map fun x=>x.e)++(s.items.take 0).flatMap fun i=>i.xs) _):=hid (by
    have:=OI.out
    rw[List.take_length] at this
    simpa using this)
   clear OI
   go_wp2_with fail
   have HBO:=iW
   obtain⟨wo,hwo⟩:∃x,x=wr:=⟨_,rfl⟩
   clear kW
   go_loopw [3,5] (fun v i wr=>∃(k:Nat),k≤s.items.length∧i = .int .i64 k∧Hid (nV W.heap.size (fun b=>b<W.heap.size) wr ((IB s++s.sets.map fun x=>x.e)++(s.items.take k).flatMap fun i=>i.xs) v)∧Hid (Below W.heap.size W wr)) (fun _ i _=>s.items.length-(intOf i).toNat)
   case atStart=>exact⟨0,aaV _,rfl,HR1,HBO⟩
   case round =>
    clear HR1 HBO iW hwo
    obtain⟨k,hk,rfl,OI,iW⟩:=hrel
    have kW:=au ((iW.out.block w.heap.size aJ).trans dw.out)
    by_cases hlt2:k<s.items.length
    ·have Yv:((k:Int)<(s.items.length:Int)):=by omega
     obtain⟨y,hy⟩:∃y,s.items[k]?=some y:=⟨_,aaf hlt2⟩
     obtain⟨_,_,_,b,off,cs,rfl,_,hel,hcell⟩:=bC (fD.slices (Fj.out _ iW.out).1).1 hy
     obtain⟨eD,dF,eB,rfl,hargs⟩:=hel
     have q1:=hcell 1 _ rfl
     have hg:=aam.1 hy
     have htk:(s.items.take (k+1)).flatMap (fun i=>i.xs)=(s.items.take k).flatMap (fun i=>i.xs)++y.xs:=by
      rw[aaJ hg.1,hg.2,List.flatMap_append]
      simp
     have hlen:((IB s++s.sets.map fun x=>x.e)++(s.items.take k).flatMap fun i=>i.xs).length+y.xs.length≤1000000000:=by
      have h1:=HN.out
      unfold gJ at h1
      have h2:(s.items.flatMap fun i=>i.xs).length=((s.items.take (k+1)).flatMap fun i=>i.xs).length+((s.items.drop (k+1)).flatMap fun i=>i.xs).length:=by
       rw[← aaN,← List.flatMap_append,List.take_append_drop]
      rw[htk] at h2
      simp only[aaN] at h1 h2 ⊢
      omega
     obtain⟨v',W',hrun,hrow,MG,_⟩:=oN OI.out iW.out (eZ hargs) hlen 27
     rw[List.append_assoc,← htk] at hrow
     have rQ:=hid hrun
     have GY:=hid hrow
     have eF:=hid MG
     clear hrun hrow MG hcell hargs hlen OI hy hg htk
     go_wp2_with (first | (at_builtin;refine wpList_append_run _ rfl (.tmp 44) (.tmp 50) 27 rfl _ _ _ _ rfl rfl rQ.out ?_) | fail)
     go_roundw
     case rel=>exact⟨k+1,by omega,by go_num,GY,eF⟩
     case measure=>simp[intOf];omega
    ·have Yv : ¬((k:Int)<(s.items.length:Int)):=by omega
     obtain rfl:k=s.items.length:=by omega
     have HA0:Hid (nV W.heap.size (fun b=>b<W.heap.size) wr (gJ s) _):=hid (by
      have:=OI.out
      rw[List.take_length] at this
      exact this)
     clear OI
     obtain⟨la,lc,hlf⟩:=HA0.out.Rq
     subst hlf
     have HSL:Hid (∀V,Below wr.heap.size wr V→aM 8 jl (fun _=>True) V (gJ s) (.slice la (gJ s).length lc)):=hid (fun V hV=>by
      obtain⟨css,ho,he⟩:=(HA0.out.MF hV).has
      exact aM.iM (by decide) ho (he.to (fun x cs e=>e.to (R:=fun _=>False) (ak.refl _ _) (fun b hb _=>⟨id,trivial⟩))) (fun b hb=>trivial))
     clear HA0
     go_wp2_with fail
     have HB0:=iW
     have hal:=HN.out
     obtain⟨wo,hwo⟩:∃x,x=wr:=⟨_,rfl⟩
     rw[← hwo] at HSL
     clear kW
     go_loopw [6,7] (fun i _ wr=>∃(k:Nat),k≤(gJ s).length∧i = .int .i64 k∧Hid (Below wo.heap.size wo wr)∧Hid (∀e∈(gJ s).take k,jK 12 e=true)) (fun i _ _=>(gJ s).length-(intOf i).toNat)
     case atStart=>exact⟨0,aaV _,rfl,hid (by rw[hwo];exact Below.refl _ _),hid (fun e he=>by cases he)⟩
     case round =>
      rw[← hwo] at HB0
      clear iW hwo
      obtain⟨k,hk,rfl,iW,HK⟩:=hrel
      have eF:=hid (HB0.out.trans (iW.out.mono HB0.out.size))
      have kW:=au ((eF.out.block w.heap.size aJ).trans dw.out)
      by_cases hlt3:k<(gJ s).length
      ·have Yk:((k:Int)<((gJ s).length:Int)):=by omega
       obtain⟨y,hy⟩:∃y,(gJ s)[k]?=some y:=⟨_,aaf hlt3⟩
       obtain⟨_,_,_,b,off,cs,rfl,_,hel,hcell⟩:=bC (HSL.out _ iW.out) hy
       have Qk:=hid (Pz (fun _=>True) 12 y _ wr (by decide) (HRA.out y (aaP hy)) hel.v)
       obtain⟨k1,op1,dN,fU,fJ,fI,vs1,ys1,eD,dF,eB,_,rfl,_⟩:=hel
       have q0:=hcell 0 _ rfl
       have q1:=hcell 1 _ rfl
       have q2:=hcell 2 _ rfl
       have q3:=hcell 3 _ rfl
       have q4:=hcell 4 _ rfl
       have q5:=hcell 5 _ rfl
       have q6:=hcell 6 _ rfl
       have q7:=hcell 7 _ rfl
       simp only[aa2] at q0
       cases hp:jK 12 y with
       |
        true =>
        rw[hp] at Qk
        have mE:Hid (∀e∈(gJ s).take (k+1),jK 12 e=true):=hid (fun e he=>by
         have hg:=aam.1 hy
         rw[aaJ hg.1,hg.2,List.mem_append,List.mem_singleton] at he
         rcases he with he | rfl
         ·exact HK.out e he
         ·exact hp)
        clear hcell hy hp HK
        go_wp2_with fail
        refine Qk.out.mono ?_
        rintro e w2 ⟨rfl,hb2⟩
        have HB2:=htr iW hb2
        clear hb2 Qk
        go_wp2
        go_roundw
        case rel=>exact⟨k+1,by omega,by go_num,HB2,mE⟩
        case measure=>simp[intOf];omega
       |
        false =>
        rw[hp] at Qk
        clear hcell hy hp HK
        go_wp2_with fail
        refine Qk.out.mono ?_
        rintro e w2 ⟨rfl,hb2⟩
        have HB2:=hid (HB.out.trans ((eF.out.trans (hb2.mono eF.out.size)).mono HB.out.size))
        clear hb2 Qk
        go_wp2
        go_ret
        first
        | exact Or.inl ⟨rfl,HB2.out⟩
        | exact⟨false,rfl,(fun e=>by cases e),HB2.out⟩
      ·have Yk : ¬((k:Int)<((gJ s).length:Int)):=by omega
       obtain rfl:k=(gJ s).length:=by omega
       have K6:Hid (∀e∈gJ s,jK 12 e=true):=hid (by
        have:=HK.out
        rw[List.take_length] at this
        exact this)
       have lJ:=hid (HB.out.trans (eF.out.mono HB.out.size))
       have zt:(aj s.tb).size=s.tb.length:=rfl
       have zj:(aj s.jn).size=s.jn.length:=rfl
       have zp:(aj s.aD).size=s.aD.length:=rfl
       clear HK HSL
       by_cases c1:(((gJ s).length:Int)<60)
       ·by_cases c2:((m2:Int)<60)
        ·by_cases c3:((m1:Int)<60)
         ·by_cases c4:(((aj s.tb).size:Int)≤4096)
          ·by_cases c5:(((aj s.jn).size:Int)≤4096)
           ·by_cases c6:(((aj s.aD).size:Int)≤4096)
            ·have mI:Hid (s.tb.length≤4096):=hid (by omega)
             have Xg:Hid (s.jn.length≤4096):=hid (by omega)
             clear zt zj zp
             go_wp2
             go_ret
             first
             | exact Or.inr ⟨rfl,⟨K6.out,mI.out,Xg.out⟩,lJ.out⟩
             | exact⟨true,rfl,fun _=>⟨K6.out,mI.out,Xg.out⟩,lJ.out⟩
            ·clear zt zj zp
             go_wp2
             go_ret
             first
             | exact Or.inl ⟨rfl,lJ.out⟩
             | exact⟨false,rfl,(fun e=>by cases e),lJ.out⟩
           ·clear zt zj zp
            go_wp2
            go_ret
            first
            | exact Or.inl ⟨rfl,lJ.out⟩
            | exact⟨false,rfl,(fun e=>by cases e),lJ.out⟩
          ·clear zt zj zp
           go_wp2
           go_ret
           first
           | exact Or.inl ⟨rfl,lJ.out⟩
           | exact⟨false,rfl,(fun e=>by cases e),lJ.out⟩
         ·clear zt zj zp
          go_wp2
          go_ret
          first
          | exact Or.inl ⟨rfl,lJ.out⟩
          | exact⟨false,rfl,(fun e=>by cases e),lJ.out⟩
        ·clear zt zj zp
         go_wp2
         go_ret
         first
         | exact Or.inl ⟨rfl,lJ.out⟩
         | exact⟨false,rfl,(fun e=>by cases e),lJ.out⟩
       ·clear zt zj zp
        go_wp2
        go_ret
        first
        | exact Or.inl ⟨rfl,lJ.out⟩
        | exact⟨false,rfl,(fun e=>by cases e),lJ.out⟩
theorem cO {l:List Ex} (h:l.length=0):∀x∈l,aF x=true:=fun x hx=>by
 rw[aaR h] at hx
 cases hx
theorem KE {s:St} (hr:aQ s=true):∀e∈oM s,aF e=true:=by
 have hk0:=sI hr
 unfold aQ at hr
 simp only[aaC] at hr
 obtain⟨hk,hn,he⟩:=hr
 unfold oF yF at he
 unfold lY at hk
 have EW : ∀{x:Ex},dO x=true→aF x=true:=fun h=>by
  unfold dO at h
  simp only[aaC] at h
  exact h.2
 have hset : ∀{x:Se},j6 x=true→aF x.e=true:=fun h=>by
  unfold j6 at h
  simp only[aaC] at h
  exact h.2
 have hit : ∀{x:It},oQ x=true→∀e∈x.xs,aF e=true:=fun {x} h=>by
  unfold oQ at h
  split at h
  ·exact cO (by simpa using h)
  ·split at h
   ·exact aP h
   ·cases h
 have hns:s.sets.length=0→∀x∈s.sets,aF x.e=true:=fun h x hx=>by rw[aaR h] at hx;cases hx
 have hni:s.items.length=0→∀i∈s.items,∀x∈i.xs,aF x=true:=fun h x hx=>by rw[aaR h] at hx;cases hx
 have hall:(∀x∈s.sets,aF x.e=true)→(∀i∈s.items,∀x∈i.xs,aF x=true)→(∀x∈s.on,aF x=true)→(∀x∈s.wh,aF x=true)→(∀x∈s.gr,aF x=true)→(∀x∈s.od,aF x=true)→∀e∈oM s,aF e=true:=fun g1 g2 g3 g4 g5 g6 e h=>by
  unfold oM at h
  simp only[List.mem_append,List.mem_map,List.mem_flatMap] at h
  rcases h with⟨x,hx,rfl⟩ | ⟨i,hi,h⟩ | h | h | h | h
  ·exact g1 x hx
  ·exact g2 i hi e h
  ·exact g3 e h
  ·exact g4 e h
  ·exact g5 e h
  ·exact g6 e h
 rcases hk0 with e | e | e | e | e | e
 all_goals simp only[e,if_true,if_false,Int.reduceEq,reduceIte,aaI] at he hk
 ·obtain⟨_,_,_,_,h5,h6,h7,h8,h9,h10,h11,h12,_⟩:=he
  exact hall (hns h6) (hni h7) (cO h9) (cO h10) (cO h11) (cO h12)
 ·obtain⟨_,_,_,_,h5,h6,h7,h8,h9,h10,h11,h12,_⟩:=he
  exact hall (hns h6) (hni h7) (cO h9) (cO h10) (cO h11) (cO h12)
 ·obtain⟨_,_,_,_,h5,h6,h7,h8,h9,h10,h11,h12,_⟩:=he
  exact hall (hns h6) (hni h7) (cO h9) (cO h10) (cO h11) (cO h12)
 ·obtain⟨_,_,_,_,h5,h6,h7,h8,h9,h10,h11,h12,_⟩:=he
  simp only[aaC] at hk
  exact hall (fun x hx=>hset (aP hk.1 x hx)) (hni h7) (cO h9) (aP hk.2) (cO h11) (cO h12)
 ·obtain⟨_,_,_,_,h5,h6,h7,h8,h9,h10,h11,h12,_⟩:=he
  exact hall (hns h6) (hni h7) (cO h9) (aP hk) (cO h11) (cO h12)
 ·obtain⟨_,_,_,_,h5,h6,_⟩:=he
  unfold yA at hk
  simp only[aaC] at hk
  obtain⟨k1,k2,k3,k4,k5,k6,_⟩:=hk
  exact hall (hns h6) (fun i hi=>hit (aP k1 i hi)) (aP k3) (aP k4) (fun x hx=>EW (aP k5 x hx)) (fun x hx=>EW (aP k6 x hx))
theorem Qv {s:St} (h:Sd s) (hr:aQ s=true):∀e∈oM s,pX e≤5000:=fun e he=>pJ (KE hr e he) (h.1 e (JR he))
theorem K9 : ∀t∈iw,NG t:=fun t ht=>by
 simp only[iw,abg,List.not_mem_nil,or_false] at ht
 rcases ht with rfl | rfl
 ·refine ⟨by decide,fun c hc=>?_⟩
  simp only[VU,abg,List.not_mem_nil,or_false] at hc
  rcases hc with rfl | rfl | rfl<;>decide
 ·refine ⟨by decide,fun c hc=>?_⟩
  simp only[Yz,abg,List.not_mem_nil,or_false] at hc
  rcases hc with rfl | rfl<;>decide
end Go.Proofs.YtfeglkleoijlaaaGreatDoor
namespace Go.Proofs.YtfeglkleoijlaaaGreatDoor
open Go.ChangeShapes Go.WideShapes Go.RowKit
set_option linter.unusedSimpArgs false
set_option linter.unusedVariables false
set_option maxRecDepth 20000
set_option maxHeartbeats 8000000
theorem Tryz.Wv:Tryz.prog.cellsOf 42=3:=by kernel_rfl
section
variable {H : Type} {enc : TypeId × Value → H} {w : World} {base : Nat} {held : Bool}
theorem Lm {b0:Nat} {v:Value} {d:DataW H} {ps:List MemPlace} (ho:Value.okWide Tryz.prog w .any b0 29 v) (hd:DataW.Trod enc Tryz.prog w base (fun _=>true) held 29 v d ps) :
  ∃x:St,(∃cs:List Value,v = .agg cs.toArray∧fD (fun b=>b<w.heap.size) w x cs)∧vZ x:=by
 obtain⟨cs,rfl,hn⟩:=okWide_struct Tryz.underlying29 ho
 obtain⟨fuel,hf⟩:=hd
 obtain⟨x,_,hx,hR⟩:=Qd _ fuel _ _ hf (Nat.lt_succ_self _)
 exact⟨x,⟨cs.toList,by simp,hx⟩,hR⟩
def abo (t:Tb):Prop:=NG t∧-9223372036854775808≤t.pr∧t.pr≤9223372036854775807
theorem QU (N:Nat):Q5 enc w base held N 42 3 fG abo:=fun fuel cs x h hN=>by
 obtain⟨ys,n,_,rfl,hl,hlen,hf⟩:=DataW.trod_struct Tryz.underlying42 h
 rw[Tryz.Wv] at hl
 match cs,hl with
 |
  [c0,c1,c2],_ =>
  match ys,hlen with
  |
   [y0,y1,y2],_ =>
   have f0:DataW.trod enc Tryz.prog w base (fun _=>true) held n 9 [c0]=some y0:=by
    have g:=hf 0 _ rfl
    change DataW.trod enc Tryz.prog w base (fun _=>true) held n 9 (([c0,c1,c2].drop 0).take (Tryz.prog.cellsOf 9))=some y0 at g
    rw[Tryz.cStr] at g
    exact g
   have f1:DataW.trod enc Tryz.prog w base (fun _=>true) held n 23 [c1]=some y1:=by
    have g:=hf 1 _ rfl
    change DataW.trod enc Tryz.prog w base (fun _=>true) held n 23 (([c0,c1,c2].drop 1).take (Tryz.prog.cellsOf 23))=some y1 at g
    rw[Tryz.LZ] at g
    exact g
   have f2:DataW.trod enc Tryz.prog w base (fun _=>true) held n 3 [c2]=some y2:=by
    have g:=hf 2 _ rfl
    change DataW.trod enc Tryz.prog w base (fun _=>true) held n 3 (([c0,c1,c2].drop 2).take (Tryz.prog.cellsOf 3))=some y2 at g
    rw[Tryz.Bd] at g
    exact g
   obtain⟨s0,e0,d0,w0⟩:=DataW.trod_string Tryz.underlying9 f0
   obtain⟨a1,n1,k1,xs1,e1,h1,r1⟩:=oo (α:=Co) (N:=SizeOf.sizeOf y1.1) Tryz.underlying23 Tryz.Lx (by decide) (Ij _) n _ _ f1 (aaF _)
   obtain⟨k,e2,d2,w2⟩:=DataW.trod_int Tryz.underlying3 f2
   simp only[List.cons.injEq,and_true] at e0 e2
   subst e0 e1 e2
   refine ⟨⟨s0.data.toList,xs1,k⟩,rfl,⟨a1,n1,k1,?_,h1⟩,⟨mM s0 w0,r1⟩,(xA w2).1,(xA w2).2⟩
   dsimp only
   rw[jX]
end
abbrev sK:List (String × DataW Unit):=[("math/bits.deBruijn32tab", Rows.laid_math_bits_deBruijn32tab),("math/bits.deBruijn64tab", Rows.laid_math_bits_deBruijn64tab),("internal/strconv.uint64pow10", Rows.laid_internal_strconv_uint64pow10),("unicode/utf8.acceptRanges", Rows.laid_unicode_utf8_acceptRanges),("vestry/printer.operators", Rows.laid_vestry_printer_operators),("unicode/utf8.first", Rows.laid_unicode_utf8_first)]
theorem uS {W:World} (h:laidMetH Tryz.prog sK W):laidMet Tryz.prog sK W:=by
 rwa [MakeChecks.laidMetH_plain _ _ _ (by kernel_rfl)] at h
theorem Ii {W:World} {n:String} {d:DataW Unit} {r:List (String × DataW Unit)} {g:Nat} (h:laidMet Tryz.prog ((n,d)::r) W) (hg:Tryz.prog.globalNamed n=some g):g<W.heap.size:=by
 obtain⟨ps,⟨g1,t1,cs1,f1,p1,q1,hg1,ht1,hv1,hd1,_⟩,_⟩:=h
 obtain rfl:=Option.some.inj (hg.symm.trans hg1)
 unfold World.var? at hv1
 rw[hg1] at hv1
 simp only[Option.bind_some] at hv1
 rcases Nat.lt_or_ge g W.heap.size with h | h
 ·exact h
 ·rw[Array.getElem?_eq_none h] at hv1
  cases hv1
theorem Mt {W:World} {r:List (String × DataW Unit)} (h:laidMet Tryz.prog (("internal/strconv.uint64pow10", Rows.laid_internal_strconv_uint64pow10)::r) W):Lib.TabIs Tryz.prog W "internal/strconv.uint64pow10" .u64 Lib.pow10Tab:=by
 obtain⟨ps,⟨g2,t2,cs2,f2,p2,q2,hg2,ht2,hv2,hd2,_⟩,_⟩:=h
 obtain rfl:=Option.some.inj ((show Tryz.prog.globalNamed "internal/strconv.uint64pow10" = some 2 by kernel_rfl).symm.trans hg2)
 obtain rfl:=Option.some.inj ((show (Tryz.prog.globals[2]?).map (·.type)=some 226 by kernel_rfl).symm.trans ht2)
 have e:=Lib.cells_of_tab (k:=.u64) (zs:=Lib.pow10Tab) Tryz.underlying226 Tryz.underlying216 (by kernel_rfl) (by kernel_rfl) hd2
 unfold Lib.TabIs
 rw[hv2]
 exact congrArg some (Array.ext' (by rw[e]))
theorem Gb {W:World} (hs:W.ShapedOpen Tryz.prog):∃m,W.cell? ⟨1,0,none⟩=some (.int .i64 m) :=
 cell_of_shapedOpen_int (P:=Tryz.prog) (zero:=#[.int .i64 0]) (t:=3) hs (by decide +kernel) (by kernel_rfl) rfl (by kernel_rfl) (by kernel_rfl) Tryz.underlying3
theorem Tryz.RG:Tryz.prog.cellsOf 168=2:=by kernel_rfl
theorem Tryz.Xq:Tryz.prog.cellsOf 3=1:=by kernel_rfl
theorem Tryz.Ya:Tryz.prog.cellsOf 9=1:=by kernel_rfl
theorem Ce {H:Type} {enc:TypeId × Value→H} {W:World} {base:Nat} {spare:Nat→Bool} {held:Bool} {fuel:Nat} {cs:List Value} {ps:List MemPlace} {s:List UInt8} {n:Int} (h:DataW.trod enc Tryz.prog W base spare held fuel 168 cs=some (.agg [.lit (.string s),.lit (.int .i64 n)],ps)) :
  cs=[.string (aj s),.int .i64 n]:=by
 obtain⟨ys,m,_,hx,hl,hlen,hf⟩:=DataW.trod_struct Tryz.underlying168 h
 rw[Tryz.RG] at hl
 match cs,hl with
 |
  [c0,c1],_ =>
  match ys,hlen with
  |
   [y0,y1],_ =>
   have f0:DataW.trod enc Tryz.prog W base spare held m 9 [c0]=some y0:=by
    have g:=hf 0 _ rfl
    change DataW.trod enc Tryz.prog W base spare held m 9 (([c0,c1].drop 0).take (Tryz.prog.cellsOf 9))=some y0 at g
    rw[Tryz.Ya] at g
    exact g
   have f1:DataW.trod enc Tryz.prog W base spare held m 3 [c1]=some y1:=by
    have g:=hf 1 _ rfl
    change DataW.trod enc Tryz.prog W base spare held m 3 (([c0,c1].drop 1).take (Tryz.prog.cellsOf 3))=some y1 at g
    rw[Tryz.Xq] at g
    exact g
   obtain⟨s0,e0,d0,_⟩:=DataW.trod_string Tryz.underlying9 f0
   obtain⟨n0,e1,d1,_⟩:=DataW.trod_int Tryz.underlying3 f1
   subst d0 d1
   simp only[List.map_cons,List.map_nil,Prod.mk.injEq,DataW.agg.injEq,List.cons.injEq,DataW.lit.injEq,Lit.string.injEq,Lit.int.injEq,and_true,true_and] at hx
   obtain⟨⟨rfl,rfl⟩,_⟩:=hx
   simp only[List.cons.injEq,and_true] at e0 e1
   rw[e0,e1,jX]
def opD (t:List UInt8 × Nat):DataW Unit:=.agg [.lit (.string t.1),.lit (.int .i64 t.2)]
theorem MI {cs:List Value} {k:Nat} {a b:Value} (h:(cs.drop k).take 2=[a,b]):cs[k]?=some a∧cs[k+1]?=some b:=by
 have h0:((cs.drop k).take 2)[0]?=some a:=by rw[h];rfl
 have h1:((cs.drop k).take 2)[1]?=some b:=by rw[h];rfl
 rw[List.getElem?_take,if_pos (by decide),List.getElem?_drop] at h0 h1
 exact⟨by simpa using h0,h1⟩
theorem OM {W:World} {r:List (String × DataW Unit)} (h:laidMet Tryz.prog (("vestry/printer.operators", Rows.laid_vestry_printer_operators)::r) W):Ak W:=by
 obtain⟨ps,⟨g2,t2,cs2,f2,p2,q2,hg2,ht2,hv2,hd2,_⟩,_⟩:=h
 have hg:Tryz.prog.globalNamed "vestry/printer.operators" = some 0:=by kernel_rfl
 obtain rfl:=Option.some.inj (hg.symm.trans hg2)
 obtain rfl:=Option.some.inj ((show (Tryz.prog.globals[0]?).map (·.type)=some 169 by kernel_rfl).symm.trans ht2)
 obtain⟨xs,m,_,hx,hl,hlen,hf⟩:=DataW.trod_array Tryz.underlying169 hd2
 have hdd:(Rows.laid_vestry_printer_operators:DataW Unit) = .agg (Al.map opD):=by kernel_rfl
 rw[hdd] at hx
 simp only[Prod.mk.injEq,DataW.agg.injEq] at hx
 intro o ho
 have hf':=hf o (by omega)
 rw[Tryz.RG] at hf'
 have hxo:(xs.map (·.1))[o]?=(Al.map opD)[o]?:=by rw[← hx.1]
 obtain⟨x,hxe⟩:∃x,xs[o]?=some x:=⟨_,aaf (by omega)⟩
 rw[hxe] at hf'
 rw[List.getElem?_map,hxe,List.getElem?_map] at hxo
 have hto:Al[o]?=some (vW (o:Int),eu (o:Int)):=by
  have : ∀o:Fin 14,Al[o.1]?=some (vW (o.1:Int),eu (o.1:Int)):=by decide
  exact this ⟨o,by omega⟩
 rw[hto] at hxo
 simp only[Option.map_some,abf] at hxo
 obtain⟨d,pl⟩:=x
 dsimp only at hxo
 subst hxo
 obtain⟨k0,k1⟩:=MI (Ce hf')
 have c0:=World.var?_cell hg hv2 (o*2)
 have c1:=World.var?_cell hg hv2 (o*2+1)
 rw[Array.getElem?_toList] at k0 k1
 exact⟨c0.trans k0,c1.trans k1⟩
theorem VY {W:World} (h:laidMetH Tryz.prog sK W) (hs:W.ShapedOpen Tryz.prog):zm W∧Ak W:=by
 have h':=uS h
 have hlt:6<W.heap.size:=Ii (g:=6) h'.tail (by kernel_rfl)
 exact⟨⟨by omega,Gb hs,Mt h'.tail.tail⟩,OM h'.tail.tail.tail.tail⟩
section
variable {H : Type} {enc : TypeId × Value → H} {w : World} {base : Nat} {held : Bool}
theorem MH (d:DataW H):1≤Rows.uptoBulk d:=by
 cases d with
 | lit l=>cases l<;>simp[Rows.uptoBulk]
 | nil=>simp[Rows.uptoBulk]
 | ptr d=>simp[Rows.uptoBulk]
 | slice a b=>simp[Rows.uptoBulk]
 | agg a=>simp[Rows.uptoBulk]
 | iface a b=>simp[Rows.uptoBulk]
 | map a=>simp[Rows.uptoBulk]
 | held a=>simp[Rows.uptoBulk]
theorem uT : ∀l:List (DataW H),l.length≤Rows.uptoBulkAll l
 | []=>aaV _
 |
  d::l=>by
  have:=MH d
  have:=uT l
  simp only[aa1,Rows.uptoBulkAll]
  omega
theorem uR (D:Nat→DataW H) (f:Nat→Nat):∀n,(∀i,i<n→f i≤Rows.uptoBulk (D i))→((List.range n).map f).sum≤Rows.uptoBulkAll ((List.range n).map D)
 | 0,_=>aaV _
 |
  n+1,h=>by
  have ih:=uR (fun i=>D (i+1)) (fun i=>f (i+1)) n (fun i hi=>h (i+1) (by omega))
  have h0:=h 0 (by omega)
  rw[List.range_succ_eq_map,List.map_cons,List.map_cons,List.sum_cons,List.map_map,List.map_map]
  simp only[Rows.uptoBulkAll]
  have e1:(List.range n).map (f ∘ Nat.succ)=(List.range n).map fun i=>f (i+1):=rfl
  have e2:(List.range n).map (D ∘ Nat.succ)=(List.range n).map fun i=>D (i+1):=rfl
  rw[e1,e2]
  omega
theorem mK {t e:TypeId} {fuel:Nat} {a:Option Addr} {n c:Nat} {y:DataW H × List MemPlace} (ht:Tryz.prog.underlying t=some (.slice e)) (f:DataW.trod enc Tryz.prog w base (fun _=>true) held fuel t [.slice a n c]=some y):n≤Rows.uptoBulk y.1:=by
 rcases Deep.open_slice ht f with⟨hcs,_⟩ | ⟨p,len,cap,m,k,D,Pl,hcs,_,hlm,hm,hmm,hx,hr⟩
 ·simp only[List.cons.injEq,aah,and_true] at hcs
  omega
 ·simp only[List.cons.injEq,aah,and_true] at hcs
  obtain⟨_,rfl,_⟩:=hcs
  rw[hx]
  have:=uT ((List.range n).map D)
  simp only[List.length_map,List.length_range] at this
  simp only[Rows.uptoBulk]
  omega
theorem GR {S:Nat→Prop} {fuel:Nat} {a:Option Addr} {n c:Nat} {y:DataW H × List MemPlace} {xs:List It} (f:DataW.trod enc Tryz.prog w base (fun _=>true) held fuel 26 [.slice a n c]=some y) (hx:aM 2 vY S w xs (.slice a n c)):(xs.flatMap fun i=>i.xs).length≤Rows.uptoBulk y.1:=by
 have hn:n=xs.length:=by obtain⟨_,_,hf⟩:=hx.form;simp only[aah] at hf;exact hf.2.1
 rcases Deep.open_slice Tryz.underlying26 f with⟨hcs,_⟩ | ⟨p,len,cap,m,k,D,Pl,hcs,_,hlm,hm,hmm,Ob,hr⟩
 ·simp only[List.cons.injEq,aah,and_true] at hcs
  have:xs=[]:=aaR (by omega)
  rw[this]
  exact aaV _
 ·simp only[List.cons.injEq,aah,and_true] at hcs
  obtain⟨rfl,rfl,rfl⟩:=hcs
  rw[Ob]
  simp only[if_true] at hmm
  have hone : ∀i,i<n→((xs[i]?.map fun x=>x.xs.length).getD 0)≤Rows.uptoBulk (D i):=fun i hi=>by
   obtain⟨cs',h1,h2⟩:=hr i (by omega)
   obtain⟨x,hxi⟩:∃x,xs[i]?=some x:=⟨_,aaf (by omega)⟩
   rw[hxi]
   show x.xs.length≤_
   obtain⟨_,_,_,b,off,ds,hp,_,hel,hcell⟩:=bC hx hxi
   injection hp with hp
   subst hp
   obtain⟨aa,nn,cc,rfl,hargs⟩:=hel
   have hnn:nn=x.xs.length:=by obtain⟨_,_,hf,_⟩:=hargs.form;simp only[aah] at hf;exact hf.2.1
   rw[Tryz.Hw] at h1
   obtain⟨ys,k2,_,hD,hl,hlen,hf⟩:=DataW.trod_struct Tryz.underlying55 h2
   rw[Tryz.Hw] at hl
   match cs',hl with
   |
    [e0,e1],_ =>
    match ys,hlen with
    |
     [y0,y1],_ =>
     have f1:DataW.trod enc Tryz.prog w base (fun _=>true) held k2 27 [e1]=some y1:=by
      have g:=hf 1 _ rfl
      change DataW.trod enc Tryz.prog w base (fun _=>true) held k2 27 (([e0,e1].drop 1).take (Tryz.prog.cellsOf 27))=some y1 at g
      rw[Tryz.lZ] at g
      exact g
     have hq:=(World.cells?_some h1).2.2 1 (by decide)
     have hc1:=hcell 1 _ rfl
     simp only[Addr.add_lit] at hq
     rw[hc1] at hq
     simp only[List.getElem?_cons_succ,List.getElem?_cons_zero,abf] at hq
     subst hq
     have hb:=mK Tryz.underlying27 f1
     simp only[Prod.mk.injEq] at hD
     rw[hD.1]
     simp only[List.map_cons,List.map_nil,Rows.uptoBulk,Rows.uptoBulkAll]
     omega
  have hs:=uR D (fun i=>(xs[i]?.map fun x=>x.xs.length).getD 0) n hone
  have he:(xs.flatMap fun i=>i.xs).length=((List.range n).map fun i=>(xs[i]?.map fun x=>x.xs.length).getD 0).sum:=by
   subst hn
   rw[List.length_flatMap]
   congr 1
   apply List.ext_getElem?
   intro i
   rw[List.getElem?_map,List.getElem?_map]
   rcases Nat.lt_or_ge i xs.length with hi | hi
   ·rw[List.getElem?_range hi,aaf hi]
    simp[aaf hi]
   ·rw[List.getElem?_eq_none hi,List.getElem?_eq_none (by simpa using hi)]
    rfl
  rw[he]
  simp only[Rows.uptoBulk]
  omega
theorem KA {b0:Nat} {v:Value} {d:DataW H} {ps:List MemPlace} (ho:Value.okWide Tryz.prog w .any b0 22 v) (hd:DataW.Trod enc Tryz.prog w base (fun _=>true) held 22 v d ps) :
  ∃l:List Tb,aM 3 fG (fun b=>b<w.heap.size) w l v∧∀t∈l,NG t:=by
 obtain⟨a,len,cap,rfl⟩:=okWide_slice Tryz.underlying22 ho
 obtain⟨fuel,hf⟩:=hd
 haveI:Inhabited Tb:=⟨⟨[],[],0⟩⟩
 obtain⟨aa,nn,cc,xs,e,hsl,hR⟩:=oo (α:=Tb) (N:=SizeOf.sizeOf d) Tryz.underlying22 Tryz.Wv (by decide) (QU _) fuel _ _ hf (aaF _)
 rw[e]
 exact⟨xs,hsl,fun t ht=>(hR t ht).1⟩
theorem MX {b0:Nat} {v:Value} {d:DataW H} {ps:List MemPlace} (hd:DataW.Trod enc Tryz.prog w base (fun _=>true) held 29 v d ps) (hsz:Rows.uptoBulk d≤1048576) {x:St} {cs:List Value} (hv:v = .agg cs.toArray) {S:Nat→Prop} (hx:fD S w x cs) :
  (gJ x).length≤100000000∧x.sets.length≤100000000∧x.items.length≤1000000000000:=by
 subst hv
 obtain⟨fuel,hf0⟩:=hd
 have hf1:DataW.trod enc Tryz.prog w base (fun _=>true) held fuel 29 cs=some (d,ps):=hf0
 obtain⟨a1,a2,a3,a4,a5,a6,a7,a8,n1,n2,n3,n4,n5,n6,n7,n8,c1,c2,c3,c4,c5,c6,c7,c8,rfl,_,_,hset,hit,hon,U9,hgr,hod⟩:=hx
 have e3:n3=x.sets.length:=by obtain⟨_,_,hf⟩:=hset.form;simp only[aah] at hf;exact hf.2.1
 have e4:n4=x.items.length:=by obtain⟨_,_,hf⟩:=hit.form;simp only[aah] at hf;exact hf.2.1
 have e5:n5=x.on.length:=by obtain⟨_,_,hf,_⟩:=hon.form;simp only[aah] at hf;exact hf.2.1
 have e6:n6=x.wh.length:=by obtain⟨_,_,hf,_⟩:=U9.form;simp only[aah] at hf;exact hf.2.1
 have e7:n7=x.gr.length:=by obtain⟨_,_,hf,_⟩:=hgr.form;simp only[aah] at hf;exact hf.2.1
 have e8:n8=x.od.length:=by obtain⟨_,_,hf,_⟩:=hod.form;simp only[aah] at hf;exact hf.2.1
 obtain⟨ys,n,_,Ob,hl,hlen,hf⟩:=DataW.trod_struct Tryz.underlying29 hf1
 simp only[Prod.mk.injEq] at Ob
 obtain⟨rfl,_⟩:=Ob
 match ys,hlen with
 |
  [y0,y1,y2,y3,y4,y5,y6,y7,y8,y9,VN,WY,y12,y13],_ =>
  have f5:DataW.trod enc Tryz.prog w base (fun _=>true) held n 25 [.slice a3 n3 c3]=some y5:=by
   have g:=hf 5 _ rfl
   change DataW.trod enc Tryz.prog w base (fun _=>true) held n 25 (List.take (Tryz.prog.cellsOf 25) (.slice a3 n3 c3::_))=some y5 at g
   rw[Tryz.MV] at g
   exact g
  have f6:DataW.trod enc Tryz.prog w base (fun _=>true) held n 26 [.slice a4 n4 c4]=some y6:=by
   have g:=hf 6 _ rfl
   change DataW.trod enc Tryz.prog w base (fun _=>true) held n 26 (List.take (Tryz.prog.cellsOf 26) (.slice a4 n4 c4::_))=some y6 at g
   rw[Tryz.LA] at g
   exact g
  have f8:DataW.trod enc Tryz.prog w base (fun _=>true) held n 27 [.slice a5 n5 c5]=some y8:=by
   have g:=hf 8 _ rfl
   change DataW.trod enc Tryz.prog w base (fun _=>true) held n 27 (List.take (Tryz.prog.cellsOf 27) (.slice a5 n5 c5::_))=some y8 at g
   rw[Tryz.lZ] at g
   exact g
  have f9:DataW.trod enc Tryz.prog w base (fun _=>true) held n 27 [.slice a6 n6 c6]=some y9:=by
   have g:=hf 9 _ rfl
   change DataW.trod enc Tryz.prog w base (fun _=>true) held n 27 (List.take (Tryz.prog.cellsOf 27) (.slice a6 n6 c6::_))=some y9 at g
   rw[Tryz.lZ] at g
   exact g
  have f10:DataW.trod enc Tryz.prog w base (fun _=>true) held n 27 [.slice a7 n7 c7]=some VN:=by
   have g:=hf 10 _ rfl
   change DataW.trod enc Tryz.prog w base (fun _=>true) held n 27 (List.take (Tryz.prog.cellsOf 27) (.slice a7 n7 c7::_))=some VN at g
   rw[Tryz.lZ] at g
   exact g
  have f11:DataW.trod enc Tryz.prog w base (fun _=>true) held n 27 [.slice a8 n8 c8]=some WY:=by
   have g:=hf 11 _ rfl
   change DataW.trod enc Tryz.prog w base (fun _=>true) held n 27 (List.take (Tryz.prog.cellsOf 27) (.slice a8 n8 c8::_))=some WY at g
   rw[Tryz.lZ] at g
   exact g
  have g5:=mK Tryz.underlying25 f5
  have g6:=mK Tryz.underlying26 f6
  have g6b:=GR f6 hit
  have g8:=mK Tryz.underlying27 f8
  have g9:=mK Tryz.underlying27 f9
  have g10:=mK Tryz.underlying27 f10
  have g11:=mK Tryz.underlying27 f11
  simp only[List.map_cons,List.map_nil,Rows.uptoBulk,Rows.uptoBulkAll] at hsz
  unfold gJ IB
  simp only[aaN,List.length_map]
  omega
end
end Go.Proofs.YtfeglkleoijlaaaGreatDoor
