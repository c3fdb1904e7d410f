/- Packed for the hand-in: PList -/
import Derived.Test.YtaaggohjmhifbaaGreatDoorP15
namespace Go.Proofs.YtaaggohjmhifbaaGreatDoor
open Go.RowKit Go.Shelf
set_option linter.unusedSimpArgs false
set_option linter.unusedVariables false
set_option maxRecDepth 20000
set_option maxHeartbeats 8000000
theorem listL_zero {α:Type} (one:Pa α) (more:Pa Bool) (acc:List α) (q:Rd):listL one more 0 acc q=([],failR 2 q):=rfl
theorem listL_one {α:Type} (one:Pa α) (more:Pa Bool) (m:Nat) (acc:List α) (q:Rd):listL one more (m+1) acc q=if (more (one q).2).1=true then listL one more m (acc++[(one q).1]) (more (one q).2).2 else (acc++[(one q).1],(more (one q).2).2):=by
 show (if (more (one q).2).1=true then listL one more m (acc++[(one q).1]) else retP (acc++[(one q).1])) (more (one q).2).2=_
 split<;>rfl
theorem Tryz.infoCo:(Tryz.prog.info? 37).map (fun i=>(i.zero,i.size,i.bytes))=some (some (.agg #[.string ⟨#[]⟩,.int .i64 0,.bool false,.bool false]),4,32):=by kernel_rfl
theorem listCo_any (F fo fm:Nat) (one:Pa Co) (more:Pa Bool) (h1:RdsX F ColE fo one) (h2:RdsB F fm more) (n1:Nice false F one) (n2:Nice false F more)
  (e1 : ∀args w,(callFunc fo args).run Tryz.prog w = .ok (.enter fo args) w) (e2 : ∀args w,(callFunc fm args).run Tryz.prog w = .ok (.enter fm args) w)
  (most:Nat) (hm:most≤16) (g:Nat) (r:Rd) (w:World) (h:RdAt F w g r) (hD:D0 r) :
  Calls Tryz.prog 176 #[.pointer (some ⟨g,0,none⟩),.int .i64 (most:Int),.func (.func fo) #[.pointer (some ⟨g,0,none⟩)] #[],.func (.func fm) #[.pointer (some ⟨g,0,none⟩)] #[]] w fun e w'=>∃(aa:Option Addr) (nn cc:Nat),e = .returned (.slice aa nn cc)∧SlAt 4 ColE (fun b=>w.heap.size≤b) w' (listL one more most [] r).1 (.slice aa nn cc)∧RdAt F w' g (listL one more most [] r).2∧Fr g w w':=by
 obtain⟨i0,hi,hy0,hy1,hy2⟩:=info_parts Tryz.infoCo
 have hgw:=h.lt
 have HH:=hid h
 have HD:=hid hD
 obtain⟨⟨X1,X2⟩,hX⟩:∃X,listL one more most [] r=X:=⟨_,rfl⟩
 rw[hX]
 dsimp only
 have HX:=hid hX
 have H1:=hid h1
 have H2:=hid h2
 clear hX h hD h1 h2
 go_enter Tryz.func176,Tryz.ntmps176
 go_wp2_with fail
 go_loopw [9,10] (fun l b wr=>∃(acc:List Co) (css:List (List Value)) (m:Nat) (q:Rd) (bb:Bool),b = .bool bb∧m+acc.length=most∧RdAt F wr g q∧Fr g w wr∧wr.ownsRow w.heap.size 37 4 l acc.length css.flatten ∧
   Els 4 ColE (fun b=>w.heap.size≤b∧l.ownBlock≠some b) wr acc css∧Hid (D0 q)∧Hid (if bb=true then listL one more m acc q=(X1,X2) else (acc,q)=(X1,X2))) (fun l b _=>2*(most-lenV l)+boolV b)
 case atStart=>exact⟨[],[],most,r,true,rfl,by simp,HH.out,Spares.refl _ _,World.ownsRow_nil _ _ _ _,Els.nil,HD,hid (by rw[if_pos rfl];exact HX.out)⟩
 case round =>
  obtain⟨acc,css,m,q,bb,rfl,hmm,hq,hf,hown,hels,HDQ,HL⟩:=hrel
  obtain⟨va,vcap,hvf⟩:∃va vcap,u9 = .slice va acc.length vcap:=by
   rcases hown.2 with⟨rfl,hn⟩ | ⟨g',cap,cur,rfl,_⟩
   ·exact⟨_,_,by rw[hn]⟩
   ·exact⟨_,_,rfl⟩
  subst hvf
  have HQ:=hid hq
  have HFQ:=hid hf
  have HOW:=hid hown
  have HEL:=hid hels
  have hgr:=hq.lt
  have hwr:=hf.size
  clear hf hown hels
  cases bb with
  |
   false =>
   have hXX:(acc,q)=(X1,X2):=by have:=HL.out;rwa [if_neg Bool.false_ne_true] at this
   have HXX:=hid hXX
   clear hXX HL hq H1 H2
   go_wp2
   have hxx:=HXX.out
   simp only[Prod.mk.injEq] at hxx
   obtain⟨rfl,rfl⟩:=hxx
   exact bodyPost_ret (v:=.slice va acc.length vcap) (by simp[results,Tryz.results176,go_sem]) rfl ⟨va,acc.length,vcap,rfl,SlAt.of_owns (by decide) HOW.out (HEL.out.to (fun x cs e=>e.to (R:=fun _=>False) (Spares.refl _ _) (fun b hb _=>⟨id,hb.1⟩))) (fun b hb=>(HOW.out.lt b hb).1),HQ.out,HFQ.out⟩
  |
   true =>
   have hLL:listL one more m acc q=(X1,X2):=by have:=HL.out;rwa [if_pos rfl] at this
   cases m with
   |
    zero =>
    rw[listL_zero] at hLL
    have HLL:=hid hLL
    have hlen:((acc.length:Int)==(most:Int))=true:=by rw[beq_iff_eq];omega
    have HFA:=hid (fail_any F g q wr hq 2 (by decide))
    clear hLL HL hq H1 H2 HX
    go_wp2_with fail
    refine HFA.out.mono ?_
    rintro e w1 ⟨rfl,hr1,hf1⟩
    have HR1:=hid hr1
    have HF1:=hid (HFQ.out.then hf1)
    clear hr1 hf1 HFA
    go_wp2
    have hxx:=HLL.out
    simp only[Prod.mk.injEq] at hxx
    obtain⟨rfl,rfl⟩:=hxx
    exact bodyPost_ret (v:=.slice none 0 0) (by simp[results,Tryz.results176,go_sem]) rfl ⟨none,0,0,rfl,SlAt.nil,HR1.out,HF1.out⟩
   |
    succ m =>
    rw[listL_one] at hLL
    have hlen:((acc.length:Int)==(most:Int))=false:=by rw[beq_eq_false_iff_ne];omega
    have hG1:=n1.fine q trivial hq.good
    have hG2:=n2.fine (one q).2 trivial hG1.1
    have hD1:=HDQ.out.after n1 hq.good
    have hD2:=hD1.after n2 hG1.1
    have HO:=hid (H1.out g q wr hq HDQ.out)
    have HM:=hid (fun V (hV:RdAt F V g (one q).2)=>H2.out g (one q).2 V hV)
    have hln:acc.length<most:=by omega
    obtain⟨x,hx⟩:∃x,(one q).1=x:=⟨_,rfl⟩
    obtain⟨q1,hq1⟩:∃x,(one q).2=x:=⟨_,rfl⟩
    rw[hx,hq1] at HO hLL
    rw[hq1] at HM hD2 hD1
    obtain⟨bn,hbn⟩:∃x,(more q1).1=x:=⟨_,rfl⟩
    obtain⟨qn,hqn⟩:∃x,(more q1).2=x:=⟨_,rfl⟩
    rw[hbn,hqn] at HM hLL
    rw[hqn] at hD2
    have HLL:=hid hLL
    have HD2:=hid hD2
    clear hLL HL hq hx hq1 hbn hqn hD1 hD2 hG1 hG2 HX
    go_wp2_with fail
    refine HO.out.mono ?_
    rintro e w1 ⟨cs,rfl,rfl,hr1,hf1⟩
    have hz1:=hf1.size
    obtain⟨U,hU,hbU,hzU,hcU⟩:=box8 w1 (.cells #[.string (str8 x.nm),.int .i64 x.k,.bool x.nn,.bool x.uq] 37)
    have hown1:U.ownsRow w.heap.size 37 4 (.slice va acc.length vcap) acc.length css.flatten:=(Spares.row hf1 HOW.out (fun g' hg' e=>by have:=(HOW.out.lt g' hg').1;omega)).kept (World.grownBy_alloc w1 (.cells #[.string (str8 x.nm),.int .i64 x.k,.bool x.nn,.bool x.uq] 37) none) (by cases (Value.slice va acc.length vcap).ownBlock<;>simp) |> fun e=>by rw[hU] at e;exact e
    have hnew : ∀j u,[.string (str8 x.nm),.int .i64 x.k,.bool x.nn,.bool x.uq][j]?=some u→U.cell? ((⟨w1.heap.size,0,none⟩:Addr).add j)=some u:=by rw[← hU];exact new_at w1 [.string (str8 x.nm),.int .i64 x.k,.bool x.nn,.bool x.uq] 37
    have hone : ∀u∈([.string (str8 x.nm),.int .i64 x.k,.bool x.nn,.bool x.uq]:List Value),u.oneCell'=true:=by intro u hu;simp at hu;rcases hu with rfl | rfl | rfl | rfl<;>rfl
    have HRU:=hid (hr1.below hbU)
    have HFU:Hid (Fr g w U):=hid ((HFQ.out.then hf1).thenNew hbU)
    have hwU:w.heap.size≤U.heap.size:=HFU.out.size
    have HELU:Hid (Els 4 ColE (fun b=>w.heap.size≤b∧(Value.slice va acc.length vcap).ownBlock≠some b∧b<U.heap.size) U (acc++[x]) (css++[[.string (str8 x.nm),.int .i64 x.k,.bool x.nn,.bool x.uq]])):=hid (by
     refine Els.snoc ?_ rfl ?_
     ·refine (HEL.out.to (fun y cs e=>(e.to (T:=fun b=>w.heap.size≤b∧(Value.slice va acc.length vcap).ownBlock≠some b∧b<wr.heap.size) hf1 (fun b hb hlt=>⟨by omega,hb.1,hb.2,hlt⟩)))).to (fun y cs e=>e.to (R:=fun _=>False) (Spares.of_new hbU) (fun b hb _=>⟨id,hb.1,hb.2.1,by omega⟩))
     ·refine ColE.to (S:=fun b=>wr.heap.size≤b) (w:=w1) rfl (R:=fun _=>False) (Spares.of_new hbU) (fun b hb hlt=>⟨id,Nat.le_trans hwr hb,fun e=>?_,by omega⟩)
      have:=(HOW.out.lt b e).2
      omega)
    clear hr1 hf1 hbU hcU HO HEL
    go_wp2_with (first
     | (
       at_builtin;refine wpList_append_where _ rfl (.tmp 20) (.tmp 23) 22 rfl w.heap.size 37 i0 (.agg #[.string ⟨#[]⟩,.int .i64 0,.bool false,.bool false]) 4 32 Tryz.underlying22 hi hy0 hy1 hy2 rfl (by decide) _ _ _ rfl hown1 ⟨w1.heap.size,0,none⟩ 1 [.string (str8 x.nm),.int .i64 x.k,.bool x.nn,.bool x.uq] rfl rfl hnew hone (by unfold maxLen;omega) (by omega) hwU ?_;intro v3 w3 hown3 hg3 hwh3
       have hSp:Spares (fun b=>(Value.slice va acc.length vcap).ownBlock=some b) U w3:=Spares.of_grown hg3 (fun k hk=>hk)
       have HR3:Hid (RdAt F w3 g q1):=hid (HRU.out.keeps hSp (fun i hi e=>by have:=(hown1.lt i e).1;omega))
       have HF3:Hid (Fr g w w3):=hid (HFU.out.andThen hSp (fun i hi=>.inr (hown1.lt i hi).1))
       have HOW3:=hid hown3
       have HEL3:Hid (Els 4 ColE (fun b=>w.heap.size≤b∧v3.ownBlock≠some b) w3 (acc++[x]) (css++[[.string (str8 x.nm),.int .i64 x.k,.bool x.nn,.bool x.uq]])):=hid (HELU.out.to (fun y cs e=>e.to hSp (fun b hb _=>⟨hb.2.1,hb.1,fun e3=>by
        rcases hwh3 with h | h
        ·exact hb.2.1 (h ▸ e3)
        ·rw[h] at e3;have:=hb.2.2;simp at e3;omega⟩)))
       obtain⟨va3,vc3,hvf3⟩:∃va3 vc3,v3 = .slice va3 (acc.length+1) vc3:=by
        rcases hown3.2 with⟨rfl,hn⟩ | ⟨g',cap,cur,rfl,_⟩
        ·omega
        ·exact⟨_,_,rfl⟩
       subst hvf3
       clear hown3 hg3 hwh3 hSp hown1 hnew hone)
     | (
       go_at_fn fm;refine (HM.out w3 HR3.out).mono ?_
       rintro e w4 ⟨rfl,hr4,hf4⟩
       have HR4:=hid hr4
       have HF4:=hid (HF3.out.then hf4)
       have HOW4:=hid (Spares.row hf4 HOW3.out (fun g' hg' e=>by have:=(HOW3.out.lt g' hg').1;omega))
       have HEL4:=hid (HEL3.out.to (fun y cs e=>e.to (T:=fun b=>w.heap.size≤b∧(Value.slice va3 (acc.length+1) vc3).ownBlock≠some b) hf4 (fun b hb _=>⟨by omega,hb⟩)))
       clear hr4 hf4 HM)
     | fail)
    go_roundw
    case rel =>
     refine ⟨acc++[x],css++[[.string (str8 x.nm),.int .i64 x.k,.bool x.nn,.bool x.uq]],m,qn,bn,rfl,by simp;omega,HR4.out,HF4.out,?_,HEL4.out,HD2,hid ?_⟩
     ·have e4:=HOW4.out
      rw[List.length_append,List.flatten_append]
      simpa using e4
     ·have:=HLL.out
      cases bn with
      | true=>rw[if_pos rfl] at this;rw[if_pos rfl];exact this
      | false=>rw[if_neg Bool.false_ne_true] at this;rw[if_neg Bool.false_ne_true];exact this
    case measure =>
     show 2*(most-(acc.length+1))+boolV (.bool bn)<2*(most-acc.length)+1
     have:boolV (.bool bn)≤1:=by cases bn<;>decide
     omega
theorem Tryz.infoVl:(Tryz.prog.info? 128).map (fun i=>(i.zero,i.size,i.bytes))=some (some (.agg #[.int .i64 0,.int .i64 0,.string ⟨#[]⟩]),3,32):=by kernel_rfl
theorem listVl_any (F fo fm:Nat) (one:Pa Vl) (more:Pa Bool) (h1:RdsX F VlE fo one) (h2:RdsB F fm more) (n1:Nice false F one) (n2:Nice false F more)
  (e1 : ∀args w,(callFunc fo args).run Tryz.prog w = .ok (.enter fo args) w) (e2 : ∀args w,(callFunc fm args).run Tryz.prog w = .ok (.enter fm args) w)
  (most:Nat) (hm:most≤16) (g:Nat) (r:Rd) (w:World) (h:RdAt F w g r) (hD:D0 r) :
  Calls Tryz.prog 231 #[.pointer (some ⟨g,0,none⟩),.int .i64 (most:Int),.func (.func fo) #[.pointer (some ⟨g,0,none⟩)] #[],.func (.func fm) #[.pointer (some ⟨g,0,none⟩)] #[]] w fun e w'=>∃(aa:Option Addr) (nn cc:Nat),e = .returned (.slice aa nn cc)∧SlAt 3 VlE (fun b=>w.heap.size≤b) w' (listL one more most [] r).1 (.slice aa nn cc)∧RdAt F w' g (listL one more most [] r).2∧Fr g w w':=by
 obtain⟨i0,hi,hy0,hy1,hy2⟩:=info_parts Tryz.infoVl
 have hgw:=h.lt
 have HH:=hid h
 have HD:=hid hD
 obtain⟨⟨X1,X2⟩,hX⟩:∃X,listL one more most [] r=X:=⟨_,rfl⟩
 rw[hX]
 dsimp only
 have HX:=hid hX
 have H1:=hid h1
 have H2:=hid h2
 clear hX h hD h1 h2
 go_enter Tryz.func231,Tryz.ntmps231
 go_wp2_with fail
 go_loopw [9,10] (fun l b wr=>∃(acc:List Vl) (css:List (List Value)) (m:Nat) (q:Rd) (bb:Bool),b = .bool bb∧m+acc.length=most∧RdAt F wr g q∧Fr g w wr∧wr.ownsRow w.heap.size 128 3 l acc.length css.flatten ∧
   Els 3 VlE (fun b=>w.heap.size≤b∧l.ownBlock≠some b) wr acc css∧Hid (D0 q)∧Hid (if bb=true then listL one more m acc q=(X1,X2) else (acc,q)=(X1,X2))) (fun l b _=>2*(most-lenV l)+boolV b)
 case atStart=>exact⟨[],[],most,r,true,rfl,by simp,HH.out,Spares.refl _ _,World.ownsRow_nil _ _ _ _,Els.nil,HD,hid (by rw[if_pos rfl];exact HX.out)⟩
 case round =>
  obtain⟨acc,css,m,q,bb,rfl,hmm,hq,hf,hown,hels,HDQ,HL⟩:=hrel
  obtain⟨va,vcap,hvf⟩:∃va vcap,u9 = .slice va acc.length vcap:=by
   rcases hown.2 with⟨rfl,hn⟩ | ⟨g',cap,cur,rfl,_⟩
   ·exact⟨_,_,by rw[hn]⟩
   ·exact⟨_,_,rfl⟩
  subst hvf
  have HQ:=hid hq
  have HFQ:=hid hf
  have HOW:=hid hown
  have HEL:=hid hels
  have hgr:=hq.lt
  have hwr:=hf.size
  clear hf hown hels
  cases bb with
  |
   false =>
   have hXX:(acc,q)=(X1,X2):=by have:=HL.out;rwa [if_neg Bool.false_ne_true] at this
   have HXX:=hid hXX
   clear hXX HL hq H1 H2
   go_wp2
   have hxx:=HXX.out
   simp only[Prod.mk.injEq] at hxx
   obtain⟨rfl,rfl⟩:=hxx
   exact bodyPost_ret (v:=.slice va acc.length vcap) (by simp[results,Tryz.results231,go_sem]) rfl ⟨va,acc.length,vcap,rfl,SlAt.of_owns (by decide) HOW.out (HEL.out.to (fun x cs e=>e.to (R:=fun _=>False) (Spares.refl _ _) (fun b hb _=>⟨id,hb.1⟩))) (fun b hb=>(HOW.out.lt b hb).1),HQ.out,HFQ.out⟩
  |
   true =>
   have hLL:listL one more m acc q=(X1,X2):=by have:=HL.out;rwa [if_pos rfl] at this
   cases m with
   |
    zero =>
    rw[listL_zero] at hLL
    have HLL:=hid hLL
    have hlen:((acc.length:Int)==(most:Int))=true:=by rw[beq_iff_eq];omega
    have HFA:=hid (fail_any F g q wr hq 2 (by decide))
    clear hLL HL hq H1 H2 HX
    go_wp2_with fail
    refine HFA.out.mono ?_
    rintro e w1 ⟨rfl,hr1,hf1⟩
    have HR1:=hid hr1
    have HF1:=hid (HFQ.out.then hf1)
    clear hr1 hf1 HFA
    go_wp2
    have hxx:=HLL.out
    simp only[Prod.mk.injEq] at hxx
    obtain⟨rfl,rfl⟩:=hxx
    exact bodyPost_ret (v:=.slice none 0 0) (by simp[results,Tryz.results231,go_sem]) rfl ⟨none,0,0,rfl,SlAt.nil,HR1.out,HF1.out⟩
   |
    succ m =>
    rw[listL_one] at hLL
    have hlen:((acc.length:Int)==(most:Int))=false:=by rw[beq_eq_false_iff_ne];omega
    have hG1:=n1.fine q trivial hq.good
    have hG2:=n2.fine (one q).2 trivial hG1.1
    have hD1:=HDQ.out.after n1 hq.good
    have hD2:=hD1.after n2 hG1.1
    have HO:=hid (H1.out g q wr hq HDQ.out)
    have HM:=hid (fun V (hV:RdAt F V g (one q).2)=>H2.out g (one q).2 V hV)
    have hln:acc.length<most:=by omega
    obtain⟨x,hx⟩:∃x,(one q).1=x:=⟨_,rfl⟩
    obtain⟨q1,hq1⟩:∃x,(one q).2=x:=⟨_,rfl⟩
    rw[hx,hq1] at HO hLL
    rw[hq1] at HM hD2 hD1
    obtain⟨bn,hbn⟩:∃x,(more q1).1=x:=⟨_,rfl⟩
    obtain⟨qn,hqn⟩:∃x,(more q1).2=x:=⟨_,rfl⟩
    rw[hbn,hqn] at HM hLL
    rw[hqn] at hD2
    have HLL:=hid hLL
    have HD2:=hid hD2
    clear hLL HL hq hx hq1 hbn hqn hD1 hD2 hG1 hG2 HX
    go_wp2_with fail
    refine HO.out.mono ?_
    rintro e w1 ⟨cs,rfl,rfl,hr1,hf1⟩
    have hz1:=hf1.size
    obtain⟨U,hU,hbU,hzU,hcU⟩:=box8 w1 (.cells #[.int .i64 x.k,.int .i64 x.n,.string (str8 x.s)] 128)
    have hown1:U.ownsRow w.heap.size 128 3 (.slice va acc.length vcap) acc.length css.flatten:=(Spares.row hf1 HOW.out (fun g' hg' e=>by have:=(HOW.out.lt g' hg').1;omega)).kept (World.grownBy_alloc w1 (.cells #[.int .i64 x.k,.int .i64 x.n,.string (str8 x.s)] 128) none) (by cases (Value.slice va acc.length vcap).ownBlock<;>simp) |> fun e=>by rw[hU] at e;exact e
    have hnew : ∀j u,[.int .i64 x.k,.int .i64 x.n,.string (str8 x.s)][j]?=some u→U.cell? ((⟨w1.heap.size,0,none⟩:Addr).add j)=some u:=by rw[← hU];exact new_at w1 [.int .i64 x.k,.int .i64 x.n,.string (str8 x.s)] 128
    have hone : ∀u∈([.int .i64 x.k,.int .i64 x.n,.string (str8 x.s)]:List Value),u.oneCell'=true:=by intro u hu;simp at hu;rcases hu with rfl | rfl | rfl<;>rfl
    have HRU:=hid (hr1.below hbU)
    have HFU:Hid (Fr g w U):=hid ((HFQ.out.then hf1).thenNew hbU)
    have hwU:w.heap.size≤U.heap.size:=HFU.out.size
    have HELU:Hid (Els 3 VlE (fun b=>w.heap.size≤b∧(Value.slice va acc.length vcap).ownBlock≠some b∧b<U.heap.size) U (acc++[x]) (css++[[.int .i64 x.k,.int .i64 x.n,.string (str8 x.s)]])):=hid (by
     refine Els.snoc ?_ rfl ?_
     ·refine (HEL.out.to (fun y cs e=>(e.to (T:=fun b=>w.heap.size≤b∧(Value.slice va acc.length vcap).ownBlock≠some b∧b<wr.heap.size) hf1 (fun b hb hlt=>⟨by omega,hb.1,hb.2,hlt⟩)))).to (fun y cs e=>e.to (R:=fun _=>False) (Spares.of_new hbU) (fun b hb _=>⟨id,hb.1,hb.2.1,by omega⟩))
     ·refine VlE.to (S:=fun b=>wr.heap.size≤b) (w:=w1) rfl (R:=fun _=>False) (Spares.of_new hbU) (fun b hb hlt=>⟨id,Nat.le_trans hwr hb,fun e=>?_,by omega⟩)
      have:=(HOW.out.lt b e).2
      omega)
    clear hr1 hf1 hbU hcU HO HEL
    go_wp2_with (first
     | (
       at_builtin;refine wpList_append_where _ rfl (.tmp 20) (.tmp 23) 125 rfl w.heap.size 128 i0 (.agg #[.int .i64 0,.int .i64 0,.string ⟨#[]⟩]) 3 32 Tryz.underlying125 hi hy0 hy1 hy2 rfl (by decide) _ _ _ rfl hown1 ⟨w1.heap.size,0,none⟩ 1 [.int .i64 x.k,.int .i64 x.n,.string (str8 x.s)] rfl rfl hnew hone (by unfold maxLen;omega) (by omega) hwU ?_;intro v3 w3 hown3 hg3 hwh3
       have hSp:Spares (fun b=>(Value.slice va acc.length vcap).ownBlock=some b) U w3:=Spares.of_grown hg3 (fun k hk=>hk)
       have HR3:Hid (RdAt F w3 g q1):=hid (HRU.out.keeps hSp (fun i hi e=>by have:=(hown1.lt i e).1;omega))
       have HF3:Hid (Fr g w w3):=hid (HFU.out.andThen hSp (fun i hi=>.inr (hown1.lt i hi).1))
       have HOW3:=hid hown3
       have HEL3:Hid (Els 3 VlE (fun b=>w.heap.size≤b∧v3.ownBlock≠some b) w3 (acc++[x]) (css++[[.int .i64 x.k,.int .i64 x.n,.string (str8 x.s)]])):=hid (HELU.out.to (fun y cs e=>e.to hSp (fun b hb _=>⟨hb.2.1,hb.1,fun e3=>by
        rcases hwh3 with h | h
        ·exact hb.2.1 (h ▸ e3)
        ·rw[h] at e3;have:=hb.2.2;simp at e3;omega⟩)))
       obtain⟨va3,vc3,hvf3⟩:∃va3 vc3,v3 = .slice va3 (acc.length+1) vc3:=by
        rcases hown3.2 with⟨rfl,hn⟩ | ⟨g',cap,cur,rfl,_⟩
        ·omega
        ·exact⟨_,_,rfl⟩
       subst hvf3
       clear hown3 hg3 hwh3 hSp hown1 hnew hone)
     | (
       go_at_fn fm;refine (HM.out w3 HR3.out).mono ?_
       rintro e w4 ⟨rfl,hr4,hf4⟩
       have HR4:=hid hr4
       have HF4:=hid (HF3.out.then hf4)
       have HOW4:=hid (Spares.row hf4 HOW3.out (fun g' hg' e=>by have:=(HOW3.out.lt g' hg').1;omega))
       have HEL4:=hid (HEL3.out.to (fun y cs e=>e.to (T:=fun b=>w.heap.size≤b∧(Value.slice va3 (acc.length+1) vc3).ownBlock≠some b) hf4 (fun b hb _=>⟨by omega,hb⟩)))
       clear hr4 hf4 HM)
     | fail)
    go_roundw
    case rel =>
     refine ⟨acc++[x],css++[[.int .i64 x.k,.int .i64 x.n,.string (str8 x.s)]],m,qn,bn,rfl,by simp;omega,HR4.out,HF4.out,?_,HEL4.out,HD2,hid ?_⟩
     ·have e4:=HOW4.out
      rw[List.length_append,List.flatten_append]
      simpa using e4
     ·have:=HLL.out
      cases bn with
      | true=>rw[if_pos rfl] at this;rw[if_pos rfl];exact this
      | false=>rw[if_neg Bool.false_ne_true] at this;rw[if_neg Bool.false_ne_true];exact this
    case measure =>
     show 2*(most-(acc.length+1))+boolV (.bool bn)<2*(most-acc.length)+1
     have:boolV (.bool bn)≤1:=by cases bn<;>decide
     omega
def RdsV (F f:Nat) (p:Pa (List Vl)):Prop :=
 ∀(g:Nat) (r:Rd) (w:World),RdAt F w g r→D0 r→Calls Tryz.prog f #[.pointer (some ⟨g,0,none⟩)] w fun e w'=>∃(aa:Option Addr) (nn cc:Nat),e = .returned (.slice aa nn cc)∧SlAt 3 VlE (fun b=>w.heap.size≤b) w' (p r).1 (.slice aa nn cc)∧RdAt F w' g (p r).2∧Fr g w w'
theorem Tryz.infoVs:(Tryz.prog.info? 125).map (fun i=>(i.zero,i.size,i.bytes))=some (some (.slice none 0 0),1,24):=by kernel_rfl
theorem listVs_any (F fo fm:Nat) (one:Pa (List Vl)) (more:Pa Bool) (h1:RdsV F fo one) (h2:RdsB F fm more) (n1:Nice false F one) (n2:Nice false F more)
  (e1 : ∀args w,(callFunc fo args).run Tryz.prog w = .ok (.enter fo args) w) (e2 : ∀args w,(callFunc fm args).run Tryz.prog w = .ok (.enter fm args) w)
  (most:Nat) (hm:most≤16) (g:Nat) (r:Rd) (w:World) (h:RdAt F w g r) (hD:D0 r) :
  Calls Tryz.prog 180 #[.pointer (some ⟨g,0,none⟩),.int .i64 (most:Int),.func (.func fo) #[.pointer (some ⟨g,0,none⟩)] #[],.func (.func fm) #[.pointer (some ⟨g,0,none⟩)] #[]] w fun e w'=>∃(aa:Option Addr) (nn cc:Nat),e = .returned (.slice aa nn cc)∧SlAt 1 VsE (fun b=>w.heap.size≤b) w' (listL one more most [] r).1 (.slice aa nn cc)∧RdAt F w' g (listL one more most [] r).2∧Fr g w w':=by
 obtain⟨i0,hi,hy0,hy1,hy2⟩:=info_parts Tryz.infoVs
 have hgw:=h.lt
 have HH:=hid h
 have HD:=hid hD
 obtain⟨⟨X1,X2⟩,hX⟩:∃X,listL one more most [] r=X:=⟨_,rfl⟩
 rw[hX]
 dsimp only
 have HX:=hid hX
 have H1:=hid h1
 have H2:=hid h2
 clear hX h hD h1 h2
 go_enter Tryz.func180,Tryz.ntmps180
 go_wp2_with fail
 go_loopw [9,10] (fun l b wr=>∃(acc:List (List Vl)) (css:List (List Value)) (m:Nat) (q:Rd) (bb:Bool),b = .bool bb∧m+acc.length=most∧RdAt F wr g q∧Fr g w wr∧wr.ownsRow w.heap.size 125 1 l acc.length css.flatten ∧
   Els 1 VsE (fun b=>w.heap.size≤b∧l.ownBlock≠some b) wr acc css∧Hid (D0 q)∧Hid (if bb=true then listL one more m acc q=(X1,X2) else (acc,q)=(X1,X2))) (fun l b _=>2*(most-lenV l)+boolV b)
 case atStart=>exact⟨[],[],most,r,true,rfl,by simp,HH.out,Spares.refl _ _,World.ownsRow_nil _ _ _ _,Els.nil,HD,hid (by rw[if_pos rfl];exact HX.out)⟩
 case round =>
  obtain⟨acc,css,m,q,bb,rfl,hmm,hq,hf,hown,hels,HDQ,HL⟩:=hrel
  obtain⟨va,vcap,hvf⟩:∃va vcap,u9 = .slice va acc.length vcap:=by
   rcases hown.2 with⟨rfl,hn⟩ | ⟨g',cap,cur,rfl,_⟩
   ·exact⟨_,_,by rw[hn]⟩
   ·exact⟨_,_,rfl⟩
  subst hvf
  have HQ:=hid hq
  have HFQ:=hid hf
  have HOW:=hid hown
  have HEL:=hid hels
  have hgr:=hq.lt
  have hwr:=hf.size
  clear hf hown hels
  cases bb with
  |
   false =>
   have hXX:(acc,q)=(X1,X2):=by have:=HL.out;rwa [if_neg Bool.false_ne_true] at this
   have HXX:=hid hXX
   clear hXX HL hq H1 H2
   go_wp2
   have hxx:=HXX.out
   simp only[Prod.mk.injEq] at hxx
   obtain⟨rfl,rfl⟩:=hxx
   exact bodyPost_ret (v:=.slice va acc.length vcap) (by simp[results,Tryz.results180,go_sem]) rfl ⟨va,acc.length,vcap,rfl,SlAt.of_owns (by decide) HOW.out (HEL.out.to (fun x cs e=>e.to (R:=fun _=>False) (Spares.refl _ _) (fun b hb _=>⟨id,hb.1⟩))) (fun b hb=>(HOW.out.lt b hb).1),HQ.out,HFQ.out⟩
  |
   true =>
   have hLL:listL one more m acc q=(X1,X2):=by have:=HL.out;rwa [if_pos rfl] at this
   cases m with
   |
    zero =>
    rw[listL_zero] at hLL
    have HLL:=hid hLL
    have hlen:((acc.length:Int)==(most:Int))=true:=by rw[beq_iff_eq];omega
    have HFA:=hid (fail_any F g q wr hq 2 (by decide))
    clear hLL HL hq H1 H2 HX
    go_wp2_with fail
    refine HFA.out.mono ?_
    rintro e w1 ⟨rfl,hr1,hf1⟩
    have HR1:=hid hr1
    have HF1:=hid (HFQ.out.then hf1)
    clear hr1 hf1 HFA
    go_wp2
    have hxx:=HLL.out
    simp only[Prod.mk.injEq] at hxx
    obtain⟨rfl,rfl⟩:=hxx
    exact bodyPost_ret (v:=.slice none 0 0) (by simp[results,Tryz.results180,go_sem]) rfl ⟨none,0,0,rfl,SlAt.nil,HR1.out,HF1.out⟩
   |
    succ m =>
    rw[listL_one] at hLL
    have hlen:((acc.length:Int)==(most:Int))=false:=by rw[beq_eq_false_iff_ne];omega
    have hG1:=n1.fine q trivial hq.good
    have hG2:=n2.fine (one q).2 trivial hG1.1
    have hD1:=HDQ.out.after n1 hq.good
    have hD2:=hD1.after n2 hG1.1
    have HO:=hid (H1.out g q wr hq HDQ.out)
    have HM:=hid (fun V (hV:RdAt F V g (one q).2)=>H2.out g (one q).2 V hV)
    have hln:acc.length<most:=by omega
    obtain⟨x,hx⟩:∃x,(one q).1=x:=⟨_,rfl⟩
    obtain⟨q1,hq1⟩:∃x,(one q).2=x:=⟨_,rfl⟩
    rw[hx,hq1] at HO hLL
    rw[hq1] at HM hD2 hD1
    obtain⟨bn,hbn⟩:∃x,(more q1).1=x:=⟨_,rfl⟩
    obtain⟨qn,hqn⟩:∃x,(more q1).2=x:=⟨_,rfl⟩
    rw[hbn,hqn] at HM hLL
    rw[hqn] at hD2
    have HLL:=hid hLL
    have HD2:=hid hD2
    clear hLL HL hq hx hq1 hbn hqn hD1 hD2 hG1 hG2 HX
    go_wp2_with fail
    refine HO.out.mono ?_
    rintro e w1 ⟨aa2,nn2,cc2,rfl,hel,hr1,hf1⟩
    have hz1:=hf1.size
    obtain⟨U,hU,hbU,hzU,hcU⟩:=box8 w1 (.cells #[.slice aa2 nn2 cc2] 125)
    have hown1:U.ownsRow w.heap.size 125 1 (.slice va acc.length vcap) acc.length css.flatten:=(Spares.row hf1 HOW.out (fun g' hg' e=>by have:=(HOW.out.lt g' hg').1;omega)).kept (World.grownBy_alloc w1 (.cells #[.slice aa2 nn2 cc2] 125) none) (by cases (Value.slice va acc.length vcap).ownBlock<;>simp) |> fun e=>by rw[hU] at e;exact e
    have hnew : ∀j u,[.slice aa2 nn2 cc2][j]?=some u→U.cell? ((⟨w1.heap.size,0,none⟩:Addr).add j)=some u:=by rw[← hU];exact new_at w1 [.slice aa2 nn2 cc2] 125
    have hone : ∀u∈([.slice aa2 nn2 cc2]:List Value),u.oneCell'=true:=by intro u hu;simp at hu;rcases hu with rfl<;>rfl
    have HRU:=hid (hr1.below hbU)
    have HFU:Hid (Fr g w U):=hid ((HFQ.out.then hf1).thenNew hbU)
    have hwU:w.heap.size≤U.heap.size:=HFU.out.size
    have HELU:Hid (Els 1 VsE (fun b=>w.heap.size≤b∧(Value.slice va acc.length vcap).ownBlock≠some b∧b<U.heap.size) U (acc++[x]) (css++[[.slice aa2 nn2 cc2]])):=hid (by
     refine Els.snoc ?_ rfl ?_
     ·refine (HEL.out.to (fun y cs e=>(e.to (T:=fun b=>w.heap.size≤b∧(Value.slice va acc.length vcap).ownBlock≠some b∧b<wr.heap.size) hf1 (fun b hb hlt=>⟨by omega,hb.1,hb.2,hlt⟩)))).to (fun y cs e=>e.to (R:=fun _=>False) (Spares.of_new hbU) (fun b hb _=>⟨id,hb.1,hb.2.1,by omega⟩))
     ·refine VsE.to ⟨aa2,nn2,cc2,rfl,hel⟩ (R:=fun _=>False) (Spares.of_new hbU) (fun b hb hlt=>⟨id,Nat.le_trans hwr hb,fun e=>?_,by omega⟩)
      have:=(HOW.out.lt b e).2
      omega)
    clear hr1 hf1 hbU hcU HO HEL
    go_wp2_with (first
     | (
       at_builtin;refine wpList_append_where _ rfl (.tmp 20) (.tmp 23) 23 rfl w.heap.size 125 i0 (.slice none 0 0) 1 24 Tryz.underlying23 hi hy0 hy1 hy2 rfl (by decide) _ _ _ rfl hown1 ⟨w1.heap.size,0,none⟩ 1 [.slice aa2 nn2 cc2] rfl rfl hnew hone (by unfold maxLen;omega) (by omega) hwU ?_;intro v3 w3 hown3 hg3 hwh3
       have hSp:Spares (fun b=>(Value.slice va acc.length vcap).ownBlock=some b) U w3:=Spares.of_grown hg3 (fun k hk=>hk)
       have HR3:Hid (RdAt F w3 g q1):=hid (HRU.out.keeps hSp (fun i hi e=>by have:=(hown1.lt i e).1;omega))
       have HF3:Hid (Fr g w w3):=hid (HFU.out.andThen hSp (fun i hi=>.inr (hown1.lt i hi).1))
       have HOW3:=hid hown3
       have HEL3:Hid (Els 1 VsE (fun b=>w.heap.size≤b∧v3.ownBlock≠some b) w3 (acc++[x]) (css++[[.slice aa2 nn2 cc2]])):=hid (HELU.out.to (fun y cs e=>e.to hSp (fun b hb _=>⟨hb.2.1,hb.1,fun e3=>by
        rcases hwh3 with h | h
        ·exact hb.2.1 (h ▸ e3)
        ·rw[h] at e3;have:=hb.2.2;simp at e3;omega⟩)))
       obtain⟨va3,vc3,hvf3⟩:∃va3 vc3,v3 = .slice va3 (acc.length+1) vc3:=by
        rcases hown3.2 with⟨rfl,hn⟩ | ⟨g',cap,cur,rfl,_⟩
        ·omega
        ·exact⟨_,_,rfl⟩
       subst hvf3
       clear hown3 hg3 hwh3 hSp hown1 hnew hone)
     | (
       go_at_fn fm;refine (HM.out w3 HR3.out).mono ?_
       rintro e w4 ⟨rfl,hr4,hf4⟩
       have HR4:=hid hr4
       have HF4:=hid (HF3.out.then hf4)
       have HOW4:=hid (Spares.row hf4 HOW3.out (fun g' hg' e=>by have:=(HOW3.out.lt g' hg').1;omega))
       have HEL4:=hid (HEL3.out.to (fun y cs e=>e.to (T:=fun b=>w.heap.size≤b∧(Value.slice va3 (acc.length+1) vc3).ownBlock≠some b) hf4 (fun b hb _=>⟨by omega,hb⟩)))
       clear hr4 hf4 HM)
     | fail)
    go_roundw
    case rel =>
     refine ⟨acc++[x],css++[[.slice aa2 nn2 cc2]],m,qn,bn,rfl,by simp;omega,HR4.out,HF4.out,?_,HEL4.out,HD2,hid ?_⟩
     ·have e4:=HOW4.out
      rw[List.length_append,List.flatten_append]
      simpa using e4
     ·have:=HLL.out
      cases bn with
      | true=>rw[if_pos rfl] at this;rw[if_pos rfl];exact this
      | false=>rw[if_neg Bool.false_ne_true] at this;rw[if_neg Bool.false_ne_true];exact this
    case measure =>
     show 2*(most-(acc.length+1))+boolV (.bool bn)<2*(most-acc.length)+1
     have:boolV (.bool bn)≤1:=by cases bn<;>decide
     omega
theorem Tryz.infoIt:(Tryz.prog.info? 135).map (fun i=>(i.zero,i.size,i.bytes))=some (some (.agg #[.int .i64 0,.slice none 0 0]),2,32):=by kernel_rfl
theorem listIt_any (F fo fm:Nat) (one:Pa It) (more:Pa Bool) (h1:RdsX F ItE fo one) (h2:RdsB F fm more) (n1:Nice false F one) (n2:Nice false F more)
  (e1 : ∀args w,(callFunc fo args).run Tryz.prog w = .ok (.enter fo args) w) (e2 : ∀args w,(callFunc fm args).run Tryz.prog w = .ok (.enter fm args) w)
  (most:Nat) (hm:most≤16) (g:Nat) (r:Rd) (w:World) (h:RdAt F w g r) (hD:D0 r) :
  Calls Tryz.prog 187 #[.pointer (some ⟨g,0,none⟩),.int .i64 (most:Int),.func (.func fo) #[.pointer (some ⟨g,0,none⟩)] #[],.func (.func fm) #[.pointer (some ⟨g,0,none⟩)] #[]] w fun e w'=>∃(aa:Option Addr) (nn cc:Nat),e = .returned (.slice aa nn cc)∧SlAt 2 ItE (fun b=>w.heap.size≤b) w' (listL one more most [] r).1 (.slice aa nn cc)∧RdAt F w' g (listL one more most [] r).2∧Fr g w w':=by
 obtain⟨i0,hi,hy0,hy1,hy2⟩:=info_parts Tryz.infoIt
 have hgw:=h.lt
 have HH:=hid h
 have HD:=hid hD
 obtain⟨⟨X1,X2⟩,hX⟩:∃X,listL one more most [] r=X:=⟨_,rfl⟩
 rw[hX]
 dsimp only
 have HX:=hid hX
 have H1:=hid h1
 have H2:=hid h2
 clear hX h hD h1 h2
 go_enter Tryz.func187,Tryz.ntmps187
 go_wp2_with fail
 go_loopw [9,10] (fun l b wr=>∃(acc:List It) (css:List (List Value)) (m:Nat) (q:Rd) (bb:Bool),b = .bool bb∧m+acc.length=most∧RdAt F wr g q∧Fr g w wr∧wr.ownsRow w.heap.size 135 2 l acc.length css.flatten ∧
   Els 2 ItE (fun b=>w.heap.size≤b∧l.ownBlock≠some b) wr acc css∧Hid (D0 q)∧Hid (if bb=true then listL one more m acc q=(X1,X2) else (acc,q)=(X1,X2))) (fun l b _=>2*(most-lenV l)+boolV b)
 case atStart=>exact⟨[],[],most,r,true,rfl,by simp,HH.out,Spares.refl _ _,World.ownsRow_nil _ _ _ _,Els.nil,HD,hid (by rw[if_pos rfl];exact HX.out)⟩
 case round =>
  obtain⟨acc,css,m,q,bb,rfl,hmm,hq,hf,hown,hels,HDQ,HL⟩:=hrel
  obtain⟨va,vcap,hvf⟩:∃va vcap,u9 = .slice va acc.length vcap:=by
   rcases hown.2 with⟨rfl,hn⟩ | ⟨g',cap,cur,rfl,_⟩
   ·exact⟨_,_,by rw[hn]⟩
   ·exact⟨_,_,rfl⟩
  subst hvf
  have HQ:=hid hq
  have HFQ:=hid hf
  have HOW:=hid hown
  have HEL:=hid hels
  have hgr:=hq.lt
  have hwr:=hf.size
  clear hf hown hels
  cases bb with
  |
   false =>
   have hXX:(acc,q)=(X1,X2):=by have:=HL.out;rwa [if_neg Bool.false_ne_true] at this
   have HXX:=hid hXX
   clear hXX HL hq H1 H2
   go_wp2
   have hxx:=HXX.out
   simp only[Prod.mk.injEq] at hxx
   obtain⟨rfl,rfl⟩:=hxx
   exact bodyPost_ret (v:=.slice va acc.length vcap) (by simp[results,Tryz.results187,go_sem]) rfl ⟨va,acc.length,vcap,rfl,SlAt.of_owns (by decide) HOW.out (HEL.out.to (fun x cs e=>e.to (R:=fun _=>False) (Spares.refl _ _) (fun b hb _=>⟨id,hb.1⟩))) (fun b hb=>(HOW.out.lt b hb).1),HQ.out,HFQ.out⟩
  |
   true =>
   have hLL:listL one more m acc q=(X1,X2):=by have:=HL.out;rwa [if_pos rfl] at this
   cases m with
   |
    zero =>
    rw[listL_zero] at hLL
    have HLL:=hid hLL
    have hlen:((acc.length:Int)==(most:Int))=true:=by rw[beq_iff_eq];omega
    have HFA:=hid (fail_any F g q wr hq 2 (by decide))
    clear hLL HL hq H1 H2 HX
    go_wp2_with fail
    refine HFA.out.mono ?_
    rintro e w1 ⟨rfl,hr1,hf1⟩
    have HR1:=hid hr1
    have HF1:=hid (HFQ.out.then hf1)
    clear hr1 hf1 HFA
    go_wp2
    have hxx:=HLL.out
    simp only[Prod.mk.injEq] at hxx
    obtain⟨rfl,rfl⟩:=hxx
    exact bodyPost_ret (v:=.slice none 0 0) (by simp[results,Tryz.results187,go_sem]) rfl ⟨none,0,0,rfl,SlAt.nil,HR1.out,HF1.out⟩
   |
    succ m =>
    rw[listL_one] at hLL
    have hlen:((acc.length:Int)==(most:Int))=false:=by rw[beq_eq_false_iff_ne];omega
    have hG1:=n1.fine q trivial hq.good
    have hG2:=n2.fine (one q).2 trivial hG1.1
    have hD1:=HDQ.out.after n1 hq.good
    have hD2:=hD1.after n2 hG1.1
    have HO:=hid (H1.out g q wr hq HDQ.out)
    have HM:=hid (fun V (hV:RdAt F V g (one q).2)=>H2.out g (one q).2 V hV)
    have hln:acc.length<most:=by omega
    obtain⟨x,hx⟩:∃x,(one q).1=x:=⟨_,rfl⟩
    obtain⟨q1,hq1⟩:∃x,(one q).2=x:=⟨_,rfl⟩
    rw[hx,hq1] at HO hLL
    rw[hq1] at HM hD2 hD1
    obtain⟨bn,hbn⟩:∃x,(more q1).1=x:=⟨_,rfl⟩
    obtain⟨qn,hqn⟩:∃x,(more q1).2=x:=⟨_,rfl⟩
    rw[hbn,hqn] at HM hLL
    rw[hqn] at hD2
    have HLL:=hid hLL
    have HD2:=hid hD2
    clear hLL HL hq hx hq1 hbn hqn hD1 hD2 hG1 hG2 HX
    go_wp2_with fail
    refine HO.out.mono ?_
    rintro e w1 ⟨cs,rfl,hcs,hr1,hf1⟩
    obtain⟨aa2,nn2,cc2,rfl,hel⟩:=hcs
    have hz1:=hf1.size
    obtain⟨U,hU,hbU,hzU,hcU⟩:=box8 w1 (.cells #[.int .i64 x.k,.slice aa2 nn2 cc2] 135)
    have hown1:U.ownsRow w.heap.size 135 2 (.slice va acc.length vcap) acc.length css.flatten:=(Spares.row hf1 HOW.out (fun g' hg' e=>by have:=(HOW.out.lt g' hg').1;omega)).kept (World.grownBy_alloc w1 (.cells #[.int .i64 x.k,.slice aa2 nn2 cc2] 135) none) (by cases (Value.slice va acc.length vcap).ownBlock<;>simp) |> fun e=>by rw[hU] at e;exact e
    have hnew : ∀j u,[.int .i64 x.k,.slice aa2 nn2 cc2][j]?=some u→U.cell? ((⟨w1.heap.size,0,none⟩:Addr).add j)=some u:=by rw[← hU];exact new_at w1 [.int .i64 x.k,.slice aa2 nn2 cc2] 135
    have hone : ∀u∈([.int .i64 x.k,.slice aa2 nn2 cc2]:List Value),u.oneCell'=true:=by intro u hu;simp at hu;rcases hu with rfl | rfl<;>rfl
    have HRU:=hid (hr1.below hbU)
    have HFU:Hid (Fr g w U):=hid ((HFQ.out.then hf1).thenNew hbU)
    have hwU:w.heap.size≤U.heap.size:=HFU.out.size
    have HELU:Hid (Els 2 ItE (fun b=>w.heap.size≤b∧(Value.slice va acc.length vcap).ownBlock≠some b∧b<U.heap.size) U (acc++[x]) (css++[[.int .i64 x.k,.slice aa2 nn2 cc2]])):=hid (by
     refine Els.snoc ?_ rfl ?_
     ·refine (HEL.out.to (fun y cs e=>(e.to (T:=fun b=>w.heap.size≤b∧(Value.slice va acc.length vcap).ownBlock≠some b∧b<wr.heap.size) hf1 (fun b hb hlt=>⟨by omega,hb.1,hb.2,hlt⟩)))).to (fun y cs e=>e.to (R:=fun _=>False) (Spares.of_new hbU) (fun b hb _=>⟨id,hb.1,hb.2.1,by omega⟩))
     ·refine ItE.to ⟨aa2,nn2,cc2,rfl,hel⟩ (R:=fun _=>False) (Spares.of_new hbU) (fun b hb hlt=>⟨id,Nat.le_trans hwr hb,fun e=>?_,by omega⟩)
      have:=(HOW.out.lt b e).2
      omega)
    clear hr1 hf1 hbU hcU HO HEL
    go_wp2_with (first
     | (
       at_builtin;refine wpList_append_where _ rfl (.tmp 20) (.tmp 23) 25 rfl w.heap.size 135 i0 (.agg #[.int .i64 0,.slice none 0 0]) 2 32 Tryz.underlying25 hi hy0 hy1 hy2 rfl (by decide) _ _ _ rfl hown1 ⟨w1.heap.size,0,none⟩ 1 [.int .i64 x.k,.slice aa2 nn2 cc2] rfl rfl hnew hone (by unfold maxLen;omega) (by omega) hwU ?_;intro v3 w3 hown3 hg3 hwh3
       have hSp:Spares (fun b=>(Value.slice va acc.length vcap).ownBlock=some b) U w3:=Spares.of_grown hg3 (fun k hk=>hk)
       have HR3:Hid (RdAt F w3 g q1):=hid (HRU.out.keeps hSp (fun i hi e=>by have:=(hown1.lt i e).1;omega))
       have HF3:Hid (Fr g w w3):=hid (HFU.out.andThen hSp (fun i hi=>.inr (hown1.lt i hi).1))
       have HOW3:=hid hown3
       have HEL3:Hid (Els 2 ItE (fun b=>w.heap.size≤b∧v3.ownBlock≠some b) w3 (acc++[x]) (css++[[.int .i64 x.k,.slice aa2 nn2 cc2]])):=hid (HELU.out.to (fun y cs e=>e.to hSp (fun b hb _=>⟨hb.2.1,hb.1,fun e3=>by
        rcases hwh3 with h | h
        ·exact hb.2.1 (h ▸ e3)
        ·rw[h] at e3;have:=hb.2.2;simp at e3;omega⟩)))
       obtain⟨va3,vc3,hvf3⟩:∃va3 vc3,v3 = .slice va3 (acc.length+1) vc3:=by
        rcases hown3.2 with⟨rfl,hn⟩ | ⟨g',cap,cur,rfl,_⟩
        ·omega
        ·exact⟨_,_,rfl⟩
       subst hvf3
       clear hown3 hg3 hwh3 hSp hown1 hnew hone)
     | (
       go_at_fn fm;refine (HM.out w3 HR3.out).mono ?_
       rintro e w4 ⟨rfl,hr4,hf4⟩
       have HR4:=hid hr4
       have HF4:=hid (HF3.out.then hf4)
       have HOW4:=hid (Spares.row hf4 HOW3.out (fun g' hg' e=>by have:=(HOW3.out.lt g' hg').1;omega))
       have HEL4:=hid (HEL3.out.to (fun y cs e=>e.to (T:=fun b=>w.heap.size≤b∧(Value.slice va3 (acc.length+1) vc3).ownBlock≠some b) hf4 (fun b hb _=>⟨by omega,hb⟩)))
       clear hr4 hf4 HM)
     | fail)
    go_roundw
    case rel =>
     refine ⟨acc++[x],css++[[.int .i64 x.k,.slice aa2 nn2 cc2]],m,qn,bn,rfl,by simp;omega,HR4.out,HF4.out,?_,HEL4.out,HD2,hid ?_⟩
     ·have e4:=HOW4.out
      rw[List.length_append,List.flatten_append]
      simpa using e4
     ·have:=HLL.out
      cases bn with
      | true=>rw[if_pos rfl] at this;rw[if_pos rfl];exact this
      | false=>rw[if_neg Bool.false_ne_true] at this;rw[if_neg Bool.false_ne_true];exact this
    case measure =>
     show 2*(most-(acc.length+1))+boolV (.bool bn)<2*(most-acc.length)+1
     have:boolV (.bool bn)≤1:=by cases bn<;>decide
     omega
theorem Tryz.infoSe:(Tryz.prog.info? 132).map (fun i=>(i.zero,i.size,i.bytes))=some (some (.agg #[.string ⟨#[]⟩,.int .i64 0,.int .i64 0,.string ⟨#[]⟩,.string ⟨#[]⟩,.int .i64 0,.int .i64 0,.string ⟨#[]⟩,.slice none 0 0]),9,120):=by kernel_rfl
theorem listSe_any (F fo fm:Nat) (one:Pa Se) (more:Pa Bool) (h1:RdsX F SeE fo one) (h2:RdsB F fm more) (n1:Nice false F one) (n2:Nice false F more)
  (e1 : ∀args w,(callFunc fo args).run Tryz.prog w = .ok (.enter fo args) w) (e2 : ∀args w,(callFunc fm args).run Tryz.prog w = .ok (.enter fm args) w)
  (most:Nat) (hm:most≤16) (g:Nat) (r:Rd) (w:World) (h:RdAt F w g r) (hD:D0 r) :
  Calls Tryz.prog 183 #[.pointer (some ⟨g,0,none⟩),.int .i64 (most:Int),.func (.func fo) #[.pointer (some ⟨g,0,none⟩)] #[],.func (.func fm) #[.pointer (some ⟨g,0,none⟩)] #[]] w fun e w'=>∃(aa:Option Addr) (nn cc:Nat),e = .returned (.slice aa nn cc)∧SlAt 9 SeE (fun b=>w.heap.size≤b) w' (listL one more most [] r).1 (.slice aa nn cc)∧RdAt F w' g (listL one more most [] r).2∧Fr g w w':=by
 obtain⟨i0,hi,hy0,hy1,hy2⟩:=info_parts Tryz.infoSe
 have hgw:=h.lt
 have HH:=hid h
 have HD:=hid hD
 obtain⟨⟨X1,X2⟩,hX⟩:∃X,listL one more most [] r=X:=⟨_,rfl⟩
 rw[hX]
 dsimp only
 have HX:=hid hX
 have H1:=hid h1
 have H2:=hid h2
 clear hX h hD h1 h2
 go_enter Tryz.func183,Tryz.ntmps183
 go_wp2_with fail
 go_loopw [9,10] (fun l b wr=>∃(acc:List Se) (css:List (List Value)) (m:Nat) (q:Rd) (bb:Bool),b = .bool bb∧m+acc.length=most∧RdAt F wr g q∧Fr g w wr∧wr.ownsRow w.heap.size 132 9 l acc.length css.flatten ∧
   Els 9 SeE (fun b=>w.heap.size≤b∧l.ownBlock≠some b) wr acc css∧Hid (D0 q)∧Hid (if bb=true then listL one more m acc q=(X1,X2) else (acc,q)=(X1,X2))) (fun l b _=>2*(most-lenV l)+boolV b)
 case atStart=>exact⟨[],[],most,r,true,rfl,by simp,HH.out,Spares.refl _ _,World.ownsRow_nil _ _ _ _,Els.nil,HD,hid (by rw[if_pos rfl];exact HX.out)⟩
 case round =>
  obtain⟨acc,css,m,q,bb,rfl,hmm,hq,hf,hown,hels,HDQ,HL⟩:=hrel
  obtain⟨va,vcap,hvf⟩:∃va vcap,u9 = .slice va acc.length vcap:=by
   rcases hown.2 with⟨rfl,hn⟩ | ⟨g',cap,cur,rfl,_⟩
   ·exact⟨_,_,by rw[hn]⟩
   ·exact⟨_,_,rfl⟩
  subst hvf
  have HQ:=hid hq
  have HFQ:=hid hf
  have HOW:=hid hown
  have HEL:=hid hels
  have hgr:=hq.lt
  have hwr:=hf.size
  clear hf hown hels
  cases bb with
  |
   false =>
   have hXX:(acc,q)=(X1,X2):=by have:=HL.out;rwa [if_neg Bool.false_ne_true] at this
   have HXX:=hid hXX
   clear hXX HL hq H1 H2
   go_wp2
   have hxx:=HXX.out
   simp only[Prod.mk.injEq] at hxx
   obtain⟨rfl,rfl⟩:=hxx
   exact bodyPost_ret (v:=.slice va acc.length vcap) (by simp[results,Tryz.results183,go_sem]) rfl ⟨va,acc.length,vcap,rfl,SlAt.of_owns (by decide) HOW.out (HEL.out.to (fun x cs e=>e.to (R:=fun _=>False) (Spares.refl _ _) (fun b hb _=>⟨id,hb.1⟩))) (fun b hb=>(HOW.out.lt b hb).1),HQ.out,HFQ.out⟩
  |
   true =>
   have hLL:listL one more m acc q=(X1,X2):=by have:=HL.out;rwa [if_pos rfl] at this
   cases m with
   |
    zero =>
    rw[listL_zero] at hLL
    have HLL:=hid hLL
    have hlen:((acc.length:Int)==(most:Int))=true:=by rw[beq_iff_eq];omega
    have HFA:=hid (fail_any F g q wr hq 2 (by decide))
    clear hLL HL hq H1 H2 HX
    go_wp2_with fail
    refine HFA.out.mono ?_
    rintro e w1 ⟨rfl,hr1,hf1⟩
    have HR1:=hid hr1
    have HF1:=hid (HFQ.out.then hf1)
    clear hr1 hf1 HFA
    go_wp2
    have hxx:=HLL.out
    simp only[Prod.mk.injEq] at hxx
    obtain⟨rfl,rfl⟩:=hxx
    exact bodyPost_ret (v:=.slice none 0 0) (by simp[results,Tryz.results183,go_sem]) rfl ⟨none,0,0,rfl,SlAt.nil,HR1.out,HF1.out⟩
   |
    succ m =>
    rw[listL_one] at hLL
    have hlen:((acc.length:Int)==(most:Int))=false:=by rw[beq_eq_false_iff_ne];omega
    have hG1:=n1.fine q trivial hq.good
    have hG2:=n2.fine (one q).2 trivial hG1.1
    have hD1:=HDQ.out.after n1 hq.good
    have hD2:=hD1.after n2 hG1.1
    have HO:=hid (H1.out g q wr hq HDQ.out)
    have HM:=hid (fun V (hV:RdAt F V g (one q).2)=>H2.out g (one q).2 V hV)
    have hln:acc.length<most:=by omega
    obtain⟨x,hx⟩:∃x,(one q).1=x:=⟨_,rfl⟩
    obtain⟨q1,hq1⟩:∃x,(one q).2=x:=⟨_,rfl⟩
    rw[hx,hq1] at HO hLL
    rw[hq1] at HM hD2 hD1
    obtain⟨bn,hbn⟩:∃x,(more q1).1=x:=⟨_,rfl⟩
    obtain⟨qn,hqn⟩:∃x,(more q1).2=x:=⟨_,rfl⟩
    rw[hbn,hqn] at HM hLL
    rw[hqn] at hD2
    have HLL:=hid hLL
    have HD2:=hid hD2
    clear hLL HL hq hx hq1 hbn hqn hD1 hD2 hG1 hG2 HX
    go_wp2_with fail
    refine HO.out.mono ?_
    rintro e w1 ⟨cs,rfl,hcs,hr1,hf1⟩
    obtain⟨k2,op2,tb2,nm2,vk2,vn2,vs2,ys2,aa2,nn2,cc2,hxe,rfl,hel⟩:=hcs
    have hz1:=hf1.size
    obtain⟨U,hU,hbU,hzU,hcU⟩:=box8 w1 (.cells #[.string (str8 x.nm),.int .i64 k2,.int .i64 op2,.string (str8 tb2),.string (str8 nm2),.int .i64 vk2,.int .i64 vn2,.string (str8 vs2),.slice aa2 nn2 cc2] 132)
    have hown1:U.ownsRow w.heap.size 132 9 (.slice va acc.length vcap) acc.length css.flatten:=(Spares.row hf1 HOW.out (fun g' hg' e=>by have:=(HOW.out.lt g' hg').1;omega)).kept (World.grownBy_alloc w1 (.cells #[.string (str8 x.nm),.int .i64 k2,.int .i64 op2,.string (str8 tb2),.string (str8 nm2),.int .i64 vk2,.int .i64 vn2,.string (str8 vs2),.slice aa2 nn2 cc2] 132) none) (by cases (Value.slice va acc.length vcap).ownBlock<;>simp) |> fun e=>by rw[hU] at e;exact e
    have hnew : ∀j u,[.string (str8 x.nm),.int .i64 k2,.int .i64 op2,.string (str8 tb2),.string (str8 nm2),.int .i64 vk2,.int .i64 vn2,.string (str8 vs2),.slice aa2 nn2 cc2][j]?=some u→U.cell? ((⟨w1.heap.size,0,none⟩:Addr).add j)=some u:=by rw[← hU];exact new_at w1 [.string (str8 x.nm),.int .i64 k2,.int .i64 op2,.string (str8 tb2),.string (str8 nm2),.int .i64 vk2,.int .i64 vn2,.string (str8 vs2),.slice aa2 nn2 cc2] 132
    have hone : ∀u∈([.string (str8 x.nm),.int .i64 k2,.int .i64 op2,.string (str8 tb2),.string (str8 nm2),.int .i64 vk2,.int .i64 vn2,.string (str8 vs2),.slice aa2 nn2 cc2]:List Value),u.oneCell'=true:=by intro u hu;simp at hu;rcases hu with rfl | rfl | rfl | rfl | rfl | rfl | rfl | rfl | rfl<;>rfl
    have HRU:=hid (hr1.below hbU)
    have HFU:Hid (Fr g w U):=hid ((HFQ.out.then hf1).thenNew hbU)
    have hwU:w.heap.size≤U.heap.size:=HFU.out.size
    have HELU:Hid (Els 9 SeE (fun b=>w.heap.size≤b∧(Value.slice va acc.length vcap).ownBlock≠some b∧b<U.heap.size) U (acc++[x]) (css++[[.string (str8 x.nm),.int .i64 k2,.int .i64 op2,.string (str8 tb2),.string (str8 nm2),.int .i64 vk2,.int .i64 vn2,.string (str8 vs2),.slice aa2 nn2 cc2]])):=hid (by
     refine Els.snoc ?_ rfl ?_
     ·refine (HEL.out.to (fun y cs e=>(e.to (T:=fun b=>w.heap.size≤b∧(Value.slice va acc.length vcap).ownBlock≠some b∧b<wr.heap.size) hf1 (fun b hb hlt=>⟨by omega,hb.1,hb.2,hlt⟩)))).to (fun y cs e=>e.to (R:=fun _=>False) (Spares.of_new hbU) (fun b hb _=>⟨id,hb.1,hb.2.1,by omega⟩))
     ·refine SeE.to ⟨k2,op2,tb2,nm2,vk2,vn2,vs2,ys2,aa2,nn2,cc2,hxe,rfl,hel⟩ (R:=fun _=>False) (Spares.of_new hbU) (fun b hb hlt=>⟨id,Nat.le_trans hwr hb,fun e=>?_,by omega⟩)
      have:=(HOW.out.lt b e).2
      omega)
    clear hr1 hf1 hbU hcU HO HEL
    go_wp2_with (first
     | (
       at_builtin;refine wpList_append_where _ rfl (.tmp 20) (.tmp 23) 24 rfl w.heap.size 132 i0 (.agg #[.string ⟨#[]⟩,.int .i64 0,.int .i64 0,.string ⟨#[]⟩,.string ⟨#[]⟩,.int .i64 0,.int .i64 0,.string ⟨#[]⟩,.slice none 0 0]) 9 120 Tryz.underlying24 hi hy0 hy1 hy2 rfl (by decide) _ _ _ rfl hown1 ⟨w1.heap.size,0,none⟩ 1 [.string (str8 x.nm),.int .i64 k2,.int .i64 op2,.string (str8 tb2),.string (str8 nm2),.int .i64 vk2,.int .i64 vn2,.string (str8 vs2),.slice aa2 nn2 cc2] rfl rfl hnew hone (by unfold maxLen;omega) (by omega) hwU ?_;intro v3 w3 hown3 hg3 hwh3
       have hSp:Spares (fun b=>(Value.slice va acc.length vcap).ownBlock=some b) U w3:=Spares.of_grown hg3 (fun k hk=>hk)
       have HR3:Hid (RdAt F w3 g q1):=hid (HRU.out.keeps hSp (fun i hi e=>by have:=(hown1.lt i e).1;omega))
       have HF3:Hid (Fr g w w3):=hid (HFU.out.andThen hSp (fun i hi=>.inr (hown1.lt i hi).1))
       have HOW3:=hid hown3
       have HEL3:Hid (Els 9 SeE (fun b=>w.heap.size≤b∧v3.ownBlock≠some b) w3 (acc++[x]) (css++[[.string (str8 x.nm),.int .i64 k2,.int .i64 op2,.string (str8 tb2),.string (str8 nm2),.int .i64 vk2,.int .i64 vn2,.string (str8 vs2),.slice aa2 nn2 cc2]])):=hid (HELU.out.to (fun y cs e=>e.to hSp (fun b hb _=>⟨hb.2.1,hb.1,fun e3=>by
        rcases hwh3 with h | h
        ·exact hb.2.1 (h ▸ e3)
        ·rw[h] at e3;have:=hb.2.2;simp at e3;omega⟩)))
       obtain⟨va3,vc3,hvf3⟩:∃va3 vc3,v3 = .slice va3 (acc.length+1) vc3:=by
        rcases hown3.2 with⟨rfl,hn⟩ | ⟨g',cap,cur,rfl,_⟩
        ·omega
        ·exact⟨_,_,rfl⟩
       subst hvf3
       clear hown3 hg3 hwh3 hSp hown1 hnew hone)
     | (
       go_at_fn fm;refine (HM.out w3 HR3.out).mono ?_
       rintro e w4 ⟨rfl,hr4,hf4⟩
       have HR4:=hid hr4
       have HF4:=hid (HF3.out.then hf4)
       have HOW4:=hid (Spares.row hf4 HOW3.out (fun g' hg' e=>by have:=(HOW3.out.lt g' hg').1;omega))
       have HEL4:=hid (HEL3.out.to (fun y cs e=>e.to (T:=fun b=>w.heap.size≤b∧(Value.slice va3 (acc.length+1) vc3).ownBlock≠some b) hf4 (fun b hb _=>⟨by omega,hb⟩)))
       clear hr4 hf4 HM)
     | fail)
    go_roundw
    case rel =>
     refine ⟨acc++[x],css++[[.string (str8 x.nm),.int .i64 k2,.int .i64 op2,.string (str8 tb2),.string (str8 nm2),.int .i64 vk2,.int .i64 vn2,.string (str8 vs2),.slice aa2 nn2 cc2]],m,qn,bn,rfl,by simp;omega,HR4.out,HF4.out,?_,HEL4.out,HD2,hid ?_⟩
     ·have e4:=HOW4.out
      rw[List.length_append,List.flatten_append]
      simpa using e4
     ·have:=HLL.out
      cases bn with
      | true=>rw[if_pos rfl] at this;rw[if_pos rfl];exact this
      | false=>rw[if_neg Bool.false_ne_true] at this;rw[if_neg Bool.false_ne_true];exact this
    case measure =>
     show 2*(most-(acc.length+1))+boolV (.bool bn)<2*(most-acc.length)+1
     have:boolV (.bool bn)≤1:=by cases bn<;>decide
     omega
theorem Tryz.infoSt:(Tryz.prog.info? 28).map (fun i=>(i.zero,i.size,i.bytes))=some (some (.agg #[.int .i64 0,.string ⟨#[]⟩,.slice none 0 0,.string ⟨#[]⟩,.slice none 0 0,.slice none 0 0,.slice none 0 0,.string ⟨#[]⟩,.slice none 0 0,.slice none 0 0,.slice none 0 0,.slice none 0 0,.bool false,.int .i64 0]),14,264):=by kernel_rfl
theorem listSt_any (F fo fm:Nat) (one:Pa St) (more:Pa Bool) (h1:RdsX F StE fo one) (h2:RdsB F fm more) (n1:Nice false F one) (n2:Nice false F more)
  (e1 : ∀args w,(callFunc fo args).run Tryz.prog w = .ok (.enter fo args) w) (e2 : ∀args w,(callFunc fm args).run Tryz.prog w = .ok (.enter fm args) w)
  (most:Nat) (hm:most≤16) (g:Nat) (r:Rd) (w:World) (h:RdAt F w g r) (hD:D0 r) :
  Calls Tryz.prog 64 #[.pointer (some ⟨g,0,none⟩),.int .i64 (most:Int),.func (.func fo) #[.pointer (some ⟨g,0,none⟩)] #[],.func (.func fm) #[.pointer (some ⟨g,0,none⟩)] #[]] w fun e w'=>∃(aa:Option Addr) (nn cc:Nat),e = .returned (.slice aa nn cc)∧SlAt 14 StE (fun b=>w.heap.size≤b) w' (listL one more most [] r).1 (.slice aa nn cc)∧RdAt F w' g (listL one more most [] r).2∧Fr g w w':=by
 obtain⟨i0,hi,hy0,hy1,hy2⟩:=info_parts Tryz.infoSt
 have hgw:=h.lt
 have HH:=hid h
 have HD:=hid hD
 obtain⟨⟨X1,X2⟩,hX⟩:∃X,listL one more most [] r=X:=⟨_,rfl⟩
 rw[hX]
 dsimp only
 have HX:=hid hX
 have H1:=hid h1
 have H2:=hid h2
 clear hX h hD h1 h2
 go_enter Tryz.func64,Tryz.ntmps64
 go_wp2_with fail
 go_loopw [9,10] (fun l b wr=>∃(acc:List St) (css:List (List Value)) (m:Nat) (q:Rd) (bb:Bool),b = .bool bb∧m+acc.length=most∧RdAt F wr g q∧Fr g w wr∧wr.ownsRow w.heap.size 28 14 l acc.length css.flatten ∧
   Els 14 StE (fun b=>w.heap.size≤b∧l.ownBlock≠some b) wr acc css∧Hid (D0 q)∧Hid (if bb=true then listL one more m acc q=(X1,X2) else (acc,q)=(X1,X2))) (fun l b _=>2*(most-lenV l)+boolV b)
 case atStart=>exact⟨[],[],most,r,true,rfl,by simp,HH.out,Spares.refl _ _,World.ownsRow_nil _ _ _ _,Els.nil,HD,hid (by rw[if_pos rfl];exact HX.out)⟩
 case round =>
  obtain⟨acc,css,m,q,bb,rfl,hmm,hq,hf,hown,hels,HDQ,HL⟩:=hrel
  obtain⟨va,vcap,hvf⟩:∃va vcap,u9 = .slice va acc.length vcap:=by
   rcases hown.2 with⟨rfl,hn⟩ | ⟨g',cap,cur,rfl,_⟩
   ·exact⟨_,_,by rw[hn]⟩
   ·exact⟨_,_,rfl⟩
  subst hvf
  have HQ:=hid hq
  have HFQ:=hid hf
  have HOW:=hid hown
  have HEL:=hid hels
  have hgr:=hq.lt
  have hwr:=hf.size
  clear hf hown hels
  cases bb with
  |
   false =>
   have hXX:(acc,q)=(X1,X2):=by have:=HL.out;rwa [if_neg Bool.false_ne_true] at this
   have HXX:=hid hXX
   clear hXX HL hq H1 H2
   go_wp2
   have hxx:=HXX.out
   simp only[Prod.mk.injEq] at hxx
   obtain⟨rfl,rfl⟩:=hxx
   exact bodyPost_ret (v:=.slice va acc.length vcap) (by simp[results,Tryz.results64,go_sem]) rfl ⟨va,acc.length,vcap,rfl,SlAt.of_owns (by decide) HOW.out (HEL.out.to (fun x cs e=>e.to (R:=fun _=>False) (Spares.refl _ _) (fun b hb _=>⟨id,hb.1⟩))) (fun b hb=>(HOW.out.lt b hb).1),HQ.out,HFQ.out⟩
  |
   true =>
   have hLL:listL one more m acc q=(X1,X2):=by have:=HL.out;rwa [if_pos rfl] at this
   cases m with
   |
    zero =>
    rw[listL_zero] at hLL
    have HLL:=hid hLL
    have hlen:((acc.length:Int)==(most:Int))=true:=by rw[beq_iff_eq];omega
    have HFA:=hid (fail_any F g q wr hq 2 (by decide))
    clear hLL HL hq H1 H2 HX
    go_wp2_with fail
    refine HFA.out.mono ?_
    rintro e w1 ⟨rfl,hr1,hf1⟩
    have HR1:=hid hr1
    have HF1:=hid (HFQ.out.then hf1)
    clear hr1 hf1 HFA
    go_wp2
    have hxx:=HLL.out
    simp only[Prod.mk.injEq] at hxx
    obtain⟨rfl,rfl⟩:=hxx
    exact bodyPost_ret (v:=.slice none 0 0) (by simp[results,Tryz.results64,go_sem]) rfl ⟨none,0,0,rfl,SlAt.nil,HR1.out,HF1.out⟩
   |
    succ m =>
    rw[listL_one] at hLL
    have hlen:((acc.length:Int)==(most:Int))=false:=by rw[beq_eq_false_iff_ne];omega
    have hG1:=n1.fine q trivial hq.good
    have hG2:=n2.fine (one q).2 trivial hG1.1
    have hD1:=HDQ.out.after n1 hq.good
    have hD2:=hD1.after n2 hG1.1
    have HO:=hid (H1.out g q wr hq HDQ.out)
    have HM:=hid (fun V (hV:RdAt F V g (one q).2)=>H2.out g (one q).2 V hV)
    have hln:acc.length<most:=by omega
    obtain⟨x,hx⟩:∃x,(one q).1=x:=⟨_,rfl⟩
    obtain⟨q1,hq1⟩:∃x,(one q).2=x:=⟨_,rfl⟩
    rw[hx,hq1] at HO hLL
    rw[hq1] at HM hD2 hD1
    obtain⟨bn,hbn⟩:∃x,(more q1).1=x:=⟨_,rfl⟩
    obtain⟨qn,hqn⟩:∃x,(more q1).2=x:=⟨_,rfl⟩
    rw[hbn,hqn] at HM hLL
    rw[hqn] at hD2
    have HLL:=hid hLL
    have HD2:=hid hD2
    clear hLL HL hq hx hq1 hbn hqn hD1 hD2 hG1 hG2 HX
    go_wp2_with fail
    refine HO.out.mono ?_
    rintro e w1 ⟨cs,rfl,hcs,hr1,hf1⟩
    obtain⟨a1,a2,a3,a4,a5,a6,a7,a8,m1,m2,m3,m4,m5,m6,m7,m8,c1,c2,c3,c4,c5,c6,c7,c8,rfl,hel⟩:=hcs
    have hz1:=hf1.size
    obtain⟨U,hU,hbU,hzU,hcU⟩:=box8 w1 (.cells #[.int .i64 x.k,.string (str8 x.tb),.slice a1 m1 c1,.string (str8 x.prim),.slice a2 m2 c2,.slice a3 m3 c3,.slice a4 m4 c4,.string (str8 x.jn),.slice a5 m5 c5,.slice a6 m6 c6,.slice a7 m7 c7,.slice a8 m8 c8,.bool x.desc,.int .i64 x.lim] 28)
    have hown1:U.ownsRow w.heap.size 28 14 (.slice va acc.length vcap) acc.length css.flatten:=(Spares.row hf1 HOW.out (fun g' hg' e=>by have:=(HOW.out.lt g' hg').1;omega)).kept (World.grownBy_alloc w1 (.cells #[.int .i64 x.k,.string (str8 x.tb),.slice a1 m1 c1,.string (str8 x.prim),.slice a2 m2 c2,.slice a3 m3 c3,.slice a4 m4 c4,.string (str8 x.jn),.slice a5 m5 c5,.slice a6 m6 c6,.slice a7 m7 c7,.slice a8 m8 c8,.bool x.desc,.int .i64 x.lim] 28) none) (by cases (Value.slice va acc.length vcap).ownBlock<;>simp) |> fun e=>by rw[hU] at e;exact e
    have hnew : ∀j u,[.int .i64 x.k,.string (str8 x.tb),.slice a1 m1 c1,.string (str8 x.prim),.slice a2 m2 c2,.slice a3 m3 c3,.slice a4 m4 c4,.string (str8 x.jn),.slice a5 m5 c5,.slice a6 m6 c6,.slice a7 m7 c7,.slice a8 m8 c8,.bool x.desc,.int .i64 x.lim][j]?=some u→U.cell? ((⟨w1.heap.size,0,none⟩:Addr).add j)=some u:=by rw[← hU];exact new_at w1 [.int .i64 x.k,.string (str8 x.tb),.slice a1 m1 c1,.string (str8 x.prim),.slice a2 m2 c2,.slice a3 m3 c3,.slice a4 m4 c4,.string (str8 x.jn),.slice a5 m5 c5,.slice a6 m6 c6,.slice a7 m7 c7,.slice a8 m8 c8,.bool x.desc,.int .i64 x.lim] 28
    have hone : ∀u∈([.int .i64 x.k,.string (str8 x.tb),.slice a1 m1 c1,.string (str8 x.prim),.slice a2 m2 c2,.slice a3 m3 c3,.slice a4 m4 c4,.string (str8 x.jn),.slice a5 m5 c5,.slice a6 m6 c6,.slice a7 m7 c7,.slice a8 m8 c8,.bool x.desc,.int .i64 x.lim]:List Value),u.oneCell'=true:=by intro u hu;simp at hu;rcases hu with rfl | rfl | rfl | rfl | rfl | rfl | rfl | rfl | rfl | rfl | rfl | rfl | rfl | rfl<;>rfl
    have HRU:=hid (hr1.below hbU)
    have HFU:Hid (Fr g w U):=hid ((HFQ.out.then hf1).thenNew hbU)
    have hwU:w.heap.size≤U.heap.size:=HFU.out.size
    have HELU:Hid (Els 14 StE (fun b=>w.heap.size≤b∧(Value.slice va acc.length vcap).ownBlock≠some b∧b<U.heap.size) U (acc++[x]) (css++[[.int .i64 x.k,.string (str8 x.tb),.slice a1 m1 c1,.string (str8 x.prim),.slice a2 m2 c2,.slice a3 m3 c3,.slice a4 m4 c4,.string (str8 x.jn),.slice a5 m5 c5,.slice a6 m6 c6,.slice a7 m7 c7,.slice a8 m8 c8,.bool x.desc,.int .i64 x.lim]])):=hid (by
     refine Els.snoc ?_ rfl ?_
     ·refine (HEL.out.to (fun y cs e=>(e.to (T:=fun b=>w.heap.size≤b∧(Value.slice va acc.length vcap).ownBlock≠some b∧b<wr.heap.size) hf1 (fun b hb hlt=>⟨by omega,hb.1,hb.2,hlt⟩)))).to (fun y cs e=>e.to (R:=fun _=>False) (Spares.of_new hbU) (fun b hb _=>⟨id,hb.1,hb.2.1,by omega⟩))
     ·refine StE.to ⟨a1,a2,a3,a4,a5,a6,a7,a8,m1,m2,m3,m4,m5,m6,m7,m8,c1,c2,c3,c4,c5,c6,c7,c8,rfl,hel⟩ (R:=fun _=>False) (Spares.of_new hbU) (fun b hb hlt=>⟨id,Nat.le_trans hwr hb,fun e=>?_,by omega⟩)
      have:=(HOW.out.lt b e).2
      omega)
    clear hr1 hf1 hbU hcU HO HEL
    go_wp2_with (first
     | (
       at_builtin;refine wpList_append_where _ rfl (.tmp 20) (.tmp 23) 67 rfl w.heap.size 28 i0 (.agg #[.int .i64 0,.string ⟨#[]⟩,.slice none 0 0,.string ⟨#[]⟩,.slice none 0 0,.slice none 0 0,.slice none 0 0,.string ⟨#[]⟩,.slice none 0 0,.slice none 0 0,.slice none 0 0,.slice none 0 0,.bool false,.int .i64 0]) 14 264 Tryz.underlying67 hi hy0 hy1 hy2 rfl (by decide) _ _ _ rfl hown1 ⟨w1.heap.size,0,none⟩ 1 [.int .i64 x.k,.string (str8 x.tb),.slice a1 m1 c1,.string (str8 x.prim),.slice a2 m2 c2,.slice a3 m3 c3,.slice a4 m4 c4,.string (str8 x.jn),.slice a5 m5 c5,.slice a6 m6 c6,.slice a7 m7 c7,.slice a8 m8 c8,.bool x.desc,.int .i64 x.lim] rfl rfl hnew hone (by unfold maxLen;omega) (by omega) hwU ?_;intro v3 w3 hown3 hg3 hwh3
       have hSp:Spares (fun b=>(Value.slice va acc.length vcap).ownBlock=some b) U w3:=Spares.of_grown hg3 (fun k hk=>hk)
       have HR3:Hid (RdAt F w3 g q1):=hid (HRU.out.keeps hSp (fun i hi e=>by have:=(hown1.lt i e).1;omega))
       have HF3:Hid (Fr g w w3):=hid (HFU.out.andThen hSp (fun i hi=>.inr (hown1.lt i hi).1))
       have HOW3:=hid hown3
       have HEL3:Hid (Els 14 StE (fun b=>w.heap.size≤b∧v3.ownBlock≠some b) w3 (acc++[x]) (css++[[.int .i64 x.k,.string (str8 x.tb),.slice a1 m1 c1,.string (str8 x.prim),.slice a2 m2 c2,.slice a3 m3 c3,.slice a4 m4 c4,.string (str8 x.jn),.slice a5 m5 c5,.slice a6 m6 c6,.slice a7 m7 c7,.slice a8 m8 c8,.bool x.desc,.int .i64 x.lim]])):=hid (HELU.out.to (fun y cs e=>e.to hSp (fun b hb _=>⟨hb.2.1,hb.1,fun e3=>by
        rcases hwh3 with h | h
        ·exact hb.2.1 (h ▸ e3)
        ·rw[h] at e3;have:=hb.2.2;simp at e3;omega⟩)))
       obtain⟨va3,vc3,hvf3⟩:∃va3 vc3,v3 = .slice va3 (acc.length+1) vc3:=by
        rcases hown3.2 with⟨rfl,hn⟩ | ⟨g',cap,cur,rfl,_⟩
        ·omega
        ·exact⟨_,_,rfl⟩
       subst hvf3
       clear hown3 hg3 hwh3 hSp hown1 hnew hone)
     | (
       go_at_fn fm;refine (HM.out w3 HR3.out).mono ?_
       rintro e w4 ⟨rfl,hr4,hf4⟩
       have HR4:=hid hr4
       have HF4:=hid (HF3.out.then hf4)
       have HOW4:=hid (Spares.row hf4 HOW3.out (fun g' hg' e=>by have:=(HOW3.out.lt g' hg').1;omega))
       have HEL4:=hid (HEL3.out.to (fun y cs e=>e.to (T:=fun b=>w.heap.size≤b∧(Value.slice va3 (acc.length+1) vc3).ownBlock≠some b) hf4 (fun b hb _=>⟨by omega,hb⟩)))
       clear hr4 hf4 HM)
     | fail)
    go_roundw
    case rel =>
     refine ⟨acc++[x],css++[[.int .i64 x.k,.string (str8 x.tb),.slice a1 m1 c1,.string (str8 x.prim),.slice a2 m2 c2,.slice a3 m3 c3,.slice a4 m4 c4,.string (str8 x.jn),.slice a5 m5 c5,.slice a6 m6 c6,.slice a7 m7 c7,.slice a8 m8 c8,.bool x.desc,.int .i64 x.lim]],m,qn,bn,rfl,by simp;omega,HR4.out,HF4.out,?_,HEL4.out,HD2,hid ?_⟩
     ·have e4:=HOW4.out
      rw[List.length_append,List.flatten_append]
      simpa using e4
     ·have:=HLL.out
      cases bn with
      | true=>rw[if_pos rfl] at this;rw[if_pos rfl];exact this
      | false=>rw[if_neg Bool.false_ne_true] at this;rw[if_neg Bool.false_ne_true];exact this
    case measure =>
     show 2*(most-(acc.length+1))+boolV (.bool bn)<2*(most-acc.length)+1
     have:boolV (.bool bn)≤1:=by cases bn<;>decide
     omega
end Go.Proofs.YtaaggohjmhifbaaGreatDoor
