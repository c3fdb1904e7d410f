/- Packed for the hand-in: WFewS -/
import Derived.Test.YtnidnipiihhnaaaGreatDoorX28
import Derived.Test.YtnidnipiihhnaaaGreatDoorX26
namespace Go.Proofs.YtnidnipiihhnaaaGreatDoor
open Go.RowKit Go.Shelf
set_option linter.unusedSimpArgs false
set_option linter.unusedVariables false
set_option maxRecDepth 20000
set_option maxHeartbeats 8000000
theorem ExE.ofSe {S:Nat→Prop} {w:World} {x:Se} {cs:List Value} (h:SeE S w x cs):∃ds,cs = .string (str8 x.nm)::ds∧ExE S w x.e ds:=by
 obtain⟨k,op,tb,nm,vk,vn,vs,ys,aa,nn,cc,h1,rfl,h3⟩:=h
 exact⟨_,rfl,k,op,tb,nm,vk,vn,vs,ys,aa,nn,cc,h1,rfl,h3⟩
theorem fewState_any (S:Nat→Prop) (x:St) (cs:List Value) (w:World) (hR:RgS x) (hx:StE S w x cs):Calls Tryz.prog 14 #[.agg cs.toArray] w fun e w'=>e = .returned (.bool (fewS x))∧Below w.heap.size w w':=by
 obtain⟨a1,a2,a3,a4,a5,a6,a7,a8,n1,n2,n3,n4,n5,n6,n7,n8,c1,c2,c3,c4,c5,c6,c7,c8,rfl,x1,x2,x3,x4,x5,x6,x7,x8⟩:=hx
 have e3:n3=x.sets.length∧n3≤c3∧c3≤maxLen:=by obtain⟨_,_,_,hf,h1,h2,_⟩:=x3;simp only[Value.slice.injEq] at hf;obtain⟨_,rfl,rfl⟩:=hf;exact⟨rfl,h1,h2⟩
 have e4:n4=x.items.length∧n4≤c4∧c4≤maxLen:=by obtain⟨_,_,_,hf,h1,h2,_⟩:=x4;simp only[Value.slice.injEq] at hf;obtain⟨_,rfl,rfl⟩:=hf;exact⟨rfl,h1,h2⟩
 have e2:n2=x.rows.length∧n2≤c2∧c2≤maxLen:=by obtain⟨_,_,_,hf,h1,h2,_⟩:=x2;simp only[Value.slice.injEq] at hf;obtain⟨_,rfl,rfl⟩:=hf;exact⟨rfl,h1,h2⟩
 unfold maxLen at e2 e3 e4
 obtain⟨W,hW,hbW,hzW,hcW⟩:=box8 w (.cells #[.int .i64 x.k,.string (str8 x.tb),.slice a1 n1 c1,.string (str8 x.prim),.slice a2 n2 c2,.slice a3 n3 c3,.slice a4 n4 c4,.string (str8 x.jn),.slice a5 n5 c5,.slice a6 n6 c6,.slice a7 n7 c7,.slice a8 n8 c8,.bool x.desc,.int .i64 x.lim] 42)
 have hk:=Spares.of_new (S:=fun _=>False) hbW
 have H3:=hid (x3.to (T:=S) (by decide) hk (fun b hb _=>⟨id,hb⟩) (fun _ _ e=>e.to hk (fun b hb _=>⟨id,hb⟩)))
 have H4:=hid (x4.to (T:=S) (by decide) hk (fun b hb _=>⟨id,hb⟩) (fun _ _ e=>e.to hk (fun b hb _=>⟨id,hb⟩)))
 have HF:=hid (fun y (hy:y∈x.sets) u V (hV:ExV S V y.e u)=>few_any S 12 y.e u V (by decide) (hR.sets y hy).2 hV)
 have HG:=hid (fun y (hy:y∈x.items) u V (hV:ArgsAt S V y.xs u)=>fewAll_any S y.xs u V (hR.items y hy) hV)
 have HA5:=hid (fun V (hV:Below W.heap.size W V)=>fewAll_any S x.on _ V hR.on ((x5.new hbW).new hV))
 have HA6:=hid (fun V (hV:Below W.heap.size W V)=>fewAll_any S x.wh _ V hR.wh ((x6.new hbW).new hV))
 have HA7:=hid (fun V (hV:Below W.heap.size W V)=>fewAll_any S x.gr _ V hR.gr ((x7.new hbW).new hV))
 have HA8:=hid (fun V (hV:Below W.heap.size W V)=>fewAll_any S x.od _ V hR.od ((x8.new hbW).new hV))
 obtain⟨b5,h5⟩:∃b,fewA x.on=b:=⟨_,rfl⟩
 obtain⟨b6,h6⟩:∃b,fewA x.wh=b:=⟨_,rfl⟩
 obtain⟨b7,h7⟩:∃b,fewA x.gr=b:=⟨_,rfl⟩
 obtain⟨b8,h8⟩:∃b,fewA x.od=b:=⟨_,rfl⟩
 obtain⟨X,hX⟩:∃X,fewS x=X:=⟨_,rfl⟩
 rw[hX]
 unfold fewS at hX
 rw[h5,h6,h7,h8] at hX
 rw[h5] at HA5
 rw[h6] at HA6
 rw[h7] at HA7
 rw[h8] at HA8
 have HX:=hid hX
 have k0:=cells14 hcW
 have HC0:=hid hcW
 have HB:=hid hbW
 have zt:(str8 x.tb).size=x.tb.length:=rfl
 have zj:(str8 x.jn).size=x.jn.length:=rfl
 have zp:(str8 x.prim).size=x.prim.length:=rfl
 obtain⟨k,tb,cols,prim,rows,sets,items,jn,on,wh,gr,od,desc,lim⟩:=x
 dsimp only at *
 obtain⟨rfl,e3a,e3b⟩:=e3
 obtain⟨rfl,e4a,e4b⟩:=e4
 obtain⟨rfl,e2a,e2b⟩:=e2
 clear hX hR x1 x2 x3 x4 x5 x6 x7 x8 h5 h6 h7 h8 hk hbW hcW
 go_enter Tryz.func14,Tryz.ntmps14
 go_wp2_with fail
 go_loopw [3,4] (fun i _ wr=>∃(j:Nat),j≤sets.length∧j≤20∧i = .int .i64 j∧Below W.heap.size W wr∧Hid ((sets.take j).all (fun x=>fewB 12 x.e)=true)) (fun i _ _=>sets.length-(intOf i).toNat)
 case atStart=>exact⟨0,Nat.zero_le _,Nat.zero_le _,rfl,Below.refl _ _,hid rfl⟩
 case round =>
  obtain⟨j,hj,hj20,rfl,hbel,HK⟩:=hrel
  have kW:=cells14 ((hbel.block w.heap.size hzW).trans HC0.out)
  by_cases hgo:j<sets.length∧j<20
  ·obtain⟨hlt,hl2⟩:=hgo
   have hlt':((j:Int)<(sets.length:Int)):=by omega
   have hl2':((j:Int)<20):=by omega
   obtain⟨y,hy⟩:∃y,sets[j]?=some y:=⟨_,List.getElem?_eq_getElem hlt⟩
   have hks:=Spares.of_new (S:=fun _=>False) hbel
   obtain⟨_,_,_,b,off,cs,rfl,_,hel,hcell⟩:=sl_get (H3.out.to (T:=S) (by decide) hks (fun b hb _=>⟨id,hb⟩) (fun _ _ e=>e.to hks (fun b hb _=>⟨id,hb⟩))) hy
   obtain⟨ds,rfl,hex⟩:=ExE.ofSe hel
   have HC:=hid (HF.out y (List.mem_of_getElem? hy) _ wr hex.v)
   have HT:=hid (all_take_succ (fun x:Se=>fewB 12 x.e) hy)
   have HFL:=hid (fun hp=>all_take_false (fun x:Se=>fewB 12 x.e) (n:=20) hy hl2 hp)
   obtain⟨k1,op1,tb1,nm1,vk1,vn1,vs1,ys1,aa1,nn1,cc1,_,rfl,_⟩:=hex
   have q1:=hcell 1 _ rfl
   have q2:=hcell 2 _ rfl
   have q3:=hcell 3 _ rfl
   have q4:=hcell 4 _ rfl
   have q5:=hcell 5 _ rfl
   have q6:=hcell 6 _ rfl
   have q7:=hcell 7 _ rfl
   have q8:=hcell 8 _ rfl
   have HBR:=hid hbel
   clear hbel hcell hy hks hel
   cases hp:fewB 12 y.e with
   |
    true =>
    rw[hp] at HC HT
    have HK2:Hid ((sets.take (j+1)).all (fun x=>fewB 12 x.e)=true):=hid (by rw[HT.out,HK.out];rfl)
    clear HK hp HT HFL
    go_wp2_with fail
    refine HC.out.mono ?_
    rintro e w2 ⟨rfl,hb2⟩
    have HB2:Hid (Below W.heap.size W w2):=hid (HBR.out.trans (hb2.mono HBR.out.size))
    clear hb2 HC
    go_wp2
    go_roundw
    case rel=>exact⟨j+1,by omega,by omega,by go_num,HB2.out,HK2⟩
    case measure=>simp[intOf];omega
   |
    false =>
    rw[hp] at HC
    have HXF:Hid (X=false):=hid (by
     rw[← HX.out,HFL.out hp]
     rfl)
    clear HK hp HT HFL
    go_wp2_with fail
    refine HC.out.mono ?_
    rintro e w2 ⟨rfl,hb2⟩
    have HB2:Hid (Below w.heap.size w w2):=hid (HB.out.trans ((HBR.out.trans (hb2.mono HBR.out.size)).mono HB.out.size))
    clear hb2 HC
    go_wp2
    go_ret
    exact⟨by rw[HXF.out];rfl,HB2.out⟩
  ·have hend:(((j:Int)<(sets.length:Int))∧¬((j:Int)<20))∨¬((j:Int)<(sets.length:Int)):=by omega
   have HS:Hid ((sets.take 20).all (fun x=>fewB 12 x.e)=true):=hid (by
    have:=HK.out
    by_cases h20:j=20
    ·rw[h20] at this;exact this
    ·rw[List.take_of_length_le (by omega)] at this
     rw[List.all_eq_true] at this ⊢
     exact fun y hy=>this y (List.mem_of_mem_take hy))
   obtain⟨wo,hwo⟩:∃wo,wo=wr:=⟨_,rfl⟩
   have HBO:Hid (Below W.heap.size W wo):=hid (by rw[hwo];exact hbel)
   clear hbel HK hgo hj hj20
   rcases hend with⟨hlt',hl2'⟩ | hlt'
   all_goals
    go_wp2_with fail
    clear kW
    subst hwo
    go_loopw [5,6] (fun i _ wr=>∃(j:Nat),j≤items.length∧j≤20∧i = .int .i64 j∧Below W.heap.size W wr∧Hid ((items.take j).all (fun x=>fewA x.xs)=true)) (fun i _ _=>items.length-(intOf i).toNat)
    case atStart=>exact⟨0,Nat.zero_le _,Nat.zero_le _,rfl,HBO.out,hid rfl⟩
    case round =>
     clear HBO
     obtain⟨j,hj,hj20,rfl,hbel,HK⟩:=hrel
     have kW:=cells14 ((hbel.block w.heap.size hzW).trans HC0.out)
     by_cases hgo:j<items.length∧j<20
     ·obtain⟨hlt,hl2⟩:=hgo
      have hlt':((j:Int)<(items.length:Int)):=by omega
      have hl2':((j:Int)<20):=by omega
      obtain⟨y,hy⟩:∃y,items[j]?=some y:=⟨_,List.getElem?_eq_getElem hlt⟩
      have hks:=Spares.of_new (S:=fun _=>False) hbel
      obtain⟨_,_,_,b,off,cs,rfl,_,hel,hcell⟩:=sl_get (H4.out.to (T:=S) (by decide) hks (fun b hb _=>⟨id,hb⟩) (fun _ _ e=>e.to hks (fun b hb _=>⟨id,hb⟩))) hy
      obtain⟨aa1,nn1,cc1,rfl,hargs⟩:=hel
      have HC:=hid (HG.out y (List.mem_of_getElem? hy) _ wr hargs)
      have HT:=hid (all_take_succ (fun x:It=>fewA x.xs) hy)
      have HFL:=hid (fun hp=>all_take_false (fun x:It=>fewA x.xs) (n:=20) hy hl2 hp)
      have q1:=hcell 1 _ rfl
      have HBR:=hid hbel
      clear hbel hcell hy hks hargs
      cases hp:fewA y.xs with
      |
       true =>
       rw[hp] at HC HT
       have HK2:Hid ((items.take (j+1)).all (fun x=>fewA x.xs)=true):=hid (by rw[HT.out,HK.out];rfl)
       clear HK hp HT HFL
       go_wp2_with fail
       refine HC.out.mono ?_
       rintro e w2 ⟨rfl,hb2⟩
       have HB2:Hid (Below W.heap.size W w2):=hid (HBR.out.trans (hb2.mono HBR.out.size))
       clear hb2 HC
       go_wp2
       go_roundw
       case rel=>exact⟨j+1,by omega,by omega,by go_num,HB2.out,HK2⟩
       case measure=>simp[intOf];omega
      |
       false =>
       rw[hp] at HC
       have HXF:Hid (X=false):=hid (by
        rw[← HX.out,HS.out,HFL.out hp]
        rfl)
       clear HK hp HT HFL
       go_wp2_with fail
       refine HC.out.mono ?_
       rintro e w2 ⟨rfl,hb2⟩
       have HB2:Hid (Below w.heap.size w w2):=hid (HB.out.trans ((HBR.out.trans (hb2.mono HBR.out.size)).mono HB.out.size))
       clear hb2 HC
       go_wp2
       go_ret
       exact⟨by rw[HXF.out];rfl,HB2.out⟩
     ·have hend:(((j:Int)<(items.length:Int))∧¬((j:Int)<20))∨¬((j:Int)<(items.length:Int)):=by omega
      have HI:Hid ((items.take 20).all (fun x=>fewA x.xs)=true):=hid (by
       have:=HK.out
       by_cases h20:j=20
       ·rw[h20] at this;exact this
       ·rw[List.take_of_length_le (by omega)] at this
        rw[List.all_eq_true] at this ⊢
        exact fun y hy=>this y (List.mem_of_mem_take hy))
      have HX2:Hid ((decide (rows.length<100)&&(decide (tb.length≤4096)&&(decide (jn.length≤4096)&&(decide (prim.length≤4096)&&(b5&&(b6&&(b7&&b8)))))))=X):=hid (by
       have:=HX.out
       rw[HS.out,HI.out,Bool.true_and,Bool.true_and] at this
       exact this)
      obtain⟨wo,hwo⟩:∃wo,wo=wr:=⟨_,rfl⟩
      have HBO:Hid (Below W.heap.size W wo):=hid (by rw[hwo];exact hbel)
      have HBo:Hid (∀V,Below wo.heap.size wo V→Below w.heap.size w V):=hid (fun V hV=>HB.out.trans ((HBO.out.trans (hV.mono HBO.out.size)).mono HB.out.size))
      have HKo:Hid (∀V,Below wo.heap.size wo V→V.heap[w.heap.size]?=some (.cells #[.int .i64 k,.string (str8 tb),.slice a1 n1 c1,.string (str8 prim),.slice a2 rows.length c2,.slice a3 sets.length c3,.slice a4 items.length c4,.string (str8 jn),.slice a5 n5 c5,.slice a6 n6 c6,.slice a7 n7 c7,.slice a8 n8 c8,.bool desc,.int .i64 lim] 42)):=hid (fun V hV=>((HBO.out.trans (hV.mono HBO.out.size)).block w.heap.size hzW).trans HC0.out)
      have HAo5:=hid (fun V (hV:Below wo.heap.size wo V)=>HA5.out V (HBO.out.trans (hV.mono HBO.out.size)))
      have HAo6:=hid (fun V (hV:Below wo.heap.size wo V)=>HA6.out V (HBO.out.trans (hV.mono HBO.out.size)))
      have HAo7:=hid (fun V (hV:Below wo.heap.size wo V)=>HA7.out V (HBO.out.trans (hV.mono HBO.out.size)))
      have HAo8:=hid (fun V (hV:Below wo.heap.size wo V)=>HA8.out V (HBO.out.trans (hV.mono HBO.out.size)))
      clear hbel HK hgo hj hj20 HA5 HA6 HA7 HA8 HBO HX HS HI H3 H4 HF HG HC0
      rcases hend with⟨hlt',hl2'⟩ | hlt'
      all_goals
       subst hwo
       by_cases d0:rows.length<100
       ·have d0':((rows.length:Int)<100):=by omega
        have HD0:=hid (decide_eq_true d0)
        clear d0
        by_cases d1:tb.length≤4096
        ·have d1':(((str8 tb).size:Int)≤4096):=by rw[zt];omega
         have HD1:=hid (decide_eq_true d1)
         clear d1
         by_cases d2:jn.length≤4096
         ·have d2':(((str8 jn).size:Int)≤4096):=by rw[zj];omega
          have HD2:=hid (decide_eq_true d2)
          clear d2
          by_cases d3:prim.length≤4096
          ·have d3':(((str8 prim).size:Int)≤4096):=by rw[zp];omega
           have HD3:=hid (decide_eq_true d3)
           clear d3
           cases b5 with
           |
            false =>
            have HXF:Hid (X=false):=hid (by rw[← HX2.out];simp)
            go_wp2_with fail
            refine (HAo5.out wo (Below.refl _ _)).mono ?_
            rintro e v1 ⟨rfl,hbv⟩
            have HBv1:=hid hbv
            have kv1:=cells14 (HKo.out v1 HBv1.out)
            clear hbv kW
            go_wp2
            go_ret
            exact⟨by rw[HXF.out];simp,HBo.out _ HBv1.out⟩
           |
            true =>
            cases b6 with
            |
             false =>
             have HXF:Hid (X=false):=hid (by rw[← HX2.out];simp)
             go_wp2_with fail
             refine (HAo5.out wo (Below.refl _ _)).mono ?_
             rintro e v1 ⟨rfl,hbv⟩
             have HBv1:=hid hbv
             have kv1:=cells14 (HKo.out v1 HBv1.out)
             clear hbv kW
             go_wp2_with fail
             refine (HAo6.out v1 HBv1.out).mono ?_
             rintro e v2 ⟨rfl,hbv⟩
             have HBv2:Hid (Below wo.heap.size wo v2):=hid (HBv1.out.trans (hbv.mono HBv1.out.size))
             have kv2:=cells14 (HKo.out v2 HBv2.out)
             clear hbv kv1
             go_wp2
             go_ret
             exact⟨by rw[HXF.out];simp,HBo.out _ HBv2.out⟩
            |
             true =>
             cases b7 with
             |
              false =>
              have HXF:Hid (X=false):=hid (by rw[← HX2.out];simp)
              go_wp2_with fail
              refine (HAo5.out wo (Below.refl _ _)).mono ?_
              rintro e v1 ⟨rfl,hbv⟩
              have HBv1:=hid hbv
              have kv1:=cells14 (HKo.out v1 HBv1.out)
              clear hbv kW
              go_wp2_with fail
              refine (HAo6.out v1 HBv1.out).mono ?_
              rintro e v2 ⟨rfl,hbv⟩
              have HBv2:Hid (Below wo.heap.size wo v2):=hid (HBv1.out.trans (hbv.mono HBv1.out.size))
              have kv2:=cells14 (HKo.out v2 HBv2.out)
              clear hbv kv1
              go_wp2_with fail
              refine (HAo7.out v2 HBv2.out).mono ?_
              rintro e v3 ⟨rfl,hbv⟩
              have HBv3:Hid (Below wo.heap.size wo v3):=hid (HBv2.out.trans (hbv.mono HBv2.out.size))
              have kv3:=cells14 (HKo.out v3 HBv3.out)
              clear hbv kv2
              go_wp2
              go_ret
              exact⟨by rw[HXF.out];simp,HBo.out _ HBv3.out⟩
             |
              true =>
              cases b8 with
              |
               false =>
               have HXF:Hid (X=false):=hid (by rw[← HX2.out];simp)
               go_wp2_with fail
               refine (HAo5.out wo (Below.refl _ _)).mono ?_
               rintro e v1 ⟨rfl,hbv⟩
               have HBv1:=hid hbv
               have kv1:=cells14 (HKo.out v1 HBv1.out)
               clear hbv kW
               go_wp2_with fail
               refine (HAo6.out v1 HBv1.out).mono ?_
               rintro e v2 ⟨rfl,hbv⟩
               have HBv2:Hid (Below wo.heap.size wo v2):=hid (HBv1.out.trans (hbv.mono HBv1.out.size))
               have kv2:=cells14 (HKo.out v2 HBv2.out)
               clear hbv kv1
               go_wp2_with fail
               refine (HAo7.out v2 HBv2.out).mono ?_
               rintro e v3 ⟨rfl,hbv⟩
               have HBv3:Hid (Below wo.heap.size wo v3):=hid (HBv2.out.trans (hbv.mono HBv2.out.size))
               have kv3:=cells14 (HKo.out v3 HBv3.out)
               clear hbv kv2
               go_wp2_with fail
               refine (HAo8.out v3 HBv3.out).mono ?_
               rintro e v4 ⟨rfl,hbv⟩
               have HBv4:Hid (Below wo.heap.size wo v4):=hid (HBv3.out.trans (hbv.mono HBv3.out.size))
               have kv4:=cells14 (HKo.out v4 HBv4.out)
               clear hbv kv3
               go_wp2
               go_ret
               exact⟨by rw[HXF.out];simp,HBo.out _ HBv4.out⟩
              |
               true =>
               have HXT:Hid (X=true):=hid (by rw[← HX2.out,HD0.out,HD1.out,HD2.out,HD3.out];rfl)
               go_wp2_with fail
               refine (HAo5.out wo (Below.refl _ _)).mono ?_
               rintro e v1 ⟨rfl,hbv⟩
               have HBv1:=hid hbv
               have kv1:=cells14 (HKo.out v1 HBv1.out)
               clear hbv kW
               go_wp2_with fail
               refine (HAo6.out v1 HBv1.out).mono ?_
               rintro e v2 ⟨rfl,hbv⟩
               have HBv2:Hid (Below wo.heap.size wo v2):=hid (HBv1.out.trans (hbv.mono HBv1.out.size))
               have kv2:=cells14 (HKo.out v2 HBv2.out)
               clear hbv kv1
               go_wp2_with fail
               refine (HAo7.out v2 HBv2.out).mono ?_
               rintro e v3 ⟨rfl,hbv⟩
               have HBv3:Hid (Below wo.heap.size wo v3):=hid (HBv2.out.trans (hbv.mono HBv2.out.size))
               have kv3:=cells14 (HKo.out v3 HBv3.out)
               clear hbv kv2
               go_wp2_with fail
               refine (HAo8.out v3 HBv3.out).mono ?_
               rintro e v4 ⟨rfl,hbv⟩
               have HBv4:Hid (Below wo.heap.size wo v4):=hid (HBv3.out.trans (hbv.mono HBv3.out.size))
               have kv4:=cells14 (HKo.out v4 HBv4.out)
               clear hbv kv3
               go_wp2
               go_ret
               exact⟨by rw[HXT.out];simp,HBo.out _ HBv4.out⟩
          ·have d3' : ¬(((str8 prim).size:Int)≤4096):=by rw[zp];omega
           have HXF:Hid (X=false):=hid (by rw[← HX2.out,decide_eq_false d3];simp)
           clear d3
           go_wp2
           go_ret
           exact⟨by rw[HXF.out];rfl,HBo.out _ (Below.refl _ _)⟩
         ·have d2' : ¬(((str8 jn).size:Int)≤4096):=by rw[zj];omega
          have HXF:Hid (X=false):=hid (by rw[← HX2.out,decide_eq_false d2];simp)
          clear d2
          go_wp2
          go_ret
          exact⟨by rw[HXF.out];rfl,HBo.out _ (Below.refl _ _)⟩
        ·have d1' : ¬(((str8 tb).size:Int)≤4096):=by rw[zt];omega
         have HXF:Hid (X=false):=hid (by rw[← HX2.out,decide_eq_false d1];simp)
         clear d1
         go_wp2
         go_ret
         exact⟨by rw[HXF.out];rfl,HBo.out _ (Below.refl _ _)⟩
       ·have d0' : ¬((rows.length:Int)<100):=by omega
        have HXF:Hid (X=false):=hid (by rw[← HX2.out,decide_eq_false d0];simp)
        clear d0
        go_wp2
        go_ret
        exact⟨by rw[HXF.out];rfl,HBo.out _ (Below.refl _ _)⟩
end Go.Proofs.YtnidnipiihhnaaaGreatDoor
