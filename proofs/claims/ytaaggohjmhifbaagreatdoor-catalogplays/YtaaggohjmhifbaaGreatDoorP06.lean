/- Packed for the hand-in: LTok Keep -/
import Derived.Test.YtaaggohjmhifbaaGreatDoorP04
import Derived.Test.YtaaggohjmhifbaaGreatDoorP05
import Derived.Laws.OwnMore
import Derived.Test.YtaaggohjmhifbaaGreatDoorP01
namespace Go.Proofs.YtaaggohjmhifbaaGreatDoor
open Go.RowKit Go.Shelf
set_option linter.unusedSimpArgs false
set_option linter.unusedVariables false
set_option maxRecDepth 20000
set_option maxHeartbeats 8000000
def tc (x:Tk):List Value:=[.int .i64 x.k,.string (str8 x.s),.int .i64 x.n,.int .i64 x.p]
def Toks (B:Nat) (w:World) (v:Value) (xs:List Tk):Prop :=
 ∃
  a c,v = .slice a xs.length c∧xs.length≤c∧c≤maxLen ∧
  (xs≠[]→∃b off,a=some ⟨b,off,none⟩∧b<B∧∀j x,xs[j]?=some x→w.cell? ⟨b,off+j*4,none⟩=some (.int .i64 x.k)∧w.cell? ⟨b,off+j*4+1,none⟩=some (.string (str8 x.s))∧w.cell? ⟨b,off+j*4+2,none⟩=some (.int .i64 x.n)∧w.cell? ⟨b,off+j*4+3,none⟩=some (.int .i64 x.p))
theorem Toks.below {B:Nat} {w w':World} {v:Value} {xs:List Tk} (h:Toks B w v xs) (hb:Below B w w'):Toks B w' v xs:=by
 obtain⟨a,c,hv,h1,h2,h3⟩:=h
 refine ⟨a,c,hv,h1,h2,fun hne=>?_⟩
 obtain⟨b,off,ha,hlt,hc⟩:=h3 hne
 refine ⟨b,off,ha,hlt,fun j x hx=>?_⟩
 obtain⟨c0,c1,c2,c3⟩:=hc j x hx
 exact⟨(hb.cell (p:=⟨b,off+j*4,none⟩) hlt).trans c0,(hb.cell (p:=⟨b,off+j*4+1,none⟩) hlt).trans c1,(hb.cell (p:=⟨b,off+j*4+2,none⟩) hlt).trans c2,(hb.cell (p:=⟨b,off+j*4+3,none⟩) hlt).trans c3⟩
theorem Toks.mono {B B':Nat} {w:World} {v:Value} {xs:List Tk} (h:Toks B w v xs) (hB:B≤B'):Toks B' w v xs:=by
 obtain⟨a,c,hv,h1,h2,h3⟩:=h
 refine ⟨a,c,hv,h1,h2,fun hne=>?_⟩
 obtain⟨b,off,ha,hlt,hc⟩:=h3 hne
 exact⟨b,off,ha,by omega,hc⟩
theorem Toks.on {w w':World} {v:Value} {xs:List Tk} (h:Toks w.heap.size w v xs) (hb:Below w.heap.size w w'):Toks w'.heap.size w' v xs:=(h.below hb).mono hb.size
theorem grown_of_belowL {w w':World} (h:Below w.heap.size w w'):w.grownBy w' none:=⟨h.os,h.tape,h.output,h.size,fun k hk _=>h.block k hk⟩
theorem owns_onL {w w':World} {B e z n:Nat} {v:Value} {xs:List Value} (h:w.ownsRow B e z v n xs) (hb:Below w.heap.size w w'):w'.ownsRow B e z v n xs :=
 h.kept (grown_of_belowL hb) (by cases v.ownBlock<;>simp)
def tcs (xs:List Tk):List Value:=xs.flatMap tc
theorem tcs_length (xs:List Tk):(tcs xs).length=xs.length*4:=by
 induction xs with
 | nil=>rfl
 | cons x xs ih=>rw[show tcs (x::xs)=tc x++tcs xs from rfl,List.length_append,ih];simp[tc];omega
theorem tcs_at : ∀(xs:List Tk) (j:Nat) (x:Tk),xs[j]?=some x→(tcs xs)[j*4]?=some (.int .i64 x.k)∧(tcs xs)[j*4+1]?=some (.string (str8 x.s))∧(tcs xs)[j*4+2]?=some (.int .i64 x.n)∧(tcs xs)[j*4+3]?=some (.int .i64 x.p)
 |
  y::xs,0,x,h=>by
  simp only[List.getElem?_cons_zero,Option.some.injEq] at h
  subst h
  exact⟨rfl,rfl,rfl,rfl⟩
 |
  y::xs,j+1,x,h=>by
  have ih:=tcs_at xs j x (by simpa using h)
  rw[show tcs (y::xs)=tc y++tcs xs from rfl]
  have e : ∀i,(tc y++tcs xs)[(j+1)*4+i]?=(tcs xs)[j*4+i]?:=fun i=>by
   rw[List.getElem?_append_right (by simp[tc];omega)]
   congr 1
   simp[tc]
   omega
  exact⟨(e 0).trans ih.1,(e 1).trans ih.2.1,(e 2).trans ih.2.2.1,(e 3).trans ih.2.2.2⟩
theorem toks_of_owns {w:World} {B n:Nat} {v:Value} {xs:List Tk} (h:w.ownsRow B 162 4 v n (tcs xs)):n=xs.length∧Toks w.heap.size w v xs:=by
 have hl:n=xs.length:=by have:=h.1;rw[tcs_length] at this;omega
 subst hl
 refine ⟨rfl,?_⟩
 have hc:=h
 rcases h.2 with⟨rfl,hn⟩ | ⟨g,cap,cur,rfl,hb,hg,hnc,hcm,hcs,ht⟩
 ·exact⟨none,0,by rw[hn],by omega,by unfold maxLen;omega,fun hne=>absurd (List.eq_nil_of_length_eq_zero hn) hne⟩
 ·refine ⟨_,cap,rfl,hnc,hcm,fun _=>⟨g,0,rfl,(Array.getElem?_eq_some_iff.1 hg).1,fun j x hx=>?_⟩⟩
  have k:=hc.cells (g:=g) rfl
  have at' : ∀i u,(tcs xs)[i]?=some u→w.cell? ⟨g,i,none⟩=some u:=fun i u hi=>by
   have:=k i u hi
   rwa [Addr.add_lit,Nat.zero_add] at this
  obtain⟨c0,c1,c2,c3⟩:=tcs_at xs j x hx
  rw[Nat.zero_add]
  exact⟨at' _ _ c0,at' _ _ c1,at' _ _ c2,at' _ _ c3⟩
def thenT (acc:List Tk) (r:Nat × Int × List Tk):Nat × Int × List Tk:=if r.1=0 then (0,0,acc++r.2.2) else r
theorem thenT_nil (r:Nat × Int × List Tk) (h:r.1=0→r.2.1=0):thenT [] r=r:=by
 obtain⟨e,p,l⟩:=r
 unfold thenT
 by_cases h0:e=0
 ·subst h0;have:=h rfl;simp at this;simp[this]
 ·rw[if_neg h0]
theorem thenT_con (acc:List Tk) (t:Tk) (r:Nat × Int × List Tk):thenT acc (conT t r)=thenT (acc++[t]) r:=by
 unfold thenT conT
 by_cases h0:r.1=0
 ·simp[h0]
 ·simp[h0]
theorem thenT_err (acc:List Tk) (e:Nat) (p:Int) (h:e≠0):thenT acc (e,p,[])=(e,p,[]):=if_neg h
theorem Tryz.infoTok:(Tryz.prog.info? 162).map (fun i=>(i.zero,i.size,i.bytes))=some (some (.agg #[.int .i64 0,.string ⟨#[]⟩,.int .i64 0,.int .i64 0]),4,40):=by kernel_rfl
theorem four_at (w:World) (g:Nat) (hg:w.heap.size=g) (a b c d:Value) (e:TypeId):∀(j:Nat) (u:Value),[a,b,c,d][j]?=some u→(w.alloc (.cells #[a,b,c,d] e)).cell? ((⟨g,0,none⟩:Addr).add j)=some u:=by
 subst hg
 intro j u hj
 match j,hj with
 | 0,hj=>simp at hj;subst hj;simp[Addr.add]
 | 1,hj=>simp at hj;subst hj;simp[Addr.add]
 | 2,hj=>simp at hj;subst hj;simp[Addr.add]
 | 3,hj=>simp at hj;subst hj;simp[Addr.add]
theorem cells2 {w:World} {g:Nat} {a b:Value} {t:TypeId} (h:w.heap[g]?=some (.cells #[a,b] t)) :
  w.cell? ⟨g,0,none⟩=some a∧w.cell? ⟨g,1,none⟩=some b∧∀i,w.frozen? ⟨g,i,none⟩=false :=
 ⟨by rw[cell_row _ _ _ _ _ _ h];rfl,by rw[cell_row _ _ _ _ _ _ h];rfl,fun i=>by simp[World.frozen?,h]⟩
theorem tokens_any (s:List UInt8) (w:World) (hT:TabL w) (hs:s.length≤140737488351232) :
  Calls Tryz.prog 107 #[.string (str8 s)] w fun e w'=>∃v,e = .returned (.tuple #[v,.agg #[.int .i64 ((tokens s).1:Int),.int .i64 (tokens s).2.1]])∧Toks w'.heap.size w' v (tokens s).2.2∧Below w.heap.size w w':=by
 obtain⟨i0,hi,hz0,hz1,hz2⟩:=info_parts Tryz.infoTok
 have hsz:(str8 s).size=s.length:=rfl
 obtain⟨X,hX⟩:∃X,tokens s=X:=⟨_,rfl⟩
 rw[hX]
 have HX:=hid hX
 clear hX
 by_cases hlong:2000<s.length
 ·have HXe:Hid (X=(2,-1,[])):=hid (by rw[← HX.out,tokens,if_pos hlong])
  have hlong':(2000:Int)<(s.length:Int):=by omega
  have hb:Below w.heap.size w (w.alloc (.cells #[.int .i64 2,.int .i64 (-1)] 69)):=(Below.refl _ _).alloc (Nat.le_refl _) _
  clear HX
  go_enter Tryz.func107,Tryz.ntmps107
  go_wp2
  exact bodyPost_ret (v:=.tuple #[.slice none 0 0,.agg #[.int .i64 2,.int .i64 (-1)]]) (by simp[results,Tryz.results107,go_sem]) rfl ⟨_,by rw[HXe.out];rfl,by rw[HXe.out];exact⟨none,0,rfl,Nat.le_refl _,Nat.zero_le _,fun h=>absurd rfl h⟩,hb⟩
 ·have hlong' : ¬(2000:Int)<(s.length:Int):=by omega
  have HX1:Hid (toks (s.length+1) s 0=X):=hid (by rw[← HX.out,tokens,if_neg hlong])
  clear HX
  obtain⟨W,hW⟩:∃W,w.alloc (.cells #[.int .i64 0,.int .i64 0] 69)=W:=⟨_,rfl⟩
  have HB:Hid (Below w.heap.size w W):=hid (by rw[← hW];exact (Below.refl _ _).alloc (Nat.le_refl _) _)
  have HTW:=hid (hT.on HB.out)
  have hzW:w.heap.size<W.heap.size:=by rw[← hW];simp
  have HFB:Hid (∀V,Below W.heap.size W V→V.heap[w.heap.size]?=some (.cells #[.int .i64 0,.int .i64 0] 69)):=hid (fun V hV=>(hV.block _ hzW).trans (by rw[← hW];exact heap_alloc_new _ _))
  have HP0:Hid (Calls Tryz.prog 174 #[.string (str8 s),.int .i64 0] W fun e w'=>e = .returned (.int .i64 ((0+skip false (s.drop 0):Nat):Int))∧Below W.heap.size W w'):=hid (passBlanks_any s 0 W (by omega) (by omega))
  have hk0:=skip_le s false
  rw[List.drop_zero,Nat.zero_add] at HP0
  clear hT
  go_enter Tryz.func107,Tryz.ntmps107
  go_wp2_with fail
  try rw[hW]
  clear hW
  refine HP0.out.mono ?_
  rintro e w1 ⟨rfl,hb1⟩
  clear HP0
  go_wp2_with fail
  go_loopw [4,5] (fun l i wr=>∃(p f a:Nat) (acc:List Tk),a≤s.length∧i = .int .i64 a∧acc.length≤p∧p≤a∧wr.ownsRow W.heap.size 162 4 l acc.length (tcs acc)∧Below W.heap.size W wr∧Hid (a=p+skip false (s.drop p))∧Hid ((s.drop p).length<f+1)∧Hid (thenT acc (toks (f+1) (s.drop p) p)=X)) (fun _ i _=>s.length-(intOf i).toNat)
  case atStart=>exact⟨0,s.length,skip false s,[],hk0,rfl,by simp,by omega,World.ownsRow_nil _ _ _ _,hb1,hid (by simp),hid (by simp),hid (by rw[List.drop_zero,thenT_nil _ (toks_form _ _ _).2];exact HX1.out)⟩
  case round =>
   obtain⟨p,f,a,acc,ha,rfl,hacc,hpa,hown,hbel,HA,HF,HR⟩:=hrel
   have hszr:=hbel.size
   obtain⟨va,vcap,hvf⟩:∃va vcap,u4 = .slice va acc.length vcap:=by
    rcases hown.2 with⟨rfl,hn⟩ | ⟨g,cap,cur,rfl,_⟩
    ·exact⟨_,_,by rw[hn]⟩
    ·exact⟨_,_,rfl⟩
   subst hvf
   by_cases hlt:a<s.length
   ·have hlt':((a:Int)<((str8 s).size:Int)):=by rw[hsz];omega
    have hsl:=run_cutfrom s a ha
    have hdd:(s.drop p).drop (skip false (s.drop p))=s.drop a:=by rw[List.drop_drop,← HA.out]
    have hskl:skip false (s.drop p)<(s.drop p).length:=by
     have:=HA.out
     rw[List.length_drop];omega
    obtain⟨c,r,hcr⟩:∃c r,s.drop a=c::r:=by
     cases h:s.drop a with
     | nil=>have:=congrArg List.length h;simp at this;omega
     | cons c r=>exact⟨c,r,rfl⟩
    have hcl:(c::r).length≤2147483648:=by rw[← hcr,List.length_drop];omega
    have HC:=hid (cut_any c r wr (HTW.out.on hbel) hcl)
    rw[← hcr] at HC
    obtain⟨⟨e,⟨tk,tt,tn,tp⟩,m⟩,hcut⟩:∃x,cutT (s.drop a)=x:=⟨_,rfl⟩
    have hcut2:cutT ((s.drop p).drop (skip false (s.drop p)))=(e,⟨tk,tt,tn,tp⟩,m):=by rw[hdd];exact hcut
    rw[hcut] at HC
    unfold cutA at HC
    dsimp only at HC
    clear hcr hcl
    by_cases he:e=0
    ·subst he
     obtain⟨hm1,hm2,htp,_⟩:=cut_local hcut
     rw[List.length_drop] at hm2
     have hone:=toks_one (f:=f) (at':=p) hskl hcut2
     rw[hdd,← HA.out,List.drop_drop] at hone
     obtain⟨f',rfl⟩:∃f',f=f'+1:=⟨f-1,by have:=HF.out;rw[List.length_drop] at this;omega⟩
     have HR2:Hid (thenT (acc++[⟨tk,tt,tn,(a:Int)⟩]) (toks (f'+1) (s.drop (a+m)) (a+m))=X):=hid (by rw[← HR.out,hone,thenT_con])
     have HF2:Hid ((s.drop (a+m)).length<f'+1):=hid (by have:=HF.out;rw[List.length_drop] at this ⊢;omega)
     have hsk2:=skip_le (s.drop (a+m)) false
     rw[List.length_drop] at hsk2
     have HPB:Hid (∀V,Calls Tryz.prog 174 #[.string (str8 s),.int .i64 ((a:Int)+(m:Int))] V fun e w'=>e = .returned (.int .i64 ((a+m+skip false (s.drop (a+m)):Nat):Int))∧Below V.heap.size V w'):=hid (fun V=>by
      have:=passBlanks_any s (a+m) V (by omega) (by omega)
      rwa [show ((a+m:Nat):Int)=(a:Int)+(m:Int) by omega] at this)
     obtain⟨A,hAe⟩:∃A,a+m+skip false (s.drop (a+m))=A:=⟨_,rfl⟩
     rw[hAe] at HPB
     have hA1:a+m≤A∧A≤s.length:=by omega
     have HAE:=hid hAe.symm
     clear hAe hsk2 hone HR HF HA hcut hcut2 hdd hskl
     go_wp2_with fail
     refine HC.out.mono ?_
     rintro e w2 ⟨rfl,hb2⟩
     have hown2:=owns_onL hown hb2
     have hbel2:=hbel.trans (hb2.mono hszr)
     clear HC hb2 hown
     have hnew:=four_at (w2.alloc (.cells #[.int .i64 tk,.string (str8 tt),.int .i64 tn,.int .i64 (a:Int)] 162)) (w2.heap.size+1) (by simp) (.int .i64 tk) (.string (str8 tt)) (.int .i64 tn) (.int .i64 (a:Int)) 162
     have hone : ∀u∈[Value.int .i64 tk,.string (str8 tt),.int .i64 tn,.int .i64 (a:Int)],u.oneCell'=true:=by intro u hu;simp at hu;rcases hu with rfl | rfl | rfl | rfl<;>rfl
     have hown22:=(hown2.alloc (.cells #[.int .i64 tk,.string (str8 tt),.int .i64 tn,.int .i64 (a:Int)] 162)).alloc (.cells #[.int .i64 tk,.string (str8 tt),.int .i64 tn,.int .i64 (a:Int)] 162)
     have hbel22:=(hbel2.alloc hbel2.size (.cells #[.int .i64 tk,.string (str8 tt),.int .i64 tn,.int .i64 (a:Int)] 162)).alloc (Nat.le_trans hbel2.size (by simp)) (.cells #[.int .i64 tk,.string (str8 tt),.int .i64 tn,.int .i64 (a:Int)] 162)
     have HL:=hid (fun q hq=>(hown22.lt q hq).1 : ∀q,(Value.slice va acc.length vcap).ownBlock=some q→W.heap.size≤q)
     have HB22:=hid hbel22
     have HSA:=hid hbel22.size
     clear hbel22 hown2 hbel2
     go_wp2_with (first
      | (at_builtin;refine wpList_append_own _ rfl (.tmp 34) (.tmp 36) 94 rfl W.heap.size 162 i0 (.agg #[.int .i64 0,.string ⟨#[]⟩,.int .i64 0,.int .i64 0]) 4 40 Tryz.underlying94 hi hz0 hz1 hz2 rfl (by decide) _ _ _ rfl hown22 ⟨w2.heap.size+1,0,none⟩ 1 1 [.int .i64 tk,.string (str8 tt),.int .i64 tn,.int .i64 (a:Int)] rfl rfl hnew hone (by unfold maxLen;omega) (by omega) HSA.out ?_;intro v3 w3 hown3 hg3 _)
      | fail)
     have HB3:Hid (Below W.heap.size W w3):=hid (HB22.out.grown hg3 HSA.out HL.out)
     have HO3:=hid hown3
     clear hown3 hg3 hown22 hnew hone HSA HL HB22
     refine (HPB.out w3).mono ?_
     rintro e w4 ⟨rfl,hb4⟩
     have HB4:Hid (Below W.heap.size W w4):=hid (HB3.out.trans (hb4.mono HB3.out.size))
     have HO4:=hid (owns_onL HO3.out hb4)
     clear hb4 HO3 HPB
     go_wp2
     go_roundw
     case rel =>
      refine ⟨a+m,f',A,acc++[⟨tk,tt,tn,(a:Int)⟩],hA1.2,rfl,by simp;omega,hA1.1,?_,HB4.out,HAE,HF2,HR2⟩
      rw[List.length_append,show tcs (acc++[⟨tk,tt,tn,(a:Int)⟩])=tcs acc++[.int .i64 tk,.string (str8 tt),.int .i64 tn,.int .i64 (a:Int)] from by simp[tcs,tc]]
      exact HO4.out
     case measure=>simp[intOf];omega
    ·have hXe:X=(e,(a:Int),[]):=by
      rw[← HR.out,toks_err (f:=f) (at':=p) hskl hcut2 he,← HA.out,thenT_err _ _ _ he]
     have HXe:=hid hXe
     have he':(((e:Nat):Int) != 0)=true:=by rw[bne_iff_ne];omega
     clear hXe HR HA HF hcut hcut2 hdd hskl
     generalize hEE:((e:Nat):Int)=E at he' HC
     have HEE:=hid hEE
     clear hEE
     go_wp2_with fail
     refine HC.out.mono ?_
     rintro e w2 ⟨rfl,hb2⟩
     have hbel2:=hbel.trans (hb2.mono hszr)
     have HB2:Hid (Below W.heap.size W (w2.alloc (.cells #[.int .i64 tk,.string (str8 tt),.int .i64 tn,.int .i64 tp] 162))):=hid (hbel2.alloc hbel2.size _)
     have g0:=fun o=>cells2 (HFB.out (w2.alloc o) (hbel2.alloc hbel2.size o))
     have g1:=cells2 (HFB.out w2 hbel2)
     clear HC hb2 hown hbel2
     go_wp2
     have HBw:Hid (Below w.heap.size w (w2.alloc (.cells #[.int .i64 tk,.string (str8 tt),.int .i64 tn,.int .i64 tp] 162))):=hid (HB.out.trans (HB2.out.mono (Nat.le_of_lt hzW)))
     exact bodyPost_ret (v:=.tuple #[.slice none 0 0,.agg #[.int .i64 E,.int .i64 (a:Int)]]) (by simp[results,Tryz.results107,go_sem,g0,g1]) rfl ⟨_,by rw[HXe.out,← HEE.out],by rw[HXe.out];exact⟨none,0,rfl,Nat.le_refl _,Nat.zero_le _,fun h=>absurd rfl h⟩,(HBw.out.setCell (Nat.le_refl _) _).setCell (Nat.le_refl _) _⟩
   ·have hlt' : ¬((a:Int)<((str8 s).size:Int)):=by rw[hsz];omega
    have haE:a=s.length:=by omega
    have HXe:Hid (X=(0,0,acc++[⟨6,[],0,(s.length:Int)⟩])):=hid (by
     have h1:=HA.out
     rw[← HR.out,toks_end (f:=f) (at':=p) (by rw[List.length_drop];omega),← h1,haE]
     rfl)
    clear HR HA HF haE
    have hnew:=four_at wr wr.heap.size rfl (.int .i64 6) (.string ⟨#[]⟩) (.int .i64 0) (.int .i64 (s.length:Int)) 162
    have hone : ∀u∈[Value.int .i64 6,.string ⟨#[]⟩,.int .i64 0,.int .i64 (s.length:Int)],u.oneCell'=true:=by intro u hu;simp at hu;rcases hu with rfl | rfl | rfl | rfl<;>rfl
    have hown22:=hown.alloc (.cells #[.int .i64 6,.string ⟨#[]⟩,.int .i64 0,.int .i64 (s.length:Int)] 162)
    have hbel22:=hbel.alloc hbel.size (.cells #[.int .i64 6,.string ⟨#[]⟩,.int .i64 0,.int .i64 (s.length:Int)] 162)
    have HL:=hid (fun q hq=>(hown22.lt q hq).1 : ∀q,(Value.slice va acc.length vcap).ownBlock=some q→W.heap.size≤q)
    have HB22:=hid hbel22
    have HSA:=hid hbel22.size
    clear hbel22 hown
    go_wp2_with (first
     | (
       at_builtin;refine wpList_append_own _ rfl (.tmp 43) (.tmp 47) 94 rfl W.heap.size 162 i0 (.agg #[.int .i64 0,.string ⟨#[]⟩,.int .i64 0,.int .i64 0]) 4 40 Tryz.underlying94 hi hz0 hz1 hz2 rfl (by decide) _ _ _ rfl hown22 ⟨wr.heap.size,0,none⟩ 1 1 [.int .i64 6,.string ⟨#[]⟩,.int .i64 0,.int .i64 (s.length:Int)] rfl rfl hnew hone (by unfold maxLen;omega) (by omega) HSA.out ?_;intro v3 w3 hown3 hg3 _
       have HB3:Hid (Below W.heap.size W w3):=hid (HB22.out.grown hg3 HSA.out HL.out)
       have g1:=cells2 (HFB.out w3 HB3.out)
       have HO3:=hid hown3
       clear hown3 hg3)
     | fail)
    have HBw:Hid (Below w.heap.size w w3):=hid (HB.out.trans (HB3.out.mono (Nat.le_of_lt hzW)))
    have HO4:=hid (ownsRow_setCell_below (a:=⟨w.heap.size,1,none⟩) (ownsRow_setCell_below (a:=⟨w.heap.size,0,none⟩) HO3.out hzW (.int .i64 0)) hzW (.int .i64 0))
    have HTC:Hid (tcs acc++[.int .i64 6,.string ⟨#[]⟩,.int .i64 0,.int .i64 (s.length:Int)]=tcs (acc++[⟨6,[],0,(s.length:Int)⟩])):=hid (by simp[tcs,tc];rfl)
    refine bodyPost_ret (v:=.tuple #[v3,.agg #[.int .i64 0,.int .i64 0]]) (by simp[results,Tryz.results107,go_sem,g1]) rfl ⟨_,by rw[HXe.out];rfl,?_,(HBw.out.setCell (Nat.le_refl _) _).setCell (Nat.le_refl _) _⟩
    rw[HXe.out]
    have:=HO4.out
    rw[HTC.out] at this
    exact (toks_of_owns this).2
end Go.Proofs.YtaaggohjmhifbaaGreatDoor
namespace Go.Proofs.YtaaggohjmhifbaaGreatDoor
open Go.RowKit
set_option linter.unusedVariables false
set_option maxRecDepth 20000
set_option maxHeartbeats 8000000
structure Spares (S:Nat→Prop) (w w':World):Prop where
 os:w'.os=w.os
 tape:w'.tape=w.tape
 output:w'.output=w.output
 size:w.heap.size≤w'.heap.size
 block : ∀k,k<w.heap.size→¬S k→w'.heap[k]?=w.heap[k]?
theorem Spares.refl (S:Nat→Prop) (w:World):Spares S w w:=⟨rfl,rfl,rfl,Nat.le_refl _,fun _ _ _=>rfl⟩
theorem Spares.andThen {S T:Nat→Prop} {a b c:World} (h:Spares S a b) (k:Spares T b c) (hT : ∀i,T i→S i∨a.heap.size≤i):Spares S a c :=
 ⟨k.os.trans h.os,k.tape.trans h.tape,k.output.trans h.output,Nat.le_trans h.size k.size,fun i hi hS =>
  (k.block i (Nat.lt_of_lt_of_le hi h.size) (fun ht=>by rcases hT i ht with h1 | h1;exact hS h1;omega)).trans (h.block i hi hS)⟩
theorem Spares.mono {S T:Nat→Prop} {a b:World} (h:Spares S a b) (hT : ∀i,S i→T i):Spares T a b :=
 ⟨h.os,h.tape,h.output,h.size,fun i hi hS=>h.block i hi fun hs=>hS (hT i hs)⟩
theorem Spares.of_grown {S:Nat→Prop} {w w':World} {row:Option Nat} (hg:w.grownBy w' row) (hr : ∀k,row=some k→S k):Spares S w w' :=
 ⟨hg.os,hg.tape,hg.output,hg.size,fun k hk hS=>hg.block k hk fun e=>hS (hr k e.symm)⟩
theorem Spares.of_below {S:Nat→Prop} {w w':World} {B:Nat} (h:Below B w w') (hB : ∀k,B≤k→k<w.heap.size→S k):Spares S w w' :=
 ⟨h.os,h.tape,h.output,h.size,fun k hk hS=>h.block k (Nat.lt_of_not_le fun hb=>hS (hB k hb hk))⟩
theorem Spares.of_new {S:Nat→Prop} {w w':World} (h:Below w.heap.size w w'):Spares S w w':=Spares.of_below h (fun k h1 h2=>by omega)
theorem Spares.below {S:Nat→Prop} {w w':World} {B:Nat} (h:Spares S w w') (hS : ∀i,S i→B≤i) (hB:B≤w.heap.size):Below B w w' :=
 ⟨h.os,h.tape,h.output,h.size,fun k hk=>h.block k (by omega) fun hs=>by have:=hS k hs;omega⟩
theorem Spares.cell {S:Nat→Prop} {w w':World} (h:Spares S w w') {p:Addr} {v:Value} (hc:w.cell? p=some v) (hS : ¬S p.block):w'.cell? p=some v:=by
 rw[World.cell?_of_block (w:=w) (h.block p.block (World.block_lt_of_cell? w p hc) hS)]
 exact hc
theorem Spares.row {S:Nat→Prop} {w w':World} (h:Spares S w w') {B e s n:Nat} {v:Value} {xs:List Value} (ho:w.ownsRow B e s v n xs) (hS : ∀g,v.ownBlock=some g→¬S g):w'.ownsRow B e s v n xs:=by
 refine ⟨ho.1,?_⟩
 rcases ho.2 with h0 | ⟨g,cap,cur,rfl,hB,hg,r⟩
 ·exact .inl h0
 ·exact .inr ⟨g,cap,cur,rfl,hB,by rw[h.block g (Array.getElem?_eq_some_iff.1 hg).1 (hS g rfl)];exact hg,r⟩
theorem owns_lower {w:World} {B B' e s n:Nat} {v:Value} {xs:List Value} (ho:w.ownsRow B e s v n xs) (hB : ∀g,v.ownBlock=some g→B'≤g):w.ownsRow B' e s v n xs:=by
 refine ⟨ho.1,?_⟩
 rcases ho.2 with h0 | ⟨g,cap,cur,rfl,_,r⟩
 ·exact .inl h0
 ·exact .inr ⟨g,cap,cur,rfl,hB g rfl,r⟩
theorem Shows.keeps {S:Nat→Prop} {B:Nat} {w w':World} {v:Value} {bs:List UInt8} (h:Shows B w v bs) (hk:Spares S w w') (hS : ∀i,i<B→¬S i):Shows B w' v bs:=by
 obtain⟨a,c,hv,h1,h2,hn,h3⟩:=h
 refine ⟨a,c,hv,h1,h2,hn,fun hne=>?_⟩
 obtain⟨b,off,ha,hlt,hc⟩:=h3 hne
 exact⟨b,off,ha,hlt,fun j hj=>hk.cell (hc j hj) (hS b hlt)⟩
theorem Shows.len {B:Nat} {w:World} {v:Value} {bs:List UInt8} (h:Shows B w v bs):bs.length≤maxLen:=by
 obtain⟨a,c,hv,h1,h2,_⟩:=h
 omega
end Go.Proofs.YtaaggohjmhifbaaGreatDoor
