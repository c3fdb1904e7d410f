/- Packed for the hand-in: LJoinL RefJ6 RefJB RefJ2 -/
import Derived.Test.YtnidnipiihhnaaaGreatDoorX14
import Derived.Test.YtnidnipiihhnaaaGreatDoorX32
import Derived.Deep.RegionHeld3
import Derived.Test.YtnidnipiihhnaaaGreatDoorX31
import Derived.Test.YtnidnipiihhnaaaGreatDoorX13
namespace Go.Proofs.YtnidnipiihhnaaaGreatDoor
open Go.RowKit Go.Shelf
set_option linter.unusedSimpArgs false
set_option linter.unusedVariables false
set_option maxRecDepth 20000
set_option maxHeartbeats 8000000
theorem tcs_one (xs:List Tk):∀u∈tcs xs,u.oneCell'=true:=by
 intro u hu
 obtain⟨x,_,hx⟩:=List.mem_flatMap.1 hu
 simp only[tc,List.mem_cons,List.not_mem_nil,or_false] at hx
 rcases hx with rfl | rfl | rfl | rfl<;>rfl
theorem wpList_append_toks {P:Program} (w:World) {ops:Array Oper} {rest:List Oper} {o:Oper} {a:Act} {Q:Exit→Act→World→Prop} (hw:Region.wanted o (yielded ops a.tmps)=true) (s x:Operand) (t:TypeId)
  (ho:o.op = .call { callee:=.builtin .append,args:=#[s,x],argTypes:=#[t,t] })
  (base:Nat) (e:TypeId) (i:TypeInfo) (z:Value) (ht:P.underlying t=some (.slice e)) (hi:P.info? e=some i) (hz:i.zero=some z) (hzc:z.cells.size=4)
  (hsize:i.size=4) (hby:i.bytes=40)
  (v:Value) (n:Nat) (xs:List Value) (hs:a.eval s=v) (hown:w.ownsRow base e 4 v n xs)
  (b off m c:Nat) (ys:List Tk) (hm:m=ys.length) (hx:a.eval x = .slice (some ⟨b,off,none⟩) m c) (hcells : ∀j u,(tcs ys)[j]?=some u→w.cell? ((⟨b,off,none⟩:Addr).add j)=some u)
  (hbytes:(n+m)*40≤140737488355328) (hbase:base≤w.heap.size)
  (h : ∀v' w',w'.ownsRow base e 4 v' (n+m) (xs++tcs ys)→w.grownBy w' v.ownBlock→wpList P ops Q rest (a.put o.dst v') w'):wpList P ops Q (o::rest) a w:=by
 unfold wpList
 rw[if_pos hw]
 refine Or.inl (wp_append_own w s x t ho base e i z 4 40 ht hi hz hsize hby hzc (by decide) v n xs hs hown ⟨b,off,none⟩ m c (tcs ys) hx (by rw[tcs_length,hm]) hcells (tcs_one ys) (by unfold maxLen;omega) (by omega) hbase ?_)
 intro v' w' ho' hg hnil
 exact h v' w' ho' hg
abbrev Row (B:Nat) (w:World) (v:Value) (L:List Tk):Prop:=w.ownsRow B 119 4 v L.length (tcs L)
theorem Row.mono {B B':Nat} {w:World} {v:Value} {L:List Tk} (h:Row B w v L) (hb:B'≤B):Row B' w v L:=by
 refine ⟨h.1,?_⟩
 rcases h.2 with h | ⟨g,cap,cur,h1,h2,h3⟩
 ·exact .inl h
 ·exact .inr ⟨g,cap,cur,h1,Nat.le_trans hb h2,h3⟩
theorem Row.on {B:Nat} {w w':World} {v:Value} {L:List Tk} (h:Row B w v L) (hb:Below w.heap.size w w'):Row B w' v L:=owns_onL h hb
def TksAt (w:World) (b off:Nat) (M:List Tk):Prop:=∀(j:Nat) (u:Value),(tcs M)[j]?=some u→w.cell? ((⟨b,off,none⟩:Addr).add j)=some u
theorem TksAt.on {w w':World} {b off:Nat} {M:List Tk} (h:TksAt w b off M) (hne:M≠[]) (hb:Below w.heap.size w w'):TksAt w' b off M:=fun j u hu=>by
 have h1:=h j u hu
 rw[Addr.add_lit] at h1 ⊢
 exact (hb.cell (p:=⟨b,off+j,none⟩) (World.block_lt_of_cell? w _ h1)).trans h1
theorem Row.some {B:Nat} {w:World} {v:Value} {L:List Tk} (h:Row B w v L) (hne:L≠[]):∃g c,v = .slice (some ⟨g,0,none⟩) L.length c∧B≤g∧g<w.heap.size∧TksAt w g 0 L:=by
 have hc:=h
 rcases h.2 with⟨_,hn⟩ | ⟨g,cap,cur,rfl,hb,hg,_⟩
 ·exact absurd (List.eq_nil_of_length_eq_zero hn) hne
 ·exact⟨g,cap,rfl,hb,World.lt_of_block hg,fun j u hu=>hc.cells (g:=g) rfl j u hu⟩
theorem tcs_app (L M:List Tk):tcs (L++M)=tcs L++tcs M:=by simp[tcs]
theorem wpList_row {ops:Array Oper} {rest:List Oper} {o:Oper} {a:Act} {Q:Exit→Act→World→Prop} (w:World) (hw:Region.wanted o (yielded ops a.tmps)=true) (s x:Operand)
  (ho:o.op = .call { callee:=.builtin .append,args:=#[s,x],argTypes:=#[55,55] })
  (B:Nat) (v:Value) (L M:List Tk) (hs:a.eval s=v) (hv:Row B w v L) (b off c:Nat) (hx:a.eval x = .slice (some ⟨b,off,none⟩) M.length c) (hc:TksAt w b off M)
  (hl:L.length+M.length≤1000000000) (hB:B≤w.heap.size)
  (h : ∀v' w',Row B w' v' (L++M)→w.grownBy w' v.ownBlock→Below B w w'→wpList Tryz.prog ops Q rest (a.put o.dst v') w'):wpList Tryz.prog ops Q (o::rest) a w:=by
 obtain⟨i0,hi,hz0,hz1,hz2⟩:=info_parts Tryz.infoTok
 refine wpList_append_toks w hw s x 55 ho B 119 i0 (.agg #[.int .i64 0,.string ⟨#[]⟩,.int .i64 0,.int .i64 0]) Tryz.underlying55 hi hz0 rfl hz1 hz2 v L.length (tcs L) hs hv b off M.length c M rfl hx hc (by omega) hB ?_
 intro v' w' hown hg
 refine h v' w' ?_ hg ((Below.refl _ _).grown hg hB (fun q hq=>(hv.lt q hq).1))
 show w'.ownsRow B 119 4 v' (L++M).length (tcs (L++M))
 rw[List.length_append,tcs_app]
 exact hown
theorem new_toks (w:World) (L:List Tk) (cs:Array Value) (hcs:cs.toList=tcs L) (hl:L.length≤1000000000):∃U,w.alloc (.cells cs 119)=U∧Below w.heap.size w U∧w.heap.size<U.heap.size∧Row w.heap.size U (.slice (some ⟨w.heap.size,0,none⟩) L.length L.length) L∧TksAt U w.heap.size 0 L:=by
 have hr:Row w.heap.size (w.alloc (.cells cs 119)) (.slice (some ⟨w.heap.size,0,none⟩) L.length L.length) L:=owns_block (heap_alloc_new w _) hcs (Nat.le_refl _) hl
 exact⟨_,rfl,(Below.refl _ _).alloc (Nat.le_refl _) _,by simp,hr,fun j u hu=>hr.cells (g:=w.heap.size) rfl j u hu⟩
def JTk (f:Nat) (args:Value→Array Value) (t:Tm) (T:List Tk) (D:Nat):Prop :=
 ∀(S:Nat→Prop) (v:Value) (w:World),ExV S w t.ex v→T.length≤100000000→D≤1000000→Calls Tryz.prog f (args v) w fun e w'=>∃u,e = .returned (.tuple #[u,.int .i64 (D:Int)])∧Row w.heap.size w' u T∧Below w.heap.size w w'
abbrev JX (t:Tm):Prop:=JTk 58 (fun v=>#[v]) t t.tk t.dp
abbrev JA (l:Int) (t:Tm) (T:List Tk) (D:Nat):Prop:=JTk 123 (fun v=>#[v,.int .i64 l]) t T D
theorem tk_ne (t:Tm):t.tk≠[]:=by
 have:=(tk_len t).1
 intro h
 rw[h] at this
 simp at this
theorem at_of (l:Nat) (t:Tm) (hok:t.ok) (hl7:l≤100) (hX:JX t):JA ((l:Int)+1) t (atK l t.lv t.tk) (atD l t.lv t.dp):=fun S v w hx hT hD=>by
 have HX:=hid hx
 obtain⟨k,op,tb,nm,vk,vn,vs,ys,aa,nn,cc,_,rfl,_⟩:=hx
 obtain⟨W,hW,hbW,hzW,hcW⟩:=box8 w (.cells #[.int .i64 k,.int .i64 op,.string (str8 tb),.string (str8 nm),.int .i64 vk,.int .i64 vn,.string (str8 vs),.slice aa nn cc] 26)
 have k0:=cells8 hcW
 have HB:=hid hbW
 have HC:=hid hcW
 have HLV:=hid (jlevel_any S t hok _ W (HX.out.new hbW))
 have hlv:=lv_le t hok
 by_cases hl:l≤t.lv
 ·rw[atK_pos hl] at hT ⊢
  rw[atD_pos hl] at hD ⊢
  have hge:((l:Int)+1≤(t.lv:Int)+1):=by omega
  have HT:=hid (fun V (hV:Below W.heap.size W V)=>hX S _ V ((HX.out.new hbW).new hV) hT hD)
  clear hbW hcW hX hT hD hl hlv
  generalize (l:Int)+1=l' at hge ⊢
  generalize (t.lv:Int)+1=lv' at hge HLV
  go_enter Tryz.func123,Tryz.ntmps123
  go_wp2_with fail
  refine HLV.out.mono ?_
  rintro e w1 ⟨rfl,hb1⟩
  have k1:=cells8 ((hb1.block w.heap.size hzW).trans HC.out)
  have HC1:=hid (HT.out w1 hb1)
  have HB1:Hid (Below w.heap.size w w1):=hid (HB.out.trans (hb1.mono HB.out.size))
  clear hb1 HLV HT
  go_wp2_with fail
  refine HC1.out.mono ?_
  rintro e w2 ⟨u,rfl,hu,hb2⟩
  have HB2:Hid (Below w.heap.size w w2):=hid (HB1.out.trans (hb2.mono HB1.out.size))
  have HU:Hid (Row w.heap.size w2 u t.tk):=hid (hu.mono HB1.out.size)
  clear hb2 hu HC1
  go_wp2
  exact bodyPost_ret (v:=.tuple #[u,.int .i64 (t.dp:Int)]) (by simp[results,Tryz.results123,go_sem]) rfl ⟨u,rfl,HU.out,HB2.out⟩
 ·rw[atK_neg hl] at hT ⊢
  rw[atD_neg hl] at hD ⊢
  have hge : ¬((l:Int)+1≤(t.lv:Int)+1):=by omega
  simp only[List.length_cons,List.length_append,List.length_nil] at hT
  have HT:=hid (fun V (hV:Below W.heap.size W V)=>hX S _ V ((HX.out.new hbW).new hV) (by omega) (by omega))
  have hne:=tk_ne t
  have hdw:IntKind.i64.wrap ((t.dp:Int)+1)=((t.dp+1:Nat):Int):=by rw[IntKind.wrap_i64];omega
  have hdw2:wrap64 ((t.dp:Int)+1)=((t.dp+1:Nat):Int):=by simp only[wrap64];omega
  clear hbW hcW hX hD hl hlv
  generalize ((t.dp+1:Nat):Int)=D' at hdw hdw2 ⊢
  generalize (t.dp:Int)=D at hdw hdw2 HT
  generalize t.tk=T at HT hne hT ⊢
  generalize (l:Int)+1=l' at hge ⊢
  generalize (t.lv:Int)+1=lv' at hge HLV
  go_enter Tryz.func123,Tryz.ntmps123
  go_wp2_with fail
  refine HLV.out.mono ?_
  rintro e w1 ⟨rfl,hb1⟩
  have k1:=cells8 ((hb1.block w.heap.size hzW).trans HC.out)
  have HC1:=hid (HT.out w1 hb1)
  have HB1:Hid (Below w.heap.size w w1):=hid (HB.out.trans (hb1.mono HB.out.size))
  clear hb1 HLV HT
  go_wp2_with fail
  refine HC1.out.mono ?_
  rintro e w2 ⟨u,rfl,hu,hb2⟩
  have HB2:Hid (Below w.heap.size w w2):=hid (HB1.out.trans (hb2.mono HB1.out.size))
  obtain⟨g,c,rfl,hg1,hg2,hcu⟩:=hu.some hne
  have HCU:=hid hcu
  clear hb2 hu HC1 hcu
  go_wp2_with fail
  refine (jsign_any ⟨#[40]⟩ w2).mono ?_
  rintro e w3 ⟨rfl,hb3⟩
  have HCU3:=hid (HCU.out.on hne hb3)
  have HB3:Hid (Below w.heap.size w w3):=hid (HB2.out.trans (hb3.mono HB2.out.size))
  clear hb3 HCU
  obtain⟨U,hU,hbU,hzU,hrU,_⟩:=new_toks w3 [fxT [40]] #[.int .i64 5,.string ⟨#[40]⟩,.int .i64 0,.int .i64 0] rfl (by simp)
  have hcuU:=HCU3.out.on hne hbU
  have hsU:w3.heap.size≤U.heap.size:=Nat.le_of_lt hzU
  have HBU:Hid (Below w.heap.size w U):=hid (HB3.out.trans (hbU.mono HB3.out.size))
  have hlT:[fxT [40]].length+T.length≤1000000000:=by simp;omega
  clear HCU3 hbU
  go_wp2_with (first
   | (
    at_builtin;refine wpList_row _ (by rfl) (.tmp 22) (.tmp 23) rfl w3.heap.size _ [fxT [40]] T rfl hrU g 0 c rfl hcuU hlT hsU ?_;intro v4 w4 hr4 hg4 hb4
    have HR4:=hid hr4
    have HB4:Hid (Below w.heap.size w w4):=hid (HBU.out.trans (hb4.mono HB3.out.size))
    have HS4:Hid (w3.heap.size≤w4.heap.size):=hid (Nat.le_trans hsU hb4.size)
    clear hr4 hg4 hb4 hcuU hrU hU)
   | fail)
  refine (jsign_any ⟨#[41]⟩ w4).mono ?_
  rintro e w5 ⟨rfl,hb5⟩
  have HR5:=hid (HR4.out.on hb5)
  have HB5:Hid (Below w.heap.size w w5):=hid (HB4.out.trans (hb5.mono HB4.out.size))
  have HS5:Hid (w3.heap.size≤w5.heap.size):=hid (Nat.le_trans HS4.out hb5.size)
  clear hb5 HR4 HS4
  obtain⟨V,hV,hbV,hzV,_,hcV⟩:=new_toks w5 [fxT [41]] #[.int .i64 5,.string ⟨#[41]⟩,.int .i64 0,.int .i64 0] rfl (by simp)
  have hr5:=HR5.out.on hbV
  have hsV:w3.heap.size≤V.heap.size:=Nat.le_trans HS5.out hbV.size
  have HBV:Hid (Below w.heap.size w V):=hid (HB5.out.trans (hbV.mono HB5.out.size))
  have hlT2:([fxT [40]]++T).length+[fxT [41]].length≤1000000000:=by simp;omega
  clear HR5 hbV
  go_wp2_with (first
   | (
    at_builtin;refine wpList_row _ (by rfl) (.tmp 24) (.tmp 26) rfl w3.heap.size _ ([fxT [40]]++T) [fxT [41]] rfl hr5 w5.heap.size 0 1 rfl hcV hlT2 hsV ?_;intro v6 w6 hr6 hg6 hb6
    have HR6:=hid hr6
    have HB6:Hid (Below w.heap.size w w6):=hid (HBV.out.trans (hb6.mono HB3.out.size))
    clear hr6 hg6 hb6 hr5 hcV hV)
   | fail)
  refine bodyPost_ret (v:=.tuple #[v6,.int .i64 D']) (by simp[results,Tryz.results123,go_sem,hdw,hdw2]) rfl ⟨v6,rfl,?_,HB6.out⟩
  have:=HR6.out.mono HB3.out.size
  rw[show [fxT [40]]++T++[fxT [41]]=fxT [40]::(T++[fxT [41]]) by simp] at this
  exact this
theorem run_append_wherem {P:Program} (w:World) (base:Nat) (t ty e:TypeId) (i:TypeInfo) (z:Value) (size bytes:Nat) (ht:P.underlying t=some (.slice e)) (hi:P.info? e=some i) (hz:i.zero=some z)
  (hsize:i.size=size) (hby:i.bytes=bytes) (hzs:z.cells.size=size) (hsz:0<size)
  (v:Value) (n:Nat) (xs:List Value) (hown:w.ownsRow base e size v n xs)
  (a:Addr) (m c:Nat) (news:List Value) (hm:0<m) (hl:news.length=m*size) (hnews : ∀j u,news[j]?=some u→w.cell? (a.add j)=some u) (h1 : ∀u∈news,u.oneCell'=true)
  (h63:n+m≤maxLen) (hbytes:(n+m)*bytes≤140737488355328) (hbase:base≤w.heap.size) :
  ∃
   v' w',(Builtin.append_ #[t,t] ty #[v,.slice (some a) m c]).run P w = .ok v' w'∧w'.ownsRow base e size v' (n+m) (xs++news)∧w.grownBy w' v.ownBlock ∧
   (v'.ownBlock=v.ownBlock∨v'.ownBlock=some w.heap.size):=by
 obtain⟨v',w',hr,h2,h3,_⟩:=run_append_own (P:=P) w base t ty e i z size bytes ht hi hz hsize hby hzs hsz v n xs hown a m c news hl hnews h1 h63 hbytes hbase
 refine ⟨v',w',hr,h2,h3,?_⟩
 subst hsize
 subst hby
 have hsmall:n+m≤9223372036854775807:=by simp only[maxLen] at h63;omega
 rcases hown.2 with⟨rfl,rfl⟩ | ⟨g,cap,cur,rfl,hbg,hg,hnc,hcm,hcs,htake⟩
 ·have hr2:=run_append_nil (P:=P) w t ty e i z ht hi hz a m c news hl hnews hm (by omega) (by have hb:=hbytes;simp only[Nat.zero_add] at hb;omega)
  rw[hr2] at hr
  injection hr with e1 e2
  rw[← e1]
  exact .inr rfl
 ·by_cases hroom:n+m≤cap
  ·have hfit:n*i.size+news.length≤cur.size:=by rw[hl,hcs,← Nat.add_mul];exact Nat.mul_le_mul_right _ hroom
   have hr2:=run_append_room (P:=P) w t ty e i ht hi g n cap cur hg a m c news hl hnews h1 hroom hfit
   rw[hr2] at hr
   injection hr with e1 e2
   rw[← e1]
   exact .inl rfl
  ·have holds : ∀j u,xs[j]?=some u→w.cell? ((⟨g,0,none⟩:Addr).add j)=some u:=hown.cells (g:=g) rfl
   have hr2:=run_append_grow (P:=P) w t ty e i z ht hi hz ⟨g,0,none⟩ n cap xs hown.1 holds a m c news hl hnews (by omega) (by omega) (growslice_fits (by omega) hbytes)
   rw[hr2] at hr
   injection hr with e1 e2
   rw[← e1]
   exact .inr rfl
theorem wpList_rowW {ops:Array Oper} {rest:List Oper} {o:Oper} {a:Act} {Q:Exit→Act→World→Prop} (w:World) (hgd:o.guard=none) (s x:Operand)
  (ho:o.op = .call { callee:=.builtin .append,args:=#[s,x],argTypes:=#[55,55] })
  (B:Nat) (v:Value) (L M:List Tk) (hs:a.eval s=v) (hv:Row B w v L) (b off c:Nat) (hx:a.eval x = .slice (some ⟨b,off,none⟩) M.length c) (hc:TksAt w b off M) (hne:M≠[])
  (hl:L.length+M.length≤1000000000) (hB:B≤w.heap.size)
  (h : ∀v' w',Row B w' v' (L++M)→w.grownBy w' v.ownBlock→(v'.ownBlock=v.ownBlock∨v'.ownBlock=some w.heap.size)→wpList Tryz.prog ops Q rest (a.put o.dst v') w'):wpList Tryz.prog ops Q (o::rest) a w:=by
 obtain⟨i0,hi,hz0,hz1,hz2⟩:=info_parts Tryz.infoTok
 have hm:0<M.length:=List.length_pos_iff.2 hne
 obtain⟨v',w',hr,h2,h3,h4⟩:=run_append_wherem (P:=Tryz.prog) w B 55 o.type 119 i0 (.agg #[.int .i64 0,.string ⟨#[]⟩,.int .i64 0,.int .i64 0]) 4 40 Tryz.underlying55 hi hz0 hz1 hz2 rfl (by decide) v L.length (tcs L) hv ⟨b,off,none⟩ M.length c (tcs M) hm (by rw[tcs_length]) hc (tcs_one M) (by unfold maxLen;omega) (by omega) hB
 refine wpList_plain hgd fun _ hK=>?_
 unfold Oper.wp execOp
 simp only[ho,resolve,invoke,builtin,Sem.run_bind,Sem.run_pure,Result.andThen_ok,List.map_toArray,List.map_cons,List.map_nil,hs,hx,hr]
 refine hK _ _ (h v' w' ?_ h3 h4)
 show w'.ownsRow B 119 4 v' (L++M).length (tcs (L++M))
 rw[List.length_append,tcs_app]
 exact h2
def JwAt (w:World) (g:Nat) (tb:Option Nat) (L:List Tk) (m:Int):Prop :=
 ∃v,w.heap[g]?=some (.cells #[v,.int .i64 m] 64)∧Row (g+1) w v L∧v.ownBlock=tb
def JWrote (g:Nat) (tb:Option Nat) (w w':World) (L:List Tk) (m:Int):Prop :=
 ∃tb',JwAt w' g tb' L m∧(∀k,tb'=some k→tb=some k∨w.heap.size≤k)∧FrW g tb w w'
theorem JwAt.lt {w:World} {g:Nat} {tb:Option Nat} {L:List Tk} {m:Int} (h:JwAt w g tb L m):g<w.heap.size:=by
 obtain⟨v,hv,_⟩:=h
 exact World.lt_of_block hv
theorem JwAt.tbs {w:World} {g:Nat} {tb:Option Nat} {L:List Tk} {m:Int} (h:JwAt w g tb L m):∀k,tb=some k→g<k∧k<w.heap.size:=by
 obtain⟨v,_,ho,rfl⟩:=h
 exact fun k hk=>⟨(ho.lt k hk).1,(ho.lt k hk).2⟩
theorem JwAt.here {w:World} {g:Nat} {tb:Option Nat} {L:List Tk} {m:Int} (h:JwAt w g tb L m):JWrote g tb w w L m:=⟨tb,h,fun k hk=>.inl hk,Spares.refl _ _⟩
theorem JWrote.then {g:Nat} {tb tb1:Option Nat} {w w1 w2:World} {L:List Tk} {m:Int} (h1 : ∀k,tb1=some k→tb=some k∨w.heap.size≤k) (hf:FrW g tb w w1) (h2:JWrote g tb1 w1 w2 L m):JWrote g tb w w2 L m:=by
 obtain⟨tb2,h3,h4,h5⟩:=h2
 refine ⟨tb2,h3,fun k hk=>?_,hf.andThen h5 fun i hi=>?_⟩
 ·rcases h4 k hk with e | e
  ·exact h1 k e
  ·exact .inr (Nat.le_trans hf.size e)
 ·rcases hi with rfl | e
  ·exact .inl (.inl rfl)
  ·rcases h1 i e with e | e
   ·exact .inl (.inr e)
   ·exact .inr e
theorem JwAt.below {w w':World} {g:Nat} {tb:Option Nat} {L:List Tk} {m:Int} (h:JwAt w g tb L m) (hb:Below w.heap.size w w'):JwAt w' g tb L m:=by
 have hlt:=h.lt
 obtain⟨v,hv,ho,ht⟩:=h
 exact⟨v,(hb.block g hlt).trans hv,ho.on hb,ht⟩
theorem JWrote.new {g:Nat} {tb:Option Nat} {w w1 w2:World} {L:List Tk} {m:Int} (hb:Below w.heap.size w w1) (h2:JWrote g tb w1 w2 L m):JWrote g tb w w2 L m :=
 h2.then (fun k hk=>.inl hk) (Spares.of_new hb)
theorem jw_set0 {w W:World} {g:Nat} {tb:Option Nat} {L L':List Tk} {m:Int} {v v':Value} (hw:JwAt w g tb L m) (hv:W.heap[g]?=some (.cells #[v,.int .i64 m] 64)) (ho:Row (g+1) W v' L') (hf:FrW g tb w W) (ht:v'.ownBlock=tb∨∃k,v'.ownBlock=some k∧w.heap.size≤k) :
  JWrote g tb w (W.setCell ⟨g,0,none⟩ v') L' m:=by
 have hs:W.setCell ⟨g,0,none⟩ v'=W.setRow g #[v',.int .i64 m]:=setCell_eq_setRow W g 0 _ _ _ v' hv
 have hlt:=World.lt_of_block hv
 refine ⟨v'.ownBlock,⟨v',?_,?_,rfl⟩,?_,?_⟩
 ·rw[hs,setRow_heap W g _ _ _ _ hv]
 ·exact ownsRow_setCell_other ho (a:=⟨g,0,none⟩) (fun e=>by have:=(ho.lt g e).1;omega) v'
 ·intro k hk
  rcases ht with e | ⟨j,e,hj⟩
  ·exact .inl (e ▸ hk)
  ·rw[e] at hk;cases hk;exact .inr hj
 ·exact hf.then (Spares.setCell (S:=fun k=>k=g∨tb=some k) (Spares.refl _ W) (p:=⟨g,0,none⟩) (.inl (.inl rfl)) v')
theorem jw_set1 {w:World} {g:Nat} {tb:Option Nat} {L:List Tk} {m:Int} (hw:JwAt w g tb L m) (m':Int):JWrote g tb w (w.setCell ⟨g,1,none⟩ (.int .i64 m')) L m':=by
 obtain⟨v,hv,ho,ht⟩:=hw
 have hs:w.setCell ⟨g,1,none⟩ (.int .i64 m')=w.setRow g #[v,.int .i64 m']:=setCell_eq_setRow w g 1 _ _ _ _ hv
 refine ⟨tb,⟨v,?_,?_,ht⟩,fun k hk=>.inl hk,Spares.setCell (S:=fun k=>k=g∨tb=some k) (Spares.refl _ w) (p:=⟨g,1,none⟩) (.inl (.inl rfl)) _⟩
 ·rw[hs,setRow_heap w g _ _ _ _ hv]
 ·exact ownsRow_setCell_other ho (a:=⟨g,1,none⟩) (fun e=>by have:=(ho.lt g e).1;omega) _
theorem rights_of (S:Nat→Prop) (xs:List Ex) (v:Value) (w:World) (hx:ArgsAt S w xs v)
  (HF:Hid (∀y∈xs,∀u V,ExV S V y u→Calls Tryz.prog 23 #[u] V fun e w'=>e = .returned (.bool (rightE y))∧Below V.heap.size V w')) :
  Calls Tryz.prog 57 #[v] w fun e w'=>e = .returned (.bool (xs.all rightE))∧Below w.heap.size w w':=by
 have hsl:=args_sl hx
 have HV:=hid hsl
 obtain⟨aa,cc,css,rfl,h1,h2,_⟩:=hsl
 unfold maxLen at h2
 obtain⟨X,hX⟩:∃X,xs.all rightE=X:=⟨_,rfl⟩
 rw[hX]
 have HX:=hid hX
 clear hX hx
 go_enter Tryz.func57,Tryz.ntmps57
 go_wp2_with fail
 go_loopw [3,4] (fun i _ wr=>∃(j:Nat),j≤xs.length∧i = .int .i64 j∧Below w.heap.size w wr∧Hid ((xs.take j).all rightE=true)) (fun i _ _=>xs.length-(intOf i).toNat)
 case atStart=>exact⟨0,Nat.zero_le _,rfl,Below.refl _ _,hid rfl⟩
 case round =>
  obtain⟨j,hj,rfl,hbel,HK⟩:=hrel
  by_cases hlt:j<xs.length
  ·have hlt':((j:Int)<(xs.length:Int)):=by omega
   obtain⟨y,hy⟩:∃y,xs[j]?=some y:=⟨_,List.getElem?_eq_getElem hlt⟩
   obtain⟨_,_,_,b,off,cs,rfl,_,hel,hcell⟩:=sl_get (HV.out.to (T:=S) (by decide) (R:=fun _=>False) (Spares.of_new hbel) (fun b hb _=>⟨id,hb⟩) (fun _ _ e=>e.to (R:=fun _=>False) (Spares.of_new hbel) (fun b hb _=>⟨id,hb⟩))) hy
   have HC:=hid (HF.out y (List.mem_of_getElem? hy) _ wr hel.v)
   have HT:Hid ((xs.take (j+1)).all rightE=((xs.take j).all rightE&&rightE y)):=hid (by
    obtain⟨h1,h2⟩:=List.getElem?_eq_some_iff.1 hy
    rw[List.take_succ_eq_append_getElem h1,h2,List.all_append]
    simp)
   have HM:=hid (List.mem_of_getElem? hy)
   obtain⟨k1,op1,tb1,nm1,vk1,vn1,vs1,ys1,aa1,nn1,cc1,_,rfl,_⟩:=hel
   have q0:=hcell 0 _ rfl
   have q1:=hcell 1 _ rfl
   have q2:=hcell 2 _ rfl
   have q3:=hcell 3 _ rfl
   have q4:=hcell 4 _ rfl
   have q5:=hcell 5 _ rfl
   have q6:=hcell 6 _ rfl
   have q7:=hcell 7 _ rfl
   simp only[Nat.add_zero] at q0
   have HBR:=hid hbel
   clear hbel hcell hy
   cases hp:rightE y with
   |
    true =>
    rw[hp] at HC HT
    have HK2:Hid ((xs.take (j+1)).all rightE=true):=hid (by rw[HT.out,HK.out];rfl)
    clear HK hp HT HM
    go_wp2_with fail
    refine HC.out.mono ?_
    rintro e w2 ⟨rfl,hb2⟩
    have HB2:Hid (Below w.heap.size w w2):=hid (HBR.out.trans (hb2.mono HBR.out.size))
    clear hb2 HC
    go_wp2
    go_roundw
    case rel=>exact⟨j+1,by omega,by go_num,HB2.out,HK2⟩
    case measure=>simp[intOf];omega
   |
    false =>
    rw[hp] at HC
    have HXF:Hid (X=false):=hid (by
     rw[← HX.out,Bool.eq_false_iff]
     intro h
     have:=List.all_eq_true.1 h y HM.out
     rw[hp] at this
     cases this)
    clear HK hp HT HM
    go_wp2_with fail
    refine HC.out.mono ?_
    rintro e w2 ⟨rfl,hb2⟩
    have HB2:Hid (Below w.heap.size w w2):=hid (HBR.out.trans (hb2.mono HBR.out.size))
    clear hb2 HC
    go_wp2
    go_ret
    exact⟨by rw[HXF.out];rfl,HB2.out⟩
  ·have hlt' : ¬((j:Int)<(xs.length:Int)):=by omega
   have HXT:Hid (X=true):=hid (by
    rw[← HX.out]
    have:=HK.out
    rw[List.take_of_length_le (by omega)] at this
    exact this)
   have HB2:=hid hbel
   clear hbel HK
   go_wp2
   go_ret
   exact⟨by rw[HXT.out];rfl,HB2.out⟩
end Go.Proofs.YtnidnipiihhnaaaGreatDoor
