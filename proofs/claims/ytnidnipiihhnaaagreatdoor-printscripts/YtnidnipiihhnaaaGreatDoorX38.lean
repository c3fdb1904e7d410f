/- Packed for the hand-in: RefJG -/
import Derived.Test.YtnidnipiihhnaaaGreatDoorX37
import Derived.Test.YtnidnipiihhnaaaGreatDoorX11
import Derived.Deep.AppendLies
import Derived.Great.BuildSlice
namespace Go.Proofs.YtnidnipiihhnaaaGreatDoor
open Go.RowKit Go.Shelf
set_option linter.unusedSimpArgs false
set_option linter.unusedVariables false
set_option maxRecDepth 20000
set_option maxHeartbeats 8000000
section
variable {P : Program} {md : Region.Mode} {ops : Array Oper} {Q : Exit → Act → World → Prop} {S : World → Prop} {fuel : Nat} {listed : Array Bool} {a : Act} {w : World} {i k0 : Nat} {oi : Oper}
theorem takeE_call {f:FuncId} {xs:Array Operand} {ts:Array TypeId} (args:Array Value) (R:Value→World→Prop) (hr:Region.ready md ops listed=[i]) (hi:ops[i]?=some oi) (gi:oi.guard=none)
  (ki:oi.op = .call { callee:=.value (.func f),args:=xs,argTypes:=ts }) (ea:xs.map a.eval=args) (ef : ∀args w,(callFunc f args).run P w = .ok (.enter f args) w)
  (hc:Calls P f args w fun e w'=>∃v,e = .returned v∧R v w')
  (h : ∀v w',R v w'→S w'∧wpAnyE P md ops Q S k0 fuel (listed.setIfInBounds i true) (a.put oi.dst v) w'):wpAnyE P md ops Q S k0 (fuel+1) listed a w :=
 takeE_one hr hi gi (by
  unfold Oper.wp execOp
  simp only[ki,resolve,ea,Act.eval,Deferred.ofValue,invoke,Sem.run_bind,Sem.run_pure,Result.andThen_ok,Array.append_empty,Array.empty_append,ef]
  exact hc.mono fun e w' ⟨v,he,hR⟩=>by subst he;exact⟨.inl (h v w' hR).1,(h v w' hR).2⟩)
theorem takeE_build {t:TypeId} {parts:Array (Nat × Operand)} (ps:List (Nat × Value)) (cells:Array Value) (hr:Region.ready md ops listed=[i]) (hi:ops[i]?=some oi) (gi:oi.guard=none)
  (ki:oi.op = .build t parts) (ep:(parts.map fun (i,x)=>(i,a.eval x)).toList=ps) (hb:P.built t ps=some cells) (hS:S w)
  (h:wpAnyE P md ops Q S k0 fuel (listed.setIfInBounds i true) (a.put oi.dst (.agg cells)) w):wpAnyE P md ops Q S k0 (fuel+1) listed a w :=
 takeE_value hr hi gi (by
  unfold execOp
  simp only[ki]
  rw[Sem.run_bind,run_build w t _ cells (by rw[ep];exact hb)]
  rfl) hS h
theorem takeE_slice {t e:TypeId} {parts:Array (Nat × Operand)} (cells:Array Value) (ie:TypeInfo) (z:Value) (hr:Region.ready md ops listed=[i]) (hi:ops[i]?=some oi) (gi:oi.guard=none)
  (ki:oi.op = .buildSlice t 1 parts) (ep:(parts.map fun (i,x)=>(i,a.eval x)).toList=[(0,.agg cells)])
  (hu:P.underlying t=some (.slice e)) (hie:P.info? e=some ie) (hz:ie.zero=some z) (hzs:ie.size=cells.size) (hsmall:cells.size≤2 ^ 24) (hpos:0<cells.size)
  (hS:S (w.alloc (.cells cells e)))
  (h:wpAnyE P md ops Q S k0 fuel (listed.setIfInBounds i true) (a.put oi.dst (.slice (some ⟨w.heap.size,0,none⟩) 1 1)) (w.alloc (.cells cells e))):wpAnyE P md ops Q S k0 (fuel+1) listed a w :=
 takeE_value hr hi gi (by
  unfold execOp
  simp only[ki]
  rw[Sem.run_bind,run_buildSlice w t e 1 _ cells ie z hu hie hz (by rw[hzs];omega) (by rw[hzs];omega) (by
   rw[ep,hzs]
   have:=Go.Great.fill_whole (s:=cells.size) hpos [.agg cells] ((Array.range (1*cells.size)).map (z.cells[· % z.cells.size]!)) (by simp[Value.cells]) (by simp)
   simpa [Value.cells] using this)]
  rfl) hS h
theorem takeE_append {s x:Operand} {t:TypeId} (hr:Region.ready md ops listed=[i]) (hi:ops[i]?=some oi) (gi:oi.guard=none)
  (ki:oi.op = .call { callee:=.builtin .append,args:=#[s,x],argTypes:=#[t,t] })
  (base:Nat) (e:TypeId) (ie:TypeInfo) (z:Value) (size bytes:Nat) (ht:P.underlying t=some (.slice e)) (hie:P.info? e=some ie) (hz:ie.zero=some z)
  (hsize:ie.size=size) (hby:ie.bytes=bytes) (hzs:z.cells.size=size) (hsz:0<size)
  (v:Value) (n:Nat) (xs:List Value) (hs:a.eval s=v) (hown:w.ownsRow base e size v n xs)
  (ad:Addr) (m c:Nat) (news:List Value) (hx:a.eval x = .slice (some ad) m c) (hl:news.length=m*size) (hnews : ∀j u,news[j]?=some u→w.cell? (ad.add j)=some u) (h1 : ∀u∈news,u.oneCell'=true)
  (hm:0<m) (h63:n+m≤maxLen) (hbytes:(n+m)*bytes≤140737488355328) (hbase:base≤w.heap.size)
  (h : ∀g cap w',w'.ownsRow base e size (.slice (some ⟨g,0,none⟩) (n+m) cap) (n+m) (xs++news)→w.grownBy w' v.ownBlock→(v.ownBlock=some g∨g=w.heap.size)→g<w'.heap.size →
   S w'∧wpAnyE P md ops Q S k0 fuel (listed.setIfInBounds i true) (a.put oi.dst (.slice (some ⟨g,0,none⟩) (n+m) cap)) w'):wpAnyE P md ops Q S k0 (fuel+1) listed a w :=
 takeE_one hr hi gi (wp_append_lies w s x t ki base e ie z size bytes ht hie hz hsize hby hzs hsz v n xs hs hown ad m c news hx hl hnews h1 hm h63 hbytes hbase _ rfl fun g cap w' h1 h2 h3 h4=>⟨.inl (h g cap w' h1 h2 h3 h4).1,(h g cap w' h1 h2 h3 h4).2⟩)
theorem run_store_one (w:World) (ty:TypeId) (hi:(P.info? ty).map (·.size)=some 1) (ad:Addr) (v u:Value) (hv:v.cells=#[v]) (h1:v.oneCell'=true) (hc:w.cell? ad=some u) (hf:w.frozen? ad=false):(storeVar ty ad v).run P w = .ok () (w.setCell ad v):=by
 cases hq:P.info? ty with
 | none=>simp[hq] at hi
 |
  some i =>
  have hs:i.size=1:=by simpa [hq] using hi
  have h1:(store ad v).run P w = .ok () (w.setCell ad v):=by
   rw[run_store P w ad v .plain h1,hc]
   simp[hf]
  simp[storeVar,sizeOf,typeInfo,hq,hv,hs,storeCells,Addr.add,h1]
theorem takeE_store {ty:TypeId} {x y:Operand} {pi:Addr} {u v:Value} (hs:(P.info? ty).map (·.size)=some 1) (hr:Region.ready md ops listed=[i]) (hi:ops[i]?=some oi) (gi:oi.guard=none) (di:oi.dst=none)
  (ki:oi.op = .store ty x y) (ei:a.eval x = .pointer (some pi)) (ey:a.eval y=v) (hv:v.cells=#[v]) (h1:v.oneCell'=true) (ci:w.cell? pi=some u) (cf:w.frozen? pi=false) (hS:S (w.setCell pi v)∨i=k0)
  (h:wpAnyE P md ops Q S k0 fuel (listed.setIfInBounds i true) a (w.setCell pi v)):wpAnyE P md ops Q S k0 (fuel+1) listed a w :=
 takeE_one hr hi gi (by
  unfold Oper.wp execOp
  simp only[ki,ei,ey,Instr.storeAt,Instr.sureAddr,Sem.run_bind,Sem.run_pure,Result.andThen_ok,run_store_one w ty hs pi v u hv h1 ci cf,Oper.upon,di]
  exact⟨hS,h⟩)
end
theorem Tryz.infoToks:(Tryz.prog.info? 55).map (·.size)=some 1:=by kernel_rfl
theorem jwname_any (g:Nat) (tb:Option Nat) (L:List Tk) (m:Int) (s:List UInt8) (w:World) (h:JwAt w g tb L m) (hl:L.length+1≤1000000000) :
  Calls Tryz.prog 85 #[.pointer (some ⟨g,0,none⟩),.string (str8 s)] w fun e w'=>e = .returned (.tuple #[])∧JWrote g tb w w' (L++[nmT s]) m:=by
 obtain⟨lv,hlv,hlo,htb⟩:=id h
 obtain⟨la,lb,lc,rfl⟩:∃la lb lc,lv = .slice la lb lc:=by
  rcases hlo.2 with⟨rfl,_⟩ | ⟨_,_,_,rfl,_⟩
  ·exact⟨_,_,_,rfl⟩
  ·exact⟨_,_,_,rfl⟩
 have hgW:g<w.heap.size:=h.lt
 have HJW:=hid h
 have HGV:=hid hlv
 have HRW:Hid (Row (g+1) w (.slice la lb lc) L):=hid hlo
 have HTB:=hid htb
 have HSK:Hid (∀V,Below w.heap.size w V→V.cell? ⟨g,0,none⟩=some (.slice la lb lc)∧True∧True):=hid (fun V hV=>⟨(cells2J ((hV.block g hgW).trans HGV.out)).1,trivial,trivial⟩)
 have HS3:Hid (∀(V U:World),Below w.heap.size w U→U.grownBy V (Value.slice la lb lc).ownBlock→V.heap[g]?=some (.cells #[.slice la lb lc,.int .i64 m] 64)→V.cell? ⟨g,0,none⟩=some (.slice la lb lc)∧True∧True):=hid (fun V U _ _ hV=>⟨(cells2J hV).1,trivial,trivial⟩)
 clear h hlv hlo htb
 go_enter Tryz.func85,Tryz.ntmps85
 go_wp2_with fail
 have hS0:=HSK.out w.drew (Below.refl _ w).drew
 refine last_region (fun V:World=>V.cell? ⟨g,0,none⟩=some (.slice la lb lc)∧True∧True) 11 (by kernel_rfl) ?_
 refine wpAnyE_take (i:=0) (v:=?_) rfl (by kernel_rfl) (by kernel_rfl) (by kernel_rfl) (by kernel_rfl) (by kernel_rfl) (fun _ _ _ h=>h) (Or.inl ⟨by rfl,?_⟩) (by assumption) ?_;rotate_left;(focus (intro w hSw;(try dsimp only at hSw);(try obtain⟨hSw1,hSw2,hSw3⟩:=hSw);go_simp<;>with_reducible rfl));(try simp only[Act.put,List.getElem_toArray,List.getElem_cons_zero,List.getElem_cons_succ,List.setIfInBounds_toArray,List.set_cons_zero,List.set_cons_succ])
 refine wpAnyE_take (i:=1) (v:=?_) rfl (by kernel_rfl) (by kernel_rfl) (by kernel_rfl) (by kernel_rfl) (by kernel_rfl) (fun _ _ _ h=>h) (Or.inl ⟨by rfl,?_⟩) (by assumption) ?_;rotate_left;(focus (intro w hSw;(try dsimp only at hSw);(try obtain⟨hSw1,hSw2,hSw3⟩:=hSw);go_simp<;>with_reducible rfl));(try simp only[Act.put,List.getElem_toArray,List.getElem_cons_zero,List.getElem_cons_succ,List.setIfInBounds_toArray,List.set_cons_zero,List.set_cons_succ])
 refine wpAnyE_take (i:=2) (v:=?_) rfl (by kernel_rfl) (by kernel_rfl) (by kernel_rfl) (by kernel_rfl) (by kernel_rfl) (fun _ _ _ h=>h) (Or.inl ⟨by rfl,?_⟩) (by assumption) ?_;rotate_left;(focus (intro w hSw;(try dsimp only at hSw);(try obtain⟨hSw1,hSw2,hSw3⟩:=hSw);go_simp<;>with_reducible rfl));(try simp only[Act.put,List.getElem_toArray,List.getElem_cons_zero,List.getElem_cons_succ,List.setIfInBounds_toArray,List.set_cons_zero,List.set_cons_succ])
 refine wpAnyE_take (i:=3) (v:=?_) rfl (by kernel_rfl) (by kernel_rfl) (by kernel_rfl) (by kernel_rfl) (by kernel_rfl) (fun _ _ _ h=>h) (Or.inl ⟨by rfl,?_⟩) (by assumption) ?_;rotate_left;(focus (intro w hSw;(try dsimp only at hSw);(try obtain⟨hSw1,hSw2,hSw3⟩:=hSw);go_simp<;>with_reducible rfl));(try simp only[Act.put,List.getElem_toArray,List.getElem_cons_zero,List.getElem_cons_succ,List.setIfInBounds_toArray,List.set_cons_zero,List.set_cons_succ])
 refine wpAnyE_take (i:=4) (v:=?_) rfl (by kernel_rfl) (by kernel_rfl) (by kernel_rfl) (by kernel_rfl) (by kernel_rfl) (fun _ _ _ h=>h) (Or.inl ⟨by rfl,?_⟩) (by assumption) ?_;rotate_left;(focus (intro w hSw;(try dsimp only at hSw);(try obtain⟨hSw1,hSw2,hSw3⟩:=hSw);go_simp<;>with_reducible rfl));(try simp only[Act.put,List.getElem_toArray,List.getElem_cons_zero,List.getElem_cons_succ,List.setIfInBounds_toArray,List.set_cons_zero,List.set_cons_succ])
 refine wpAnyE_take (i:=5) (v:=?_) rfl (by kernel_rfl) (by kernel_rfl) (by kernel_rfl) (by kernel_rfl) (by kernel_rfl) (fun _ _ _ h=>h) (Or.inl ⟨by rfl,?_⟩) (by assumption) ?_;rotate_left;(focus (intro w hSw;(try dsimp only at hSw);(try obtain⟨hSw1,hSw2,hSw3⟩:=hSw);go_simp<;>with_reducible rfl));(try simp only[Act.put,List.getElem_toArray,List.getElem_cons_zero,List.getElem_cons_succ,List.setIfInBounds_toArray,List.set_cons_zero,List.set_cons_succ])
 refine takeE_call (i:=6) #[.string (str8 s)] (fun v w'=>v = .agg #[.int .i64 1,.string (str8 s),.int .i64 0,.int .i64 0]∧Below w.drew.heap.size w.drew w') (by kernel_rfl) rfl rfl rfl (by kernel_rfl) (enters_of Tryz.func122 (by kernel_rfl) rfl) ((jnameT_any (str8 s) w.drew).mono fun e w' ⟨h1,h2⟩=>⟨_,h1,rfl,h2⟩) ?_
 rintro _ W1 ⟨rfl,hb1⟩
 have hbW1:Below w.heap.size w W1:=(Below.refl _ w).drew.trans hb1
 have hS1:=HSK.out W1 hbW1
 refine ⟨hS1,?_⟩
 simp only[Act.put,List.getElem_toArray,List.getElem_cons_zero,List.getElem_cons_succ,List.setIfInBounds_toArray,List.set_cons_zero,List.set_cons_succ]
 obtain⟨U,hU,hbU,hzU,_,htkU⟩:=new_toks W1 [nmT s] #[.int .i64 1,.string (str8 s),.int .i64 0,.int .i64 0] (by rfl) (by simp)
 have hbWU:Below w.heap.size w U:=hbW1.trans (hbU.mono hbW1.size)
 obtain⟨i0,hi,hz0,hz1,hz2⟩:=info_parts Tryz.infoTok
 refine takeE_slice (i:=7) #[.int .i64 1,.string (str8 s),.int .i64 0,.int .i64 0] i0 _ (by kernel_rfl) rfl rfl rfl (by kernel_rfl) Tryz.underlying55 hi hz0 (by rw[hz1];rfl) (by show 4≤2 ^ 24;decide) (by show 0<4;decide) (by rw[hU];exact HSK.out U hbWU) ?_
 simp only[Act.put,List.getElem_toArray,List.getElem_cons_zero,List.getElem_cons_succ,List.setIfInBounds_toArray,List.set_cons_zero,List.set_cons_succ]
 rw[hU]
 have hownU:U.ownsRow (g+1) 119 4 (.slice la lb lc) L.length (tcs L):=HRW.out.on hbWU
 have hgU:g+1≤U.heap.size:=by have:=hbWU.size;omega
 refine takeE_append (i:=8) (s:=.tmp 8) (x:=.tmp 11) (t:=55) (by kernel_rfl) rfl rfl rfl (g+1) 119 i0 _ 4 40 Tryz.underlying55 hi hz0 hz1 hz2 rfl (by decide) (.slice la lb lc) L.length (tcs L) (by kernel_rfl) hownU ⟨W1.heap.size,0,none⟩ 1 1 (tcs [nmT s]) (by kernel_rfl) (by rw[tcs_length];rfl) htkU (tcs_one _) (by decide) (by unfold maxLen;omega) (by omega) hgU ?_
 intro gg cap W3 hown3 hgrow hat hgl3
 have hV3:W3.heap[g]?=some (.cells #[.slice la lb lc,.int .i64 m] 64):=(hgrow.block g (by omega) (fun e=>by have:=(hownU.lt g e.symm).1;omega)).trans ((hbWU.block g hgW).trans HGV.out)
 have k3:=cells2J hV3
 have hS3:(fun V:World=>V.cell? ⟨g,0,none⟩=some (.slice la lb lc)∧True∧True) W3:=HS3.out W3 U hbWU hgrow hV3
 have HZ:Hid (JWrote g tb w (W3.setCell ⟨g,0,none⟩ (.slice (some ⟨gg,0,none⟩) (L.length+1) cap)) (L++[nmT s]) m):=hid (jw_set0 HJW.out hV3 (by
  show W3.ownsRow (g+1) 119 4 _ (L++[nmT s]).length (tcs (L++[nmT s]))
  rw[List.length_append,tcs_app]
  exact hown3) ((Spares.of_new hbWU).then (Spares.of_grown hgrow (fun k hk=>.inr (HTB.out ▸ hk)))) (by
  rcases hat with e | e
  ·exact .inl (e.symm.trans HTB.out)
  ·exact .inr ⟨gg,rfl,by rw[e];exact hbWU.size⟩))
 refine ⟨hS3,?_⟩
 simp only[Act.put,List.getElem_toArray,List.getElem_cons_zero,List.getElem_cons_succ,List.setIfInBounds_toArray,List.set_cons_zero,List.set_cons_succ]
 refine wpAnyE_take (i:=9) (v:=?_) rfl (by kernel_rfl) (by kernel_rfl) (by kernel_rfl) (by kernel_rfl) (by kernel_rfl) (fun _ _ _ h=>h) (Or.inl ⟨by rfl,?_⟩) (by assumption) ?_;rotate_left;(focus (intro w hSw;(try dsimp only at hSw);(try obtain⟨hSw1,hSw2,hSw3⟩:=hSw);go_simp<;>with_reducible rfl));(try simp only[Act.put,List.getElem_toArray,List.getElem_cons_zero,List.getElem_cons_succ,List.setIfInBounds_toArray,List.set_cons_zero,List.set_cons_succ])
 refine wpAnyE_take (i:=10) (v:=?_) rfl (by kernel_rfl) (by kernel_rfl) (by kernel_rfl) (by kernel_rfl) (by kernel_rfl) (fun _ _ _ h=>h) (Or.inl ⟨by rfl,?_⟩) (by assumption) ?_;rotate_left;(focus (intro w hSw;(try dsimp only at hSw);(try obtain⟨hSw1,hSw2,hSw3⟩:=hSw);go_simp<;>with_reducible rfl));(try simp only[Act.put,List.getElem_toArray,List.getElem_cons_zero,List.getElem_cons_succ,List.setIfInBounds_toArray,List.set_cons_zero,List.set_cons_succ])
 refine takeE_store (i:=11) (pi:=⟨g,0,none⟩) (v:=.slice (some ⟨gg,0,none⟩) (L.length+1) cap) Tryz.infoToks (by kernel_rfl) rfl rfl rfl rfl (by kernel_rfl) (by kernel_rfl) rfl rfl k3.1 (k3.2.2 0) (.inr rfl) ?_
 refine wpAnyE_done (by kernel_rfl) ?_ _
 show Only _ .normal _ _
 unfold Only
 clear hown3 hgrow hat hownU hS1 hS3 hb1 hbW1 hbU hbWU htkU k3 hV3 hi hz0 hz1 hz2
 go_wp2
 exact bodyPost_end (v:=.tuple #[]) (by simp[results,Tryz.results85,go_sem]) rfl ⟨rfl,HZ.out⟩
theorem jwords_any (g:Nat) (tb:Option Nat) (L:List Tk) (m:Int) (w:World) (h:JwAt w g tb L m) (v:Value) (ts:List (List UInt8)) (hv:StrsW g tb w v ts) (hne : ∀t∈ts,t≠[]) (hL:L.length+ts.length≤1000000000) :
  Calls Tryz.prog 33 #[.pointer (some ⟨g,0,none⟩),v] w fun e w'=>e = .returned (.tuple #[])∧JWrote g tb w w' (L++wordsK ts) m:=by
 have HV:=hid hv
 have HW:=hid h.here
 have HN:=hid hne
 obtain⟨a,c,rfl,hlen,_⟩:=hv
 clear h hne
 go_enter Tryz.func33,Tryz.ntmps33
 go_wp2_with fail
 go_loopw [4] (fun i wr=>∃(k:Nat),k≤ts.length∧i = .int .i64 k∧JWrote g tb w wr (L++wordsK (ts.take k)) m) (fun i _=>ts.length-(intOf i).toNat)
 case atStart=>exact⟨0,Nat.zero_le _,rfl,by simpa [wordsK] using HW.out⟩
 case round =>
  obtain⟨k,hk,rfl,hq⟩:=hrel
  by_cases hlt:k<ts.length
  ·obtain⟨t,ht⟩:∃t,ts[k]?=some t:=⟨_,List.getElem?_eq_getElem hlt⟩
   have hlt':((k:Int)<(ts.length:Int)):=by omega
   obtain⟨tb1,hw1,ht1,hf1⟩:=hq
   obtain⟨a',c',hvv,_,h3⟩:=HV.out.on ht1 hf1
   simp only[Value.slice.injEq] at hvv
   obtain⟨rfl,_,rfl⟩:=hvv
   obtain⟨b,rfl,hbg,hbt,hbl,hcell⟩:=h3 (fun e=>by rw[e] at hlt;simp at hlt)
   have hc:=hcell k t ht
   clear hcell h3
   obtain⟨x,t',rfl⟩:∃x t',t=x::t':=by
    cases t with
    | nil=>exact absurd rfl (HN.out [] (List.mem_of_getElem? ht))
    | cons x t'=>exact⟨x,t',rfl⟩
   have hp0:0<(str8 (x::t')).size:=by rw[str8_size];simp
   have hxv:((str8 (x::t'))[0]'hp0).toNat=x.toNat:=rfl
   have htk:L++wordsK (ts.take k)++[fxT (x::t')]=L++wordsK (ts.take (k+1)):=by
    obtain⟨h1,h2⟩:=List.getElem?_eq_some_iff.1 ht
    rw[List.take_succ_eq_append_getElem h1,h2]
    simp[wordsK]
   have hl:(L++wordsK (ts.take k)).length+1≤1000000000:=by
    simp[wordsK,List.length_take]
    omega
   have HT1:=hid ht1
   have HF1:=hid hf1
   obtain⟨LL,hLL⟩:∃LL,L++wordsK (ts.take k)=LL:=⟨_,rfl⟩
   rw[hLL] at htk hl hw1
   clear hLL
   have hgW:g<wr.heap.size:=hw1.lt
   have HJW:=hid hw1
   obtain⟨lv,hlv,hlo,htb⟩:=id hw1
   obtain⟨la,lb,lc,rfl⟩:∃la lb lc,lv = .slice la lb lc:=by
    rcases hlo.2 with⟨rfl,_⟩ | ⟨_,_,_,rfl,_⟩
    ·exact⟨_,_,_,rfl⟩
    ·exact⟨_,_,_,rfl⟩
   have HGV:=hid hlv
   have HRW:Hid (Row (g+1) wr (.slice la lb lc) LL):=hid hlo
   have HTB:=hid htb
   have HSK:Hid (∀V,Below wr.heap.size wr V→V.cell? ⟨g,0,none⟩=some (.slice la lb lc)∧V.cell? ⟨b,k,none⟩=some (.string (str8 (x::t')))∧True):=hid (fun V hV=>⟨(cells2J ((hV.block g hgW).trans HGV.out)).1,(hV.cell (p:=⟨b,k,none⟩) hbl).trans hc,trivial⟩)
   have HS3:Hid (∀(V U:World),Below wr.heap.size wr U→U.grownBy V (Value.slice la lb lc).ownBlock→V.heap[g]?=some (.cells #[.slice la lb lc,.int .i64 m] 64)→V.cell? ⟨g,0,none⟩=some (.slice la lb lc)∧V.cell? ⟨b,k,none⟩=some (.string (str8 (x::t')))∧True):=hid (fun V U hU hg hV=>⟨(cells2J hV).1,(hg.cell_far ⟨b,k,none⟩ (Nat.lt_of_lt_of_le hbl hU.size) (fun e=>hbt (HTB.out.symm.trans e.symm))).trans (HSK.out U hU).2.1,trivial⟩)
   have hS0:=HSK.out wr.drew (Below.refl _ wr).drew
   by_cases hU:65≤x∧x≤90
   ·have h65:((65:Int)≤(x.toNat:Int)):=by have:=UInt8.le_iff_toNat_le.1 hU.1;simp at this;omega
    have h90:((x.toNat:Int)≤90):=by have:=UInt8.le_iff_toNat_le.1 hU.2;simp at this;omega
    rw[← hxv] at h65 h90
    have hfx:fxT (x::t')=⟨2,x::t',0,0⟩:=if_pos hU
    rw[hfx] at htk
    have HLT:=hid htk
    clear hw1 ht htk hfx ht1 hf1 hU hxv hlv hlo htb
    go_wp2_with fail
    refine last_region (fun V:World=>V.cell? ⟨g,0,none⟩=some (.slice la lb lc)∧V.cell? ⟨b,k,none⟩=some (.string (str8 (x::t')))∧True) 14 (by kernel_rfl) ?_
    refine wpAnyE_take (i:=0) (v:=?_) rfl (by kernel_rfl) (by kernel_rfl) (by kernel_rfl) (by kernel_rfl) (by kernel_rfl) (fun _ _ _ h=>h) (Or.inl ⟨by rfl,?_⟩) (by assumption) ?_;rotate_left;(focus (intro w hSw;(try dsimp only at hSw);(try obtain⟨hSw1,hSw2,hSw3⟩:=hSw);go_simp<;>with_reducible rfl));(try simp only[Act.put,List.getElem_toArray,List.getElem_cons_zero,List.getElem_cons_succ,List.setIfInBounds_toArray,List.set_cons_zero,List.set_cons_succ])
    refine wpAnyE_take (i:=1) (v:=?_) rfl (by kernel_rfl) (by kernel_rfl) (by kernel_rfl) (by kernel_rfl) (by kernel_rfl) (fun _ _ _ h=>h) (Or.inl ⟨by rfl,?_⟩) (by assumption) ?_;rotate_left;(focus (intro w hSw;(try dsimp only at hSw);(try obtain⟨hSw1,hSw2,hSw3⟩:=hSw);go_simp<;>with_reducible rfl));(try simp only[Act.put,List.getElem_toArray,List.getElem_cons_zero,List.getElem_cons_succ,List.setIfInBounds_toArray,List.set_cons_zero,List.set_cons_succ])
    refine wpAnyE_take (i:=2) (v:=?_) rfl (by kernel_rfl) (by kernel_rfl) (by kernel_rfl) (by kernel_rfl) (by kernel_rfl) (fun _ _ _ h=>h) (Or.inl ⟨by rfl,?_⟩) (by assumption) ?_;rotate_left;(focus (intro w hSw;(try dsimp only at hSw);(try obtain⟨hSw1,hSw2,hSw3⟩:=hSw);go_simp<;>with_reducible rfl));(try simp only[Act.put,List.getElem_toArray,List.getElem_cons_zero,List.getElem_cons_succ,List.setIfInBounds_toArray,List.set_cons_zero,List.set_cons_succ])
    refine wpAnyE_take (i:=3) (v:=?_) rfl (by kernel_rfl) (by kernel_rfl) (by kernel_rfl) (by kernel_rfl) (by kernel_rfl) (fun _ _ _ h=>h) (Or.inl ⟨by rfl,?_⟩) (by assumption) ?_;rotate_left;(focus (intro w hSw;(try dsimp only at hSw);(try obtain⟨hSw1,hSw2,hSw3⟩:=hSw);go_simp<;>with_reducible rfl));(try simp only[Act.put,List.getElem_toArray,List.getElem_cons_zero,List.getElem_cons_succ,List.setIfInBounds_toArray,List.set_cons_zero,List.set_cons_succ])
    refine wpAnyE_take (i:=4) (v:=?_) rfl (by kernel_rfl) (by kernel_rfl) (by kernel_rfl) (by kernel_rfl) (by kernel_rfl) (fun _ _ _ h=>h) (Or.inl ⟨by rfl,?_⟩) (by assumption) ?_;rotate_left;(focus (intro w hSw;(try dsimp only at hSw);(try obtain⟨hSw1,hSw2,hSw3⟩:=hSw);go_simp<;>with_reducible rfl));(try simp only[Act.put,List.getElem_toArray,List.getElem_cons_zero,List.getElem_cons_succ,List.setIfInBounds_toArray,List.set_cons_zero,List.set_cons_succ])
    refine wpAnyE_take (i:=5) (v:=?_) rfl (by kernel_rfl) (by kernel_rfl) (by kernel_rfl) (by kernel_rfl) (by kernel_rfl) (fun _ _ _ h=>h) (Or.inl ⟨by rfl,?_⟩) (by assumption) ?_;rotate_left;(focus (intro w hSw;(try dsimp only at hSw);(try obtain⟨hSw1,hSw2,hSw3⟩:=hSw);go_simp<;>with_reducible rfl));(try simp only[Act.put,List.getElem_toArray,List.getElem_cons_zero,List.getElem_cons_succ,List.setIfInBounds_toArray,List.set_cons_zero,List.set_cons_succ])
    refine wpAnyE_take (i:=6) (v:=?_) rfl (by kernel_rfl) (by kernel_rfl) (by kernel_rfl) (by kernel_rfl) (by kernel_rfl) (fun _ _ _ h=>h) (Or.inl ⟨by rfl,?_⟩) (by assumption) ?_;rotate_left;(focus (intro w hSw;(try dsimp only at hSw);(try obtain⟨hSw1,hSw2,hSw3⟩:=hSw);go_simp<;>with_reducible rfl));(try simp only[Act.put,List.getElem_toArray,List.getElem_cons_zero,List.getElem_cons_succ,List.setIfInBounds_toArray,List.set_cons_zero,List.set_cons_succ])
    refine wpAnyE_take (i:=7) (v:=?_) rfl (by kernel_rfl) (by kernel_rfl) (by kernel_rfl) (by kernel_rfl) (by kernel_rfl) (fun _ _ _ h=>h) (Or.inl ⟨by rfl,?_⟩) (by assumption) ?_;rotate_left;(focus (intro w hSw;(try dsimp only at hSw);(try obtain⟨hSw1,hSw2,hSw3⟩:=hSw);go_simp<;>with_reducible rfl));(try simp only[Act.put,List.getElem_toArray,List.getElem_cons_zero,List.getElem_cons_succ,List.setIfInBounds_toArray,List.set_cons_zero,List.set_cons_succ])
    refine wpAnyE_take (i:=8) (v:=?_) rfl (by kernel_rfl) (by kernel_rfl) (by kernel_rfl) (by kernel_rfl) (by kernel_rfl) (fun _ _ _ h=>h) (Or.inl ⟨by rfl,?_⟩) (by assumption) ?_;rotate_left;(focus (intro w hSw;(try dsimp only at hSw);(try obtain⟨hSw1,hSw2,hSw3⟩:=hSw);go_simp<;>with_reducible rfl));(try simp only[Act.put,List.getElem_toArray,List.getElem_cons_zero,List.getElem_cons_succ,List.setIfInBounds_toArray,List.set_cons_zero,List.set_cons_succ])
    refine takeE_call (i:=9) #[.string (str8 (x::t'))] (fun v w'=>v = .agg #[.int .i64 2,.string (str8 (x::t')),.int .i64 0,.int .i64 0]∧Below wr.drew.heap.size wr.drew w') (by kernel_rfl) rfl rfl rfl (by kernel_rfl) (enters_of Tryz.func83 (by kernel_rfl) rfl) ((jword_any (str8 (x::t')) wr.drew).mono fun e w' ⟨h1,h2⟩=>⟨_,h1,rfl,h2⟩) ?_
    rintro _ W1 ⟨rfl,hb1⟩
    have hbW1:Below wr.heap.size wr W1:=(Below.refl _ wr).drew.trans hb1
    have hS1:=HSK.out W1 hbW1
    refine ⟨hS1,?_⟩
    simp only[Act.put,List.getElem_toArray,List.getElem_cons_zero,List.getElem_cons_succ,List.setIfInBounds_toArray,List.set_cons_zero,List.set_cons_succ]
    obtain⟨U,hU,hbU,hzU,_,htkU⟩:=new_toks W1 [(⟨2,x::t',0,0⟩:Tk)] #[.int .i64 2,.string (str8 (x::t')),.int .i64 0,.int .i64 0] (by rfl) (by simp)
    have hbWU:Below wr.heap.size wr U:=hbW1.trans (hbU.mono hbW1.size)
    obtain⟨i0,hi,hz0,hz1,hz2⟩:=info_parts Tryz.infoTok
    refine takeE_slice (i:=10) #[.int .i64 2,.string (str8 (x::t')),.int .i64 0,.int .i64 0] i0 _ (by kernel_rfl) rfl rfl rfl (by kernel_rfl) Tryz.underlying55 hi hz0 (by rw[hz1];rfl) (by show 4≤2 ^ 24;decide) (by show 0<4;decide) (by rw[hU];exact HSK.out U hbWU) ?_
    simp only[Act.put,List.getElem_toArray,List.getElem_cons_zero,List.getElem_cons_succ,List.setIfInBounds_toArray,List.set_cons_zero,List.set_cons_succ]
    rw[hU]
    have hownU:U.ownsRow (g+1) 119 4 (.slice la lb lc) LL.length (tcs LL):=HRW.out.on hbWU
    have hgU:g+1≤U.heap.size:=by have:=hbWU.size;omega
    refine takeE_append (i:=11) (s:=.tmp 29) (x:=.tmp 35) (t:=55) (by kernel_rfl) rfl rfl rfl (g+1) 119 i0 _ 4 40 Tryz.underlying55 hi hz0 hz1 hz2 rfl (by decide) (.slice la lb lc) LL.length (tcs LL) (by kernel_rfl) hownU ⟨W1.heap.size,0,none⟩ 1 1 (tcs [(⟨2,x::t',0,0⟩:Tk)]) (by kernel_rfl) (by rw[tcs_length];rfl) htkU (tcs_one _) (by decide) (by unfold maxLen;omega) (by omega) hgU ?_
    intro gg cap W3 hown3 hgrow hat hgl3
    have hV3:W3.heap[g]?=some (.cells #[.slice la lb lc,.int .i64 m] 64):=(hgrow.block g (by omega) (fun e=>by have:=(hownU.lt g e.symm).1;omega)).trans ((hbWU.block g hgW).trans HGV.out)
    have k3:=cells2J hV3
    have hS3:(fun V:World=>V.cell? ⟨g,0,none⟩=some (.slice la lb lc)∧V.cell? ⟨b,k,none⟩=some (.string (str8 (x::t')))∧True) W3:=HS3.out W3 U hbWU hgrow hV3
    have HZ:Hid (JWrote g tb1 wr (W3.setCell ⟨g,0,none⟩ (.slice (some ⟨gg,0,none⟩) (LL.length+1) cap)) (LL++[(⟨2,x::t',0,0⟩:Tk)]) m):=hid (jw_set0 HJW.out hV3 (by
     show W3.ownsRow (g+1) 119 4 _ (LL++[(⟨2,x::t',0,0⟩:Tk)]).length (tcs (LL++[(⟨2,x::t',0,0⟩:Tk)]))
     rw[List.length_append,tcs_app]
     exact hown3) ((Spares.of_new hbWU).then (Spares.of_grown hgrow (fun k hk=>.inr (HTB.out ▸ hk)))) (by
     rcases hat with e | e
     ·exact .inl (e.symm.trans HTB.out)
     ·exact .inr ⟨gg,rfl,by rw[e];exact hbWU.size⟩))
    refine ⟨hS3,?_⟩
    simp only[Act.put,List.getElem_toArray,List.getElem_cons_zero,List.getElem_cons_succ,List.setIfInBounds_toArray,List.set_cons_zero,List.set_cons_succ]
    refine wpAnyE_take (i:=12) (v:=?_) rfl (by kernel_rfl) (by kernel_rfl) (by kernel_rfl) (by kernel_rfl) (by kernel_rfl) (fun _ _ _ h=>h) (Or.inl ⟨by rfl,?_⟩) (by assumption) ?_;rotate_left;(focus (intro w hSw;(try dsimp only at hSw);(try obtain⟨hSw1,hSw2,hSw3⟩:=hSw);go_simp<;>with_reducible rfl));(try simp only[Act.put,List.getElem_toArray,List.getElem_cons_zero,List.getElem_cons_succ,List.setIfInBounds_toArray,List.set_cons_zero,List.set_cons_succ])
    refine wpAnyE_take (i:=13) (v:=?_) rfl (by kernel_rfl) (by kernel_rfl) (by kernel_rfl) (by kernel_rfl) (by kernel_rfl) (fun _ _ _ h=>h) (Or.inl ⟨by rfl,?_⟩) (by assumption) ?_;rotate_left;(focus (intro w hSw;(try dsimp only at hSw);(try obtain⟨hSw1,hSw2,hSw3⟩:=hSw);go_simp<;>with_reducible rfl));(try simp only[Act.put,List.getElem_toArray,List.getElem_cons_zero,List.getElem_cons_succ,List.setIfInBounds_toArray,List.set_cons_zero,List.set_cons_succ])
    refine takeE_store (i:=14) (pi:=⟨g,0,none⟩) (v:=.slice (some ⟨gg,0,none⟩) (LL.length+1) cap) Tryz.infoToks (by kernel_rfl) rfl rfl rfl rfl (by kernel_rfl) (by kernel_rfl) rfl rfl k3.1 (k3.2.2 0) (.inr rfl) ?_
    refine wpAnyE_done (by kernel_rfl) ?_ _
    show Only _ .normal _ _
    unfold Only
    clear hown3 hgrow hat hownU hS1 hS3 hb1 hbW1 hbU hbWU htkU k3 hV3 hi hz0 hz1 hz2
    have HQ:=hid (JWrote.then HT1.out HF1.out HZ.out)
    rw[HLT.out] at HQ
    generalize W3.setCell ⟨g,0,none⟩ (.slice (some ⟨gg,0,none⟩) (LL.length+1) cap)=W4 at HQ ⊢
    clear HZ
    go_wp2
    go_roundw
    case rel=>exact⟨k+1,by omega,by go_num,HQ.out⟩
    case measure=>simp[intOf];omega
   ·have hfx:fxT (x::t')=⟨5,x::t',0,0⟩:=if_neg hU
    rw[hfx] at htk
    have HLT:=hid htk
    have hU' : ¬((65:Int)≤(x.toNat:Int))∨((65:Int)≤(x.toNat:Int)∧¬((x.toNat:Int)≤90)):=by
     by_cases h1:(65:Int)≤(x.toNat:Int)
     ·refine .inr ⟨h1,fun h2=>hU ⟨UInt8.le_iff_toNat_le.2 ?_,UInt8.le_iff_toNat_le.2 ?_⟩⟩
      ·simp;omega
      ·simp;omega
     ·exact .inl h1
    rw[← hxv] at hU'
    clear hw1 ht htk hfx ht1 hf1 hU hxv hlv hlo htb
    rcases hU' with h65 | ⟨h65,h90⟩
    all_goals
     go_wp2_with fail
     refine last_region (fun V:World=>V.cell? ⟨g,0,none⟩=some (.slice la lb lc)∧V.cell? ⟨b,k,none⟩=some (.string (str8 (x::t')))∧True) 14 (by kernel_rfl) ?_
     refine wpAnyE_take (i:=0) (v:=?_) rfl (by kernel_rfl) (by kernel_rfl) (by kernel_rfl) (by kernel_rfl) (by kernel_rfl) (fun _ _ _ h=>h) (Or.inl ⟨by rfl,?_⟩) (by assumption) ?_;rotate_left;(focus (intro w hSw;(try dsimp only at hSw);(try obtain⟨hSw1,hSw2,hSw3⟩:=hSw);go_simp<;>with_reducible rfl));(try simp only[Act.put,List.getElem_toArray,List.getElem_cons_zero,List.getElem_cons_succ,List.setIfInBounds_toArray,List.set_cons_zero,List.set_cons_succ])
     refine wpAnyE_take (i:=1) (v:=?_) rfl (by kernel_rfl) (by kernel_rfl) (by kernel_rfl) (by kernel_rfl) (by kernel_rfl) (fun _ _ _ h=>h) (Or.inl ⟨by rfl,?_⟩) (by assumption) ?_;rotate_left;(focus (intro w hSw;(try dsimp only at hSw);(try obtain⟨hSw1,hSw2,hSw3⟩:=hSw);go_simp<;>with_reducible rfl));(try simp only[Act.put,List.getElem_toArray,List.getElem_cons_zero,List.getElem_cons_succ,List.setIfInBounds_toArray,List.set_cons_zero,List.set_cons_succ])
     refine wpAnyE_take (i:=2) (v:=?_) rfl (by kernel_rfl) (by kernel_rfl) (by kernel_rfl) (by kernel_rfl) (by kernel_rfl) (fun _ _ _ h=>h) (Or.inl ⟨by rfl,?_⟩) (by assumption) ?_;rotate_left;(focus (intro w hSw;(try dsimp only at hSw);(try obtain⟨hSw1,hSw2,hSw3⟩:=hSw);go_simp<;>with_reducible rfl));(try simp only[Act.put,List.getElem_toArray,List.getElem_cons_zero,List.getElem_cons_succ,List.setIfInBounds_toArray,List.set_cons_zero,List.set_cons_succ])
     refine wpAnyE_take (i:=3) (v:=?_) rfl (by kernel_rfl) (by kernel_rfl) (by kernel_rfl) (by kernel_rfl) (by kernel_rfl) (fun _ _ _ h=>h) (Or.inl ⟨by rfl,?_⟩) (by assumption) ?_;rotate_left;(focus (intro w hSw;(try dsimp only at hSw);(try obtain⟨hSw1,hSw2,hSw3⟩:=hSw);go_simp<;>with_reducible rfl));(try simp only[Act.put,List.getElem_toArray,List.getElem_cons_zero,List.getElem_cons_succ,List.setIfInBounds_toArray,List.set_cons_zero,List.set_cons_succ])
     refine wpAnyE_take (i:=4) (v:=?_) rfl (by kernel_rfl) (by kernel_rfl) (by kernel_rfl) (by kernel_rfl) (by kernel_rfl) (fun _ _ _ h=>h) (Or.inl ⟨by rfl,?_⟩) (by assumption) ?_;rotate_left;(focus (intro w hSw;(try dsimp only at hSw);(try obtain⟨hSw1,hSw2,hSw3⟩:=hSw);go_simp<;>with_reducible rfl));(try simp only[Act.put,List.getElem_toArray,List.getElem_cons_zero,List.getElem_cons_succ,List.setIfInBounds_toArray,List.set_cons_zero,List.set_cons_succ])
     refine wpAnyE_take (i:=5) (v:=?_) rfl (by kernel_rfl) (by kernel_rfl) (by kernel_rfl) (by kernel_rfl) (by kernel_rfl) (fun _ _ _ h=>h) (Or.inl ⟨by rfl,?_⟩) (by assumption) ?_;rotate_left;(focus (intro w hSw;(try dsimp only at hSw);(try obtain⟨hSw1,hSw2,hSw3⟩:=hSw);go_simp<;>with_reducible rfl));(try simp only[Act.put,List.getElem_toArray,List.getElem_cons_zero,List.getElem_cons_succ,List.setIfInBounds_toArray,List.set_cons_zero,List.set_cons_succ])
     refine wpAnyE_take (i:=6) (v:=?_) rfl (by kernel_rfl) (by kernel_rfl) (by kernel_rfl) (by kernel_rfl) (by kernel_rfl) (fun _ _ _ h=>h) (Or.inl ⟨by rfl,?_⟩) (by assumption) ?_;rotate_left;(focus (intro w hSw;(try dsimp only at hSw);(try obtain⟨hSw1,hSw2,hSw3⟩:=hSw);go_simp<;>with_reducible rfl));(try simp only[Act.put,List.getElem_toArray,List.getElem_cons_zero,List.getElem_cons_succ,List.setIfInBounds_toArray,List.set_cons_zero,List.set_cons_succ])
     refine wpAnyE_take (i:=7) (v:=?_) rfl (by kernel_rfl) (by kernel_rfl) (by kernel_rfl) (by kernel_rfl) (by kernel_rfl) (fun _ _ _ h=>h) (Or.inl ⟨by rfl,?_⟩) (by assumption) ?_;rotate_left;(focus (intro w hSw;(try dsimp only at hSw);(try obtain⟨hSw1,hSw2,hSw3⟩:=hSw);go_simp<;>with_reducible rfl));(try simp only[Act.put,List.getElem_toArray,List.getElem_cons_zero,List.getElem_cons_succ,List.setIfInBounds_toArray,List.set_cons_zero,List.set_cons_succ])
     refine wpAnyE_take (i:=8) (v:=?_) rfl (by kernel_rfl) (by kernel_rfl) (by kernel_rfl) (by kernel_rfl) (by kernel_rfl) (fun _ _ _ h=>h) (Or.inl ⟨by rfl,?_⟩) (by assumption) ?_;rotate_left;(focus (intro w hSw;(try dsimp only at hSw);(try obtain⟨hSw1,hSw2,hSw3⟩:=hSw);go_simp<;>with_reducible rfl));(try simp only[Act.put,List.getElem_toArray,List.getElem_cons_zero,List.getElem_cons_succ,List.setIfInBounds_toArray,List.set_cons_zero,List.set_cons_succ])
     refine takeE_call (i:=9) #[.string (str8 (x::t'))] (fun v w'=>v = .agg #[.int .i64 5,.string (str8 (x::t')),.int .i64 0,.int .i64 0]∧Below wr.drew.heap.size wr.drew w') (by kernel_rfl) rfl rfl rfl (by kernel_rfl) (enters_of Tryz.func84 (by kernel_rfl) rfl) ((jsign_any (str8 (x::t')) wr.drew).mono fun e w' ⟨h1,h2⟩=>⟨_,h1,rfl,h2⟩) ?_
     rintro _ W1 ⟨rfl,hb1⟩
     have hbW1:Below wr.heap.size wr W1:=(Below.refl _ wr).drew.trans hb1
     have hS1:=HSK.out W1 hbW1
     refine ⟨hS1,?_⟩
     simp only[Act.put,List.getElem_toArray,List.getElem_cons_zero,List.getElem_cons_succ,List.setIfInBounds_toArray,List.set_cons_zero,List.set_cons_succ]
     obtain⟨U,hU,hbU,hzU,_,htkU⟩:=new_toks W1 [(⟨5,x::t',0,0⟩:Tk)] #[.int .i64 5,.string (str8 (x::t')),.int .i64 0,.int .i64 0] (by rfl) (by simp)
     have hbWU:Below wr.heap.size wr U:=hbW1.trans (hbU.mono hbW1.size)
     obtain⟨i0,hi,hz0,hz1,hz2⟩:=info_parts Tryz.infoTok
     refine takeE_slice (i:=10) #[.int .i64 5,.string (str8 (x::t')),.int .i64 0,.int .i64 0] i0 _ (by kernel_rfl) rfl rfl rfl (by kernel_rfl) Tryz.underlying55 hi hz0 (by rw[hz1];rfl) (by show 4≤2 ^ 24;decide) (by show 0<4;decide) (by rw[hU];exact HSK.out U hbWU) ?_
     simp only[Act.put,List.getElem_toArray,List.getElem_cons_zero,List.getElem_cons_succ,List.setIfInBounds_toArray,List.set_cons_zero,List.set_cons_succ]
     rw[hU]
     have hownU:U.ownsRow (g+1) 119 4 (.slice la lb lc) LL.length (tcs LL):=HRW.out.on hbWU
     have hgU:g+1≤U.heap.size:=by have:=hbWU.size;omega
     refine takeE_append (i:=11) (s:=.tmp 43) (x:=.tmp 49) (t:=55) (by kernel_rfl) rfl rfl rfl (g+1) 119 i0 _ 4 40 Tryz.underlying55 hi hz0 hz1 hz2 rfl (by decide) (.slice la lb lc) LL.length (tcs LL) (by kernel_rfl) hownU ⟨W1.heap.size,0,none⟩ 1 1 (tcs [(⟨5,x::t',0,0⟩:Tk)]) (by kernel_rfl) (by rw[tcs_length];rfl) htkU (tcs_one _) (by decide) (by unfold maxLen;omega) (by omega) hgU ?_
     intro gg cap W3 hown3 hgrow hat hgl3
     have hV3:W3.heap[g]?=some (.cells #[.slice la lb lc,.int .i64 m] 64):=(hgrow.block g (by omega) (fun e=>by have:=(hownU.lt g e.symm).1;omega)).trans ((hbWU.block g hgW).trans HGV.out)
     have k3:=cells2J hV3
     have hS3:(fun V:World=>V.cell? ⟨g,0,none⟩=some (.slice la lb lc)∧V.cell? ⟨b,k,none⟩=some (.string (str8 (x::t')))∧True) W3:=HS3.out W3 U hbWU hgrow hV3
     have HZ:Hid (JWrote g tb1 wr (W3.setCell ⟨g,0,none⟩ (.slice (some ⟨gg,0,none⟩) (LL.length+1) cap)) (LL++[(⟨5,x::t',0,0⟩:Tk)]) m):=hid (jw_set0 HJW.out hV3 (by
      show W3.ownsRow (g+1) 119 4 _ (LL++[(⟨5,x::t',0,0⟩:Tk)]).length (tcs (LL++[(⟨5,x::t',0,0⟩:Tk)]))
      rw[List.length_append,tcs_app]
      exact hown3) ((Spares.of_new hbWU).then (Spares.of_grown hgrow (fun k hk=>.inr (HTB.out ▸ hk)))) (by
      rcases hat with e | e
      ·exact .inl (e.symm.trans HTB.out)
      ·exact .inr ⟨gg,rfl,by rw[e];exact hbWU.size⟩))
     refine ⟨hS3,?_⟩
     simp only[Act.put,List.getElem_toArray,List.getElem_cons_zero,List.getElem_cons_succ,List.setIfInBounds_toArray,List.set_cons_zero,List.set_cons_succ]
     refine wpAnyE_take (i:=12) (v:=?_) rfl (by kernel_rfl) (by kernel_rfl) (by kernel_rfl) (by kernel_rfl) (by kernel_rfl) (fun _ _ _ h=>h) (Or.inl ⟨by rfl,?_⟩) (by assumption) ?_;rotate_left;(focus (intro w hSw;(try dsimp only at hSw);(try obtain⟨hSw1,hSw2,hSw3⟩:=hSw);go_simp<;>with_reducible rfl));(try simp only[Act.put,List.getElem_toArray,List.getElem_cons_zero,List.getElem_cons_succ,List.setIfInBounds_toArray,List.set_cons_zero,List.set_cons_succ])
     refine wpAnyE_take (i:=13) (v:=?_) rfl (by kernel_rfl) (by kernel_rfl) (by kernel_rfl) (by kernel_rfl) (by kernel_rfl) (fun _ _ _ h=>h) (Or.inl ⟨by rfl,?_⟩) (by assumption) ?_;rotate_left;(focus (intro w hSw;(try dsimp only at hSw);(try obtain⟨hSw1,hSw2,hSw3⟩:=hSw);go_simp<;>with_reducible rfl));(try simp only[Act.put,List.getElem_toArray,List.getElem_cons_zero,List.getElem_cons_succ,List.setIfInBounds_toArray,List.set_cons_zero,List.set_cons_succ])
     refine takeE_store (i:=14) (pi:=⟨g,0,none⟩) (v:=.slice (some ⟨gg,0,none⟩) (LL.length+1) cap) Tryz.infoToks (by kernel_rfl) rfl rfl rfl rfl (by kernel_rfl) (by kernel_rfl) rfl rfl k3.1 (k3.2.2 0) (.inr rfl) ?_
     refine wpAnyE_done (by kernel_rfl) ?_ _
     show Only _ .normal _ _
     unfold Only
     clear hown3 hgrow hat hownU hS1 hS3 hb1 hbW1 hbU hbWU htkU k3 hV3 hi hz0 hz1 hz2
     have HQ:=hid (JWrote.then HT1.out HF1.out HZ.out)
     rw[HLT.out] at HQ
     generalize W3.setCell ⟨g,0,none⟩ (.slice (some ⟨gg,0,none⟩) (LL.length+1) cap)=W4 at HQ ⊢
     clear HZ
     go_wp2
     go_roundw
     case rel=>exact⟨k+1,by omega,by go_num,HQ.out⟩
     case measure=>simp[intOf];omega
  ·have hlt' : ¬((k:Int)<(ts.length:Int)):=by omega
   have HQ:Hid (JWrote g tb w wr (L++wordsK ts) m):=hid (by rw[List.take_of_length_le (by omega)] at hq;exact hq)
   clear hq
   go_wp2
   exact bodyPost_end (v:=.tuple #[]) (by simp[results,Tryz.results33,go_sem]) rfl ⟨rfl,HQ.out⟩
theorem jwords_new (g:Nat) (tb:Option Nat) (L:List Tk) (m:Int) (ts:List (List UInt8)) (w:World) (h:JwAt w g tb L m) (hl:ts.length≤1000) (hne : ∀t∈ts,t≠[]) (hL:L.length+ts.length≤1000000000) :
  Calls Tryz.prog 33 #[.pointer (some ⟨g,0,none⟩),.slice (some ⟨w.heap.size,0,none⟩) ts.length ts.length] (w.alloc (.cells (ts.map fun t=>Value.string (str8 t)).toArray 9)) fun e w'=>e = .returned (.tuple #[])∧JWrote g tb w w' (L++wordsK ts) m:=by
 have hb:Below w.heap.size w (w.alloc (.cells (ts.map fun t=>Value.string (str8 t)).toArray 9)):=(Below.refl _ _).alloc (Nat.le_refl _) _
 refine (jwords_any g tb L m _ (h.below hb) _ ts ⟨_,_,rfl,hl,fun _=>⟨_,rfl,by have:=h.lt;omega,fun e=>by have:=(h.tbs _ e).2;omega,by simp,fun j t ht=>?_⟩⟩ hne hL).mono ?_
 ·rw[cell_of_row _ _ _ _ _ _ (heap_alloc_new w _)]
  simp[ht]
 ·rintro e w' ⟨rfl,h1⟩
  exact⟨rfl,h1.new hb⟩
end Go.Proofs.YtnidnipiihhnaaaGreatDoor
