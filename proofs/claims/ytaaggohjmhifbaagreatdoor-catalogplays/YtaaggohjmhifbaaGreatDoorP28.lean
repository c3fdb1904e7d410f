/- Packed for the hand-in: PStm -/
import Derived.Test.YtaaggohjmhifbaaGreatDoorP27
import Derived.Deep.Cut
namespace Go.Proofs.YtaaggohjmhifbaaGreatDoor
open Go.RowKit Go.Shelf
set_option linter.unusedSimpArgs false
set_option linter.unusedVariables false
set_option maxRecDepth 20000
set_option maxHeartbeats 8000000
def StB (w:World) (sb:Nat) (x:St):Prop:=∃cs:List Value,w.heap[sb]?=some (.cells cs.toArray 28)∧StE (fun b=>sb<b) w x cs
theorem StB.lt {w:World} {sb:Nat} {x:St} (h:StB w sb x):sb<w.heap.size:=by
 obtain⟨cs,h1,_⟩:=h
 exact (Array.getElem?_eq_some_iff.1 h1).1
theorem StB.keeps {R:Nat→Prop} {w w':World} {sb:Nat} {x:St} (h:StB w sb x) (hk:Spares R w w') (hR : ∀b,sb≤b→b<w.heap.size→¬R b):StB w' sb x:=by
 have hlt:=h.lt
 obtain⟨cs,h1,h2⟩:=h
 exact⟨cs,by rw[hk.block sb hlt (hR sb (Nat.le_refl _) hlt)];exact h1,h2.to hk (fun b hb hl=>⟨hR b (Nat.le_of_lt hb) hl,hb⟩)⟩
theorem StB.frozen {w:World} {sb:Nat} {x:St} (h:StB w sb x):∀i,w.frozen? ⟨sb,i,none⟩=false:=by
 obtain⟨cs,h1,_⟩:=h
 exact fun i=>by simp[World.frozen?,h1]
theorem StB.at {w:World} {sb:Nat} {x:St} (h:StB w sb x) (i:Nat) (hi:i<14):∃u,w.cell? ⟨sb,i,none⟩=some u:=by
 obtain⟨cs,h1,a1,a2,a3,a4,a5,a6,a7,a8,m1,m2,m3,m4,m5,m6,m7,m8,c1,c2,c3,c4,c5,c6,c7,c8,rfl,_⟩:=h
 rw[cell_of_row _ _ _ _ _ _ h1]
 exact⟨_,Array.getElem?_eq_getElem (by simpa using hi)⟩
abbrev Fr2 (g sb:Nat) (w w':World):Prop:=Spares (fun k=>k=g∨k=sb) w w'
theorem Spares.then2 {g sb:Nat} {a b c:World} (h:Fr2 g sb a b) (k:Fr g b c):Fr2 g sb a c:=h.andThen k (fun _ hi=>.inl (.inl hi))
theorem Spares.put2 {g sb:Nat} {a b c:World} (h:Fr2 g sb a b) (k:Spares (fun k=>k=sb) b c):Fr2 g sb a c:=h.andThen k (fun _ hi=>.inl (.inr hi))
theorem Spares.new2 {g sb:Nat} {a b c:World} (h:Fr2 g sb a b) (k:Below b.heap.size b c):Fr2 g sb a c:=h.andThen (Spares.of_new (S:=fun k=>k=g∨k=sb) k) (fun _ hi=>.inl hi)
def DG (F:Nat) (r:Rd):Prop:=Good F r∧D0 r
theorem DG.after {F:Nat} {α:Type} {p:Pa α} {r:Rd} (h:DG F r) (hp:Nice false F p):DG F (p r).2:=⟨(hp.fine r trivial h.1).1,h.2.after hp h.1⟩
theorem DG.next {F:Nat} {r:Rd} (h:DG F r) {t:List UInt8} (hi:isR t r=true):DG F (nextR r):=⟨h.1.next (is_ok hi) (kind6 hi),h.2⟩
theorem StB.set_k {w:World} {sb:Nat} {x:St} (h:StB w sb x) (n:Int):∃V,w.setCell ⟨sb,0,none⟩ (.int .i64 n)=V∧StB V sb { x with k:=n }∧Spares (fun k=>k=sb) w V∧V.cell? ⟨sb,0,none⟩=some (.int .i64 n):=by
 obtain⟨cs,hh,a1,a2,a3,a4,a5,a6,a7,a8,m1,m2,m3,m4,m5,m6,m7,m8,c1,c2,c3,c4,c5,c6,c7,c8,rfl,h1,h2,h3,h4,h5,h6,h7,h8⟩:=h
 obtain⟨V,hV,hc,hs⟩:=boxset hh 0 (.int .i64 n)
 have hq : ∀b,sb<b→b<w.heap.size→¬b=sb∧sb<b:=fun b hb _=>⟨by omega,hb⟩
 exact⟨V,hV,⟨_,hc,a1,a2,a3,a4,a5,a6,a7,a8,m1,m2,m3,m4,m5,m6,m7,m8,c1,c2,c3,c4,c5,c6,c7,c8,rfl,h1.to (by decide) hs hq (fun _ _ e=>e),h2.to (by decide) hs hq (fun _ _ e=>e.to hs hq),h3.to (by decide) hs hq (fun _ _ e=>e.to hs hq),h4.to (by decide) hs hq (fun _ _ e=>e.to hs hq),h5.to hs hq,h6.to hs hq,h7.to hs hq,h8.to hs hq⟩,hs,by rw[cell_of_row _ _ _ _ _ _ hc];rfl⟩
theorem StB.set_tb {w:World} {sb:Nat} {x:St} (h:StB w sb x) (n:List UInt8):∃V,w.setCell ⟨sb,1,none⟩ (.string (str8 n))=V∧StB V sb { x with tb:=n }∧Spares (fun k=>k=sb) w V∧V.cell? ⟨sb,1,none⟩=some (.string (str8 n)):=by
 obtain⟨cs,hh,a1,a2,a3,a4,a5,a6,a7,a8,m1,m2,m3,m4,m5,m6,m7,m8,c1,c2,c3,c4,c5,c6,c7,c8,rfl,h1,h2,h3,h4,h5,h6,h7,h8⟩:=h
 obtain⟨V,hV,hc,hs⟩:=boxset hh 1 (.string (str8 n))
 have hq : ∀b,sb<b→b<w.heap.size→¬b=sb∧sb<b:=fun b hb _=>⟨by omega,hb⟩
 exact⟨V,hV,⟨_,hc,a1,a2,a3,a4,a5,a6,a7,a8,m1,m2,m3,m4,m5,m6,m7,m8,c1,c2,c3,c4,c5,c6,c7,c8,rfl,h1.to (by decide) hs hq (fun _ _ e=>e),h2.to (by decide) hs hq (fun _ _ e=>e.to hs hq),h3.to (by decide) hs hq (fun _ _ e=>e.to hs hq),h4.to (by decide) hs hq (fun _ _ e=>e.to hs hq),h5.to hs hq,h6.to hs hq,h7.to hs hq,h8.to hs hq⟩,hs,by rw[cell_of_row _ _ _ _ _ _ hc];rfl⟩
theorem StB.set_cols {w:World} {sb:Nat} {x:St} (h:StB w sb x) (n:List Co) {aa:Option Addr} {nn cc:Nat} (hn:SlAt 4 ColE (fun b=>sb<b) w n (.slice aa nn cc)):∃V,w.setCell ⟨sb,2,none⟩ (.slice aa nn cc)=V∧StB V sb { x with cols:=n }∧Spares (fun k=>k=sb) w V∧V.cell? ⟨sb,2,none⟩=some (.slice aa nn cc):=by
 obtain⟨cs,hh,a1,a2,a3,a4,a5,a6,a7,a8,m1,m2,m3,m4,m5,m6,m7,m8,c1,c2,c3,c4,c5,c6,c7,c8,rfl,h1,h2,h3,h4,h5,h6,h7,h8⟩:=h
 obtain⟨V,hV,hc,hs⟩:=boxset hh 2 (.slice aa nn cc)
 have hq : ∀b,sb<b→b<w.heap.size→¬b=sb∧sb<b:=fun b hb _=>⟨by omega,hb⟩
 exact⟨V,hV,⟨_,hc,aa,a2,a3,a4,a5,a6,a7,a8,nn,m2,m3,m4,m5,m6,m7,m8,cc,c2,c3,c4,c5,c6,c7,c8,rfl,hn.to (by decide) hs hq (fun _ _ e=>e),h2.to (by decide) hs hq (fun _ _ e=>e.to hs hq),h3.to (by decide) hs hq (fun _ _ e=>e.to hs hq),h4.to (by decide) hs hq (fun _ _ e=>e.to hs hq),h5.to hs hq,h6.to hs hq,h7.to hs hq,h8.to hs hq⟩,hs,by rw[cell_of_row _ _ _ _ _ _ hc];rfl⟩
theorem StB.set_prim {w:World} {sb:Nat} {x:St} (h:StB w sb x) (n:List UInt8):∃V,w.setCell ⟨sb,3,none⟩ (.string (str8 n))=V∧StB V sb { x with prim:=n }∧Spares (fun k=>k=sb) w V∧V.cell? ⟨sb,3,none⟩=some (.string (str8 n)):=by
 obtain⟨cs,hh,a1,a2,a3,a4,a5,a6,a7,a8,m1,m2,m3,m4,m5,m6,m7,m8,c1,c2,c3,c4,c5,c6,c7,c8,rfl,h1,h2,h3,h4,h5,h6,h7,h8⟩:=h
 obtain⟨V,hV,hc,hs⟩:=boxset hh 3 (.string (str8 n))
 have hq : ∀b,sb<b→b<w.heap.size→¬b=sb∧sb<b:=fun b hb _=>⟨by omega,hb⟩
 exact⟨V,hV,⟨_,hc,a1,a2,a3,a4,a5,a6,a7,a8,m1,m2,m3,m4,m5,m6,m7,m8,c1,c2,c3,c4,c5,c6,c7,c8,rfl,h1.to (by decide) hs hq (fun _ _ e=>e),h2.to (by decide) hs hq (fun _ _ e=>e.to hs hq),h3.to (by decide) hs hq (fun _ _ e=>e.to hs hq),h4.to (by decide) hs hq (fun _ _ e=>e.to hs hq),h5.to hs hq,h6.to hs hq,h7.to hs hq,h8.to hs hq⟩,hs,by rw[cell_of_row _ _ _ _ _ _ hc];rfl⟩
theorem StB.set_rows {w:World} {sb:Nat} {x:St} (h:StB w sb x) (n:List (List Vl)) {aa:Option Addr} {nn cc:Nat} (hn:SlAt 1 VsE (fun b=>sb<b) w n (.slice aa nn cc)):∃V,w.setCell ⟨sb,4,none⟩ (.slice aa nn cc)=V∧StB V sb { x with rows:=n }∧Spares (fun k=>k=sb) w V∧V.cell? ⟨sb,4,none⟩=some (.slice aa nn cc):=by
 obtain⟨cs,hh,a1,a2,a3,a4,a5,a6,a7,a8,m1,m2,m3,m4,m5,m6,m7,m8,c1,c2,c3,c4,c5,c6,c7,c8,rfl,h1,h2,h3,h4,h5,h6,h7,h8⟩:=h
 obtain⟨V,hV,hc,hs⟩:=boxset hh 4 (.slice aa nn cc)
 have hq : ∀b,sb<b→b<w.heap.size→¬b=sb∧sb<b:=fun b hb _=>⟨by omega,hb⟩
 exact⟨V,hV,⟨_,hc,a1,aa,a3,a4,a5,a6,a7,a8,m1,nn,m3,m4,m5,m6,m7,m8,c1,cc,c3,c4,c5,c6,c7,c8,rfl,h1.to (by decide) hs hq (fun _ _ e=>e),hn.to (by decide) hs hq (fun _ _ e=>e.to hs hq),h3.to (by decide) hs hq (fun _ _ e=>e.to hs hq),h4.to (by decide) hs hq (fun _ _ e=>e.to hs hq),h5.to hs hq,h6.to hs hq,h7.to hs hq,h8.to hs hq⟩,hs,by rw[cell_of_row _ _ _ _ _ _ hc];rfl⟩
theorem StB.set_sets {w:World} {sb:Nat} {x:St} (h:StB w sb x) (n:List Se) {aa:Option Addr} {nn cc:Nat} (hn:SlAt 9 SeE (fun b=>sb<b) w n (.slice aa nn cc)):∃V,w.setCell ⟨sb,5,none⟩ (.slice aa nn cc)=V∧StB V sb { x with sets:=n }∧Spares (fun k=>k=sb) w V∧V.cell? ⟨sb,5,none⟩=some (.slice aa nn cc):=by
 obtain⟨cs,hh,a1,a2,a3,a4,a5,a6,a7,a8,m1,m2,m3,m4,m5,m6,m7,m8,c1,c2,c3,c4,c5,c6,c7,c8,rfl,h1,h2,h3,h4,h5,h6,h7,h8⟩:=h
 obtain⟨V,hV,hc,hs⟩:=boxset hh 5 (.slice aa nn cc)
 have hq : ∀b,sb<b→b<w.heap.size→¬b=sb∧sb<b:=fun b hb _=>⟨by omega,hb⟩
 exact⟨V,hV,⟨_,hc,a1,a2,aa,a4,a5,a6,a7,a8,m1,m2,nn,m4,m5,m6,m7,m8,c1,c2,cc,c4,c5,c6,c7,c8,rfl,h1.to (by decide) hs hq (fun _ _ e=>e),h2.to (by decide) hs hq (fun _ _ e=>e.to hs hq),hn.to (by decide) hs hq (fun _ _ e=>e.to hs hq),h4.to (by decide) hs hq (fun _ _ e=>e.to hs hq),h5.to hs hq,h6.to hs hq,h7.to hs hq,h8.to hs hq⟩,hs,by rw[cell_of_row _ _ _ _ _ _ hc];rfl⟩
theorem StB.set_items {w:World} {sb:Nat} {x:St} (h:StB w sb x) (n:List It) {aa:Option Addr} {nn cc:Nat} (hn:SlAt 2 ItE (fun b=>sb<b) w n (.slice aa nn cc)):∃V,w.setCell ⟨sb,6,none⟩ (.slice aa nn cc)=V∧StB V sb { x with items:=n }∧Spares (fun k=>k=sb) w V∧V.cell? ⟨sb,6,none⟩=some (.slice aa nn cc):=by
 obtain⟨cs,hh,a1,a2,a3,a4,a5,a6,a7,a8,m1,m2,m3,m4,m5,m6,m7,m8,c1,c2,c3,c4,c5,c6,c7,c8,rfl,h1,h2,h3,h4,h5,h6,h7,h8⟩:=h
 obtain⟨V,hV,hc,hs⟩:=boxset hh 6 (.slice aa nn cc)
 have hq : ∀b,sb<b→b<w.heap.size→¬b=sb∧sb<b:=fun b hb _=>⟨by omega,hb⟩
 exact⟨V,hV,⟨_,hc,a1,a2,a3,aa,a5,a6,a7,a8,m1,m2,m3,nn,m5,m6,m7,m8,c1,c2,c3,cc,c5,c6,c7,c8,rfl,h1.to (by decide) hs hq (fun _ _ e=>e),h2.to (by decide) hs hq (fun _ _ e=>e.to hs hq),h3.to (by decide) hs hq (fun _ _ e=>e.to hs hq),hn.to (by decide) hs hq (fun _ _ e=>e.to hs hq),h5.to hs hq,h6.to hs hq,h7.to hs hq,h8.to hs hq⟩,hs,by rw[cell_of_row _ _ _ _ _ _ hc];rfl⟩
theorem StB.set_jn {w:World} {sb:Nat} {x:St} (h:StB w sb x) (n:List UInt8):∃V,w.setCell ⟨sb,7,none⟩ (.string (str8 n))=V∧StB V sb { x with jn:=n }∧Spares (fun k=>k=sb) w V∧V.cell? ⟨sb,7,none⟩=some (.string (str8 n)):=by
 obtain⟨cs,hh,a1,a2,a3,a4,a5,a6,a7,a8,m1,m2,m3,m4,m5,m6,m7,m8,c1,c2,c3,c4,c5,c6,c7,c8,rfl,h1,h2,h3,h4,h5,h6,h7,h8⟩:=h
 obtain⟨V,hV,hc,hs⟩:=boxset hh 7 (.string (str8 n))
 have hq : ∀b,sb<b→b<w.heap.size→¬b=sb∧sb<b:=fun b hb _=>⟨by omega,hb⟩
 exact⟨V,hV,⟨_,hc,a1,a2,a3,a4,a5,a6,a7,a8,m1,m2,m3,m4,m5,m6,m7,m8,c1,c2,c3,c4,c5,c6,c7,c8,rfl,h1.to (by decide) hs hq (fun _ _ e=>e),h2.to (by decide) hs hq (fun _ _ e=>e.to hs hq),h3.to (by decide) hs hq (fun _ _ e=>e.to hs hq),h4.to (by decide) hs hq (fun _ _ e=>e.to hs hq),h5.to hs hq,h6.to hs hq,h7.to hs hq,h8.to hs hq⟩,hs,by rw[cell_of_row _ _ _ _ _ _ hc];rfl⟩
theorem StB.set_on {w:World} {sb:Nat} {x:St} (h:StB w sb x) (n:List Ex) {aa:Option Addr} {nn cc:Nat} (hn:ArgsAt (fun b=>sb<b) w n (.slice aa nn cc)):∃V,w.setCell ⟨sb,8,none⟩ (.slice aa nn cc)=V∧StB V sb { x with on:=n }∧Spares (fun k=>k=sb) w V∧V.cell? ⟨sb,8,none⟩=some (.slice aa nn cc):=by
 obtain⟨cs,hh,a1,a2,a3,a4,a5,a6,a7,a8,m1,m2,m3,m4,m5,m6,m7,m8,c1,c2,c3,c4,c5,c6,c7,c8,rfl,h1,h2,h3,h4,h5,h6,h7,h8⟩:=h
 obtain⟨V,hV,hc,hs⟩:=boxset hh 8 (.slice aa nn cc)
 have hq : ∀b,sb<b→b<w.heap.size→¬b=sb∧sb<b:=fun b hb _=>⟨by omega,hb⟩
 exact⟨V,hV,⟨_,hc,a1,a2,a3,a4,aa,a6,a7,a8,m1,m2,m3,m4,nn,m6,m7,m8,c1,c2,c3,c4,cc,c6,c7,c8,rfl,h1.to (by decide) hs hq (fun _ _ e=>e),h2.to (by decide) hs hq (fun _ _ e=>e.to hs hq),h3.to (by decide) hs hq (fun _ _ e=>e.to hs hq),h4.to (by decide) hs hq (fun _ _ e=>e.to hs hq),hn.to hs hq,h6.to hs hq,h7.to hs hq,h8.to hs hq⟩,hs,by rw[cell_of_row _ _ _ _ _ _ hc];rfl⟩
theorem StB.set_wh {w:World} {sb:Nat} {x:St} (h:StB w sb x) (n:List Ex) {aa:Option Addr} {nn cc:Nat} (hn:ArgsAt (fun b=>sb<b) w n (.slice aa nn cc)):∃V,w.setCell ⟨sb,9,none⟩ (.slice aa nn cc)=V∧StB V sb { x with wh:=n }∧Spares (fun k=>k=sb) w V∧V.cell? ⟨sb,9,none⟩=some (.slice aa nn cc):=by
 obtain⟨cs,hh,a1,a2,a3,a4,a5,a6,a7,a8,m1,m2,m3,m4,m5,m6,m7,m8,c1,c2,c3,c4,c5,c6,c7,c8,rfl,h1,h2,h3,h4,h5,h6,h7,h8⟩:=h
 obtain⟨V,hV,hc,hs⟩:=boxset hh 9 (.slice aa nn cc)
 have hq : ∀b,sb<b→b<w.heap.size→¬b=sb∧sb<b:=fun b hb _=>⟨by omega,hb⟩
 exact⟨V,hV,⟨_,hc,a1,a2,a3,a4,a5,aa,a7,a8,m1,m2,m3,m4,m5,nn,m7,m8,c1,c2,c3,c4,c5,cc,c7,c8,rfl,h1.to (by decide) hs hq (fun _ _ e=>e),h2.to (by decide) hs hq (fun _ _ e=>e.to hs hq),h3.to (by decide) hs hq (fun _ _ e=>e.to hs hq),h4.to (by decide) hs hq (fun _ _ e=>e.to hs hq),h5.to hs hq,hn.to hs hq,h7.to hs hq,h8.to hs hq⟩,hs,by rw[cell_of_row _ _ _ _ _ _ hc];rfl⟩
theorem StB.set_gr {w:World} {sb:Nat} {x:St} (h:StB w sb x) (n:List Ex) {aa:Option Addr} {nn cc:Nat} (hn:ArgsAt (fun b=>sb<b) w n (.slice aa nn cc)):∃V,w.setCell ⟨sb,10,none⟩ (.slice aa nn cc)=V∧StB V sb { x with gr:=n }∧Spares (fun k=>k=sb) w V∧V.cell? ⟨sb,10,none⟩=some (.slice aa nn cc):=by
 obtain⟨cs,hh,a1,a2,a3,a4,a5,a6,a7,a8,m1,m2,m3,m4,m5,m6,m7,m8,c1,c2,c3,c4,c5,c6,c7,c8,rfl,h1,h2,h3,h4,h5,h6,h7,h8⟩:=h
 obtain⟨V,hV,hc,hs⟩:=boxset hh 10 (.slice aa nn cc)
 have hq : ∀b,sb<b→b<w.heap.size→¬b=sb∧sb<b:=fun b hb _=>⟨by omega,hb⟩
 exact⟨V,hV,⟨_,hc,a1,a2,a3,a4,a5,a6,aa,a8,m1,m2,m3,m4,m5,m6,nn,m8,c1,c2,c3,c4,c5,c6,cc,c8,rfl,h1.to (by decide) hs hq (fun _ _ e=>e),h2.to (by decide) hs hq (fun _ _ e=>e.to hs hq),h3.to (by decide) hs hq (fun _ _ e=>e.to hs hq),h4.to (by decide) hs hq (fun _ _ e=>e.to hs hq),h5.to hs hq,h6.to hs hq,hn.to hs hq,h8.to hs hq⟩,hs,by rw[cell_of_row _ _ _ _ _ _ hc];rfl⟩
theorem StB.set_od {w:World} {sb:Nat} {x:St} (h:StB w sb x) (n:List Ex) {aa:Option Addr} {nn cc:Nat} (hn:ArgsAt (fun b=>sb<b) w n (.slice aa nn cc)):∃V,w.setCell ⟨sb,11,none⟩ (.slice aa nn cc)=V∧StB V sb { x with od:=n }∧Spares (fun k=>k=sb) w V∧V.cell? ⟨sb,11,none⟩=some (.slice aa nn cc):=by
 obtain⟨cs,hh,a1,a2,a3,a4,a5,a6,a7,a8,m1,m2,m3,m4,m5,m6,m7,m8,c1,c2,c3,c4,c5,c6,c7,c8,rfl,h1,h2,h3,h4,h5,h6,h7,h8⟩:=h
 obtain⟨V,hV,hc,hs⟩:=boxset hh 11 (.slice aa nn cc)
 have hq : ∀b,sb<b→b<w.heap.size→¬b=sb∧sb<b:=fun b hb _=>⟨by omega,hb⟩
 exact⟨V,hV,⟨_,hc,a1,a2,a3,a4,a5,a6,a7,aa,m1,m2,m3,m4,m5,m6,m7,nn,c1,c2,c3,c4,c5,c6,c7,cc,rfl,h1.to (by decide) hs hq (fun _ _ e=>e),h2.to (by decide) hs hq (fun _ _ e=>e.to hs hq),h3.to (by decide) hs hq (fun _ _ e=>e.to hs hq),h4.to (by decide) hs hq (fun _ _ e=>e.to hs hq),h5.to hs hq,h6.to hs hq,h7.to hs hq,hn.to hs hq⟩,hs,by rw[cell_of_row _ _ _ _ _ _ hc];rfl⟩
theorem StB.set_desc {w:World} {sb:Nat} {x:St} (h:StB w sb x) (n:Bool):∃V,w.setCell ⟨sb,12,none⟩ (.bool n)=V∧StB V sb { x with desc:=n }∧Spares (fun k=>k=sb) w V∧V.cell? ⟨sb,12,none⟩=some (.bool n):=by
 obtain⟨cs,hh,a1,a2,a3,a4,a5,a6,a7,a8,m1,m2,m3,m4,m5,m6,m7,m8,c1,c2,c3,c4,c5,c6,c7,c8,rfl,h1,h2,h3,h4,h5,h6,h7,h8⟩:=h
 obtain⟨V,hV,hc,hs⟩:=boxset hh 12 (.bool n)
 have hq : ∀b,sb<b→b<w.heap.size→¬b=sb∧sb<b:=fun b hb _=>⟨by omega,hb⟩
 exact⟨V,hV,⟨_,hc,a1,a2,a3,a4,a5,a6,a7,a8,m1,m2,m3,m4,m5,m6,m7,m8,c1,c2,c3,c4,c5,c6,c7,c8,rfl,h1.to (by decide) hs hq (fun _ _ e=>e),h2.to (by decide) hs hq (fun _ _ e=>e.to hs hq),h3.to (by decide) hs hq (fun _ _ e=>e.to hs hq),h4.to (by decide) hs hq (fun _ _ e=>e.to hs hq),h5.to hs hq,h6.to hs hq,h7.to hs hq,h8.to hs hq⟩,hs,by rw[cell_of_row _ _ _ _ _ _ hc];rfl⟩
theorem StB.set_lim {w:World} {sb:Nat} {x:St} (h:StB w sb x) (n:Int):∃V,w.setCell ⟨sb,13,none⟩ (.int .i64 n)=V∧StB V sb { x with lim:=n }∧Spares (fun k=>k=sb) w V∧V.cell? ⟨sb,13,none⟩=some (.int .i64 n):=by
 obtain⟨cs,hh,a1,a2,a3,a4,a5,a6,a7,a8,m1,m2,m3,m4,m5,m6,m7,m8,c1,c2,c3,c4,c5,c6,c7,c8,rfl,h1,h2,h3,h4,h5,h6,h7,h8⟩:=h
 obtain⟨V,hV,hc,hs⟩:=boxset hh 13 (.int .i64 n)
 have hq : ∀b,sb<b→b<w.heap.size→¬b=sb∧sb<b:=fun b hb _=>⟨by omega,hb⟩
 exact⟨V,hV,⟨_,hc,a1,a2,a3,a4,a5,a6,a7,a8,m1,m2,m3,m4,m5,m6,m7,m8,c1,c2,c3,c4,c5,c6,c7,c8,rfl,h1.to (by decide) hs hq (fun _ _ e=>e),h2.to (by decide) hs hq (fun _ _ e=>e.to hs hq),h3.to (by decide) hs hq (fun _ _ e=>e.to hs hq),h4.to (by decide) hs hq (fun _ _ e=>e.to hs hq),h5.to hs hq,h6.to hs hq,h7.to hs hq,h8.to hs hq⟩,hs,by rw[cell_of_row _ _ _ _ _ _ hc];rfl⟩
theorem part_newP (F fr:Nat) (p:Pa Ex) (hp:RdsE F D0 fr p) (eg : ∀args w,(callFunc fr args).run Tryz.prog w = .ok (.enter fr args) w) (t:List UInt8) (l:List (List UInt8)) (hl:l.length≤1000) (g:Nat) (r:Rd) (W:World) (h:RdAt F W g r) (hD:D0 r) :
  Calls Tryz.prog 115 #[.pointer (some ⟨g,0,none⟩),.func (.func fr) #[.pointer (some ⟨g,0,none⟩)] #[],.string (str8 t),.slice (some ⟨W.heap.size,0,none⟩) l.length l.length] (W.alloc (.cells (l.map fun t=>Value.string (str8 t)).toArray 9)) fun e w'=>∃(aa:Option Addr) (nn cc:Nat),e = .returned (.slice aa nn cc)∧ArgsAt (fun b=>W.heap.size≤b) w' (partP p t l r).1 (.slice aa nn cc)∧RdAt F w' g (partP p t l r).2∧Fr g W w':=by
 have hb:Below W.heap.size W (W.alloc (.cells (l.map fun t=>Value.string (str8 t)).toArray 9)):=(Below.refl _ _).alloc (Nat.le_refl _) _
 refine (part_any F fr p hp eg t l g r _ (h.below hb) hD _ ⟨_,_,rfl,hl,fun _=>⟨_,rfl,h.lt,fun j t ht=>?_⟩⟩).mono ?_
 ·rw[cell_of_row _ _ _ _ _ _ (heap_alloc_new W _)]
  simp[ht]
 ·rintro e w' ⟨aa,nn,cc,rfl,h0,h1,h2⟩
  exact⟨aa,nn,cc,rfl,h0.to (R:=fun _=>False) (Spares.refl _ _) (fun b hb' _=>⟨id,Nat.le_trans hb.size hb'⟩),h1,(Spares.of_new (S:=fun k=>k=g) hb).then h2⟩
theorem create_eq (r:Rd):createP r=({ zSt 1 with tb:=(nameP (mustsP [[84,65,66,76,69]] r).2).1,cols:=(listL columnP moreColumnsP 8 [] (mustsP [[40]] (nameP (mustsP [[84,65,66,76,69]] r).2).2).2).1,prim:=(nameP (mustsP [[80,82,73,77,65,82,89],[75,69,89],[40]] (listL columnP moreColumnsP 8 [] (mustsP [[40]] (nameP (mustsP [[84,65,66,76,69]] r).2).2).2).2).2).1 },(mustsP [[41],[41]] (nameP (mustsP [[80,82,73,77,65,82,89],[75,69,89],[40]] (listL columnP moreColumnsP 8 [] (mustsP [[40]] (nameP (mustsP [[84,65,66,76,69]] r).2).2).2).2).2).2).2):=by
 simp only[musts_one]
 rfl
theorem create_any (F:Nat) (g sb:Nat) (q0:Rd) (w:World) (x:St) (h:RdAt F w g q0) (hD:D0 q0) (hS:StB w sb x) (hg:g<sb) :
  Calls Tryz.prog 110 #[.pointer (some ⟨g,0,none⟩),.pointer (some ⟨sb,0,none⟩)] w fun e w'=>e = .returned (.tuple #[])∧StB w' sb { x with tb:=(createP q0).1.tb,cols:=(createP q0).1.cols,prim:=(createP q0).1.prim }∧RdAt F w' g (createP q0).2∧Fr2 g sb w w':=by
 have hgw:=h.lt
 have hsw:=hS.lt
 have DG0:DG F q0:=⟨h.good,hD⟩
 obtain⟨w0,hw0⟩:∃x,x=w:=⟨_,rfl⟩
 subst hw0
 have HR0:=hid h
 have HS0:=hid hS
 have HF0:Hid (Fr2 g sb w0 w0):=hid (Spares.refl _ _)
 have hEQ:=create_eq q0
 have H1:Hid (∀V,RdAt F V g q0→Calls Tryz.prog 111 #[.pointer (some ⟨g,0,none⟩),.slice (some ⟨V.heap.size,0,none⟩) 1 1] (V.alloc (.cells #[.string ⟨#[84,65,66,76,69]⟩] 9)) fun e w'=>e = .returned (.tuple #[])∧RdAt F w' g (mustsP [[84,65,66,76,69]] q0).2∧Fr g V w'):=hid (fun V hV=>must_new F g q0 [[84,65,66,76,69]] (by decide) V hV)
 obtain⟨q1,eq1⟩:∃x,(mustsP [[84,65,66,76,69]] q0).2=x:=⟨_,rfl⟩
 have DG1:=DG0.after (nice_musts (b:=false) [[84,65,66,76,69]])
 rw[eq1] at DG1
 rw[eq1] at H1 hEQ
 have H2:=hid (fun V (hV:RdAt F V g q1)=>name_any F g q1 V hV)
 obtain⟨n1,en1⟩:∃x,(nameP q1).1=x:=⟨_,rfl⟩
 obtain⟨q2,eq2⟩:∃x,(nameP q1).2=x:=⟨_,rfl⟩
 have DG2:=DG1.after (nice_name (b:=false))
 rw[eq2] at DG2
 rw[en1,eq2] at H2 hEQ
 have H3:Hid (∀V,RdAt F V g q2→Calls Tryz.prog 111 #[.pointer (some ⟨g,0,none⟩),.slice (some ⟨V.heap.size,0,none⟩) 1 1] (V.alloc (.cells #[.string ⟨#[40]⟩] 9)) fun e w'=>e = .returned (.tuple #[])∧RdAt F w' g (mustsP [[40]] q2).2∧Fr g V w'):=hid (fun V hV=>must_new F g q2 [[40]] (by decide) V hV)
 obtain⟨q3,eq3⟩:∃x,(mustsP [[40]] q2).2=x:=⟨_,rfl⟩
 have DG3:=DG2.after (nice_musts (b:=false) [[40]])
 rw[eq3] at DG3
 rw[eq3] at H3 hEQ
 have H4:Hid (∀V,RdAt F V g q3→Calls Tryz.prog 176 #[.pointer (some ⟨g,0,none⟩),.int .i64 8,.func (.func 177) #[.pointer (some ⟨g,0,none⟩)] #[],.func (.func 178) #[.pointer (some ⟨g,0,none⟩)] #[]] V fun e w'=>∃(aa:Option Addr) (nn cc:Nat),e = .returned (.slice aa nn cc)∧SlAt 4 ColE (fun b=>V.heap.size≤b) w' (listL columnP moreColumnsP 8 [] q3).1 (.slice aa nn cc)∧RdAt F w' g (listL columnP moreColumnsP 8 [] q3).2∧Fr g V w') :=
  hid (fun V hV=>listCo_any F _ _ (columnP) moreColumnsP (column_any F) (moreColumns_B F) nice_column nice_moreColumns (enters_of Tryz.func177 (by kernel_rfl) rfl) (enters_of Tryz.func178 (by kernel_rfl) rfl) 8 (by decide) g q3 V hV DG3.2)
 obtain⟨l3,el3⟩:∃x,(listL columnP moreColumnsP 8 [] q3).1=x:=⟨_,rfl⟩
 obtain⟨q4,eq4⟩:∃x,(listL columnP moreColumnsP 8 [] q3).2=x:=⟨_,rfl⟩
 have DG4:=DG3.after (nice_list (b:=false) nice_column nice_moreColumns 8 [])
 rw[eq4] at DG4
 rw[el3,eq4] at H4 hEQ
 have H5:Hid (∀V,RdAt F V g q4→Calls Tryz.prog 111 #[.pointer (some ⟨g,0,none⟩),.slice (some ⟨V.heap.size,0,none⟩) 3 3] (V.alloc (.cells #[.string ⟨#[80,82,73,77,65,82,89]⟩,.string ⟨#[75,69,89]⟩,.string ⟨#[40]⟩] 9)) fun e w'=>e = .returned (.tuple #[])∧RdAt F w' g (mustsP [[80,82,73,77,65,82,89],[75,69,89],[40]] q4).2∧Fr g V w'):=hid (fun V hV=>must_new F g q4 [[80,82,73,77,65,82,89],[75,69,89],[40]] (by decide) V hV)
 obtain⟨q5,eq5⟩:∃x,(mustsP [[80,82,73,77,65,82,89],[75,69,89],[40]] q4).2=x:=⟨_,rfl⟩
 have DG5:=DG4.after (nice_musts (b:=false) [[80,82,73,77,65,82,89],[75,69,89],[40]])
 rw[eq5] at DG5
 rw[eq5] at H5 hEQ
 have H6:=hid (fun V (hV:RdAt F V g q5)=>name_any F g q5 V hV)
 obtain⟨n5,en5⟩:∃x,(nameP q5).1=x:=⟨_,rfl⟩
 obtain⟨q6,eq6⟩:∃x,(nameP q5).2=x:=⟨_,rfl⟩
 have DG6:=DG5.after (nice_name (b:=false))
 rw[eq6] at DG6
 rw[en5,eq6] at H6 hEQ
 have H7:Hid (∀V,RdAt F V g q6→Calls Tryz.prog 111 #[.pointer (some ⟨g,0,none⟩),.slice (some ⟨V.heap.size,0,none⟩) 2 2] (V.alloc (.cells #[.string ⟨#[41]⟩,.string ⟨#[41]⟩] 9)) fun e w'=>e = .returned (.tuple #[])∧RdAt F w' g (mustsP [[41],[41]] q6).2∧Fr g V w'):=hid (fun V hV=>must_new F g q6 [[41],[41]] (by decide) V hV)
 obtain⟨q7,eq7⟩:∃x,(mustsP [[41],[41]] q6).2=x:=⟨_,rfl⟩
 have DG7:=DG6.after (nice_musts (b:=false) [[41],[41]])
 rw[eq7] at DG7
 rw[eq7] at H7 hEQ
 rw[hEQ]
 dsimp only
 clear hEQ h hS hD DG0 DG1 DG2 DG3 DG4 DG5 DG6 DG7
 go_enter Tryz.func110,Tryz.ntmps110
 go_wp2_with fail
 refine (H1.out w0 HR0.out).mono ?_
 rintro e w1 ⟨rfl,hr1,hf1⟩
 have hz1:=hf1.size
 have HR1:=hid hr1
 have HF1:=hid (HF0.out.then2 hf1)
 have HS1:=hid (HS0.out.keeps hf1 (fun b hb _ e=>by omega))
 clear hr1 hf1 H1
 go_wp2_with fail
 refine (H2.out w1 HR1.out).mono ?_
 rintro e w2 ⟨rfl,hr2,hf2⟩
 have hz2:=hf2.size
 have HR2:=hid hr2
 have HF2:=hid (HF1.out.then2 hf2)
 have HS2:=hid (HS1.out.keeps hf2 (fun b hb _ e=>by omega))
 clear hr2 hf2 H2
 obtain⟨u2,hu2⟩:=HS2.out.at 1 (by decide)
 have hfz2:=HS2.out.frozen
 obtain⟨V2,hV2,hS2,hs2,_⟩:=HS2.out.set_tb n1
 have hzV2:=hs2.size
 have HR2':=hid (HR2.out.keeps hs2 (fun i hi e=>by omega))
 have HF2':=hid (HF2.out.put2 hs2)
 have HS2':=hid hS2
 clear hS2 hs2 HR2 HF2 HS2
 have HR2:=HR2'
 have HF2:=HF2'
 have HS2:=HS2'
 clear HR2' HF2' HS2'
 go_wp2_with fail
 clear hV2 hu2 hfz2
 refine (H3.out V2 HR2.out).mono ?_
 rintro e w3 ⟨rfl,hr3,hf3⟩
 have hz3:=hf3.size
 have HR3:=hid hr3
 have HF3:=hid (HF2.out.then2 hf3)
 have HS3:=hid (HS2.out.keeps hf3 (fun b hb _ e=>by omega))
 clear hr3 hf3 H3
 go_wp2_with fail
 refine (H4.out w3 HR3.out).mono ?_
 rintro e w4 ⟨aa4,nn4,cc4,rfl,hl4,hr4,hf4⟩
 have hz4:=hf4.size
 have HR4:=hid hr4
 have HF4:=hid (HF3.out.then2 hf4)
 have HS4:=hid (HS3.out.keeps hf4 (fun b hb _ e=>by omega))
 have HL4:=hid (hl4.to (T:=fun b=>sb<b) (by decide) (R:=fun _=>False) (Spares.refl _ _) (fun b hb _=>⟨id,by omega⟩) (fun _ _ e=>e))
 clear hl4
 clear hr4 hf4 H4
 obtain⟨u4,hu4⟩:=HS4.out.at 2 (by decide)
 have hfz4:=HS4.out.frozen
 obtain⟨V4,hV4,hS4,hs4,_⟩:=HS4.out.set_cols l3 HL4.out
 have hzV4:=hs4.size
 have HR4':=hid (HR4.out.keeps hs4 (fun i hi e=>by omega))
 have HF4':=hid (HF4.out.put2 hs4)
 have HS4':=hid hS4
 clear hS4 hs4 HR4 HF4 HS4
 have HR4:=HR4'
 have HF4:=HF4'
 have HS4:=HS4'
 clear HR4' HF4' HS4'
 go_wp2_with fail
 clear hV4 hu4 hfz4
 refine (H5.out V4 HR4.out).mono ?_
 rintro e w5 ⟨rfl,hr5,hf5⟩
 have hz5:=hf5.size
 have HR5:=hid hr5
 have HF5:=hid (HF4.out.then2 hf5)
 have HS5:=hid (HS4.out.keeps hf5 (fun b hb _ e=>by omega))
 clear hr5 hf5 H5
 go_wp2_with fail
 refine (H6.out w5 HR5.out).mono ?_
 rintro e w6 ⟨rfl,hr6,hf6⟩
 have hz6:=hf6.size
 have HR6:=hid hr6
 have HF6:=hid (HF5.out.then2 hf6)
 have HS6:=hid (HS5.out.keeps hf6 (fun b hb _ e=>by omega))
 clear hr6 hf6 H6
 obtain⟨u6,hu6⟩:=HS6.out.at 3 (by decide)
 have hfz6:=HS6.out.frozen
 obtain⟨V6,hV6,hS6,hs6,_⟩:=HS6.out.set_prim n5
 have hzV6:=hs6.size
 have HR6':=hid (HR6.out.keeps hs6 (fun i hi e=>by omega))
 have HF6':=hid (HF6.out.put2 hs6)
 have HS6':=hid hS6
 clear hS6 hs6 HR6 HF6 HS6
 have HR6:=HR6'
 have HF6:=HF6'
 have HS6:=HS6'
 clear HR6' HF6' HS6'
 go_wp2_with fail
 clear hV6 hu6 hfz6
 refine (H7.out V6 HR6.out).mono ?_
 rintro e w7 ⟨rfl,hr7,hf7⟩
 have hz7:=hf7.size
 have HR7:=hid hr7
 have HF7:=hid (HF6.out.then2 hf7)
 have HS7:=hid (HS6.out.keeps hf7 (fun b hb _ e=>by omega))
 clear hr7 hf7 H7
 go_wp2
 exact bodyPost_end (v:=.tuple #[]) (by simp[results,Tryz.results110,go_sem]) rfl ⟨rfl,HS7.out,HR7.out,HF7.out⟩
theorem insert_eq (r:Rd):insertP r=({ zSt 3 with tb:=(nameP (mustsP [[73,78,84,79]] r).2).1,rows:=(listL valuesP commaP 16 [] (mustsP [[86,65,76,85,69,83]] (nameP (mustsP [[73,78,84,79]] r).2).2).2).1 },(listL valuesP commaP 16 [] (mustsP [[86,65,76,85,69,83]] (nameP (mustsP [[73,78,84,79]] r).2).2).2).2):=by
 simp only[musts_one]
 rfl
theorem insert_any (F:Nat) (g sb:Nat) (q0:Rd) (w:World) (x:St) (h:RdAt F w g q0) (hD:D0 q0) (hS:StB w sb x) (hg:g<sb) :
  Calls Tryz.prog 113 #[.pointer (some ⟨g,0,none⟩),.pointer (some ⟨sb,0,none⟩)] w fun e w'=>e = .returned (.tuple #[])∧StB w' sb { x with tb:=(insertP q0).1.tb,rows:=(insertP q0).1.rows }∧RdAt F w' g (insertP q0).2∧Fr2 g sb w w':=by
 have hgw:=h.lt
 have hsw:=hS.lt
 have DG0:DG F q0:=⟨h.good,hD⟩
 obtain⟨w0,hw0⟩:∃x,x=w:=⟨_,rfl⟩
 subst hw0
 have HR0:=hid h
 have HS0:=hid hS
 have HF0:Hid (Fr2 g sb w0 w0):=hid (Spares.refl _ _)
 have hEQ:=insert_eq q0
 have H1:Hid (∀V,RdAt F V g q0→Calls Tryz.prog 111 #[.pointer (some ⟨g,0,none⟩),.slice (some ⟨V.heap.size,0,none⟩) 1 1] (V.alloc (.cells #[.string ⟨#[73,78,84,79]⟩] 9)) fun e w'=>e = .returned (.tuple #[])∧RdAt F w' g (mustsP [[73,78,84,79]] q0).2∧Fr g V w'):=hid (fun V hV=>must_new F g q0 [[73,78,84,79]] (by decide) V hV)
 obtain⟨q1,eq1⟩:∃x,(mustsP [[73,78,84,79]] q0).2=x:=⟨_,rfl⟩
 have DG1:=DG0.after (nice_musts (b:=false) [[73,78,84,79]])
 rw[eq1] at DG1
 rw[eq1] at H1 hEQ
 have H2:=hid (fun V (hV:RdAt F V g q1)=>name_any F g q1 V hV)
 obtain⟨n1,en1⟩:∃x,(nameP q1).1=x:=⟨_,rfl⟩
 obtain⟨q2,eq2⟩:∃x,(nameP q1).2=x:=⟨_,rfl⟩
 have DG2:=DG1.after (nice_name (b:=false))
 rw[eq2] at DG2
 rw[en1,eq2] at H2 hEQ
 have H3:Hid (∀V,RdAt F V g q2→Calls Tryz.prog 111 #[.pointer (some ⟨g,0,none⟩),.slice (some ⟨V.heap.size,0,none⟩) 1 1] (V.alloc (.cells #[.string ⟨#[86,65,76,85,69,83]⟩] 9)) fun e w'=>e = .returned (.tuple #[])∧RdAt F w' g (mustsP [[86,65,76,85,69,83]] q2).2∧Fr g V w'):=hid (fun V hV=>must_new F g q2 [[86,65,76,85,69,83]] (by decide) V hV)
 obtain⟨q3,eq3⟩:∃x,(mustsP [[86,65,76,85,69,83]] q2).2=x:=⟨_,rfl⟩
 have DG3:=DG2.after (nice_musts (b:=false) [[86,65,76,85,69,83]])
 rw[eq3] at DG3
 rw[eq3] at H3 hEQ
 have H4:Hid (∀V,RdAt F V g q3→Calls Tryz.prog 180 #[.pointer (some ⟨g,0,none⟩),.int .i64 16,.func (.func 181) #[.pointer (some ⟨g,0,none⟩)] #[],.func (.func 182) #[.pointer (some ⟨g,0,none⟩)] #[]] V fun e w'=>∃(aa:Option Addr) (nn cc:Nat),e = .returned (.slice aa nn cc)∧SlAt 1 VsE (fun b=>V.heap.size≤b) w' (listL valuesP commaP 16 [] q3).1 (.slice aa nn cc)∧RdAt F w' g (listL valuesP commaP 16 [] q3).2∧Fr g V w') :=
  hid (fun V hV=>listVs_any F _ _ (valuesP) commaP (values_any F) (comma_B F) nice_values nice_comma (enters_of Tryz.func181 (by kernel_rfl) rfl) (enters_of Tryz.func182 (by kernel_rfl) rfl) 16 (by decide) g q3 V hV DG3.2)
 obtain⟨l3,el3⟩:∃x,(listL valuesP commaP 16 [] q3).1=x:=⟨_,rfl⟩
 obtain⟨q4,eq4⟩:∃x,(listL valuesP commaP 16 [] q3).2=x:=⟨_,rfl⟩
 have DG4:=DG3.after (nice_list (b:=false) nice_values nice_comma 16 [])
 rw[eq4] at DG4
 rw[el3,eq4] at H4 hEQ
 rw[hEQ]
 dsimp only
 clear hEQ h hS hD DG0 DG1 DG2 DG3 DG4
 go_enter Tryz.func113,Tryz.ntmps113
 go_wp2_with fail
 refine (H1.out w0 HR0.out).mono ?_
 rintro e w1 ⟨rfl,hr1,hf1⟩
 have hz1:=hf1.size
 have HR1:=hid hr1
 have HF1:=hid (HF0.out.then2 hf1)
 have HS1:=hid (HS0.out.keeps hf1 (fun b hb _ e=>by omega))
 clear hr1 hf1 H1
 go_wp2_with fail
 refine (H2.out w1 HR1.out).mono ?_
 rintro e w2 ⟨rfl,hr2,hf2⟩
 have hz2:=hf2.size
 have HR2:=hid hr2
 have HF2:=hid (HF1.out.then2 hf2)
 have HS2:=hid (HS1.out.keeps hf2 (fun b hb _ e=>by omega))
 clear hr2 hf2 H2
 obtain⟨u2,hu2⟩:=HS2.out.at 1 (by decide)
 have hfz2:=HS2.out.frozen
 obtain⟨V2,hV2,hS2,hs2,_⟩:=HS2.out.set_tb n1
 have hzV2:=hs2.size
 have HR2':=hid (HR2.out.keeps hs2 (fun i hi e=>by omega))
 have HF2':=hid (HF2.out.put2 hs2)
 have HS2':=hid hS2
 clear hS2 hs2 HR2 HF2 HS2
 have HR2:=HR2'
 have HF2:=HF2'
 have HS2:=HS2'
 clear HR2' HF2' HS2'
 go_wp2_with fail
 clear hV2 hu2 hfz2
 refine (H3.out V2 HR2.out).mono ?_
 rintro e w3 ⟨rfl,hr3,hf3⟩
 have hz3:=hf3.size
 have HR3:=hid hr3
 have HF3:=hid (HF2.out.then2 hf3)
 have HS3:=hid (HS2.out.keeps hf3 (fun b hb _ e=>by omega))
 clear hr3 hf3 H3
 go_wp2_with fail
 refine (H4.out w3 HR3.out).mono ?_
 rintro e w4 ⟨aa4,nn4,cc4,rfl,hl4,hr4,hf4⟩
 have hz4:=hf4.size
 have HR4:=hid hr4
 have HF4:=hid (HF3.out.then2 hf4)
 have HS4:=hid (HS3.out.keeps hf4 (fun b hb _ e=>by omega))
 have HL4:=hid (hl4.to (T:=fun b=>sb<b) (by decide) (R:=fun _=>False) (Spares.refl _ _) (fun b hb _=>⟨id,by omega⟩) (fun _ _ e=>e.to (R:=fun _=>False) (Spares.refl _ _) (fun b hb _=>⟨id,by omega⟩)))
 clear hl4
 clear hr4 hf4 H4
 obtain⟨u4,hu4⟩:=HS4.out.at 4 (by decide)
 have hfz4:=HS4.out.frozen
 obtain⟨V4,hV4,hS4,hs4,_⟩:=HS4.out.set_rows l3 HL4.out
 have hzV4:=hs4.size
 have HR4':=hid (HR4.out.keeps hs4 (fun i hi e=>by omega))
 have HF4':=hid (HF4.out.put2 hs4)
 have HS4':=hid hS4
 clear hS4 hs4 HR4 HF4 HS4
 have HR4:=HR4'
 have HF4:=HF4'
 have HS4:=HS4'
 clear HR4' HF4' HS4'
 go_wp2
 exact bodyPost_end (v:=.tuple #[]) (by simp[results,Tryz.results113,go_sem]) rfl ⟨rfl,HS4.out,HR4.out,HF4.out⟩
theorem update_eq (ex:Pa Ex) (r:Rd):updateP ex r=({ zSt 4 with tb:=(nameP r).1,sets:=(listL (setP ex) commaP 8 [] (mustsP [[83,69,84]] (nameP r).2).2).1,wh:=(partP ex [87,72,69,82,69] [] (listL (setP ex) commaP 8 [] (mustsP [[83,69,84]] (nameP r).2).2).2).1 },(partP ex [87,72,69,82,69] [] (listL (setP ex) commaP 8 [] (mustsP [[83,69,84]] (nameP r).2).2).2).2):=by
 simp only[musts_one]
 rfl
theorem update_any (F:Nat) (ex:Pa Ex) (hx:RdsE F D0 116 ex) (hN:Nice false F ex) (g sb:Nat) (q0:Rd) (w:World) (x:St) (h:RdAt F w g q0) (hD:D0 q0) (hS:StB w sb x) (hg:g<sb) :
  Calls Tryz.prog 114 #[.pointer (some ⟨g,0,none⟩),.pointer (some ⟨sb,0,none⟩)] w fun e w'=>e = .returned (.tuple #[])∧StB w' sb { x with tb:=((updateP ex) q0).1.tb,sets:=((updateP ex) q0).1.sets,wh:=((updateP ex) q0).1.wh }∧RdAt F w' g ((updateP ex) q0).2∧Fr2 g sb w w':=by
 have hgw:=h.lt
 have hsw:=hS.lt
 have DG0:DG F q0:=⟨h.good,hD⟩
 obtain⟨w0,hw0⟩:∃x,x=w:=⟨_,rfl⟩
 subst hw0
 have HR0:=hid h
 have HS0:=hid hS
 have HF0:Hid (Fr2 g sb w0 w0):=hid (Spares.refl _ _)
 have hEQ:=update_eq ex q0
 have H1:=hid (fun V (hV:RdAt F V g q0)=>name_any F g q0 V hV)
 obtain⟨n0,en0⟩:∃x,(nameP q0).1=x:=⟨_,rfl⟩
 obtain⟨q1,eq1⟩:∃x,(nameP q0).2=x:=⟨_,rfl⟩
 have DG1:=DG0.after (nice_name (b:=false))
 rw[eq1] at DG1
 rw[en0,eq1] at H1 hEQ
 have H2:Hid (∀V,RdAt F V g q1→Calls Tryz.prog 111 #[.pointer (some ⟨g,0,none⟩),.slice (some ⟨V.heap.size,0,none⟩) 1 1] (V.alloc (.cells #[.string ⟨#[83,69,84]⟩] 9)) fun e w'=>e = .returned (.tuple #[])∧RdAt F w' g (mustsP [[83,69,84]] q1).2∧Fr g V w'):=hid (fun V hV=>must_new F g q1 [[83,69,84]] (by decide) V hV)
 obtain⟨q2,eq2⟩:∃x,(mustsP [[83,69,84]] q1).2=x:=⟨_,rfl⟩
 have DG2:=DG1.after (nice_musts (b:=false) [[83,69,84]])
 rw[eq2] at DG2
 rw[eq2] at H2 hEQ
 have H3:Hid (∀V,RdAt F V g q2→Calls Tryz.prog 183 #[.pointer (some ⟨g,0,none⟩),.int .i64 8,.func (.func 184) #[.pointer (some ⟨g,0,none⟩)] #[],.func (.func 182) #[.pointer (some ⟨g,0,none⟩)] #[]] V fun e w'=>∃(aa:Option Addr) (nn cc:Nat),e = .returned (.slice aa nn cc)∧SlAt 9 SeE (fun b=>V.heap.size≤b) w' (listL (setP ex) commaP 8 [] q2).1 (.slice aa nn cc)∧RdAt F w' g (listL (setP ex) commaP 8 [] q2).2∧Fr g V w') :=
  hid (fun V hV=>listSe_any F _ _ ((setP ex)) commaP (set_any F ex hx) (comma_B F) (nice_set hN) nice_comma (enters_of Tryz.func184 (by kernel_rfl) rfl) (enters_of Tryz.func182 (by kernel_rfl) rfl) 8 (by decide) g q2 V hV DG2.2)
 obtain⟨l2,el2⟩:∃x,(listL (setP ex) commaP 8 [] q2).1=x:=⟨_,rfl⟩
 obtain⟨q3,eq3⟩:∃x,(listL (setP ex) commaP 8 [] q2).2=x:=⟨_,rfl⟩
 have DG3:=DG2.after (nice_list (b:=false) (nice_set hN) nice_comma 8 [])
 rw[eq3] at DG3
 rw[el2,eq3] at H3 hEQ
 have H4:Hid (∀V,RdAt F V g q3→Calls Tryz.prog 115 #[.pointer (some ⟨g,0,none⟩),.func (.func 116) #[.pointer (some ⟨g,0,none⟩)] #[],.string ⟨#[87,72,69,82,69]⟩,.slice none 0 0] V fun e w'=>∃(aa:Option Addr) (nn cc:Nat),e = .returned (.slice aa nn cc)∧ArgsAt (fun b=>V.heap.size≤b) w' (partP ex [87,72,69,82,69] [] q3).1 (.slice aa nn cc)∧RdAt F w' g (partP ex [87,72,69,82,69] [] q3).2∧Fr g V w') :=
  hid (fun V hV=>part_any F _ ex hx (enters_of Tryz.func116 (by kernel_rfl) rfl) [87,72,69,82,69] [] g q3 V hV DG3.2 (.slice none 0 0) ⟨none,0,rfl,by decide,fun e=>absurd rfl e⟩)
 obtain⟨l3,el3⟩:∃x,(partP ex [87,72,69,82,69] [] q3).1=x:=⟨_,rfl⟩
 obtain⟨q4,eq4⟩:∃x,(partP ex [87,72,69,82,69] [] q3).2=x:=⟨_,rfl⟩
 have DG4:=DG3.after (nice_part (b:=false) hN [87,72,69,82,69] [] (by decide))
 rw[eq4] at DG4
 rw[el3,eq4] at H4 hEQ
 rw[hEQ]
 dsimp only
 clear hEQ h hS hD DG0 DG1 DG2 DG3 DG4 hx hN
 go_enter Tryz.func114,Tryz.ntmps114
 go_wp2_with fail
 refine (H1.out w0 HR0.out).mono ?_
 rintro e w1 ⟨rfl,hr1,hf1⟩
 have hz1:=hf1.size
 have HR1:=hid hr1
 have HF1:=hid (HF0.out.then2 hf1)
 have HS1:=hid (HS0.out.keeps hf1 (fun b hb _ e=>by omega))
 clear hr1 hf1 H1
 obtain⟨u1,hu1⟩:=HS1.out.at 1 (by decide)
 have hfz1:=HS1.out.frozen
 obtain⟨V1,hV1,hS1,hs1,_⟩:=HS1.out.set_tb n0
 have hzV1:=hs1.size
 have HR1':=hid (HR1.out.keeps hs1 (fun i hi e=>by omega))
 have HF1':=hid (HF1.out.put2 hs1)
 have HS1':=hid hS1
 clear hS1 hs1 HR1 HF1 HS1
 have HR1:=HR1'
 have HF1:=HF1'
 have HS1:=HS1'
 clear HR1' HF1' HS1'
 go_wp2_with fail
 clear hV1 hu1 hfz1
 refine (H2.out V1 HR1.out).mono ?_
 rintro e w2 ⟨rfl,hr2,hf2⟩
 have hz2:=hf2.size
 have HR2:=hid hr2
 have HF2:=hid (HF1.out.then2 hf2)
 have HS2:=hid (HS1.out.keeps hf2 (fun b hb _ e=>by omega))
 clear hr2 hf2 H2
 go_wp2_with fail
 refine (H3.out w2 HR2.out).mono ?_
 rintro e w3 ⟨aa3,nn3,cc3,rfl,hl3,hr3,hf3⟩
 have hz3:=hf3.size
 have HR3:=hid hr3
 have HF3:=hid (HF2.out.then2 hf3)
 have HS3:=hid (HS2.out.keeps hf3 (fun b hb _ e=>by omega))
 have HL3:=hid (hl3.to (T:=fun b=>sb<b) (by decide) (R:=fun _=>False) (Spares.refl _ _) (fun b hb _=>⟨id,by omega⟩) (fun _ _ e=>e.to (R:=fun _=>False) (Spares.refl _ _) (fun b hb _=>⟨id,by omega⟩)))
 clear hl3
 clear hr3 hf3 H3
 obtain⟨u3,hu3⟩:=HS3.out.at 5 (by decide)
 have hfz3:=HS3.out.frozen
 obtain⟨V3,hV3,hS3,hs3,_⟩:=HS3.out.set_sets l2 HL3.out
 have hzV3:=hs3.size
 have HR3':=hid (HR3.out.keeps hs3 (fun i hi e=>by omega))
 have HF3':=hid (HF3.out.put2 hs3)
 have HS3':=hid hS3
 clear hS3 hs3 HR3 HF3 HS3
 have HR3:=HR3'
 have HF3:=HF3'
 have HS3:=HS3'
 clear HR3' HF3' HS3'
 go_wp2_with fail
 clear hV3 hu3 hfz3
 refine (H4.out V3 HR3.out).mono ?_
 rintro e w4 ⟨aa4,nn4,cc4,rfl,hl4,hr4,hf4⟩
 have hz4:=hf4.size
 have HR4:=hid hr4
 have HF4:=hid (HF3.out.then2 hf4)
 have HS4:=hid (HS3.out.keeps hf4 (fun b hb _ e=>by omega))
 have HL4:=hid (hl4.to (T:=fun b=>sb<b) (R:=fun _=>False) (Spares.refl _ _) (fun b hb _=>⟨id,by omega⟩))
 clear hl4
 clear hr4 hf4 H4
 obtain⟨u4,hu4⟩:=HS4.out.at 9 (by decide)
 have hfz4:=HS4.out.frozen
 obtain⟨V4,hV4,hS4,hs4,_⟩:=HS4.out.set_wh l3 HL4.out
 have hzV4:=hs4.size
 have HR4':=hid (HR4.out.keeps hs4 (fun i hi e=>by omega))
 have HF4':=hid (HF4.out.put2 hs4)
 have HS4':=hid hS4
 clear hS4 hs4 HR4 HF4 HS4
 have HR4:=HR4'
 have HF4:=HF4'
 have HS4:=HS4'
 clear HR4' HF4' HS4'
 go_wp2
 exact bodyPost_end (v:=.tuple #[]) (by simp[results,Tryz.results114,go_sem]) rfl ⟨rfl,HS4.out,HR4.out,HF4.out⟩
end Go.Proofs.YtaaggohjmhifbaaGreatDoor
