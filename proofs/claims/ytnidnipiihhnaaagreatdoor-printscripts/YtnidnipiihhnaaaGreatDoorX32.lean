/- Packed for the hand-in: RefJ5 -/
import Derived.Test.YtnidnipiihhnaaaGreatDoorX31
namespace Go.Proofs.YtnidnipiihhnaaaGreatDoor
open Go.RowKit Go.Shelf
set_option linter.unusedSimpArgs false
set_option linter.unusedVariables false
set_option maxRecDepth 20000
set_option maxHeartbeats 8000000
theorem cells4J {w:World} {g:Nat} {a b c d:Value} {t:TypeId} (h:w.heap[g]?=some (.cells #[a,b,c,d] t)):(∀i,w.frozen? ⟨g,i,none⟩=false)∧w.cell? ⟨g,0,none⟩=some a∧w.cell? ⟨g,1,none⟩=some b∧w.cell? ⟨g,2,none⟩=some c∧w.cell? ⟨g,3,none⟩=some d :=
 ⟨fun i=>by simp[World.frozen?,h],by rw[cell_row _ _ _ _ _ _ h];rfl,by rw[cell_row _ _ _ _ _ _ h];rfl,by rw[cell_row _ _ _ _ _ _ h];rfl,by rw[cell_row _ _ _ _ _ _ h];rfl⟩
theorem jop_1 (w:World):Calls Tryz.prog 125 #[.int .i64 1] w fun e w'=>e = .returned (.agg #[.int .i64 2,.string ⟨#[79,82]⟩,.int .i64 0,.int .i64 0])∧Below w.heap.size w w':=by
 obtain⟨W,hW,hbW,hzW,hcA,hcB⟩:=two w (.cells #[.int .i64 0,.string ⟨#[]⟩,.int .i64 0,.int .i64 0] 119) (.cells #[.string ⟨#[]⟩,.string ⟨#[79,82]⟩,.string ⟨#[65,78,68]⟩,.string ⟨#[61]⟩,.string ⟨#[60,62]⟩,.string ⟨#[60]⟩,.string ⟨#[60,61]⟩,.string ⟨#[62]⟩,.string ⟨#[62,61]⟩,.string ⟨#[43]⟩,.string ⟨#[45]⟩,.string ⟨#[42]⟩,.string ⟨#[47]⟩,.string ⟨#[37]⟩] 9)
 have HC:=hid (jword_any ⟨#[79,82]⟩ W)
 have HB:=hid hbW
 have HA:=hid hcA
 have kB:W.cell? ⟨w.heap.size+1,1,none⟩=some (.string ⟨#[79,82]⟩):=by rw[cell_row _ _ _ _ _ _ hcB];rfl
 clear hbW hcA hcB
 go_enter Tryz.func125,Tryz.ntmps125
 go_wp2_with fail
 try rw[hW]
 refine HC.out.mono ?_
 rintro e w1 ⟨rfl,hb1⟩
 have k1:=cells4J ((hb1.block w.heap.size (by omega)).trans HA.out)
 have HB1:Hid (Below w.heap.size w w1):=hid (HB.out.trans (hb1.mono HB.out.size))
 have hle:w.heap.size≤w.heap.size:=Nat.le_refl _
 clear hb1 HC hW
 go_wp2
 refine bodyPost_ret (v:=.agg #[.int .i64 2,.string ⟨#[79,82]⟩,.int .i64 0,.int .i64 0]) (by simp[results,Tryz.results125,go_sem,k1]) rfl ⟨rfl,?_⟩
 exact (((HB1.out.setCell (p:=⟨w.heap.size,0,none⟩) hle _).setCell (p:=⟨w.heap.size,1,none⟩) hle _).setCell (p:=⟨w.heap.size,2,none⟩) hle _).setCell (p:=⟨w.heap.size,3,none⟩) hle _
theorem jop_2 (w:World):Calls Tryz.prog 125 #[.int .i64 2] w fun e w'=>e = .returned (.agg #[.int .i64 2,.string ⟨#[65,78,68]⟩,.int .i64 0,.int .i64 0])∧Below w.heap.size w w':=by
 obtain⟨W,hW,hbW,hzW,hcA,hcB⟩:=two w (.cells #[.int .i64 0,.string ⟨#[]⟩,.int .i64 0,.int .i64 0] 119) (.cells #[.string ⟨#[]⟩,.string ⟨#[79,82]⟩,.string ⟨#[65,78,68]⟩,.string ⟨#[61]⟩,.string ⟨#[60,62]⟩,.string ⟨#[60]⟩,.string ⟨#[60,61]⟩,.string ⟨#[62]⟩,.string ⟨#[62,61]⟩,.string ⟨#[43]⟩,.string ⟨#[45]⟩,.string ⟨#[42]⟩,.string ⟨#[47]⟩,.string ⟨#[37]⟩] 9)
 have HC:=hid (jword_any ⟨#[65,78,68]⟩ W)
 have HB:=hid hbW
 have HA:=hid hcA
 have kB:W.cell? ⟨w.heap.size+1,2,none⟩=some (.string ⟨#[65,78,68]⟩):=by rw[cell_row _ _ _ _ _ _ hcB];rfl
 clear hbW hcA hcB
 go_enter Tryz.func125,Tryz.ntmps125
 go_wp2_with fail
 try rw[hW]
 refine HC.out.mono ?_
 rintro e w1 ⟨rfl,hb1⟩
 have k1:=cells4J ((hb1.block w.heap.size (by omega)).trans HA.out)
 have HB1:Hid (Below w.heap.size w w1):=hid (HB.out.trans (hb1.mono HB.out.size))
 have hle:w.heap.size≤w.heap.size:=Nat.le_refl _
 clear hb1 HC hW
 go_wp2
 refine bodyPost_ret (v:=.agg #[.int .i64 2,.string ⟨#[65,78,68]⟩,.int .i64 0,.int .i64 0]) (by simp[results,Tryz.results125,go_sem,k1]) rfl ⟨rfl,?_⟩
 exact (((HB1.out.setCell (p:=⟨w.heap.size,0,none⟩) hle _).setCell (p:=⟨w.heap.size,1,none⟩) hle _).setCell (p:=⟨w.heap.size,2,none⟩) hle _).setCell (p:=⟨w.heap.size,3,none⟩) hle _
theorem jop_3 (w:World):Calls Tryz.prog 125 #[.int .i64 3] w fun e w'=>e = .returned (.agg #[.int .i64 5,.string ⟨#[61]⟩,.int .i64 0,.int .i64 0])∧Below w.heap.size w w':=by
 obtain⟨W,hW,hbW,hzW,hcA,hcB⟩:=two w (.cells #[.int .i64 0,.string ⟨#[]⟩,.int .i64 0,.int .i64 0] 119) (.cells #[.string ⟨#[]⟩,.string ⟨#[79,82]⟩,.string ⟨#[65,78,68]⟩,.string ⟨#[61]⟩,.string ⟨#[60,62]⟩,.string ⟨#[60]⟩,.string ⟨#[60,61]⟩,.string ⟨#[62]⟩,.string ⟨#[62,61]⟩,.string ⟨#[43]⟩,.string ⟨#[45]⟩,.string ⟨#[42]⟩,.string ⟨#[47]⟩,.string ⟨#[37]⟩] 9)
 have HC:=hid (jsign_any ⟨#[61]⟩ W)
 have HB:=hid hbW
 have HA:=hid hcA
 have kB:W.cell? ⟨w.heap.size+1,3,none⟩=some (.string ⟨#[61]⟩):=by rw[cell_row _ _ _ _ _ _ hcB];rfl
 clear hbW hcA hcB
 go_enter Tryz.func125,Tryz.ntmps125
 go_wp2_with fail
 try rw[hW]
 refine HC.out.mono ?_
 rintro e w1 ⟨rfl,hb1⟩
 have k1:=cells4J ((hb1.block w.heap.size (by omega)).trans HA.out)
 have HB1:Hid (Below w.heap.size w w1):=hid (HB.out.trans (hb1.mono HB.out.size))
 have hle:w.heap.size≤w.heap.size:=Nat.le_refl _
 clear hb1 HC hW
 go_wp2
 refine bodyPost_ret (v:=.agg #[.int .i64 5,.string ⟨#[61]⟩,.int .i64 0,.int .i64 0]) (by simp[results,Tryz.results125,go_sem,k1]) rfl ⟨rfl,?_⟩
 exact (((HB1.out.setCell (p:=⟨w.heap.size,0,none⟩) hle _).setCell (p:=⟨w.heap.size,1,none⟩) hle _).setCell (p:=⟨w.heap.size,2,none⟩) hle _).setCell (p:=⟨w.heap.size,3,none⟩) hle _
theorem jop_4 (w:World):Calls Tryz.prog 125 #[.int .i64 4] w fun e w'=>e = .returned (.agg #[.int .i64 5,.string ⟨#[60,62]⟩,.int .i64 0,.int .i64 0])∧Below w.heap.size w w':=by
 obtain⟨W,hW,hbW,hzW,hcA,hcB⟩:=two w (.cells #[.int .i64 0,.string ⟨#[]⟩,.int .i64 0,.int .i64 0] 119) (.cells #[.string ⟨#[]⟩,.string ⟨#[79,82]⟩,.string ⟨#[65,78,68]⟩,.string ⟨#[61]⟩,.string ⟨#[60,62]⟩,.string ⟨#[60]⟩,.string ⟨#[60,61]⟩,.string ⟨#[62]⟩,.string ⟨#[62,61]⟩,.string ⟨#[43]⟩,.string ⟨#[45]⟩,.string ⟨#[42]⟩,.string ⟨#[47]⟩,.string ⟨#[37]⟩] 9)
 have HC:=hid (jsign_any ⟨#[60,62]⟩ W)
 have HB:=hid hbW
 have HA:=hid hcA
 have kB:W.cell? ⟨w.heap.size+1,4,none⟩=some (.string ⟨#[60,62]⟩):=by rw[cell_row _ _ _ _ _ _ hcB];rfl
 clear hbW hcA hcB
 go_enter Tryz.func125,Tryz.ntmps125
 go_wp2_with fail
 try rw[hW]
 refine HC.out.mono ?_
 rintro e w1 ⟨rfl,hb1⟩
 have k1:=cells4J ((hb1.block w.heap.size (by omega)).trans HA.out)
 have HB1:Hid (Below w.heap.size w w1):=hid (HB.out.trans (hb1.mono HB.out.size))
 have hle:w.heap.size≤w.heap.size:=Nat.le_refl _
 clear hb1 HC hW
 go_wp2
 refine bodyPost_ret (v:=.agg #[.int .i64 5,.string ⟨#[60,62]⟩,.int .i64 0,.int .i64 0]) (by simp[results,Tryz.results125,go_sem,k1]) rfl ⟨rfl,?_⟩
 exact (((HB1.out.setCell (p:=⟨w.heap.size,0,none⟩) hle _).setCell (p:=⟨w.heap.size,1,none⟩) hle _).setCell (p:=⟨w.heap.size,2,none⟩) hle _).setCell (p:=⟨w.heap.size,3,none⟩) hle _
theorem jop_5 (w:World):Calls Tryz.prog 125 #[.int .i64 5] w fun e w'=>e = .returned (.agg #[.int .i64 5,.string ⟨#[60]⟩,.int .i64 0,.int .i64 0])∧Below w.heap.size w w':=by
 obtain⟨W,hW,hbW,hzW,hcA,hcB⟩:=two w (.cells #[.int .i64 0,.string ⟨#[]⟩,.int .i64 0,.int .i64 0] 119) (.cells #[.string ⟨#[]⟩,.string ⟨#[79,82]⟩,.string ⟨#[65,78,68]⟩,.string ⟨#[61]⟩,.string ⟨#[60,62]⟩,.string ⟨#[60]⟩,.string ⟨#[60,61]⟩,.string ⟨#[62]⟩,.string ⟨#[62,61]⟩,.string ⟨#[43]⟩,.string ⟨#[45]⟩,.string ⟨#[42]⟩,.string ⟨#[47]⟩,.string ⟨#[37]⟩] 9)
 have HC:=hid (jsign_any ⟨#[60]⟩ W)
 have HB:=hid hbW
 have HA:=hid hcA
 have kB:W.cell? ⟨w.heap.size+1,5,none⟩=some (.string ⟨#[60]⟩):=by rw[cell_row _ _ _ _ _ _ hcB];rfl
 clear hbW hcA hcB
 go_enter Tryz.func125,Tryz.ntmps125
 go_wp2_with fail
 try rw[hW]
 refine HC.out.mono ?_
 rintro e w1 ⟨rfl,hb1⟩
 have k1:=cells4J ((hb1.block w.heap.size (by omega)).trans HA.out)
 have HB1:Hid (Below w.heap.size w w1):=hid (HB.out.trans (hb1.mono HB.out.size))
 have hle:w.heap.size≤w.heap.size:=Nat.le_refl _
 clear hb1 HC hW
 go_wp2
 refine bodyPost_ret (v:=.agg #[.int .i64 5,.string ⟨#[60]⟩,.int .i64 0,.int .i64 0]) (by simp[results,Tryz.results125,go_sem,k1]) rfl ⟨rfl,?_⟩
 exact (((HB1.out.setCell (p:=⟨w.heap.size,0,none⟩) hle _).setCell (p:=⟨w.heap.size,1,none⟩) hle _).setCell (p:=⟨w.heap.size,2,none⟩) hle _).setCell (p:=⟨w.heap.size,3,none⟩) hle _
theorem jop_6 (w:World):Calls Tryz.prog 125 #[.int .i64 6] w fun e w'=>e = .returned (.agg #[.int .i64 5,.string ⟨#[60,61]⟩,.int .i64 0,.int .i64 0])∧Below w.heap.size w w':=by
 obtain⟨W,hW,hbW,hzW,hcA,hcB⟩:=two w (.cells #[.int .i64 0,.string ⟨#[]⟩,.int .i64 0,.int .i64 0] 119) (.cells #[.string ⟨#[]⟩,.string ⟨#[79,82]⟩,.string ⟨#[65,78,68]⟩,.string ⟨#[61]⟩,.string ⟨#[60,62]⟩,.string ⟨#[60]⟩,.string ⟨#[60,61]⟩,.string ⟨#[62]⟩,.string ⟨#[62,61]⟩,.string ⟨#[43]⟩,.string ⟨#[45]⟩,.string ⟨#[42]⟩,.string ⟨#[47]⟩,.string ⟨#[37]⟩] 9)
 have HC:=hid (jsign_any ⟨#[60,61]⟩ W)
 have HB:=hid hbW
 have HA:=hid hcA
 have kB:W.cell? ⟨w.heap.size+1,6,none⟩=some (.string ⟨#[60,61]⟩):=by rw[cell_row _ _ _ _ _ _ hcB];rfl
 clear hbW hcA hcB
 go_enter Tryz.func125,Tryz.ntmps125
 go_wp2_with fail
 try rw[hW]
 refine HC.out.mono ?_
 rintro e w1 ⟨rfl,hb1⟩
 have k1:=cells4J ((hb1.block w.heap.size (by omega)).trans HA.out)
 have HB1:Hid (Below w.heap.size w w1):=hid (HB.out.trans (hb1.mono HB.out.size))
 have hle:w.heap.size≤w.heap.size:=Nat.le_refl _
 clear hb1 HC hW
 go_wp2
 refine bodyPost_ret (v:=.agg #[.int .i64 5,.string ⟨#[60,61]⟩,.int .i64 0,.int .i64 0]) (by simp[results,Tryz.results125,go_sem,k1]) rfl ⟨rfl,?_⟩
 exact (((HB1.out.setCell (p:=⟨w.heap.size,0,none⟩) hle _).setCell (p:=⟨w.heap.size,1,none⟩) hle _).setCell (p:=⟨w.heap.size,2,none⟩) hle _).setCell (p:=⟨w.heap.size,3,none⟩) hle _
theorem jop_7 (w:World):Calls Tryz.prog 125 #[.int .i64 7] w fun e w'=>e = .returned (.agg #[.int .i64 5,.string ⟨#[62]⟩,.int .i64 0,.int .i64 0])∧Below w.heap.size w w':=by
 obtain⟨W,hW,hbW,hzW,hcA,hcB⟩:=two w (.cells #[.int .i64 0,.string ⟨#[]⟩,.int .i64 0,.int .i64 0] 119) (.cells #[.string ⟨#[]⟩,.string ⟨#[79,82]⟩,.string ⟨#[65,78,68]⟩,.string ⟨#[61]⟩,.string ⟨#[60,62]⟩,.string ⟨#[60]⟩,.string ⟨#[60,61]⟩,.string ⟨#[62]⟩,.string ⟨#[62,61]⟩,.string ⟨#[43]⟩,.string ⟨#[45]⟩,.string ⟨#[42]⟩,.string ⟨#[47]⟩,.string ⟨#[37]⟩] 9)
 have HC:=hid (jsign_any ⟨#[62]⟩ W)
 have HB:=hid hbW
 have HA:=hid hcA
 have kB:W.cell? ⟨w.heap.size+1,7,none⟩=some (.string ⟨#[62]⟩):=by rw[cell_row _ _ _ _ _ _ hcB];rfl
 clear hbW hcA hcB
 go_enter Tryz.func125,Tryz.ntmps125
 go_wp2_with fail
 try rw[hW]
 refine HC.out.mono ?_
 rintro e w1 ⟨rfl,hb1⟩
 have k1:=cells4J ((hb1.block w.heap.size (by omega)).trans HA.out)
 have HB1:Hid (Below w.heap.size w w1):=hid (HB.out.trans (hb1.mono HB.out.size))
 have hle:w.heap.size≤w.heap.size:=Nat.le_refl _
 clear hb1 HC hW
 go_wp2
 refine bodyPost_ret (v:=.agg #[.int .i64 5,.string ⟨#[62]⟩,.int .i64 0,.int .i64 0]) (by simp[results,Tryz.results125,go_sem,k1]) rfl ⟨rfl,?_⟩
 exact (((HB1.out.setCell (p:=⟨w.heap.size,0,none⟩) hle _).setCell (p:=⟨w.heap.size,1,none⟩) hle _).setCell (p:=⟨w.heap.size,2,none⟩) hle _).setCell (p:=⟨w.heap.size,3,none⟩) hle _
theorem jop_8 (w:World):Calls Tryz.prog 125 #[.int .i64 8] w fun e w'=>e = .returned (.agg #[.int .i64 5,.string ⟨#[62,61]⟩,.int .i64 0,.int .i64 0])∧Below w.heap.size w w':=by
 obtain⟨W,hW,hbW,hzW,hcA,hcB⟩:=two w (.cells #[.int .i64 0,.string ⟨#[]⟩,.int .i64 0,.int .i64 0] 119) (.cells #[.string ⟨#[]⟩,.string ⟨#[79,82]⟩,.string ⟨#[65,78,68]⟩,.string ⟨#[61]⟩,.string ⟨#[60,62]⟩,.string ⟨#[60]⟩,.string ⟨#[60,61]⟩,.string ⟨#[62]⟩,.string ⟨#[62,61]⟩,.string ⟨#[43]⟩,.string ⟨#[45]⟩,.string ⟨#[42]⟩,.string ⟨#[47]⟩,.string ⟨#[37]⟩] 9)
 have HC:=hid (jsign_any ⟨#[62,61]⟩ W)
 have HB:=hid hbW
 have HA:=hid hcA
 have kB:W.cell? ⟨w.heap.size+1,8,none⟩=some (.string ⟨#[62,61]⟩):=by rw[cell_row _ _ _ _ _ _ hcB];rfl
 clear hbW hcA hcB
 go_enter Tryz.func125,Tryz.ntmps125
 go_wp2_with fail
 try rw[hW]
 refine HC.out.mono ?_
 rintro e w1 ⟨rfl,hb1⟩
 have k1:=cells4J ((hb1.block w.heap.size (by omega)).trans HA.out)
 have HB1:Hid (Below w.heap.size w w1):=hid (HB.out.trans (hb1.mono HB.out.size))
 have hle:w.heap.size≤w.heap.size:=Nat.le_refl _
 clear hb1 HC hW
 go_wp2
 refine bodyPost_ret (v:=.agg #[.int .i64 5,.string ⟨#[62,61]⟩,.int .i64 0,.int .i64 0]) (by simp[results,Tryz.results125,go_sem,k1]) rfl ⟨rfl,?_⟩
 exact (((HB1.out.setCell (p:=⟨w.heap.size,0,none⟩) hle _).setCell (p:=⟨w.heap.size,1,none⟩) hle _).setCell (p:=⟨w.heap.size,2,none⟩) hle _).setCell (p:=⟨w.heap.size,3,none⟩) hle _
theorem jop_9 (w:World):Calls Tryz.prog 125 #[.int .i64 9] w fun e w'=>e = .returned (.agg #[.int .i64 5,.string ⟨#[43]⟩,.int .i64 0,.int .i64 0])∧Below w.heap.size w w':=by
 obtain⟨W,hW,hbW,hzW,hcA,hcB⟩:=two w (.cells #[.int .i64 0,.string ⟨#[]⟩,.int .i64 0,.int .i64 0] 119) (.cells #[.string ⟨#[]⟩,.string ⟨#[79,82]⟩,.string ⟨#[65,78,68]⟩,.string ⟨#[61]⟩,.string ⟨#[60,62]⟩,.string ⟨#[60]⟩,.string ⟨#[60,61]⟩,.string ⟨#[62]⟩,.string ⟨#[62,61]⟩,.string ⟨#[43]⟩,.string ⟨#[45]⟩,.string ⟨#[42]⟩,.string ⟨#[47]⟩,.string ⟨#[37]⟩] 9)
 have HC:=hid (jsign_any ⟨#[43]⟩ W)
 have HB:=hid hbW
 have HA:=hid hcA
 have kB:W.cell? ⟨w.heap.size+1,9,none⟩=some (.string ⟨#[43]⟩):=by rw[cell_row _ _ _ _ _ _ hcB];rfl
 clear hbW hcA hcB
 go_enter Tryz.func125,Tryz.ntmps125
 go_wp2_with fail
 try rw[hW]
 refine HC.out.mono ?_
 rintro e w1 ⟨rfl,hb1⟩
 have k1:=cells4J ((hb1.block w.heap.size (by omega)).trans HA.out)
 have HB1:Hid (Below w.heap.size w w1):=hid (HB.out.trans (hb1.mono HB.out.size))
 have hle:w.heap.size≤w.heap.size:=Nat.le_refl _
 clear hb1 HC hW
 go_wp2
 refine bodyPost_ret (v:=.agg #[.int .i64 5,.string ⟨#[43]⟩,.int .i64 0,.int .i64 0]) (by simp[results,Tryz.results125,go_sem,k1]) rfl ⟨rfl,?_⟩
 exact (((HB1.out.setCell (p:=⟨w.heap.size,0,none⟩) hle _).setCell (p:=⟨w.heap.size,1,none⟩) hle _).setCell (p:=⟨w.heap.size,2,none⟩) hle _).setCell (p:=⟨w.heap.size,3,none⟩) hle _
theorem jop_10 (w:World):Calls Tryz.prog 125 #[.int .i64 10] w fun e w'=>e = .returned (.agg #[.int .i64 5,.string ⟨#[45]⟩,.int .i64 0,.int .i64 0])∧Below w.heap.size w w':=by
 obtain⟨W,hW,hbW,hzW,hcA,hcB⟩:=two w (.cells #[.int .i64 0,.string ⟨#[]⟩,.int .i64 0,.int .i64 0] 119) (.cells #[.string ⟨#[]⟩,.string ⟨#[79,82]⟩,.string ⟨#[65,78,68]⟩,.string ⟨#[61]⟩,.string ⟨#[60,62]⟩,.string ⟨#[60]⟩,.string ⟨#[60,61]⟩,.string ⟨#[62]⟩,.string ⟨#[62,61]⟩,.string ⟨#[43]⟩,.string ⟨#[45]⟩,.string ⟨#[42]⟩,.string ⟨#[47]⟩,.string ⟨#[37]⟩] 9)
 have HC:=hid (jsign_any ⟨#[45]⟩ W)
 have HB:=hid hbW
 have HA:=hid hcA
 have kB:W.cell? ⟨w.heap.size+1,10,none⟩=some (.string ⟨#[45]⟩):=by rw[cell_row _ _ _ _ _ _ hcB];rfl
 clear hbW hcA hcB
 go_enter Tryz.func125,Tryz.ntmps125
 go_wp2_with fail
 try rw[hW]
 refine HC.out.mono ?_
 rintro e w1 ⟨rfl,hb1⟩
 have k1:=cells4J ((hb1.block w.heap.size (by omega)).trans HA.out)
 have HB1:Hid (Below w.heap.size w w1):=hid (HB.out.trans (hb1.mono HB.out.size))
 have hle:w.heap.size≤w.heap.size:=Nat.le_refl _
 clear hb1 HC hW
 go_wp2
 refine bodyPost_ret (v:=.agg #[.int .i64 5,.string ⟨#[45]⟩,.int .i64 0,.int .i64 0]) (by simp[results,Tryz.results125,go_sem,k1]) rfl ⟨rfl,?_⟩
 exact (((HB1.out.setCell (p:=⟨w.heap.size,0,none⟩) hle _).setCell (p:=⟨w.heap.size,1,none⟩) hle _).setCell (p:=⟨w.heap.size,2,none⟩) hle _).setCell (p:=⟨w.heap.size,3,none⟩) hle _
theorem jop_11 (w:World):Calls Tryz.prog 125 #[.int .i64 11] w fun e w'=>e = .returned (.agg #[.int .i64 5,.string ⟨#[42]⟩,.int .i64 0,.int .i64 0])∧Below w.heap.size w w':=by
 obtain⟨W,hW,hbW,hzW,hcA,hcB⟩:=two w (.cells #[.int .i64 0,.string ⟨#[]⟩,.int .i64 0,.int .i64 0] 119) (.cells #[.string ⟨#[]⟩,.string ⟨#[79,82]⟩,.string ⟨#[65,78,68]⟩,.string ⟨#[61]⟩,.string ⟨#[60,62]⟩,.string ⟨#[60]⟩,.string ⟨#[60,61]⟩,.string ⟨#[62]⟩,.string ⟨#[62,61]⟩,.string ⟨#[43]⟩,.string ⟨#[45]⟩,.string ⟨#[42]⟩,.string ⟨#[47]⟩,.string ⟨#[37]⟩] 9)
 have HC:=hid (jsign_any ⟨#[42]⟩ W)
 have HB:=hid hbW
 have HA:=hid hcA
 have kB:W.cell? ⟨w.heap.size+1,11,none⟩=some (.string ⟨#[42]⟩):=by rw[cell_row _ _ _ _ _ _ hcB];rfl
 clear hbW hcA hcB
 go_enter Tryz.func125,Tryz.ntmps125
 go_wp2_with fail
 try rw[hW]
 refine HC.out.mono ?_
 rintro e w1 ⟨rfl,hb1⟩
 have k1:=cells4J ((hb1.block w.heap.size (by omega)).trans HA.out)
 have HB1:Hid (Below w.heap.size w w1):=hid (HB.out.trans (hb1.mono HB.out.size))
 have hle:w.heap.size≤w.heap.size:=Nat.le_refl _
 clear hb1 HC hW
 go_wp2
 refine bodyPost_ret (v:=.agg #[.int .i64 5,.string ⟨#[42]⟩,.int .i64 0,.int .i64 0]) (by simp[results,Tryz.results125,go_sem,k1]) rfl ⟨rfl,?_⟩
 exact (((HB1.out.setCell (p:=⟨w.heap.size,0,none⟩) hle _).setCell (p:=⟨w.heap.size,1,none⟩) hle _).setCell (p:=⟨w.heap.size,2,none⟩) hle _).setCell (p:=⟨w.heap.size,3,none⟩) hle _
theorem jop_12 (w:World):Calls Tryz.prog 125 #[.int .i64 12] w fun e w'=>e = .returned (.agg #[.int .i64 5,.string ⟨#[47]⟩,.int .i64 0,.int .i64 0])∧Below w.heap.size w w':=by
 obtain⟨W,hW,hbW,hzW,hcA,hcB⟩:=two w (.cells #[.int .i64 0,.string ⟨#[]⟩,.int .i64 0,.int .i64 0] 119) (.cells #[.string ⟨#[]⟩,.string ⟨#[79,82]⟩,.string ⟨#[65,78,68]⟩,.string ⟨#[61]⟩,.string ⟨#[60,62]⟩,.string ⟨#[60]⟩,.string ⟨#[60,61]⟩,.string ⟨#[62]⟩,.string ⟨#[62,61]⟩,.string ⟨#[43]⟩,.string ⟨#[45]⟩,.string ⟨#[42]⟩,.string ⟨#[47]⟩,.string ⟨#[37]⟩] 9)
 have HC:=hid (jsign_any ⟨#[47]⟩ W)
 have HB:=hid hbW
 have HA:=hid hcA
 have kB:W.cell? ⟨w.heap.size+1,12,none⟩=some (.string ⟨#[47]⟩):=by rw[cell_row _ _ _ _ _ _ hcB];rfl
 clear hbW hcA hcB
 go_enter Tryz.func125,Tryz.ntmps125
 go_wp2_with fail
 try rw[hW]
 refine HC.out.mono ?_
 rintro e w1 ⟨rfl,hb1⟩
 have k1:=cells4J ((hb1.block w.heap.size (by omega)).trans HA.out)
 have HB1:Hid (Below w.heap.size w w1):=hid (HB.out.trans (hb1.mono HB.out.size))
 have hle:w.heap.size≤w.heap.size:=Nat.le_refl _
 clear hb1 HC hW
 go_wp2
 refine bodyPost_ret (v:=.agg #[.int .i64 5,.string ⟨#[47]⟩,.int .i64 0,.int .i64 0]) (by simp[results,Tryz.results125,go_sem,k1]) rfl ⟨rfl,?_⟩
 exact (((HB1.out.setCell (p:=⟨w.heap.size,0,none⟩) hle _).setCell (p:=⟨w.heap.size,1,none⟩) hle _).setCell (p:=⟨w.heap.size,2,none⟩) hle _).setCell (p:=⟨w.heap.size,3,none⟩) hle _
theorem jop_13 (w:World):Calls Tryz.prog 125 #[.int .i64 13] w fun e w'=>e = .returned (.agg #[.int .i64 5,.string ⟨#[37]⟩,.int .i64 0,.int .i64 0])∧Below w.heap.size w w':=by
 obtain⟨W,hW,hbW,hzW,hcA,hcB⟩:=two w (.cells #[.int .i64 0,.string ⟨#[]⟩,.int .i64 0,.int .i64 0] 119) (.cells #[.string ⟨#[]⟩,.string ⟨#[79,82]⟩,.string ⟨#[65,78,68]⟩,.string ⟨#[61]⟩,.string ⟨#[60,62]⟩,.string ⟨#[60]⟩,.string ⟨#[60,61]⟩,.string ⟨#[62]⟩,.string ⟨#[62,61]⟩,.string ⟨#[43]⟩,.string ⟨#[45]⟩,.string ⟨#[42]⟩,.string ⟨#[47]⟩,.string ⟨#[37]⟩] 9)
 have HC:=hid (jsign_any ⟨#[37]⟩ W)
 have HB:=hid hbW
 have HA:=hid hcA
 have kB:W.cell? ⟨w.heap.size+1,13,none⟩=some (.string ⟨#[37]⟩):=by rw[cell_row _ _ _ _ _ _ hcB];rfl
 clear hbW hcA hcB
 go_enter Tryz.func125,Tryz.ntmps125
 go_wp2_with fail
 try rw[hW]
 refine HC.out.mono ?_
 rintro e w1 ⟨rfl,hb1⟩
 have k1:=cells4J ((hb1.block w.heap.size (by omega)).trans HA.out)
 have HB1:Hid (Below w.heap.size w w1):=hid (HB.out.trans (hb1.mono HB.out.size))
 have hle:w.heap.size≤w.heap.size:=Nat.le_refl _
 clear hb1 HC hW
 go_wp2
 refine bodyPost_ret (v:=.agg #[.int .i64 5,.string ⟨#[37]⟩,.int .i64 0,.int .i64 0]) (by simp[results,Tryz.results125,go_sem,k1]) rfl ⟨rfl,?_⟩
 exact (((HB1.out.setCell (p:=⟨w.heap.size,0,none⟩) hle _).setCell (p:=⟨w.heap.size,1,none⟩) hle _).setCell (p:=⟨w.heap.size,2,none⟩) hle _).setCell (p:=⟨w.heap.size,3,none⟩) hle _
theorem jop_any (o:Int) (h1:1≤o) (h2:o≤13) (w:World):Calls Tryz.prog 125 #[.int .i64 o] w fun e w'=>e = .returned (tokV (fxT (opTx o)))∧Below w.heap.size w w':=by
 rcases op_tab o h1 h2 with rfl | rfl | rfl | rfl | rfl | rfl | rfl | rfl | rfl | rfl | rfl | rfl | rfl
 ·exact jop_1 w
 ·exact jop_2 w
 ·exact jop_3 w
 ·exact jop_4 w
 ·exact jop_5 w
 ·exact jop_6 w
 ·exact jop_7 w
 ·exact jop_8 w
 ·exact jop_9 w
 ·exact jop_10 w
 ·exact jop_11 w
 ·exact jop_12 w
 ·exact jop_13 w
theorem opLv_ranges (o:Int) (h1:1≤o) (h2:o≤13):(o≤2∧((opLv o:Nat):Int)+1=o)∨(¬o≤2∧o≤8∧opLv o=3)∨(¬o≤2∧¬o≤8∧o≤10∧opLv o=4)∨(¬o≤2∧¬o≤8∧¬o≤10∧opLv o=5):=by
 rcases op_tab o h1 h2 with rfl | rfl | rfl | rfl | rfl | rfl | rfl | rfl | rfl | rfl | rfl | rfl | rfl<;>decide
theorem jlevel_any (S:Nat→Prop) (t:Tm) (hok:t.ok) (v:Value) (w:World) (hx:ExV S w t.ex v) :
  Calls Tryz.prog 124 #[v] w fun e w'=>e = .returned (.int .i64 ((t.lv:Int)+1))∧Below w.heap.size w w':=by
 obtain⟨k,op,tb,nm,vk,vn,vs,ys,aa,nn,cc,he,rfl,ha⟩:=hx
 obtain⟨W,hW,hbW,hzW,hcW⟩:=box8 w (.cells #[.int .i64 k,.int .i64 op,.string (str8 tb),.string (str8 nm),.int .i64 vk,.int .i64 vn,.string (str8 vs),.slice aa nn cc] 26)
 have k0:=cells8 hcW
 have HB:=hid hbW
 cases t with
 |
  val x =>
  simp only[Tm.ex,exVal,Ex.mk.injEq] at he
  obtain⟨rfl,-⟩:=he
  clear hcW hbW ha
  go_enter Tryz.func124,Tryz.ntmps124
  go_wp2
  go_ret
  exact⟨rfl,HB.out⟩
 |
  col x y =>
  simp only[Tm.ex,exCol,Ex.mk.injEq] at he
  obtain⟨rfl,-⟩:=he
  clear hcW hbW ha
  go_enter Tryz.func124,Tryz.ntmps124
  go_wp2
  go_ret
  exact⟨rfl,HB.out⟩
 |
  neg a =>
  simp only[Tm.ex,exOf,Ex.mk.injEq] at he
  obtain⟨rfl,-⟩:=he
  clear hcW hbW ha
  go_enter Tryz.func124,Tryz.ntmps124
  go_wp2
  go_ret
  exact⟨rfl,HB.out⟩
 |
  nul a =>
  simp only[Tm.ex,exOf,Ex.mk.injEq] at he
  obtain⟨rfl,-⟩:=he
  clear hcW hbW ha
  go_enter Tryz.func124,Tryz.ntmps124
  go_wp2
  go_ret
  exact⟨rfl,HB.out⟩
 |
  op o a b =>
  simp only[Tm.ex,exOp,Ex.mk.injEq] at he
  obtain⟨rfl,rfl,-⟩:=he
  have hr:=opLv_ranges o hok.1 hok.2.1
  show Calls Tryz.prog 124 _ _ fun e w'=>e = .returned (.int .i64 ((opLv o:Int)+1))∧_
  generalize opLv o=lv at hr ⊢
  clear hcW hbW ha hok
  rcases hr with⟨h1,h2⟩ | ⟨h1,h2,rfl⟩ | ⟨h1,h2,h3,rfl⟩ | ⟨h1,h2,h3,rfl⟩
  ·rw[h2]
   clear h2
   go_enter Tryz.func124,Tryz.ntmps124
   go_wp2
   go_ret
   exact⟨rfl,HB.out⟩
  ·go_enter Tryz.func124,Tryz.ntmps124
   go_wp2
   go_ret
   exact⟨rfl,HB.out⟩
  ·go_enter Tryz.func124,Tryz.ntmps124
   go_wp2
   go_ret
   exact⟨rfl,HB.out⟩
  ·go_enter Tryz.func124,Tryz.ntmps124
   go_wp2
   go_ret
   exact⟨rfl,HB.out⟩
 |
  not a =>
  simp only[Tm.ex,exOf,Ex.mk.injEq] at he
  obtain⟨rfl,rfl,rfl,rfl,hv,rfl⟩:=he
  have h6:exKind a.ex≠6:=kind_isNul a hok.1
  obtain⟨h1,h2,h3,b,off,k1,op1,tb1,nm1,vk1,vn1,vs1,ys1,a1,n1,c1,hae,rfl,_,h7,_⟩:=args_get0 (ha.new hbW)
  unfold Cells8 at h7
  rw[List.length_nil,Nat.zero_add] at h1
  subst h1
  unfold maxLen at h3
  rw[hae] at h6
  have h6':(k1==6)=false:=by rw[beq_eq_false_iff_ne];exact h6
  clear hcW hbW ha hok hv h6 hae
  go_enter Tryz.func124,Tryz.ntmps124
  go_wp2
  go_ret
  exact⟨rfl,HB.out⟩
 |
  nnul a =>
  simp only[Tm.ex,exOf,Ex.mk.injEq] at he
  obtain⟨rfl,rfl,rfl,rfl,hv,rfl⟩:=he
  obtain⟨h1,h2,h3,b,off,k1,op1,tb1,nm1,vk1,vn1,vs1,ys1,a1,n1,c1,hae,rfl,_,h7,_⟩:=args_get0 (ha.new hbW)
  unfold Cells8 at h7
  rw[List.length_nil,Nat.zero_add] at h1
  subst h1
  unfold maxLen at h3
  simp only[Ex.mk.injEq] at hae
  obtain⟨rfl,-⟩:=hae
  clear hcW hbW ha hok hv
  go_enter Tryz.func124,Tryz.ntmps124
  go_wp2
  go_ret
  exact⟨rfl,HB.out⟩
end Go.Proofs.YtnidnipiihhnaaaGreatDoor
