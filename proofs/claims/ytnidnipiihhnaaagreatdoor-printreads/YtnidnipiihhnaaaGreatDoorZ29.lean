/- Packed for the hand-in: PSameA -/
import Derived.Test.YtnidnipiihhnaaaGreatDoorZ28
namespace Go.Proofs.YtnidnipiihhnaaaGreatDoor
open Go.RowKit Go.Shelf
set_option linter.unusedSimpArgs false
set_option linter.unusedVariables false
set_option maxRecDepth 20000
set_option maxHeartbeats 8000000
theorem au {w:World} {g:Nat} {d0 d1 d2 d3 d4 d5 d6 d7 d8 d9 d10 d11 d12 d13:Value} {t:TypeId} (h:w.heap[g]?=some (.cells #[d0,d1,d2,d3,d4,d5,d6,d7,d8,d9,d10,d11,d12,d13] t)) :
  w.cell? ⟨g,0,none⟩=some d0∧w.cell? ⟨g,1,none⟩=some d1∧w.cell? ⟨g,2,none⟩=some d2∧w.cell? ⟨g,3,none⟩=some d3∧w.cell? ⟨g,4,none⟩=some d4∧w.cell? ⟨g,5,none⟩=some d5∧w.cell? ⟨g,6,none⟩=some d6∧w.cell? ⟨g,7,none⟩=some d7∧w.cell? ⟨g,8,none⟩=some d8∧w.cell? ⟨g,9,none⟩=some d9∧w.cell? ⟨g,10,none⟩=some d10∧w.cell? ⟨g,11,none⟩=some d11∧w.cell? ⟨g,12,none⟩=some d12∧w.cell? ⟨g,13,none⟩=some d13 :=
 ⟨by rw[aD _ _ _ _ _ _ h];rfl,by rw[aD _ _ _ _ _ _ h];rfl,by rw[aD _ _ _ _ _ _ h];rfl,by rw[aD _ _ _ _ _ _ h];rfl,by rw[aD _ _ _ _ _ _ h];rfl,by rw[aD _ _ _ _ _ _ h];rfl,by rw[aD _ _ _ _ _ _ h];rfl,by rw[aD _ _ _ _ _ _ h];rfl,by rw[aD _ _ _ _ _ _ h];rfl,by rw[aD _ _ _ _ _ _ h];rfl,by rw[aD _ _ _ _ _ _ h];rfl,by rw[aD _ _ _ _ _ _ h];rfl,by rw[aD _ _ _ _ _ _ h];rfl,by rw[aD _ _ _ _ _ _ h];rfl⟩
theorem En (S T:Nat→Prop) (W:World) (xk xli:Int) (xtb xpr xjn:List UInt8) (xde:Bool) (ycols:List Co) (yrows:List (List Vl)) (ysets:List Se) (yitems:List It) (yon ywh ygr yod:List Ex)
  (a1 a2 a3 a4 a5 a6 a7 a8:Option Addr) (m1 m2 m3 m4 m5 m6 m7 m8 c1 c2 c3 c4 c5 c6 c7 c8:Nat) (a1' a2' a3' a4' a5' a6' a7' a8':Option Addr) (m1' m2' m3' m4' m5' m6' m7' m8' c1' c2' c3' c4' c5' c6' c7' c8':Nat)
  (h1:bJ 4 lC S W ycols (.slice a1 m1 c1)) (k1:bJ 4 lC T W ycols (.slice a1' m1' c1'))
  (h2:bJ 1 wE S W yrows (.slice a2 m2 c2)) (k2:bJ 1 wE T W yrows (.slice a2' m2' c2'))
  (h3:bJ 9 sP S W ysets (.slice a3 m3 c3)) (k3:bJ 9 sP T W ysets (.slice a3' m3' c3'))
  (h4:bJ 2 sM S W yitems (.slice a4 m4 c4)) (k4:bJ 2 sM T W yitems (.slice a4' m4' c4'))
  (h5:aO S W yon (.slice a5 m5 c5)) (k5:aO T W yon (.slice a5' m5' c5'))
  (h6:aO S W ywh (.slice a6 m6 c6)) (k6:aO T W ywh (.slice a6' m6' c6'))
  (h7:aO S W ygr (.slice a7 m7 c7)) (k7:aO T W ygr (.slice a7' m7' c7'))
  (h8:aO S W yod (.slice a8 m8 c8)) (k8:aO T W yod (.slice a8' m8' c8')) :
  Calls Tryz.prog 41 #[.agg #[.int .i64 xk,.string (aj xtb),.slice a1 m1 c1,.string (aj xpr),.slice a2 m2 c2,.slice a3 m3 c3,.slice a4 m4 c4,.string (aj xjn),.slice a5 m5 c5,.slice a6 m6 c6,.slice a7 m7 c7,.slice a8 m8 c8,.bool xde,.int .i64 xli],.agg #[.int .i64 xk,.string (aj xtb),.slice a1' m1' c1',.string (aj xpr),.slice a2' m2' c2',.slice a3' m3' c3',.slice a4' m4' c4',.string (aj xjn),.slice a5' m5' c5',.slice a6' m6' c6',.slice a7' m7' c7',.slice a8' m8' c8',.bool xde,.int .i64 xli]] W fun e w'=>e = .returned (.bool true)∧Below W.heap.size W w':=by
 obtain⟨U,hU,hbU,hzU,hcA,hcB⟩:=two W (.cells #[.int .i64 xk,.string (aj xtb),.slice a1 m1 c1,.string (aj xpr),.slice a2 m2 c2,.slice a3 m3 c3,.slice a4 m4 c4,.string (aj xjn),.slice a5 m5 c5,.slice a6 m6 c6,.slice a7 m7 c7,.slice a8 m8 c8,.bool xde,.int .i64 xli] 42) (.cells #[.int .i64 xk,.string (aj xtb),.slice a1' m1' c1',.string (aj xpr),.slice a2' m2' c2',.slice a3' m3' c3',.slice a4' m4' c4',.string (aj xjn),.slice a5' m5' c5',.slice a6' m6' c6',.slice a7' m7' c7',.slice a8' m8' c8',.bool xde,.int .i64 xli] 42)
 have HC1:=hid (fun V (hV:Below W.heap.size W V)=>zk S T _ _ _ V (h1.to (by decide) (R:=fun _=>False) (ay.aA hV) (fun b hb _=>⟨id,hb⟩) (fun _ _ e=>e)) (k1.to (by decide) (R:=fun _=>False) (ay.aA hV) (fun b hb _=>⟨id,hb⟩) (fun _ _ e=>e)))
 have HC2:=hid (fun V (hV:Below W.heap.size W V)=>xH S T _ _ _ V (h2.to (by decide) (R:=fun _=>False) (ay.aA hV) (fun b hb _=>⟨id,hb⟩) (fun _ _ e=>e.to (R:=fun _=>False) (ay.aA hV) (fun b hb _=>⟨id,hb⟩))) (k2.to (by decide) (R:=fun _=>False) (ay.aA hV) (fun b hb _=>⟨id,hb⟩) (fun _ _ e=>e.to (R:=fun _=>False) (ay.aA hV) (fun b hb _=>⟨id,hb⟩))))
 have HC3:=hid (fun V (hV:Below W.heap.size W V)=>F5 S T _ _ _ V (h3.to (by decide) (R:=fun _=>False) (ay.aA hV) (fun b hb _=>⟨id,hb⟩) (fun _ _ e=>e.to (R:=fun _=>False) (ay.aA hV) (fun b hb _=>⟨id,hb⟩))) (k3.to (by decide) (R:=fun _=>False) (ay.aA hV) (fun b hb _=>⟨id,hb⟩) (fun _ _ e=>e.to (R:=fun _=>False) (ay.aA hV) (fun b hb _=>⟨id,hb⟩))))
 have HC4:=hid (fun V (hV:Below W.heap.size W V)=>Eo S T _ _ _ V (h4.to (by decide) (R:=fun _=>False) (ay.aA hV) (fun b hb _=>⟨id,hb⟩) (fun _ _ e=>e.to (R:=fun _=>False) (ay.aA hV) (fun b hb _=>⟨id,hb⟩))) (k4.to (by decide) (R:=fun _=>False) (ay.aA hV) (fun b hb _=>⟨id,hb⟩) (fun _ _ e=>e.to (R:=fun _=>False) (ay.aA hV) (fun b hb _=>⟨id,hb⟩))))
 have HC5:=hid (fun V (hV:Below W.heap.size W V)=>fG S T V _ _ (h5.to (R:=fun _=>False) (ay.aA hV) (fun b hb _=>⟨id,hb⟩)) V _ (Below.refl _ _) (k5.to (R:=fun _=>False) (ay.aA hV) (fun b hb _=>⟨id,hb⟩)))
 have HC6:=hid (fun V (hV:Below W.heap.size W V)=>fG S T V _ _ (h6.to (R:=fun _=>False) (ay.aA hV) (fun b hb _=>⟨id,hb⟩)) V _ (Below.refl _ _) (k6.to (R:=fun _=>False) (ay.aA hV) (fun b hb _=>⟨id,hb⟩)))
 have HC7:=hid (fun V (hV:Below W.heap.size W V)=>fG S T V _ _ (h7.to (R:=fun _=>False) (ay.aA hV) (fun b hb _=>⟨id,hb⟩)) V _ (Below.refl _ _) (k7.to (R:=fun _=>False) (ay.aA hV) (fun b hb _=>⟨id,hb⟩)))
 have HC8:=hid (fun V (hV:Below W.heap.size W V)=>fG S T V _ _ (h8.to (R:=fun _=>False) (ay.aA hV) (fun b hb _=>⟨id,hb⟩)) V _ (Below.refl _ _) (k8.to (R:=fun _=>False) (ay.aA hV) (fun b hb _=>⟨id,hb⟩)))
 have HB0:=hid hbU
 have HFA:=hid (fun V (hV:Below U.heap.size U V)=>au ((hV.block W.heap.size (by omega)).trans hcA))
 have HFB:=hid (fun V (hV:Below U.heap.size U V)=>au ((hV.block (W.heap.size+1) (by omega)).trans hcB))
 have kA0:=HFA.out U (Below.refl _ _)
 have kB0:=HFB.out U (Below.refl _ _)
 have HU0:Hid (Below U.heap.size U U):=hid (Below.refl _ _)
 have e1:((aj xtb).toList==(aj xtb).toList)=true:=by simp
 have e2:((aj xpr).toList==(aj xpr).toList)=true:=by simp
 have e3:((aj xjn).toList==(aj xjn).toList)=true:=by simp
 have e4:(xde==xde)=true:=by simp
 clear hbU hcA hcB h1 k1 h2 k2 h3 k3 h4 k4 h5 k5 h6 k6 h7 k7 h8 k8
 go_enter Tryz.func41,Tryz.ntmps41
 go_wp2_with fail
 try rw[hU]
 clear hU
 refine (HC1.out U HB0.out).mono ?_
 rintro e w1 ⟨rfl,hb1⟩
 have HB1:=hid (HB0.out.trans (hb1.mono HB0.out.size))
 have HU1:=hid (HU0.out.trans (hb1.mono HU0.out.size))
 have kA1:=HFA.out w1 HU1.out
 have kB1:=HFB.out w1 HU1.out
 clear hb1 HC1 kA0 kB0
 go_wp2_with fail
 refine (HC2.out w1 HB1.out).mono ?_
 rintro e w2 ⟨rfl,hb2⟩
 have HB2:=hid (HB1.out.trans (hb2.mono HB1.out.size))
 have HU2:=hid (HU1.out.trans (hb2.mono HU1.out.size))
 have kA2:=HFA.out w2 HU2.out
 have kB2:=HFB.out w2 HU2.out
 clear hb2 HC2 kA1 kB1
 go_wp2_with fail
 refine (HC3.out w2 HB2.out).mono ?_
 rintro e w3 ⟨rfl,hb3⟩
 have HB3:=hid (HB2.out.trans (hb3.mono HB2.out.size))
 have HU3:=hid (HU2.out.trans (hb3.mono HU2.out.size))
 have kA3:=HFA.out w3 HU3.out
 have kB3:=HFB.out w3 HU3.out
 clear hb3 HC3 kA2 kB2
 go_wp2_with fail
 refine (HC4.out w3 HB3.out).mono ?_
 rintro e w4 ⟨rfl,hb4⟩
 have HB4:=hid (HB3.out.trans (hb4.mono HB3.out.size))
 have HU4:=hid (HU3.out.trans (hb4.mono HU3.out.size))
 have kA4:=HFA.out w4 HU4.out
 have kB4:=HFB.out w4 HU4.out
 clear hb4 HC4 kA3 kB3
 go_wp2_with fail
 refine (HC5.out w4 HB4.out).mono ?_
 rintro e w5 ⟨rfl,hb5⟩
 have HB5:=hid (HB4.out.trans (hb5.mono HB4.out.size))
 have HU5:=hid (HU4.out.trans (hb5.mono HU4.out.size))
 have kA5:=HFA.out w5 HU5.out
 have kB5:=HFB.out w5 HU5.out
 clear hb5 HC5 kA4 kB4
 go_wp2_with fail
 refine (HC6.out w5 HB5.out).mono ?_
 rintro e w6 ⟨rfl,hb6⟩
 have HB6:=hid (HB5.out.trans (hb6.mono HB5.out.size))
 have HU6:=hid (HU5.out.trans (hb6.mono HU5.out.size))
 have kA6:=HFA.out w6 HU6.out
 have kB6:=HFB.out w6 HU6.out
 clear hb6 HC6 kA5 kB5
 go_wp2_with fail
 refine (HC7.out w6 HB6.out).mono ?_
 rintro e w7 ⟨rfl,hb7⟩
 have HB7:=hid (HB6.out.trans (hb7.mono HB6.out.size))
 have HU7:=hid (HU6.out.trans (hb7.mono HU6.out.size))
 have kA7:=HFA.out w7 HU7.out
 have kB7:=HFB.out w7 HU7.out
 clear hb7 HC7 kA6 kB6
 go_wp2_with fail
 refine (HC8.out w7 HB7.out).mono ?_
 rintro e w8 ⟨rfl,hb8⟩
 have HB8:=hid (HB7.out.trans (hb8.mono HB7.out.size))
 have HU8:=hid (HU7.out.trans (hb8.mono HU7.out.size))
 have kA8:=HFA.out w8 HU8.out
 have kB8:=HFB.out w8 HU8.out
 clear hb8 HC8 kA7 kB7
 go_wp2
 go_ret
 exact⟨by simp,HB8.out⟩
theorem nN (S T:Nat→Prop) (v u:Value) (xs:List St) (w:World) (hv:bJ 14 nE S w xs v) (hu:bJ 14 nE T w xs u) :
  Calls Tryz.prog 19 #[v,u] w fun e w'=>e = .returned (.bool true)∧Below w.heap.size w w':=by
 by_cases hne:xs=[]
 ·subst hne
  obtain⟨a,c,rfl⟩:=hv.form
  obtain⟨a',c',rfl⟩:=hu.form
  clear hv hu
  go_enter Tryz.func19,Tryz.ntmps19
  go_wp2_with fail
  go_rounds 1
  go_ret
  exact⟨rfl,Below.refl _ _⟩
 ·obtain⟨b,off,c,rfl,hlc,hc,hel⟩:=hv.opened (by decide) hne
  obtain⟨b',off',c',rfl,hlc',hc',hel'⟩:=hu.opened (by decide) hne
  unfold maxLen at hc hc'
  have HA:=hid hel
  have HA':=hid hel'
  clear hv hu hel hel'
  go_enter Tryz.func19,Tryz.ntmps19
  go_wp2_with fail
  go_loopw [5,6] (fun i _ wr=>∃k:Nat,k≤xs.length∧i = .int .i64 k∧Below w.heap.size w wr) (fun i _ _=>xs.length-(intOf i).toNat)
  case atStart=>exact⟨0,Nat.zero_le _,rfl,Below.refl _ _⟩
  case round =>
   obtain⟨j,hj,rfl,hbel⟩:=hrel
   by_cases hlt:j<xs.length
   ·obtain⟨x,hx⟩:∃x,xs[j]?=some x:=⟨_,List.getElem?_eq_getElem hlt⟩
    have hlt':((j:Int)<(xs.length:Int)):=by omega
    obtain⟨cs,hE,hcl⟩:=HA.out j x hx
    obtain⟨cs',hE',hcl'⟩:=HA'.out j x hx
    obtain⟨xk,xtb,ycols,xpr,yrows,ysets,yitems,xjn,yon,ywh,ygr,yod,xde,xli⟩:=x
    obtain⟨a1,a2,a3,a4,a5,a6,a7,a8,m1,m2,m3,m4,m5,m6,m7,m8,c1,c2,c3,c4,c5,c6,c7,c8,hcs,h1,h2,h3,h4,h5,h6,h7,h8⟩:=hE
    obtain⟨a1',a2',a3',a4',a5',a6',a7',a8',m1',m2',m3',m4',m5',m6',m7',m8',c1',c2',c3',c4',c5',c6',c7',c8',hcs',k1,k2,k3,k4,k5,k6,k7,k8⟩:=hE'
    dsimp only at hcs hcs' h1 h2 h3 h4 h5 h6 h7 h8 k1 k2 k3 k4 k5 k6 k7 k8
    subst hcs hcs'
    have p0:=hcl wr hbel 0 _ rfl
    have p1:=hcl wr hbel 1 _ rfl
    have p2:=hcl wr hbel 2 _ rfl
    have p3:=hcl wr hbel 3 _ rfl
    have p4:=hcl wr hbel 4 _ rfl
    have p5:=hcl wr hbel 5 _ rfl
    have p6:=hcl wr hbel 6 _ rfl
    have p7:=hcl wr hbel 7 _ rfl
    have p8:=hcl wr hbel 8 _ rfl
    have p9:=hcl wr hbel 9 _ rfl
    have p10:=hcl wr hbel 10 _ rfl
    have p11:=hcl wr hbel 11 _ rfl
    have p12:=hcl wr hbel 12 _ rfl
    have p13:=hcl wr hbel 13 _ rfl
    rw[Nat.add_zero] at p0
    have q0:=hcl' wr hbel 0 _ rfl
    have q1:=hcl' wr hbel 1 _ rfl
    have q2:=hcl' wr hbel 2 _ rfl
    have q3:=hcl' wr hbel 3 _ rfl
    have q4:=hcl' wr hbel 4 _ rfl
    have q5:=hcl' wr hbel 5 _ rfl
    have q6:=hcl' wr hbel 6 _ rfl
    have q7:=hcl' wr hbel 7 _ rfl
    have q8:=hcl' wr hbel 8 _ rfl
    have q9:=hcl' wr hbel 9 _ rfl
    have q10:=hcl' wr hbel 10 _ rfl
    have q11:=hcl' wr hbel 11 _ rfl
    have q12:=hcl' wr hbel 12 _ rfl
    have q13:=hcl' wr hbel 13 _ rfl
    rw[Nat.add_zero] at q0
    have hV:=hbel.drew
    have hcall:=En S T wr.drew xk xli xtb xpr xjn xde ycols yrows ysets yitems yon ywh ygr yod a1 a2 a3 a4 a5 a6 a7 a8 m1 m2 m3 m4 m5 m6 m7 m8 c1 c2 c3 c4 c5 c6 c7 c8 a1' a2' a3' a4' a5' a6' a7' a8' m1' m2' m3' m4' m5' m6' m7' m8' c1' c2' c3' c4' c5' c6' c7' c8'
     (h1.to (by decide) (R:=fun _=>False) (ay.aA hV) (fun b hb _=>⟨id,hb⟩) (fun _ _ e=>e)) (k1.to (by decide) (R:=fun _=>False) (ay.aA hV) (fun b hb _=>⟨id,hb⟩) (fun _ _ e=>e)) (h2.to (by decide) (R:=fun _=>False) (ay.aA hV) (fun b hb _=>⟨id,hb⟩) (fun _ _ e=>e.to (R:=fun _=>False) (ay.aA hV) (fun b hb _=>⟨id,hb⟩))) (k2.to (by decide) (R:=fun _=>False) (ay.aA hV) (fun b hb _=>⟨id,hb⟩) (fun _ _ e=>e.to (R:=fun _=>False) (ay.aA hV) (fun b hb _=>⟨id,hb⟩))) (h3.to (by decide) (R:=fun _=>False) (ay.aA hV) (fun b hb _=>⟨id,hb⟩) (fun _ _ e=>e.to (R:=fun _=>False) (ay.aA hV) (fun b hb _=>⟨id,hb⟩))) (k3.to (by decide) (R:=fun _=>False) (ay.aA hV) (fun b hb _=>⟨id,hb⟩) (fun _ _ e=>e.to (R:=fun _=>False) (ay.aA hV) (fun b hb _=>⟨id,hb⟩))) (h4.to (by decide) (R:=fun _=>False) (ay.aA hV) (fun b hb _=>⟨id,hb⟩) (fun _ _ e=>e.to (R:=fun _=>False) (ay.aA hV) (fun b hb _=>⟨id,hb⟩))) (k4.to (by decide) (R:=fun _=>False) (ay.aA hV) (fun b hb _=>⟨id,hb⟩) (fun _ _ e=>e.to (R:=fun _=>False) (ay.aA hV) (fun b hb _=>⟨id,hb⟩))) (h5.to (R:=fun _=>False) (ay.aA hV) (fun b hb _=>⟨id,hb⟩)) (k5.to (R:=fun _=>False) (ay.aA hV) (fun b hb _=>⟨id,hb⟩)) (h6.to (R:=fun _=>False) (ay.aA hV) (fun b hb _=>⟨id,hb⟩)) (k6.to (R:=fun _=>False) (ay.aA hV) (fun b hb _=>⟨id,hb⟩)) (h7.to (R:=fun _=>False) (ay.aA hV) (fun b hb _=>⟨id,hb⟩)) (k7.to (R:=fun _=>False) (ay.aA hV) (fun b hb _=>⟨id,hb⟩)) (h8.to (R:=fun _=>False) (ay.aA hV) (fun b hb _=>⟨id,hb⟩)) (k8.to (R:=fun _=>False) (ay.aA hV) (fun b hb _=>⟨id,hb⟩))
    clear hV h1 k1 h2 k2 h3 k3 h4 k4 h5 k5 h6 k6 h7 k7 h8 k8
    have HBR:=hid hbel
    have HCA:=hid hcall
    clear hcall hbel hx hcl hcl'
    go_wp2_with fail
    go_region_with (first
     | (
      go_at_call 41;refine HCA.out.mono ?_
      rintro e w1 ⟨rfl,hb1⟩
      have HB1:Hid (Below w.heap.size w w1):=hid (HBR.out.drew.trans (hb1.mono HBR.out.size))
      clear hb1)
     | fail)
    all_goals go_wp2
    all_goals exact⟨⟨j+1,by omega,by go_num,HB1.out⟩,by simp[intOf];omega⟩
   ·have hlt' : ¬((j:Int)<(xs.length:Int)):=by omega
    have HBR:=hid hbel
    clear hbel
    go_wp2
    go_ret
    exact⟨rfl,HBR.out⟩
end Go.Proofs.YtnidnipiihhnaaaGreatDoor
