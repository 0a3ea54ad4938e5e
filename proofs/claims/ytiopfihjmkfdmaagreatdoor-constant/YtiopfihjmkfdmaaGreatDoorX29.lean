import Derived.Test.YtiopfihjmkfdmaaGreatDoorX28
namespace Go.Proofs.YtiopfihjmkfdmaaGreatDoor
open Go.RowKit
set_option maxRecDepth 100000
set_option maxHeartbeats 4000000
theorem cg_bound (r:Nat) (x y:Sp.Cg) (w:World) (hx:Sp.cgWf x) (hy:Sp.cgWf y) :
  Calls Tryz.prog 295 #[.agg #[],.int .i64 (r:Nat),.agg #[.int .i64 (x.m:Nat),.int .i64 x.r],.agg #[.int .i64 (y.m:Nat),.int .i64 y.r]] w fun e w'=>e=.returned (optC (Sp.cgBound r x y))∧Below w.heap.size w w':=by
 have HM:Hid (∀ W:World,Calls Tryz.prog 306 #[.agg #[.int .i64 (x.m:Nat),.int .i64 x.r],.agg #[.int .i64 (y.m:Nat),.int .i64 y.r]] W fun e w'=>e=.returned (optC (Sp.cgMeet x y))∧Below W.heap.size W w'):=fun W=>cg_meet x y W hx hy
 unfold Sp.cgBound
 by_cases h2:r=2
 ·rw [if_pos h2]
  subst h2
  clear hx hy
  generalize Sp.cgMeet x y=res at *
  generalize x.r=b at *
  generalize y.r=d at *
  generalize ((x.m:Nat):Int)=a at *
  generalize ((y.m:Nat):Int)=c at *
  have h0:CgAt w (w.heap.size + 1) (w.heap.size + 1 + 1) (w.heap.size + 1 + 1 + 1) a b c d ((((w.alloc (.cells #[] 128)).alloc (.cells #[.int .i64 a,.int .i64 b] 126)).alloc (.cells #[.int .i64 c,.int .i64 d] 126)).alloc (.cells #[.int .i64 0,.int .i64 0] 126)):=by
   obtain ⟨h1,h2,h3,h4,hb⟩:=laid4b (w:=w) (o1:=.cells #[] 128) (o2:=.cells #[.int .i64 a,.int .i64 b] 126) (o3:=.cells #[.int .i64 c,.int .i64 d] 126) (o4:=.cells #[.int .i64 0,.int .i64 0] 126) (Below.refl _ _)
   exact ⟨h2,h3,⟨_,_,h4⟩,hb⟩
  go_enter Tryz.func295,Tryz.ntmps295
  go_wp2_with fail
  generalize ((((w.alloc (.cells #[] 128)).alloc (.cells #[.int .i64 a,.int .i64 b] 126)).alloc (.cells #[.int .i64 c,.int .i64 d] 126)).alloc (.cells #[.int .i64 0,.int .i64 0] 126))=W at *
  obtain ⟨kx,hkx⟩:∃ kx,kx=(w.heap.size + 1):=⟨_,rfl⟩
  obtain ⟨ky,hky⟩:∃ ky,ky=(w.heap.size + 1 + 1):=⟨_,rfl⟩
  obtain ⟨kr,hkr⟩:∃ kr,kr=(w.heap.size + 1 + 1 + 1):=⟨_,rfl⟩
  have hk1:kx ≠ kr:=by omega
  have hk2:ky ≠ kr:=by omega
  have hk3:w.heap.size≤kr:=by omega
  rw [← hkr,← hky,← hkx] at h0
  rw [← hkr,← hky,← hkx]
  clear hkx hky hkr
  refine (HM.out _).mono ?_
  rintro e w1 ⟨rfl,b1⟩
  have HH:=h0.call b1
  clear b1 h0 HM
  cases res with
  | none =>
   simp only [optC]
   obtain ⟨u0,v0,hr⟩:=HH.r
   obtain ⟨m0,m1,mf0,mf1,_⟩:=res2 hr
   have MQ:Hid (_∧_):=HH.there (.int .i64 0) (.int .i64 0)
   have BQ:Hid (Below w.heap.size w _):=(HH.put hk1 hk2 hk3 (.int .i64 0) (.int .i64 0)).b
   clear hr HH
   go_wp2_with fail
   exact bodyPost_ret (v:=.tuple #[.agg #[.int .i64 0,.int .i64 0],.bool false]) (by simp [results,Tryz.results295,go_sem,MQ.out.1,MQ.out.2]) rfl ⟨rfl,BQ.out⟩
  | some t =>
   simp only [optC]
   obtain ⟨u0,v0,hr⟩:=HH.r
   obtain ⟨m0,m1,mf0,mf1,_⟩:=res2 hr
   have MQ:Hid (_∧_):=HH.there (.int .i64 (t.m:Nat)) (.int .i64 t.r)
   have BQ:Hid (Below w.heap.size w _):=(HH.put hk1 hk2 hk3 (.int .i64 (t.m:Nat)) (.int .i64 t.r)).b
   clear hr HH
   go_wp2_with fail
   exact bodyPost_ret (v:=.tuple #[.agg #[.int .i64 (t.m:Nat),.int .i64 t.r],.bool true]) (by simp [results,Tryz.results295,go_sem,MQ.out.1,MQ.out.2]) rfl ⟨rfl,BQ.out⟩
 ·rw [if_neg h2]
  have h2':¬ ((r:Nat):Int)=2:=by omega
  clear HM h2 hx hy
  go_enter Tryz.func295,Tryz.ntmps295
  go_wp2_with fail
  go_returns
  exact ⟨rfl,by go_grown⟩
structure CmAt (w:World) (kx ky:Nat) (a b c d:Int) (W:World):Prop where
 x:W.heap[kx]?=some (.cells #[.int .i64 a,.int .i64 b] 126)
 y:W.heap[ky]?=some (.cells #[.int .i64 c,.int .i64 d] 126)
 b:Below w.heap.size w W
theorem CmAt.call {w:World} {kx ky:Nat} {a b c d:Int} {W W':World} (h:CmAt w kx ky a b c d W) (k:Below W.heap.size W W'):CmAt w kx ky a b c d W' :=
 ⟨(k.block _ (heap_lt h.x)).trans h.x,(k.block _ (heap_lt h.y)).trans h.y,h.b.trans (k.mono h.b.size)⟩
theorem CmAt.cells {w:World} {kx ky:Nat} {a b c d:Int} {W:World} (h:CmAt w kx ky a b c d W):W.cell? ⟨kx,0,none⟩=some (.int .i64 a)∧W.cell? ⟨kx,1,none⟩=some (.int .i64 b)∧W.cell? ⟨ky,0,none⟩=some (.int .i64 c)∧W.cell? ⟨ky,1,none⟩=some (.int .i64 d) :=
 ⟨cell_of h.x 0 rfl,cell_of h.x 1 rfl,cell_of h.y 0 rfl,cell_of h.y 1 rfl⟩
theorem may_alone {r:Nat} {x y:Sp.Cg} (hx:x.m=0) (hy:y.m=0) (hxr:Sp.I16 x.r):Sp.cgMay r x y=Sp.holds r x.r y.r:=by
 unfold Sp.cgMay
 rw [decide_eq_true hx,decide_eq_true hy]
 cases h:Sp.holds r x.r y.r with
 | false=>rfl
 | true =>
  by_cases h2:r=2
  ·subst h2
   have e:x.r=y.r:=by simpa [Sp.holds] using h
   obtain ⟨v,hv,_⟩:=Sp.cg_meet (x:=x) (y:=y) (n:=x.r) hxr (by unfold Sp.cgMem; rw [if_pos hx]) (by unfold Sp.cgMem; rw [if_pos hy]; exact e)
   simp [hv]
  ·simp [h2]
theorem may_other {r:Nat} {x y:Sp.Cg} (hn:¬ (x.m=0∧y.m=0)):Sp.cgMay r x y=!(decide (r=2) && (Sp.cgMeet x y).isNone):=by
 unfold Sp.cgMay
 have:(decide (x.m=0) && decide (y.m=0))=false:=by
  rw [Bool.eq_false_iff]
  intro h
  rw [Bool.and_eq_true,decide_eq_true_eq,decide_eq_true_eq] at h
  exact hn h
 rw [this]
 simp
theorem cg_may_alone (r:Nat) (hr:r<6) (b d:Int) (w:World) (hb:Sp.I16 b) (hd:Sp.I16 d) :
  Calls Tryz.prog 298 #[.agg #[],.int .i64 (r:Nat),.agg #[.int .i64 0,.int .i64 b],.agg #[.int .i64 0,.int .i64 d]] w fun e w'=>e=.returned (.bool (Sp.holds r b d))∧Below w.heap.size w w':=by
 have HO:Hid (∀ W:World,Calls Tryz.prog 213 #[.int .i64 (r:Nat),.int .i16 b,.int .i16 d] W fun e w'=>e=.returned (.bool (Sp.holds r b d))∧w'=W):=fun W=>holds_calls r hr b d W
 have HA:Hid (∀ (z:Int) (W:World),Calls Tryz.prog 294 #[.agg #[.int .i64 0,.int .i64 z]] W fun e w'=>e=.returned (.bool true)∧Below W.heap.size W w'):=fun z W=>cg_alone 0 z W
 generalize Sp.holds r b d=res at *
 obtain ⟨b1,b2⟩:=hb
 obtain ⟨d1,d2⟩:=hd
 have e1:IntKind.i16.wrap b=b:=by rw [IntWalk.i16_in] <;> omega
 have e2:IntKind.i16.wrap d=d:=by rw [IntWalk.i16_in] <;> omega
 clear b1 b2 d1 d2 hr
 have h0:CmAt w (w.heap.size + 1) (w.heap.size + 1 + 1) 0 b 0 d (((w.alloc (.cells #[] 128)).alloc (.cells #[.int .i64 0,.int .i64 b] 126)).alloc (.cells #[.int .i64 0,.int .i64 d] 126)):=by
  obtain ⟨_,h2,h3,hb⟩:=laid3b (w:=w) (o1:=.cells #[] 128) (o2:=.cells #[.int .i64 0,.int .i64 b] 126) (o3:=.cells #[.int .i64 0,.int .i64 d] 126) (Below.refl _ _)
  exact ⟨h2,h3,hb⟩
 go_enter Tryz.func298,Tryz.ntmps298
 go_upto_region 1 with fail
 generalize (((w.alloc (.cells #[] 128)).alloc (.cells #[.int .i64 0,.int .i64 b] 126)).alloc (.cells #[.int .i64 0,.int .i64 d] 126))=W at *
 obtain ⟨kd,hkd⟩:∃ kd,kd=w.heap.size:=⟨_,rfl⟩
 obtain ⟨kx,hkx⟩:∃ kx,kx=w.heap.size + 1:=⟨_,rfl⟩
 obtain ⟨ky,hky⟩:∃ ky,ky=w.heap.size + 1 + 1:=⟨_,rfl⟩
 rw [← hky,← hkx] at h0
 rw [← hky,← hkx,← hkd]
 clear hkd hkx hky
 obtain ⟨x0,x1,y0,y1⟩:=h0.cells
 go_wp2_with fail
 refine (HA.out _ _).mono ?_
 rintro e w1 ⟨rfl,b1⟩
 have h1:=h0.call b1
 clear x0 x1 y0 y1 b1 h0
 obtain ⟨x0,x1,y0,y1⟩:=h1.cells
 go_wp2_with fail
 refine (HA.out _ _).mono ?_
 rintro e w2 ⟨rfl,b1⟩
 have h2:=h1.call b1
 clear x0 x1 y0 y1 b1 h1 HA
 obtain ⟨x0,x1,y0,y1⟩:=h2.cells
 go_wp2_with fail
 refine (HO.out _).mono ?_
 rintro e w3 ⟨rfl,rfl⟩
 clear x0 x1 y0 y1 HO
 go_wp2_with fail
 go_ret
 exact ⟨rfl,h2.b⟩
theorem cg_may_other (r:Nat) (x y:Sp.Cg) (w:World) (hx:Sp.cgWf x) (hy:Sp.cgWf y) (hn:¬ (x.m=0∧y.m=0)) :
  Calls Tryz.prog 298 #[.agg #[],.int .i64 (r:Nat),.agg #[.int .i64 (x.m:Nat),.int .i64 x.r],.agg #[.int .i64 (y.m:Nat),.int .i64 y.r]] w fun e w'=>e=.returned (.bool (!(decide (r=2) && (Sp.cgMeet x y).isNone)))∧Below w.heap.size w w':=by
 have HA:Hid (((∀ W:World,Calls Tryz.prog 294 #[.agg #[.int .i64 (x.m:Nat),.int .i64 x.r]] W fun e w'=>e=.returned (.bool true)∧Below W.heap.size W w')∧(∀ W:World,Calls Tryz.prog 294 #[.agg #[.int .i64 (y.m:Nat),.int .i64 y.r]] W fun e w'=>e=.returned (.bool false)∧Below W.heap.size W w'))∨(∀ W:World,Calls Tryz.prog 294 #[.agg #[.int .i64 (x.m:Nat),.int .i64 x.r]] W fun e w'=>e=.returned (.bool false)∧Below W.heap.size W w')):=by
  unfold Hid
  by_cases h:x.m=0
  ·refine .inl ⟨fun W=>?_,fun W=>?_⟩
   ·have:=cg_alone x.m x.r W; rwa [decide_eq_true h] at this
   ·have:=cg_alone y.m y.r W; rwa [decide_eq_false (fun e=>hn ⟨h,e⟩)] at this
  ·refine .inr (fun W=>?_)
   have:=cg_alone x.m x.r W; rwa [decide_eq_false h] at this
 have HM:Hid (∀ W:World,Calls Tryz.prog 306 #[.agg #[.int .i64 (x.m:Nat),.int .i64 x.r],.agg #[.int .i64 (y.m:Nat),.int .i64 y.r]] W fun e w'=>e=.returned (optC (Sp.cgMeet x y))∧Below W.heap.size W w'):=fun W=>cg_meet x y W hx hy
 clear hx hy hn
 generalize Sp.cgMeet x y=res at *
 generalize x.r=b at *
 generalize y.r=d at *
 generalize ((x.m:Nat):Int)=a at *
 generalize ((y.m:Nat):Int)=c at *
 have h0:CmAt w (w.heap.size + 1) (w.heap.size + 1 + 1) a b c d (((w.alloc (.cells #[] 128)).alloc (.cells #[.int .i64 a,.int .i64 b] 126)).alloc (.cells #[.int .i64 c,.int .i64 d] 126)):=by
  obtain ⟨_,h2,h3,hb⟩:=laid3b (w:=w) (o1:=.cells #[] 128) (o2:=.cells #[.int .i64 a,.int .i64 b] 126) (o3:=.cells #[.int .i64 c,.int .i64 d] 126) (Below.refl _ _)
  exact ⟨h2,h3,hb⟩
 go_enter Tryz.func298,Tryz.ntmps298
 go_upto_region 1 with fail
 generalize (((w.alloc (.cells #[] 128)).alloc (.cells #[.int .i64 a,.int .i64 b] 126)).alloc (.cells #[.int .i64 c,.int .i64 d] 126))=W at *
 obtain ⟨kd,hkd⟩:∃ kd,kd=w.heap.size:=⟨_,rfl⟩
 obtain ⟨kx,hkx⟩:∃ kx,kx=w.heap.size + 1:=⟨_,rfl⟩
 obtain ⟨ky,hky⟩:∃ ky,ky=w.heap.size + 1 + 1:=⟨_,rfl⟩
 rw [← hky,← hkx] at h0
 rw [← hky,← hkx,← hkd]
 clear hkd hkx hky
 go_cut [16] from 11 to 16 (fun v16 wc=>v16=.bool false∧Hid (CmAt w kx ky a b c d wc))
 case first =>
  obtain ⟨x0,x1,y0,y1⟩:=h0.cells
  rcases HA.out with ⟨HX,HY⟩ | HX
  ·go_wp2_with fail
   refine (HX W).mono ?_
   rintro e w1 ⟨rfl,b1⟩
   have h1:=h0.call b1
   clear x0 x1 y0 y1
   obtain ⟨x0,x1,y0,y1⟩:=h1.cells
   go_wp2_with fail
   refine (HY w1).mono ?_
   rintro e w2 ⟨rfl,b2⟩
   have H2:Hid (CmAt w kx ky a b c d w2):=h1.call b2
   clear x0 x1 y0 y1 h1 b1 b2
   go_wp2_with fail
   go_meet
   exact ⟨rfl,H2⟩
  ·go_wp2_with fail
   refine (HX W).mono ?_
   rintro e w1 ⟨rfl,b1⟩
   have H1:Hid (CmAt w kx ky a b c d w1):=h0.call b1
   clear x0 x1 y0 y1 b1
   go_wp2_with fail
   go_meet
   exact ⟨rfl,H1⟩
 case rest =>
  obtain ⟨rfl,hcut⟩:=hcut
  have h1:=hcut.out
  clear h0 hcut HA
  by_cases h2:r=2
  ·subst h2
   obtain ⟨x0,x1,y0,y1⟩:=h1.cells
   go_wp2_with fail
   refine (HM.out _).mono ?_
   rintro e w1 ⟨rfl,b1⟩
   have BB:Hid (Below w.heap.size w w1):=(h1.call b1).b
   clear x0 x1 y0 y1 b1 h1 HM
   cases res with
   | none =>
    simp only [optC]
    go_wp2_with fail
    go_ret
    exact ⟨rfl,BB.out.alloc BB.out.size _⟩
   | some t =>
    simp only [optC]
    go_wp2_with fail
    go_ret
    exact ⟨rfl,BB.out.alloc BB.out.size _⟩
  ·have h2':¬ ((r:Nat):Int)=2:=by omega
   have HE2:Hid (decide (r=2)=false):=decide_eq_false h2
   clear HM h2
   go_wp2_with fail
   go_ret
   exact ⟨ret_bool (by rw [HE2.out]; rfl),h1.b⟩
theorem cg_may (r:Nat) (hr:r<6) (x y:Sp.Cg) (w:World) (hx:Sp.cgWf x) (hy:Sp.cgWf y) :
  Calls Tryz.prog 298 #[.agg #[],.int .i64 (r:Nat),.agg #[.int .i64 (x.m:Nat),.int .i64 x.r],.agg #[.int .i64 (y.m:Nat),.int .i64 y.r]] w fun e w'=>e=.returned (.bool (Sp.cgMay r x y))∧Below w.heap.size w w':=by
 by_cases hn:x.m=0∧y.m=0
 ·have hx':Sp.I16 x.r:=by
   rcases hx with h | h
   ·exact h.2
   ·omega
  have hy':Sp.I16 y.r:=by
   rcases hy with h | h
   ·exact h.2
   ·omega
  rw [may_alone hn.1 hn.2 hx',hn.1,hn.2]
  exact cg_may_alone r hr x.r y.r w hx' hy'
 ·rw [may_other hn]
  exact cg_may_other r x y w hx hy hn
end Go.Proofs.YtiopfihjmkfdmaaGreatDoor
namespace Go.Proofs.YtiopfihjmkfdmaaGreatDoor
open Go.RowKit
set_option maxRecDepth 100000
set_option maxHeartbeats 1000000
structure Turns (w:World):Prop where
 mir:∀ k,k<6→w.cell? ⟨3,k,none⟩=some (.int .i64 (Sp.mirror k:Nat))
 opp:∀ k,k<6→w.cell? ⟨4,k,none⟩=some (.int .i64 (Sp.opp k:Nat))
theorem Turns.below {w w':World} (h:Turns w) {B:Nat} (hb:Below B w w') (hB:11≤B):Turns w' :=
 ⟨fun k hk=>by rw [hb.cell (p:=⟨3,k,none⟩) (show 3<B by omega)]; exact h.mir k hk,fun k hk=>by rw [hb.cell (p:=⟨4,k,none⟩) (show 4<B by omega)]; exact h.opp k hk⟩
theorem mirror_calls (k:Nat) (hk:k<6) (w:World) (h:Turns w) :
  Calls Tryz.prog 221 #[.int .i64 (k:Nat)] w fun e w'=>e=.returned (.int .i64 (Sp.mirror k:Nat))∧w'=w:=by
 have h:=h.mir k hk
 generalize ((Sp.mirror k:Nat):Int)=t at *
 have hk':(k:Int)<6:=by omega
 go_enter Tryz.func221,Tryz.ntmps221
 go_wp2_with fail
 go_ret
 exact ⟨rfl,rfl⟩
theorem opposite_calls (k:Nat) (hk:k<6) (w:World) (h:Turns w) :
  Calls Tryz.prog 222 #[.int .i64 (k:Nat)] w fun e w'=>e=.returned (.int .i64 (Sp.opp k:Nat))∧w'=w:=by
 have h:=h.opp k hk
 generalize ((Sp.opp k:Nat):Int)=t at *
 have hk':(k:Int)<6:=by omega
 go_enter Tryz.func222,Tryz.ntmps222
 go_wp2_with fail
 go_ret
 exact ⟨rfl,rfl⟩
def IvHeld3 (w:World) (o1 o2 o3:Obj) (w':World):Prop:=w'.heap[w.heap.size]?=some o1∧w'.heap[w.heap.size + 1]?=some o2∧w'.heap[w.heap.size + 1 + 1]?=some o3∧Below w.heap.size w w'
theorem IvHeld3.call {w:World} {o1 o2 o3:Obj} {w' w1:World} (h:IvHeld3 w o1 o2 o3 w') (b:Below w'.heap.size w' w1):IvHeld3 w o1 o2 o3 w1 :=
 ⟨(b.block _ (heap_lt h.1)).trans h.1,(b.block _ (heap_lt h.2.1)).trans h.2.1,(b.block _ (heap_lt h.2.2.1)).trans h.2.2.1,h.2.2.2.trans (b.mono h.2.2.2.size)⟩
end Go.Proofs.YtiopfihjmkfdmaaGreatDoor
