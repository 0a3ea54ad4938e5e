import Derived.Test.YtiopfihjmkfdmaaGreatDoorX24
import Derived.Deep.CutRange
namespace Go.Proofs.YtiopfihjmkfdmaaGreatDoor
open Go.RowKit
set_option maxRecDepth 100000
set_option maxHeartbeats 4000000
structure CwAt (w:World) (kd kx ky kr:Nat) (a b c d:Int) (W:World):Prop where
 g:CgAt w kx ky kr a b c d W
 o:W.heap[kd]?=some (.cells #[] 128)
theorem CwAt.call {w:World} {kd kx ky kr:Nat} {a b c d:Int} {W W':World} (h:CwAt w kd kx ky kr a b c d W) (k:Below W.heap.size W W'):CwAt w kd kx ky kr a b c d W' :=
 ⟨h.g.call k,(k.block _ (heap_lt h.o)).trans h.o⟩
theorem cg_mul_l (y:Sp.Cg) (w:World) :
  Calls Tryz.prog 310 #[.agg #[.int .i64 0,.int .i64 0],.agg #[.int .i64 (y.m:Nat),.int .i64 y.r]] w fun e w'=>e=.returned (.agg #[.int .i64 0,.int .i64 0])∧Below w.heap.size w w':=by
 generalize y.r=d
 generalize ((y.m:Nat):Int)=c
 have eX:∀ w,(Op.equalIn 10000 126 (.agg #[.int .i64 0,.int .i64 0]) (.agg #[.int .i64 0,.int .i64 0])).run Tryz.prog w=.ok true w:=fun w=>by rw [eqC]; rfl
 go_enter Tryz.func310,Tryz.ntmps310
 go_wp2_with fail
 go_returns
 exact ⟨rfl,by go_grown⟩
theorem cg_mul_r (x:Sp.Cg) (w:World) (hx:¬ (x.m=0∧x.r=0)) :
  Calls Tryz.prog 310 #[.agg #[.int .i64 (x.m:Nat),.int .i64 x.r],.agg #[.int .i64 0,.int .i64 0]] w fun e w'=>e=.returned (.agg #[.int .i64 0,.int .i64 0])∧Below w.heap.size w w':=by
 have hx':¬ (((x.m:Nat):Int)=0∧x.r=0):=by omega
 clear hx
 generalize x.r=b at *
 generalize ((x.m:Nat):Int)=a at *
 have eX:∀ w,(Op.equalIn 10000 126 (.agg #[.int .i64 a,.int .i64 b]) (.agg #[.int .i64 0,.int .i64 0])).run Tryz.prog w=.ok false w:=fun w=>by rw [eqC,decide_eq_false hx']
 have eY:∀ w,(Op.equalIn 10000 126 (.agg #[.int .i64 0,.int .i64 0]) (.agg #[.int .i64 0,.int .i64 0])).run Tryz.prog w=.ok true w:=fun w=>by rw [eqC]; rfl
 clear hx'
 go_enter Tryz.func310,Tryz.ntmps310
 go_wp2_with fail
 go_returns
 exact ⟨rfl,by go_grown⟩
def cgMul (x y:Sp.Cg):Sp.Cg:=if (x.m=0∧x.r=0)∨(y.m=0∧y.r=0) then ⟨0,0⟩ else Sp.cgTwo (Nat.gcd (Nat.gcd (x.m * y.m) ((x.m:Int) * y.r).natAbs) ((y.m:Int) * x.r).natAbs) (x.r * y.r)
theorem cg_mul (x y:Sp.Cg) (w:World) (hx1:x.m≤65536) (hx2:x.r.natAbs≤65536) (hy1:y.m≤65536) (hy2:y.r.natAbs≤65536) :
  Calls Tryz.prog 310 #[.agg #[.int .i64 (x.m:Nat),.int .i64 x.r],.agg #[.int .i64 (y.m:Nat),.int .i64 y.r]] w fun e w'=>e=.returned (.agg #[.int .i64 ((cgMul x y).m:Nat),.int .i64 (cgMul x y).r])∧Below w.heap.size w w':=by
 unfold cgMul
 by_cases hx:x.m=0∧x.r=0
 ·rw [if_pos (.inl hx),hx.1,hx.2]
  exact cg_mul_l y w
 ·by_cases hy:y.m=0∧y.r=0
  ·rw [if_pos (.inr hy),hy.1,hy.2]
   exact cg_mul_r x w hx
  ·rw [if_neg (fun h=>h.elim hx hy)]
   exact cg_multiply x y w hx1 hx2 hy1 hy2 hx hy
theorem wf_small {x:Sp.Cg} (h:Sp.cgWf x):x.m≤65536∧x.r.natAbs≤65536:=by
 rcases h with ⟨h1,h2,h3⟩ | ⟨h1,h2,h3,h4⟩ <;> omega
theorem cg_work0 (x y:Sp.Cg) (w:World) (hx:Sp.cgWf x) (hy:Sp.cgWf y) (hn:¬ (x.m=0∧y.m=0)) :
  Calls Tryz.prog 305 #[.agg #[],.int .i64 0,.agg #[.int .i64 (x.m:Nat),.int .i64 x.r],.agg #[.int .i64 (y.m:Nat),.int .i64 y.r]] w fun e w'=>e=.returned (optC (Sp.cgWork 0 x y))∧Below w.heap.size w w':=by
 obtain ⟨hx1,hx2⟩:=wf_small hx
 obtain ⟨hy1,hy2⟩:=wf_small hy
 have HA:Hid (((∀ W:World,Calls Tryz.prog 294 #[.agg #[.int .i64 (x.m:Nat),.int .i64 x.r]] W fun e w'=>e=.returned (.bool true)∧Below W.heap.size W w')∧(∀ W:World,Calls Tryz.prog 294 #[.agg #[.int .i64 (y.m:Nat),.int .i64 y.r]] W fun e w'=>e=.returned (.bool false)∧Below W.heap.size W w'))∨(∀ W:World,Calls Tryz.prog 294 #[.agg #[.int .i64 (x.m:Nat),.int .i64 x.r]] W fun e w'=>e=.returned (.bool false)∧Below W.heap.size W w')):=by
  unfold Hid
  by_cases h:x.m=0
  ·refine .inl ⟨fun W=>?_,fun W=>?_⟩
   ·have:=cg_alone x.m x.r W; rwa [decide_eq_true h] at this
   ·have:=cg_alone y.m y.r W; rwa [decide_eq_false (fun e=>hn ⟨h,e⟩)] at this
  ·refine .inr (fun W=>?_)
   have:=cg_alone x.m x.r W; rwa [decide_eq_false h] at this
 have hgl:Nat.gcd x.m y.m≤65536:=by
  rcases Nat.eq_zero_or_pos x.m with h | h
  ·rw [h,Nat.gcd_zero_left]; exact hy1
  ·exact Nat.le_trans (Nat.gcd_le_left _ h) hx1
 obtain ⟨gg,hgg⟩:∃ gg,Hid (gg=Nat.gcd x.m y.m):=⟨_,rfl⟩
 obtain ⟨t,ht⟩:∃ t,Hid (t=Sp.cgTwo gg (x.r + y.r)):=⟨_,rfl⟩
 have E:Hid (Sp.cgWork 0 x y=some t):=by
  unfold Hid Sp.cgWork
  rw [if_neg hn,if_neg (by omega)]
  rw [if_pos rfl]
  rw [ht.out,hgg.out]
 have HG:Hid (∀ (W:World) (k:Nat),k=W.heap.size→Calls Tryz.prog 308 #[.slice (some ⟨k,0,none⟩) 2 2] (W.alloc (.cells #[.int .i64 (x.m:Nat),.int .i64 (y.m:Nat)] 2)) fun e w'=>e=.returned (.int .i64 (gg:Nat))∧Below W.heap.size W w'):=fun W k hk=>by
  rw [hgg.out,hk]
  exact gcd_new2 (x.m:Nat) (y.m:Nat) W (by omega) (by omega)
 have HC:Hid (∀ W:World,Calls Tryz.prog 309 #[.int .i64 (gg:Nat),.int .i64 (x.r + y.r)] W fun e w'=>e=.returned (.agg #[.int .i64 (t.m:Nat),.int .i64 t.r])∧Below W.heap.size W w'):=fun W=>by
  rw [ht.out]
  exact cg_wrapped gg (x.r + y.r) W (by rw [hgg.out]; omega)
 clear hgg ht hgl hn hx hy
 have hsum:IntKind.i64.wrap (x.r + y.r)=(x.r + y.r):=by rw [IntWalk.i64_in] <;> omega
 generalize Sp.cgWork 0 x y=res at *
 generalize x.r=b at *
 generalize y.r=d at *
 generalize ((x.m:Nat):Int)=a at *
 generalize ((y.m:Nat):Int)=c at *
 clear hx1 hx2 hy1 hy2
 have h0':CgAt w (w.heap.size + 1) (w.heap.size + 1 + 1) (w.heap.size + 1 + 1 + 1) a b c d ((((w.alloc (.cells #[] 128)).alloc (.cells #[.int .i64 a,.int .i64 b] 126)).alloc (.cells #[.int .i64 c,.int .i64 d] 126)).alloc (.cells #[.int .i64 0,.int .i64 0] 126)):=by
  obtain ⟨h1,h2,h3,h4,hb⟩:=laid4b (w:=w) (o1:=.cells #[] 128) (o2:=.cells #[.int .i64 a,.int .i64 b] 126) (o3:=.cells #[.int .i64 c,.int .i64 d] 126) (o4:=.cells #[.int .i64 0,.int .i64 0] 126) (Below.refl _ _)
  exact ⟨h2,h3,⟨_,_,h4⟩,hb⟩
 have h0:CwAt w w.heap.size (w.heap.size + 1) (w.heap.size + 1 + 1) (w.heap.size + 1 + 1 + 1) a b c d ((((w.alloc (.cells #[] 128)).alloc (.cells #[.int .i64 a,.int .i64 b] 126)).alloc (.cells #[.int .i64 c,.int .i64 d] 126)).alloc (.cells #[.int .i64 0,.int .i64 0] 126)):=by
  obtain ⟨h1,_⟩:=laid4b (w:=w) (o1:=.cells #[] 128) (o2:=.cells #[.int .i64 a,.int .i64 b] 126) (o3:=.cells #[.int .i64 c,.int .i64 d] 126) (o4:=.cells #[.int .i64 0,.int .i64 0] 126) (Below.refl _ _)
  exact ⟨h0',h1⟩
 clear h0'
 go_enter Tryz.func305,Tryz.ntmps305
 go_upto_region 1 with fail
 generalize ((((w.alloc (.cells #[] 128)).alloc (.cells #[.int .i64 a,.int .i64 b] 126)).alloc (.cells #[.int .i64 c,.int .i64 d] 126)).alloc (.cells #[.int .i64 0,.int .i64 0] 126))=W at *
 obtain ⟨kd,hkd⟩:∃ kd,kd=w.heap.size:=⟨_,rfl⟩
 obtain ⟨kx,hkx⟩:∃ kx,kx=w.heap.size + 1:=⟨_,rfl⟩
 obtain ⟨ky,hky⟩:∃ ky,ky=w.heap.size + 1 + 1:=⟨_,rfl⟩
 obtain ⟨kr,hkr⟩:∃ kr,kr=w.heap.size + 1 + 1 + 1:=⟨_,rfl⟩
 have hk1:kx ≠ kr:=by omega
 have hk2:ky ≠ kr:=by omega
 have hk3:w.heap.size≤kr:=by omega
 rw [← hkr,← hky,← hkx,← hkd] at h0
 rw [← hkr,← hky,← hkx,← hkd]
 clear hkd hkx hky hkr
 go_cut [17] from 12 to 17 (fun v17 wc=>v17=.bool false∧Hid (CwAt w kd kx ky kr a b c d wc))
 case first =>
  obtain ⟨x0,x1,y0,y1⟩:=h0.g.cells
  rcases HA.out with ⟨HX,HY⟩ | HX
  ·go_wp2_with fail
   refine (HX W).mono ?_
   rintro e w1 ⟨rfl,b1⟩
   have h1:=h0.call b1
   clear x0 x1 y0 y1
   obtain ⟨x0,x1,y0,y1⟩:=h1.g.cells
   go_wp2_with fail
   refine (HY w1).mono ?_
   rintro e w2 ⟨rfl,b2⟩
   have H2:Hid (CwAt w kd kx ky kr a b c d w2):=h1.call b2
   clear x0 x1 y0 y1 h1 b1 b2
   go_wp2_with fail
   go_meet
   exact ⟨rfl,H2⟩
  ·go_wp2_with fail
   refine (HX W).mono ?_
   rintro e w1 ⟨rfl,b1⟩
   have H1:Hid (CwAt w kd kx ky kr a b c d w1):=h0.call b1
   clear x0 x1 y0 y1 b1
   go_wp2_with fail
   go_meet
   exact ⟨rfl,H1⟩
 case rest =>
  obtain ⟨rfl,hcut⟩:=hcut
  have h0':CgAt w kx ky kr a b c d wc:=hcut.out.g
  clear h0 hcut HA
  go_wp2_with fail
  refine wp_region_held_drew (S:=fun w':World=>CgAt w kx ky kr a b c d w') (by kernel_rfl) (h0'.call (Below.refl _ _).drew) (fun hHeld=>?_)
  generalize wc.drew=V at *
  refine tk 0 (.pointer (some ⟨kx,0,none⟩)) rfl (fun w' h=>by go_simp) hHeld ?_
  simp only [Act.put]
  refine tk 1 (.int .i64 a) rfl (fun w' h=>by have q:=h.cells.1; go_simp) hHeld ?_
  simp only [Act.put]
  refine tk 2 (.pointer (some ⟨ky,0,none⟩)) rfl (fun w' h=>by go_simp) hHeld ?_
  simp only [Act.put]
  refine tk 3 (.int .i64 c) rfl (fun w' h=>by have q:=h.cells.2.2.1; go_simp) hHeld ?_
  simp only [Act.put]
  refine tk 6 (.pointer (some ⟨kx,1,none⟩)) rfl (fun w' h=>by go_simp) hHeld ?_
  simp only [Act.put]
  refine tk 7 (.int .i64 b) rfl (fun w' h=>by have q:=h.cells.2.1; go_simp) hHeld ?_
  simp only [Act.put]
  refine tk 8 (.pointer (some ⟨ky,1,none⟩)) rfl (fun w' h=>by go_simp) hHeld ?_
  simp only [Act.put]
  refine tk 9 (.int .i64 d) rfl (fun w' h=>by have q:=h.cells.2.2.2; go_simp) hHeld ?_
  simp only [Act.put]
  refine tk 10 (.int .i64 (b + d)) rfl (fun w' h=>by go_simp) hHeld ?_
  simp only [Act.put]
  refine rd1 4 fun K hK=>?_
  simp only [gsb,gsa]
  go_simp
  refine hK.out _ _ (hHeld.call (below_alloc1 _ _)) (fun _=>?_)
  clear hK K
  refine rd1 5 fun K hK=>?_
  simp only [gsb]
  go_simp
  refine (HG.out _ _ (by first | rfl | simp)).mono ?_
  rintro e w1 ⟨rfl,b1⟩
  replace hHeld:=hHeld.call b1
  clear b1
  go_wp2_with fail
  refine hK.out _ _ hHeld (fun _=>?_)
  clear hK K
  refine rd1 11 fun K hK=>?_
  simp only [gsb]
  go_simp
  refine (HC.out _).mono ?_
  rintro e w2 ⟨rfl,b1⟩
  replace hHeld:=hHeld.call b1
  clear b1
  go_wp2_with fail
  refine hK.out _ _ hHeld (fun _=>?_)
  clear hK K
  have MQ:=hHeld.there (.int .i64 (t.m:Nat)) (.int .i64 t.r)
  have BQ:=(hHeld.put hk1 hk2 hk3 (.int .i64 (t.m:Nat)) (.int .i64 t.r)).b
  obtain ⟨u0,v0,hr⟩:=hHeld.r
  obtain ⟨m0,m1,mf0,mf1,_⟩:=res2 hr
  clear hr
  refine rd1 12 fun K hK=>?_
  simp only [gsb]
  go_simp
  refine hK.out _ _ (hHeld.put hk1 hk2 hk3 _ _) (fun hHeld=>?_)
  clear hK K
  refine rd1 13 fun K hK=>?_
  simp only [gsb]
  go_simp
  refine hK.out _ _ hHeld (fun _=>?_)
  clear hK K
  refine wpAnyH_done (by kernel_rfl) ?_ _
  go_wp2_with fail
  exact bodyPost_ret (v:=.tuple #[.agg #[.int .i64 (t.m:Nat),.int .i64 t.r],.bool true]) (by simp [results,Tryz.results305,go_sem,MQ.1,MQ.2]) rfl ⟨optC_some E.out,BQ⟩
theorem cg_work1 (x y:Sp.Cg) (w:World) (hx:Sp.cgWf x) (hy:Sp.cgWf y) (hn:¬ (x.m=0∧y.m=0)) :
  Calls Tryz.prog 305 #[.agg #[],.int .i64 1,.agg #[.int .i64 (x.m:Nat),.int .i64 x.r],.agg #[.int .i64 (y.m:Nat),.int .i64 y.r]] w fun e w'=>e=.returned (optC (Sp.cgWork 1 x y))∧Below w.heap.size w w':=by
 obtain ⟨hx1,hx2⟩:=wf_small hx
 obtain ⟨hy1,hy2⟩:=wf_small hy
 have HA:Hid (((∀ W:World,Calls Tryz.prog 294 #[.agg #[.int .i64 (x.m:Nat),.int .i64 x.r]] W fun e w'=>e=.returned (.bool true)∧Below W.heap.size W w')∧(∀ W:World,Calls Tryz.prog 294 #[.agg #[.int .i64 (y.m:Nat),.int .i64 y.r]] W fun e w'=>e=.returned (.bool false)∧Below W.heap.size W w'))∨(∀ W:World,Calls Tryz.prog 294 #[.agg #[.int .i64 (x.m:Nat),.int .i64 x.r]] W fun e w'=>e=.returned (.bool false)∧Below W.heap.size W w')):=by
  unfold Hid
  by_cases h:x.m=0
  ·refine .inl ⟨fun W=>?_,fun W=>?_⟩
   ·have:=cg_alone x.m x.r W; rwa [decide_eq_true h] at this
   ·have:=cg_alone y.m y.r W; rwa [decide_eq_false (fun e=>hn ⟨h,e⟩)] at this
  ·refine .inr (fun W=>?_)
   have:=cg_alone x.m x.r W; rwa [decide_eq_false h] at this
 have hgl:Nat.gcd x.m y.m≤65536:=by
  rcases Nat.eq_zero_or_pos x.m with h | h
  ·rw [h,Nat.gcd_zero_left]; exact hy1
  ·exact Nat.le_trans (Nat.gcd_le_left _ h) hx1
 obtain ⟨gg,hgg⟩:∃ gg,Hid (gg=Nat.gcd x.m y.m):=⟨_,rfl⟩
 obtain ⟨t,ht⟩:∃ t,Hid (t=Sp.cgTwo gg (x.r - y.r)):=⟨_,rfl⟩
 have E:Hid (Sp.cgWork 1 x y=some t):=by
  unfold Hid Sp.cgWork
  rw [if_neg hn,if_neg (by omega)]
  rw [if_neg (by omega),if_pos rfl]
  rw [ht.out,hgg.out]
 have HG:Hid (∀ (W:World) (k:Nat),k=W.heap.size→Calls Tryz.prog 308 #[.slice (some ⟨k,0,none⟩) 2 2] (W.alloc (.cells #[.int .i64 (x.m:Nat),.int .i64 (y.m:Nat)] 2)) fun e w'=>e=.returned (.int .i64 (gg:Nat))∧Below W.heap.size W w'):=fun W k hk=>by
  rw [hgg.out,hk]
  exact gcd_new2 (x.m:Nat) (y.m:Nat) W (by omega) (by omega)
 have HC:Hid (∀ W:World,Calls Tryz.prog 309 #[.int .i64 (gg:Nat),.int .i64 (x.r - y.r)] W fun e w'=>e=.returned (.agg #[.int .i64 (t.m:Nat),.int .i64 t.r])∧Below W.heap.size W w'):=fun W=>by
  rw [ht.out]
  exact cg_wrapped gg (x.r - y.r) W (by rw [hgg.out]; omega)
 clear hgg ht hgl hn hx hy
 have hsum:IntKind.i64.wrap (x.r - y.r)=(x.r - y.r):=by rw [IntWalk.i64_in] <;> omega
 generalize Sp.cgWork 1 x y=res at *
 generalize x.r=b at *
 generalize y.r=d at *
 generalize ((x.m:Nat):Int)=a at *
 generalize ((y.m:Nat):Int)=c at *
 clear hx1 hx2 hy1 hy2
 have h0':CgAt w (w.heap.size + 1) (w.heap.size + 1 + 1) (w.heap.size + 1 + 1 + 1) a b c d ((((w.alloc (.cells #[] 128)).alloc (.cells #[.int .i64 a,.int .i64 b] 126)).alloc (.cells #[.int .i64 c,.int .i64 d] 126)).alloc (.cells #[.int .i64 0,.int .i64 0] 126)):=by
  obtain ⟨h1,h2,h3,h4,hb⟩:=laid4b (w:=w) (o1:=.cells #[] 128) (o2:=.cells #[.int .i64 a,.int .i64 b] 126) (o3:=.cells #[.int .i64 c,.int .i64 d] 126) (o4:=.cells #[.int .i64 0,.int .i64 0] 126) (Below.refl _ _)
  exact ⟨h2,h3,⟨_,_,h4⟩,hb⟩
 have h0:CwAt w w.heap.size (w.heap.size + 1) (w.heap.size + 1 + 1) (w.heap.size + 1 + 1 + 1) a b c d ((((w.alloc (.cells #[] 128)).alloc (.cells #[.int .i64 a,.int .i64 b] 126)).alloc (.cells #[.int .i64 c,.int .i64 d] 126)).alloc (.cells #[.int .i64 0,.int .i64 0] 126)):=by
  obtain ⟨h1,_⟩:=laid4b (w:=w) (o1:=.cells #[] 128) (o2:=.cells #[.int .i64 a,.int .i64 b] 126) (o3:=.cells #[.int .i64 c,.int .i64 d] 126) (o4:=.cells #[.int .i64 0,.int .i64 0] 126) (Below.refl _ _)
  exact ⟨h0',h1⟩
 clear h0'
 go_enter Tryz.func305,Tryz.ntmps305
 go_upto_region 1 with fail
 generalize ((((w.alloc (.cells #[] 128)).alloc (.cells #[.int .i64 a,.int .i64 b] 126)).alloc (.cells #[.int .i64 c,.int .i64 d] 126)).alloc (.cells #[.int .i64 0,.int .i64 0] 126))=W at *
 obtain ⟨kd,hkd⟩:∃ kd,kd=w.heap.size:=⟨_,rfl⟩
 obtain ⟨kx,hkx⟩:∃ kx,kx=w.heap.size + 1:=⟨_,rfl⟩
 obtain ⟨ky,hky⟩:∃ ky,ky=w.heap.size + 1 + 1:=⟨_,rfl⟩
 obtain ⟨kr,hkr⟩:∃ kr,kr=w.heap.size + 1 + 1 + 1:=⟨_,rfl⟩
 have hk1:kx ≠ kr:=by omega
 have hk2:ky ≠ kr:=by omega
 have hk3:w.heap.size≤kr:=by omega
 rw [← hkr,← hky,← hkx,← hkd] at h0
 rw [← hkr,← hky,← hkx,← hkd]
 clear hkd hkx hky hkr
 go_cut [17] from 12 to 17 (fun v17 wc=>v17=.bool false∧Hid (CwAt w kd kx ky kr a b c d wc))
 case first =>
  obtain ⟨x0,x1,y0,y1⟩:=h0.g.cells
  rcases HA.out with ⟨HX,HY⟩ | HX
  ·go_wp2_with fail
   refine (HX W).mono ?_
   rintro e w1 ⟨rfl,b1⟩
   have h1:=h0.call b1
   clear x0 x1 y0 y1
   obtain ⟨x0,x1,y0,y1⟩:=h1.g.cells
   go_wp2_with fail
   refine (HY w1).mono ?_
   rintro e w2 ⟨rfl,b2⟩
   have H2:Hid (CwAt w kd kx ky kr a b c d w2):=h1.call b2
   clear x0 x1 y0 y1 h1 b1 b2
   go_wp2_with fail
   go_meet
   exact ⟨rfl,H2⟩
  ·go_wp2_with fail
   refine (HX W).mono ?_
   rintro e w1 ⟨rfl,b1⟩
   have H1:Hid (CwAt w kd kx ky kr a b c d w1):=h0.call b1
   clear x0 x1 y0 y1 b1
   go_wp2_with fail
   go_meet
   exact ⟨rfl,H1⟩
 case rest =>
  obtain ⟨rfl,hcut⟩:=hcut
  have h0':CgAt w kx ky kr a b c d wc:=hcut.out.g
  clear h0 hcut HA
  go_wp2_with fail
  refine wp_region_held_drew (S:=fun w':World=>CgAt w kx ky kr a b c d w') (by kernel_rfl) (h0'.call (Below.refl _ _).drew) (fun hHeld=>?_)
  generalize wc.drew=V at *
  refine tk 0 (.pointer (some ⟨kx,0,none⟩)) rfl (fun w' h=>by go_simp) hHeld ?_
  simp only [Act.put]
  refine tk 1 (.int .i64 a) rfl (fun w' h=>by have q:=h.cells.1; go_simp) hHeld ?_
  simp only [Act.put]
  refine tk 2 (.pointer (some ⟨ky,0,none⟩)) rfl (fun w' h=>by go_simp) hHeld ?_
  simp only [Act.put]
  refine tk 3 (.int .i64 c) rfl (fun w' h=>by have q:=h.cells.2.2.1; go_simp) hHeld ?_
  simp only [Act.put]
  refine tk 6 (.pointer (some ⟨kx,1,none⟩)) rfl (fun w' h=>by go_simp) hHeld ?_
  simp only [Act.put]
  refine tk 7 (.int .i64 b) rfl (fun w' h=>by have q:=h.cells.2.1; go_simp) hHeld ?_
  simp only [Act.put]
  refine tk 8 (.pointer (some ⟨ky,1,none⟩)) rfl (fun w' h=>by go_simp) hHeld ?_
  simp only [Act.put]
  refine tk 9 (.int .i64 d) rfl (fun w' h=>by have q:=h.cells.2.2.2; go_simp) hHeld ?_
  simp only [Act.put]
  refine tk 10 (.int .i64 (b - d)) rfl (fun w' h=>by go_simp) hHeld ?_
  simp only [Act.put]
  refine rd1 4 fun K hK=>?_
  simp only [gsb,gsa]
  go_simp
  refine hK.out _ _ (hHeld.call (below_alloc1 _ _)) (fun _=>?_)
  clear hK K
  refine rd1 5 fun K hK=>?_
  simp only [gsb]
  go_simp
  refine (HG.out _ _ (by first | rfl | simp)).mono ?_
  rintro e w1 ⟨rfl,b1⟩
  replace hHeld:=hHeld.call b1
  clear b1
  go_wp2_with fail
  refine hK.out _ _ hHeld (fun _=>?_)
  clear hK K
  refine rd1 11 fun K hK=>?_
  simp only [gsb]
  go_simp
  refine (HC.out _).mono ?_
  rintro e w2 ⟨rfl,b1⟩
  replace hHeld:=hHeld.call b1
  clear b1
  go_wp2_with fail
  refine hK.out _ _ hHeld (fun _=>?_)
  clear hK K
  have MQ:=hHeld.there (.int .i64 (t.m:Nat)) (.int .i64 t.r)
  have BQ:=(hHeld.put hk1 hk2 hk3 (.int .i64 (t.m:Nat)) (.int .i64 t.r)).b
  obtain ⟨u0,v0,hr⟩:=hHeld.r
  obtain ⟨m0,m1,mf0,mf1,_⟩:=res2 hr
  clear hr
  refine rd1 12 fun K hK=>?_
  simp only [gsb]
  go_simp
  refine hK.out _ _ (hHeld.put hk1 hk2 hk3 _ _) (fun hHeld=>?_)
  clear hK K
  refine rd1 13 fun K hK=>?_
  simp only [gsb]
  go_simp
  refine hK.out _ _ hHeld (fun _=>?_)
  clear hK K
  refine wpAnyH_done (by kernel_rfl) ?_ _
  go_wp2_with fail
  exact bodyPost_ret (v:=.tuple #[.agg #[.int .i64 (t.m:Nat),.int .i64 t.r],.bool true]) (by simp [results,Tryz.results305,go_sem,MQ.1,MQ.2]) rfl ⟨optC_some E.out,BQ⟩
end Go.Proofs.YtiopfihjmkfdmaaGreatDoor
