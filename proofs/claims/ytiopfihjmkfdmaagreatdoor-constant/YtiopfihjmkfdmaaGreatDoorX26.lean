import Derived.Test.YtiopfihjmkfdmaaGreatDoorX25
namespace Go.Proofs.YtiopfihjmkfdmaaGreatDoor
open Go.RowKit
set_option maxRecDepth 100000
set_option maxHeartbeats 4000000
theorem cg_work2 (x y:Sp.Cg) (w:World) (hx:Sp.cgWf x) (hy:Sp.cgWf y) (hn:¬ (x.m=0∧y.m=0)) :
  Calls Tryz.prog 305 #[.agg #[],.int .i64 2,.agg #[.int .i64 (x.m:Nat),.int .i64 x.r],.agg #[.int .i64 (y.m:Nat),.int .i64 y.r]] w fun e w'=>e=.returned (optC (Sp.cgWork 2 x y))∧Below w.heap.size w w':=by
 obtain ⟨hx1,hx2⟩:=wf_small hx
 obtain ⟨hy1,hy2⟩:=wf_small hy
 have HA:Hid (((∀ W:World,Calls Tryz.prog 294 #[.agg #[.int .i64 (x.m:Nat),.int .i64 x.r]] W fun e w'=>e=.returned (.bool true)∧Below W.heap.size W w')∧(∀ W:World,Calls Tryz.prog 294 #[.agg #[.int .i64 (y.m:Nat),.int .i64 y.r]] W fun e w'=>e=.returned (.bool false)∧Below W.heap.size W w'))∨(∀ W:World,Calls Tryz.prog 294 #[.agg #[.int .i64 (x.m:Nat),.int .i64 x.r]] W fun e w'=>e=.returned (.bool false)∧Below W.heap.size W w')):=by
  unfold Hid
  by_cases h:x.m=0
  ·refine .inl ⟨fun W=>?_,fun W=>?_⟩
   ·have:=cg_alone x.m x.r W; rwa [decide_eq_true h] at this
   ·have:=cg_alone y.m y.r W; rwa [decide_eq_false (fun e=>hn ⟨h,e⟩)] at this
  ·refine .inr (fun W=>?_)
   have:=cg_alone x.m x.r W; rwa [decide_eq_false h] at this
 obtain ⟨t,ht⟩:∃ t,Hid (t=cgMul x y):=⟨_,rfl⟩
 have E:Hid (Sp.cgWork 2 x y=some t):=by
  unfold Hid Sp.cgWork
  rw [if_neg hn,if_neg (by omega),if_neg (by omega),if_neg (by omega),if_pos rfl,ht.out]
  unfold cgMul
  split <;> rfl
 have HC:Hid (∀ W:World,Calls Tryz.prog 310 #[.agg #[.int .i64 (x.m:Nat),.int .i64 x.r],.agg #[.int .i64 (y.m:Nat),.int .i64 y.r]] W fun e w'=>e=.returned (.agg #[.int .i64 (t.m:Nat),.int .i64 t.r])∧Below W.heap.size W w'):=fun W=>by
  rw [ht.out]
  exact cg_mul x y W hx1 hx2 hy1 hy2
 clear ht hn hx hy
 generalize Sp.cgWork 2 x y=res at *
 generalize x.r=b at *
 generalize y.r=d at *
 generalize ((x.m:Nat):Int)=a at *
 generalize ((y.m:Nat):Int)=c at *
 clear hx1 hx2 hy1 hy2
 have h0':CgAt w (w.heap.size + 1) (w.heap.size + 1 + 1) (w.heap.size + 1 + 1 + 1) a b c d ((((w.alloc (.cells #[] 128)).alloc (.cells #[.int .i64 a,.int .i64 b] 126)).alloc (.cells #[.int .i64 c,.int .i64 d] 126)).alloc (.cells #[.int .i64 0,.int .i64 0] 126)):=by
  obtain ⟨h1,h2,h3,h4,hb⟩:=laid4b (w:=w) (o1:=.cells #[] 128) (o2:=.cells #[.int .i64 a,.int .i64 b] 126) (o3:=.cells #[.int .i64 c,.int .i64 d] 126) (o4:=.cells #[.int .i64 0,.int .i64 0] 126) (Below.refl _ _)
  exact ⟨h2,h3,⟨_,_,h4⟩,hb⟩
 have h0:CwAt w w.heap.size (w.heap.size + 1) (w.heap.size + 1 + 1) (w.heap.size + 1 + 1 + 1) a b c d ((((w.alloc (.cells #[] 128)).alloc (.cells #[.int .i64 a,.int .i64 b] 126)).alloc (.cells #[.int .i64 c,.int .i64 d] 126)).alloc (.cells #[.int .i64 0,.int .i64 0] 126)):=by
  obtain ⟨h1,_⟩:=laid4b (w:=w) (o1:=.cells #[] 128) (o2:=.cells #[.int .i64 a,.int .i64 b] 126) (o3:=.cells #[.int .i64 c,.int .i64 d] 126) (o4:=.cells #[.int .i64 0,.int .i64 0] 126) (Below.refl _ _)
  exact ⟨h0',h1⟩
 clear h0'
 go_enter Tryz.func305,Tryz.ntmps305
 go_upto_region 1 with fail
 generalize ((((w.alloc (.cells #[] 128)).alloc (.cells #[.int .i64 a,.int .i64 b] 126)).alloc (.cells #[.int .i64 c,.int .i64 d] 126)).alloc (.cells #[.int .i64 0,.int .i64 0] 126))=W at *
 obtain ⟨kd,hkd⟩:∃ kd,kd=w.heap.size:=⟨_,rfl⟩
 obtain ⟨kx,hkx⟩:∃ kx,kx=w.heap.size + 1:=⟨_,rfl⟩
 obtain ⟨ky,hky⟩:∃ ky,ky=w.heap.size + 1 + 1:=⟨_,rfl⟩
 obtain ⟨kr,hkr⟩:∃ kr,kr=w.heap.size + 1 + 1 + 1:=⟨_,rfl⟩
 have hk1:kx ≠ kr:=by omega
 have hk2:ky ≠ kr:=by omega
 have hk3:w.heap.size≤kr:=by omega
 rw [← hkr,← hky,← hkx,← hkd] at h0
 rw [← hkr,← hky,← hkx,← hkd]
 clear hkd hkx hky hkr
 go_cut [17] from 12 to 17 (fun v17 wc=>v17=.bool false∧Hid (CwAt w kd kx ky kr a b c d wc))
 case first =>
  obtain ⟨x0,x1,y0,y1⟩:=h0.g.cells
  rcases HA.out with ⟨HX,HY⟩ | HX
  ·go_wp2_with fail
   refine (HX W).mono ?_
   rintro e w1 ⟨rfl,b1⟩
   have h1:=h0.call b1
   clear x0 x1 y0 y1
   obtain ⟨x0,x1,y0,y1⟩:=h1.g.cells
   go_wp2_with fail
   refine (HY w1).mono ?_
   rintro e w2 ⟨rfl,b2⟩
   have H2:Hid (CwAt w kd kx ky kr a b c d w2):=h1.call b2
   clear x0 x1 y0 y1 h1 b1 b2
   go_wp2_with fail
   go_meet
   exact ⟨rfl,H2⟩
  ·go_wp2_with fail
   refine (HX W).mono ?_
   rintro e w1 ⟨rfl,b1⟩
   have H1:Hid (CwAt w kd kx ky kr a b c d w1):=h0.call b1
   clear x0 x1 y0 y1 b1
   go_wp2_with fail
   go_meet
   exact ⟨rfl,H1⟩
 case rest =>
  obtain ⟨rfl,hcut⟩:=hcut
  have h1:=hcut.out
  clear h0 hcut HA
  obtain ⟨x0,x1,y0,y1⟩:=h1.g.cells
  go_wp2_with fail
  refine (HC.out _).mono ?_
  rintro e w1 ⟨rfl,b1⟩
  have HH:=h1.call b1
  clear x0 x1 y0 y1 h1 b1 HC
  obtain ⟨u0,v0,hr⟩:=HH.g.r
  obtain ⟨m0,m1,mf0,mf1,_⟩:=res2 hr
  have MQ:Hid (_∧_):=HH.g.there (.int .i64 (t.m:Nat)) (.int .i64 t.r)
  have BQ:Hid (Below w.heap.size w _):=(HH.g.put hk1 hk2 hk3 (.int .i64 (t.m:Nat)) (.int .i64 t.r)).b
  clear hr HH
  go_wp2_with fail
  exact bodyPost_ret (v:=.tuple #[.agg #[.int .i64 (t.m:Nat),.int .i64 t.r],.bool true]) (by simp [results,Tryz.results305,go_sem,MQ.out.1,MQ.out.2]) rfl ⟨optC_some E.out,BQ.out⟩
theorem cg_work3 (x y:Sp.Cg) (w:World) (hx:Sp.cgWf x) (hy:Sp.cgWf y) (hn:¬ (x.m=0∧y.m=0)) :
  Calls Tryz.prog 305 #[.agg #[],.int .i64 3,.agg #[.int .i64 (x.m:Nat),.int .i64 x.r],.agg #[.int .i64 (y.m:Nat),.int .i64 y.r]] w fun e w'=>e=.returned (optC (Sp.cgWork 3 x y))∧Below w.heap.size w w':=by
 obtain ⟨hx1,hx2⟩:=wf_small hx
 obtain ⟨hy1,hy2⟩:=wf_small hy
 have HA:Hid (((∀ W:World,Calls Tryz.prog 294 #[.agg #[.int .i64 (x.m:Nat),.int .i64 x.r]] W fun e w'=>e=.returned (.bool true)∧Below W.heap.size W w')∧(∀ W:World,Calls Tryz.prog 294 #[.agg #[.int .i64 (y.m:Nat),.int .i64 y.r]] W fun e w'=>e=.returned (.bool false)∧Below W.heap.size W w'))∨(∀ W:World,Calls Tryz.prog 294 #[.agg #[.int .i64 (x.m:Nat),.int .i64 x.r]] W fun e w'=>e=.returned (.bool false)∧Below W.heap.size W w')):=by
  unfold Hid
  by_cases h:x.m=0
  ·refine .inl ⟨fun W=>?_,fun W=>?_⟩
   ·have:=cg_alone x.m x.r W; rwa [decide_eq_true h] at this
   ·have:=cg_alone y.m y.r W; rwa [decide_eq_false (fun e=>hn ⟨h,e⟩)] at this
  ·refine .inr (fun W=>?_)
   have:=cg_alone x.m x.r W; rwa [decide_eq_false h] at this
 have HN:Hid (∀ W:World,Calls Tryz.prog 301 #[.agg #[],.int .i16 0] W fun e w'=>e=.returned (.agg #[.int .i64 0,.int .i64 0])∧Below W.heap.size W w'):=fun W=>cg_number 0 W (by omega) (by omega)
 by_cases hz:y.m=0∧y.r=0
 ·have E:Hid (Sp.cgWork 3 x y=none):=by
   unfold Hid Sp.cgWork
   rw [if_neg hn,if_pos ⟨by omega,hz⟩]
  have hz':((y.m:Nat):Int)=0∧y.r=0:=by omega
  clear hn hx hy hz
  generalize Sp.cgWork 3 x y=res at *
  generalize x.r=b at *
  generalize y.r=d at *
  generalize ((x.m:Nat):Int)=a at *
  generalize ((y.m:Nat):Int)=c at *
  clear hx1 hx2 hy1 hy2
  have eY:∀ w,(Op.equalIn 10000 126 (.agg #[.int .i64 c,.int .i64 d]) (.agg #[.int .i64 0,.int .i64 0])).run Tryz.prog w=.ok true w:=fun w=>by rw [eqC,decide_eq_true hz']
  clear hz'
  have h0':CgAt w (w.heap.size + 1) (w.heap.size + 1 + 1) (w.heap.size + 1 + 1 + 1) a b c d ((((w.alloc (.cells #[] 128)).alloc (.cells #[.int .i64 a,.int .i64 b] 126)).alloc (.cells #[.int .i64 c,.int .i64 d] 126)).alloc (.cells #[.int .i64 0,.int .i64 0] 126)):=by
   obtain ⟨h1,h2,h3,h4,hb⟩:=laid4b (w:=w) (o1:=.cells #[] 128) (o2:=.cells #[.int .i64 a,.int .i64 b] 126) (o3:=.cells #[.int .i64 c,.int .i64 d] 126) (o4:=.cells #[.int .i64 0,.int .i64 0] 126) (Below.refl _ _)
   exact ⟨h2,h3,⟨_,_,h4⟩,hb⟩
  have h0:CwAt w w.heap.size (w.heap.size + 1) (w.heap.size + 1 + 1) (w.heap.size + 1 + 1 + 1) a b c d ((((w.alloc (.cells #[] 128)).alloc (.cells #[.int .i64 a,.int .i64 b] 126)).alloc (.cells #[.int .i64 c,.int .i64 d] 126)).alloc (.cells #[.int .i64 0,.int .i64 0] 126)):=by
   obtain ⟨h1,_⟩:=laid4b (w:=w) (o1:=.cells #[] 128) (o2:=.cells #[.int .i64 a,.int .i64 b] 126) (o3:=.cells #[.int .i64 c,.int .i64 d] 126) (o4:=.cells #[.int .i64 0,.int .i64 0] 126) (Below.refl _ _)
   exact ⟨h0',h1⟩
  clear h0'
  go_enter Tryz.func305,Tryz.ntmps305
  go_upto_region 1 with fail
  generalize ((((w.alloc (.cells #[] 128)).alloc (.cells #[.int .i64 a,.int .i64 b] 126)).alloc (.cells #[.int .i64 c,.int .i64 d] 126)).alloc (.cells #[.int .i64 0,.int .i64 0] 126))=W at *
  obtain ⟨kd,hkd⟩:∃ kd,kd=w.heap.size:=⟨_,rfl⟩
  obtain ⟨kx,hkx⟩:∃ kx,kx=w.heap.size + 1:=⟨_,rfl⟩
  obtain ⟨ky,hky⟩:∃ ky,ky=w.heap.size + 1 + 1:=⟨_,rfl⟩
  obtain ⟨kr,hkr⟩:∃ kr,kr=w.heap.size + 1 + 1 + 1:=⟨_,rfl⟩
  have hk1:kx ≠ kr:=by omega
  have hk2:ky ≠ kr:=by omega
  have hk3:w.heap.size≤kr:=by omega
  rw [← hkr,← hky,← hkx,← hkd] at h0
  rw [← hkr,← hky,← hkx,← hkd]
  clear hkd hkx hky hkr
  go_cut [17] from 12 to 17 (fun v17 wc=>v17=.bool false∧Hid (CwAt w kd kx ky kr a b c d wc))
  case first =>
   obtain ⟨x0,x1,y0,y1⟩:=h0.g.cells
   rcases HA.out with ⟨HX,HY⟩ | HX
   ·go_wp2_with fail
    refine (HX W).mono ?_
    rintro e w1 ⟨rfl,b1⟩
    have h1:=h0.call b1
    clear x0 x1 y0 y1
    obtain ⟨x0,x1,y0,y1⟩:=h1.g.cells
    go_wp2_with fail
    refine (HY w1).mono ?_
    rintro e w2 ⟨rfl,b2⟩
    have H2:Hid (CwAt w kd kx ky kr a b c d w2):=h1.call b2
    clear x0 x1 y0 y1 h1 b1 b2
    go_wp2_with fail
    go_meet
    exact ⟨rfl,H2⟩
   ·go_wp2_with fail
    refine (HX W).mono ?_
    rintro e w1 ⟨rfl,b1⟩
    have H1:Hid (CwAt w kd kx ky kr a b c d w1):=h0.call b1
    clear x0 x1 y0 y1 b1
    go_wp2_with fail
    go_meet
    exact ⟨rfl,H1⟩
  case rest =>
   obtain ⟨rfl,hcut⟩:=hcut
   have h1:=hcut.out
   clear h0 hcut HA
   go_wp2_with fail
   refine wp_region_held_drew (S:=fun w':World=>CwAt w kd kx ky kr a b c d w') (by kernel_rfl) (h1.call (Below.refl _ _).drew) (fun hHeld=>?_)
   generalize wc.drew=V at *
   refine tk 0 (.agg #[.int .i64 c,.int .i64 d]) rfl (fun w' h=>by have q:=h.g.cells.2.2.1; have q2:=h.g.cells.2.2.2; go_simp) hHeld ?_
   simp only [Act.put]
   refine tk 1 (.agg #[]) rfl (fun w' h=>by have q:=h.o; go_simp) hHeld ?_
   simp only [Act.put]
   refine rd1 2 fun K hK=>?_
   simp only [gsb,gsa]
   go_simp
   refine (HN.out _).mono ?_
   rintro e w1 ⟨rfl,b1⟩
   replace hHeld:=hHeld.call b1
   clear b1
   go_wp2_with fail
   refine hK.out _ _ hHeld (fun _=>?_)
   clear hK K
   refine rd1 3 fun K hK=>?_
   simp only [gsb]
   go_simp
   refine hK.out _ _ hHeld (fun _=>?_)
   clear hK K
   refine rd1 4 fun K hK=>?_
   simp only [gsb]
   go_simp
   refine hK.out _ _ hHeld (fun _=>?_)
   clear hK K
   refine wpAnyH_done (by kernel_rfl) ?_ _
   have HH:=hHeld
   clear hHeld h1
   obtain ⟨u0,v0,hr⟩:=HH.g.r
   obtain ⟨m0,m1,mf0,mf1,_⟩:=res2 hr
   have MQ:Hid (_∧_):=HH.g.there (.int .i64 0) (.int .i64 0)
   have BQ:Hid (Below w.heap.size w _):=(HH.g.put hk1 hk2 hk3 (.int .i64 0) (.int .i64 0)).b
   clear hr HH
   go_wp2_with fail
   exact bodyPost_ret (v:=.tuple #[.agg #[.int .i64 0,.int .i64 0],.bool false]) (by simp [results,Tryz.results305,go_sem,MQ.out.1,MQ.out.2]) rfl ⟨optC_none E.out,BQ.out⟩
 ·have hz':¬ (((y.m:Nat):Int)=0∧y.r=0):=by omega
  have E:Hid (Sp.cgWork 3 x y=some ⟨1,0⟩):=by
   unfold Hid Sp.cgWork
   rw [if_neg hn,if_neg (fun h=>hz h.2),if_neg (by omega),if_neg (by omega),if_neg (by omega),if_pos rfl]
   rfl
  have HC:Hid (∀ W:World,Calls Tryz.prog 303 #[.agg #[]] W fun e w'=>e=.returned (.agg #[.int .i64 1,.int .i64 0])∧Below W.heap.size W w'):=fun W=>cg_whole W
  clear hn hx hy hz
  generalize Sp.cgWork 3 x y=res at *
  generalize x.r=b at *
  generalize y.r=d at *
  generalize ((x.m:Nat):Int)=a at *
  generalize ((y.m:Nat):Int)=c at *
  clear hx1 hx2 hy1 hy2
  have eY:∀ w,(Op.equalIn 10000 126 (.agg #[.int .i64 c,.int .i64 d]) (.agg #[.int .i64 0,.int .i64 0])).run Tryz.prog w=.ok false w:=fun w=>by rw [eqC,decide_eq_false hz']
  clear hz'
  have h0':CgAt w (w.heap.size + 1) (w.heap.size + 1 + 1) (w.heap.size + 1 + 1 + 1) a b c d ((((w.alloc (.cells #[] 128)).alloc (.cells #[.int .i64 a,.int .i64 b] 126)).alloc (.cells #[.int .i64 c,.int .i64 d] 126)).alloc (.cells #[.int .i64 0,.int .i64 0] 126)):=by
   obtain ⟨h1,h2,h3,h4,hb⟩:=laid4b (w:=w) (o1:=.cells #[] 128) (o2:=.cells #[.int .i64 a,.int .i64 b] 126) (o3:=.cells #[.int .i64 c,.int .i64 d] 126) (o4:=.cells #[.int .i64 0,.int .i64 0] 126) (Below.refl _ _)
   exact ⟨h2,h3,⟨_,_,h4⟩,hb⟩
  have h0:CwAt w w.heap.size (w.heap.size + 1) (w.heap.size + 1 + 1) (w.heap.size + 1 + 1 + 1) a b c d ((((w.alloc (.cells #[] 128)).alloc (.cells #[.int .i64 a,.int .i64 b] 126)).alloc (.cells #[.int .i64 c,.int .i64 d] 126)).alloc (.cells #[.int .i64 0,.int .i64 0] 126)):=by
   obtain ⟨h1,_⟩:=laid4b (w:=w) (o1:=.cells #[] 128) (o2:=.cells #[.int .i64 a,.int .i64 b] 126) (o3:=.cells #[.int .i64 c,.int .i64 d] 126) (o4:=.cells #[.int .i64 0,.int .i64 0] 126) (Below.refl _ _)
   exact ⟨h0',h1⟩
  clear h0'
  go_enter Tryz.func305,Tryz.ntmps305
  go_upto_region 1 with fail
  generalize ((((w.alloc (.cells #[] 128)).alloc (.cells #[.int .i64 a,.int .i64 b] 126)).alloc (.cells #[.int .i64 c,.int .i64 d] 126)).alloc (.cells #[.int .i64 0,.int .i64 0] 126))=W at *
  obtain ⟨kd,hkd⟩:∃ kd,kd=w.heap.size:=⟨_,rfl⟩
  obtain ⟨kx,hkx⟩:∃ kx,kx=w.heap.size + 1:=⟨_,rfl⟩
  obtain ⟨ky,hky⟩:∃ ky,ky=w.heap.size + 1 + 1:=⟨_,rfl⟩
  obtain ⟨kr,hkr⟩:∃ kr,kr=w.heap.size + 1 + 1 + 1:=⟨_,rfl⟩
  have hk1:kx ≠ kr:=by omega
  have hk2:ky ≠ kr:=by omega
  have hk3:w.heap.size≤kr:=by omega
  rw [← hkr,← hky,← hkx,← hkd] at h0
  rw [← hkr,← hky,← hkx,← hkd]
  clear hkd hkx hky hkr
  go_cut [17] from 12 to 17 (fun v17 wc=>v17=.bool false∧Hid (CwAt w kd kx ky kr a b c d wc))
  case first =>
   obtain ⟨x0,x1,y0,y1⟩:=h0.g.cells
   rcases HA.out with ⟨HX,HY⟩ | HX
   ·go_wp2_with fail
    refine (HX W).mono ?_
    rintro e w1 ⟨rfl,b1⟩
    have h1:=h0.call b1
    clear x0 x1 y0 y1
    obtain ⟨x0,x1,y0,y1⟩:=h1.g.cells
    go_wp2_with fail
    refine (HY w1).mono ?_
    rintro e w2 ⟨rfl,b2⟩
    have H2:Hid (CwAt w kd kx ky kr a b c d w2):=h1.call b2
    clear x0 x1 y0 y1 h1 b1 b2
    go_wp2_with fail
    go_meet
    exact ⟨rfl,H2⟩
   ·go_wp2_with fail
    refine (HX W).mono ?_
    rintro e w1 ⟨rfl,b1⟩
    have H1:Hid (CwAt w kd kx ky kr a b c d w1):=h0.call b1
    clear x0 x1 y0 y1 b1
    go_wp2_with fail
    go_meet
    exact ⟨rfl,H1⟩
  case rest =>
   obtain ⟨rfl,hcut⟩:=hcut
   have h1:=hcut.out
   clear h0 hcut HA
   go_wp2_with fail
   refine wp_region_held_drew (S:=fun w':World=>CwAt w kd kx ky kr a b c d w') (by kernel_rfl) (h1.call (Below.refl _ _).drew) (fun hHeld=>?_)
   generalize wc.drew=V at *
   refine tk 0 (.agg #[.int .i64 c,.int .i64 d]) rfl (fun w' h=>by have q:=h.g.cells.2.2.1; have q2:=h.g.cells.2.2.2; go_simp) hHeld ?_
   simp only [Act.put]
   refine tk 1 (.agg #[]) rfl (fun w' h=>by have q:=h.o; go_simp) hHeld ?_
   simp only [Act.put]
   refine rd1 2 fun K hK=>?_
   simp only [gsb,gsa]
   go_simp
   refine (HN.out _).mono ?_
   rintro e w1 ⟨rfl,b1⟩
   replace hHeld:=hHeld.call b1
   clear b1
   go_wp2_with fail
   refine hK.out _ _ hHeld (fun _=>?_)
   clear hK K
   refine rd1 3 fun K hK=>?_
   simp only [gsb]
   go_simp
   refine hK.out _ _ hHeld (fun _=>?_)
   clear hK K
   refine rd1 4 fun K hK=>?_
   simp only [gsb]
   go_simp
   refine hK.out _ _ hHeld (fun _=>?_)
   clear hK K
   refine wpAnyH_done (by kernel_rfl) ?_ _
   have qo:=hHeld.o
   go_wp2_with fail
   refine (HC.out _).mono ?_
   rintro e w2 ⟨rfl,b1⟩
   have HH:=hHeld.call b1
   clear b1 HC hHeld h1 qo
   obtain ⟨u0,v0,hr⟩:=HH.g.r
   obtain ⟨m0,m1,mf0,mf1,_⟩:=res2 hr
   have MQ:Hid (_∧_):=HH.g.there (.int .i64 1) (.int .i64 0)
   have BQ:Hid (Below w.heap.size w _):=(HH.g.put hk1 hk2 hk3 (.int .i64 1) (.int .i64 0)).b
   clear hr HH
   go_wp2_with fail
   exact bodyPost_ret (v:=.tuple #[.agg #[.int .i64 1,.int .i64 0],.bool true]) (by simp [results,Tryz.results305,go_sem,MQ.out.1,MQ.out.2]) rfl ⟨optC_some (a:=1) E.out,BQ.out⟩
theorem cg_work4 (x y:Sp.Cg) (w:World) (hx:Sp.cgWf x) (hy:Sp.cgWf y) (hn:¬ (x.m=0∧y.m=0)) :
  Calls Tryz.prog 305 #[.agg #[],.int .i64 4,.agg #[.int .i64 (x.m:Nat),.int .i64 x.r],.agg #[.int .i64 (y.m:Nat),.int .i64 y.r]] w fun e w'=>e=.returned (optC (Sp.cgWork 4 x y))∧Below w.heap.size w w':=by
 obtain ⟨hx1,hx2⟩:=wf_small hx
 obtain ⟨hy1,hy2⟩:=wf_small hy
 have HA:Hid (((∀ W:World,Calls Tryz.prog 294 #[.agg #[.int .i64 (x.m:Nat),.int .i64 x.r]] W fun e w'=>e=.returned (.bool true)∧Below W.heap.size W w')∧(∀ W:World,Calls Tryz.prog 294 #[.agg #[.int .i64 (y.m:Nat),.int .i64 y.r]] W fun e w'=>e=.returned (.bool false)∧Below W.heap.size W w'))∨(∀ W:World,Calls Tryz.prog 294 #[.agg #[.int .i64 (x.m:Nat),.int .i64 x.r]] W fun e w'=>e=.returned (.bool false)∧Below W.heap.size W w')):=by
  unfold Hid
  by_cases h:x.m=0
  ·refine .inl ⟨fun W=>?_,fun W=>?_⟩
   ·have:=cg_alone x.m x.r W; rwa [decide_eq_true h] at this
   ·have:=cg_alone y.m y.r W; rwa [decide_eq_false (fun e=>hn ⟨h,e⟩)] at this
  ·refine .inr (fun W=>?_)
   have:=cg_alone x.m x.r W; rwa [decide_eq_false h] at this
 have HN:Hid (∀ W:World,Calls Tryz.prog 301 #[.agg #[],.int .i16 0] W fun e w'=>e=.returned (.agg #[.int .i64 0,.int .i64 0])∧Below W.heap.size W w'):=fun W=>cg_number 0 W (by omega) (by omega)
 by_cases hz:y.m=0∧y.r=0
 ·have E:Hid (Sp.cgWork 4 x y=none):=by
   unfold Hid Sp.cgWork
   rw [if_neg hn,if_pos ⟨by omega,hz⟩]
  have hz':((y.m:Nat):Int)=0∧y.r=0:=by omega
  clear hn hx hy hz
  generalize Sp.cgWork 4 x y=res at *
  generalize x.r=b at *
  generalize y.r=d at *
  generalize ((x.m:Nat):Int)=a at *
  generalize ((y.m:Nat):Int)=c at *
  clear hx1 hx2 hy1 hy2
  have eY:∀ w,(Op.equalIn 10000 126 (.agg #[.int .i64 c,.int .i64 d]) (.agg #[.int .i64 0,.int .i64 0])).run Tryz.prog w=.ok true w:=fun w=>by rw [eqC,decide_eq_true hz']
  clear hz'
  have h0':CgAt w (w.heap.size + 1) (w.heap.size + 1 + 1) (w.heap.size + 1 + 1 + 1) a b c d ((((w.alloc (.cells #[] 128)).alloc (.cells #[.int .i64 a,.int .i64 b] 126)).alloc (.cells #[.int .i64 c,.int .i64 d] 126)).alloc (.cells #[.int .i64 0,.int .i64 0] 126)):=by
   obtain ⟨h1,h2,h3,h4,hb⟩:=laid4b (w:=w) (o1:=.cells #[] 128) (o2:=.cells #[.int .i64 a,.int .i64 b] 126) (o3:=.cells #[.int .i64 c,.int .i64 d] 126) (o4:=.cells #[.int .i64 0,.int .i64 0] 126) (Below.refl _ _)
   exact ⟨h2,h3,⟨_,_,h4⟩,hb⟩
  have h0:CwAt w w.heap.size (w.heap.size + 1) (w.heap.size + 1 + 1) (w.heap.size + 1 + 1 + 1) a b c d ((((w.alloc (.cells #[] 128)).alloc (.cells #[.int .i64 a,.int .i64 b] 126)).alloc (.cells #[.int .i64 c,.int .i64 d] 126)).alloc (.cells #[.int .i64 0,.int .i64 0] 126)):=by
   obtain ⟨h1,_⟩:=laid4b (w:=w) (o1:=.cells #[] 128) (o2:=.cells #[.int .i64 a,.int .i64 b] 126) (o3:=.cells #[.int .i64 c,.int .i64 d] 126) (o4:=.cells #[.int .i64 0,.int .i64 0] 126) (Below.refl _ _)
   exact ⟨h0',h1⟩
  clear h0'
  go_enter Tryz.func305,Tryz.ntmps305
  go_upto_region 1 with fail
  generalize ((((w.alloc (.cells #[] 128)).alloc (.cells #[.int .i64 a,.int .i64 b] 126)).alloc (.cells #[.int .i64 c,.int .i64 d] 126)).alloc (.cells #[.int .i64 0,.int .i64 0] 126))=W at *
  obtain ⟨kd,hkd⟩:∃ kd,kd=w.heap.size:=⟨_,rfl⟩
  obtain ⟨kx,hkx⟩:∃ kx,kx=w.heap.size + 1:=⟨_,rfl⟩
  obtain ⟨ky,hky⟩:∃ ky,ky=w.heap.size + 1 + 1:=⟨_,rfl⟩
  obtain ⟨kr,hkr⟩:∃ kr,kr=w.heap.size + 1 + 1 + 1:=⟨_,rfl⟩
  have hk1:kx ≠ kr:=by omega
  have hk2:ky ≠ kr:=by omega
  have hk3:w.heap.size≤kr:=by omega
  rw [← hkr,← hky,← hkx,← hkd] at h0
  rw [← hkr,← hky,← hkx,← hkd]
  clear hkd hkx hky hkr
  go_cut [17] from 12 to 17 (fun v17 wc=>v17=.bool false∧Hid (CwAt w kd kx ky kr a b c d wc))
  case first =>
   obtain ⟨x0,x1,y0,y1⟩:=h0.g.cells
   rcases HA.out with ⟨HX,HY⟩ | HX
   ·go_wp2_with fail
    refine (HX W).mono ?_
    rintro e w1 ⟨rfl,b1⟩
    have h1:=h0.call b1
    clear x0 x1 y0 y1
    obtain ⟨x0,x1,y0,y1⟩:=h1.g.cells
    go_wp2_with fail
    refine (HY w1).mono ?_
    rintro e w2 ⟨rfl,b2⟩
    have H2:Hid (CwAt w kd kx ky kr a b c d w2):=h1.call b2
    clear x0 x1 y0 y1 h1 b1 b2
    go_wp2_with fail
    go_meet
    exact ⟨rfl,H2⟩
   ·go_wp2_with fail
    refine (HX W).mono ?_
    rintro e w1 ⟨rfl,b1⟩
    have H1:Hid (CwAt w kd kx ky kr a b c d w1):=h0.call b1
    clear x0 x1 y0 y1 b1
    go_wp2_with fail
    go_meet
    exact ⟨rfl,H1⟩
  case rest =>
   obtain ⟨rfl,hcut⟩:=hcut
   have h1:=hcut.out
   clear h0 hcut HA
   go_wp2_with fail
   refine wp_region_held_drew (S:=fun w':World=>CwAt w kd kx ky kr a b c d w') (by kernel_rfl) (h1.call (Below.refl _ _).drew) (fun hHeld=>?_)
   generalize wc.drew=V at *
   refine tk 0 (.agg #[.int .i64 c,.int .i64 d]) rfl (fun w' h=>by have q:=h.g.cells.2.2.1; have q2:=h.g.cells.2.2.2; go_simp) hHeld ?_
   simp only [Act.put]
   refine tk 1 (.agg #[]) rfl (fun w' h=>by have q:=h.o; go_simp) hHeld ?_
   simp only [Act.put]
   refine rd1 2 fun K hK=>?_
   simp only [gsb,gsa]
   go_simp
   refine (HN.out _).mono ?_
   rintro e w1 ⟨rfl,b1⟩
   replace hHeld:=hHeld.call b1
   clear b1
   go_wp2_with fail
   refine hK.out _ _ hHeld (fun _=>?_)
   clear hK K
   refine rd1 3 fun K hK=>?_
   simp only [gsb]
   go_simp
   refine hK.out _ _ hHeld (fun _=>?_)
   clear hK K
   refine rd1 4 fun K hK=>?_
   simp only [gsb]
   go_simp
   refine hK.out _ _ hHeld (fun _=>?_)
   clear hK K
   refine wpAnyH_done (by kernel_rfl) ?_ _
   have HH:=hHeld
   clear hHeld h1
   obtain ⟨u0,v0,hr⟩:=HH.g.r
   obtain ⟨m0,m1,mf0,mf1,_⟩:=res2 hr
   have MQ:Hid (_∧_):=HH.g.there (.int .i64 0) (.int .i64 0)
   have BQ:Hid (Below w.heap.size w _):=(HH.g.put hk1 hk2 hk3 (.int .i64 0) (.int .i64 0)).b
   clear hr HH
   go_wp2_with fail
   exact bodyPost_ret (v:=.tuple #[.agg #[.int .i64 0,.int .i64 0],.bool false]) (by simp [results,Tryz.results305,go_sem,MQ.out.1,MQ.out.2]) rfl ⟨optC_none E.out,BQ.out⟩
 ·have hz':¬ (((y.m:Nat):Int)=0∧y.r=0):=by omega
  obtain ⟨t,ht⟩:∃ t,Hid (t=Sp.cgClass (Nat.gcd (Nat.gcd x.m y.m) y.r.natAbs) x.r):=⟨_,rfl⟩
  have E:Hid (Sp.cgWork 4 x y=some t):=by
   unfold Hid Sp.cgWork
   rw [if_neg hn,if_neg (fun h=>hz h.2),if_neg (by omega),if_neg (by omega),if_neg (by omega),if_neg (by omega),ht.out]
   unfold Sp.cgClass
   rw [if_neg (fun h=>hn (Nat.gcd_eq_zero_iff.1 (Nat.gcd_eq_zero_iff.1 h).1))]
  have HC:Hid (∀ W:World,Calls Tryz.prog 311 #[.agg #[.int .i64 (x.m:Nat),.int .i64 x.r],.agg #[.int .i64 (y.m:Nat),.int .i64 y.r]] W fun e w'=>e=.returned (.agg #[.int .i64 (t.m:Nat),.int .i64 t.r])∧Below W.heap.size W w'):=fun W=>by
   rw [ht.out]
   exact cg_remainder x y W hx1 hy1 hy2
  clear ht
  clear hn hx hy hz
  generalize Sp.cgWork 4 x y=res at *
  generalize x.r=b at *
  generalize y.r=d at *
  generalize ((x.m:Nat):Int)=a at *
  generalize ((y.m:Nat):Int)=c at *
  clear hx1 hx2 hy1 hy2
  have eY:∀ w,(Op.equalIn 10000 126 (.agg #[.int .i64 c,.int .i64 d]) (.agg #[.int .i64 0,.int .i64 0])).run Tryz.prog w=.ok false w:=fun w=>by rw [eqC,decide_eq_false hz']
  clear hz'
  have h0':CgAt w (w.heap.size + 1) (w.heap.size + 1 + 1) (w.heap.size + 1 + 1 + 1) a b c d ((((w.alloc (.cells #[] 128)).alloc (.cells #[.int .i64 a,.int .i64 b] 126)).alloc (.cells #[.int .i64 c,.int .i64 d] 126)).alloc (.cells #[.int .i64 0,.int .i64 0] 126)):=by
   obtain ⟨h1,h2,h3,h4,hb⟩:=laid4b (w:=w) (o1:=.cells #[] 128) (o2:=.cells #[.int .i64 a,.int .i64 b] 126) (o3:=.cells #[.int .i64 c,.int .i64 d] 126) (o4:=.cells #[.int .i64 0,.int .i64 0] 126) (Below.refl _ _)
   exact ⟨h2,h3,⟨_,_,h4⟩,hb⟩
  have h0:CwAt w w.heap.size (w.heap.size + 1) (w.heap.size + 1 + 1) (w.heap.size + 1 + 1 + 1) a b c d ((((w.alloc (.cells #[] 128)).alloc (.cells #[.int .i64 a,.int .i64 b] 126)).alloc (.cells #[.int .i64 c,.int .i64 d] 126)).alloc (.cells #[.int .i64 0,.int .i64 0] 126)):=by
   obtain ⟨h1,_⟩:=laid4b (w:=w) (o1:=.cells #[] 128) (o2:=.cells #[.int .i64 a,.int .i64 b] 126) (o3:=.cells #[.int .i64 c,.int .i64 d] 126) (o4:=.cells #[.int .i64 0,.int .i64 0] 126) (Below.refl _ _)
   exact ⟨h0',h1⟩
  clear h0'
  go_enter Tryz.func305,Tryz.ntmps305
  go_upto_region 1 with fail
  generalize ((((w.alloc (.cells #[] 128)).alloc (.cells #[.int .i64 a,.int .i64 b] 126)).alloc (.cells #[.int .i64 c,.int .i64 d] 126)).alloc (.cells #[.int .i64 0,.int .i64 0] 126))=W at *
  obtain ⟨kd,hkd⟩:∃ kd,kd=w.heap.size:=⟨_,rfl⟩
  obtain ⟨kx,hkx⟩:∃ kx,kx=w.heap.size + 1:=⟨_,rfl⟩
  obtain ⟨ky,hky⟩:∃ ky,ky=w.heap.size + 1 + 1:=⟨_,rfl⟩
  obtain ⟨kr,hkr⟩:∃ kr,kr=w.heap.size + 1 + 1 + 1:=⟨_,rfl⟩
  have hk1:kx ≠ kr:=by omega
  have hk2:ky ≠ kr:=by omega
  have hk3:w.heap.size≤kr:=by omega
  rw [← hkr,← hky,← hkx,← hkd] at h0
  rw [← hkr,← hky,← hkx,← hkd]
  clear hkd hkx hky hkr
  go_cut [17] from 12 to 17 (fun v17 wc=>v17=.bool false∧Hid (CwAt w kd kx ky kr a b c d wc))
  case first =>
   obtain ⟨x0,x1,y0,y1⟩:=h0.g.cells
   rcases HA.out with ⟨HX,HY⟩ | HX
   ·go_wp2_with fail
    refine (HX W).mono ?_
    rintro e w1 ⟨rfl,b1⟩
    have h1:=h0.call b1
    clear x0 x1 y0 y1
    obtain ⟨x0,x1,y0,y1⟩:=h1.g.cells
    go_wp2_with fail
    refine (HY w1).mono ?_
    rintro e w2 ⟨rfl,b2⟩
    have H2:Hid (CwAt w kd kx ky kr a b c d w2):=h1.call b2
    clear x0 x1 y0 y1 h1 b1 b2
    go_wp2_with fail
    go_meet
    exact ⟨rfl,H2⟩
   ·go_wp2_with fail
    refine (HX W).mono ?_
    rintro e w1 ⟨rfl,b1⟩
    have H1:Hid (CwAt w kd kx ky kr a b c d w1):=h0.call b1
    clear x0 x1 y0 y1 b1
    go_wp2_with fail
    go_meet
    exact ⟨rfl,H1⟩
  case rest =>
   obtain ⟨rfl,hcut⟩:=hcut
   have h1:=hcut.out
   clear h0 hcut HA
   go_wp2_with fail
   refine wp_region_held_drew (S:=fun w':World=>CwAt w kd kx ky kr a b c d w') (by kernel_rfl) (h1.call (Below.refl _ _).drew) (fun hHeld=>?_)
   generalize wc.drew=V at *
   refine tk 0 (.agg #[.int .i64 c,.int .i64 d]) rfl (fun w' h=>by have q:=h.g.cells.2.2.1; have q2:=h.g.cells.2.2.2; go_simp) hHeld ?_
   simp only [Act.put]
   refine tk 1 (.agg #[]) rfl (fun w' h=>by have q:=h.o; go_simp) hHeld ?_
   simp only [Act.put]
   refine rd1 2 fun K hK=>?_
   simp only [gsb,gsa]
   go_simp
   refine (HN.out _).mono ?_
   rintro e w1 ⟨rfl,b1⟩
   replace hHeld:=hHeld.call b1
   clear b1
   go_wp2_with fail
   refine hK.out _ _ hHeld (fun _=>?_)
   clear hK K
   refine rd1 3 fun K hK=>?_
   simp only [gsb]
   go_simp
   refine hK.out _ _ hHeld (fun _=>?_)
   clear hK K
   refine rd1 4 fun K hK=>?_
   simp only [gsb]
   go_simp
   refine hK.out _ _ hHeld (fun _=>?_)
   clear hK K
   refine wpAnyH_done (by kernel_rfl) ?_ _
   obtain ⟨x0,x1,y0,y1⟩:=hHeld.g.cells
   go_wp2_with fail
   refine (HC.out _).mono ?_
   rintro e w2 ⟨rfl,b1⟩
   have HH:=hHeld.call b1
   clear b1 HC hHeld h1 x0 x1 y0 y1
   obtain ⟨u0,v0,hr⟩:=HH.g.r
   obtain ⟨m0,m1,mf0,mf1,_⟩:=res2 hr
   have MQ:Hid (_∧_):=HH.g.there (.int .i64 (t.m:Nat)) (.int .i64 t.r)
   have BQ:Hid (Below w.heap.size w _):=(HH.g.put hk1 hk2 hk3 (.int .i64 (t.m:Nat)) (.int .i64 t.r)).b
   clear hr HH
   go_wp2_with fail
   exact bodyPost_ret (v:=.tuple #[.agg #[.int .i64 (t.m:Nat),.int .i64 t.r],.bool true]) (by simp [results,Tryz.results305,go_sem,MQ.out.1,MQ.out.2]) rfl ⟨optC_some E.out,BQ.out⟩
end Go.Proofs.YtiopfihjmkfdmaaGreatDoor
namespace Go.Proofs.YtiopfihjmkfdmaaGreatDoor
open Go.RowKit
set_option maxRecDepth 100000
set_option maxHeartbeats 4000000
theorem cg_work_alone (k:Nat) (hk:k<5) (a b:Int) (w:World) (ha:Sp.I16 a) (hb:Sp.I16 b) :
  Calls Tryz.prog 305 #[.agg #[],.int .i64 (k:Nat),.agg #[.int .i64 0,.int .i64 a],.agg #[.int .i64 0,.int .i64 b]] w fun e w'=>e=.returned (optC ((Sp.work k a b).map fun n=>⟨0,n⟩))∧Below w.heap.size w w':=by
 have HZ:Sp.I16 (workVal k a b):=by
  unfold workVal
  cases h:Sp.work k a b with
  | none=>exact ⟨by decide,by decide⟩
  | some n=>exact Sp.work_in ha h
 have E:Hid (.returned (.tuple #[.agg #[.int .i64 0,.int .i64 (workVal k a b)],.bool (Sp.work k a b).isSome])=Ending.returned (optC ((Sp.work k a b).map fun n=>⟨0,n⟩))):=by
  unfold Hid workVal
  cases Sp.work k a b <;> rfl
 have HW:Hid (∀ W:World,Calls Tryz.prog 239 #[.int .i64 (k:Nat),.int .i16 a,.int .i16 b] W fun e w'=>e=.returned (.tuple #[.int .i16 (workVal k a b),.bool (Sp.work k a b).isSome])∧w'=W):=fun W=>work_calls k hk a b W
 obtain ⟨z1,z2⟩:=HZ
 have HN:Hid (∀ W:World,Calls Tryz.prog 301 #[.agg #[],.int .i16 (workVal k a b)] W fun e w'=>e=.returned (.agg #[.int .i64 0,.int .i64 (workVal k a b)])∧Below W.heap.size W w'):=fun W=>cg_number (workVal k a b) W z1 z2
 have HA:Hid (∀ (r:Int) (W:World),Calls Tryz.prog 294 #[.agg #[.int .i64 0,.int .i64 r]] W fun e w'=>e=.returned (.bool true)∧Below W.heap.size W w'):=fun r W=>cg_alone 0 r W
 generalize optC ((Sp.work k a b).map fun n=>⟨0,n⟩)=res at *
 generalize workVal k a b=z at *
 generalize (Sp.work k a b).isSome=ok at *
 obtain ⟨a1,a2⟩:=ha
 obtain ⟨b1,b2⟩:=hb
 have e1:IntKind.i16.wrap a=a:=by rw [IntWalk.i16_in] <;> omega
 have e2:IntKind.i16.wrap b=b:=by rw [IntWalk.i16_in] <;> omega
 clear a1 a2 b1 b2 z1 z2 hk
 have h0':CgAt w (w.heap.size + 1) (w.heap.size + 1 + 1) (w.heap.size + 1 + 1 + 1) 0 a 0 b ((((w.alloc (.cells #[] 128)).alloc (.cells #[.int .i64 0,.int .i64 a] 126)).alloc (.cells #[.int .i64 0,.int .i64 b] 126)).alloc (.cells #[.int .i64 0,.int .i64 0] 126)):=by
  obtain ⟨h1,h2,h3,h4,hb⟩:=laid4b (w:=w) (o1:=.cells #[] 128) (o2:=.cells #[.int .i64 0,.int .i64 a] 126) (o3:=.cells #[.int .i64 0,.int .i64 b] 126) (o4:=.cells #[.int .i64 0,.int .i64 0] 126) (Below.refl _ _)
  exact ⟨h2,h3,⟨_,_,h4⟩,hb⟩
 have h0:CwAt w w.heap.size (w.heap.size + 1) (w.heap.size + 1 + 1) (w.heap.size + 1 + 1 + 1) 0 a 0 b ((((w.alloc (.cells #[] 128)).alloc (.cells #[.int .i64 0,.int .i64 a] 126)).alloc (.cells #[.int .i64 0,.int .i64 b] 126)).alloc (.cells #[.int .i64 0,.int .i64 0] 126)):=by
  obtain ⟨h1,_⟩:=laid4b (w:=w) (o1:=.cells #[] 128) (o2:=.cells #[.int .i64 0,.int .i64 a] 126) (o3:=.cells #[.int .i64 0,.int .i64 b] 126) (o4:=.cells #[.int .i64 0,.int .i64 0] 126) (Below.refl _ _)
  exact ⟨h0',h1⟩
 clear h0'
 go_enter Tryz.func305,Tryz.ntmps305
 go_upto_region 1 with fail
 generalize ((((w.alloc (.cells #[] 128)).alloc (.cells #[.int .i64 0,.int .i64 a] 126)).alloc (.cells #[.int .i64 0,.int .i64 b] 126)).alloc (.cells #[.int .i64 0,.int .i64 0] 126))=W at *
 obtain ⟨kd,hkd⟩:∃ kd,kd=w.heap.size:=⟨_,rfl⟩
 obtain ⟨kx,hkx⟩:∃ kx,kx=w.heap.size + 1:=⟨_,rfl⟩
 obtain ⟨ky,hky⟩:∃ ky,ky=w.heap.size + 1 + 1:=⟨_,rfl⟩
 obtain ⟨kr,hkr⟩:∃ kr,kr=w.heap.size + 1 + 1 + 1:=⟨_,rfl⟩
 have hk1:kx ≠ kr:=by omega
 have hk2:ky ≠ kr:=by omega
 have hk3:w.heap.size≤kr:=by omega
 rw [← hkr,← hky,← hkx,← hkd] at h0
 rw [← hkr,← hky,← hkx,← hkd]
 clear hkd hkx hky hkr
 obtain ⟨x0,x1,y0,y1⟩:=h0.g.cells
 go_wp2_with fail
 refine (HA.out _ _).mono ?_
 rintro e w1 ⟨rfl,b1⟩
 have h1:=h0.call b1
 clear x0 x1 y0 y1 b1 h0
 obtain ⟨x0,x1,y0,y1⟩:=h1.g.cells
 go_wp2_with fail
 refine (HA.out _ _).mono ?_
 rintro e w2 ⟨rfl,b1⟩
 have h2:=h1.call b1
 clear x0 x1 y0 y1 b1 h1 HA
 obtain ⟨x0,x1,y0,y1⟩:=h2.g.cells
 go_wp2_with fail
 refine (HW.out _).mono ?_
 rintro e w3 ⟨rfl,rfl⟩
 have qo:=h2.o
 clear x0 x1 y0 y1 HW
 go_wp2_with fail
 refine (HN.out _).mono ?_
 rintro e w3 ⟨rfl,b1⟩
 have HH:=h2.call b1
 clear b1 h2 HN qo
 obtain ⟨u0,v0,hr⟩:=HH.g.r
 obtain ⟨m0,m1,mf0,mf1,_⟩:=res2 hr
 have MQ:Hid (_∧_):=HH.g.there (.int .i64 0) (.int .i64 z)
 have BQ:Hid (Below w.heap.size w _):=(HH.g.put hk1 hk2 hk3 (.int .i64 0) (.int .i64 z)).b
 clear hr HH
 go_wp2_with fail
 exact bodyPost_ret (v:=.tuple #[.agg #[.int .i64 0,.int .i64 z],.bool ok]) (by simp [results,Tryz.results305,go_sem,MQ.out.1,MQ.out.2]) rfl ⟨E.out,BQ.out⟩
theorem cg_work_all (k:Nat) (hk:k<5) (x y:Sp.Cg) (w:World) (hx:Sp.cgWf x) (hy:Sp.cgWf y) :
  Calls Tryz.prog 305 #[.agg #[],.int .i64 (k:Nat),.agg #[.int .i64 (x.m:Nat),.int .i64 x.r],.agg #[.int .i64 (y.m:Nat),.int .i64 y.r]] w fun e w'=>e=.returned (optC (Sp.cgWork k x y))∧Below w.heap.size w w':=by
 by_cases hn:x.m=0∧y.m=0
 ·have hx':Sp.I16 x.r:=by
   rcases hx with h | h
   ·exact h.2
   ·omega
  have hy':Sp.I16 y.r:=by
   rcases hy with h | h
   ·exact h.2
   ·omega
  have E:Sp.cgWork k x y=(Sp.work k x.r y.r).map fun n=>⟨0,n⟩:=by unfold Sp.cgWork; rw [if_pos hn]
  rw [E,hn.1,hn.2]
  exact cg_work_alone k hk x.r y.r w hx' hy'
 ·rcases (show k=0∨k=1∨k=2∨k=3∨k=4 from by omega) with rfl | rfl | rfl | rfl | rfl
  ·exact cg_work0 x y w hx hy hn
  ·exact cg_work1 x y w hx hy hn
  ·exact cg_work2 x y w hx hy hn
  ·exact cg_work3 x y w hx hy hn
  ·exact cg_work4 x y w hx hy hn
end Go.Proofs.YtiopfihjmkfdmaaGreatDoor
