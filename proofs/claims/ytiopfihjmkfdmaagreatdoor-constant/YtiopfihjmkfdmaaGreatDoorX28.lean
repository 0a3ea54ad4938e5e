import Derived.Test.YtiopfihjmkfdmaaGreatDoorX25
import Derived.Test.YtiopfihjmkfdmaaGreatDoorX27
namespace Go.Proofs.YtiopfihjmkfdmaaGreatDoor
open Go.RowKit
set_option maxRecDepth 100000
set_option maxHeartbeats 4000000
theorem cg_has (x:Sp.Cg) (n:Int) (w:World) (hw:Sp.cgWf x) :
  Calls Tryz.prog 313 #[.agg #[.int .i64 (x.m:Nat),.int .i64 x.r],.int .i64 n] w fun e w'=>e=.returned (.bool (decide (Sp.cgMem x n)))∧Below w.heap.size w w':=by
 obtain ⟨t,ht⟩:∃ t,Hid (t=Sp.cgClass x.m n):=⟨_,rfl⟩
 have HC:Hid (∀ W:World,Calls Tryz.prog 307 #[.int .i64 (x.m:Nat),.int .i64 n] W fun e w'=>e=.returned (.agg #[.int .i64 (t.m:Nat),.int .i64 t.r])∧Below W.heap.size W w'):=fun W=>by
  rw [ht.out]
  exact cg_class x.m n W (by have:=Sp.wf_m hw; omega)
 have HE:Hid (decide (((t.m:Nat):Int)=((x.m:Nat):Int)∧t.r=x.r)=decide (Sp.cgMem x n)):=by
  unfold Hid
  have h:=Sp.has_iff hw n
  rw [← ht.out] at h
  obtain ⟨tm,tr⟩:=t
  obtain ⟨xm,xr⟩:=x
  simp only [Sp.Cg.mk.injEq] at h
  rw [Bool.eq_iff_iff,decide_eq_true_eq,decide_eq_true_eq,← h]
  simp only
  omega
 clear hw ht
 have eT:∀ w,(Op.equalIn 10000 126 (.agg #[.int .i64 (t.m:Nat),.int .i64 t.r]) (.agg #[.int .i64 (x.m:Nat),.int .i64 x.r])).run Tryz.prog w=.ok (decide (((t.m:Nat):Int)=((x.m:Nat):Int)∧t.r=x.r)) w:=fun w=>by rw [eqC]
 rw [HE.out] at eT
 clear HE
 generalize decide (Sp.cgMem x n)=res at *
 generalize x.r=b at *
 generalize ((x.m:Nat):Int)=a at *
 have h0:CgAt w w.heap.size w.heap.size w.heap.size a b a b (w.alloc (.cells #[.int .i64 a,.int .i64 b] 126)):=⟨heap_alloc_new _ _,heap_alloc_new _ _,⟨_,_,heap_alloc_new _ _⟩,below_alloc1 _ _⟩
 go_enter Tryz.func313,Tryz.ntmps313
 go_wp2_with fail
 generalize w.alloc (.cells #[.int .i64 a,.int .i64 b] 126)=W at *
 obtain ⟨kx,hkx⟩:∃ kx,kx=w.heap.size:=⟨_,rfl⟩
 rw [← hkx] at h0
 rw [← hkx]
 clear hkx
 refine wp_region_held_drew (S:=fun w':World=>CgAt w kx kx kx a b a b w') (by kernel_rfl) (h0.call (Below.refl _ _).drew) (fun hHeld=>?_)
 generalize W.drew=V at *
 refine tk 4 (.agg #[.int .i64 a,.int .i64 b]) rfl (fun w' h=>by have q:=h.cells.1; have q2:=h.cells.2.1; go_simp) hHeld ?_
 simp only [Act.put]
 refine tk 0 (.pointer (some ⟨kx,0,none⟩)) rfl (fun w' h=>by go_simp) hHeld ?_
 simp only [Act.put]
 refine tk 1 (.int .i64 a) rfl (fun w' h=>by have q:=h.cells.1; go_simp) hHeld ?_
 simp only [Act.put]
 refine tk 2 (.int .i64 n) rfl (fun w' h=>by go_simp) hHeld ?_
 simp only [Act.put]
 refine rd1 3 fun K hK=>?_
 simp only [gsb,gsa]
 go_simp
 refine (HC.out _).mono ?_
 rintro e w1 ⟨rfl,b1⟩
 replace hHeld:=hHeld.call b1
 clear b1
 go_wp2_with fail
 refine hK.out _ _ hHeld (fun _=>?_)
 clear hK K
 refine rd1 5 fun K hK=>?_
 simp only [gsb]
 go_simp
 refine hK.out _ _ hHeld (fun _=>?_)
 clear hK K
 refine rd1 6 fun K hK=>?_
 simp only [gsb]
 go_simp
 refine hK.out _ _ hHeld (fun _=>?_)
 clear hK K
 refine wpAnyH_done (by kernel_rfl) ?_ _
 go_wp2_with fail
 go_ret
 exact ⟨rfl,hHeld.b⟩
theorem cg_first (x:Sp.Cg) (w:World) (h0:0<x.m) (h1:x.m≤65536) (h2:x.r.natAbs≤65536) :
  Calls Tryz.prog 315 #[.agg #[.int .i64 (x.m:Nat),.int .i64 x.r]] w fun e w'=>e=.returned (.int .i64 (Sp.firstOf x))∧Below w.heap.size w w':=by
 obtain ⟨t,ht⟩:∃ t,Hid (t=(x.r + 32768) % ((x.m:Nat):Int)):=⟨_,rfl⟩
 have t1:0≤t:=by rw [ht.out]; exact Int.emod_nonneg _ (by omega)
 have t2:t<x.m:=by rw [ht.out]; exact Int.emod_lt_of_pos _ (by omega)
 have HC:Hid (∀ W:World,Calls Tryz.prog 314 #[.int .i64 (x.r + 32768),.int .i64 (x.m:Nat)] W fun e w'=>e=.returned (.int .i64 t)∧w'=W):=fun W=>by
  rw [ht.out]
  exact cg_left (x.r + 32768) (x.m:Nat) W (by omega) (by omega)
 have E:Hid (Sp.firstOf x=-32768 + t):=by unfold Hid Sp.firstOf; rw [ht.out]
 have e1:x.r - -32768=x.r + 32768:=by omega
 clear ht
 go_enter Tryz.func315,Tryz.ntmps315
 go_wp2_with fail
 try simp only [e1]
 refine (HC.out _).mono ?_
 rintro e w1 ⟨rfl,rfl⟩
 go_wp2_with fail
 go_ret
 exact ⟨by rw [E.out]; rfl,below_alloc1 _ _⟩
theorem cg_onward (n:Int) (ap:Nat) (w:World) (h1:-32768≤n) (h2:n≤32767) (h3:ap≤4294967296) :
  Calls Tryz.prog 316 #[.int .i64 n,.int .i64 (ap:Nat)] w fun e w'=>e=.returned (.agg #[.int .i64 ((if 32767<n + (ap:Nat) then ⟨0,n⟩ else Sp.cgClass ap n:Sp.Cg).m:Nat),.int .i64 (if 32767<n + (ap:Nat) then ⟨0,n⟩ else Sp.cgClass ap n:Sp.Cg).r])∧Below w.heap.size w w':=by
 by_cases hb:32767<n + (ap:Nat)
 ·rw [if_pos hb]
  go_enter Tryz.func316,Tryz.ntmps316
  go_wp2_with fail
  go_returns
  exact ⟨rfl,by go_grown⟩
 ·rw [if_neg hb]
  have HC:Hid (∀ W:World,Calls Tryz.prog 307 #[.int .i64 (ap:Nat),.int .i64 n] W fun e w'=>e=.returned (.agg #[.int .i64 ((Sp.cgClass ap n).m:Nat),.int .i64 (Sp.cgClass ap n).r])∧Below W.heap.size W w'):=fun W=>cg_class ap n W (by omega)
  generalize Sp.cgClass ap n=t at *
  go_enter Tryz.func316,Tryz.ntmps316
  go_wp2_with fail
  refine (HC.out _).mono ?_
  rintro e w1 ⟨rfl,b1⟩
  obtain ⟨bw,hz⟩:=below_drop b1
  obtain ⟨m0,m1,mf0,mf1,mq⟩:=res2 hz
  have MQ:Hid (_∧_):=mq (.int .i64 (t.m:Nat)) (.int .i64 t.r)
  have BW:Hid (Below w.heap.size w w1):=bw
  clear mq b1 bw hz HC
  go_wp2_with fail
  exact bodyPost_ret (v:=.agg #[.int .i64 (t.m:Nat),.int .i64 t.r]) (by simp [results,Tryz.results316,go_sem,MQ.out.1,MQ.out.2]) rfl ⟨rfl,(BW.out.setCell (p:=⟨w.heap.size,0,none⟩) (Nat.le_refl _) _).setCell (p:=⟨w.heap.size,1,none⟩) (Nat.le_refl _) _⟩
theorem cg_negate (x:Sp.Cg) (w:World) (hw:Sp.cgWf x) :
  Calls Tryz.prog 300 #[.agg #[],.agg #[.int .i64 (x.m:Nat),.int .i64 x.r]] w fun e w'=>e=.returned (.agg #[.int .i64 ((Sp.cgNeg x).m:Nat),.int .i64 (Sp.cgNeg x).r])∧Below w.heap.size w w':=by
 by_cases hm:x.m=0
 ·have hr : Sp.I16 x.r := by rcases hw with h | h
                             ·exact h.2
                             ·omega
  obtain ⟨r1,r2⟩:=hr
  have E:Hid (Sp.cgNeg x=⟨0,Sp.w16 (-x.r)⟩):=by unfold Hid Sp.cgNeg; rw [if_pos hm]
  rw [E.out]
  have hz:=Sp.w16_in (-x.r)
  obtain ⟨z,hzz⟩:∃ z,Hid (z=Sp.w16 (-x.r)):=⟨_,rfl⟩
  rw [← hzz.out] at hz ⊢
  have e1:IntKind.i16.wrap (-x.r)=z:=hzz.out.symm
  have HA:Hid (∀ W:World,Calls Tryz.prog 294 #[.agg #[.int .i64 (x.m:Nat),.int .i64 x.r]] W fun e w'=>e=.returned (.bool true)∧Below W.heap.size W w'):=fun W=>by
   have:=cg_alone x.m x.r W
   rwa [decide_eq_true hm] at this
  have HN:Hid (∀ W:World,Calls Tryz.prog 301 #[.agg #[],.int .i16 z] W fun e w'=>e=.returned (.agg #[.int .i64 0,.int .i64 z])∧Below W.heap.size W w'):=fun W=>cg_number z W hz.1 hz.2
  clear hzz E hw hm
  go_enter Tryz.func300,Tryz.ntmps300
  go_wp2_with fail
  refine (HA.out _).mono ?_
  rintro e w1 ⟨rfl,b1⟩
  obtain ⟨k1,k2,k3,bw⟩:=laid3b b1
  have x0:=cell_of k2 0 (v:=.int .i64 (x.m:Nat)) rfl
  have x1:=cell_of k2 1 (v:=.int .i64 x.r) rfl
  have K1:Hid (_=_):=k1
  have K3:Hid (_=_):=k3
  have BW:Hid (Below w.heap.size w w1):=bw
  clear b1 k1 k2 k3 bw HA
  go_wp2_with fail
  refine (HN.out _).mono ?_
  rintro e w2 ⟨rfl,b2⟩
  have hz2:=(b2.block _ (heap_lt K3.out)).trans K3.out
  have B2:Hid (Below w.heap.size w w2):=BW.out.trans (b2.mono BW.out.size)
  obtain ⟨m0,m1,mf0,mf1,mq⟩:=res2 hz2
  have MQ:Hid (_∧_):=mq (.int .i64 0) (.int .i64 z)
  clear mq hz2 b2 K3 BW x0 x1
  go_wp2_with fail
  exact bodyPost_ret (v:=.agg #[.int .i64 0,.int .i64 z]) (by simp [results,Tryz.results300,go_sem,MQ.out.1,MQ.out.2]) rfl ⟨rfl,(B2.out.setCell (p:=⟨w.heap.size + 1 + 1,0,none⟩) (by show w.heap.size≤w.heap.size + 1 + 1; omega) _).setCell (p:=⟨w.heap.size + 1 + 1,1,none⟩) (by show w.heap.size≤w.heap.size + 1 + 1; omega) _⟩
 ·have h5:1≤x.m∧x.m≤65536∧0≤x.r∧x.r<x.m:=by
   rcases hw with h | h
   ·omega
   ·exact h
  have E:Hid (Sp.cgNeg x=Sp.cgTwo x.m (-x.r)):=by unfold Hid Sp.cgNeg; rw [if_neg hm]
  rw [E.out]
  have HA:Hid (∀ W:World,Calls Tryz.prog 294 #[.agg #[.int .i64 (x.m:Nat),.int .i64 x.r]] W fun e w'=>e=.returned (.bool false)∧Below W.heap.size W w'):=fun W=>by
   have:=cg_alone x.m x.r W
   rwa [decide_eq_false hm] at this
  have HN:Hid (∀ W:World,Calls Tryz.prog 309 #[.int .i64 (x.m:Nat),.int .i64 (-x.r)] W fun e w'=>e=.returned (.agg #[.int .i64 ((Sp.cgTwo x.m (-x.r)).m:Nat),.int .i64 (Sp.cgTwo x.m (-x.r)).r])∧Below W.heap.size W w'):=fun W=>cg_wrapped x.m (-x.r) W (by omega)
  generalize Sp.cgTwo x.m (-x.r)=t at *
  have e1:IntKind.i64.wrap (-x.r)=-x.r:=by rw [IntWalk.i64_in] <;> omega
  clear E hw
  go_enter Tryz.func300,Tryz.ntmps300
  go_wp2_with fail
  refine (HA.out _).mono ?_
  rintro e w1 ⟨rfl,b1⟩
  obtain ⟨k1,k2,k3,bw⟩:=laid3b b1
  have x0:=cell_of k2 0 (v:=.int .i64 (x.m:Nat)) rfl
  have x1:=cell_of k2 1 (v:=.int .i64 x.r) rfl
  have K3:Hid (_=_):=k3
  have BW:Hid (Below w.heap.size w w1):=bw
  clear b1 k1 k2 k3 bw HA
  go_wp2_with fail
  refine (HN.out _).mono ?_
  rintro e w2 ⟨rfl,b2⟩
  have hz2:=(b2.block _ (heap_lt K3.out)).trans K3.out
  have B2:Hid (Below w.heap.size w w2):=BW.out.trans (b2.mono BW.out.size)
  obtain ⟨m0,m1,mf0,mf1,mq⟩:=res2 hz2
  have MQ:Hid (_∧_):=mq (.int .i64 (t.m:Nat)) (.int .i64 t.r)
  clear mq hz2 b2 K3 BW x0 x1
  go_wp2_with fail
  exact bodyPost_ret (v:=.agg #[.int .i64 (t.m:Nat),.int .i64 t.r]) (by simp [results,Tryz.results300,go_sem,MQ.out.1,MQ.out.2]) rfl ⟨rfl,(B2.out.setCell (p:=⟨w.heap.size + 1 + 1,0,none⟩) (by show w.heap.size≤w.heap.size + 1 + 1; omega) _).setCell (p:=⟨w.heap.size + 1 + 1,1,none⟩) (by show w.heap.size≤w.heap.size + 1 + 1; omega) _⟩
end Go.Proofs.YtiopfihjmkfdmaaGreatDoor
namespace Go.Proofs.YtiopfihjmkfdmaaGreatDoor
open Go.RowKit
set_option maxRecDepth 100000
set_option maxHeartbeats 4000000
theorem cg_meetClasses (x y:Sp.Cg) (w:World) (hx:Sp.cgWf x) (hy:Sp.cgWf y) (hx0:0<x.m) (hy0:0<y.m) :
  Calls Tryz.prog 312 #[.agg #[.int .i64 (x.m:Nat),.int .i64 x.r],.agg #[.int .i64 (y.m:Nat),.int .i64 y.r]] w fun e w'=>e=.returned (optC (Sp.cgMeet x y))∧Below w.heap.size w w':=by
 obtain ⟨hx1,hx2⟩:=wf_small hx
 obtain ⟨hy1,hy2⟩:=wf_small hy
 obtain ⟨gg,hgg⟩:∃ gg,Hid (gg=Nat.gcd x.m y.m):=⟨_,rfl⟩
 have hg0:0<gg:=by rw [hgg.out]; exact Nat.gcd_pos_of_pos_left _ hx0
 obtain ⟨q,hq⟩:∃ q,Hid (q=x.m / gg):=⟨_,rfl⟩
 obtain ⟨ap,hap⟩:∃ ap,Hid (ap=Sp.apartN x.m y.m):=⟨_,rfl⟩
 have hqa:Hid (q * y.m=ap):=by unfold Hid; rw [hap.out,hq.out,hgg.out]; rfl
 have hqb:q≤65536:=by rw [hq.out]; exact Nat.le_trans (Nat.div_le_self _ _) hx1
 have hapb:ap≤4294967296:=by rw [← hqa.out]; exact Nat.mul_le_mul hqb hy1
 have ediv:(((x.m:Nat):Int)).tdiv (gg:Int)=(q:Nat):=by rw [hq.out]; exact (Int.ofNat_tdiv x.m gg)
 have hdiv:IntKind.i64.wrap ((((x.m:Nat):Int)).tdiv (gg:Int))=(q:Nat):=by rw [ediv,IntWalk.i64_in] <;> omega
 have emul:(q:Int) * ((y.m:Nat):Int)=(ap:Nat):=by rw [← hqa.out]; exact (Int.natCast_mul q y.m).symm
 have hmul:IntKind.i64.wrap ((q:Int) * ((y.m:Nat):Int))=(ap:Nat):=by rw [emul,IntWalk.i64_in] <;> omega
 have hgi:¬ ((gg:Nat):Int)=0:=by omega
 have hgn:¬ gg=0:=by omega
 have hqw:IntKind.i64.wrap ((q:Nat):Int)=(q:Nat):=by rw [IntWalk.i64_in] <;> omega
 have hapw:IntKind.i64.wrap ((ap:Nat):Int)=(ap:Nat):=by rw [IntWalk.i64_in] <;> omega
 obtain ⟨f,hf⟩:∃ f,Hid (f=Sp.firstOf x):=⟨_,rfl⟩
 have hf1:-32768≤f∧f≤32768 + 65536:=by
  rw [hf.out]
  unfold Sp.firstOf
  have h1:=Int.emod_nonneg (x.r + 32768) (show ((x.m:Nat):Int) ≠ 0 by omega)
  have h2:=Int.emod_lt_of_pos (x.r + 32768) (show (0:Int)<((x.m:Nat):Int) by omega)
  omega
 obtain ⟨hf1,hf2⟩:=hf1
 have HF:Hid (∀ W:World,Calls Tryz.prog 315 #[.agg #[.int .i64 (x.m:Nat),.int .i64 x.r]] W fun e w'=>e=.returned (.int .i64 f)∧Below W.heap.size W w'):=fun W=>by
  rw [hf.out]
  exact cg_first x W hx0 hx1 hx2
 have HG:Hid (∀ (W:World) (k:Nat),k=W.heap.size→Calls Tryz.prog 308 #[.slice (some ⟨k,0,none⟩) 2 2] (W.alloc (.cells #[.int .i64 (x.m:Nat),.int .i64 (y.m:Nat)] 2)) fun e w'=>e=.returned (.int .i64 (gg:Nat))∧Below W.heap.size W w'):=fun W k hk=>by
  rw [hgg.out,hk]
  exact gcd_new2 (x.m:Nat) (y.m:Nat) W (by omega) (by omega)
 obtain ⟨M,hM⟩:∃ M:Int→Bool,Hid (∀ n,M n=decide (Sp.cgMem y n)):=⟨_,fun _=>rfl⟩
 have HM:Hid (∀ (n:Int) (W:World),Calls Tryz.prog 313 #[.agg #[.int .i64 (y.m:Nat),.int .i64 y.r],.int .i64 n] W fun e w'=>e=.returned (.bool (M n))∧Below W.heap.size W w'):=fun n W=>by rw [hM.out]; exact cg_has y n W hy
 have HO:Hid (∀ (n:Int) (W:World),-32768≤n→n≤32767→∃ t:Sp.Cg,t=(if 32767<n + (ap:Nat) then ⟨0,n⟩ else Sp.cgBy ap n:Sp.Cg)∧Calls Tryz.prog 316 #[.int .i64 n,.int .i64 (ap:Nat)] W fun e w'=>e=.returned (.agg #[.int .i64 (t.m:Nat),.int .i64 t.r])∧Below W.heap.size W w'):=fun n W h1 h2=>by
  have h0:ap ≠ 0:=by rw [hap.out]; exact Nat.pos_iff_ne_zero.1 (Sp.apart_pos hx0 hy0)
  have h:=cg_onward n ap W h1 h2 hapb
  have e:Sp.cgClass ap n=Sp.cgBy ap n:=by unfold Sp.cgClass; rw [if_neg h0]
  rw [e] at h
  exact ⟨_,rfl,h⟩
 have HS:Hid (∀ (k:Nat) (n:Int) (t:Sp.Cg),n=f + (k:Int) * ((x.m:Nat):Int)→n≤32767→M n=true→(∀ j:Nat,j<k→M (f + (j:Int) * ((x.m:Nat):Int))=false)→t=(if 32767<n + (ap:Nat) then ⟨0,n⟩ else Sp.cgBy ap n:Sp.Cg)→Sp.cgMeet x y=some t):=fun k n t h1 h2 h3 h4 h5=>by
  subst h1
  rw [h5,hap.out]
  rw [hf.out] at h2 h3 h4 ⊢
  rw [hM.out] at h3
  exact Sp.meet_found hx0 hy0 h2 (of_decide_eq_true h3) (fun j hj=>of_decide_eq_false (by rw [← hM.out]; exact h4 j hj))
 have HE:Hid (∀ (k:Nat) (n:Int),n=f + (k:Int) * ((x.m:Nat):Int)→(32767<n∨f + (ap:Nat)≤n)→(∀ j:Nat,j<k→M (f + (j:Int) * ((x.m:Nat):Int))=false)→Sp.cgMeet x y=none):=fun k n h1 h2 h3=>by
  subst h1
  rw [hf.out] at h2 h3
  refine Sp.meet_none (k:=k) hx0 hy0 ?_ (fun j hj=>of_decide_eq_false (by rw [← hM.out]; exact h3 j hj))
  rw [← hap.out]
  omega
 have hxa:(1:Int)≤((x.m:Nat):Int)∧((x.m:Nat):Int)≤65536:=by omega
 obtain ⟨hxa,hxb⟩:=hxa
 have hap2:((ap:Nat):Int)≤4294967296:=by omega
 clear hx hy hx0 hy0 hx1 hx2 hy1 hy2 hgg hq hap hqa hqb hapb hf hg0
 generalize Sp.cgMeet x y=res at *
 clear hM
 generalize x.r=b at *
 generalize y.r=d at *
 generalize ((x.m:Nat):Int)=a at *
 generalize ((y.m:Nat):Int)=c at *
 have h0:CgAt w (w.heap.size) (w.heap.size + 1) (w.heap.size + 1 + 1) a b c d (((w.alloc (.cells #[.int .i64 a,.int .i64 b] 126)).alloc (.cells #[.int .i64 c,.int .i64 d] 126)).alloc (.cells #[.int .i64 0,.int .i64 0] 126)):=by
  obtain ⟨h1,h2,h3,hb⟩:=laid3b (w:=w) (o1:=.cells #[.int .i64 a,.int .i64 b] 126) (o2:=.cells #[.int .i64 c,.int .i64 d] 126) (o3:=.cells #[.int .i64 0,.int .i64 0] 126) (Below.refl _ _)
  exact ⟨h1,h2,⟨_,_,h3⟩,hb⟩
 go_enter Tryz.func312,Tryz.ntmps312
 go_wp2_with fail
 generalize (((w.alloc (.cells #[.int .i64 a,.int .i64 b] 126)).alloc (.cells #[.int .i64 c,.int .i64 d] 126)).alloc (.cells #[.int .i64 0,.int .i64 0] 126))=W at *
 obtain ⟨kx,hkx⟩:∃ kx,kx=(w.heap.size):=⟨_,rfl⟩
 obtain ⟨ky,hky⟩:∃ ky,ky=(w.heap.size + 1):=⟨_,rfl⟩
 obtain ⟨kr,hkr⟩:∃ kr,kr=(w.heap.size + 1 + 1):=⟨_,rfl⟩
 have hk1:kx ≠ kr:=by omega
 have hk2:ky ≠ kr:=by omega
 have hk3:w.heap.size≤kr:=by omega
 rw [← hkr,← hky,← hkx] at h0
 rw [← hkr,← hky,← hkx]
 clear hkx hky hkr
 refine wp_region_held_drew (S:=fun w':World=>CgAt w kx ky kr a b c d w') (by kernel_rfl) (h0.call (Below.refl _ _).drew) (fun hHeld=>?_)
 generalize W.drew=V at *
 refine tk 0 (.pointer (some ⟨kx,0,none⟩)) rfl (fun w' h=>by go_simp) hHeld ?_
 simp only [Act.put]
 refine tk 1 (.int .i64 a) rfl (fun w' h=>by have q:=h.cells.1; go_simp) hHeld ?_
 simp only [Act.put]
 refine tk 2 (.pointer (some ⟨kx,0,none⟩)) rfl (fun w' h=>by go_simp) hHeld ?_
 simp only [Act.put]
 refine tk 3 (.int .i64 a) rfl (fun w' h=>by have q:=h.cells.1; go_simp) hHeld ?_
 simp only [Act.put]
 refine tk 4 (.pointer (some ⟨ky,0,none⟩)) rfl (fun w' h=>by go_simp) hHeld ?_
 simp only [Act.put]
 refine tk 5 (.int .i64 c) rfl (fun w' h=>by have q:=h.cells.2.2.1; go_simp) hHeld ?_
 simp only [Act.put]
 refine tk 9 (.pointer (some ⟨ky,0,none⟩)) rfl (fun w' h=>by go_simp) hHeld ?_
 simp only [Act.put]
 refine tk 10 (.int .i64 c) rfl (fun w' h=>by have q:=h.cells.2.2.1; go_simp) hHeld ?_
 simp only [Act.put]
 refine rd1 6 fun K hK=>?_
 simp only [gsb,gsa]
 go_simp
 refine hK.out _ _ (hHeld.call (below_alloc1 _ _)) (fun _=>?_)
 clear hK K
 refine rd1 7 fun K hK=>?_
 simp only [gsb]
 go_simp
 refine (HG.out _ _ (by first | rfl | simp)).mono ?_
 rintro e w1 ⟨rfl,b1⟩
 replace hHeld:=hHeld.call b1
 clear b1
 go_wp2_with fail
 refine hK.out _ _ hHeld (fun _=>?_)
 clear hK K
 refine rd1 8 fun K hK=>?_
 simp only [gsb]
 go_simp
 refine hK.out _ _ hHeld (fun _=>?_)
 clear hK K
 refine rd1 11 fun K hK=>?_
 simp only [gsb]
 go_simp
 refine hK.out _ _ hHeld (fun _=>?_)
 clear hK K
 refine rd1 12 fun K hK=>?_
 simp only [gsb]
 go_simp
 refine hK.out _ _ hHeld (fun _=>?_)
 clear hK K
 refine wpAnyH_done (by kernel_rfl) ?_ _
 obtain ⟨x0,x1,y0,y1⟩:=hHeld.cells
 clear HG hdiv hmul ediv emul hqw hgi hgn h0
 go_wp2_with fail
 refine (HF.out _).mono ?_
 rintro e w2 ⟨rfl,b2⟩
 have H2:Hid (CgAt w kx ky kr a b c d w2):=hHeld.call b2
 clear b2 hHeld HF x0 x1 y0 y1
 go_wp2_with fail
 go_loopw [8] (fun v8 wr=>∃ (k:Nat) (n:Int),v8=.int .i64 n∧-32768≤n∧n≤200000∧Hid (n=f + (k:Int) * a)∧Hid (∀ j:Nat,j<k→M (f + (j:Int) * a)=false)∧Hid (CgAt w kx ky kr a b c d wr)) (fun v8 _=>(200000 - intOf v8).toNat)
 case atStart=>exact ⟨0,f,rfl,hf1,by omega,by simp [Hid],fun j hj=>absurd hj (Nat.not_lt_zero j),H2⟩
 case round =>
  obtain ⟨k,n,rfl,hn1,hn2,hnk,hlow,hq⟩:=hrel
  clear H2
  by_cases hm1:n≤32767
  ·by_cases hm2:n<f + (ap:Nat)
   ·obtain ⟨x0,x1,y0,y1⟩:=hq.out.cells
    go_wp2_with fail
    refine (HM.out n _).mono ?_
    rintro e w3 ⟨rfl,b3⟩
    have h3:=hq.out.call b3
    clear b3 x0 x1 y0 y1
    cases hMn:M n with
    | true =>
     obtain ⟨t,ht,hO⟩:=HO.out n w3 hn1 hm1
     have E:Hid (res=some t):=HS.out k n t hnk.out hm1 hMn hlow.out ht
     have HOt:Hid (Calls _ _ _ _ _):=hO
     clear hO ht hMn
     go_wp2_with fail
     refine HOt.out.mono ?_
     rintro e w4 ⟨rfl,b4⟩
     have HH:=h3.call b4
     clear b4 h3 HOt
     obtain ⟨u0,v0,hr⟩:=HH.r
     obtain ⟨m0,m1,mf0,mf1,_⟩:=res2 hr
     have MQ:Hid (_∧_):=HH.there (.int .i64 (t.m:Nat)) (.int .i64 t.r)
     have BQ:Hid (Below w.heap.size w _):=(HH.put hk1 hk2 hk3 (.int .i64 (t.m:Nat)) (.int .i64 t.r)).b
     clear hr HH
     go_wp2_with fail
     exact bodyPost_ret (v:=.tuple #[.agg #[.int .i64 (t.m:Nat),.int .i64 t.r],.bool true]) (by simp [results,Tryz.results312,go_sem,MQ.out.1,MQ.out.2]) rfl ⟨optC_some E.out,BQ.out⟩
    | false =>
     obtain ⟨x0,x1,y0,y1⟩:=h3.cells
     have H3:Hid (CgAt w kx ky kr a b c d w3):=h3
     have HN:Hid (n + a=f + ((k + 1:Nat):Int) * a):=by
      unfold Hid
      rw [hnk.out,Int.natCast_succ,Int.add_mul]
      omega
     have HLO:Hid (∀ j:Nat,j<k + 1→M (f + (j:Int) * a)=false):=fun j hj=>by
      by_cases e:j=k
      ·subst e; rw [← hnk.out]; exact hMn
      ·exact hlow.out j (by omega)
     clear h3 hMn
     go_wp2_with fail
     exact ⟨⟨k + 1,n + a,rfl,by omega,by omega,HN,HLO,H3⟩,by simp [intOf]; omega⟩
   ·have E:Hid (res=none):=HE.out k n hnk.out (.inr (by omega)) hlow.out
    have hm2':decide (n<f + ((ap:Nat):Int))=false:=by simpa using hm2
    have HH:=hq.out
    clear hq hnk hlow
    obtain ⟨u0,v0,hr⟩:=HH.r
    obtain ⟨m0,m1,mf0,mf1,_⟩:=res2 hr
    have MQ:Hid (_∧_):=HH.there (.int .i64 0) (.int .i64 0)
    have BQ:Hid (Below w.heap.size w _):=(HH.put hk1 hk2 hk3 (.int .i64 0) (.int .i64 0)).b
    clear hr HH
    go_wp2_with fail
    exact bodyPost_ret (v:=.tuple #[.agg #[.int .i64 0,.int .i64 0],.bool false]) (by simp [results,Tryz.results312,go_sem,MQ.out.1,MQ.out.2]) rfl ⟨optC_none E.out,BQ.out⟩
  ·have E:Hid (res=none):=HE.out k n hnk.out (.inl (by omega)) hlow.out
   have hm1':decide (n≤32767)=false:=by simpa using hm1
   have HH:=hq.out
   clear hq hnk hlow
   obtain ⟨u0,v0,hr⟩:=HH.r
   obtain ⟨m0,m1,mf0,mf1,_⟩:=res2 hr
   have MQ:Hid (_∧_):=HH.there (.int .i64 0) (.int .i64 0)
   have BQ:Hid (Below w.heap.size w _):=(HH.put hk1 hk2 hk3 (.int .i64 0) (.int .i64 0)).b
   clear hr HH
   go_wp2_with fail
   exact bodyPost_ret (v:=.tuple #[.agg #[.int .i64 0,.int .i64 0],.bool false]) (by simp [results,Tryz.results312,go_sem,MQ.out.1,MQ.out.2]) rfl ⟨optC_none E.out,BQ.out⟩
end Go.Proofs.YtiopfihjmkfdmaaGreatDoor
namespace Go.Proofs.YtiopfihjmkfdmaaGreatDoor
open Go.RowKit
set_option maxRecDepth 100000
set_option maxHeartbeats 4000000
theorem CgAt.swap {w:World} {kx ky kr:Nat} {a b c d:Int} {W:World} (h:CgAt w kx ky kr a b c d W) (h1:kx ≠ kr) (h2:ky ≠ kr) (h3:kx ≠ ky) (h4:w.heap.size≤kx) (h5:w.heap.size≤ky):CgAt w kx ky kr c d a b ((((W.setCell ⟨kx,0,none⟩ (.int .i64 c)).setCell ⟨kx,1,none⟩ (.int .i64 d)).setCell ⟨ky,0,none⟩ (.int .i64 a)).setCell ⟨ky,1,none⟩ (.int .i64 b)):=by
 have e1:=heap_setCell_at (heap_setCell_at h.x 0 (.int .i64 c)) 1 (.int .i64 d)
 have e2:((W.setCell ⟨kx,0,none⟩ (.int .i64 c)).setCell ⟨kx,1,none⟩ (.int .i64 d)).heap[ky]?=some (.cells #[.int .i64 c,.int .i64 d] 126):=by
  rw [Below.heap_setCell _ _ _ _ h3.symm,Below.heap_setCell _ _ _ _ h3.symm]; exact h.y
 have e3:=heap_setCell_at (heap_setCell_at e2 0 (.int .i64 a)) 1 (.int .i64 b)
 obtain ⟨u,v,hr⟩:=h.r
 refine ⟨?_,e3,⟨u,v,?_⟩,?_⟩
 ·rw [Below.heap_setCell _ _ _ _ h3,Below.heap_setCell _ _ _ _ h3]; exact e1
 ·rw [Below.heap_setCell _ _ _ _ h2.symm,Below.heap_setCell _ _ _ _ h2.symm,Below.heap_setCell _ _ _ _ h1.symm,Below.heap_setCell _ _ _ _ h1.symm]; exact hr
 ·exact (((h.b.setCell (p:=⟨kx,0,none⟩) h4 _).setCell (p:=⟨kx,1,none⟩) h4 _).setCell (p:=⟨ky,0,none⟩) h5 _).setCell (p:=⟨ky,1,none⟩) h5 _
theorem cg_meet (x y:Sp.Cg) (w:World) (hx:Sp.cgWf x) (hy:Sp.cgWf y) :
  Calls Tryz.prog 306 #[.agg #[.int .i64 (x.m:Nat),.int .i64 x.r],.agg #[.int .i64 (y.m:Nat),.int .i64 y.r]] w fun e w'=>e=.returned (optC (Sp.cgMeet x y))∧Below w.heap.size w w':=by
 obtain ⟨p,q,hpq,hp,hq,hle,hme⟩:∃ p q:Sp.Cg,((x.m<y.m∧p=y∧q=x)∨(¬ x.m<y.m∧p=x∧q=y))∧Sp.cgWf p∧Sp.cgWf q∧q.m≤p.m∧Sp.cgMeet x y=Sp.cgMeet p q:=by
  by_cases h:x.m<y.m
  ·exact ⟨y,x,.inl ⟨h,rfl,rfl⟩,hy,hx,by omega,Sp.meet_comm x y⟩
  ·exact ⟨x,y,.inr ⟨h,rfl,rfl⟩,hx,hy,by omega,rfl⟩
 rw [hme]
 clear hme hx hy
 have HA:Hid (∀ W:World,Calls Tryz.prog 294 #[.agg #[.int .i64 (q.m:Nat),.int .i64 q.r]] W fun e w'=>e=.returned (.bool (decide (q.m=0)))∧Below W.heap.size W w'):=fun W=>cg_alone q.m q.r W
 have HH0:Hid (∀ W:World,Calls Tryz.prog 313 #[.agg #[.int .i64 (p.m:Nat),.int .i64 p.r],.int .i64 q.r] W fun e w'=>e=.returned (.bool (decide (Sp.cgMem p q.r)))∧Below W.heap.size W w'):=fun W=>cg_has p q.r W hp
 have HM:Hid (¬ q.m=0→∀ W:World,Calls Tryz.prog 312 #[.agg #[.int .i64 (p.m:Nat),.int .i64 p.r],.agg #[.int .i64 (q.m:Nat),.int .i64 q.r]] W fun e w'=>e=.returned (optC (Sp.cgMeet p q))∧Below W.heap.size W w'):=fun h W=>cg_meetClasses p q W hp hq (by omega) (by omega)
 have HE:Hid (q.m=0→Sp.cgMeet p q=if Sp.cgMem p q.r then some ⟨0,q.r⟩ else none):=fun h=>by
  have hr:Sp.I16 q.r:=by
   rcases hq with h | h
   ·exact h.2
   ·omega
  have e:q=⟨0,q.r⟩:=by cases q; simp only at h; rw [h]
  exact (congrArg (Sp.cgMeet p) e).trans (Sp.meet_one (x:=p) hr).1
 have HPQ:Hid (((x.m:Int)<(y.m:Int)∧(p.m:Int)=(y.m:Int)∧p.r=y.r∧(q.m:Int)=(x.m:Int)∧q.r=x.r)∨(¬ (x.m:Int)<(y.m:Int)∧(p.m:Int)=(x.m:Int)∧p.r=x.r∧(q.m:Int)=(y.m:Int)∧q.r=y.r)):=by
  unfold Hid
  rcases hpq with ⟨h,rfl,rfl⟩ | ⟨h,rfl,rfl⟩
  ·exact .inl ⟨by omega,rfl,rfl,rfl,rfl⟩
  ·exact .inr ⟨by omega,rfl,rfl,rfl,rfl⟩
 clear hpq hp hq hle
 generalize Sp.cgMeet p q=res at *
 obtain ⟨A,hA⟩:∃ A,A=((p.m:Nat):Int):=⟨_,rfl⟩
 obtain ⟨C,hC⟩:∃ C,C=((q.m:Nat):Int):=⟨_,rfl⟩
 rw [← hA,← hC] at HPQ
 rw [← hC] at HA
 rw [← hA] at HH0
 rw [← hA,← hC] at HM
 have HC0:Hid (C=0 ↔ q.m=0):=by unfold Hid; rw [hC]; omega
 clear hA hC
 generalize x.r=b at *
 generalize y.r=d at *
 generalize ((x.m:Nat):Int)=a at *
 generalize ((y.m:Nat):Int)=c at *
 have h0:CgAt w (w.heap.size) (w.heap.size + 1) (w.heap.size + 1 + 1) a b c d (((w.alloc (.cells #[.int .i64 a,.int .i64 b] 126)).alloc (.cells #[.int .i64 c,.int .i64 d] 126)).alloc (.cells #[.int .i64 0,.int .i64 0] 126)):=by
  obtain ⟨h1,h2,h3,hb⟩:=laid3b (w:=w) (o1:=.cells #[.int .i64 a,.int .i64 b] 126) (o2:=.cells #[.int .i64 c,.int .i64 d] 126) (o3:=.cells #[.int .i64 0,.int .i64 0] 126) (Below.refl _ _)
  exact ⟨h1,h2,⟨_,_,h3⟩,hb⟩
 go_enter Tryz.func306,Tryz.ntmps306
 go_upto_if 10 with fail
 generalize (((w.alloc (.cells #[.int .i64 a,.int .i64 b] 126)).alloc (.cells #[.int .i64 c,.int .i64 d] 126)).alloc (.cells #[.int .i64 0,.int .i64 0] 126))=W at *
 obtain ⟨kx,hkx⟩:∃ kx,kx=(w.heap.size):=⟨_,rfl⟩
 obtain ⟨ky,hky⟩:∃ ky,ky=(w.heap.size + 1):=⟨_,rfl⟩
 obtain ⟨kr,hkr⟩:∃ kr,kr=(w.heap.size + 1 + 1):=⟨_,rfl⟩
 have hk1:kx ≠ kr:=by omega
 have hk2:ky ≠ kr:=by omega
 have hk3:w.heap.size≤kr:=by omega
 have hk4:kx ≠ ky:=by omega
 have hk5:w.heap.size≤kx:=by omega
 have hk6:w.heap.size≤ky:=by omega
 rw [← hkr,← hky,← hkx] at h0
 rw [← hkr,← hky,← hkx]
 clear hkx hky hkr
 go_cut [] from 6 to 12 (fun wc=>Hid (CgAt w kx ky kr A p.r C q.r wc))
 case first =>
  obtain ⟨x0,x1,y0,y1⟩:=h0.cells
  have xf0:=frozen_of h0.x 0
  have xf1:=frozen_of h0.x 1
  have yf0:=frozen_of h0.y 0
  have yf1:=frozen_of h0.y 1
  rcases HPQ.out with ⟨hlt,e1,e2,e3,e4⟩ | ⟨hlt,e1,e2,e3,e4⟩
  ·have H1:Hid (CgAt w kx ky kr A p.r C q.r ((((W.setCell ⟨kx,0,none⟩ (.int .i64 c)).setCell ⟨kx,1,none⟩ (.int .i64 d)).setCell ⟨ky,0,none⟩ (.int .i64 a)).setCell ⟨ky,1,none⟩ (.int .i64 b))):=by
    unfold Hid
    rw [e1,e2,e3,e4]
    exact h0.swap hk1 hk2 hk4 hk5 hk6
   clear e1 e2 e3 e4 HPQ h0 HA HH0 HM HE HC0
   go_wp2_with fail
   go_meet
   case rel=>exact H1
  ·have H1:Hid (CgAt w kx ky kr A p.r C q.r W):=by
    unfold Hid
    rw [e1,e2,e3,e4]
    exact h0
   clear e1 e2 e3 e4 HPQ h0 HA HH0 HM HE HC0
   go_wp2_with fail
   go_meet
   case rel=>exact H1
 case rest =>
  have h1:=hcut.out
  clear h0 hcut HPQ
  generalize p.r=B at *
  by_cases hq0:q.m=0
  ·have E:=HE.out hq0
   have HE2:Hid (res=if Sp.cgMem p q.r then some ⟨0,q.r⟩ else none):=E
   rw [decide_eq_true hq0] at HA
   have hC0:=HC0.out.2 hq0
   have HCC:Hid (C=0):=hC0
   clear HE E HM HC0 hC0 hq0
   obtain ⟨x0,x1,y0,y1⟩:=h1.cells
   go_wp2_with fail
   refine (HA.out _).mono ?_
   rintro e w1 ⟨rfl,b1⟩
   have h2:=h1.call b1
   clear x0 x1 y0 y1 b1 h1 HA
   obtain ⟨x0,x1,y0,y1⟩:=h2.cells
   go_wp2_with fail
   refine (HH0.out _).mono ?_
   rintro e w2 ⟨rfl,b2⟩
   have HH:=h2.call b2
   clear x0 x1 y0 y1 b2 h2 HH0
   by_cases hm:Sp.cgMem p q.r
   ·have E:Hid (res=some ⟨0,q.r⟩):=by unfold Hid; rw [HE2.out,if_pos hm]
    rw [decide_eq_true hm]
    clear HE2 hm
    generalize q.r=D at *
    obtain ⟨x0,x1,y0,y1⟩:=HH.cells
    obtain ⟨u0,v0,hr⟩:=HH.r
    obtain ⟨m0,m1,mf0,mf1,_⟩:=res2 hr
    have MQ:Hid (_∧_):=HH.there (.int .i64 C) (.int .i64 D)
    have BQ:Hid (Below w.heap.size w _):=(HH.put hk1 hk2 hk3 (.int .i64 C) (.int .i64 D)).b
    clear hr HH
    go_wp2_with fail
    exact bodyPost_ret (v:=.tuple #[.agg #[.int .i64 C,.int .i64 D],.bool true]) (by simp [results,Tryz.results306,go_sem,MQ.out.1,MQ.out.2]) rfl ⟨by rw [HCC.out]; exact optC_some (a:=0) E.out,BQ.out⟩
   ·have E:Hid (res=none):=by unfold Hid; rw [HE2.out,if_neg hm]
    rw [decide_eq_false hm]
    clear HE2 hm
    generalize q.r=D at *
    obtain ⟨u0,v0,hr⟩:=HH.r
    obtain ⟨m0,m1,mf0,mf1,_⟩:=res2 hr
    have MQ:Hid (_∧_):=HH.there (.int .i64 0) (.int .i64 0)
    have BQ:Hid (Below w.heap.size w _):=(HH.put hk1 hk2 hk3 (.int .i64 0) (.int .i64 0)).b
    clear hr HH
    go_wp2_with fail
    exact bodyPost_ret (v:=.tuple #[.agg #[.int .i64 0,.int .i64 0],.bool false]) (by simp [results,Tryz.results306,go_sem,MQ.out.1,MQ.out.2]) rfl ⟨optC_none E.out,BQ.out⟩
  ·rw [decide_eq_false hq0] at HA
   have HM2:Hid (∀ W:World,Calls _ _ _ W _):=HM.out hq0
   clear HE HH0 HM HC0 hq0
   obtain ⟨x0,x1,y0,y1⟩:=h1.cells
   generalize q.r=D at *
   go_wp2_with fail
   refine (HA.out _).mono ?_
   rintro e w1 ⟨rfl,b1⟩
   have h2:=h1.call b1
   clear x0 x1 y0 y1 b1 h1 HA
   obtain ⟨x0,x1,y0,y1⟩:=h2.cells
   go_wp2_with fail
   refine (HM2.out _).mono ?_
   rintro e w2 ⟨rfl,b2⟩
   have HH:=h2.call b2
   clear x0 x1 y0 y1 b2 h2 HM2
   cases res with
   | none =>
    simp only [optC]
    obtain ⟨u0,v0,hr⟩:=HH.r
    obtain ⟨m0,m1,mf0,mf1,_⟩:=res2 hr
    have MQ:Hid (_∧_):=HH.there (.int .i64 0) (.int .i64 0)
    have BQ:Hid (Below w.heap.size w _):=(HH.put hk1 hk2 hk3 (.int .i64 0) (.int .i64 0)).b
    clear hr HH
    go_wp2_with fail
    exact bodyPost_ret (v:=.tuple #[.agg #[.int .i64 0,.int .i64 0],.bool false]) (by simp [results,Tryz.results306,go_sem,MQ.out.1,MQ.out.2]) rfl ⟨rfl,BQ.out⟩
   | some t =>
    simp only [optC]
    obtain ⟨u0,v0,hr⟩:=HH.r
    obtain ⟨m0,m1,mf0,mf1,_⟩:=res2 hr
    have MQ:Hid (_∧_):=HH.there (.int .i64 (t.m:Nat)) (.int .i64 t.r)
    have BQ:Hid (Below w.heap.size w _):=(HH.put hk1 hk2 hk3 (.int .i64 (t.m:Nat)) (.int .i64 t.r)).b
    clear hr HH
    go_wp2_with fail
    exact bodyPost_ret (v:=.tuple #[.agg #[.int .i64 (t.m:Nat),.int .i64 t.r],.bool true]) (by simp [results,Tryz.results306,go_sem,MQ.out.1,MQ.out.2]) rfl ⟨rfl,BQ.out⟩
end Go.Proofs.YtiopfihjmkfdmaaGreatDoor
