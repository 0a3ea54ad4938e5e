import Derived.Test.YtiopfihjmkfdmaaGreatDoorS48
namespace Go.Proofs.YtiopfihjmkfdmaaGreatDoor
open Go.RowKit
set_option maxRecDepth 100000
set_option maxHeartbeats 8000000
structure StAt (w : World) (d n u : Nat) (th : Bool) (k12 k13 : Nat) (a : Option Addr) (q c : Nat) (a' : Option Addr) (m c' : Nat) (F : FdI) (W : World) : Prop where
 l : Laid2 W
 t : Turns W
 g : W.heap[k12]? = some (.cells #[.int .i64 0, .int .i64 (d : Nat), .int .i64 (n : Nat), .int .i64 (u : Nat), .bool th] 58)
 r : W.heap[k13]? = some (.cells #[.slice a q c, .slice a' m c'] 64)
 f : RepV W a q a' m F
 b : Below w.heap.size w W
theorem StAt.call {w : World} {d n u : Nat} {th : Bool} {k12 k13 : Nat} {a : Option Addr} {q c : Nat} {a' : Option Addr} {m c' : Nat} {F : FdI} {W W' : World} (h : StAt w d n u th k12 k13 a q c a' m c' F W) (k : Below W.heap.size W W') : StAt w d n u th k12 k13 a q c a' m c' F W' :=
 ⟨h.l.after k, h.t.after h.l k, (k.block _ (heap_lt h.g)).trans h.g, (k.block _ (heap_lt h.r)).trans h.r, h.f.below k, h.b.trans (k.mono h.b.size)⟩
theorem Straight_calls (s : ByteArray) (delay narrow unroll : Int) (th : Bool) (w : World) (hL : Laid2 w) (hT : Turns w) :
  Calls Tryz.prog 11 #[.string s, .int .i64 delay, .int .i64 narrow, .int .i64 unroll, .bool th] w fun e w' => e = .returned (.bool true) ∧ Below w.heap.size w w' := by
 have hr := knows_calls w hL hT
 by_cases hs : 1048576 < s.size
 ·go_enter Tryz.func11, Tryz.ntmps11
  go_wp2_with fail
  refine hr.mono ?_
  rintro e w1 ⟨rfl, b1⟩
  go_wp2_with fail
  go_ret
  exact ⟨rfl, b1⟩
 have hs' : s.size ≤ 1048576 := by omega
 have hs2 : ¬ (1048576 : Int) < (s.size : Int) := by omega
 obtain ⟨d, n, u, hd, hn, hu, hcf⟩ := config_calls delay narrow unroll th
 have HCF : Hid (∀ w, Calls _ _ _ w _) := hcf
 clear hcf
 go_enter Tryz.func11, Tryz.ntmps11
 go_wp2_with fail
 refine hr.mono ?_
 rintro e w1 ⟨rfl, b1⟩
 clear hr
 go_wp2_with fail
 refine (HCF.out w1).mono ?_
 rintro e w2 ⟨rfl, b2⟩
 have b3 : Below w.heap.size w (w2.alloc (.cells #[.int .i64 0, .int .i64 (d : Nat), .int .i64 (n : Nat), .int .i64 (u : Nat), .bool th] 58)) := (b1.trans (b2.mono b1.size)).alloc (b1.trans (b2.mono b1.size)).size _
 have hg3 := heap_alloc_new w2 (.cells #[.int .i64 0, .int .i64 (d : Nat), .int .i64 (n : Nat), .int .i64 (u : Nat), .bool th] 58)
 have hL3 := hL.after b3
 have hT3 := hT.after hL b3
 have hA := Analyze_out s d n u th _ hs' hL3 hT3 hd hn hu
 have HA : Hid (Calls _ _ _ _ _) := hA
 have HG3 : Hid (_ = _) := hg3
 have HL3 : Hid (Laid2 _) := hL3
 have HT3 : Hid (Turns _) := hT3
 have HB3 : Hid (Below w.heap.size w _) := b3
 clear b1 b2 b3 hg3 hL3 hT3 hA HCF
 go_wp2_with fail
 generalize w2.alloc (.cells #[.int .i64 0, .int .i64 (d : Nat), .int .i64 (n : Nat), .int .i64 (u : Nat), .bool th] 58) = w3 at *
 generalize w2.heap.size = k12 at *
 refine HA.out.mono ?_
 obtain ⟨F, k, hFk⟩ : ∃ F k, ansF th ⟨d, n, u⟩ s.data.toList = (F, k) := ⟨_, _, rfl⟩
 have hsm := ansF_small th ⟨d, n, u⟩ s.data.toList
 rw [hFk] at hsm ⊢
 rintro e w4 ⟨a, q, c, a', m, c', ev, rfl, hf, hev, b4⟩
 have HFK : Hid (ansF th ⟨d, n, u⟩ s.data.toList = (F, k)) := hFk
 have hq1 : q ≤ 1000 := by rw [hf.n]; exact hsm.1
 have hm1 : m ≤ 1000 := by rw [hf.m]; exact hsm.2
 have kx := below_alloc1 w4 (.cells #[.slice a q c, .slice a' m c'] 64)
 have b5 : Below w3.heap.size w3 (w4.alloc (.cells #[.slice a q c, .slice a' m c'] 64)) := b4.alloc b4.size _
 have hS : StAt w d n u th k12 w4.heap.size a q c a' m c' F (w4.alloc (.cells #[.slice a q c, .slice a' m c'] 64)) :=
  ⟨HL3.out.after b5, HT3.out.after HL3.out b5, (b5.block _ (heap_lt HG3.out)).trans HG3.out, heap_alloc_new _ _, hf.below kx, HB3.out.trans (b5.mono HB3.out.size)⟩
 obtain ⟨at1, hTl⟩ := tell_any (hev.laid (.cells #[.slice a q c, .slice a' m c'] 64)) hS.l
 have HTL : Hid (Calls _ _ _ _ _) := hTl
 have HS : Hid (StAt w d n u th k12 w4.heap.size a q c a' m c' F _) := hS
 clear HA hFk hsm hf hev b4 kx b5 hS hTl HL3 HT3 HG3 HB3
 go_wp2_with fail
 generalize w4.alloc (.cells #[.slice a q c, .slice a' m c'] 64) = w5 at *
 generalize w4.heap.size = k13 at *
 refine HTL.out.mono ?_
 rintro e w6 ⟨rfl, b6⟩
 have HS6 : Hid (StAt w d n u th k12 k13 a q c a' m c' F w6) := HS.out.call b6
 have HWD := word_calls s ⟨#[119, 104, 105, 108, 101]⟩ hs' (by decide) (by decide) w6
 clear HTL HS b6
 go_wp2_with fail
 refine HWD.mono ?_
 rintro e w7 ⟨⟨r, rfl, hr⟩, rfl⟩
 have HR : Hid (r = false → ¬ Sp.HasW Sp.wWhile s.data.toList) := hr
 clear HWD hr
 go_upto_if 60 with fail
 go_cut [17] from 46 to 83 (fun _ wc => Hid (StAt w d n u th k12 k13 a q c a' m c' F wc))
 case first =>
  cases r with
  | true =>
   go_wp2_with fail
   go_meet
   case rel => exact HS6
  | false =>
   have hA := Analyze_out s 0 0 0 false w7 hs' HS6.out.l HS6.out.t (by omega) (by omega) (by omega)
   have e := ans_straight false th ⟨0, 0, 0⟩ ⟨d, n, u⟩ s.data.toList (HR.out (by trivial))
   rw [e, HFK.out] at hA
   have HA : Hid (Calls _ _ _ _ _) := hA
   clear hA e
   go_wp2_with fail
   refine HA.out.mono ?_
   rintro e w8 ⟨a2, q2, c2, a2', m2, c2', ev2, rfl, hf, hev, b8⟩
   obtain rfl : q2 = q := hf.n.trans HS6.out.f.n.symm
   obtain rfl : m2 = m := hf.m.trans HS6.out.f.m.symm
   have kx := below_alloc1 w8 (.cells #[.slice a2 q2 c2, .slice a2' m2 c2'] 64)
   have b9 : Below w7.heap.size w7 (w8.alloc (.cells #[.slice a2 q2 c2, .slice a2' m2 c2'] 64)) := b8.alloc b8.size _
   have hS9 := HS6.out.call b9
   obtain ⟨at2, hTl⟩ := tell_any (hev.laid (.cells #[.slice a2 q2 c2, .slice a2' m2 c2'] 64)) hS9.l
   have HTL : Hid (Calls _ _ _ _ _) := hTl
   have HS9 : Hid (StAt w d n u th k12 k13 a q2 c a' m2 c' F _) := hS9
   have HF9 : Hid (RepV _ a2 q2 a2' m2 F) := hf.below kx
   have HN9 : Hid (_ = _) := heap_alloc_new w8 (.cells #[.slice a2 q2 c2, .slice a2' m2 c2'] 64)
   clear HA hf hev b8 kx b9 hS9 hTl
   go_wp2_with fail
   generalize w8.alloc (.cells #[.slice a2 q2 c2, .slice a2' m2 c2'] 64) = w9 at *
   generalize w8.heap.size = k18 at *
   refine HTL.out.mono ?_
   rintro e w10 ⟨rfl, b10⟩
   have hS10 := HS9.out.call b10
   have hn10 := (b10.block _ (heap_lt HN9.out)).trans HN9.out
   have HS10 : Hid (StAt w d n u th k12 k13 a q2 c a' m2 c' F w10) := hS10
   have HSR := sameReports_calls a q2 c a' m2 c' a2 c2 a2' c2' F w10 hS10.f (HF9.out.below b10) (by omega) (by omega)
   have x0 := cell_of hS10.r 0 (v := .slice a q2 c) rfl
   have x1 := cell_of hS10.r 1 (v := .slice a' m2 c') rfl
   have y0 := cell_of hn10 0 (v := .slice a2 q2 c2) rfl
   have y1 := cell_of hn10 1 (v := .slice a2' m2 c2') rfl
   clear HTL HS9 HF9 HN9 b10 hS10 hn10
   go_wp2_with fail
   refine HSR.mono ?_
   rintro e w11 ⟨rfl, b11⟩
   have HS11 : Hid (StAt w d n u th k12 k13 a q2 c a' m2 c' F w11) := HS10.out.call b11
   clear HSR b11 x0 x1 y0 y1
   go_wp2_with (go_at_call 18; refine (num_calls _ _).mono ?_; rintro e w4 ⟨rfl, rfl⟩)
   go_meet
   case rel => exact HS11
 case rest =>
  have HSc : Hid (StAt w d n u th k12 k13 a q c a' m c' F wc) := hcut
  have hP := Print_calls s wc hs' HSc.out.l.laid
  clear HS6 HR hcut
  cases hp : Sp.print s.data.toList with
  | error er =>
   rw [hp] at hP
   have he : Hid (¬ (er.1 : Int) = 0) := by unfold Hid; have := Sp.print_e _ er hp; omega
   go_wp2_with fail
   refine hP.mono ?_
   rintro e w8 ⟨v, rfl, hv, b8⟩
   have hS8 := HSc.out.call b8
   have ht := Tell_err v er _ w8 hS8.l.et hS8.l.laid.size hv
   obtain ⟨tv, uv, rfl⟩ := err_iface hv
   have HB8 : Hid (Below w.heap.size w w8) := hS8.b
   clear hP hv hS8 b8
   go_wp2_with fail
   refine ht.mono ?_
   rintro e w9 ⟨rfl, b9⟩
   clear ht
   have he' := he.out
   go_wp2_with (go_at_call 18; refine (num_calls _ _).mono ?_; rintro e w4 ⟨rfl, rfl⟩)
   go_ret
   exact ⟨rfl, HB8.out.trans (b9.mono HB8.out.size)⟩
  | ok t =>
   rw [hp] at hP
   obtain ⟨T, hTT⟩ : ∃ T : ByteArray, Hid (T = ⟨t.toArray⟩) := ⟨_, rfl⟩
   have hTs : T.size = t.length := by rw [hTT.out]; exact size_of _
   go_wp2_with fail
   refine hP.mono ?_
   rintro e w8 ⟨rfl, b8⟩
   have HS8 : Hid (StAt w d n u th k12 k13 a q c a' m c' F w8) := HSc.out.call b8
   rw [← hTT.out]
   clear hP b8 HSc
   go_wp2_with fail
   refine (Tell_nil w8).mono ?_
   rintro e w9 ⟨rfl, b9⟩
   have HS9 : Hid (StAt w d n u th k12 k13 a q c a' m c' F w9) := HS8.out.call b9
   clear b9 HS8
   by_cases h4 : 400 < T.size
   ·go_wp2_with (go_at_call 18; refine (num_calls _ _).mono ?_; rintro e w4 ⟨rfl, rfl⟩)
    go_ret
    exact ⟨rfl, HS9.out.b⟩
   ·have h4' : ¬ (400 : Int) < (T.size : Int) := by omega
    obtain ⟨e1, e2⟩ := ans_printed th ⟨d, n, u⟩ s.data.toList t hp (by omega)
    rw [HFK.out] at e1 e2
    have hk0 : k = 0 := e2
    subst hk0
    have hA := Analyze_out T d n u th w9 (by omega) HS9.out.l HS9.out.t hd hn hu
    rw [show T.data.toList = t by rw [hTT.out], e1] at hA
    have HA : Hid (Calls _ _ _ _ _) := hA
    have g0 := cell_of HS9.out.g 0 (v := .int .i64 0) rfl
    have g1 := cell_of HS9.out.g 1 (v := .int .i64 (d : Nat)) rfl
    have g2 := cell_of HS9.out.g 2 (v := .int .i64 (n : Nat)) rfl
    have g3 := cell_of HS9.out.g 3 (v := .int .i64 (u : Nat)) rfl
    have g4 := cell_of HS9.out.g 4 (v := .bool th) rfl
    clear hA e1 e2
    go_wp2_with (go_at_call 18; refine (num_calls _ _).mono ?_; rintro e wN ⟨rfl, rfl⟩)
    refine HA.out.mono ?_
    rintro e w10 ⟨a2, q2, c2, a2', m2, c2', ev2, rfl, hf, hev, b8⟩
    obtain rfl : q2 = q := hf.n.trans HS9.out.f.n.symm
    obtain rfl : m2 = m := hf.m.trans HS9.out.f.m.symm
    have kx := below_alloc1 w10 (.cells #[.slice a2 q2 c2, .slice a2' m2 c2'] 64)
    have b9 : Below wN.heap.size wN (w10.alloc (.cells #[.slice a2 q2 c2, .slice a2' m2 c2'] 64)) := b8.alloc b8.size _
    have hS11 := HS9.out.call b9
    obtain ⟨at2, hTl⟩ := tell_any (hev.laid (.cells #[.slice a2 q2 c2, .slice a2' m2 c2'] 64)) hS11.l
    have HTL : Hid (Calls _ _ _ _ _) := hTl
    have HS11 : Hid (StAt w d n u th k12 k13 a q2 c a' m2 c' F _) := hS11
    have HF11 : Hid (RepV _ a2 q2 a2' m2 F) := hf.below kx
    have HN11 : Hid (_ = _) := heap_alloc_new w10 (.cells #[.slice a2 q2 c2, .slice a2' m2 c2'] 64)
    clear HA hf hev b8 kx b9 hS11 hTl g0 g1 g2 g3 g4
    go_wp2_with fail
    generalize w10.alloc (.cells #[.slice a2 q2 c2, .slice a2' m2 c2'] 64) = w11 at *
    generalize w10.heap.size = k18 at *
    refine HTL.out.mono ?_
    rintro e w12 ⟨rfl, b12⟩
    have hS12 := HS11.out.call b12
    have hn12 := (b12.block _ (heap_lt HN11.out)).trans HN11.out
    have HS12 : Hid (StAt w d n u th k12 k13 a q2 c a' m2 c' F w12) := hS12
    have HSR := sameReports_calls a q2 c a' m2 c' a2 c2 a2' c2' F w12 hS12.f (HF11.out.below b12) (by omega) (by omega)
    have x0 := cell_of hS12.r 0 (v := .slice a q2 c) rfl
    have x1 := cell_of hS12.r 1 (v := .slice a' m2 c') rfl
    have y0 := cell_of hn12 0 (v := .slice a2 q2 c2) rfl
    have y1 := cell_of hn12 1 (v := .slice a2' m2 c2') rfl
    clear HTL HS11 HF11 HN11 b12 hS12 hn12
    go_wp2_with fail
    refine HSR.mono ?_
    rintro e w13 ⟨rfl, b13⟩
    have HS13 : Hid (StAt w d n u th k12 k13 a q2 c a' m2 c' F w13) := HS12.out.call b13
    clear HSR b13 x0 x1 y0 y1
    go_wp2_with (go_at_call 18; refine (num_calls _ _).mono ?_; rintro e wM ⟨rfl, rfl⟩)
    go_ret
    exact ⟨rfl, HS13.out.b⟩
end Go.Proofs.YtiopfihjmkfdmaaGreatDoor
