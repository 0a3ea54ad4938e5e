import Derived.Test.YtiopfihjmkfdmaaGreatDoorS19
import Derived.Deep.RegionHeld3
import Derived.Test.YtiopfihjmkfdmaaGreatDoorS2
namespace Go.Proofs.YtiopfihjmkfdmaaGreatDoor
open Go.RowKit
set_option maxRecDepth 100000
set_option maxHeartbeats 1000000
structure Turns (w : World) : Prop where
 mir : ∀ k, k < 6 → w.cell? ⟨3, k, none⟩ = some (.int .i64 (Sp.mirror k : Nat))
 opp : ∀ k, k < 6 → w.cell? ⟨4, k, none⟩ = some (.int .i64 (Sp.opp k : Nat))
theorem Turns.below {w w' : World} (h : Turns w) {B : Nat} (hb : Below B w w') (hB : 11 ≤ B) : Turns w' :=
 ⟨fun k hk => by rw [hb.cell (p := ⟨3, k, none⟩) (show 3 < B by omega)]; exact h.mir k hk, fun k hk => by rw [hb.cell (p := ⟨4, k, none⟩) (show 4 < B by omega)]; exact h.opp k hk⟩
theorem mirror_calls (k : Nat) (hk : k < 6) (w : World) (h : Turns w) :
  Calls Tryz.prog 221 #[.int .i64 (k : Nat)] w fun e w' => e = .returned (.int .i64 (Sp.mirror k : Nat)) ∧ w' = w := by
 have h := h.mir k hk
 generalize ((Sp.mirror k : Nat) : Int) = t at *
 have hk' : (k : Int) < 6 := by omega
 go_enter Tryz.func221, Tryz.ntmps221
 go_wp2_with fail
 go_ret
 exact ⟨rfl, rfl⟩
theorem opposite_calls (k : Nat) (hk : k < 6) (w : World) (h : Turns w) :
  Calls Tryz.prog 222 #[.int .i64 (k : Nat)] w fun e w' => e = .returned (.int .i64 (Sp.opp k : Nat)) ∧ w' = w := by
 have h := h.opp k hk
 generalize ((Sp.opp k : Nat) : Int) = t at *
 have hk' : (k : Int) < 6 := by omega
 go_enter Tryz.func222, Tryz.ntmps222
 go_wp2_with fail
 go_ret
 exact ⟨rfl, rfl⟩
theorem iv_may0 (dv : Value) (a b c d : Int) (w : World) :
  Calls Tryz.prog 321 #[.agg #[dv], .int .i64 0, .agg #[.int .i16 a, .int .i16 b], .agg #[.int .i16 c, .int .i16 d]] w fun e w' => e = .returned (.bool (Sp.ivMay 0 ⟨a, b⟩ ⟨c, d⟩)) ∧ Below w.heap.size w w' := by
 go_enter Tryz.func321, Tryz.ntmps321
 go_wp2_with fail
 go_returns
 exact ⟨ret_bool rfl, by go_grown⟩
theorem iv_may1 (dv : Value) (a b c d : Int) (w : World) :
  Calls Tryz.prog 321 #[.agg #[dv], .int .i64 1, .agg #[.int .i16 a, .int .i16 b], .agg #[.int .i16 c, .int .i16 d]] w fun e w' => e = .returned (.bool (Sp.ivMay 1 ⟨a, b⟩ ⟨c, d⟩)) ∧ Below w.heap.size w w' := by
 go_enter Tryz.func321, Tryz.ntmps321
 go_wp2_with fail
 go_returns
 exact ⟨ret_bool rfl, by go_grown⟩
theorem iv_may2 (dv : Value) (a b c d : Int) (w : World) :
  Calls Tryz.prog 321 #[.agg #[dv], .int .i64 2, .agg #[.int .i16 a, .int .i16 b], .agg #[.int .i16 c, .int .i16 d]] w fun e w' => e = .returned (.bool (Sp.ivMay 2 ⟨a, b⟩ ⟨c, d⟩)) ∧ Below w.heap.size w w' := by
 have E : Hid (Sp.ivMay 2 ⟨a, b⟩ ⟨c, d⟩ = (Sp.ivMeet ⟨a, b⟩ ⟨c, d⟩).isSome) := rfl
 go_enter Tryz.func321, Tryz.ntmps321
 go_wp2_with fail
 refine (iv_meet a b c d _).mono ?_
 rintro e w1 ⟨rfl, b1⟩
 obtain ⟨_, _, _, bw⟩ := laid3b b1
 have BW : Hid (Below w.heap.size w w1) := bw
 clear b1 bw
 cases hr : Sp.ivMeet ⟨a, b⟩ ⟨c, d⟩ with
 | none =>
  have EE : Hid (Sp.ivMay 2 ⟨a, b⟩ ⟨c, d⟩ = false) := by unfold Hid; rw [E.out, hr]; rfl
  clear hr E
  simp only [optV]
  go_wp2_with fail
  go_returns
  exact ⟨ret_bool EE.out.symm, BW.out.alloc BW.out.size _⟩
 | some v =>
  have EE : Hid (Sp.ivMay 2 ⟨a, b⟩ ⟨c, d⟩ = true) := by unfold Hid; rw [E.out, hr]; rfl
  clear hr E
  simp only [optV]
  go_wp2_with fail
  go_returns
  exact ⟨ret_bool EE.out.symm, BW.out.alloc BW.out.size _⟩
theorem iv_may3 (dv : Value) (a b c d : Int) (w : World) :
  Calls Tryz.prog 321 #[.agg #[dv], .int .i64 3, .agg #[.int .i16 a, .int .i16 b], .agg #[.int .i16 c, .int .i16 d]] w fun e w' => e = .returned (.bool (Sp.ivMay 3 ⟨a, b⟩ ⟨c, d⟩)) ∧ Below w.heap.size w w' := by
 by_cases hac : a = c
 ·subst hac
  by_cases hbd : b = d
  ·subst hbd
   have E : Hid (Sp.ivMay 3 ⟨a, b⟩ ⟨a, b⟩ = !decide (a = b)) := by unfold Hid Sp.ivMay; simp
   go_enter Tryz.func321, Tryz.ntmps321
   go_wp2_with fail
   refine (iv_alone a b _).mono ?_
   rintro e w1 ⟨rfl, b1⟩
   obtain ⟨_, _, _, bw⟩ := laid3b b1
   have BW : Hid (Below w.heap.size w w1) := bw
   clear b1 bw
   go_wp2_with fail
   go_returns
   exact ⟨ret_bool E.out.symm, BW.out⟩
  ·have E : Hid (Sp.ivMay 3 ⟨a, b⟩ ⟨a, d⟩ = true) := by unfold Hid Sp.ivMay; simp [hbd]
   go_enter Tryz.func321, Tryz.ntmps321
   go_wp2_with fail
   go_returns
   exact ⟨ret_bool E.out.symm, by go_grown⟩
 ·have E : Hid (Sp.ivMay 3 ⟨a, b⟩ ⟨c, d⟩ = true) := by unfold Hid Sp.ivMay; simp [hac]
  go_enter Tryz.func321, Tryz.ntmps321
  go_wp2_with fail
  go_returns
  exact ⟨ret_bool E.out.symm, by go_grown⟩
theorem mirror4 (w : World) (h : Turns w) : Calls Tryz.prog 221 #[.int .i64 4] w fun e w' => e = .returned (.int .i64 1) ∧ w' = w := mirror_calls 4 (by omega) w h
theorem mirror5 (w : World) (h : Turns w) : Calls Tryz.prog 221 #[.int .i64 5] w fun e w' => e = .returned (.int .i64 0) ∧ w' = w := mirror_calls 5 (by omega) w h
def IvHeld3 (w : World) (o1 o2 o3 : Obj) (w' : World) : Prop := w'.heap[w.heap.size]? = some o1 ∧ w'.heap[w.heap.size + 1]? = some o2 ∧ w'.heap[w.heap.size + 1 + 1]? = some o3 ∧ Below w.heap.size w w'
theorem held_start (w : World) (o1 o2 o3 : Obj) : IvHeld3 w o1 o2 o3 (((w.alloc o1).alloc o2).alloc o3) := laid3b (Below.refl _ _)
theorem ivHeldBelow {w : World} {o1 o2 o3 : Obj} {w' : World} (h : IvHeld3 w o1 o2 o3 w') : Below w.heap.size w w' := h.2.2.2
theorem IvHeld3.call {w : World} {o1 o2 o3 : Obj} {w' w1 : World} (h : IvHeld3 w o1 o2 o3 w') (b : Below w'.heap.size w' w1) : IvHeld3 w o1 o2 o3 w1 :=
 ⟨(b.block _ (heap_lt h.1)).trans h.1, (b.block _ (heap_lt h.2.1)).trans h.2.1, (b.block _ (heap_lt h.2.2.1)).trans h.2.2.1, h.2.2.2.trans (b.mono h.2.2.2.size)⟩
theorem may_held {w w' : World} {dv : Value} {a b c d : Int} (h : IvHeld3 w (.cells #[dv] 133) (.cells #[.int .i16 a, .int .i16 b] 131) (.cells #[.int .i16 c, .int .i16 d] 131) w') : w'.cell? ⟨w.heap.size, 0, none⟩ = some dv ∧ w'.cell? ⟨w.heap.size + 1, 0, none⟩ = some (.int .i16 a) ∧ w'.cell? ⟨w.heap.size + 1, 1, none⟩ = some (.int .i16 b) ∧ w'.cell? ⟨w.heap.size + 1 + 1, 0, none⟩ = some (.int .i16 c) ∧ w'.cell? ⟨w.heap.size + 1 + 1, 1, none⟩ = some (.int .i16 d) ∧ IvHeld3 w (.cells #[dv] 133) (.cells #[.int .i16 a, .int .i16 b] 131) (.cells #[.int .i16 c, .int .i16 d] 131) w' :=
 ⟨cell_of h.1 0 rfl, cell_of h.2.1 0 rfl, cell_of h.2.1 1 rfl, cell_of h.2.2.1 0 rfl, cell_of h.2.2.1 1 rfl, h⟩
theorem may_start (w : World) (dv : Value) (a b c d : Int) : (fun w' : World => w'.cell? ⟨w.heap.size, 0, none⟩ = some dv ∧ w'.cell? ⟨w.heap.size + 1, 0, none⟩ = some (.int .i16 a) ∧ w'.cell? ⟨w.heap.size + 1, 1, none⟩ = some (.int .i16 b) ∧ w'.cell? ⟨w.heap.size + 1 + 1, 0, none⟩ = some (.int .i16 c) ∧ w'.cell? ⟨w.heap.size + 1 + 1, 1, none⟩ = some (.int .i16 d) ∧ IvHeld3 w (.cells #[dv] 133) (.cells #[.int .i16 a, .int .i16 b] 131) (.cells #[.int .i16 c, .int .i16 d] 131) w') (((w.alloc (.cells #[dv] 133)).alloc (.cells #[.int .i16 a, .int .i16 b] 131)).alloc (.cells #[.int .i16 c, .int .i16 d] 131)).drew :=
 may_held (w' := (((w.alloc (.cells #[dv] 133)).alloc (.cells #[.int .i16 a, .int .i16 b] 131)).alloc (.cells #[.int .i16 c, .int .i16 d] 131)).drew) ((held_start w _ _ _).call (Below.refl _ _).drew)
theorem may_call {w w' w1 : World} {dv : Value} {a b c d : Int} (h : IvHeld3 w (.cells #[dv] 133) (.cells #[.int .i16 a, .int .i16 b] 131) (.cells #[.int .i16 c, .int .i16 d] 131) w') (k : Below w'.heap.size w' w1) : (fun w' : World => w'.cell? ⟨w.heap.size, 0, none⟩ = some dv ∧ w'.cell? ⟨w.heap.size + 1, 0, none⟩ = some (.int .i16 a) ∧ w'.cell? ⟨w.heap.size + 1, 1, none⟩ = some (.int .i16 b) ∧ w'.cell? ⟨w.heap.size + 1 + 1, 0, none⟩ = some (.int .i16 c) ∧ w'.cell? ⟨w.heap.size + 1 + 1, 1, none⟩ = some (.int .i16 d) ∧ IvHeld3 w (.cells #[dv] 133) (.cells #[.int .i16 a, .int .i16 b] 131) (.cells #[.int .i16 c, .int .i16 d] 131) w') w1 := may_held (h.call k)
theorem iv_may4 (dv : Value) (a b c d : Int) (w : World) (hT : Turns w) (hs : 11 ≤ w.heap.size) :
  Calls Tryz.prog 321 #[.agg #[dv], .int .i64 4, .agg #[.int .i16 a, .int .i16 b], .agg #[.int .i16 c, .int .i16 d]] w fun e w' => e = .returned (.bool (Sp.ivMay 4 ⟨a, b⟩ ⟨c, d⟩)) ∧ Below w.heap.size w w' := by
 have HT : Hid (∀ w', Below w.heap.size w w' → Turns w') := fun w' h => hT.below h hs
 have h0 := may_start w dv a b c d
 go_enter Tryz.func321, Tryz.ntmps321
 go_wp2_with fail
 go_region_held3 (fun w' : World => w'.cell? ⟨w.heap.size, 0, none⟩ = some dv ∧ w'.cell? ⟨w.heap.size + 1, 0, none⟩ = some (.int .i16 a) ∧ w'.cell? ⟨w.heap.size + 1, 1, none⟩ = some (.int .i16 b) ∧ w'.cell? ⟨w.heap.size + 1 + 1, 0, none⟩ = some (.int .i16 c) ∧ w'.cell? ⟨w.heap.size + 1 + 1, 1, none⟩ = some (.int .i16 d) ∧ IvHeld3 w (.cells #[dv] 133) (.cells #[.int .i16 a, .int .i16 b] 131) (.cells #[.int .i16 c, .int .i16 d] 131) w') (first | exact h0 | assumption | exact may_call h0.2.2.2.2.2 (by assumption))
  (first
   | (go_at_call 221; refine (mirror4 _ (HT.out _ (ivHeldBelow h0.2.2.2.2.2))).mono ?_; rintro e w1 ⟨rfl, rfl⟩)
   | (go_at_call 321; refine (iv_may1 dv c d a b _).mono ?_; rintro e w1 ⟨rfl, b1⟩))
 all_goals
  have HX : Hid (Below w.heap.size w w1) := ivHeldBelow (h0.2.2.2.2.2.call b1)
  go_wp2_with fail
  go_returns
  exact ⟨ret_bool rfl, HX.out⟩
theorem iv_may5 (dv : Value) (a b c d : Int) (w : World) (hT : Turns w) (hs : 11 ≤ w.heap.size) :
  Calls Tryz.prog 321 #[.agg #[dv], .int .i64 5, .agg #[.int .i16 a, .int .i16 b], .agg #[.int .i16 c, .int .i16 d]] w fun e w' => e = .returned (.bool (Sp.ivMay 5 ⟨a, b⟩ ⟨c, d⟩)) ∧ Below w.heap.size w w' := by
 have HT : Hid (∀ w', Below w.heap.size w w' → Turns w') := fun w' h => hT.below h hs
 have h0 := may_start w dv a b c d
 go_enter Tryz.func321, Tryz.ntmps321
 go_wp2_with fail
 go_region_held3 (fun w' : World => w'.cell? ⟨w.heap.size, 0, none⟩ = some dv ∧ w'.cell? ⟨w.heap.size + 1, 0, none⟩ = some (.int .i16 a) ∧ w'.cell? ⟨w.heap.size + 1, 1, none⟩ = some (.int .i16 b) ∧ w'.cell? ⟨w.heap.size + 1 + 1, 0, none⟩ = some (.int .i16 c) ∧ w'.cell? ⟨w.heap.size + 1 + 1, 1, none⟩ = some (.int .i16 d) ∧ IvHeld3 w (.cells #[dv] 133) (.cells #[.int .i16 a, .int .i16 b] 131) (.cells #[.int .i16 c, .int .i16 d] 131) w') (first | exact h0 | assumption | exact may_call h0.2.2.2.2.2 (by assumption))
  (first
   | (go_at_call 221; refine (mirror5 _ (HT.out _ (ivHeldBelow h0.2.2.2.2.2))).mono ?_; rintro e w1 ⟨rfl, rfl⟩)
   | (go_at_call 321; refine (iv_may0 dv c d a b _).mono ?_; rintro e w1 ⟨rfl, b1⟩))
 all_goals
  have HX : Hid (Below w.heap.size w w1) := ivHeldBelow (h0.2.2.2.2.2.call b1)
  go_wp2_with fail
  go_returns
  exact ⟨ret_bool rfl, HX.out⟩
theorem iv_may (dv : Value) (r : Nat) (hr : r < 6) (a b c d : Int) (w : World) (hT : Turns w) (hs : 11 ≤ w.heap.size) :
  Calls Tryz.prog 321 #[.agg #[dv], .int .i64 (r : Nat), .agg #[.int .i16 a, .int .i16 b], .agg #[.int .i16 c, .int .i16 d]] w fun e w' => e = .returned (.bool (Sp.ivMay r ⟨a, b⟩ ⟨c, d⟩)) ∧ Below w.heap.size w w' := by
 rcases (show r = 0 ∨ r = 1 ∨ r = 2 ∨ r = 3 ∨ r = 4 ∨ r = 5 from by omega) with rfl | rfl | rfl | rfl | rfl | rfl
 ·exact iv_may0 dv a b c d w
 ·exact iv_may1 dv a b c d w
 ·exact iv_may2 dv a b c d w
 ·exact iv_may3 dv a b c d w
 ·exact iv_may4 dv a b c d w hT hs
 ·exact iv_may5 dv a b c d w hT hs
end Go.Proofs.YtiopfihjmkfdmaaGreatDoor
namespace Go.Proofs.YtiopfihjmkfdmaaGreatDoor
open Go.RowKit
set_option maxRecDepth 100000
set_option maxHeartbeats 1000000
theorem iv_stepBelow (g off cap : Nat) (steps : List Int) (n : Int) (w : World) (hg : g < w.heap.size) (hl : (steps.length : Int) ≤ 1000000) (hc : ∀ i x, steps[i]? = some x → w.cell? ⟨g, off + i, none⟩ = some (.int .i16 x)) :
  Calls Tryz.prog 336 #[.agg #[.slice (some ⟨g, off, none⟩) steps.length cap], .int .i16 n] w fun e w' => e = .returned (.int .i16 (Sp.stepBelow steps n)) ∧ Below w.heap.size w w' := by
 have hc' : Hid (∀ i x, steps[i]? = some x → (w.alloc (.cells #[.slice (some ⟨g, off, none⟩) steps.length cap] 133)).cell? ⟨g, off + i, none⟩ = some (.int .i16 x)) := fun i x h => by
  rw [(below_alloc1 w _).cell (p := ⟨g, off + i, none⟩) hg]; exact hc i x h
 clear hc hg
 go_enter Tryz.func336, Tryz.ntmps336
 go_wp2_with fail
 go_loop [5, 11] (fun v5 v11 => ∃ (j : Nat) (st : Int), j ≤ steps.length ∧ v11 = .int .i64 j ∧ v5 = .int .i16 st ∧ Hid (Sp.stepBelow steps n = (steps.drop j).foldl (fun st s => if s ≤ n then max st s else st) st)) (fun _ v11 => steps.length - (intOf v11).toNat)
 case atStart => exact ⟨0, -32768, Nat.zero_le _, rfl, rfl, rfl⟩
 case round =>
  obtain ⟨j, st, hj, rfl, rfl, hq⟩ := hrel
  by_cases hjlt : j < steps.length
  ·obtain ⟨x, hx⟩ : ∃ x, steps[j]? = some x := ⟨_, List.getElem?_eq_getElem hjlt⟩
   have hcx := hc'.out j x hx
   have hd : steps.drop j = x :: steps.drop (j + 1) := by
    rw [List.drop_eq_getElem_cons hjlt, (List.getElem?_eq_some_iff.1 hx).2]
   have HD : Hid (Sp.stepBelow steps n = (steps.drop (j + 1)).foldl (fun st s => if s ≤ n then max st s else st) (if x ≤ n then max st x else st)) := by
    unfold Hid; rw [hq.out, hd]; rfl
   clear hd hx
   by_cases hle : x ≤ n
   ·rw [if_pos hle] at HD
    go_wp2_with fail
    all_goals exact ⟨⟨j + 1, _, by omega, by go_num, rfl, by unfold Hid; rw [HD.out]; congr 1; omega⟩, by simp [intOf]; omega⟩
   ·rw [if_neg hle] at HD
    go_wp2_with fail
    all_goals exact ⟨⟨j + 1, _, by omega, by go_num, rfl, HD⟩, by simp [intOf]; omega⟩
  ·have E : Hid (Sp.stepBelow steps n = st) := by
    unfold Hid; rw [hq.out, List.drop_of_length_le (by omega)]; rfl
   go_wp2_with fail
   go_returns
   exact ⟨ret_int E.out.symm, by go_grown⟩
theorem iv_stepAbove (g off cap : Nat) (steps : List Int) (n : Int) (w : World) (hg : g < w.heap.size) (hl : (steps.length : Int) ≤ 1000000) (hc : ∀ i x, steps[i]? = some x → w.cell? ⟨g, off + i, none⟩ = some (.int .i16 x)) :
  Calls Tryz.prog 329 #[.agg #[.slice (some ⟨g, off, none⟩) steps.length cap], .int .i16 n] w fun e w' => e = .returned (.int .i16 (Sp.stepAbove steps n)) ∧ Below w.heap.size w w' := by
 have hc' : Hid (∀ i x, steps[i]? = some x → (w.alloc (.cells #[.slice (some ⟨g, off, none⟩) steps.length cap] 133)).cell? ⟨g, off + i, none⟩ = some (.int .i16 x)) := fun i x h => by
  rw [(below_alloc1 w _).cell (p := ⟨g, off + i, none⟩) hg]; exact hc i x h
 clear hc hg
 go_enter Tryz.func329, Tryz.ntmps329
 go_wp2_with fail
 go_loop [5, 11] (fun v5 v11 => ∃ (j : Nat) (st : Int), j ≤ steps.length ∧ v11 = .int .i64 j ∧ v5 = .int .i16 st ∧ Hid (Sp.stepAbove steps n = (steps.drop j).foldl (fun st s => if n ≤ s then min st s else st) st)) (fun _ v11 => steps.length - (intOf v11).toNat)
 case atStart => exact ⟨0, 32767, Nat.zero_le _, rfl, rfl, rfl⟩
 case round =>
  obtain ⟨j, st, hj, rfl, rfl, hq⟩ := hrel
  by_cases hjlt : j < steps.length
  ·obtain ⟨x, hx⟩ : ∃ x, steps[j]? = some x := ⟨_, List.getElem?_eq_getElem hjlt⟩
   have hcx := hc'.out j x hx
   have hd : steps.drop j = x :: steps.drop (j + 1) := by
    rw [List.drop_eq_getElem_cons hjlt, (List.getElem?_eq_some_iff.1 hx).2]
   have HD : Hid (Sp.stepAbove steps n = (steps.drop (j + 1)).foldl (fun st s => if n ≤ s then min st s else st) (if n ≤ x then min st x else st)) := by
    unfold Hid; rw [hq.out, hd]; rfl
   clear hd hx
   by_cases hle : n ≤ x
   ·rw [if_pos hle] at HD
    go_wp2_with fail
    all_goals exact ⟨⟨j + 1, _, by omega, by go_num, rfl, by unfold Hid; rw [HD.out]; congr 1; omega⟩, by simp [intOf]; omega⟩
   ·rw [if_neg hle] at HD
    go_wp2_with fail
    all_goals exact ⟨⟨j + 1, _, by omega, by go_num, rfl, HD⟩, by simp [intOf]; omega⟩
  ·have E : Hid (Sp.stepAbove steps n = st) := by
    unfold Hid; rw [hq.out, List.drop_of_length_le (by omega)]; rfl
   go_wp2_with fail
   go_returns
   exact ⟨ret_int E.out.symm, by go_grown⟩
def StepsAt (w : World) (v : Value) (steps : List Int) : Prop := ∃ g off cap, v = .slice (some ⟨g, off, none⟩) steps.length cap ∧ g < w.heap.size ∧ (steps.length : Int) ≤ 1000000 ∧ ∀ i x, steps[i]? = some x → w.cell? ⟨g, off + i, none⟩ = some (.int .i16 x)
theorem StepsAt.below {w w' : World} {v : Value} {steps : List Int} (h : StepsAt w v steps) (b : Below w.heap.size w w') : StepsAt w' v steps := by
 obtain ⟨g, off, cap, rfl, hg, hl, hc⟩ := h
 exact ⟨g, off, cap, rfl, Nat.lt_of_lt_of_le hg b.size, hl, fun i x hx => by rw [b.cell (p := ⟨g, off + i, none⟩) hg]; exact hc i x hx⟩
structure WidAt (w : World) (v : Value) (p q c d : Int) (W : World) : Prop where
 o : W.heap[w.heap.size]? = some (.cells #[v] 133)
 x : W.heap[w.heap.size + 1]? = some (.cells #[.int .i16 p, .int .i16 q] 131)
 y : W.heap[w.heap.size + 1 + 1]? = some (.cells #[.int .i16 c, .int .i16 d] 131)
 z : W.heap[w.heap.size + 1 + 1 + 1]? = some (.cells #[.int .i16 0, .int .i16 0] 131)
 b : Below w.heap.size w W
theorem WidAt.call {w : World} {v : Value} {p q c d : Int} {W W' : World} (h : WidAt w v p q c d W) (k : Below W.heap.size W W') : WidAt w v p q c d W' :=
 ⟨(k.block _ (heap_lt h.o)).trans h.o, (k.block _ (heap_lt h.x)).trans h.x, (k.block _ (heap_lt h.y)).trans h.y, (k.block _ (heap_lt h.z)).trans h.z, h.b.trans (k.mono h.b.size)⟩
theorem WidAt.setA {w : World} {v : Value} {p q c d : Int} {W : World} (h : WidAt w v p q c d W) (u : Int) : WidAt w v u q c d (W.setCell ⟨w.heap.size + 1, 0, none⟩ (.int .i16 u)) :=
 ⟨by rw [Below.heap_setCell _ _ _ _ (by show w.heap.size ≠ w.heap.size + 1; omega)]; exact h.o, by rw [heap_setCell_at h.x 0 (.int .i16 u)]; rfl, by rw [Below.heap_setCell _ _ _ _ (by show w.heap.size + 1 + 1 ≠ w.heap.size + 1; omega)]; exact h.y, by rw [Below.heap_setCell _ _ _ _ (by show w.heap.size + 1 + 1 + 1 ≠ w.heap.size + 1; omega)]; exact h.z, h.b.setCell (p := ⟨w.heap.size + 1, 0, none⟩) (Nat.le_succ _) _⟩
theorem WidAt.setB {w : World} {v : Value} {p q c d : Int} {W : World} (h : WidAt w v p q c d W) (u : Int) : WidAt w v p u c d (W.setCell ⟨w.heap.size + 1, 1, none⟩ (.int .i16 u)) :=
 ⟨by rw [Below.heap_setCell _ _ _ _ (by show w.heap.size ≠ w.heap.size + 1; omega)]; exact h.o, by rw [heap_setCell_at h.x 1 (.int .i16 u)]; rfl, by rw [Below.heap_setCell _ _ _ _ (by show w.heap.size + 1 + 1 ≠ w.heap.size + 1; omega)]; exact h.y, by rw [Below.heap_setCell _ _ _ _ (by show w.heap.size + 1 + 1 + 1 ≠ w.heap.size + 1; omega)]; exact h.z, h.b.setCell (p := ⟨w.heap.size + 1, 1, none⟩) (Nat.le_succ _) _⟩
theorem WidAt.res {w : World} {v : Value} {p q c d : Int} {W : World} (h : WidAt w v p q c d W) (u u' : Value) : ((W.setCell ⟨w.heap.size + 1 + 1 + 1, 0, none⟩ u).setCell ⟨w.heap.size + 1 + 1 + 1, 1, none⟩ u').cell? ⟨w.heap.size + 1 + 1 + 1, 0, none⟩ = some u ∧ ((W.setCell ⟨w.heap.size + 1 + 1 + 1, 0, none⟩ u).setCell ⟨w.heap.size + 1 + 1 + 1, 1, none⟩ u').cell? ⟨w.heap.size + 1 + 1 + 1, 1, none⟩ = some u' ∧ Below w.heap.size w ((W.setCell ⟨w.heap.size + 1 + 1 + 1, 0, none⟩ u).setCell ⟨w.heap.size + 1 + 1 + 1, 1, none⟩ u') :=
 ⟨((res2 h.z).2.2.2.2 u u').1, ((res2 h.z).2.2.2.2 u u').2, (h.b.setCell (p := ⟨w.heap.size + 1 + 1 + 1, 0, none⟩) (by show w.heap.size ≤ w.heap.size + 1 + 1 + 1; omega) _).setCell (p := ⟨w.heap.size + 1 + 1 + 1, 1, none⟩) (by show w.heap.size ≤ w.heap.size + 1 + 1 + 1; omega) _⟩
theorem WidAt.cells {w : World} {v : Value} {p q c d : Int} {W : World} (h : WidAt w v p q c d W) : W.cell? ⟨w.heap.size, 0, none⟩ = some v ∧ W.cell? ⟨w.heap.size + 1, 0, none⟩ = some (.int .i16 p) ∧ W.cell? ⟨w.heap.size + 1, 1, none⟩ = some (.int .i16 q) ∧ W.cell? ⟨w.heap.size + 1 + 1, 0, none⟩ = some (.int .i16 c) ∧ W.cell? ⟨w.heap.size + 1 + 1, 1, none⟩ = some (.int .i16 d) ∧ W.cell? ⟨w.heap.size + 1 + 1 + 1, 0, none⟩ = some (.int .i16 0) ∧ W.cell? ⟨w.heap.size + 1 + 1 + 1, 1, none⟩ = some (.int .i16 0) ∧ W.frozen? ⟨w.heap.size + 1, 0, none⟩ = false ∧ W.frozen? ⟨w.heap.size + 1, 1, none⟩ = false ∧ W.frozen? ⟨w.heap.size + 1 + 1 + 1, 0, none⟩ = false ∧ W.frozen? ⟨w.heap.size + 1 + 1 + 1, 1, none⟩ = false :=
 ⟨cell_of h.o 0 rfl, cell_of h.x 0 rfl, cell_of h.x 1 rfl, cell_of h.y 0 rfl, cell_of h.y 1 rfl, cell_of h.z 0 rfl, cell_of h.z 1 rfl, frozen_of h.x 0, frozen_of h.x 1, frozen_of h.z 0, frozen_of h.z 1⟩
theorem steps_calls (v : Value) (steps : List Int) (n : Int) (w : World) (h : StepsAt w v steps) :
  Calls Tryz.prog 336 #[.agg #[v], .int .i16 n] w (fun e w' => e = .returned (.int .i16 (Sp.stepBelow steps n)) ∧ Below w.heap.size w w') ∧
  Calls Tryz.prog 329 #[.agg #[v], .int .i16 n] w (fun e w' => e = .returned (.int .i16 (Sp.stepAbove steps n)) ∧ Below w.heap.size w w') := by
 obtain ⟨g, off, cap, rfl, hg, hl, hc⟩ := h
 exact ⟨iv_stepBelow g off cap steps n w hg hl hc, iv_stepAbove g off cap steps n w hg hl hc⟩
theorem iv_widen (v : Value) (steps : List Int) (a b c d : Int) (w : World) (hS : StepsAt w v steps) :
  Calls Tryz.prog 327 #[.agg #[v], .agg #[.int .i16 a, .int .i16 b], .agg #[.int .i16 c, .int .i16 d]] w fun e w' => e = .returned (.agg #[.int .i16 (if c < a then Sp.stepBelow steps c else a), .int .i16 (if b < d then Sp.stepAbove steps d else b)]) ∧ Below w.heap.size w w' := by
 have HS : Hid (∀ W n, Below w.heap.size w W → _ ∧ _) := fun W n h => steps_calls v steps n W (hS.below h)
 clear hS
 by_cases h1 : c < a
 ·have e1 : (if c < a then Sp.stepBelow steps c else a) = Sp.stepBelow steps c := if_pos h1
  by_cases h2 : b < d
  ·have e2 : (if b < d then Sp.stepAbove steps d else b) = Sp.stepAbove steps d := if_pos h2
   rw [e1, e2]
   have C1 := (HS.out (((((w.alloc (.cells #[v] 133)).alloc (.cells #[.int .i16 a, .int .i16 b] 131)).alloc (.cells #[.int .i16 c, .int .i16 d] 131)).alloc (.cells #[.int .i16 0, .int .i16 0] 131))) c (by go_grown)).1
   generalize Sp.stepBelow steps c = s1 at *
   have HS2 : Hid (∀ W, Below w.heap.size w W → Calls Tryz.prog 329 #[.agg #[v], .int .i16 d] W (fun e w' => e = .returned (.int .i16 (Sp.stepAbove steps d)) ∧ Below W.heap.size W w')) := fun W h => (HS.out W d h).2
   clear HS e1 e2
   generalize Sp.stepAbove steps d = s2 at *
   go_enter Tryz.func327, Tryz.ntmps327
   go_wp2_with fail
   refine C1.mono ?_
   rintro e w1 ⟨rfl, b1⟩
   obtain ⟨k1, k2, k3, k4, k5⟩ := laid4b b1
   have A0 : Hid (WidAt w v a b c d w1) := ⟨k1, k2, k3, k4, k5⟩
   obtain ⟨q0, q1, q2, q3, q4, q5, q6, q7, q8, q9, q10⟩ := A0.out.cells
   have A1 : Hid (WidAt w v s1 b c d (w1.setCell ⟨w.heap.size + 1, 0, none⟩ (.int .i16 s1))) := A0.out.setA s1
   obtain ⟨r0, r1, r2, r3, r4, r5, r6, r7, r8, r9, r10⟩ := A1.out.cells
   clear k1 k2 k3 k4 k5 b1 C1
   go_wp2_with fail
   refine (HS2.out _ A1.out.b).mono ?_
   rintro e w2 ⟨rfl, b2⟩
   have A2 : Hid (WidAt w v s1 b c d w2) := A1.out.call b2
   have A3 : Hid (WidAt w v s1 s2 c d (w2.setCell ⟨w.heap.size + 1, 1, none⟩ (.int .i16 s2))) := A2.out.setB s2
   clear q0 q1 q2 q3 q4 q5 q6 q7 q8 q9 q10 r0 r1 r2 r3 r4 r5 r6 r7 r8 r9 r10 b2
   obtain ⟨q0, q1, q2, q3, q4, q5, q6, q7, q8, q9, q10⟩ := A2.out.cells
   obtain ⟨r0, r1, r2, r3, r4, r5, r6, r7, r8, r9, r10⟩ := A3.out.cells
   have R : Hid (_ ∧ _ ∧ _) := A3.out.res (.int .i16 s1) (.int .i16 s2)
   go_wp2_with fail
   exact bodyPost_ret (v := .agg #[.int .i16 s1, .int .i16 s2]) (by simp [results, Tryz.results327, go_sem, R.out.1, R.out.2.1]) rfl ⟨rfl, R.out.2.2⟩
  ·have e2 : (if b < d then Sp.stepAbove steps d else b) = b := if_neg h2
   rw [e1, e2]
   have C1 := (HS.out (((((w.alloc (.cells #[v] 133)).alloc (.cells #[.int .i16 a, .int .i16 b] 131)).alloc (.cells #[.int .i16 c, .int .i16 d] 131)).alloc (.cells #[.int .i16 0, .int .i16 0] 131))) c (by go_grown)).1
   generalize Sp.stepBelow steps c = s1 at *
   clear HS e1 e2
   go_enter Tryz.func327, Tryz.ntmps327
   go_wp2_with fail
   refine C1.mono ?_
   rintro e w1 ⟨rfl, b1⟩
   obtain ⟨k1, k2, k3, k4, k5⟩ := laid4b b1
   have A0 : Hid (WidAt w v a b c d w1) := ⟨k1, k2, k3, k4, k5⟩
   obtain ⟨q0, q1, q2, q3, q4, q5, q6, q7, q8, q9, q10⟩ := A0.out.cells
   have A1 : Hid (WidAt w v s1 b c d (w1.setCell ⟨w.heap.size + 1, 0, none⟩ (.int .i16 s1))) := A0.out.setA s1
   obtain ⟨r0, r1, r2, r3, r4, r5, r6, r7, r8, r9, r10⟩ := A1.out.cells
   have R : Hid (_ ∧ _ ∧ _) := A1.out.res (.int .i16 s1) (.int .i16 b)
   clear k1 k2 k3 k4 k5 b1 C1
   go_wp2_with fail
   exact bodyPost_ret (v := .agg #[.int .i16 s1, .int .i16 b]) (by simp [results, Tryz.results327, go_sem, R.out.1, R.out.2.1]) rfl ⟨rfl, R.out.2.2⟩
 ·have e1 : (if c < a then Sp.stepBelow steps c else a) = a := if_neg h1
  by_cases h2 : b < d
  ·have e2 : (if b < d then Sp.stepAbove steps d else b) = Sp.stepAbove steps d := if_pos h2
   rw [e1, e2]
   have C1 := (HS.out (((((w.alloc (.cells #[v] 133)).alloc (.cells #[.int .i16 a, .int .i16 b] 131)).alloc (.cells #[.int .i16 c, .int .i16 d] 131)).alloc (.cells #[.int .i16 0, .int .i16 0] 131))) d (by go_grown)).2
   generalize Sp.stepAbove steps d = s1 at *
   clear HS e1 e2
   go_enter Tryz.func327, Tryz.ntmps327
   go_wp2_with fail
   refine C1.mono ?_
   rintro e w1 ⟨rfl, b1⟩
   obtain ⟨k1, k2, k3, k4, k5⟩ := laid4b b1
   have A0 : Hid (WidAt w v a b c d w1) := ⟨k1, k2, k3, k4, k5⟩
   obtain ⟨q0, q1, q2, q3, q4, q5, q6, q7, q8, q9, q10⟩ := A0.out.cells
   have A1 : Hid (WidAt w v a s1 c d (w1.setCell ⟨w.heap.size + 1, 1, none⟩ (.int .i16 s1))) := A0.out.setB s1
   obtain ⟨r0, r1, r2, r3, r4, r5, r6, r7, r8, r9, r10⟩ := A1.out.cells
   have R : Hid (_ ∧ _ ∧ _) := A1.out.res (.int .i16 a) (.int .i16 s1)
   clear k1 k2 k3 k4 k5 b1 C1
   go_wp2_with fail
   exact bodyPost_ret (v := .agg #[.int .i16 a, .int .i16 s1]) (by simp [results, Tryz.results327, go_sem, R.out.1, R.out.2.1]) rfl ⟨rfl, R.out.2.2⟩
  ·have e2 : (if b < d then Sp.stepAbove steps d else b) = b := if_neg h2
   rw [e1, e2]
   clear HS e1 e2
   go_enter Tryz.func327, Tryz.ntmps327
   go_wp2_with fail
   go_returns
   exact ⟨rfl, by go_grown⟩
end Go.Proofs.YtiopfihjmkfdmaaGreatDoor
