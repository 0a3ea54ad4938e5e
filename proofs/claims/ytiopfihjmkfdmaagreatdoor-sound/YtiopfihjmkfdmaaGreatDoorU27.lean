import Derived.Test.YtiopfihjmkfdmaaGreatDoorU19
import Derived.Test.YtiopfihjmkfdmaaGreatDoorU25
namespace Go.Proofs.YtiopfihjmkfdmaaGreatDoor
open Go.RowKit
set_option maxRecDepth 100000
set_option maxHeartbeats 1000000
theorem iv_stepBelow (g off cap : Nat) (steps : List Int) (n : Int) (w : World) (hg : g < w.heap.size) (hl : (steps.length : Int) ≤ 1000000) (hc : ∀ i x, steps[i]? = some x → w.cell? ⟨g, off + i, none⟩ = some (.int .i16 x)) :
  Calls Tryz.prog 336 #[.agg #[.slice (some ⟨g, off, none⟩) steps.length cap], .int .i16 n] w fun e w' => e = .returned (.int .i16 (Sp.stepBelow steps n)) ∧ Below w.heap.size w w' := by
 have hc' : Hid (∀ i x, steps[i]? = some x → (w.alloc (.cells #[.slice (some ⟨g, off, none⟩) steps.length cap] 133)).cell? ⟨g, off + i, none⟩ = some (.int .i16 x)) := fun i x h => by
  rw [(below_alloc1 w _).cell (p := ⟨g, off + i, none⟩) hg]; exact hc i x h
 clear hc hg
 go_enter Tryz.func336, Tryz.ntmps336
 go_wp2_with fail
 go_loop [5, 11] (fun v5 v11 => ∃ (j : Nat) (st : Int), j ≤ steps.length ∧ v11 = .int .i64 j ∧ v5 = .int .i16 st ∧ Hid (Sp.stepBelow steps n = (steps.drop j).foldl (fun st s => if s ≤ n then max st s else st) st)) (fun _ v11 => steps.length - (intOf v11).toNat)
 case atStart => exact ⟨0, -32768, Nat.zero_le _, rfl, rfl, rfl⟩
 case round =>
  obtain ⟨j, st, hj, rfl, rfl, hq⟩ := hrel
  by_cases hjlt : j < steps.length
  ·obtain ⟨x, hx⟩ : ∃ x, steps[j]? = some x := ⟨_, List.getElem?_eq_getElem hjlt⟩
   have hcx := hc'.out j x hx
   have hd : steps.drop j = x :: steps.drop (j + 1) := by
    rw [List.drop_eq_getElem_cons hjlt, (List.getElem?_eq_some_iff.1 hx).2]
   have HD : Hid (Sp.stepBelow steps n = (steps.drop (j + 1)).foldl (fun st s => if s ≤ n then max st s else st) (if x ≤ n then max st x else st)) := by
    unfold Hid; rw [hq.out, hd]; rfl
   clear hd hx
   by_cases hle : x ≤ n
   ·rw [if_pos hle] at HD
    go_wp2_with fail
    all_goals exact ⟨⟨j + 1, _, by omega, by go_num, rfl, by unfold Hid; rw [HD.out] <;> congr 1 <;> omega⟩, by simp [intOf]; omega⟩
   ·rw [if_neg hle] at HD
    go_wp2_with fail
    all_goals exact ⟨⟨j + 1, _, by omega, by go_num, rfl, HD⟩, by simp [intOf]; omega⟩
  ·have E : Hid (Sp.stepBelow steps n = st) := by
    unfold Hid; rw [hq.out, List.drop_of_length_le (by omega)]; rfl
   go_wp2_with fail
   go_returns
   exact ⟨ret_int E.out.symm, by go_grown⟩
theorem iv_stepAbove (g off cap : Nat) (steps : List Int) (n : Int) (w : World) (hg : g < w.heap.size) (hl : (steps.length : Int) ≤ 1000000) (hc : ∀ i x, steps[i]? = some x → w.cell? ⟨g, off + i, none⟩ = some (.int .i16 x)) :
  Calls Tryz.prog 329 #[.agg #[.slice (some ⟨g, off, none⟩) steps.length cap], .int .i16 n] w fun e w' => e = .returned (.int .i16 (Sp.stepAbove steps n)) ∧ Below w.heap.size w w' := by
 have hc' : Hid (∀ i x, steps[i]? = some x → (w.alloc (.cells #[.slice (some ⟨g, off, none⟩) steps.length cap] 133)).cell? ⟨g, off + i, none⟩ = some (.int .i16 x)) := fun i x h => by
  rw [(below_alloc1 w _).cell (p := ⟨g, off + i, none⟩) hg]; exact hc i x h
 clear hc hg
 go_enter Tryz.func329, Tryz.ntmps329
 go_wp2_with fail
 go_loop [5, 11] (fun v5 v11 => ∃ (j : Nat) (st : Int), j ≤ steps.length ∧ v11 = .int .i64 j ∧ v5 = .int .i16 st ∧ Hid (Sp.stepAbove steps n = (steps.drop j).foldl (fun st s => if n ≤ s then min st s else st) st)) (fun _ v11 => steps.length - (intOf v11).toNat)
 case atStart => exact ⟨0, 32767, Nat.zero_le _, rfl, rfl, rfl⟩
 case round =>
  obtain ⟨j, st, hj, rfl, rfl, hq⟩ := hrel
  by_cases hjlt : j < steps.length
  ·obtain ⟨x, hx⟩ : ∃ x, steps[j]? = some x := ⟨_, List.getElem?_eq_getElem hjlt⟩
   have hcx := hc'.out j x hx
   have hd : steps.drop j = x :: steps.drop (j + 1) := by
    rw [List.drop_eq_getElem_cons hjlt, (List.getElem?_eq_some_iff.1 hx).2]
   have HD : Hid (Sp.stepAbove steps n = (steps.drop (j + 1)).foldl (fun st s => if n ≤ s then min st s else st) (if n ≤ x then min st x else st)) := by
    unfold Hid; rw [hq.out, hd]; rfl
   clear hd hx
   by_cases hle : n ≤ x
   ·rw [if_pos hle] at HD
    go_wp2_with fail
    all_goals exact ⟨⟨j + 1, _, by omega, by go_num, rfl, by unfold Hid; rw [HD.out] <;> congr 1 <;> omega⟩, by simp [intOf]; omega⟩
   ·rw [if_neg hle] at HD
    go_wp2_with fail
    all_goals exact ⟨⟨j + 1, _, by omega, by go_num, rfl, HD⟩, by simp [intOf]; omega⟩
  ·have E : Hid (Sp.stepAbove steps n = st) := by
    unfold Hid; rw [hq.out, List.drop_of_length_le (by omega)]; rfl
   go_wp2_with fail
   go_returns
   exact ⟨ret_int E.out.symm, by go_grown⟩
def StepsAt (w : World) (v : Value) (steps : List Int) : Prop := ∃ g off cap, v = .slice (some ⟨g, off, none⟩) steps.length cap ∧ g < w.heap.size ∧ (steps.length : Int) ≤ 1000000 ∧ ∀ i x, steps[i]? = some x → w.cell? ⟨g, off + i, none⟩ = some (.int .i16 x)
theorem StepsAt.below {w w' : World} {v : Value} {steps : List Int} (h : StepsAt w v steps) (b : Below w.heap.size w w') : StepsAt w' v steps := by
 obtain ⟨g, off, cap, rfl, hg, hl, hc⟩ := h
 exact ⟨g, off, cap, rfl, Nat.lt_of_lt_of_le hg b.size, hl, fun i x hx => by rw [b.cell (p := ⟨g, off + i, none⟩) hg]; exact hc i x hx⟩
structure WidAt (w : World) (v : Value) (p q c d : Int) (W : World) : Prop where
 o : W.heap[w.heap.size]? = some (.cells #[v] 133)
 x : W.heap[w.heap.size + 1]? = some (.cells #[.int .i16 p, .int .i16 q] 131)
 y : W.heap[w.heap.size + 1 + 1]? = some (.cells #[.int .i16 c, .int .i16 d] 131)
 z : W.heap[w.heap.size + 1 + 1 + 1]? = some (.cells #[.int .i16 0, .int .i16 0] 131)
 b : Below w.heap.size w W
theorem WidAt.call {w : World} {v : Value} {p q c d : Int} {W W' : World} (h : WidAt w v p q c d W) (k : Below W.heap.size W W') : WidAt w v p q c d W' :=
 ⟨(k.block _ (heap_lt h.o)).trans h.o, (k.block _ (heap_lt h.x)).trans h.x, (k.block _ (heap_lt h.y)).trans h.y, (k.block _ (heap_lt h.z)).trans h.z, h.b.trans (k.mono h.b.size)⟩
theorem WidAt.setA {w : World} {v : Value} {p q c d : Int} {W : World} (h : WidAt w v p q c d W) (u : Int) : WidAt w v u q c d (W.setCell ⟨w.heap.size + 1, 0, none⟩ (.int .i16 u)) :=
 ⟨by rw [Below.heap_setCell _ _ _ _ (by show w.heap.size ≠ w.heap.size + 1; omega)]; exact h.o, by rw [heap_setCell_at h.x 0 (.int .i16 u)]; rfl, by rw [Below.heap_setCell _ _ _ _ (by show w.heap.size + 1 + 1 ≠ w.heap.size + 1; omega)]; exact h.y, by rw [Below.heap_setCell _ _ _ _ (by show w.heap.size + 1 + 1 + 1 ≠ w.heap.size + 1; omega)]; exact h.z, h.b.setCell (p := ⟨w.heap.size + 1, 0, none⟩) (Nat.le_succ _) _⟩
theorem WidAt.setB {w : World} {v : Value} {p q c d : Int} {W : World} (h : WidAt w v p q c d W) (u : Int) : WidAt w v p u c d (W.setCell ⟨w.heap.size + 1, 1, none⟩ (.int .i16 u)) :=
 ⟨by rw [Below.heap_setCell _ _ _ _ (by show w.heap.size ≠ w.heap.size + 1; omega)]; exact h.o, by rw [heap_setCell_at h.x 1 (.int .i16 u)]; rfl, by rw [Below.heap_setCell _ _ _ _ (by show w.heap.size + 1 + 1 ≠ w.heap.size + 1; omega)]; exact h.y, by rw [Below.heap_setCell _ _ _ _ (by show w.heap.size + 1 + 1 + 1 ≠ w.heap.size + 1; omega)]; exact h.z, h.b.setCell (p := ⟨w.heap.size + 1, 1, none⟩) (Nat.le_succ _) _⟩
theorem WidAt.res {w : World} {v : Value} {p q c d : Int} {W : World} (h : WidAt w v p q c d W) (u u' : Value) : ((W.setCell ⟨w.heap.size + 1 + 1 + 1, 0, none⟩ u).setCell ⟨w.heap.size + 1 + 1 + 1, 1, none⟩ u').cell? ⟨w.heap.size + 1 + 1 + 1, 0, none⟩ = some u ∧ ((W.setCell ⟨w.heap.size + 1 + 1 + 1, 0, none⟩ u).setCell ⟨w.heap.size + 1 + 1 + 1, 1, none⟩ u').cell? ⟨w.heap.size + 1 + 1 + 1, 1, none⟩ = some u' ∧ Below w.heap.size w ((W.setCell ⟨w.heap.size + 1 + 1 + 1, 0, none⟩ u).setCell ⟨w.heap.size + 1 + 1 + 1, 1, none⟩ u') :=
 ⟨((res2 h.z).2.2.2.2 u u').1, ((res2 h.z).2.2.2.2 u u').2, (h.b.setCell (p := ⟨w.heap.size + 1 + 1 + 1, 0, none⟩) (by show w.heap.size ≤ w.heap.size + 1 + 1 + 1; omega) _).setCell (p := ⟨w.heap.size + 1 + 1 + 1, 1, none⟩) (by show w.heap.size ≤ w.heap.size + 1 + 1 + 1; omega) _⟩
theorem WidAt.cells {w : World} {v : Value} {p q c d : Int} {W : World} (h : WidAt w v p q c d W) : W.cell? ⟨w.heap.size, 0, none⟩ = some v ∧ W.cell? ⟨w.heap.size + 1, 0, none⟩ = some (.int .i16 p) ∧ W.cell? ⟨w.heap.size + 1, 1, none⟩ = some (.int .i16 q) ∧ W.cell? ⟨w.heap.size + 1 + 1, 0, none⟩ = some (.int .i16 c) ∧ W.cell? ⟨w.heap.size + 1 + 1, 1, none⟩ = some (.int .i16 d) ∧ W.cell? ⟨w.heap.size + 1 + 1 + 1, 0, none⟩ = some (.int .i16 0) ∧ W.cell? ⟨w.heap.size + 1 + 1 + 1, 1, none⟩ = some (.int .i16 0) ∧ W.frozen? ⟨w.heap.size + 1, 0, none⟩ = false ∧ W.frozen? ⟨w.heap.size + 1, 1, none⟩ = false ∧ W.frozen? ⟨w.heap.size + 1 + 1 + 1, 0, none⟩ = false ∧ W.frozen? ⟨w.heap.size + 1 + 1 + 1, 1, none⟩ = false :=
 ⟨cell_of h.o 0 rfl, cell_of h.x 0 rfl, cell_of h.x 1 rfl, cell_of h.y 0 rfl, cell_of h.y 1 rfl, cell_of h.z 0 rfl, cell_of h.z 1 rfl, frozen_of h.x 0, frozen_of h.x 1, frozen_of h.z 0, frozen_of h.z 1⟩
theorem steps_calls (v : Value) (steps : List Int) (n : Int) (w : World) (h : StepsAt w v steps) :
  Calls Tryz.prog 336 #[.agg #[v], .int .i16 n] w (fun e w' => e = .returned (.int .i16 (Sp.stepBelow steps n)) ∧ Below w.heap.size w w') ∧
  Calls Tryz.prog 329 #[.agg #[v], .int .i16 n] w (fun e w' => e = .returned (.int .i16 (Sp.stepAbove steps n)) ∧ Below w.heap.size w w') := by
 obtain ⟨g, off, cap, rfl, hg, hl, hc⟩ := h
 exact ⟨iv_stepBelow g off cap steps n w hg hl hc, iv_stepAbove g off cap steps n w hg hl hc⟩
theorem iv_widen (v : Value) (steps : List Int) (a b c d : Int) (w : World) (hS : StepsAt w v steps) :
  Calls Tryz.prog 327 #[.agg #[v], .agg #[.int .i16 a, .int .i16 b], .agg #[.int .i16 c, .int .i16 d]] w fun e w' => e = .returned (.agg #[.int .i16 (if c < a then Sp.stepBelow steps c else a), .int .i16 (if b < d then Sp.stepAbove steps d else b)]) ∧ Below w.heap.size w w' := by
 have HS : Hid (∀ W n, Below w.heap.size w W → _ ∧ _) := fun W n h => steps_calls v steps n W (hS.below h)
 clear hS
 by_cases h1 : c < a
 ·have e1 : (if c < a then Sp.stepBelow steps c else a) = Sp.stepBelow steps c := if_pos h1
  by_cases h2 : b < d
  ·have e2 : (if b < d then Sp.stepAbove steps d else b) = Sp.stepAbove steps d := if_pos h2
   rw [e1, e2]
   have C1 := (HS.out (((((w.alloc (.cells #[v] 133)).alloc (.cells #[.int .i16 a, .int .i16 b] 131)).alloc (.cells #[.int .i16 c, .int .i16 d] 131)).alloc (.cells #[.int .i16 0, .int .i16 0] 131))) c (by go_grown)).1
   generalize Sp.stepBelow steps c = s1 at *
   have HS2 : Hid (∀ W, Below w.heap.size w W → Calls Tryz.prog 329 #[.agg #[v], .int .i16 d] W (fun e w' => e = .returned (.int .i16 (Sp.stepAbove steps d)) ∧ Below W.heap.size W w')) := fun W h => (HS.out W d h).2
   clear HS e1 e2
   generalize Sp.stepAbove steps d = s2 at *
   go_enter Tryz.func327, Tryz.ntmps327
   go_wp2_with fail
   refine C1.mono ?_
   rintro e w1 ⟨rfl, b1⟩
   obtain ⟨k1, k2, k3, k4, k5⟩ := laid4b b1
   have A0 : Hid (WidAt w v a b c d w1) := ⟨k1, k2, k3, k4, k5⟩
   obtain ⟨q0, q1, q2, q3, q4, q5, q6, q7, q8, q9, q10⟩ := A0.out.cells
   have A1 : Hid (WidAt w v s1 b c d (w1.setCell ⟨w.heap.size + 1, 0, none⟩ (.int .i16 s1))) := A0.out.setA s1
   obtain ⟨r0, r1, r2, r3, r4, r5, r6, r7, r8, r9, r10⟩ := A1.out.cells
   clear k1 k2 k3 k4 k5 b1 C1
   go_wp2_with fail
   refine (HS2.out _ A1.out.b).mono ?_
   rintro e w2 ⟨rfl, b2⟩
   have A2 : Hid (WidAt w v s1 b c d w2) := A1.out.call b2
   have A3 : Hid (WidAt w v s1 s2 c d (w2.setCell ⟨w.heap.size + 1, 1, none⟩ (.int .i16 s2))) := A2.out.setB s2
   clear q0 q1 q2 q3 q4 q5 q6 q7 q8 q9 q10 r0 r1 r2 r3 r4 r5 r6 r7 r8 r9 r10 b2
   obtain ⟨q0, q1, q2, q3, q4, q5, q6, q7, q8, q9, q10⟩ := A2.out.cells
   obtain ⟨r0, r1, r2, r3, r4, r5, r6, r7, r8, r9, r10⟩ := A3.out.cells
   have R : Hid (_ ∧ _ ∧ _) := A3.out.res (.int .i16 s1) (.int .i16 s2)
   go_wp2_with fail
   exact bodyPost_ret (v := .agg #[.int .i16 s1, .int .i16 s2]) (by simp [results, Tryz.results327, go_sem, R.out.1, R.out.2.1]) rfl ⟨rfl, R.out.2.2⟩
  ·have e2 : (if b < d then Sp.stepAbove steps d else b) = b := if_neg h2
   rw [e1, e2]
   have C1 := (HS.out (((((w.alloc (.cells #[v] 133)).alloc (.cells #[.int .i16 a, .int .i16 b] 131)).alloc (.cells #[.int .i16 c, .int .i16 d] 131)).alloc (.cells #[.int .i16 0, .int .i16 0] 131))) c (by go_grown)).1
   generalize Sp.stepBelow steps c = s1 at *
   clear HS e1 e2
   go_enter Tryz.func327, Tryz.ntmps327
   go_wp2_with fail
   refine C1.mono ?_
   rintro e w1 ⟨rfl, b1⟩
   obtain ⟨k1, k2, k3, k4, k5⟩ := laid4b b1
   have A0 : Hid (WidAt w v a b c d w1) := ⟨k1, k2, k3, k4, k5⟩
   obtain ⟨q0, q1, q2, q3, q4, q5, q6, q7, q8, q9, q10⟩ := A0.out.cells
   have A1 : Hid (WidAt w v s1 b c d (w1.setCell ⟨w.heap.size + 1, 0, none⟩ (.int .i16 s1))) := A0.out.setA s1
   obtain ⟨r0, r1, r2, r3, r4, r5, r6, r7, r8, r9, r10⟩ := A1.out.cells
   have R : Hid (_ ∧ _ ∧ _) := A1.out.res (.int .i16 s1) (.int .i16 b)
   clear k1 k2 k3 k4 k5 b1 C1
   go_wp2_with fail
   exact bodyPost_ret (v := .agg #[.int .i16 s1, .int .i16 b]) (by simp [results, Tryz.results327, go_sem, R.out.1, R.out.2.1]) rfl ⟨rfl, R.out.2.2⟩
 ·have e1 : (if c < a then Sp.stepBelow steps c else a) = a := if_neg h1
  by_cases h2 : b < d
  ·have e2 : (if b < d then Sp.stepAbove steps d else b) = Sp.stepAbove steps d := if_pos h2
   rw [e1, e2]
   have C1 := (HS.out (((((w.alloc (.cells #[v] 133)).alloc (.cells #[.int .i16 a, .int .i16 b] 131)).alloc (.cells #[.int .i16 c, .int .i16 d] 131)).alloc (.cells #[.int .i16 0, .int .i16 0] 131))) d (by go_grown)).2
   generalize Sp.stepAbove steps d = s1 at *
   clear HS e1 e2
   go_enter Tryz.func327, Tryz.ntmps327
   go_wp2_with fail
   refine C1.mono ?_
   rintro e w1 ⟨rfl, b1⟩
   obtain ⟨k1, k2, k3, k4, k5⟩ := laid4b b1
   have A0 : Hid (WidAt w v a b c d w1) := ⟨k1, k2, k3, k4, k5⟩
   obtain ⟨q0, q1, q2, q3, q4, q5, q6, q7, q8, q9, q10⟩ := A0.out.cells
   have A1 : Hid (WidAt w v a s1 c d (w1.setCell ⟨w.heap.size + 1, 1, none⟩ (.int .i16 s1))) := A0.out.setB s1
   obtain ⟨r0, r1, r2, r3, r4, r5, r6, r7, r8, r9, r10⟩ := A1.out.cells
   have R : Hid (_ ∧ _ ∧ _) := A1.out.res (.int .i16 a) (.int .i16 s1)
   clear k1 k2 k3 k4 k5 b1 C1
   go_wp2_with fail
   exact bodyPost_ret (v := .agg #[.int .i16 a, .int .i16 s1]) (by simp [results, Tryz.results327, go_sem, R.out.1, R.out.2.1]) rfl ⟨rfl, R.out.2.2⟩
  ·have e2 : (if b < d then Sp.stepAbove steps d else b) = b := if_neg h2
   rw [e1, e2]
   clear HS e1 e2
   go_enter Tryz.func327, Tryz.ntmps327
   go_wp2_with fail
   go_returns
   exact ⟨rfl, by go_grown⟩
end Go.Proofs.YtiopfihjmkfdmaaGreatDoor
namespace Go.Proofs.YtiopfihjmkfdmaaGreatDoor
open Go.RowKit
set_option maxRecDepth 100000
set_option maxHeartbeats 1000000
theorem infoInt : (Tryz.prog.info? 3).map (fun i => (i.zero, i.size, i.bytes)) = some (some (.int .i64 0), 1, 8) := by kernel_rfl
def ints (zs : List Int) : List Value := zs.map fun z => .int .i64 z
def RowI (base : Nat) (w : World) (v : Value) (zs : List Int) : Prop := w.ownsRow base 3 1 v zs.length (ints zs)
theorem RowI.form {base : Nat} {w : World} {v : Value} {zs : List Int} (h : RowI base w v zs) : ∃ a c, v = .slice a zs.length c := by
 rcases h.2 with ⟨rfl, hz⟩ | ⟨g, cap, cur, rfl, _⟩
 ·exact ⟨none, 0, by rw [hz]⟩
 ·exact ⟨_, _, rfl⟩
theorem rowI_more {base : Nat} {w w2 : World} {v v' : Value} {zs : List Int} {x y : Int} {o : Obj} (hb : base ≤ w.heap.size) (h : RowI base w v zs) (hown : w2.ownsRow base 3 1 v' (zs.length + 2) (ints zs ++ [.int .i64 x, .int .i64 y])) (hg : (w.alloc o).grownBy w2 v.ownBlock) {w0 : World} (b0 : Below base w0 w) : RowI base w2 v' (zs ++ [x, y]) ∧ Below base w0 w2 := by
 refine ⟨?_, b0.grown (grown_alloc hg) hb (fun k hk => (ownsRow9_lt h k hk).1)⟩
 unfold RowI ints at *
 rw [List.length_append, List.map_append]
 exact hown
theorem iv_besides (a b : Int) (w : World) (h1 : -32768 ≤ a) (h2 : a ≤ b) (h3 : b ≤ 32767) :
  Calls Tryz.prog 341 #[.agg #[.int .i16 a, .int .i16 b]] w fun e w' => ∃ v, e = .returned v ∧ RowI w.heap.size w' v (Sp.besides ⟨a, b⟩) ∧ Below w.heap.size w w' := by
 obtain ⟨i64, hi64, hz64, hs64, hb64⟩ := info_parts infoInt
 go_enter Tryz.func341, Tryz.ntmps341
 go_wp2_with fail
 refine (iv_ends a b _ h1 (by omega) (by omega) h3).mono ?_
 rintro e w1 ⟨rfl, b1⟩
 have BW : Hid (Below w.heap.size w w1) := (below_drop b1).1
 have R0 : Hid (RowI w.heap.size w1 (.slice none 0 0) []) := World.ownsRow_nil _ _ _ _
 have hbs := BW.out.size
 clear b1
 by_cases ha : a < 0
 ·by_cases hb : 0 < b
  ·have E : Hid (Sp.besides ⟨a, b⟩ = ([] ++ [a, min b (-1)]) ++ [max a 1, b]) := by unfold Hid Sp.besides; simp [ha, hb]
   go_wp2_with (first
    | (at_builtin; refine wpList_append_own_at _ rfl _ _ 35 rfl w.heap.size 3 i64 (.int .i64 0) 1 8 Tryz.underlying35 hi64 hz64 hs64 hb64 rfl (by decide) _ _ _ rfl (R0.out.alloc _) ⟨w1.heap.size, 0, none⟩ 2 2 [.int .i64 a, .int .i64 (min b (-1))] rfl rfl (World.news_of_block (cs := #[.int .i64 a, .int .i64 (min b (-1))]) (t := 3) (fr := (0, 0)) (heap_alloc_new _ _)) ?q1 ?q2 ?q3 ?q4 ?_))
   case q1 => intro u hu; simp at hu; rcases hu with rfl | rfl <;> rfl
   case q2 => unfold maxLen; simp
   case q3 => simp
   case q4 => simp; omega
   intro v2 w2 hown2 hgrow2 _ _
   obtain ⟨r2, b2⟩ := rowI_more hbs R0.out hown2 hgrow2 BW.out
   obtain ⟨a2, c2, rfl⟩ := r2.form
   have R2 : Hid (_) := r2
   have B2 : Hid (_) := b2
   have hbs2 := b2.size
   clear hown2 hgrow2 r2 b2
   go_wp2_with (first
    | (at_builtin; refine wpList_append_own_at _ rfl _ _ 35 rfl w.heap.size 3 i64 (.int .i64 0) 1 8 Tryz.underlying35 hi64 hz64 hs64 hb64 rfl (by decide) _ _ _ rfl (R2.out.alloc _) ⟨w2.heap.size, 0, none⟩ 2 2 [.int .i64 (max a 1), .int .i64 b] rfl rfl (World.news_of_block (cs := #[.int .i64 (max a 1), .int .i64 b]) (t := 3) (fr := (0, 0)) (heap_alloc_new _ _)) ?q1 ?q2 ?q3 ?q4 ?_))
   case q1 => intro u hu; simp at hu; rcases hu with rfl | rfl <;> rfl
   case q2 => unfold maxLen; simp
   case q3 => simp
   case q4 => simp; omega
   intro v3 w3 hown3 hgrow3 _ _
   obtain ⟨r3, b3⟩ := rowI_more hbs2 R2.out hown3 hgrow3 B2.out
   obtain ⟨a3, c3, rfl⟩ := r3.form
   have R3 : Hid (_) := r3
   have B3 : Hid (_) := b3
   clear hown3 hgrow3 r3 b3
   go_wp2_with fail
   go_returns
   exact ⟨_, rfl, by rw [E.out]; exact R3.out, B3.out⟩
  ·have E : Hid (Sp.besides ⟨a, b⟩ = [] ++ [a, min b (-1)]) := by unfold Hid Sp.besides; simp [ha, hb]
   go_wp2_with (first
    | (at_builtin; refine wpList_append_own_at _ rfl _ _ 35 rfl w.heap.size 3 i64 (.int .i64 0) 1 8 Tryz.underlying35 hi64 hz64 hs64 hb64 rfl (by decide) _ _ _ rfl (R0.out.alloc _) ⟨w1.heap.size, 0, none⟩ 2 2 [.int .i64 a, .int .i64 (min b (-1))] rfl rfl (World.news_of_block (cs := #[.int .i64 a, .int .i64 (min b (-1))]) (t := 3) (fr := (0, 0)) (heap_alloc_new _ _)) ?q1 ?q2 ?q3 ?q4 ?_))
   case q1 => intro u hu; simp at hu; rcases hu with rfl | rfl <;> rfl
   case q2 => unfold maxLen; simp
   case q3 => simp
   case q4 => simp; omega
   intro v2 w2 hown2 hgrow2 _ _
   obtain ⟨r2, b2⟩ := rowI_more hbs R0.out hown2 hgrow2 BW.out
   obtain ⟨a2, c2, rfl⟩ := r2.form
   have R2 : Hid (_) := r2
   have B2 : Hid (_) := b2
   clear hown2 hgrow2 r2 b2
   go_wp2_with fail
   go_returns
   exact ⟨_, rfl, by rw [E.out]; exact R2.out, B2.out⟩
 ·by_cases hb : 0 < b
  ·have E : Hid (Sp.besides ⟨a, b⟩ = [] ++ [max a 1, b]) := by unfold Hid Sp.besides; simp [ha, hb]
   go_wp2_with (first
    | (at_builtin; refine wpList_append_own_at _ rfl _ _ 35 rfl w.heap.size 3 i64 (.int .i64 0) 1 8 Tryz.underlying35 hi64 hz64 hs64 hb64 rfl (by decide) _ _ _ rfl (R0.out.alloc _) ⟨w1.heap.size, 0, none⟩ 2 2 [.int .i64 (max a 1), .int .i64 b] rfl rfl (World.news_of_block (cs := #[.int .i64 (max a 1), .int .i64 b]) (t := 3) (fr := (0, 0)) (heap_alloc_new _ _)) ?q1 ?q2 ?q3 ?q4 ?_))
   case q1 => intro u hu; simp at hu; rcases hu with rfl | rfl <;> rfl
   case q2 => unfold maxLen; simp
   case q3 => simp
   case q4 => simp; omega
   intro v2 w2 hown2 hgrow2 _ _
   obtain ⟨r2, b2⟩ := rowI_more hbs R0.out hown2 hgrow2 BW.out
   obtain ⟨a2, c2, rfl⟩ := r2.form
   have R2 : Hid (_) := r2
   have B2 : Hid (_) := b2
   clear hown2 hgrow2 r2 b2
   go_wp2_with fail
   go_returns
   exact ⟨_, rfl, by rw [E.out]; exact R2.out, B2.out⟩
  ·have E : Hid (Sp.besides ⟨a, b⟩ = []) := by unfold Hid Sp.besides; simp [ha, hb]
   go_wp2_with fail
   go_returns
   exact ⟨_, rfl, by rw [E.out]; exact R0.out, BW.out⟩
end Go.Proofs.YtiopfihjmkfdmaaGreatDoor
namespace Go.Proofs.YtiopfihjmkfdmaaGreatDoor
open Go.RowKit
set_option maxRecDepth 100000
set_option maxHeartbeats 1000000
theorem minOf_eq (zs : List Int) : Lib.minOf (zs.take zs.length) = Sp.minL zs := by
 rw [List.take_length]
 cases zs with
 | nil => rfl
 | cons x xs => show (x :: xs).foldl min x = xs.foldl min x; rw [List.foldl_cons] <;> congr 1 <;> omega
theorem maxOf_eq (zs : List Int) : Lib.maxOf (zs.take zs.length) = Sp.maxL zs := by
 rw [List.take_length]
 cases zs with
 | nil => rfl
 | cons x xs => show (x :: xs).foldl max x = xs.foldl max x; rw [List.foldl_cons] <;> congr 1 <;> omega
theorem iv_hull (g off cap : Nat) (zs : List Int) (w : World) (hg : g < w.heap.size) (hn : 0 < zs.length) (hbig : zs.length ≤ 1000000) (hc : ∀ j, j < zs.length → w.cell? ⟨g, off + j, none⟩ = some (.int .i64 (zs.getD j 0))) :
  Calls Tryz.prog 335 #[.slice (some ⟨g, off, none⟩) zs.length cap] w fun e w' => e = .returned (.agg #[.int .i16 (Sp.hullL zs).a, .int .i16 (Sp.hullL zs).b]) ∧ Below w.heap.size w w' := by
 have hpq : Sp.minL zs ≤ Sp.maxL zs := by
  obtain ⟨x, hx⟩ : ∃ x, x ∈ zs := by
   cases zs with
   | nil => simp at hn
   | cons x xs => exact ⟨x, by simp⟩
  exact Int.le_trans (Sp.minL_le hx) (Sp.le_maxL hx)
 have hmin := Tryz.slices_Min_int g off zs.length cap zs (w.alloc (.cells #[.int .i16 0, .int .i16 0] 131)) hn (Nat.le_refl _) (by omega) (fun j hj => by rw [(below_alloc1 w _).cell (p := ⟨g, off + j, none⟩) hg]; exact hc j hj)
 have hmax := Tryz.slices_Max_int g off zs.length cap zs (w.alloc (.cells #[.int .i16 0, .int .i16 0] 131)) hn (Nat.le_refl _) (by omega) (fun j hj => by rw [(below_alloc1 w _).cell (p := ⟨g, off + j, none⟩) hg]; exact hc j hj)
 rw [minOf_eq] at hmin
 rw [maxOf_eq] at hmax
 unfold Sp.hullL
 generalize Sp.minL zs = p at *
 generalize Sp.maxL zs = q at *
 have hmin : Calls Tryz.prog 339 #[.slice (some ⟨g, off, none⟩) zs.length cap] (w.alloc (.cells #[.int .i16 0, .int .i16 0] 131)) fun e w' => e = .returned (.int .i64 p) ∧ w' = w.alloc (.cells #[.int .i16 0, .int .i16 0] 131) := hmin
 have hmax : Calls Tryz.prog 340 #[.slice (some ⟨g, off, none⟩) zs.length cap] (w.alloc (.cells #[.int .i16 0, .int .i16 0] 131)) fun e w' => e = .returned (.int .i64 q) ∧ w' = w.alloc (.cells #[.int .i16 0, .int .i16 0] 131) := hmax
 generalize zs.length = m at *
 clear hc hn hbig hg
 by_cases h1 : p < -32768
 ·have E : Hid (Sp.hull2 p q = ⟨-32768, 32767⟩) := by unfold Hid Sp.hull2; rw [if_pos (.inl h1)]; rfl
  go_enter Tryz.func335, Tryz.ntmps335
  go_wp2_with fail
  refine hmin.mono ?_
  rintro e w1 ⟨rfl, rfl⟩
  go_wp2_with fail
  refine hmax.mono ?_
  rintro e w1 ⟨rfl, rfl⟩
  go_wp2_with fail
  go_returns
  exact ⟨by rw [E.out], by go_grown⟩
 ·by_cases h2 : 32767 < q
  ·have E : Hid (Sp.hull2 p q = ⟨-32768, 32767⟩) := by unfold Hid Sp.hull2; rw [if_pos (.inr h2)]; rfl
   have h1' : decide (p < -32768) = false := by simpa using h1
   go_enter Tryz.func335, Tryz.ntmps335
   go_wp2_with fail
   refine hmin.mono ?_
   rintro e w1 ⟨rfl, rfl⟩
   go_wp2_with fail
   refine hmax.mono ?_
   rintro e w1 ⟨rfl, rfl⟩
   go_wp2_with fail
   go_returns
   exact ⟨by rw [E.out], by go_grown⟩
  ·have E : Hid (Sp.hull2 p q = ⟨p, q⟩) := by unfold Hid Sp.hull2; rw [if_neg (by omega)]
   have h1' : decide (p < -32768) = false := by simpa using h1
   have h2' : decide (32767 < q) = false := by simpa using h2
   go_enter Tryz.func335, Tryz.ntmps335
   go_wp2_with fail
   refine hmin.mono ?_
   rintro e w1 ⟨rfl, rfl⟩
   go_wp2_with fail
   refine hmax.mono ?_
   rintro e w1 ⟨rfl, rfl⟩
   go_wp2_with fail
   go_returns
   exact ⟨by rw [E.out], by go_grown⟩
end Go.Proofs.YtiopfihjmkfdmaaGreatDoor
namespace Go.Proofs.YtiopfihjmkfdmaaGreatDoor
open Go.RowKit
set_option maxRecDepth 100000
set_option maxHeartbeats 1000000
theorem RowI.cell {base : Nat} {w : World} {v : Value} {zs : List Int} (h : RowI base w v zs) (hne : zs ≠ []) : ∃ g c, v = .slice (some ⟨g, 0, none⟩) zs.length c ∧ base ≤ g ∧ g < w.heap.size ∧ ∀ j z, zs[j]? = some z → w.cell? ⟨g, j, none⟩ = some (.int .i64 z) := by
 have hvl := h.1
 rcases h.2 with ⟨_, hz⟩ | ⟨g, cap, cur, rfl, hlg, hh, hnc, hcm, hcs, htake⟩
 ·exact absurd (List.eq_nil_of_length_eq_zero hz) hne
 ·refine ⟨g, cap, rfl, hlg, heap_lt hh, fun j z hz => ?_⟩
  refine cell_of hh j ?_
  have h2 : j < zs.length := (List.getElem?_eq_some_iff.1 hz).1
  have h3 : cur.toList[j]? = (ints zs)[j]? := by
   rw [← htake, List.getElem?_take, if_pos (by omega)]
  rw [← Array.getElem?_toList, h3]
  unfold ints
  rw [List.getElem?_map, hz]; rfl
theorem tdiv_small {a q : Int} (h1 : -32768 ≤ a) (h2 : a ≤ 32767) : -32768 ≤ a.tdiv q ∧ a.tdiv q ≤ 32768 := by
 have h : (a.tdiv q).natAbs ≤ a.natAbs := by rw [Int.natAbs_tdiv]; exact Nat.div_le_self _ _
 omega
theorem besides_ne {a b q : Int} (hq : q ∈ Sp.besides ⟨a, b⟩) : q ≠ 0 := by
 unfold Sp.besides at hq
 simp only [List.mem_append] at hq
 rcases hq with hq | hq
 ·split at hq
  ·simp at hq; omega
  ·simp at hq
 ·split at hq
  ·simp at hq; omega
  ·simp at hq
def quos (a b : Int) (zs : List Int) : List Int := zs.flatMap fun q => [a.tdiv q, b.tdiv q]
theorem quos_len (a b : Int) (zs : List Int) : (quos a b zs).length = 2 * zs.length := by
 induction zs with
 | nil => rfl
 | cons x xs ih =>
  unfold quos at *
  rw [List.flatMap_cons, List.length_append, ih]
  simp
  omega
theorem iv_divide (a b c d : Int) (w : World) (h1 : -32768 ≤ a) (h2 : a ≤ b) (h3 : b ≤ 32767) (h4 : -32768 ≤ c) (h5 : c ≤ d) (h6 : d ≤ 32767) :
  Calls Tryz.prog 337 #[.agg #[.int .i16 a, .int .i16 b], .agg #[.int .i16 c, .int .i16 d]] w fun e w' => e = .returned (optV (Sp.ivDivide ⟨a, b⟩ ⟨c, d⟩)) ∧ Below w.heap.size w w' := by
 obtain ⟨i64, hi64, hz64, hs64, hb64⟩ := info_parts infoInt
 go_enter Tryz.func337, Tryz.ntmps337
 go_wp2_with fail
 refine (iv_ends a b _ h1 (by omega) (by omega) h3).mono ?_
 rintro e w1 ⟨rfl, b1⟩
 obtain ⟨hx, hy, hz, bw⟩ := laid3b b1
 obtain ⟨y0, y1, yf0, yf1, yq⟩ := res2 hy
 have HZ : Hid (_ = _) := hz
 have BW : Hid (_ ) := bw
 clear b1 hz bw hy hx yf0 yf1 yq
 go_wp2_with fail
 refine (iv_besides c d _ h4 h5 h6).mono ?_
 rintro e w2 ⟨v, rfl, r2, b2⟩
 have hz2 : w2.heap[w.heap.size + 1 + 1]? = _ := (b2.block _ (heap_lt HZ.out)).trans HZ.out
 have HZ2 : Hid (_ = _) := hz2
 have B2 : Hid (Below w.heap.size w w2) := BW.out.trans (b2.mono BW.out.size)
 have HNE : Hid (∀ q ∈ Sp.besides ⟨c, d⟩, q ≠ 0) := fun q hq => besides_ne hq
 have HLEN : Hid ((Sp.besides ⟨c, d⟩).length ≤ 4) := by
  unfold Hid Sp.besides
  rw [List.length_append]
  split <;> split <;> simp
 have EQ : Hid (Sp.ivDivide ⟨a, b⟩ ⟨c, d⟩ = if Sp.besides ⟨c, d⟩ = [] then none else some (Sp.hullL (quos a b (Sp.besides ⟨c, d⟩)))) := rfl
 generalize Sp.besides ⟨c, d⟩ = zs at *
 obtain ⟨av, cv, rfl⟩ := r2.form
 have R2 : Hid (RowI w1.heap.size w2 _ _) := r2
 clear hz2 b2 y0 y1 r2
 have hlen : (zs.length : Int) ≤ 4 := by have := HLEN.out; omega
 go_wp2_with fail
 go_loopw [8, 19] (fun v8 v19 wr => ∃ j : Nat, j ≤ zs.length ∧ v19 = .int .i64 j ∧ Hid (RowI w2.heap.size wr v8 (quos a b (zs.take j)) ∧ Below w2.heap.size w2 wr)) (fun _ v19 _ => zs.length - (intOf v19).toNat)
 case atStart => exact ⟨0, Nat.zero_le _, rfl, World.ownsRow_nil _ _ _ _, Below.refl _ _⟩
 case round =>
  obtain ⟨j, hj, rfl, hq⟩ := hrel
  obtain ⟨aq, cq, rfl⟩ := hq.out.1.form
  by_cases hjlt : j < zs.length
  ·obtain ⟨z, hz⟩ : ∃ z, zs[j]? = some z := ⟨_, List.getElem?_eq_getElem hjlt⟩
   have hne : zs ≠ [] := by intro e; subst e; simp at hjlt
   obtain ⟨g, cv', hv, hlo, hg, hcell⟩ := R2.out.cell hne
   injection hv with e1 e2 e3
   subst e1
   have hcz : wr.cell? ⟨g, j, none⟩ = some (.int .i64 z) := by
    rw [hq.out.2.cell (p := ⟨g, j, none⟩) hg]; exact hcell j z hz
   have hz0 : z ≠ 0 := HNE.out z (List.mem_of_getElem? hz)
   have hbs := hq.out.2.size
   have htk : Hid (quos a b (zs.take (j + 1)) = quos a b (zs.take j) ++ [a.tdiv z, b.tdiv z]) := by
    have hk := List.getElem?_eq_some_iff.1 hz
    unfold Hid quos
    rw [List.take_succ_eq_append_getElem hk.1, hk.2, List.flatMap_append]
    simp
   obtain ⟨ta1, ta2⟩ := tdiv_small (q := z) h1 (by omega : a ≤ 32767)
   obtain ⟨tb1, tb2⟩ := tdiv_small (a := b) (q := z) (by omega) h3
   clear hz hcell e2 e3
   have hwa : IntKind.i64.wrap (a.tdiv z) = a.tdiv z := by rw [IntWalk.i64_in] <;> omega
   have hwb : IntKind.i64.wrap (b.tdiv z) = b.tdiv z := by rw [IntWalk.i64_in] <;> omega
   have hql : (quos a b (zs.take j)).length ≤ 100 := by
    have h1 := HLEN.out
    have h2 : (zs.take j).length ≤ 4 := by rw [List.length_take]; omega
    rw [quos_len]; omega
   have hn : (quos a b (zs.take j)).length + 2 ≤ maxLen := by unfold maxLen; omega
   have hby : ((quos a b (zs.take j)).length + 2) * 8 ≤ 140737488355328 := by omega
   have hrow := hq.out.1
   go_wp2_with (fail)
   go_region_law
    ((refine step_append_lies _ (by rfl) _ _ _ (by rfl) w2.heap.size 3 i64 (.int .i64 0) 1 8 Tryz.underlying35 hi64 hz64 hs64 hb64 rfl (by omega) (.slice aq (quos a b (zs.take j)).length cq) (quos a b (zs.take j)).length (ints (quos a b (zs.take j))) (by rfl) ((hrow.alloc _).drew)
       ⟨wr.heap.size, 0, none⟩ 2 2 [.int .i64 (a.tdiv z), .int .i64 (b.tdiv z)] (by rfl) (by rfl) (World.news_of_block (cs := #[.int .i64 (a.tdiv z), .int .i64 (b.tdiv z)]) (t := 3) (fr := (0, 0)) (heap_alloc_new wr _)) (by simp [Value.oneCell'])
       (by omega) hn hby (by simp; omega) (wr.heap.size + 1) (by simp) ?_; intro gg cap w3 hown3 hgrow3 hat3 hlt3))
   all_goals
    have HQ : Hid (RowI w2.heap.size w3 (.slice (some ⟨gg, 0, none⟩) ((quos a b (zs.take j)).length + 2) cap) (quos a b (zs.take (j + 1))) ∧ Below w2.heap.size w2 w3) := by
     unfold Hid
     rw [htk.out]
     exact rowI_more (o := .cells #[.int .i64 (a.tdiv z), .int .i64 (b.tdiv z)] 3) hbs hrow hown3 ⟨hgrow3.os, hgrow3.tape, hgrow3.output, hgrow3.size, hgrow3.block⟩ hq.out.2
    clear hown3 hgrow3 hat3 hlt3 hrow hwa hwb hn hby hql
    go_wp2_with (fail)
    exact ⟨⟨j + 1, by omega, by go_num, HQ⟩, by simp [intOf]; omega⟩
  ·have ej : zs.take j = zs := List.take_of_length_le (by omega)
   have hz3 : wr.heap[w.heap.size + 1 + 1]? = _ := (hq.out.2.block _ (heap_lt HZ2.out)).trans HZ2.out
   have HZ3 : Hid (_ = _) := hz3
   have B3 : Hid (Below w.heap.size w wr) := B2.out.trans (hq.out.2.mono B2.out.size)
   have hrow : RowI w2.heap.size wr (.slice aq (quos a b (zs.take j)).length cq) (quos a b (zs.take j)) := hq.out.1
   rw [ej] at hrow ⊢
   have hql : (quos a b zs).length ≤ 100 := by
    have h1 := HLEN.out
    rw [quos_len]; omega
   obtain ⟨m0, m1, mf0, mf1, mq⟩ := res2 hz3
   by_cases hne : zs = []
   ·subst hne
    have E : Hid (Sp.ivDivide ⟨a, b⟩ ⟨c, d⟩ = none) := by unfold Hid; rw [EQ.out, if_pos rfl]
    have MQ : Hid (_ ∧ _) := mq (.int .i16 0) (.int .i16 0)
    clear mq hrow hz3 hq
    have e0 : (quos a b []).length = 0 := rfl
    rw [e0]
    go_wp2_with fail
    exact bodyPost_ret (v := .tuple #[.agg #[.int .i16 0, .int .i16 0], .bool false]) (by simp [results, Tryz.results337, go_sem, MQ.out.1, MQ.out.2]) rfl ⟨opt_none E.out, (B3.out.setCell (p := ⟨w.heap.size + 1 + 1, 0, none⟩) (by show w.heap.size ≤ w.heap.size + 1 + 1; omega) _).setCell (p := ⟨w.heap.size + 1 + 1, 1, none⟩) (by show w.heap.size ≤ w.heap.size + 1 + 1; omega) _⟩
   ·have E : Hid (Sp.ivDivide ⟨a, b⟩ ⟨c, d⟩ = some (Sp.hullL (quos a b zs))) := by unfold Hid; rw [EQ.out, if_neg hne]
    have hqne : quos a b zs ≠ [] := by
     intro e
     have h1 := quos_len a b zs
     rw [e] at h1
     have h2 : zs.length = 0 := by simp at h1; omega
     exact hne (List.eq_nil_of_length_eq_zero h2)
    obtain ⟨g, cc, hv, hlo, hg, hcell⟩ := hrow.cell hqne
    injection hv with e1 e2 e3
    subst e1
    subst e3
    have hpos : 0 < (quos a b zs).length := List.length_pos_iff.2 hqne
    have HH : Hid (Calls _ _ _ _ _) := iv_hull g 0 cq (quos a b zs) wr hg hpos (by omega) (fun i hi => by
     rw [Nat.zero_add]
     refine hcell i _ ?_
     rw [List.getD_eq_getElem?_getD, List.getElem?_eq_getElem hi]
     rfl)
    generalize Sp.hullL (quos a b zs) = hvv at *
    generalize (quos a b zs).length = m at *
    have hm0 : ¬ ((m : Int) = 0) := by omega
    have hm1 : ((m : Int) == 0) = false := by simpa using hm0
    clear mq hrow hz3 hq hcell
    go_wp2_with fail
    refine HH.out.mono ?_
    rintro e w4 ⟨rfl, b4⟩
    have hz4 : w4.heap[w.heap.size + 1 + 1]? = _ := (b4.block _ (heap_lt HZ3.out)).trans HZ3.out
    obtain ⟨m0, m1, mf0, mf1, mq⟩ := res2 hz4
    have MQ : Hid (_ ∧ _) := mq (.int .i16 hvv.a) (.int .i16 hvv.b)
    have B4 : Hid (Below w.heap.size w w4) := B3.out.trans (b4.mono B3.out.size)
    clear mq b4 hz4
    go_wp2_with fail
    exact bodyPost_ret (v := .tuple #[.agg #[.int .i16 hvv.a, .int .i16 hvv.b], .bool true]) (by simp [results, Tryz.results337, go_sem, MQ.out.1, MQ.out.2]) rfl ⟨opt_some E.out, (B4.out.setCell (p := ⟨w.heap.size + 1 + 1, 0, none⟩) (by show w.heap.size ≤ w.heap.size + 1 + 1; omega) _).setCell (p := ⟨w.heap.size + 1 + 1, 1, none⟩) (by show w.heap.size ≤ w.heap.size + 1 + 1; omega) _⟩
end Go.Proofs.YtiopfihjmkfdmaaGreatDoor
namespace Go.Proofs.YtiopfihjmkfdmaaGreatDoor
open Go.RowKit
set_option maxRecDepth 100000
set_option maxHeartbeats 1000000
theorem hull_two {a b : Int} (h : a ≤ b) : Sp.hullL [a, b] = Sp.hull2 a b := by
 unfold Sp.hullL Sp.minL Sp.maxL
 simp only [List.foldl_cons, List.foldl_nil]
 rw [Int.min_eq_left h, Int.max_eq_right h]
theorem hull_new (zs : List Int) (cap : Nat) (w : World) (t : TypeId) (hn : 0 < zs.length) (hbig : zs.length ≤ 1000000) :
  Calls Tryz.prog 335 #[.slice (some ⟨w.heap.size, 0, none⟩) zs.length cap] (w.alloc (.cells (zs.map (fun z => Value.int .i64 z)).toArray t)) fun e w' => e = .returned (.agg #[.int .i16 (Sp.hullL zs).a, .int .i16 (Sp.hullL zs).b]) ∧ Below w.heap.size w w' := by
 refine (iv_hull w.heap.size 0 cap zs _ (by simp) hn hbig (fun j hj => ?_)).mono ?_
 ·refine cell_of (heap_alloc_new _ _) _ ?_
  simp [hj]
 ·rintro e w' ⟨rfl, b⟩
  exact ⟨rfl, (below_alloc1 w _).trans (b.mono (by simp))⟩
theorem hull_new2 (x y : Int) (w : World) (t : TypeId) :
  Calls Tryz.prog 335 #[.slice (some ⟨w.heap.size, 0, none⟩) 2 2] (w.alloc (.cells #[.int .i64 x, .int .i64 y] t)) fun e w' => e = .returned (.agg #[.int .i16 (Sp.hullL [x, y]).a, .int .i16 (Sp.hullL [x, y]).b]) ∧ Below w.heap.size w w' := hull_new [x, y] 2 w t (by simp) (by simp)
theorem hull_new4 (x y z u : Int) (w : World) (t : TypeId) :
  Calls Tryz.prog 335 #[.slice (some ⟨w.heap.size, 0, none⟩) 4 4] (w.alloc (.cells #[.int .i64 x, .int .i64 y, .int .i64 z, .int .i64 u] t)) fun e w' => e = .returned (.agg #[.int .i16 (Sp.hullL [x, y, z, u]).a, .int .i16 (Sp.hullL [x, y, z, u]).b]) ∧ Below w.heap.size w w' := hull_new [x, y, z, u] 4 w t (by simp) (by simp)
theorem iv_negate (dv : Value) (a b : Int) (w : World) (h1 : -32768 ≤ a) (h2 : a ≤ b) (h3 : b ≤ 32767) :
  Calls Tryz.prog 323 #[.agg #[dv], .agg #[.int .i16 a, .int .i16 b]] w fun e w' => e = .returned (.agg #[.int .i16 (Sp.hull2 (-b) (-a)).a, .int .i16 (Sp.hull2 (-b) (-a)).b]) ∧ Below w.heap.size w w' := by
 rw [← hull_two (show -b ≤ -a by omega)]
 have HH : Hid (∀ W : World, Calls Tryz.prog 335 #[.slice (some ⟨W.heap.size, 0, none⟩) 2 2] (W.alloc (.cells #[.int .i64 (-b), .int .i64 (-a)] 3)) fun e w' => e = .returned (.agg #[.int .i16 (Sp.hullL [-b, -a]).a, .int .i16 (Sp.hullL [-b, -a]).b]) ∧ Below W.heap.size W w') := fun W => hull_new2 (-b) (-a) W 3
 generalize Sp.hullL [-b, -a] = hv at *
 go_enter Tryz.func323, Tryz.ntmps323
 go_wp2_with fail
 refine (iv_ends a b _ h1 (by omega) (by omega) h3).mono ?_
 rintro e w1 ⟨rfl, b1⟩
 obtain ⟨_, _, hz, bw⟩ := laid3b b1
 have HZ : Hid (_ = _) := hz
 have BW : Hid (_ ) := bw
 clear b1 hz bw
 go_wp2_with fail
 refine (HH.out w1).mono ?_
 rintro e w2 ⟨rfl, b2⟩
 have hz2 : w2.heap[w.heap.size + 1 + 1]? = _ := (b2.block _ (heap_lt HZ.out)).trans HZ.out
 obtain ⟨m0, m1, mf0, mf1, mq⟩ := res2 hz2
 have MQ : Hid (_ ∧ _) := mq (.int .i16 hv.a) (.int .i16 hv.b)
 have B2 : Hid (Below w.heap.size w w2) := BW.out.trans (b2.mono BW.out.size)
 clear mq b2 hz2
 go_wp2_with fail
 exact bodyPost_ret (v := .agg #[.int .i16 hv.a, .int .i16 hv.b]) (by simp [results, Tryz.results323, go_sem, MQ.out.1, MQ.out.2]) rfl ⟨rfl, (B2.out.setCell (p := ⟨w.heap.size + 1 + 1, 0, none⟩) (by show w.heap.size ≤ w.heap.size + 1 + 1; omega) _).setCell (p := ⟨w.heap.size + 1 + 1, 1, none⟩) (by show w.heap.size ≤ w.heap.size + 1 + 1; omega) _⟩
theorem iv_remainder (a b c d : Int) (w : World) (h1 : -32768 ≤ a) (h2 : a ≤ b) (h3 : b ≤ 32767) (h4 : -32768 ≤ c) (h5 : c ≤ d) (h6 : d ≤ 32767) :
  Calls Tryz.prog 338 #[.agg #[.int .i16 a, .int .i16 b], .agg #[.int .i16 c, .int .i16 d]] w fun e w' => e = .returned (optV (Sp.ivRest ⟨a, b⟩ ⟨c, d⟩)) ∧ Below w.heap.size w w' := by
 go_enter Tryz.func338, Tryz.ntmps338
 go_wp2_with fail
 refine (iv_ends a b _ h1 (by omega) (by omega) h3).mono ?_
 rintro e w1 ⟨rfl, b1⟩
 obtain ⟨hx, hy, hz, bw⟩ := laid3b b1
 obtain ⟨y0, y1, yf0, yf1, yq⟩ := res2 hy
 have HZ : Hid (_ = _) := hz
 have BW : Hid (_ ) := bw
 clear b1 hz bw hy hx yf0 yf1 yq
 go_wp2_with fail
 refine (iv_ends c d _ h4 (by omega) (by omega) h6).mono ?_
 rintro e w2 ⟨rfl, b2⟩
 have hz2 : w2.heap[w.heap.size + 1 + 1]? = _ := (b2.block _ (heap_lt HZ.out)).trans HZ.out
 have HZ2 : Hid (_ = _) := hz2
 have B2 : Hid (Below w.heap.size w w2) := BW.out.trans (b2.mono BW.out.size)
 obtain ⟨m0, m1, mf0, mf1, mq⟩ := res2 hz2
 have MQ0 : Hid (_ ∧ _) := mq (.int .i16 0) (.int .i16 0)
 clear b2 y0 y1 mq hz2
 by_cases hneg : max (-c) d - 1 < 0
 ·have E : Hid (Sp.ivRest ⟨a, b⟩ ⟨c, d⟩ = none) := by unfold Hid Sp.ivRest; rw [if_pos hneg]
  go_wp2_with fail
  exact bodyPost_ret (v := .tuple #[.agg #[.int .i16 0, .int .i16 0], .bool false]) (by simp [results, Tryz.results338, go_sem, MQ0.out.1, MQ0.out.2]) rfl ⟨opt_none E.out, (B2.out.setCell (p := ⟨w.heap.size + 1 + 1, 0, none⟩) (by show w.heap.size ≤ w.heap.size + 1 + 1; omega) _).setCell (p := ⟨w.heap.size + 1 + 1, 1, none⟩) (by show w.heap.size ≤ w.heap.size + 1 + 1; omega) _⟩
 ·have E : Hid (Sp.ivRest ⟨a, b⟩ ⟨c, d⟩ = some (Sp.hullL [(min (max a (-(max (-c) d - 1))) 0), (max (min b (max (-c) d - 1)) 0)])) := by
   unfold Hid Sp.ivRest; rw [if_neg hneg, hull_two (by omega)]
  have hh := hull_new2 (min (max a (-(max (-c) d - 1))) 0) (max (min b (max (-c) d - 1)) 0) w2 3
  generalize hvq : Sp.hullL [(min (max a (-(max (-c) d - 1))) 0), (max (min b (max (-c) d - 1)) 0)] = hv at *
  have EE : Hid (Sp.ivRest ⟨a, b⟩ ⟨c, d⟩ = some hv) := E
  have HH : Hid (Calls _ _ _ _ _) := hh
  clear hh hvq E MQ0
  go_wp2_with fail
  refine HH.out.mono ?_
  rintro e w3 ⟨rfl, b3⟩
  have hz3 : w3.heap[w.heap.size + 1 + 1]? = _ := (b3.block _ (heap_lt HZ2.out)).trans HZ2.out
  obtain ⟨m0, m1, mf0, mf1, mq⟩ := res2 hz3
  have MQ : Hid (_ ∧ _) := mq (.int .i16 hv.a) (.int .i16 hv.b)
  have B3 : Hid (Below w.heap.size w w3) := B2.out.trans (b3.mono B2.out.size)
  clear mq b3 hz3
  go_wp2_with fail
  exact bodyPost_ret (v := .tuple #[.agg #[.int .i16 hv.a, .int .i16 hv.b], .bool true]) (by simp [results, Tryz.results338, go_sem, MQ.out.1, MQ.out.2]) rfl ⟨opt_some EE.out, (B3.out.setCell (p := ⟨w.heap.size + 1 + 1, 0, none⟩) (by show w.heap.size ≤ w.heap.size + 1 + 1; omega) _).setCell (p := ⟨w.heap.size + 1 + 1, 1, none⟩) (by show w.heap.size ≤ w.heap.size + 1 + 1; omega) _⟩
end Go.Proofs.YtiopfihjmkfdmaaGreatDoor
