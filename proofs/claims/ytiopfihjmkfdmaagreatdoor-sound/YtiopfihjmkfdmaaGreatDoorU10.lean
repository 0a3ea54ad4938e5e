import Derived.Test.YtiopfihjmkfdmaaGreatDoorU9
import Derived.Deep.RegionHeld3
import Derived.Handy
namespace Go.Proofs.YtiopfihjmkfdmaaGreatDoor
open Go.RowKit
set_option maxRecDepth 100000
set_option maxHeartbeats 1000000
def optV : Option Sp.Iv → Value
 | some x => .tuple #[.agg #[.int .i16 x.a, .int .i16 x.b], .bool true]
 | none => .tuple #[.agg #[.int .i16 0, .int .i16 0], .bool false]
theorem iv_eq {a b a' b' : Int} (h1 : a = a') (h2 : b = b') : Ending.returned (.agg #[.int .i16 a, .int .i16 b]) = .returned (.agg #[.int .i16 a', .int .i16 b']) := by rw [h1, h2]
theorem opt_some {a b : Int} {r : Option Sp.Iv} (h : r = some ⟨a, b⟩) : Ending.returned (.tuple #[.agg #[.int .i16 a, .int .i16 b], .bool true]) = .returned (optV r) := by rw [h]; rfl
theorem opt_none {r : Option Sp.Iv} (h : r = none) : Ending.returned (.tuple #[.agg #[.int .i16 0, .int .i16 0], .bool false]) = .returned (optV r) := by rw [h]; rfl
theorem iv_number (d : Value) (n : Int) (w : World) :
  Calls Tryz.prog 324 #[.agg #[d], .int .i16 n] w fun e w' => e = .returned (.agg #[.int .i16 n, .int .i16 n]) ∧ Below w.heap.size w w' := by
 go_enter Tryz.func324, Tryz.ntmps324
 go_wp2_with fail
 go_returns
 exact ⟨rfl, by go_grown⟩
theorem iv_whole (d : Value) (w : World) :
  Calls Tryz.prog 326 #[.agg #[d]] w fun e w' => e = .returned (.agg #[.int .i16 (-32768), .int .i16 32767]) ∧ Below w.heap.size w w' := by
 go_enter Tryz.func326, Tryz.ntmps326
 go_wp2_with fail
 go_returns
 exact ⟨rfl, by go_grown⟩
theorem iv_nought (d : Value) (a b : Int) (w : World) :
  Calls Tryz.prog 319 #[.agg #[d], .agg #[.int .i16 a, .int .i16 b]] w fun e w' => e = .returned (.bool (decide (a ≤ 0) && decide (0 ≤ b))) ∧ Below w.heap.size w w' := by
 by_cases h : a ≤ 0
 ·go_enter Tryz.func319, Tryz.ntmps319
  go_wp2_with fail
  go_returns
  exact ⟨ret_bool (by simp [h]), by go_grown⟩
 ·have h0 : decide (a ≤ 0) = false := by simpa using h
  go_enter Tryz.func319, Tryz.ntmps319
  go_wp2_with fail
  go_returns
  exact ⟨rfl, by go_grown⟩
theorem iv_join (d : Value) (a b a' b' : Int) (w : World) :
  Calls Tryz.prog 320 #[.agg #[d], .agg #[.int .i16 a, .int .i16 b], .agg #[.int .i16 a', .int .i16 b']] w fun e w' => e = .returned (.agg #[.int .i16 (min a a'), .int .i16 (max b b')]) ∧ Below w.heap.size w w' := by
 go_enter Tryz.func320, Tryz.ntmps320
 go_wp2_with fail
 all_goals
  go_returns
  exact ⟨iv_eq (by omega) (by omega), by go_grown⟩
theorem iv_narrow (d : Value) (a b a' b' : Int) (w : World) :
  Calls Tryz.prog 322 #[.agg #[d], .agg #[.int .i16 a, .int .i16 b], .agg #[.int .i16 a', .int .i16 b']] w fun e w' => e = .returned (.agg #[.int .i16 (if a = -32768 then a' else a), .int .i16 (if b = 32767 then b' else b)]) ∧ Below w.heap.size w w' := by
 by_cases ha : a = -32768
 all_goals
  by_cases hb : b = 32767
  all_goals
   go_enter Tryz.func322, Tryz.ntmps322
   go_wp2_with fail
   go_returns
   exact ⟨iv_eq (by omega) (by omega), by go_grown⟩
theorem iv_tell (d : Value) (a b : Int) (w : World) (h1 : -32768 ≤ a) (h2 : a ≤ 32767) (h3 : -32768 ≤ b) (h4 : b ≤ 32767) :
  Calls Tryz.prog 325 #[.agg #[d], .agg #[.int .i16 a, .int .i16 b]] w fun e w' => e = .returned (.agg #[.int .i64 a, .int .i64 b]) ∧ Below w.heap.size w w' := by
 go_enter Tryz.func325, Tryz.ntmps325
 go_wp2_with fail
 go_returns
 exact ⟨rfl, by go_grown⟩
theorem iv_ends0 (a b : Int) (w : World) :
  Calls Tryz.prog 334 #[.agg #[.int .i16 a, .int .i16 b]] w fun e w' => e = .returned (.tuple #[.int .i64 (IntKind.i64.wrap a), .int .i64 (IntKind.i64.wrap b)]) ∧ Below w.heap.size w w' := by
 go_enter Tryz.func334, Tryz.ntmps334
 go_wp2_with fail
 go_region_with (fail)
 all_goals
  go_wp2_with fail
  go_returns
  exact ⟨rfl, by go_grown⟩
theorem wrap_i64_id {a : Int} (h1 : -32768 ≤ a) (h2 : a ≤ 32767) : IntKind.i64.wrap a = a := by rw [IntWalk.i64_in] <;> omega
theorem iv_ends (a b : Int) (w : World) (h1 : -32768 ≤ a) (h2 : a ≤ 32767) (h3 : -32768 ≤ b) (h4 : b ≤ 32767) :
  Calls Tryz.prog 334 #[.agg #[.int .i16 a, .int .i16 b]] w fun e w' => e = .returned (.tuple #[.int .i64 a, .int .i64 b]) ∧ Below w.heap.size w w' := by
 have h := iv_ends0 a b w
 rwa [wrap_i64_id h1 h2, wrap_i64_id h3 h4] at h
theorem iv_alone (a b : Int) (w : World) :
  Calls Tryz.prog 317 #[.agg #[.int .i16 a, .int .i16 b]] w fun e w' => e = .returned (.bool (decide (a = b))) ∧ Below w.heap.size w w' := by
 go_enter Tryz.func317, Tryz.ntmps317
 go_wp2_with fail
 go_returns
 exact ⟨ret_bool (by rw [Bool.eq_iff_iff]; simp), by go_grown⟩
theorem meet_some {a b c d p q : Int} (h : p ≤ q) (h1 : p = max a c) (h2 : q = min b d) : Sp.ivMeet ⟨a, b⟩ ⟨c, d⟩ = some ⟨p, q⟩ := by
 subst h1; subst h2
 unfold Sp.ivMeet
 rw [if_pos h]
theorem meet_none {a b c d : Int} (h : min b d < max a c) : Sp.ivMeet ⟨a, b⟩ ⟨c, d⟩ = none := by
 unfold Sp.ivMeet
 rw [if_neg (by simp only; omega)]
theorem iv_meet (a b c d : Int) (w : World) :
  Calls Tryz.prog 331 #[.agg #[.int .i16 a, .int .i16 b], .agg #[.int .i16 c, .int .i16 d]] w fun e w' => e = .returned (optV (Sp.ivMeet ⟨a, b⟩ ⟨c, d⟩)) ∧ Below w.heap.size w w' := by
 go_enter Tryz.func331, Tryz.ntmps331
 go_wp2_with fail
 all_goals go_returns
 all_goals first
  | exact ⟨opt_none (meet_none (by omega)), by go_grown⟩
  | exact ⟨opt_some (meet_some (by omega) (by omega) (by omega)), by go_grown⟩
theorem res2 {w : World} {B : Nat} {x y : Value} {t : TypeId} (h : w.heap[B]? = some (.cells #[x, y] t)) : w.cell? ⟨B, 0, none⟩ = some x ∧ w.cell? ⟨B, 1, none⟩ = some y ∧ w.frozen? ⟨B, 0, none⟩ = false ∧ w.frozen? ⟨B, 1, none⟩ = false ∧
  ∀ u v, ((w.setCell ⟨B, 0, none⟩ u).setCell ⟨B, 1, none⟩ v).cell? ⟨B, 0, none⟩ = some u ∧ ((w.setCell ⟨B, 0, none⟩ u).setCell ⟨B, 1, none⟩ v).cell? ⟨B, 1, none⟩ = some v := by
 refine ⟨cell_of h 0 rfl, cell_of h 1 rfl, frozen_of h 0, frozen_of h 1, fun u v => ?_⟩
 have h2 := heap_setCell_at (heap_setCell_at h 0 u) 1 v
 exact ⟨cell_of h2 0 rfl, cell_of h2 1 rfl⟩
theorem iv_below (a b n : Int) (w : World) (h1 : -32768 ≤ n) (h2 : n ≤ 32767) :
  Calls Tryz.prog 330 #[.agg #[.int .i16 a, .int .i16 b], .int .i16 n] w fun e w' => e = .returned (optV (Sp.ivBelow ⟨a, b⟩ n)) ∧ Below w.heap.size w w' := by
 by_cases hn : n = -32768
 ·have e : Hid (Sp.ivBelow ⟨a, b⟩ n = none) := by unfold Hid Sp.ivBelow; rw [if_pos hn]
  go_enter Tryz.func330, Tryz.ntmps330
  go_wp2_with fail
  go_returns
  exact ⟨opt_none e.out, by go_grown⟩
 ·have e : Hid (Sp.ivBelow ⟨a, b⟩ n = Sp.ivMeet ⟨a, b⟩ ⟨-32768, n - 1⟩) := by unfold Hid Sp.ivBelow; rw [if_neg hn]
  have e1 : IntKind.i16.wrap (n - 1) = n - 1 := by rw [IntWalk.i16_in] <;> omega
  go_enter Tryz.func330, Tryz.ntmps330
  go_wp2_with fail
  refine (iv_meet a b (-32768) (n - 1) _).mono ?_
  rintro e w1 ⟨rfl, b1⟩
  have hk := b1.block (w.heap.size + 1) (by simp)
  have hn1 : w1.heap[w.heap.size + 1]? = some (.cells #[.int .i16 0, .int .i16 0] 131) := by
   rw [hk]
   have := heap_alloc_new (w.alloc (.cells #[.int .i16 a, .int .i16 b] 131)) (.cells #[.int .i16 0, .int .i16 0] 131)
   simpa using this
  have B : Hid (Below w.heap.size w w1) := (by go_grown : Below w.heap.size w ((w.alloc (.cells #[.int .i16 a, .int .i16 b] 131)).alloc (.cells #[.int .i16 0, .int .i16 0] 131))).trans (b1.mono (by simp; omega))
  obtain ⟨m0, m1, mf0, mf1, mq⟩ := res2 hn1
  clear hk b1 hn1
  cases hr : Sp.ivMeet ⟨a, b⟩ ⟨-32768, n - 1⟩ with
  | none =>
   have E : Hid (Sp.ivBelow ⟨a, b⟩ n = none) := e.out.trans hr
   have MQ : Hid (_ ∧ _) := mq (.int .i16 0) (.int .i16 0)
   clear mq hr e
   simp only [optV]
   go_wp2_with fail
   exact bodyPost_ret (v := .tuple #[.agg #[.int .i16 0, .int .i16 0], .bool false]) (by simp [results, Tryz.results330, go_sem, MQ.out.1, MQ.out.2]) rfl ⟨opt_none E.out, (B.out.setCell (p := ⟨w.heap.size + 1, 0, none⟩) (Nat.le_succ _) _).setCell (p := ⟨w.heap.size + 1, 1, none⟩) (Nat.le_succ _) _⟩
  | some v =>
   have E : Hid (Sp.ivBelow ⟨a, b⟩ n = some v) := e.out.trans hr
   have MQ : Hid (_ ∧ _) := mq (.int .i16 v.a) (.int .i16 v.b)
   clear mq hr e
   simp only [optV]
   go_wp2_with fail
   exact bodyPost_ret (v := .tuple #[.agg #[.int .i16 v.a, .int .i16 v.b], .bool true]) (by simp [results, Tryz.results330, go_sem, MQ.out.1, MQ.out.2]) rfl ⟨opt_some E.out, (B.out.setCell (p := ⟨w.heap.size + 1, 0, none⟩) (Nat.le_succ _) _).setCell (p := ⟨w.heap.size + 1, 1, none⟩) (Nat.le_succ _) _⟩
end Go.Proofs.YtiopfihjmkfdmaaGreatDoor
namespace Go.Proofs.YtiopfihjmkfdmaaGreatDoor
open Go.RowKit
set_option maxRecDepth 100000
set_option maxHeartbeats 1000000
theorem iv_above (a b n : Int) (w : World) (h1 : -32768 ≤ n) (h2 : n ≤ 32767) :
  Calls Tryz.prog 333 #[.agg #[.int .i16 a, .int .i16 b], .int .i16 n] w fun e w' => e = .returned (optV (Sp.ivAbove ⟨a, b⟩ n)) ∧ Below w.heap.size w w' := by
 by_cases hn : n = 32767
 ·have e : Hid (Sp.ivAbove ⟨a, b⟩ n = none) := by unfold Hid Sp.ivAbove; rw [if_pos hn]
  go_enter Tryz.func333, Tryz.ntmps333
  go_wp2_with fail
  go_returns
  exact ⟨opt_none e.out, by go_grown⟩
 ·have e : Hid (Sp.ivAbove ⟨a, b⟩ n = Sp.ivMeet ⟨a, b⟩ ⟨n + 1, 32767⟩) := by unfold Hid Sp.ivAbove; rw [if_neg hn]
  go_enter Tryz.func333, Tryz.ntmps333
  go_wp2_with fail
  refine (iv_meet a b (n + 1) 32767 _).mono ?_
  rintro e w1 ⟨rfl, b1⟩
  have hk := b1.block (w.heap.size + 1) (by simp)
  have hn1 : w1.heap[w.heap.size + 1]? = some (.cells #[.int .i16 0, .int .i16 0] 131) := by
   rw [hk]
   have := heap_alloc_new (w.alloc (.cells #[.int .i16 a, .int .i16 b] 131)) (.cells #[.int .i16 0, .int .i16 0] 131)
   simpa using this
  have B : Hid (Below w.heap.size w w1) := (by go_grown : Below w.heap.size w ((w.alloc (.cells #[.int .i16 a, .int .i16 b] 131)).alloc (.cells #[.int .i16 0, .int .i16 0] 131))).trans (b1.mono (by simp; omega))
  obtain ⟨m0, m1, mf0, mf1, mq⟩ := res2 hn1
  clear hk b1 hn1
  cases hr : Sp.ivMeet ⟨a, b⟩ ⟨n + 1, 32767⟩ with
  | none =>
   have E : Hid (Sp.ivAbove ⟨a, b⟩ n = none) := e.out.trans hr
   have MQ : Hid (_ ∧ _) := mq (.int .i16 0) (.int .i16 0)
   clear mq hr e
   simp only [optV]
   go_wp2_with fail
   exact bodyPost_ret (v := .tuple #[.agg #[.int .i16 0, .int .i16 0], .bool false]) (by simp [results, Tryz.results333, go_sem, MQ.out.1, MQ.out.2]) rfl ⟨opt_none E.out, (B.out.setCell (p := ⟨w.heap.size + 1, 0, none⟩) (Nat.le_succ _) _).setCell (p := ⟨w.heap.size + 1, 1, none⟩) (Nat.le_succ _) _⟩
  | some v =>
   have E : Hid (Sp.ivAbove ⟨a, b⟩ n = some v) := e.out.trans hr
   have MQ : Hid (_ ∧ _) := mq (.int .i16 v.a) (.int .i16 v.b)
   clear mq hr e
   simp only [optV]
   go_wp2_with fail
   exact bodyPost_ret (v := .tuple #[.agg #[.int .i16 v.a, .int .i16 v.b], .bool true]) (by simp [results, Tryz.results333, go_sem, MQ.out.1, MQ.out.2]) rfl ⟨opt_some E.out, (B.out.setCell (p := ⟨w.heap.size + 1, 0, none⟩) (Nat.le_succ _) _).setCell (p := ⟨w.heap.size + 1, 1, none⟩) (Nat.le_succ _) _⟩
theorem laid2b {w w1 : World} {o1 o2 : Obj} (b : Below ((w.alloc o1).alloc o2).heap.size ((w.alloc o1).alloc o2) w1) : w1.heap[w.heap.size]? = some o1 ∧ w1.heap[w.heap.size + 1]? = some o2 ∧ Below w.heap.size w w1 := by
 refine ⟨?_, ?_, ?_⟩
 ·rw [b.block _ (by simp; omega)]; exact heap_alloc_old (heap_alloc_new _ _)
 ·rw [b.block _ (by simp)]
  have := heap_alloc_new (w.alloc o1) o2
  simpa using this
 ·exact (((Below.refl _ _).alloc (Nat.le_refl _) _).alloc (by simp) _).trans (b.mono (by simp; omega))
theorem below_drop {w w1 : World} {o : Obj} (b : Below (w.alloc o).heap.size (w.alloc o) w1) : Below w.heap.size w w1 ∧ w1.heap[w.heap.size]? = some o := by
 refine ⟨((Below.refl _ _).alloc (Nat.le_refl _) _).trans (b.mono (by simp)), ?_⟩
 rw [b.block _ (by simp)]
 exact heap_alloc_new _ _
theorem laid3b {w w1 : World} {o1 o2 o3 : Obj} (b : Below (((w.alloc o1).alloc o2).alloc o3).heap.size (((w.alloc o1).alloc o2).alloc o3) w1) : w1.heap[w.heap.size]? = some o1 ∧ w1.heap[w.heap.size + 1]? = some o2 ∧ w1.heap[w.heap.size + 1 + 1]? = some o3 ∧ Below w.heap.size w w1 := by
 obtain ⟨b', h3⟩ := below_drop b
 obtain ⟨h1, h2, hb⟩ := laid2b b'
 exact ⟨h1, h2, by simpa using h3, hb⟩
theorem laid4b {w w1 : World} {o1 o2 o3 o4 : Obj} (b : Below ((((w.alloc o1).alloc o2).alloc o3).alloc o4).heap.size ((((w.alloc o1).alloc o2).alloc o3).alloc o4) w1) : w1.heap[w.heap.size]? = some o1 ∧ w1.heap[w.heap.size + 1]? = some o2 ∧ w1.heap[w.heap.size + 1 + 1]? = some o3 ∧ w1.heap[w.heap.size + 1 + 1 + 1]? = some o4 ∧ Below w.heap.size w w1 := by
 obtain ⟨b', h4⟩ := below_drop b
 obtain ⟨h1, h2, h3, hb⟩ := laid3b b'
 exact ⟨h1, h2, h3, by simpa using h4, hb⟩
theorem iv_beside (a b c d : Int) (w : World) (h1 : -32768 ≤ c) (h2 : c ≤ 32767) (h3 : -32768 ≤ d) (h4 : d ≤ 32767) :
  Calls Tryz.prog 332 #[.agg #[.int .i16 a, .int .i16 b], .agg #[.int .i16 c, .int .i16 d]] w fun e w' => e = .returned (optV (Sp.ivBeside ⟨a, b⟩ ⟨c, d⟩)) ∧ Below w.heap.size w w' := by
 go_enter Tryz.func332, Tryz.ntmps332
 go_wp2_with fail
 refine (iv_alone c d _).mono ?_
 rintro e w1 ⟨rfl, b1⟩
 obtain ⟨hx, hy, hz, bw⟩ := laid3b b1
 obtain ⟨x0, x1, xf0, xf1, _⟩ := res2 hx
 obtain ⟨y0, y1, yf0, yf1, _⟩ := res2 hy
 obtain ⟨m0, m1, mf0, mf1, mq⟩ := res2 hz
 have BW : Hid (Below w.heap.size w w1) := bw
 have HZ : Hid (_ = _) := hz
 clear b1 bw hx hy hz
 by_cases hcd : c = d
 ·subst hcd
  by_cases hac : a = c
  ·subst hac
   have E : Hid (Sp.ivBeside ⟨a, b⟩ ⟨a, a⟩ = Sp.ivAbove ⟨a, b⟩ a) := by unfold Hid Sp.ivBeside; simp
   clear mq
   simp only [decide_true]
   go_wp2_with fail
   refine (iv_above a b a w1 h1 h2).mono ?_
   rintro e w2 ⟨rfl, b2⟩
   have hz2 : w2.heap[w.heap.size + 1 + 1]? = _ := (b2.block _ (heap_lt HZ.out)).trans HZ.out
   obtain ⟨m0, m1, mf0, mf1, mq⟩ := res2 hz2
   have B : Hid (Below w.heap.size w w2) := BW.out.trans (b2.mono BW.out.size)
   clear x0 x1 xf0 xf1 y0 y1 yf0 yf1 b2 hz2
   cases hr : Sp.ivAbove ⟨a, b⟩ a with
   | none =>
    have EE : Hid (_ = none) := E.out.trans hr
    have MQ : Hid (_ ∧ _) := mq (.int .i16 0) (.int .i16 0)
    clear mq hr E
    simp only [optV]
    go_wp2_with fail
    exact bodyPost_ret (v := .tuple #[.agg #[.int .i16 0, .int .i16 0], .bool false]) (by simp [results, Tryz.results332, go_sem, MQ.out.1, MQ.out.2]) rfl ⟨opt_none EE.out, (B.out.setCell (p := ⟨w.heap.size + 1 + 1, 0, none⟩) (by show w.heap.size ≤ w.heap.size + 1 + 1; omega) _).setCell (p := ⟨w.heap.size + 1 + 1, 1, none⟩) (by show w.heap.size ≤ w.heap.size + 1 + 1; omega) _⟩
   | some v =>
    have EE : Hid (_ = some v) := E.out.trans hr
    have MQ : Hid (_ ∧ _) := mq (.int .i16 v.a) (.int .i16 v.b)
    clear mq hr E
    simp only [optV]
    go_wp2_with fail
    exact bodyPost_ret (v := .tuple #[.agg #[.int .i16 v.a, .int .i16 v.b], .bool true]) (by simp [results, Tryz.results332, go_sem, MQ.out.1, MQ.out.2]) rfl ⟨opt_some EE.out, (B.out.setCell (p := ⟨w.heap.size + 1 + 1, 0, none⟩) (by show w.heap.size ≤ w.heap.size + 1 + 1; omega) _).setCell (p := ⟨w.heap.size + 1 + 1, 1, none⟩) (by show w.heap.size ≤ w.heap.size + 1 + 1; omega) _⟩
  ·by_cases hbc : b = c
   ·subst hbc
    have E : Hid (Sp.ivBeside ⟨a, b⟩ ⟨b, b⟩ = Sp.ivBelow ⟨a, b⟩ b) := by unfold Hid Sp.ivBeside; simp [hac]
    have hac' : (a == b) = false := by simpa using hac
    clear mq
    simp only [decide_true]
    go_wp2_with fail
    refine (iv_below a b b w1 h1 h2).mono ?_
    rintro e w2 ⟨rfl, b2⟩
    have hz2 : w2.heap[w.heap.size + 1 + 1]? = _ := (b2.block _ (heap_lt HZ.out)).trans HZ.out
    obtain ⟨m0, m1, mf0, mf1, mq⟩ := res2 hz2
    have B : Hid (Below w.heap.size w w2) := BW.out.trans (b2.mono BW.out.size)
    clear x0 x1 xf0 xf1 y0 y1 yf0 yf1 b2 hz2
    cases hr : Sp.ivBelow ⟨a, b⟩ b with
    | none =>
     have EE : Hid (_ = none) := E.out.trans hr
     have MQ : Hid (_ ∧ _) := mq (.int .i16 0) (.int .i16 0)
     clear mq hr E
     simp only [optV]
     go_wp2_with fail
     exact bodyPost_ret (v := .tuple #[.agg #[.int .i16 0, .int .i16 0], .bool false]) (by simp [results, Tryz.results332, go_sem, MQ.out.1, MQ.out.2]) rfl ⟨opt_none EE.out, (B.out.setCell (p := ⟨w.heap.size + 1 + 1, 0, none⟩) (by show w.heap.size ≤ w.heap.size + 1 + 1; omega) _).setCell (p := ⟨w.heap.size + 1 + 1, 1, none⟩) (by show w.heap.size ≤ w.heap.size + 1 + 1; omega) _⟩
    | some v =>
     have EE : Hid (_ = some v) := E.out.trans hr
     have MQ : Hid (_ ∧ _) := mq (.int .i16 v.a) (.int .i16 v.b)
     clear mq hr E
     simp only [optV]
     go_wp2_with fail
     exact bodyPost_ret (v := .tuple #[.agg #[.int .i16 v.a, .int .i16 v.b], .bool true]) (by simp [results, Tryz.results332, go_sem, MQ.out.1, MQ.out.2]) rfl ⟨opt_some EE.out, (B.out.setCell (p := ⟨w.heap.size + 1 + 1, 0, none⟩) (by show w.heap.size ≤ w.heap.size + 1 + 1; omega) _).setCell (p := ⟨w.heap.size + 1 + 1, 1, none⟩) (by show w.heap.size ≤ w.heap.size + 1 + 1; omega) _⟩
   ·have E : Hid (Sp.ivBeside ⟨a, b⟩ ⟨c, c⟩ = some ⟨a, b⟩) := by unfold Hid Sp.ivBeside; simp [hac, hbc]
    have hac' : (a == c) = false := by simpa using hac
    have hbc' : (b == c) = false := by simpa using hbc
    have MQ : Hid (_ ∧ _) := mq (.int .i16 a) (.int .i16 b)
    clear mq
    simp only [decide_true]
    go_wp2_with fail
    exact bodyPost_ret (v := .tuple #[.agg #[.int .i16 a, .int .i16 b], .bool true]) (by simp [results, Tryz.results332, go_sem, MQ.out.1, MQ.out.2]) rfl ⟨opt_some E.out, (BW.out.setCell (p := ⟨w.heap.size + 1 + 1, 0, none⟩) (by show w.heap.size ≤ w.heap.size + 1 + 1; omega) _).setCell (p := ⟨w.heap.size + 1 + 1, 1, none⟩) (by show w.heap.size ≤ w.heap.size + 1 + 1; omega) _⟩
 ·have E : Hid (Sp.ivBeside ⟨a, b⟩ ⟨c, d⟩ = some ⟨a, b⟩) := by unfold Hid Sp.ivBeside; simp [hcd]
  have MQ : Hid (_ ∧ _) := mq (.int .i16 a) (.int .i16 b)
  have hcd' : decide (c = d) = false := by simpa using hcd
  clear mq
  rw [hcd']
  go_wp2_with fail
  exact bodyPost_ret (v := .tuple #[.agg #[.int .i16 a, .int .i16 b], .bool true]) (by simp [results, Tryz.results332, go_sem, MQ.out.1, MQ.out.2]) rfl ⟨opt_some E.out, (BW.out.setCell (p := ⟨w.heap.size + 1 + 1, 0, none⟩) (by show w.heap.size ≤ w.heap.size + 1 + 1; omega) _).setCell (p := ⟨w.heap.size + 1 + 1, 1, none⟩) (by show w.heap.size ≤ w.heap.size + 1 + 1; omega) _⟩
end Go.Proofs.YtiopfihjmkfdmaaGreatDoor
namespace Go.Proofs.YtiopfihjmkfdmaaGreatDoor
open Go.RowKit
set_option maxRecDepth 100000
set_option maxHeartbeats 1000000
structure Turns (w : World) : Prop where
 mir : ∀ k, k < 6 → w.cell? ⟨3, k, none⟩ = some (.int .i64 (Sp.mirror k : Nat))
 opp : ∀ k, k < 6 → w.cell? ⟨4, k, none⟩ = some (.int .i64 (Sp.opp k : Nat))
theorem Turns.below {w w' : World} (h : Turns w) {B : Nat} (hb : Below B w w') (hB : 11 ≤ B) : Turns w' :=
 ⟨fun k hk => by rw [hb.cell (p := ⟨3, k, none⟩) (show 3 < B by omega)]; exact h.mir k hk, fun k hk => by rw [hb.cell (p := ⟨4, k, none⟩) (show 4 < B by omega)]; exact h.opp k hk⟩
theorem mirror_calls (k : Nat) (hk : k < 6) (w : World) (h : Turns w) :
  Calls Tryz.prog 221 #[.int .i64 (k : Nat)] w fun e w' => e = .returned (.int .i64 (Sp.mirror k : Nat)) ∧ w' = w := by
 have h := h.mir k hk
 generalize ((Sp.mirror k : Nat) : Int) = t at *
 have hk' : (k : Int) < 6 := by omega
 go_enter Tryz.func221, Tryz.ntmps221
 go_wp2_with fail
 go_ret
 exact ⟨rfl, rfl⟩
theorem opposite_calls (k : Nat) (hk : k < 6) (w : World) (h : Turns w) :
  Calls Tryz.prog 222 #[.int .i64 (k : Nat)] w fun e w' => e = .returned (.int .i64 (Sp.opp k : Nat)) ∧ w' = w := by
 have h := h.opp k hk
 generalize ((Sp.opp k : Nat) : Int) = t at *
 have hk' : (k : Int) < 6 := by omega
 go_enter Tryz.func222, Tryz.ntmps222
 go_wp2_with fail
 go_ret
 exact ⟨rfl, rfl⟩
theorem iv_may0 (dv : Value) (a b c d : Int) (w : World) :
  Calls Tryz.prog 321 #[.agg #[dv], .int .i64 0, .agg #[.int .i16 a, .int .i16 b], .agg #[.int .i16 c, .int .i16 d]] w fun e w' => e = .returned (.bool (Sp.ivMay 0 ⟨a, b⟩ ⟨c, d⟩)) ∧ Below w.heap.size w w' := by
 go_enter Tryz.func321, Tryz.ntmps321
 go_wp2_with fail
 go_returns
 exact ⟨ret_bool rfl, by go_grown⟩
theorem iv_may1 (dv : Value) (a b c d : Int) (w : World) :
  Calls Tryz.prog 321 #[.agg #[dv], .int .i64 1, .agg #[.int .i16 a, .int .i16 b], .agg #[.int .i16 c, .int .i16 d]] w fun e w' => e = .returned (.bool (Sp.ivMay 1 ⟨a, b⟩ ⟨c, d⟩)) ∧ Below w.heap.size w w' := by
 go_enter Tryz.func321, Tryz.ntmps321
 go_wp2_with fail
 go_returns
 exact ⟨ret_bool rfl, by go_grown⟩
theorem iv_may2 (dv : Value) (a b c d : Int) (w : World) :
  Calls Tryz.prog 321 #[.agg #[dv], .int .i64 2, .agg #[.int .i16 a, .int .i16 b], .agg #[.int .i16 c, .int .i16 d]] w fun e w' => e = .returned (.bool (Sp.ivMay 2 ⟨a, b⟩ ⟨c, d⟩)) ∧ Below w.heap.size w w' := by
 have E : Hid (Sp.ivMay 2 ⟨a, b⟩ ⟨c, d⟩ = (Sp.ivMeet ⟨a, b⟩ ⟨c, d⟩).isSome) := rfl
 go_enter Tryz.func321, Tryz.ntmps321
 go_wp2_with fail
 refine (iv_meet a b c d _).mono ?_
 rintro e w1 ⟨rfl, b1⟩
 obtain ⟨_, _, _, bw⟩ := laid3b b1
 have BW : Hid (Below w.heap.size w w1) := bw
 clear b1 bw
 cases hr : Sp.ivMeet ⟨a, b⟩ ⟨c, d⟩ with
 | none =>
  have EE : Hid (Sp.ivMay 2 ⟨a, b⟩ ⟨c, d⟩ = false) := by unfold Hid; rw [E.out, hr]; rfl
  clear hr E
  simp only [optV]
  go_wp2_with fail
  go_returns
  exact ⟨ret_bool EE.out.symm, BW.out.alloc BW.out.size _⟩
 | some v =>
  have EE : Hid (Sp.ivMay 2 ⟨a, b⟩ ⟨c, d⟩ = true) := by unfold Hid; rw [E.out, hr]; rfl
  clear hr E
  simp only [optV]
  go_wp2_with fail
  go_returns
  exact ⟨ret_bool EE.out.symm, BW.out.alloc BW.out.size _⟩
theorem iv_may3 (dv : Value) (a b c d : Int) (w : World) :
  Calls Tryz.prog 321 #[.agg #[dv], .int .i64 3, .agg #[.int .i16 a, .int .i16 b], .agg #[.int .i16 c, .int .i16 d]] w fun e w' => e = .returned (.bool (Sp.ivMay 3 ⟨a, b⟩ ⟨c, d⟩)) ∧ Below w.heap.size w w' := by
 by_cases hac : a = c
 ·subst hac
  by_cases hbd : b = d
  ·subst hbd
   have E : Hid (Sp.ivMay 3 ⟨a, b⟩ ⟨a, b⟩ = !decide (a = b)) := by unfold Hid Sp.ivMay; simp
   go_enter Tryz.func321, Tryz.ntmps321
   go_wp2_with fail
   refine (iv_alone a b _).mono ?_
   rintro e w1 ⟨rfl, b1⟩
   obtain ⟨_, _, _, bw⟩ := laid3b b1
   have BW : Hid (Below w.heap.size w w1) := bw
   clear b1 bw
   go_wp2_with fail
   go_returns
   exact ⟨ret_bool E.out.symm, BW.out⟩
  ·have E : Hid (Sp.ivMay 3 ⟨a, b⟩ ⟨a, d⟩ = true) := by unfold Hid Sp.ivMay; simp [hbd]
   go_enter Tryz.func321, Tryz.ntmps321
   go_wp2_with fail
   go_returns
   exact ⟨ret_bool E.out.symm, by go_grown⟩
 ·have E : Hid (Sp.ivMay 3 ⟨a, b⟩ ⟨c, d⟩ = true) := by unfold Hid Sp.ivMay; simp [hac]
  go_enter Tryz.func321, Tryz.ntmps321
  go_wp2_with fail
  go_returns
  exact ⟨ret_bool E.out.symm, by go_grown⟩
theorem mirror4 (w : World) (h : Turns w) : Calls Tryz.prog 221 #[.int .i64 4] w fun e w' => e = .returned (.int .i64 1) ∧ w' = w := mirror_calls 4 (by omega) w h
theorem mirror5 (w : World) (h : Turns w) : Calls Tryz.prog 221 #[.int .i64 5] w fun e w' => e = .returned (.int .i64 0) ∧ w' = w := mirror_calls 5 (by omega) w h
def IvHeld3 (w : World) (o1 o2 o3 : Obj) (w' : World) : Prop := w'.heap[w.heap.size]? = some o1 ∧ w'.heap[w.heap.size + 1]? = some o2 ∧ w'.heap[w.heap.size + 1 + 1]? = some o3 ∧ Below w.heap.size w w'
theorem held_start (w : World) (o1 o2 o3 : Obj) : IvHeld3 w o1 o2 o3 (((w.alloc o1).alloc o2).alloc o3) := laid3b (Below.refl _ _)
theorem ivHeldBelow {w : World} {o1 o2 o3 : Obj} {w' : World} (h : IvHeld3 w o1 o2 o3 w') : Below w.heap.size w w' := h.2.2.2
theorem IvHeld3.call {w : World} {o1 o2 o3 : Obj} {w' w1 : World} (h : IvHeld3 w o1 o2 o3 w') (b : Below w'.heap.size w' w1) : IvHeld3 w o1 o2 o3 w1 :=
 ⟨(b.block _ (heap_lt h.1)).trans h.1, (b.block _ (heap_lt h.2.1)).trans h.2.1, (b.block _ (heap_lt h.2.2.1)).trans h.2.2.1, h.2.2.2.trans (b.mono h.2.2.2.size)⟩
theorem may_held {w w' : World} {dv : Value} {a b c d : Int} (h : IvHeld3 w (.cells #[dv] 133) (.cells #[.int .i16 a, .int .i16 b] 131) (.cells #[.int .i16 c, .int .i16 d] 131) w') : w'.cell? ⟨w.heap.size, 0, none⟩ = some dv ∧ w'.cell? ⟨w.heap.size + 1, 0, none⟩ = some (.int .i16 a) ∧ w'.cell? ⟨w.heap.size + 1, 1, none⟩ = some (.int .i16 b) ∧ w'.cell? ⟨w.heap.size + 1 + 1, 0, none⟩ = some (.int .i16 c) ∧ w'.cell? ⟨w.heap.size + 1 + 1, 1, none⟩ = some (.int .i16 d) ∧ IvHeld3 w (.cells #[dv] 133) (.cells #[.int .i16 a, .int .i16 b] 131) (.cells #[.int .i16 c, .int .i16 d] 131) w' :=
 ⟨cell_of h.1 0 rfl, cell_of h.2.1 0 rfl, cell_of h.2.1 1 rfl, cell_of h.2.2.1 0 rfl, cell_of h.2.2.1 1 rfl, h⟩
theorem may_start (w : World) (dv : Value) (a b c d : Int) : (fun w' : World => w'.cell? ⟨w.heap.size, 0, none⟩ = some dv ∧ w'.cell? ⟨w.heap.size + 1, 0, none⟩ = some (.int .i16 a) ∧ w'.cell? ⟨w.heap.size + 1, 1, none⟩ = some (.int .i16 b) ∧ w'.cell? ⟨w.heap.size + 1 + 1, 0, none⟩ = some (.int .i16 c) ∧ w'.cell? ⟨w.heap.size + 1 + 1, 1, none⟩ = some (.int .i16 d) ∧ IvHeld3 w (.cells #[dv] 133) (.cells #[.int .i16 a, .int .i16 b] 131) (.cells #[.int .i16 c, .int .i16 d] 131) w') (((w.alloc (.cells #[dv] 133)).alloc (.cells #[.int .i16 a, .int .i16 b] 131)).alloc (.cells #[.int .i16 c, .int .i16 d] 131)).drew :=
 may_held (w' := (((w.alloc (.cells #[dv] 133)).alloc (.cells #[.int .i16 a, .int .i16 b] 131)).alloc (.cells #[.int .i16 c, .int .i16 d] 131)).drew) ((held_start w _ _ _).call (Below.refl _ _).drew)
theorem may_call {w w' w1 : World} {dv : Value} {a b c d : Int} (h : IvHeld3 w (.cells #[dv] 133) (.cells #[.int .i16 a, .int .i16 b] 131) (.cells #[.int .i16 c, .int .i16 d] 131) w') (k : Below w'.heap.size w' w1) : (fun w' : World => w'.cell? ⟨w.heap.size, 0, none⟩ = some dv ∧ w'.cell? ⟨w.heap.size + 1, 0, none⟩ = some (.int .i16 a) ∧ w'.cell? ⟨w.heap.size + 1, 1, none⟩ = some (.int .i16 b) ∧ w'.cell? ⟨w.heap.size + 1 + 1, 0, none⟩ = some (.int .i16 c) ∧ w'.cell? ⟨w.heap.size + 1 + 1, 1, none⟩ = some (.int .i16 d) ∧ IvHeld3 w (.cells #[dv] 133) (.cells #[.int .i16 a, .int .i16 b] 131) (.cells #[.int .i16 c, .int .i16 d] 131) w') w1 := may_held (h.call k)
theorem iv_may4 (dv : Value) (a b c d : Int) (w : World) (hT : Turns w) (hs : 11 ≤ w.heap.size) :
  Calls Tryz.prog 321 #[.agg #[dv], .int .i64 4, .agg #[.int .i16 a, .int .i16 b], .agg #[.int .i16 c, .int .i16 d]] w fun e w' => e = .returned (.bool (Sp.ivMay 4 ⟨a, b⟩ ⟨c, d⟩)) ∧ Below w.heap.size w w' := by
 have HT : Hid (∀ w', Below w.heap.size w w' → Turns w') := fun w' h => hT.below h hs
 have h0 := may_start w dv a b c d
 go_enter Tryz.func321, Tryz.ntmps321
 go_wp2_with fail
 go_region_held3 (fun w' : World => w'.cell? ⟨w.heap.size, 0, none⟩ = some dv ∧ w'.cell? ⟨w.heap.size + 1, 0, none⟩ = some (.int .i16 a) ∧ w'.cell? ⟨w.heap.size + 1, 1, none⟩ = some (.int .i16 b) ∧ w'.cell? ⟨w.heap.size + 1 + 1, 0, none⟩ = some (.int .i16 c) ∧ w'.cell? ⟨w.heap.size + 1 + 1, 1, none⟩ = some (.int .i16 d) ∧ IvHeld3 w (.cells #[dv] 133) (.cells #[.int .i16 a, .int .i16 b] 131) (.cells #[.int .i16 c, .int .i16 d] 131) w') (first | exact h0 | assumption | exact may_call h0.2.2.2.2.2 (by assumption))
  (first
    | (go_at_call 221; refine (mirror4 _ (HT.out _ (ivHeldBelow h0.2.2.2.2.2))).mono ?_; rintro e w1 ⟨rfl, rfl⟩)
    | (go_at_call 321; refine (iv_may1 dv c d a b _).mono ?_; rintro e w1 ⟨rfl, b1⟩))
 all_goals
  have HX : Hid (Below w.heap.size w w1) := ivHeldBelow (h0.2.2.2.2.2.call b1)
  go_wp2_with fail
  go_returns
  exact ⟨ret_bool rfl, HX.out⟩
theorem iv_may5 (dv : Value) (a b c d : Int) (w : World) (hT : Turns w) (hs : 11 ≤ w.heap.size) :
  Calls Tryz.prog 321 #[.agg #[dv], .int .i64 5, .agg #[.int .i16 a, .int .i16 b], .agg #[.int .i16 c, .int .i16 d]] w fun e w' => e = .returned (.bool (Sp.ivMay 5 ⟨a, b⟩ ⟨c, d⟩)) ∧ Below w.heap.size w w' := by
 have HT : Hid (∀ w', Below w.heap.size w w' → Turns w') := fun w' h => hT.below h hs
 have h0 := may_start w dv a b c d
 go_enter Tryz.func321, Tryz.ntmps321
 go_wp2_with fail
 go_region_held3 (fun w' : World => w'.cell? ⟨w.heap.size, 0, none⟩ = some dv ∧ w'.cell? ⟨w.heap.size + 1, 0, none⟩ = some (.int .i16 a) ∧ w'.cell? ⟨w.heap.size + 1, 1, none⟩ = some (.int .i16 b) ∧ w'.cell? ⟨w.heap.size + 1 + 1, 0, none⟩ = some (.int .i16 c) ∧ w'.cell? ⟨w.heap.size + 1 + 1, 1, none⟩ = some (.int .i16 d) ∧ IvHeld3 w (.cells #[dv] 133) (.cells #[.int .i16 a, .int .i16 b] 131) (.cells #[.int .i16 c, .int .i16 d] 131) w') (first | exact h0 | assumption | exact may_call h0.2.2.2.2.2 (by assumption))
  (first
    | (go_at_call 221; refine (mirror5 _ (HT.out _ (ivHeldBelow h0.2.2.2.2.2))).mono ?_; rintro e w1 ⟨rfl, rfl⟩)
    | (go_at_call 321; refine (iv_may0 dv c d a b _).mono ?_; rintro e w1 ⟨rfl, b1⟩))
 all_goals
  have HX : Hid (Below w.heap.size w w1) := ivHeldBelow (h0.2.2.2.2.2.call b1)
  go_wp2_with fail
  go_returns
  exact ⟨ret_bool rfl, HX.out⟩
theorem iv_may (dv : Value) (r : Nat) (hr : r < 6) (a b c d : Int) (w : World) (hT : Turns w) (hs : 11 ≤ w.heap.size) :
  Calls Tryz.prog 321 #[.agg #[dv], .int .i64 (r : Nat), .agg #[.int .i16 a, .int .i16 b], .agg #[.int .i16 c, .int .i16 d]] w fun e w' => e = .returned (.bool (Sp.ivMay r ⟨a, b⟩ ⟨c, d⟩)) ∧ Below w.heap.size w w' := by
 rcases (show r = 0 ∨ r = 1 ∨ r = 2 ∨ r = 3 ∨ r = 4 ∨ r = 5 from by omega) with rfl | rfl | rfl | rfl | rfl | rfl
 ·exact iv_may0 dv a b c d w
 ·exact iv_may1 dv a b c d w
 ·exact iv_may2 dv a b c d w
 ·exact iv_may3 dv a b c d w
 ·exact iv_may4 dv a b c d w hT hs
 ·exact iv_may5 dv a b c d w hT hs
end Go.Proofs.YtiopfihjmkfdmaaGreatDoor
