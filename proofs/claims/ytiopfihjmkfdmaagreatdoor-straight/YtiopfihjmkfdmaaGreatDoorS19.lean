import Derived.Test.YtiopfihjmkfdmaaGreatDoorS18
import Derived.Test.YtiopfihjmkfdmaaGreatDoorS1
import Derived.Handy
import Derived.Deep.RegionWith
import Derived.Deep.MidRow
import Derived.Deep.Upon
import Derived.Deep.RegionHeld3
namespace Go.Proofs.YtiopfihjmkfdmaaGreatDoor
open Go.RowKit
set_option maxRecDepth 100000
set_option maxHeartbeats 1000000
def optV : Option Sp.Iv → Value
 | some x => .tuple #[.agg #[.int .i16 x.a, .int .i16 x.b], .bool true]
 | none => .tuple #[.agg #[.int .i16 0, .int .i16 0], .bool false]
theorem iv_eq {a b a' b' : Int} (h1 : a = a') (h2 : b = b') : Ending.returned (.agg #[.int .i16 a, .int .i16 b]) = .returned (.agg #[.int .i16 a', .int .i16 b']) := by rw [h1, h2]
theorem opt_some {a b : Int} {r : Option Sp.Iv} (h : r = some ⟨a, b⟩) : Ending.returned (.tuple #[.agg #[.int .i16 a, .int .i16 b], .bool true]) = .returned (optV r) := by rw [h]; rfl
theorem opt_none {r : Option Sp.Iv} (h : r = none) : Ending.returned (.tuple #[.agg #[.int .i16 0, .int .i16 0], .bool false]) = .returned (optV r) := by rw [h]; rfl
theorem iv_number (d : Value) (n : Int) (w : World) :
  Calls Tryz.prog 324 #[.agg #[d], .int .i16 n] w fun e w' => e = .returned (.agg #[.int .i16 n, .int .i16 n]) ∧ Below w.heap.size w w' := by
 go_enter Tryz.func324, Tryz.ntmps324
 go_wp2_with fail
 go_returns
 exact ⟨rfl, by go_grown⟩
theorem iv_whole (d : Value) (w : World) :
  Calls Tryz.prog 326 #[.agg #[d]] w fun e w' => e = .returned (.agg #[.int .i16 (-32768), .int .i16 32767]) ∧ Below w.heap.size w w' := by
 go_enter Tryz.func326, Tryz.ntmps326
 go_wp2_with fail
 go_returns
 exact ⟨rfl, by go_grown⟩
theorem iv_nought (d : Value) (a b : Int) (w : World) :
  Calls Tryz.prog 319 #[.agg #[d], .agg #[.int .i16 a, .int .i16 b]] w fun e w' => e = .returned (.bool (decide (a ≤ 0) && decide (0 ≤ b))) ∧ Below w.heap.size w w' := by
 by_cases h : a ≤ 0
 ·go_enter Tryz.func319, Tryz.ntmps319
  go_wp2_with fail
  go_returns
  exact ⟨ret_bool (by simp [h]), by go_grown⟩
 ·have h0 : decide (a ≤ 0) = false := by simpa using h
  go_enter Tryz.func319, Tryz.ntmps319
  go_wp2_with fail
  go_returns
  exact ⟨rfl, by go_grown⟩
theorem iv_join (d : Value) (a b a' b' : Int) (w : World) :
  Calls Tryz.prog 320 #[.agg #[d], .agg #[.int .i16 a, .int .i16 b], .agg #[.int .i16 a', .int .i16 b']] w fun e w' => e = .returned (.agg #[.int .i16 (min a a'), .int .i16 (max b b')]) ∧ Below w.heap.size w w' := by
 go_enter Tryz.func320, Tryz.ntmps320
 go_wp2_with fail
 all_goals
  go_returns
  exact ⟨iv_eq (by omega) (by omega), by go_grown⟩
theorem iv_narrow (d : Value) (a b a' b' : Int) (w : World) :
  Calls Tryz.prog 322 #[.agg #[d], .agg #[.int .i16 a, .int .i16 b], .agg #[.int .i16 a', .int .i16 b']] w fun e w' => e = .returned (.agg #[.int .i16 (if a = -32768 then a' else a), .int .i16 (if b = 32767 then b' else b)]) ∧ Below w.heap.size w w' := by
 by_cases ha : a = -32768
 all_goals
  by_cases hb : b = 32767
  all_goals
   go_enter Tryz.func322, Tryz.ntmps322
   go_wp2_with fail
   go_returns
   exact ⟨iv_eq (by omega) (by omega), by go_grown⟩
theorem iv_tell (d : Value) (a b : Int) (w : World) (h1 : -32768 ≤ a) (h2 : a ≤ 32767) (h3 : -32768 ≤ b) (h4 : b ≤ 32767) :
  Calls Tryz.prog 325 #[.agg #[d], .agg #[.int .i16 a, .int .i16 b]] w fun e w' => e = .returned (.agg #[.int .i64 a, .int .i64 b]) ∧ Below w.heap.size w w' := by
 go_enter Tryz.func325, Tryz.ntmps325
 go_wp2_with fail
 go_returns
 exact ⟨rfl, by go_grown⟩
theorem iv_ends0 (a b : Int) (w : World) :
  Calls Tryz.prog 334 #[.agg #[.int .i16 a, .int .i16 b]] w fun e w' => e = .returned (.tuple #[.int .i64 (IntKind.i64.wrap a), .int .i64 (IntKind.i64.wrap b)]) ∧ Below w.heap.size w w' := by
 go_enter Tryz.func334, Tryz.ntmps334
 go_wp2_with fail
 go_region_with (fail)
 all_goals
  go_wp2_with fail
  go_returns
  exact ⟨rfl, by go_grown⟩
theorem wrap_i64_id {a : Int} (h1 : -32768 ≤ a) (h2 : a ≤ 32767) : IntKind.i64.wrap a = a := by rw [IntWalk.i64_in] <;> omega
theorem iv_ends (a b : Int) (w : World) (h1 : -32768 ≤ a) (h2 : a ≤ 32767) (h3 : -32768 ≤ b) (h4 : b ≤ 32767) :
  Calls Tryz.prog 334 #[.agg #[.int .i16 a, .int .i16 b]] w fun e w' => e = .returned (.tuple #[.int .i64 a, .int .i64 b]) ∧ Below w.heap.size w w' := by
 have h := iv_ends0 a b w
 rwa [wrap_i64_id h1 h2, wrap_i64_id h3 h4] at h
theorem iv_alone (a b : Int) (w : World) :
  Calls Tryz.prog 317 #[.agg #[.int .i16 a, .int .i16 b]] w fun e w' => e = .returned (.bool (decide (a = b))) ∧ Below w.heap.size w w' := by
 go_enter Tryz.func317, Tryz.ntmps317
 go_wp2_with fail
 go_returns
 exact ⟨ret_bool (by rw [Bool.eq_iff_iff]; simp), by go_grown⟩
theorem meet_some {a b c d p q : Int} (h : p ≤ q) (h1 : p = max a c) (h2 : q = min b d) : Sp.ivMeet ⟨a, b⟩ ⟨c, d⟩ = some ⟨p, q⟩ := by
 subst h1; subst h2
 unfold Sp.ivMeet
 rw [if_pos h]
theorem meet_none {a b c d : Int} (h : min b d < max a c) : Sp.ivMeet ⟨a, b⟩ ⟨c, d⟩ = none := by
 unfold Sp.ivMeet
 rw [if_neg (by simp only; omega)]
theorem iv_meet (a b c d : Int) (w : World) :
  Calls Tryz.prog 331 #[.agg #[.int .i16 a, .int .i16 b], .agg #[.int .i16 c, .int .i16 d]] w fun e w' => e = .returned (optV (Sp.ivMeet ⟨a, b⟩ ⟨c, d⟩)) ∧ Below w.heap.size w w' := by
 go_enter Tryz.func331, Tryz.ntmps331
 go_wp2_with fail
 all_goals go_returns
 all_goals first
  | exact ⟨opt_none (meet_none (by omega)), by go_grown⟩
  | exact ⟨opt_some (meet_some (by omega) (by omega) (by omega)), by go_grown⟩
theorem res2 {w : World} {B : Nat} {x y : Value} {t : TypeId} (h : w.heap[B]? = some (.cells #[x, y] t)) : w.cell? ⟨B, 0, none⟩ = some x ∧ w.cell? ⟨B, 1, none⟩ = some y ∧ w.frozen? ⟨B, 0, none⟩ = false ∧ w.frozen? ⟨B, 1, none⟩ = false ∧
  ∀ u v, ((w.setCell ⟨B, 0, none⟩ u).setCell ⟨B, 1, none⟩ v).cell? ⟨B, 0, none⟩ = some u ∧ ((w.setCell ⟨B, 0, none⟩ u).setCell ⟨B, 1, none⟩ v).cell? ⟨B, 1, none⟩ = some v := by
 refine ⟨cell_of h 0 rfl, cell_of h 1 rfl, frozen_of h 0, frozen_of h 1, fun u v => ?_⟩
 have h2 := heap_setCell_at (heap_setCell_at h 0 u) 1 v
 exact ⟨cell_of h2 0 rfl, cell_of h2 1 rfl⟩
theorem iv_below (a b n : Int) (w : World) (h1 : -32768 ≤ n) (h2 : n ≤ 32767) :
  Calls Tryz.prog 330 #[.agg #[.int .i16 a, .int .i16 b], .int .i16 n] w fun e w' => e = .returned (optV (Sp.ivBelow ⟨a, b⟩ n)) ∧ Below w.heap.size w w' := by
 by_cases hn : n = -32768
 ·have e : Hid (Sp.ivBelow ⟨a, b⟩ n = none) := by unfold Hid Sp.ivBelow; rw [if_pos hn]
  go_enter Tryz.func330, Tryz.ntmps330
  go_wp2_with fail
  go_returns
  exact ⟨opt_none e.out, by go_grown⟩
 ·have e : Hid (Sp.ivBelow ⟨a, b⟩ n = Sp.ivMeet ⟨a, b⟩ ⟨-32768, n - 1⟩) := by unfold Hid Sp.ivBelow; rw [if_neg hn]
  have e1 : IntKind.i16.wrap (n - 1) = n - 1 := by rw [IntWalk.i16_in] <;> omega
  go_enter Tryz.func330, Tryz.ntmps330
  go_wp2_with fail
  refine (iv_meet a b (-32768) (n - 1) _).mono ?_
  rintro e w1 ⟨rfl, b1⟩
  have hk := b1.block (w.heap.size + 1) (by simp)
  have hn1 : w1.heap[w.heap.size + 1]? = some (.cells #[.int .i16 0, .int .i16 0] 131) := by
   rw [hk]
   have := heap_alloc_new (w.alloc (.cells #[.int .i16 a, .int .i16 b] 131)) (.cells #[.int .i16 0, .int .i16 0] 131)
   simpa using this
  have B : Hid (Below w.heap.size w w1) := (by go_grown : Below w.heap.size w ((w.alloc (.cells #[.int .i16 a, .int .i16 b] 131)).alloc (.cells #[.int .i16 0, .int .i16 0] 131))).trans (b1.mono (by simp; omega))
  obtain ⟨m0, m1, mf0, mf1, mq⟩ := res2 hn1
  clear hk b1 hn1
  cases hr : Sp.ivMeet ⟨a, b⟩ ⟨-32768, n - 1⟩ with
  | none =>
   have E : Hid (Sp.ivBelow ⟨a, b⟩ n = none) := e.out.trans hr
   have MQ : Hid (_ ∧ _) := mq (.int .i16 0) (.int .i16 0)
   clear mq hr e
   simp only [optV]
   go_wp2_with fail
   exact bodyPost_ret (v := .tuple #[.agg #[.int .i16 0, .int .i16 0], .bool false]) (by simp [results, Tryz.results330, go_sem, MQ.out.1, MQ.out.2]) rfl ⟨opt_none E.out, (B.out.setCell (p := ⟨w.heap.size + 1, 0, none⟩) (Nat.le_succ _) _).setCell (p := ⟨w.heap.size + 1, 1, none⟩) (Nat.le_succ _) _⟩
  | some v =>
   have E : Hid (Sp.ivBelow ⟨a, b⟩ n = some v) := e.out.trans hr
   have MQ : Hid (_ ∧ _) := mq (.int .i16 v.a) (.int .i16 v.b)
   clear mq hr e
   simp only [optV]
   go_wp2_with fail
   exact bodyPost_ret (v := .tuple #[.agg #[.int .i16 v.a, .int .i16 v.b], .bool true]) (by simp [results, Tryz.results330, go_sem, MQ.out.1, MQ.out.2]) rfl ⟨opt_some E.out, (B.out.setCell (p := ⟨w.heap.size + 1, 0, none⟩) (Nat.le_succ _) _).setCell (p := ⟨w.heap.size + 1, 1, none⟩) (Nat.le_succ _) _⟩
end Go.Proofs.YtiopfihjmkfdmaaGreatDoor
namespace Go.Proofs.YtiopfihjmkfdmaaGreatDoor
open Go.RowKit
set_option maxRecDepth 100000
set_option maxHeartbeats 1000000
theorem iv_above (a b n : Int) (w : World) (h1 : -32768 ≤ n) (h2 : n ≤ 32767) :
  Calls Tryz.prog 333 #[.agg #[.int .i16 a, .int .i16 b], .int .i16 n] w fun e w' => e = .returned (optV (Sp.ivAbove ⟨a, b⟩ n)) ∧ Below w.heap.size w w' := by
 by_cases hn : n = 32767
 ·have e : Hid (Sp.ivAbove ⟨a, b⟩ n = none) := by unfold Hid Sp.ivAbove; rw [if_pos hn]
  go_enter Tryz.func333, Tryz.ntmps333
  go_wp2_with fail
  go_returns
  exact ⟨opt_none e.out, by go_grown⟩
 ·have e : Hid (Sp.ivAbove ⟨a, b⟩ n = Sp.ivMeet ⟨a, b⟩ ⟨n + 1, 32767⟩) := by unfold Hid Sp.ivAbove; rw [if_neg hn]
  go_enter Tryz.func333, Tryz.ntmps333
  go_wp2_with fail
  refine (iv_meet a b (n + 1) 32767 _).mono ?_
  rintro e w1 ⟨rfl, b1⟩
  have hk := b1.block (w.heap.size + 1) (by simp)
  have hn1 : w1.heap[w.heap.size + 1]? = some (.cells #[.int .i16 0, .int .i16 0] 131) := by
   rw [hk]
   have := heap_alloc_new (w.alloc (.cells #[.int .i16 a, .int .i16 b] 131)) (.cells #[.int .i16 0, .int .i16 0] 131)
   simpa using this
  have B : Hid (Below w.heap.size w w1) := (by go_grown : Below w.heap.size w ((w.alloc (.cells #[.int .i16 a, .int .i16 b] 131)).alloc (.cells #[.int .i16 0, .int .i16 0] 131))).trans (b1.mono (by simp; omega))
  obtain ⟨m0, m1, mf0, mf1, mq⟩ := res2 hn1
  clear hk b1 hn1
  cases hr : Sp.ivMeet ⟨a, b⟩ ⟨n + 1, 32767⟩ with
  | none =>
   have E : Hid (Sp.ivAbove ⟨a, b⟩ n = none) := e.out.trans hr
   have MQ : Hid (_ ∧ _) := mq (.int .i16 0) (.int .i16 0)
   clear mq hr e
   simp only [optV]
   go_wp2_with fail
   exact bodyPost_ret (v := .tuple #[.agg #[.int .i16 0, .int .i16 0], .bool false]) (by simp [results, Tryz.results333, go_sem, MQ.out.1, MQ.out.2]) rfl ⟨opt_none E.out, (B.out.setCell (p := ⟨w.heap.size + 1, 0, none⟩) (Nat.le_succ _) _).setCell (p := ⟨w.heap.size + 1, 1, none⟩) (Nat.le_succ _) _⟩
  | some v =>
   have E : Hid (Sp.ivAbove ⟨a, b⟩ n = some v) := e.out.trans hr
   have MQ : Hid (_ ∧ _) := mq (.int .i16 v.a) (.int .i16 v.b)
   clear mq hr e
   simp only [optV]
   go_wp2_with fail
   exact bodyPost_ret (v := .tuple #[.agg #[.int .i16 v.a, .int .i16 v.b], .bool true]) (by simp [results, Tryz.results333, go_sem, MQ.out.1, MQ.out.2]) rfl ⟨opt_some E.out, (B.out.setCell (p := ⟨w.heap.size + 1, 0, none⟩) (Nat.le_succ _) _).setCell (p := ⟨w.heap.size + 1, 1, none⟩) (Nat.le_succ _) _⟩
theorem laid2b {w w1 : World} {o1 o2 : Obj} (b : Below ((w.alloc o1).alloc o2).heap.size ((w.alloc o1).alloc o2) w1) : w1.heap[w.heap.size]? = some o1 ∧ w1.heap[w.heap.size + 1]? = some o2 ∧ Below w.heap.size w w1 := by
 refine ⟨?_, ?_, ?_⟩
 ·rw [b.block _ (by simp; omega)]; exact heap_alloc_old (heap_alloc_new _ _)
 ·rw [b.block _ (by simp)]
  have := heap_alloc_new (w.alloc o1) o2
  simpa using this
 ·exact (((Below.refl _ _).alloc (Nat.le_refl _) _).alloc (by simp) _).trans (b.mono (by simp; omega))
theorem below_drop {w w1 : World} {o : Obj} (b : Below (w.alloc o).heap.size (w.alloc o) w1) : Below w.heap.size w w1 ∧ w1.heap[w.heap.size]? = some o := by
 refine ⟨((Below.refl _ _).alloc (Nat.le_refl _) _).trans (b.mono (by simp)), ?_⟩
 rw [b.block _ (by simp)]
 exact heap_alloc_new _ _
theorem laid3b {w w1 : World} {o1 o2 o3 : Obj} (b : Below (((w.alloc o1).alloc o2).alloc o3).heap.size (((w.alloc o1).alloc o2).alloc o3) w1) : w1.heap[w.heap.size]? = some o1 ∧ w1.heap[w.heap.size + 1]? = some o2 ∧ w1.heap[w.heap.size + 1 + 1]? = some o3 ∧ Below w.heap.size w w1 := by
 obtain ⟨b', h3⟩ := below_drop b
 obtain ⟨h1, h2, hb⟩ := laid2b b'
 exact ⟨h1, h2, by simpa using h3, hb⟩
theorem laid4b {w w1 : World} {o1 o2 o3 o4 : Obj} (b : Below ((((w.alloc o1).alloc o2).alloc o3).alloc o4).heap.size ((((w.alloc o1).alloc o2).alloc o3).alloc o4) w1) : w1.heap[w.heap.size]? = some o1 ∧ w1.heap[w.heap.size + 1]? = some o2 ∧ w1.heap[w.heap.size + 1 + 1]? = some o3 ∧ w1.heap[w.heap.size + 1 + 1 + 1]? = some o4 ∧ Below w.heap.size w w1 := by
 obtain ⟨b', h4⟩ := below_drop b
 obtain ⟨h1, h2, h3, hb⟩ := laid3b b'
 exact ⟨h1, h2, h3, by simpa using h4, hb⟩
theorem iv_beside (a b c d : Int) (w : World) (h1 : -32768 ≤ c) (h2 : c ≤ 32767) (h3 : -32768 ≤ d) (h4 : d ≤ 32767) :
  Calls Tryz.prog 332 #[.agg #[.int .i16 a, .int .i16 b], .agg #[.int .i16 c, .int .i16 d]] w fun e w' => e = .returned (optV (Sp.ivBeside ⟨a, b⟩ ⟨c, d⟩)) ∧ Below w.heap.size w w' := by
 go_enter Tryz.func332, Tryz.ntmps332
 go_wp2_with fail
 refine (iv_alone c d _).mono ?_
 rintro e w1 ⟨rfl, b1⟩
 obtain ⟨hx, hy, hz, bw⟩ := laid3b b1
 obtain ⟨x0, x1, xf0, xf1, _⟩ := res2 hx
 obtain ⟨y0, y1, yf0, yf1, _⟩ := res2 hy
 obtain ⟨m0, m1, mf0, mf1, mq⟩ := res2 hz
 have BW : Hid (Below w.heap.size w w1) := bw
 have HZ : Hid (_ = _) := hz
 clear b1 bw hx hy hz
 by_cases hcd : c = d
 ·subst hcd
  by_cases hac : a = c
  ·subst hac
   have E : Hid (Sp.ivBeside ⟨a, b⟩ ⟨a, a⟩ = Sp.ivAbove ⟨a, b⟩ a) := by unfold Hid Sp.ivBeside; simp
   clear mq
   simp only [decide_true]
   go_wp2_with fail
   refine (iv_above a b a w1 h1 h2).mono ?_
   rintro e w2 ⟨rfl, b2⟩
   have hz2 : w2.heap[w.heap.size + 1 + 1]? = _ := (b2.block _ (heap_lt HZ.out)).trans HZ.out
   obtain ⟨m0, m1, mf0, mf1, mq⟩ := res2 hz2
   have B : Hid (Below w.heap.size w w2) := BW.out.trans (b2.mono BW.out.size)
   clear x0 x1 xf0 xf1 y0 y1 yf0 yf1 b2 hz2
   cases hr : Sp.ivAbove ⟨a, b⟩ a with
   | none =>
    have EE : Hid (_ = none) := E.out.trans hr
    have MQ : Hid (_ ∧ _) := mq (.int .i16 0) (.int .i16 0)
    clear mq hr E
    simp only [optV]
    go_wp2_with fail
    exact bodyPost_ret (v := .tuple #[.agg #[.int .i16 0, .int .i16 0], .bool false]) (by simp [results, Tryz.results332, go_sem, MQ.out.1, MQ.out.2]) rfl ⟨opt_none EE.out, (B.out.setCell (p := ⟨w.heap.size + 1 + 1, 0, none⟩) (by show w.heap.size ≤ w.heap.size + 1 + 1; omega) _).setCell (p := ⟨w.heap.size + 1 + 1, 1, none⟩) (by show w.heap.size ≤ w.heap.size + 1 + 1; omega) _⟩
   | some v =>
    have EE : Hid (_ = some v) := E.out.trans hr
    have MQ : Hid (_ ∧ _) := mq (.int .i16 v.a) (.int .i16 v.b)
    clear mq hr E
    simp only [optV]
    go_wp2_with fail
    exact bodyPost_ret (v := .tuple #[.agg #[.int .i16 v.a, .int .i16 v.b], .bool true]) (by simp [results, Tryz.results332, go_sem, MQ.out.1, MQ.out.2]) rfl ⟨opt_some EE.out, (B.out.setCell (p := ⟨w.heap.size + 1 + 1, 0, none⟩) (by show w.heap.size ≤ w.heap.size + 1 + 1; omega) _).setCell (p := ⟨w.heap.size + 1 + 1, 1, none⟩) (by show w.heap.size ≤ w.heap.size + 1 + 1; omega) _⟩
  ·by_cases hbc : b = c
   ·subst hbc
    have E : Hid (Sp.ivBeside ⟨a, b⟩ ⟨b, b⟩ = Sp.ivBelow ⟨a, b⟩ b) := by unfold Hid Sp.ivBeside; simp [hac]
    have hac' : (a == b) = false := by simpa using hac
    clear mq
    simp only [decide_true]
    go_wp2_with fail
    refine (iv_below a b b w1 h1 h2).mono ?_
    rintro e w2 ⟨rfl, b2⟩
    have hz2 : w2.heap[w.heap.size + 1 + 1]? = _ := (b2.block _ (heap_lt HZ.out)).trans HZ.out
    obtain ⟨m0, m1, mf0, mf1, mq⟩ := res2 hz2
    have B : Hid (Below w.heap.size w w2) := BW.out.trans (b2.mono BW.out.size)
    clear x0 x1 xf0 xf1 y0 y1 yf0 yf1 b2 hz2
    cases hr : Sp.ivBelow ⟨a, b⟩ b with
    | none =>
     have EE : Hid (_ = none) := E.out.trans hr
     have MQ : Hid (_ ∧ _) := mq (.int .i16 0) (.int .i16 0)
     clear mq hr E
     simp only [optV]
     go_wp2_with fail
     exact bodyPost_ret (v := .tuple #[.agg #[.int .i16 0, .int .i16 0], .bool false]) (by simp [results, Tryz.results332, go_sem, MQ.out.1, MQ.out.2]) rfl ⟨opt_none EE.out, (B.out.setCell (p := ⟨w.heap.size + 1 + 1, 0, none⟩) (by show w.heap.size ≤ w.heap.size + 1 + 1; omega) _).setCell (p := ⟨w.heap.size + 1 + 1, 1, none⟩) (by show w.heap.size ≤ w.heap.size + 1 + 1; omega) _⟩
    | some v =>
     have EE : Hid (_ = some v) := E.out.trans hr
     have MQ : Hid (_ ∧ _) := mq (.int .i16 v.a) (.int .i16 v.b)
     clear mq hr E
     simp only [optV]
     go_wp2_with fail
     exact bodyPost_ret (v := .tuple #[.agg #[.int .i16 v.a, .int .i16 v.b], .bool true]) (by simp [results, Tryz.results332, go_sem, MQ.out.1, MQ.out.2]) rfl ⟨opt_some EE.out, (B.out.setCell (p := ⟨w.heap.size + 1 + 1, 0, none⟩) (by show w.heap.size ≤ w.heap.size + 1 + 1; omega) _).setCell (p := ⟨w.heap.size + 1 + 1, 1, none⟩) (by show w.heap.size ≤ w.heap.size + 1 + 1; omega) _⟩
   ·have E : Hid (Sp.ivBeside ⟨a, b⟩ ⟨c, c⟩ = some ⟨a, b⟩) := by unfold Hid Sp.ivBeside; simp [hac, hbc]
    have hac' : (a == c) = false := by simpa using hac
    have hbc' : (b == c) = false := by simpa using hbc
    have MQ : Hid (_ ∧ _) := mq (.int .i16 a) (.int .i16 b)
    clear mq
    simp only [decide_true]
    go_wp2_with fail
    exact bodyPost_ret (v := .tuple #[.agg #[.int .i16 a, .int .i16 b], .bool true]) (by simp [results, Tryz.results332, go_sem, MQ.out.1, MQ.out.2]) rfl ⟨opt_some E.out, (BW.out.setCell (p := ⟨w.heap.size + 1 + 1, 0, none⟩) (by show w.heap.size ≤ w.heap.size + 1 + 1; omega) _).setCell (p := ⟨w.heap.size + 1 + 1, 1, none⟩) (by show w.heap.size ≤ w.heap.size + 1 + 1; omega) _⟩
 ·have E : Hid (Sp.ivBeside ⟨a, b⟩ ⟨c, d⟩ = some ⟨a, b⟩) := by unfold Hid Sp.ivBeside; simp [hcd]
  have MQ : Hid (_ ∧ _) := mq (.int .i16 a) (.int .i16 b)
  have hcd' : decide (c = d) = false := by simpa using hcd
  clear mq
  rw [hcd']
  go_wp2_with fail
  exact bodyPost_ret (v := .tuple #[.agg #[.int .i16 a, .int .i16 b], .bool true]) (by simp [results, Tryz.results332, go_sem, MQ.out.1, MQ.out.2]) rfl ⟨opt_some E.out, (BW.out.setCell (p := ⟨w.heap.size + 1 + 1, 0, none⟩) (by show w.heap.size ≤ w.heap.size + 1 + 1; omega) _).setCell (p := ⟨w.heap.size + 1 + 1, 1, none⟩) (by show w.heap.size ≤ w.heap.size + 1 + 1; omega) _⟩
end Go.Proofs.YtiopfihjmkfdmaaGreatDoor
namespace Go.Proofs.YtiopfihjmkfdmaaGreatDoor
open Go.RowKit
set_option maxRecDepth 100000
set_option maxHeartbeats 1000000
theorem setCells_block {b : Nat} {t : TypeId} {fr : Nat × Nat} : ∀ (vs : List Value) (o : Nat) (w : World) (c : Array Value), w.heap[b]? = some (.cells c t fr) → o + vs.length ≤ c.size →
  ∃ c', (w.setCells b o vs).heap[b]? = some (.cells c' t fr) ∧ c'.size = c.size ∧ (∀ j, j < vs.length → c'[o + j]? = vs[j]?) ∧ ∀ i, i < o ∨ o + vs.length ≤ i → c'[i]? = c[i]?
 | [], o, w, c, h, _ => ⟨c, h, rfl, fun j hj => by simp at hj, fun _ _ => rfl⟩
 | v :: vs, o, w, c, h, hs => by
  simp only [List.length_cons] at hs
  obtain ⟨c', h1, h2, h3, h4⟩ := setCells_block vs (o + 1) (w.setCell ⟨b, o, none⟩ v) (c.setIfInBounds o v) (heap_setCell_at h o v) (by simp; omega)
  refine ⟨c', h1, by rw [h2]; simp, fun j hj => ?_, fun i hi => ?_⟩
  ·cases j with
   | zero =>
    rw [Nat.add_zero, h4 o (.inl (Nat.lt_succ_self _))]
    simp [Array.getElem?_setIfInBounds]
    omega
   | succ j =>
    have := h3 j (by simp at hj; omega)
    rw [show o + (j + 1) = o + 1 + j by omega, this]
    simp
  ·rw [h4 i (by simp only [List.length_cons] at hi; omega), Array.getElem?_setIfInBounds]
   rw [if_neg (by simp only [List.length_cons] at hi; omega)]
theorem setCells_whole {w : World} {b : Nat} {c d : Array Value} {t : TypeId} {fr : Nat × Nat} (h : w.heap[b]? = some (.cells c t fr)) (hs : d.size = c.size) : (w.setCells b 0 d.toList).heap[b]? = some (.cells d t fr) := by
 obtain ⟨c', h1, h2, h3, _⟩ := setCells_block d.toList 0 w c h (by simp; omega)
 rw [h1]
 congr 2
 refine Array.ext_getElem? fun i => ?_
 by_cases hi : i < d.size
 ·have := h3 i (by simpa using hi)
  rw [Nat.zero_add] at this
  rw [this]; simp
 ·rw [Array.getElem?_eq_none (by omega), Array.getElem?_eq_none (by omega)]
theorem setCells_below {B b : Nat} (hb : B ≤ b) : ∀ (vs : List Value) (o : Nat) (w0 w : World), Below B w0 w → Below B w0 (w.setCells b o vs)
 | [], _, _, _, h => h
 | v :: vs, o, w0, _, h => setCells_below hb vs (o + 1) w0 _ (h.setCell (p := ⟨b, o, none⟩) hb v)
theorem setCells_other {b : Nat} : ∀ (vs : List Value) (o : Nat) (w : World) (k : Nat), k ≠ b → (w.setCells b o vs).heap[k]? = w.heap[k]?
 | [], _, _, _, _ => rfl
 | v :: vs, o, w, k, hk => by
  show ((w.setCell ⟨b, o, none⟩ v).setCells b (o + 1) vs).heap[k]? = _
  rw [setCells_other vs (o + 1) _ k hk, Below.heap_setCell _ _ _ _ hk]
section
variable {V : Type} (c0 c1 : V → Value)
def flat (l : List V) : List Value := l.flatMap fun v => [c0 v, c1 v]
theorem flat_cons (v : V) (l : List V) : flat c0 c1 (v :: l) = c0 v :: c1 v :: flat c0 c1 l := rfl
theorem flat_len (l : List V) : (flat c0 c1 l).length = 2 * l.length := by
 induction l with
 | nil => rfl
 | cons v l ih => rw [flat_cons]; simp only [List.length_cons, ih]; omega
theorem flat_get : ∀ (l : List V) (j : Nat) (v : V), l[j]? = some v → (flat c0 c1 l)[j * 2]? = some (c0 v) ∧ (flat c0 c1 l)[j * 2 + 1]? = some (c1 v)
 | [], _, _, h => by simp at h
 | u :: l, 0, v, h => by simp at h; subst h; exact ⟨rfl, rfl⟩
 | u :: l, j + 1, v, h => by
  have := flat_get l j v (by simpa using h)
  rw [flat_cons, show (j + 1) * 2 = j * 2 + 2 by omega]
  exact this
theorem flat_set : ∀ (l : List V) (j : Nat) (v : V), j < l.length → ((flat c0 c1 l).set (j * 2) (c0 v)).set (j * 2 + 1) (c1 v) = flat c0 c1 (l.set j v)
 | [], _, _, h => by simp at h
 | u :: l, 0, v, _ => rfl
 | u :: l, j + 1, v, h => by
  have := flat_set l j v (by simpa using h)
  rw [flat_cons, show (j + 1) * 2 = j * 2 + 2 by omega]
  simp only [List.set_cons_succ]
  rw [this]
  rfl
def stA (r : Bool) (l : List V) : Array Value := (Value.bool r :: flat c0 c1 l).toArray
theorem stA_size {r : Bool} {l : List V} (h : l.length = 8) : (stA c0 c1 r l).size = 17 := by
 unfold stA; simp [flat_len, h]
theorem stA_get {r : Bool} {l : List V} {j : Nat} {v : V} (h : l[j]? = some v) : (stA c0 c1 r l)[1 + j * 2]? = some (c0 v) ∧ (stA c0 c1 r l)[1 + j * 2 + 1]? = some (c1 v) := by
 obtain ⟨h1, h2⟩ := flat_get c0 c1 l j v h
 unfold stA
 rw [List.getElem?_toArray, List.getElem?_toArray, Nat.add_comm 1, show j * 2 + 1 + 1 = (j * 2 + 1) + 1 by omega]
 exact ⟨h1, h2⟩
theorem stA_set {r : Bool} {l : List V} {j : Nat} (v : V) (h : j < l.length) : ((stA c0 c1 r l).setIfInBounds (1 + j * 2) (c0 v)).setIfInBounds (1 + j * 2 + 1) (c1 v) = stA c0 c1 r (l.set j v) := by
 unfold stA
 rw [List.setIfInBounds_toArray, List.setIfInBounds_toArray, ← flat_set c0 c1 l j v h, Nat.add_comm 1]
 rfl
theorem stA_one (h0 : ∀ v, (c0 v).oneCell' = true) (h1 : ∀ v, (c1 v).oneCell' = true) (r : Bool) (l : List V) : (stA c0 c1 r l).all (·.oneCell') = true := by
 refine all_oneCell_toArray ?_
 intro v hv
 rcases List.mem_cons.1 hv with rfl | hv
 ·rfl
 ·unfold flat at hv
  obtain ⟨u, _, hu⟩ := List.mem_flatMap.1 hv
  simp at hu
  rcases hu with rfl | rfl
  ·exact h0 u
  ·exact h1 u
end
theorem range_of {W : World} {b : Nat} {c : Array Value} {t : TypeId} {fr : Nat × Nat} (h : W.heap[b]? = some (.cells c t fr)) : W.rangeAt b 0 c.toList := fun j u hu => by rw [Nat.zero_add]; exact cell_of h j (by simpa using hu)
theorem there_of {W : World} {b : Nat} {c : Array Value} {t : TypeId} (h : W.heap[b]? = some (.cells c t)) : W.there b 0 c.size := fun j hj => by
 rw [Nat.zero_add]
 refine ⟨?_, frozen_of h j⟩
 rw [cell_of h j (Array.getElem?_eq_getElem hj)]; rfl
theorem two_set {w : World} {k : Nat} {x y : Value} {t : TypeId} (h : w.heap[k]? = some (.cells #[x, y] t)) (u v : Value) : ((w.setCell ⟨k, 0, none⟩ u).setCell ⟨k, 1, none⟩ v).heap[k]? = some (.cells #[u, v] t) := heap_setCell_at (heap_setCell_at h 0 u) 1 v
theorem Below.two {B : Nat} {w0 w : World} (h : Below B w0 w) {k : Nat} (hk : B ≤ k) (u v : Value) : Below B w0 ((w.setCell ⟨k, 0, none⟩ u).setCell ⟨k, 1, none⟩ v) :=
 (h.setCell (p := ⟨k, 0, none⟩) hk u).setCell (p := ⟨k, 1, none⟩) hk v
theorem modify_set' {α : Type} {l : List α} {q : Nat} {n : α} (h : l[q]? = some n) {f : α → α} : l.modify q f = l.set q (f n) := by
 refine List.ext_getElem? fun i => ?_
 rw [List.getElem?_modify, List.getElem?_set]
 by_cases hq : q = i
 ·subst hq
  obtain ⟨hl, he⟩ := List.getElem?_eq_some_iff.1 h
  simp [hl, he]
 ·simp [hq]
theorem modify_set {l : List Nat} {q n : Nat} (h : l[q]? = some n) {f : Nat → Nat} : l.modify q f = l.set q (f n) := by
 refine List.ext_getElem? fun i => ?_
 rw [List.getElem?_modify, List.getElem?_set]
 by_cases hq : q = i
 ·subst hq
  obtain ⟨hl, he⟩ := List.getElem?_eq_some_iff.1 h
  simp [hl, he]
 ·simp [hq]
end Go.Proofs.YtiopfihjmkfdmaaGreatDoor
namespace Go.Proofs.YtiopfihjmkfdmaaGreatDoor
namespace WI
open Go.RowKit
set_option maxRecDepth 100000
set_option maxHeartbeats 1000000
theorem infoSt : (Tryz.prog.info? 220).map (·.size) = some 17 := by kernel_rfl
theorem loadV_st {w : World} {b : Nat} {c : Array Value} {fr : Nat × Nat} (h : w.heap[b]? = some (.cells c 220 fr)) (hc : c.size = 17) :
  (loadVar 220 ⟨b, 0, none⟩).run Tryz.prog w = .ok (.agg c) w := by
 have := run_loadVar_mid (P := Tryz.prog) w b 0 220 c.toList _ (fun j v hv => by rw [Nat.zero_add]; exact cell_of h j (by simpa using hv)) Tryz.underlying220 rfl (by rw [infoSt]; simp [hc])
 simpa using this
theorem wp_ld {ops : Array Oper} {rest : List Oper} {op : Oper} {a : Act} {w : World} {Q : Exit → Act → World → Prop} (hgd : op.guard = none) (x : Operand) (ho : op.op = .load 220 x) {b : Nat} {c : Array Value} (hx : a.eval x = .pointer (some ⟨b, 0, none⟩)) (h : w.heap[b]? = some (.cells c 220)) (hc : c.size = 17)
  (k : wpList Tryz.prog ops Q rest (a.put op.dst (.agg c)) w) : wpList Tryz.prog ops Q (op :: rest) a w := by
 refine wpList_load_mid hgd 220 x ho b 0 hx c.toList _ (fun j v hv => by rw [Nat.zero_add]; exact cell_of h j (by simpa using hv)) Tryz.underlying220 rfl (by rw [infoSt]; simp [hc]) ?_
 simpa using k
theorem wp_st {ops : Array Oper} {rest : List Oper} {op : Oper} {a : Act} {w : World} {Q : Exit → Act → World → Prop} (hgd : op.guard = none) (x y : Operand) (ho : op.op = .store 220 x y) {b : Nat} {c d : Array Value} (hx : a.eval x = .pointer (some ⟨b, 0, none⟩)) (hy : a.eval y = .agg d) (h : w.heap[b]? = some (.cells c 220)) (hc : c.size = 17) (hd : d.size = 17) (h1 : d.all (·.oneCell') = true)
  (k : wpList Tryz.prog ops Q rest (a.put op.dst undef) (w.setCells b 0 d.toList)) : wpList Tryz.prog ops Q (op :: rest) a w :=
 wpList_store_mid hgd 220 x y ho b 0 d hx hy (fun j hj => by
  rw [Nat.zero_add]
  refine ⟨?_, frozen_of h j⟩
  rw [cell_of h j (Array.getElem?_eq_getElem (by omega))]; rfl) (by rw [infoSt, hd]) h1 k
theorem results_st {fn : Func} {a : Tmp} (hres : fn.results = #[.cell a 220]) (tmps : Array Value) (w : World) {b : Nat} {c : Array Value} (ht : tmps.getD a undef = .pointer (some ⟨b, 0, none⟩)) (h : w.heap[b]? = some (.cells c 220)) (hc : c.size = 17) :
  (results fn tmps).run Tryz.prog w = .ok (.agg c) w := by
 have hl := loadV_st h hc
 have ht' : tmps[a]?.getD undef = .pointer (some ⟨b, 0, none⟩) := by rw [← ht]; simp
 unfold results
 rw [hres]
 simp [asAddr, ht', hl]
theorem join_none (W0 x y : Array Value) (w : World) (hx : x.size = 17) (hy : y.size = 17) (h1 : y.all (·.oneCell') = true) (h0 : ∀ h, x[0]'h = .bool false) :
  Calls Tryz.prog 116 #[.agg W0, .agg x, .agg y] w fun e w' => e = .returned (.agg y) ∧ Below w.heap.size w w' := by
 obtain ⟨k0, k1, k2, k3, kb⟩ := laid4b (w := w) (o1 := .cells W0 217) (o2 := .cells x 220) (o3 := .cells y 220) (o4 := .cells #[.bool false, .int .i16 0, .int .i16 0, .int .i16 0, .int .i16 0, .int .i16 0, .int .i16 0, .int .i16 0, .int .i16 0, .int .i16 0, .int .i16 0, .int .i16 0, .int .i16 0, .int .i16 0, .int .i16 0, .int .i16 0, .int .i16 0] 220) (Below.refl _ _)
 have K2 : Hid (_ = _) := k2
 have K3 : Hid (_ = _) := k3
 have hr : Hid (_ = _) := setCells_whole k3 (d := y) (by rw [hy]; rfl)
 have HB : Hid (Below w.heap.size w _) := setCells_below (b := w.heap.size + 1 + 1 + 1) (by omega) y.toList 0 w _ kb
 clear k0 k1 k2 k3 kb
 go_enter Tryz.func116, Tryz.ntmps116
 go_wp2_with (first
  | (refine wp_ld rfl _ rfl rfl K2.out hy ?_)
  | (refine wp_st rfl _ _ rfl rfl rfl K3.out rfl hy h1 ?_))
 refine bodyPost_ret (results_st Tryz.results116 _ _ rfl hr.out hy) rfl ⟨rfl, HB.out⟩
end WI
end Go.Proofs.YtiopfihjmkfdmaaGreatDoor
