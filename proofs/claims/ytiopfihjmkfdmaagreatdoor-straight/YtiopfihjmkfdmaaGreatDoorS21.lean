import Derived.Test.YtiopfihjmkfdmaaGreatDoorS4
import Derived.Test.YtiopfihjmkfdmaaGreatDoorS18
import Derived.Deep.AppendLies
import Derived.Deep.DrawnRows
import Derived.Deep.RegionHeld3
import Derived.Deep.RegionLaw
import Derived.LaidEql
import Derived.Laws.Externs
import Derived.Lib.AppendIntMem
import Derived.Lib.AppendStr
import Derived.Lib.Builder
import Derived.Lib.SmallJoins
import Derived.Lib.UnsafeStr
import Derived.OwnWalk
import Derived.RowKitTokens
import Derived.Stop.Asserts
namespace Go.Proofs.YtiopfihjmkfdmaaGreatDoor
open Go.RowKit
set_option maxRecDepth 100000
set_option maxHeartbeats 2000000
theorem ErrAt.weaken {w : World} {B B' : Nat} {v : Value} {er : Nat × Nat} (h : ErrAt w B v er) (hB : B' ≤ B) : ErrAt w B' v er := by
 rcases h with h | ⟨N, h1, h2, h3⟩
 ·exact .inl h
 ·exact .inr ⟨N, Nat.le_trans hB h1, h2, h3⟩
theorem ErrAt.set {w : World} {B S i : Nat} {v u : Value} {er : Nat × Nat} (h : ErrAt w B v er) (hS : S < B) : ErrAt (w.setCell ⟨S, i, none⟩ u) B v er := by
 rcases h with h | ⟨N, h1, h2, h3⟩
 ·exact .inl h
 ·exact .inr ⟨N, h1, h2, by rw [Below.heap_setCell _ _ _ _ (by show N ≠ S; omega)]; exact h3⟩
theorem ownsRow9_weaken {base base' n : Nat} {e : TypeId} {sz : Nat} {w : World} {v : Value} {vs : List Value} (h : w.ownsRow base e sz v n vs) (hb : base' ≤ base) : w.ownsRow base' e sz v n vs := by
 obtain ⟨h1, h2⟩ := h
 refine ⟨h1, ?_⟩
 rcases h2 with h2 | ⟨g, cap, cur, rfl, hg, r⟩
 ·exact .inl h2
 ·exact .inr ⟨g, cap, cur, rfl, Nat.le_trans hb hg, r⟩
theorem within_yes (n g : Int) (w : World) (h : 0 ≤ n) (h' : n ≤ g) : Calls Tryz.prog 42 #[.int .i64 n, .int .i64 g] w fun e w' => e = .returned (.bool true) ∧ w' = w := by
 go_enter Tryz.func42, Tryz.ntmps42
 go_wp2_with fail
 go_ret
 exact ⟨rfl, rfl⟩
end Go.Proofs.YtiopfihjmkfdmaaGreatDoor
namespace Go.Proofs.YtiopfihjmkfdmaaGreatDoor
open Go.RowKit
set_option maxRecDepth 100000
set_option maxHeartbeats 2000000
theorem mw_assign (p k : Int) (v : Value) (w : World) : (method 587 279 (.agg #[.int .i64 p, .int .i64 k, v]) "Where").run Tryz.prog w = .ok (72, .int .i64 p) w := by kernel_rfl
theorem mw_read (p k : Int) (w : World) : (method 587 283 (.agg #[.int .i64 p, .int .i64 k]) "Where").run Tryz.prog w = .ok (72, .int .i64 p) w := by kernel_rfl
theorem mw_assert (p q k : Int) (v u : Value) (w : World) : (method 587 287 (.agg #[.int .i64 p, .int .i64 q, .int .i64 k, v, u]) "Where").run Tryz.prog w = .ok (72, .int .i64 p) w := by kernel_rfl
theorem mw_if (p k : Int) (v u b c e : Value) (w : World) : (method 587 290 (.agg #[.int .i64 p, .int .i64 k, v, u, b, c, e]) "Where").run Tryz.prog w = .ok (72, .int .i64 p) w := by kernel_rfl
theorem mw_while (p k : Int) (v u b : Value) (w : World) : (method 587 293 (.agg #[.int .i64 p, .int .i64 k, v, u, b]) "Where").run Tryz.prog w = .ok (72, .int .i64 p) w := by kernel_rfl
end Go.Proofs.YtiopfihjmkfdmaaGreatDoor
