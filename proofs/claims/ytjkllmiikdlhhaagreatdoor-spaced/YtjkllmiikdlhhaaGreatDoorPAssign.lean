/- (printer) statement: assignments. -/
import Derived.Test.YtjkllmiikdlhhaaGreatDoorPStmt
namespace Go.Proofs.YtjkllmiikdlhhaaGreatDoor
open Go.RowKit
set_option maxRecDepth 100000
set_option maxHeartbeats 4000000

theorem below_drew' (w : World) (o : Obj) : Below w.heap.size w (w.alloc o).drew := (below_alloc w o).drew

theorem assign_says (lo hi : Nat) (w : World) (k : Nat) (hk : k < 8) (tv : TypeId) (uv : Value) (x : Nat × Sp.Bs) (hx : SumSays (.iface tv uv) x.2) :
    StSays lo hi w (.iface 135 (.agg #[.int .i64 (k : Nat), .iface tv uv])) (Sp.Pr.assign k x) := by
  intro w' B b d t _ _ hBw h9 hL hP hlen
  have h1 := ts_1_1 (.agg #[.int .i64 (k : Nat), .iface tv uv])
  have e : Sp.Pr.assign k x d = Sp.pad d ++ joined [⟨(Sp.letter k).toArray⟩, ⟨#[32, 61, 32]⟩, ⟨x.2.toArray⟩, ⟨#[59]⟩] ++ [10] := by
    show Sp.pad d ++ Sp.letter k ++ [32, 61, 32] ++ x.2 ++ [59, 10] = _
    simp [joined]
  rw [e] at hlen ⊢
  have hct : x.2.length ≤ 2000000 := by
    have : (joined [⟨(Sp.letter k).toArray⟩, ⟨#[32, 61, 32]⟩, ⟨x.2.toArray⟩, ⟨#[59]⟩]).length = 1 + 3 + x.2.length + 1 := by simp [joined, Sp.letter]; omega
    simp only [List.length_append] at hlen
    omega
  have hL1 : Laid (w'.alloc (.cells #[.int .i64 (k : Nat), .iface tv uv] 135)).drew := hL.below (below_drew' _ _) hL.size
  have hP1 : PrAt B b d t (w'.alloc (.cells #[.int .i64 (k : Nat), .iface tv uv] 135)).drew := hP.below (below_drew' _ _)
  have HP1 : Hid (PrAt B b d t (w'.alloc (.cells #[.int .i64 (k : Nat), .iface tv uv] 135)).drew) := hP1
  clear hP1
  have hsz : B ≤ (w'.alloc (.cells #[.int .i64 (k : Nat), .iface tv uv] 135)).drew.heap.size := by show B ≤ (w'.alloc _).heap.size; simp; omega
  go_enter Tryz.func40, Tryz.ntmps40
  go_wp2_with fail
  go_region_with (first | (go_at_call 57; refine (text_calls k hk _).mono ?_; rintro e w1 ⟨rfl, rfl⟩) | (go_at_call 58; refine (hx hct _ hL1).mono ?_; rintro e w1 ⟨rfl, b1⟩) | (go_at_call 56; refine (line_after B b d w1.heap.size 4 t [⟨(Sp.letter k).toArray⟩, ⟨#[32, 61, 32]⟩, ⟨x.2.toArray⟩, ⟨#[59]⟩] w1 (HP1.out.below b1) rfl rfl (by simp) (by omega) (by have := b1.size; omega)).mono ?_; rintro e w2 ⟨rfl, h2, k2⟩))
  all_goals
    have K : PKeep B b w' w2 := ((PKeep.of_below (below_drew' _ _) hBw).trans (PKeep.of_below b1 hsz)).trans k2
    clear b1 k2
    go_wp2_with fail
    go_end0
    exact ⟨rfl, h2, K⟩

end Go.Proofs.YtjkllmiikdlhhaaGreatDoor
