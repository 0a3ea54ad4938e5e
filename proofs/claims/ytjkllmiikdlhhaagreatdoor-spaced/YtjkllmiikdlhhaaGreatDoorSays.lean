/- THE PRINTER: what printer.sum and printer.part say of a sum. Names, numbers. -/
import Derived.Test.YtjkllmiikdlhhaaGreatDoorProgram
import Derived.Lib.AppendIntMem
import Derived.Lib.SmallJoins
namespace Go.Proofs.YtjkllmiikdlhhaaGreatDoor
open Go.RowKit
set_option maxRecDepth 100000
set_option maxHeartbeats 400000

/-- 'printer.sum writes v as that text' (texts of up to a million bytes) -/
def SumSays (v : Value) (t : Sp.Bs) : Prop := t.length ≤ 2000000 → ∀ w, Laid w → Calls Tryz.prog 58 #[v] w fun e w' => e = .returned (.string ⟨t.toArray⟩) ∧ Below w.heap.size w w'
/-- 'printer.part writes it so where that level is asked for' -/
def PartSays (v : Value) (x : Nat × Sp.Bs) : Prop := x.2.length ≤ 2000000 → ∀ (least : Nat) w, least ≤ 2 → Laid w → Calls Tryz.prog 77 #[v, .int .i64 least] w fun e w' => e = .returned (.string ⟨(Sp.part x least).toArray⟩) ∧ Below w.heap.size w w'

theorem digitsF_eq : ∀ (f n : Nat), n < 10 ^ (f + 1) → Sp.digitsF (f + 1) n = Lib.decDigits n
  | 0, n, h => by
    unfold Sp.digitsF
    rw [if_pos (by omega), Lib.decDigits_one (by omega)]
  | f + 1, n, h => by
    unfold Sp.digitsF
    rw [Lib.decDigits]
    by_cases h10 : n < 10
    · rw [if_pos h10, dif_pos h10]
    · rw [if_neg h10, dif_neg h10, digitsF_eq f (n / 10) (by rw [Nat.pow_succ] at h; omega)]

theorem digits_eq (n : Nat) (h : n ≤ 32767) : Lib.itoa (n : Int) = Sp.digits n := by
  unfold Lib.itoa Sp.digits
  rw [if_neg (by omega), digitsF_eq 19 n (by omega)]
  simp

theorem itoa_calls (n : Nat) (hn : n ≤ 32767) (w : World) (hL : Laid w) :
    Calls Tryz.prog 76 #[.int .i64 n] w fun e w' => e = .returned (.string ⟨(Sp.digits n).toArray⟩) ∧ Below w.heap.size w w' := by
  refine (Tryz.strconv_Itoa (n : Int) (by omega) (by omega) w hL.pow).mono ?_
  rintro e w' ⟨rfl, k, os, rfl⟩
  exact ⟨by rw [digits_eq n hn], Lib.below_grow _ _ (Nat.le_refl _) _ _⟩

theorem text_calls (k : Nat) (hk : k < 8) (w : World) :
    Calls Tryz.prog 57 #[.int .i64 k] w fun e w' => e = .returned (.string ⟨(Sp.letter k).toArray⟩) ∧ w' = w := by
  rcases (show k = 0 ∨ k = 1 ∨ k = 2 ∨ k = 3 ∨ k = 4 ∨ k = 5 ∨ k = 6 ∨ k = 7 from by omega) with rfl | rfl | rfl | rfl | rfl | rfl | rfl | rfl
  all_goals
    go_enter Tryz.func57, Tryz.ntmps57
    go_wp2_with fail
    go_ret
    exact ⟨ret_str rfl, rfl⟩

/- the type switches' tests -/
theorem ta_num_num (x : Value) (w : World) : (Instr.typeAssert (.iface 157 x) 133 157 true).run Tryz.prog w = .ok (.tuple #[x, .bool true]) w := by kernel_rfl
theorem ta_name_num (x : Value) (w : World) : (Instr.typeAssert (.iface 131 x) 133 157 true).run Tryz.prog w = .ok (.tuple #[.int .i16 0, .bool false]) w := by kernel_rfl
theorem ta_name_name (x : Value) (w : World) : (Instr.typeAssert (.iface 131 x) 133 131 true).run Tryz.prog w = .ok (.tuple #[x, .bool true]) w := by kernel_rfl
theorem ta_neg_num (x : Value) (w : World) : (Instr.typeAssert (.iface 159 x) 133 157 true).run Tryz.prog w = .ok (.tuple #[.int .i16 0, .bool false]) w := by kernel_rfl
theorem ta_neg_name (x : Value) (w : World) : (Instr.typeAssert (.iface 159 x) 133 131 true).run Tryz.prog w = .ok (.tuple #[.int .i64 0, .bool false]) w := by kernel_rfl
theorem ta_neg_neg (x : Value) (w : World) : (Instr.typeAssert (.iface 159 x) 133 159 true).run Tryz.prog w = .ok (.tuple #[x, .bool true]) w := by kernel_rfl
theorem ta_bin_num (x : Value) (w : World) : (Instr.typeAssert (.iface 163 x) 133 157 true).run Tryz.prog w = .ok (.tuple #[.int .i16 0, .bool false]) w := by kernel_rfl
theorem ta_bin_name (x : Value) (w : World) : (Instr.typeAssert (.iface 163 x) 133 131 true).run Tryz.prog w = .ok (.tuple #[.int .i64 0, .bool false]) w := by kernel_rfl
theorem ta_bin_neg (x : Value) (w : World) : (Instr.typeAssert (.iface 163 x) 133 159 true).run Tryz.prog w = .ok (.tuple #[.agg #[.nilIface], .bool false]) w := by kernel_rfl
theorem ta_bin_bin (x : Value) (w : World) : (Instr.typeAssert (.iface 163 x) 133 163 true).run Tryz.prog w = .ok (.tuple #[x, .bool true]) w := by kernel_rfl

theorem num_sum (n : Nat) (hn : n ≤ 32767) : SumSays (.iface 157 (.int .i16 n)) (Sp.digits n) := by
  intro _ w hL
  have h1 := ta_num_num (.int .i16 n)
  go_enter Tryz.func58, Tryz.ntmps58
  go_wp2_with fail
  refine (itoa_calls n hn _ hL).mono ?_
  rintro e w' ⟨rfl, hb⟩
  go_wp2_with fail
  go_ret
  exact ⟨rfl, hb⟩

theorem name_sum (k : Nat) (hk : k < 8) : SumSays (.iface 131 (.int .i64 k)) (Sp.letter k) := by
  intro _ w hL
  have h1 := ta_name_num (.int .i64 k)
  have h2 := ta_name_name (.int .i64 k)
  go_enter Tryz.func58, Tryz.ntmps58
  go_wp2_with fail
  refine (text_calls k hk _).mono ?_
  rintro e w' ⟨rfl, rfl⟩
  go_wp2_with fail
  go_ret
  exact ⟨rfl, Below.refl _ _⟩

theorem lvl_num (n : Int) (w : World) : Calls Tryz.prog 169 #[.int .i16 n] w fun e w' => e = .returned (.int .i64 2) ∧ Below w.heap.size w w' := by
  go_enter Tryz.func169, Tryz.ntmps169
  go_wp2_with fail
  go_ret
  exact ⟨rfl, by repeat (first | exact Below.refl _ _ | refine Below.alloc ?_ (Nat.le_refl _) _)⟩

theorem lvl_name (n : Int) (w : World) : Calls Tryz.prog 163 #[.int .i64 n] w fun e w' => e = .returned (.int .i64 2) ∧ Below w.heap.size w w' := by
  go_enter Tryz.func163, Tryz.ntmps163
  go_wp2_with fail
  go_ret
  exact ⟨rfl, by repeat (first | exact Below.refl _ _ | refine Below.alloc ?_ (Nat.le_refl _) _)⟩

theorem lvl_neg (tv : TypeId) (uv : Value) (w : World) : Calls Tryz.prog 170 #[.agg #[.iface tv uv]] w fun e w' => e = .returned (.int .i64 2) ∧ Below w.heap.size w w' := by
  go_enter Tryz.func170, Tryz.ntmps170
  go_wp2_with fail
  go_ret
  exact ⟨rfl, by repeat (first | exact Below.refl _ _ | refine Below.alloc ?_ (Nat.le_refl _) _)⟩

theorem m_num (x : Value) (w : World) : (method 333 157 x "Level").run Tryz.prog w = .ok (169, x) w := by kernel_rfl
theorem m_name (x : Value) (w : World) : (method 333 131 x "Level").run Tryz.prog w = .ok (163, x) w := by kernel_rfl
theorem m_neg (x : Value) (w : World) : (method 333 159 (.agg #[x]) "Level").run Tryz.prog w = .ok (170, .agg #[x]) w := by kernel_rfl
theorem m_bin (k : Int) (x y : Value) (w : World) : (method 333 163 (.agg #[.int .i64 k, x, y]) "Level").run Tryz.prog w = .ok (78, .int .i64 k) w := by kernel_rfl

theorem num_part (n : Nat) (t : Sp.Bs) (hs : SumSays (.iface 157 (.int .i16 n)) t) : PartSays (.iface 157 (.int .i16 n)) (2, t) := by
  intro hlen least w hle hL
  have hp : Sp.part (2, t) least = t := by unfold Sp.part; rw [if_neg (by simp; omega)]
  rw [hp]
  have hm := m_num (.int .i16 n)
  have hd : ¬ (2 : Int) < (least : Int) := by omega
  go_enter Tryz.func77, Tryz.ntmps77
  go_wp2_with fail
  refine (lvl_num n _).mono ?_
  rintro e w1 ⟨rfl, hb1⟩
  go_wp2_with fail
  refine (hs hlen w1 (hL.below hb1 (hL.size))).mono ?_
  rintro e w2 ⟨rfl, hb2⟩
  go_wp2_with fail
  go_ret
  exact ⟨rfl, hb1.trans (hb2.mono hb1.size)⟩

theorem name_part (n : Nat) (t : Sp.Bs) (hs : SumSays (.iface 131 (.int .i64 n)) t) : PartSays (.iface 131 (.int .i64 n)) (2, t) := by
  intro hlen least w hle hL
  have hp : Sp.part (2, t) least = t := by unfold Sp.part; rw [if_neg (by simp; omega)]
  rw [hp]
  have hm := m_name (.int .i64 n)
  have hd : ¬ (2 : Int) < (least : Int) := by omega
  go_enter Tryz.func77, Tryz.ntmps77
  go_wp2_with fail
  refine (lvl_name n _).mono ?_
  rintro e w1 ⟨rfl, hb1⟩
  go_wp2_with fail
  refine (hs hlen w1 (hL.below hb1 (hL.size))).mono ?_
  rintro e w2 ⟨rfl, hb2⟩
  go_wp2_with fail
  go_ret
  exact ⟨rfl, hb1.trans (hb2.mono hb1.size)⟩

theorem neg_part (tv : TypeId) (uv : Value) (t : Sp.Bs) (hs : SumSays (.iface 159 (.agg #[.iface tv uv])) t) : PartSays (.iface 159 (.agg #[.iface tv uv])) (2, t) := by
  intro hlen least w hle hL
  have hp : Sp.part (2, t) least = t := by unfold Sp.part; rw [if_neg (by simp; omega)]
  rw [hp]
  have hm := m_neg (.iface tv uv)
  have hd : ¬ (2 : Int) < (least : Int) := by omega
  go_enter Tryz.func77, Tryz.ntmps77
  go_wp2_with fail
  refine (lvl_neg tv uv _).mono ?_
  rintro e w1 ⟨rfl, hb1⟩
  go_wp2_with fail
  refine (hs hlen w1 (hL.below hb1 (hL.size))).mono ?_
  rintro e w2 ⟨rfl, hb2⟩
  go_wp2_with fail
  go_ret
  exact ⟨rfl, hb1.trans (hb2.mono hb1.size)⟩

theorem cat_bytes (a b : Sp.Bs) : (⟨a.toArray⟩ ++ ⟨b.toArray⟩ : ByteArray) = ⟨(a ++ b).toArray⟩ := by
  apply bytes_ext
  rw [Joins.data_append]

theorem part_le (x : Nat × Sp.Bs) (l : Nat) : x.2.length ≤ (Sp.part x l).length ∧ (Sp.part x l).length ≤ x.2.length + 2 := by
  unfold Sp.part
  split
  · simp only [List.length_append, List.length_cons, List.length_nil]; omega
  · omega

theorem neg_sum (tv : TypeId) (uv : Value) (x : Nat × Sp.Bs) (hs : PartSays (.iface tv uv) x) : SumSays (.iface 159 (.agg #[.iface tv uv])) ([45] ++ Sp.part x 2) := by
  intro hlen w hL
  have h1 := ta_neg_num (.agg #[.iface tv uv])
  have h2 := ta_neg_name (.agg #[.iface tv uv])
  have h3 := ta_neg_neg (.agg #[.iface tv uv])
  have hpl := part_le x 2
  have hb : 1 + (Sp.part x 2).length ≤ 2000000 := by simp at hlen; omega
  have hl2 : x.2.length ≤ 2000000 := by omega
  have hc : ∀ w, Laid w → Calls Tryz.prog 77 #[.iface tv uv, .int .i64 2] w fun e w' => e = .returned (.string ⟨(Sp.part x 2).toArray⟩) ∧ Below w.heap.size w w' := fun w hL => hs hl2 2 w (by omega) hL
  have hLw := fun o => hL.below ((Below.refl w.heap.size w).alloc (Nat.le_refl _) o) hL.size
  generalize Sp.part x 2 = p at *
  go_enter Tryz.func58, Tryz.ntmps58
  go_wp2_with fail
  refine (hc _ (hLw _)).mono ?_
  rintro e w1 ⟨rfl, hb1⟩
  go_wp2_with fail
  go_ret
  exact ⟨ret_str (cat_bytes [45] p), ((Below.refl w.heap.size w).alloc (Nat.le_refl _) _).trans (hb1.mono (by simp))⟩

end Go.Proofs.YtjkllmiikdlhhaaGreatDoor
