/- The law's own spaced and tight: what they write. -/
import Derived.Test.YtiopfihjmkfdmaaGreatDoorGScan
import Derived.Lib.SmallJoins
namespace Go.Proofs.YtiopfihjmkfdmaaGreatDoor
open Go.RowKit
set_option maxRecDepth 100000
set_option maxHeartbeats 1000000

namespace Sp
/-- more blanks where there are some -/
def wide (l : Bs) : Bs := l.flatMap fun c => if isBlank c then [c, 10, 32] else [c]
/-- is the byte at i kept? -/
def keeps (l : Bs) (i : Nat) : Bool := match l[i]? with
  | some c => !isBlank c || (decide (0 < i) && decide (i + 1 < l.length) && isLet (l.getD (i - 1) 0) && isLet (l.getD (i + 1) 0))
  | none => false
def tightTo (l : Bs) : Nat → Bs
  | 0 => []
  | i + 1 => tightTo l i ++ (if keeps l i then [l.getD i 0] else [])
/-- none but between two letters -/
def tight (l : Bs) : Bs := tightTo l l.length

theorem wide_append (a b : Bs) : wide (a ++ b) = wide a ++ wide b := by simp [wide]
theorem wide_len (l : Bs) : (wide l).length ≤ 3 * l.length := by
  induction l with
  | nil => simp [wide]
  | cons c l ih =>
    rw [show c :: l = [c] ++ l from rfl, wide_append, List.length_append]
    have : (wide [c]).length ≤ 3 := by unfold wide; simp only [List.flatMap_cons, List.flatMap_nil, List.append_nil]; split <;> simp
    simp only [List.length_append, List.length_cons, List.length_nil]
    omega
theorem tightTo_len (l : Bs) : ∀ i, (tightTo l i).length ≤ i := by
  intro i
  induction i with
  | zero => simp [tightTo]
  | succ i ih =>
    unfold tightTo
    rw [List.length_append]
    split <;> simp <;> omega
end Sp

theorem size_plus2 (T X : ByteArray) : (T ++ X ++ ⟨#[10, 32]⟩ : ByteArray).size = T.size + X.size + 2 := by
  have e2 : (⟨#[10, 32]⟩ : ByteArray).size = 2 := rfl
  simp only [ByteArray.size_append]; omega

theorem extract_one (s : ByteArray) (k : Nat) (h : k < s.size) : s.extract k (k + 1) = ⟨[s[k]].toArray⟩ := by
  have e : (s.extract k (k + 1)).data = s.data.extract k (k + 1) := by simp
  have : (s.extract k (k + 1)).data = #[s[k]] := by
    rw [e]
    apply Array.ext
    · simp
      have : s.data.size = s.size := rfl
      omega
    · intro i h1 h2
      simp at h2
      subst h2
      simp
      rfl
  cases hx : s.extract k (k + 1) with
  | mk d => rw [hx] at this; simp at this; rw [this]

theorem take_wide (s : ByteArray) (k : Nat) (h : k < s.size) : s.data.toList.take (k + 1) = s.data.toList.take k ++ [s[k]] := by
  rw [List.take_add_one, byte_at s k h]; rfl

theorem spaced_calls (s : ByteArray) (w : World) (hs : s.size ≤ 400) :
    Calls Tryz.prog 20 #[.string s] w fun e w' => e = .returned (.string ⟨(Sp.wide s.data.toList).toArray⟩) ∧ w' = w := by
  go_enter Tryz.func20, Tryz.ntmps20
  go_wp2
  go_loop [3, 4] (fun a b => ∃ (k : Nat) (T : ByteArray), k ≤ s.size ∧ Hid (T = ⟨(Sp.wide (s.data.toList.take k)).toArray⟩) ∧ T.size ≤ 3 * k ∧ a = .string T ∧ b = .int .i64 k) (fun _ b => s.size - (intOf b).toNat)
  case atStart => exact ⟨0, ⟨#[]⟩, Nat.zero_le _, rfl, by simp [ByteArray.size], rfl, rfl⟩
  case round =>
    obtain ⟨k, T, hk, hT, hTs, rfl, rfl⟩ := hrel
    by_cases hlt : k < s.size
    · have hx := extract_one s k hlt
      have htk := take_wide s k hlt
      obtain ⟨X, hX⟩ : ∃ X : ByteArray, Hid (X = s.extract k (k + 1)) := ⟨_, rfl⟩
      have hXs : X.size = 1 := by rw [hX.out, hx]; rfl
      have h1 : T.size + X.size ≤ 3 * k + 1 := by omega
      by_cases h32 : s[k].toNat = 32
      · have hstep : Hid (T ++ X ++ ⟨#[10, 32]⟩ = (⟨(Sp.wide (s.data.toList.take (k + 1))).toArray⟩ : ByteArray)) := by
          unfold Hid
          have hb : s[k] = 32 := UInt8.toNat_inj.1 h32
          apply bytes_ext
          rw [Joins.data_append, Joins.data_append, hX.out, hx, hT.out, htk, Sp.wide_append, hb]
          simp [Sp.wide, Sp.isBlank]
        clear hx htk
        go_wp2
        go_round
        case rel => exact ⟨k + 1, T ++ X ++ ⟨#[10, 32]⟩, by omega, hstep, by rw [size_plus2]; omega, by rw [hX.out], by go_num⟩
        case measure => simp [intOf]; omega
      · by_cases h10 : s[k].toNat = 10
        · have hstep : Hid (T ++ X ++ ⟨#[10, 32]⟩ = (⟨(Sp.wide (s.data.toList.take (k + 1))).toArray⟩ : ByteArray)) := by
            unfold Hid
            have hb : s[k] = 10 := UInt8.toNat_inj.1 h10
            apply bytes_ext
            rw [Joins.data_append, Joins.data_append, hX.out, hx, hT.out, htk, Sp.wide_append, hb]
            simp [Sp.wide, Sp.isBlank]
          clear hx htk
          go_wp2
          go_round
          case rel => exact ⟨k + 1, T ++ X ++ ⟨#[10, 32]⟩, by omega, hstep, by rw [size_plus2]; omega, by rw [hX.out], by go_num⟩
          case measure => simp [intOf]; omega
        · have hstep : Hid (T ++ X = (⟨(Sp.wide (s.data.toList.take (k + 1))).toArray⟩ : ByteArray)) := by
            unfold Hid
            have hb : Sp.isBlank s[k] = false := by
              unfold Sp.isBlank
              simp only [Bool.or_eq_false_iff, beq_eq_false_iff_ne, ne_eq]
              exact ⟨fun e => h32 (by rw [e]; rfl), fun e => h10 (by rw [e]; rfl)⟩
            apply bytes_ext
            rw [Joins.data_append, hX.out, hx, hT.out, htk, Sp.wide_append]
            simp [Sp.wide, hb]
          have q1 : ((s[k].toNat : Int) == 32) = false := by simp; omega
          have q2 : ((s[k].toNat : Int) == 10) = false := by simp; omega
          clear hx htk
          go_wp2
          go_round
          case rel => exact ⟨k + 1, T ++ X, by omega, hstep, by simp; omega, by rw [hX.out], by go_num⟩
          case measure => simp [intOf]; omega
    · have hfin : Hid (T = (⟨(Sp.wide s.data.toList).toArray⟩ : ByteArray)) := by
        unfold Hid
        rw [hT.out, List.take_of_length_le (by have : s.data.toList.length = s.size := by simp
                                               omega)]
      go_wp2
      go_ret
      exact ⟨ret_str hfin.out, rfl⟩

theorem getD_at (s : ByteArray) (k : Nat) (h : k < s.size) : s.data.toList.getD k 0 = s[k] := by
  rw [List.getD_eq_getElem?_getD, byte_at s k h]; rfl

/-- the law's test between letters, as it is walked -/
def wordAt (s : ByteArray) (k : Nat) : Bool := decide (0 < k) && decide (k + 1 < s.size) && Sp.isLet (s.data.toList.getD (k - 1) 0) && Sp.isLet (s.data.toList.getD (k + 1) 0)
theorem keeps_at (s : ByteArray) (k : Nat) (h : k < s.size) : Sp.keeps s.data.toList k = (!Sp.isBlank s[k] || wordAt s k) := by
  unfold Sp.keeps wordAt
  rw [byte_at s k h]
  simp

end Go.Proofs.YtiopfihjmkfdmaaGreatDoor


