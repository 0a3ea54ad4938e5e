/- The law's own tight: what it writes. -/
import Derived.Test.YtiopfihjmkfdmaaGreatDoorGWide
namespace Go.Proofs.YtiopfihjmkfdmaaGreatDoor
open Go.RowKit
set_option maxRecDepth 100000
set_option maxHeartbeats 2000000

theorem isLet_false {c : UInt8} (h : c.toNat < 97 ∨ 122 < c.toNat) : Sp.isLet c = false := by
  unfold Sp.isLet
  simp only [Bool.and_eq_false_iff, decide_eq_false_iff_not]
  omega
theorem isLet_true {c : UInt8} (h : 97 ≤ c.toNat) (h2 : c.toNat ≤ 122) : Sp.isLet c = true := by
  unfold Sp.isLet
  simp only [Bool.and_eq_true, decide_eq_true_eq]
  omega

/-- one round's end -/
theorem tight_keep {s T X : ByteArray} {k : Nat} (hlt : k < s.size) (hX : X = s.extract k (k + 1)) (hT : T = ⟨(Sp.tightTo s.data.toList k).toArray⟩) (hk : Sp.keeps s.data.toList k = true) : T ++ X = ⟨(Sp.tightTo s.data.toList (k + 1)).toArray⟩ := by
  apply bytes_ext
  rw [Joins.data_append, hX, extract_one s k hlt, hT]
  simp only [Sp.tightTo, hk, if_true, getD_at s k hlt]
theorem tight_drop {s T : ByteArray} {k : Nat} (hT : T = ⟨(Sp.tightTo s.data.toList k).toArray⟩) (hk : Sp.keeps s.data.toList k = false) : T = ⟨(Sp.tightTo s.data.toList (k + 1)).toArray⟩ := by
  rw [hT]
  simp [Sp.tightTo, hk]

theorem tight_calls (s : ByteArray) (w : World) (hs : s.size ≤ 400) :
    Calls Tryz.prog 21 #[.string s] w fun e w' => e = .returned (.string ⟨(Sp.tight s.data.toList).toArray⟩) ∧ w' = w := by
  go_enter Tryz.func21, Tryz.ntmps21
  go_wp2
  go_loop [3, 4] (fun a b => ∃ (k : Nat) (T : ByteArray), k ≤ s.size ∧ Hid (T = ⟨(Sp.tightTo s.data.toList k).toArray⟩) ∧ T.size ≤ k ∧ a = .string T ∧ b = .int .i64 k) (fun _ b => s.size - (intOf b).toNat)
  case atStart => exact ⟨0, ⟨#[]⟩, Nat.zero_le _, rfl, by simp [ByteArray.size], rfl, rfl⟩
  case round =>
    obtain ⟨k, T, hk, hT, hTs, rfl, rfl⟩ := hrel
    by_cases hlt : k < s.size
    · obtain ⟨X, hX⟩ : ∃ X : ByteArray, Hid (X = s.extract k (k + 1)) := ⟨_, rfl⟩
      have hXs : X.size = 1 := by rw [hX.out, extract_one s k hlt]; rfl
      by_cases hb : s[k].toNat = 32 ∨ s[k].toNat = 10
      · have hbl : Sp.isBlank s[k] = true := by
          unfold Sp.isBlank
          rcases hb with h | h
          · have : s[k] = 32 := UInt8.toNat_inj.1 h
            rw [this]; decide
          · have : s[k] = 10 := UInt8.toNat_inj.1 h
            rw [this]; decide
        rcases Nat.eq_zero_or_pos k with h0 | h0
        · subst h0
          have hd : Hid (T = ⟨(Sp.tightTo s.data.toList (0 + 1)).toArray⟩) := tight_drop hT.out (by rw [keeps_at s 0 hlt, hbl]; simp [wordAt])
          rcases hb with h | h
          · go_wp2
            go_round
            case rel => exact ⟨0 + 1, T, by omega, hd, by omega, rfl, by go_num⟩
            case measure => simp [intOf]; omega
          · go_wp2
            go_round
            case rel => exact ⟨0 + 1, T, by omega, hd, by omega, rfl, by go_num⟩
            case measure => simp [intOf]; omega
        · obtain ⟨j, rfl⟩ : ∃ j, k = j + 1 := ⟨k - 1, by omega⟩
          by_cases hA : j + 1 + 1 < s.size
          · have gp : s.data.toList.getD (j + 1 - 1) 0 = s[j] := getD_at s j (by omega)
            have gn : s.data.toList.getD (j + 1 + 1) 0 = s[j + 1 + 1] := getD_at s (j + 1 + 1) hA
            by_cases hc0 : s[j].toNat < 97
            · have hw : wordAt s (j + 1) = false := by
                unfold wordAt; rw [gp, isLet_false (.inl hc0)]; simp
              have hd : Hid (T = ⟨(Sp.tightTo s.data.toList (j + 1 + 1)).toArray⟩) := tight_drop hT.out (by rw [keeps_at s (j + 1) hlt, hbl]; simp [hw])
              clear hw hbl
              rcases hb with h | h
              · go_wp2
                go_round
                case rel => exact ⟨j + 1 + 1, T, by omega, hd, by omega, rfl, by go_num⟩
                case measure => simp [intOf]; omega
              · go_wp2
                go_round
                case rel => exact ⟨j + 1 + 1, T, by omega, hd, by omega, rfl, by go_num⟩
                case measure => simp [intOf]; omega
            · skip
              by_cases hc1 : 122 < s[j].toNat
              · have hw : wordAt s (j + 1) = false := by
                  unfold wordAt; rw [gp, isLet_false (.inr hc1)]; simp
                have hd : Hid (T = ⟨(Sp.tightTo s.data.toList (j + 1 + 1)).toArray⟩) := tight_drop hT.out (by rw [keeps_at s (j + 1) hlt, hbl]; simp [hw])
                clear hw hbl
                rcases hb with h | h
                · go_wp2
                  go_round
                  case rel => exact ⟨j + 1 + 1, T, by omega, hd, by omega, rfl, by go_num⟩
                  case measure => simp [intOf]; omega
                · go_wp2
                  go_round
                  case rel => exact ⟨j + 1 + 1, T, by omega, hd, by omega, rfl, by go_num⟩
                  case measure => simp [intOf]; omega
              · skip
                by_cases hc2 : s[j + 1 + 1].toNat < 97
                · have hw : wordAt s (j + 1) = false := by
                    unfold wordAt; rw [gn, isLet_false (.inl hc2)]; simp
                  have hd : Hid (T = ⟨(Sp.tightTo s.data.toList (j + 1 + 1)).toArray⟩) := tight_drop hT.out (by rw [keeps_at s (j + 1) hlt, hbl]; simp [hw])
                  clear hw hbl
                  rcases hb with h | h
                  · go_wp2
                    go_round
                    case rel => exact ⟨j + 1 + 1, T, by omega, hd, by omega, rfl, by go_num⟩
                    case measure => simp [intOf]; omega
                  · go_wp2
                    go_round
                    case rel => exact ⟨j + 1 + 1, T, by omega, hd, by omega, rfl, by go_num⟩
                    case measure => simp [intOf]; omega
                · skip
                  by_cases hc3 : 122 < s[j + 1 + 1].toNat
                  · have hw : wordAt s (j + 1) = false := by
                      unfold wordAt; rw [gn, isLet_false (.inr hc3)]; simp
                    have hd : Hid (T = ⟨(Sp.tightTo s.data.toList (j + 1 + 1)).toArray⟩) := tight_drop hT.out (by rw [keeps_at s (j + 1) hlt, hbl]; simp [hw])
                    clear hw hbl
                    rcases hb with h | h
                    · go_wp2
                      go_round
                      case rel => exact ⟨j + 1 + 1, T, by omega, hd, by omega, rfl, by go_num⟩
                      case measure => simp [intOf]; omega
                    · go_wp2
                      go_round
                      case rel => exact ⟨j + 1 + 1, T, by omega, hd, by omega, rfl, by go_num⟩
                      case measure => simp [intOf]; omega
                  · skip
                    have hw : wordAt s (j + 1) = true := by
                      unfold wordAt; rw [gp, gn, isLet_true (c := s[j]) (by omega) (by omega), isLet_true (c := s[j + 1 + 1]) (by omega) (by omega)]; simp [hA]
                    have hd : Hid (T ++ X = ⟨(Sp.tightTo s.data.toList (j + 1 + 1)).toArray⟩) := tight_keep hlt hX.out hT.out (by rw [keeps_at s (j + 1) hlt, hbl]; simp [hw])
                    clear hw hbl
                    rcases hb with h | h
                    · go_wp2
                      go_round
                      case rel => exact ⟨j + 1 + 1, T ++ X, by omega, hd, by simp only [ByteArray.size_append]; omega, by rw [hX.out], by go_num⟩
                      case measure => simp [intOf]; omega
                    · go_wp2
                      go_round
                      case rel => exact ⟨j + 1 + 1, T ++ X, by omega, hd, by simp only [ByteArray.size_append]; omega, by rw [hX.out], by go_num⟩
                      case measure => simp [intOf]; omega
          · have hw : wordAt s (j + 1) = false := by
              unfold wordAt; simp [hA]
            have hd : Hid (T = ⟨(Sp.tightTo s.data.toList (j + 1 + 1)).toArray⟩) := tight_drop hT.out (by rw [keeps_at s (j + 1) hlt, hbl]; simp [hw])
            clear hw hbl
            rcases hb with h | h
            · go_wp2
              go_round
              case rel => exact ⟨j + 1 + 1, T, by omega, hd, by omega, rfl, by go_num⟩
              case measure => simp [intOf]; omega
            · go_wp2
              go_round
              case rel => exact ⟨j + 1 + 1, T, by omega, hd, by omega, rfl, by go_num⟩
              case measure => simp [intOf]; omega
      · have hbl : Sp.isBlank s[k] = false := by
          unfold Sp.isBlank
          simp only [Bool.or_eq_false_iff, beq_eq_false_iff_ne, ne_eq]
          exact ⟨fun e => hb (.inl (by rw [e]; rfl)), fun e => hb (.inr (by rw [e]; rfl))⟩
        have q1 : ((s[k].toNat : Int) == 32) = false := by simp; omega
        have q2 : ((s[k].toNat : Int) == 10) = false := by simp; omega
        rcases Nat.eq_zero_or_pos k with h0 | h0
        · subst h0
          have hd : Hid (T ++ X = ⟨(Sp.tightTo s.data.toList (0 + 1)).toArray⟩) := tight_keep hlt hX.out hT.out (by rw [keeps_at s 0 hlt, hbl]; simp)
          go_wp2
          go_round
          case rel => exact ⟨0 + 1, T ++ X, by omega, hd, by simp only [ByteArray.size_append]; omega, by rw [hX.out], by go_num⟩
          case measure => simp [intOf]; omega
        · obtain ⟨j, rfl⟩ : ∃ j, k = j + 1 := ⟨k - 1, by omega⟩
          by_cases hA : j + 1 + 1 < s.size
          · have gp : s.data.toList.getD (j + 1 - 1) 0 = s[j] := getD_at s j (by omega)
            have gn : s.data.toList.getD (j + 1 + 1) 0 = s[j + 1 + 1] := getD_at s (j + 1 + 1) hA
            by_cases hc0 : s[j].toNat < 97
            · have hw : wordAt s (j + 1) = false := by
                unfold wordAt; rw [gp, isLet_false (.inl hc0)]; simp
              have hd : Hid (T ++ X = ⟨(Sp.tightTo s.data.toList (j + 1 + 1)).toArray⟩) := tight_keep hlt hX.out hT.out (by rw [keeps_at s (j + 1) hlt, hbl]; simp [hw])
              clear hw hbl
              go_wp2
              go_round
              case rel => exact ⟨j + 1 + 1, T ++ X, by omega, hd, by simp only [ByteArray.size_append]; omega, by rw [hX.out], by go_num⟩
              case measure => simp [intOf]; omega
            · skip
              by_cases hc1 : 122 < s[j].toNat
              · have hw : wordAt s (j + 1) = false := by
                  unfold wordAt; rw [gp, isLet_false (.inr hc1)]; simp
                have hd : Hid (T ++ X = ⟨(Sp.tightTo s.data.toList (j + 1 + 1)).toArray⟩) := tight_keep hlt hX.out hT.out (by rw [keeps_at s (j + 1) hlt, hbl]; simp [hw])
                clear hw hbl
                go_wp2
                go_round
                case rel => exact ⟨j + 1 + 1, T ++ X, by omega, hd, by simp only [ByteArray.size_append]; omega, by rw [hX.out], by go_num⟩
                case measure => simp [intOf]; omega
              · skip
                by_cases hc2 : s[j + 1 + 1].toNat < 97
                · have hw : wordAt s (j + 1) = false := by
                    unfold wordAt; rw [gn, isLet_false (.inl hc2)]; simp
                  have hd : Hid (T ++ X = ⟨(Sp.tightTo s.data.toList (j + 1 + 1)).toArray⟩) := tight_keep hlt hX.out hT.out (by rw [keeps_at s (j + 1) hlt, hbl]; simp [hw])
                  clear hw hbl
                  go_wp2
                  go_round
                  case rel => exact ⟨j + 1 + 1, T ++ X, by omega, hd, by simp only [ByteArray.size_append]; omega, by rw [hX.out], by go_num⟩
                  case measure => simp [intOf]; omega
                · skip
                  by_cases hc3 : 122 < s[j + 1 + 1].toNat
                  · have hw : wordAt s (j + 1) = false := by
                      unfold wordAt; rw [gn, isLet_false (.inr hc3)]; simp
                    have hd : Hid (T ++ X = ⟨(Sp.tightTo s.data.toList (j + 1 + 1)).toArray⟩) := tight_keep hlt hX.out hT.out (by rw [keeps_at s (j + 1) hlt, hbl]; simp [hw])
                    clear hw hbl
                    go_wp2
                    go_round
                    case rel => exact ⟨j + 1 + 1, T ++ X, by omega, hd, by simp only [ByteArray.size_append]; omega, by rw [hX.out], by go_num⟩
                    case measure => simp [intOf]; omega
                  · skip
                    have hw : wordAt s (j + 1) = true := by
                      unfold wordAt; rw [gp, gn, isLet_true (c := s[j]) (by omega) (by omega), isLet_true (c := s[j + 1 + 1]) (by omega) (by omega)]; simp [hA]
                    have hd : Hid (T ++ X = ⟨(Sp.tightTo s.data.toList (j + 1 + 1)).toArray⟩) := tight_keep hlt hX.out hT.out (by rw [keeps_at s (j + 1) hlt, hbl]; simp [hw])
                    clear hw hbl
                    go_wp2
                    go_round
                    case rel => exact ⟨j + 1 + 1, T ++ X, by omega, hd, by simp only [ByteArray.size_append]; omega, by rw [hX.out], by go_num⟩
                    case measure => simp [intOf]; omega
          · have hw : wordAt s (j + 1) = false := by
              unfold wordAt; simp [hA]
            have hd : Hid (T ++ X = ⟨(Sp.tightTo s.data.toList (j + 1 + 1)).toArray⟩) := tight_keep hlt hX.out hT.out (by rw [keeps_at s (j + 1) hlt, hbl]; simp [hw])
            clear hw hbl
            go_wp2
            go_round
            case rel => exact ⟨j + 1 + 1, T ++ X, by omega, hd, by simp only [ByteArray.size_append]; omega, by rw [hX.out], by go_num⟩
            case measure => simp [intOf]; omega
    · have hfin : Hid (T = (⟨(Sp.tight s.data.toList).toArray⟩ : ByteArray)) := by
        unfold Hid
        have e : s.data.toList.length = s.size := by simp
        rw [hT.out, Sp.tight, e, show k = s.size by omega]
      go_wp2
      go_ret
      exact ⟨ret_str hfin.out, rfl⟩

end Go.Proofs.YtiopfihjmkfdmaaGreatDoor


