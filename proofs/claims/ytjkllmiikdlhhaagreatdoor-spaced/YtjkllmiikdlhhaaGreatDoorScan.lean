/- THE SCANNER: (reader) isLetter, isDigit, run, signSize, measure, scan. -/
import Derived.Test.YtjkllmiikdlhhaaGreatDoorBase
import Derived.Test.YtjkllmiikdlhhaaGreatDoorShelf
import Derived.Lib.IndexAny
namespace Go.Proofs.YtjkllmiikdlhhaaGreatDoor
open Go.RowKit
set_option maxRecDepth 100000
set_option maxHeartbeats 400000

theorem isLetter_calls (c : UInt8) (w : World) :
    Calls Tryz.prog 52 #[.int .u8 c.toNat] w fun e w' => e = .returned (.bool (Sp.isLet c)) ∧ w' = w := by
  go_enter Tryz.func52, Tryz.ntmps52
  go_wp2
  all_goals
    go_ret
    exact ⟨ret_bool (by unfold Sp.isLet; rw [Bool.eq_iff_iff]; simp; omega), rfl⟩

theorem isDigit_calls (c : UInt8) (w : World) :
    Calls Tryz.prog 53 #[.int .u8 c.toNat] w fun e w' => e = .returned (.bool (Sp.isDig c)) ∧ w' = w := by
  go_enter Tryz.func53, Tryz.ntmps53
  go_wp2
  all_goals
    go_ret
    exact ⟨ret_bool (by unfold Sp.isDig; rw [Bool.eq_iff_iff]; simp; omega), rfl⟩

/-- 'the first k bytes meet p' -/
def FirstMeet (p : UInt8 → Bool) (l : Sp.Bs) (k : Nat) : Prop := ∀ j c, j < k → l[j]? = some c → p c = true

theorem FirstMeet.succ {p : UInt8 → Bool} {s : ByteArray} {k : Nat} (h : FirstMeet p s.data.toList k) (hk : k < s.size) (hp : p s[k] = true) : FirstMeet p s.data.toList (k + 1) := by
  intro j c hj hc
  by_cases e : j = k
  · subst e
    have : s.data.toList[j]? = some s[j] := by
      rw [Array.getElem?_toList]; exact Array.getElem?_eq_getElem hk
    rw [this] at hc
    cases hc; exact hp
  · exact h j c (by omega) hc

theorem headRun_of (p : UInt8 → Bool) : ∀ (l : Sp.Bs) (k : Nat), k ≤ l.length → FirstMeet p l k → (∀ c, l[k]? = some c → p c = false) → Sp.headRun p l = k
  | [], k, hk, _, _ => by simp at hk; subst hk; rfl
  | c :: r, 0, _, _, hs => by
    rw [Sp.headRun_cons, hs c (by simp)]; rfl
  | c :: r, k + 1, hk, hm, hs => by
    rw [Sp.headRun_cons, hm 0 c (by omega) (by simp)]
    have := headRun_of p r k (by simpa using hk) (fun j d hj hd => hm (j + 1) d (by omega) (by simpa using hd)) (fun d hd => hs d (by simpa using hd))
    simp [this]

theorem byte_at (s : ByteArray) (k : Nat) (h : k < s.size) : s.data.toList[k]? = some s[k] := by
  rw [Array.getElem?_toList]; exact Array.getElem?_eq_getElem h

theorem byte_none (s : ByteArray) (k : Nat) (h : ¬ k < s.size) : s.data.toList[k]? = none := by
  rw [Array.getElem?_toList]; exact Array.getElem?_eq_none (by have : s.data.size = s.size := rfl; omega)

theorem run_calls_letters (s : ByteArray) (w : World) (hs : s.size ≤ 400) :
    Calls Tryz.prog 51 #[.string s, .func (Fn.func 52) #[] #[]] w fun e w' => e = .returned (.int .i64 (Sp.headRun Sp.isLet s.data.toList)) ∧ w' = w := by
  go_enter Tryz.func51, Tryz.ntmps51
  go_wp2
  go_loop [5] (fun n => ∃ k : Nat, k ≤ s.size ∧ Hid (FirstMeet Sp.isLet s.data.toList k) ∧ n = .int .i64 k) (fun i => s.size - (intOf i).toNat)
  case atStart => exact ⟨0, Nat.zero_le _, fun _ _ h => absurd h (Nat.not_lt_zero _), rfl⟩
  case round =>
    obtain ⟨k, hk, hm, rfl⟩ := hrel
    by_cases hlt : k < s.size
    · go_wp2_with fail
      refine (isLetter_calls s[k] _).mono ?_
      rintro e w' ⟨rfl, rfl⟩
      by_cases hpk : Sp.isLet s[k] = true
      · have hm1 : Hid (FirstMeet Sp.isLet s.data.toList (k + 1)) := hm.out.succ hlt hpk
        go_wp2
        go_round
        case rel => exact ⟨k + 1, by omega, hm1, by go_num⟩
        case measure => simp [intOf]; omega
      · have hpk' : Sp.isLet s[k] = false := by simpa using hpk
        have hr : Hid (Sp.headRun Sp.isLet s.data.toList = k) := headRun_of _ _ _ (by simpa using hk) hm.out (fun c hc => by rw [byte_at s k hlt] at hc; cases hc; exact hpk')
        go_wp2
        go_ret
        exact ⟨ret_int (by rw [hr.out]), rfl⟩
    · have hr : Hid (Sp.headRun Sp.isLet s.data.toList = k) := headRun_of _ _ _ (by simpa using hk) hm.out (fun c hc => by rw [byte_none s k hlt] at hc; cases hc)
      go_wp2
      go_ret
      exact ⟨ret_int (by rw [hr.out]), rfl⟩

theorem run_calls_digits (s : ByteArray) (w : World) (hs : s.size ≤ 400) :
    Calls Tryz.prog 51 #[.string s, .func (Fn.func 53) #[] #[]] w fun e w' => e = .returned (.int .i64 (Sp.headRun Sp.isDig s.data.toList)) ∧ w' = w := by
  go_enter Tryz.func51, Tryz.ntmps51
  go_wp2
  go_loop [5] (fun n => ∃ k : Nat, k ≤ s.size ∧ Hid (FirstMeet Sp.isDig s.data.toList k) ∧ n = .int .i64 k) (fun i => s.size - (intOf i).toNat)
  case atStart => exact ⟨0, Nat.zero_le _, fun _ _ h => absurd h (Nat.not_lt_zero _), rfl⟩
  case round =>
    obtain ⟨k, hk, hm, rfl⟩ := hrel
    by_cases hlt : k < s.size
    · go_wp2_with fail
      refine (isDigit_calls s[k] _).mono ?_
      rintro e w' ⟨rfl, rfl⟩
      by_cases hpk : Sp.isDig s[k] = true
      · have hm1 : Hid (FirstMeet Sp.isDig s.data.toList (k + 1)) := hm.out.succ hlt hpk
        go_wp2
        go_round
        case rel => exact ⟨k + 1, by omega, hm1, by go_num⟩
        case measure => simp [intOf]; omega
      · have hpk' : Sp.isDig s[k] = false := by simpa using hpk
        have hr : Hid (Sp.headRun Sp.isDig s.data.toList = k) := headRun_of _ _ _ (by simpa using hk) hm.out (fun c hc => by rw [byte_at s k hlt] at hc; cases hc; exact hpk')
        go_wp2
        go_ret
        exact ⟨ret_int (by rw [hr.out]), rfl⟩
    · have hr : Hid (Sp.headRun Sp.isDig s.data.toList = k) := headRun_of _ _ _ (by simpa using hk) hm.out (fun c hc => by rw [byte_none s k hlt] at hc; cases hc)
      go_wp2
      go_ret
      exact ⟨ret_int (by rw [hr.out]), rfl⟩

theorem idx_yes (t : ByteArray) (c : UInt8) (w : World) (h : c ∈ t.data.toList) :
    Calls Tryz.prog 69 #[.string t, .int .u8 c.toNat] w fun e w' => ∃ n : Nat, e = .returned (.int .i64 n) ∧ w' = w := by
  refine (Tryz.strings_IndexByte t c.toNat w).mono ?_
  rintro e w' ⟨rfl, rfl⟩
  have hc : ((c.toNat : Int)).toNat.toUInt8 = c := by simp
  have := Lib.contains_iff_indexByte t.data.toList c
  rw [List.contains_iff_mem.2 h] at this
  have h0 : 0 ≤ Lib.indexByte t.data.toList c := by simpa using this.symm
  exact ⟨(Lib.indexByte t.data.toList c).toNat, by rw [hc, Int.toNat_of_nonneg h0], rfl⟩

theorem idx_no (t : ByteArray) (c : UInt8) (w : World) (h : c ∉ t.data.toList) :
    Calls Tryz.prog 69 #[.string t, .int .u8 c.toNat] w fun e w' => e = .returned (.int .i64 (-1)) ∧ w' = w := by
  refine (Tryz.strings_IndexByte t c.toNat w).mono ?_
  rintro e w' ⟨rfl, rfl⟩
  have hc : ((c.toNat : Int)).toNat.toUInt8 = c := by simp
  have := Lib.contains_iff_indexByte t.data.toList c
  have hn : t.data.toList.contains c = false := by
    cases hh : t.data.toList.contains c
    · rfl
    · exact absurd (List.contains_iff_mem.1 hh) h
  rw [hn] at this
  have h0 : ¬ 0 ≤ Lib.indexByte t.data.toList c := by simpa using this.symm
  have h1 := Lib.indexByte_ge t.data.toList c
  exact ⟨ret_int (by rw [hc]; omega), rfl⟩

theorem signLen_one (s : ByteArray) (h0 : 0 < s.size) (h1 : ¬ 1 < s.size) : Sp.signLen s.data.toList = if s[0] ∈ Sp.ones then 1 else 0 := by
  have e : s.data.toList = [s[0]] := by
    apply List.ext_getElem?
    intro i
    match i with
    | 0 => rw [byte_at s 0 h0]; rfl
    | i + 1 => rw [byte_none s (i + 1) (by omega)]; rfl
  rw [e, Sp.signLen_cons]
  simp

theorem signLen_more (s : ByteArray) (h1 : 1 < s.size) : Sp.signLen s.data.toList = if s[1].toNat = 61 ∧ s[0] ∈ Sp.twos then 2 else if s[0] ∈ Sp.ones then 1 else 0 := by
  obtain ⟨c, r, e⟩ : ∃ c r, s.data.toList = c :: r := by
    cases h : s.data.toList with
    | nil => have := byte_at s 0 (by omega); rw [h] at this; cases this
    | cons c r => exact ⟨c, r, rfl⟩
  have h0' := byte_at s 0 (by omega)
  have h1' := byte_at s 1 h1
  rw [e] at h0' h1' ⊢
  simp at h0' h1'
  have e1 : s[1].toNat = 61 ↔ s[1] = 61 := ⟨fun h => UInt8.toNat_inj.1 h, fun h => by rw [h]; rfl⟩
  rw [Sp.signLen_cons, List.head?_eq_getElem?, h1', h0']
  simp only [Option.some.injEq, e1]

theorem signSize_calls (s : ByteArray) (w : World) (h0 : 0 < s.size) (hs : s.size ≤ 400) :
    Calls Tryz.prog 54 #[.string s] w fun e w' => e = .returned (.int .i64 (Sp.signLen s.data.toList)) ∧ w' = w := by
  by_cases h1 : 1 < s.size
  · have hf : Hid (Sp.signLen s.data.toList = if s[1].toNat = 61 ∧ s[0] ∈ Sp.twos then 2 else if s[0] ∈ Sp.ones then 1 else 0) := signLen_more s h1
    by_cases h2 : s[1].toNat = 61
    · by_cases h3 : s[0] ∈ Sp.twos
      · have hr : Hid (Sp.signLen s.data.toList = 2) := by unfold Hid; rw [hf.out, if_pos ⟨h2, h3⟩]
        have H3 := h3
        clear hf h3
        go_enter Tryz.func54, Tryz.ntmps54
        go_wp2_with fail
        refine (idx_yes _ _ _ H3).mono ?_
        rintro e w' ⟨n, rfl, rfl⟩
        go_wp2_with fail
        go_ret
        exact ⟨ret_int (by rw [hr.out]; rfl), rfl⟩
      · by_cases h4 : s[0] ∈ Sp.ones
        · have hr : Hid (Sp.signLen s.data.toList = 1) := by unfold Hid; rw [hf.out, if_neg (fun h => h3 h.2), if_pos h4]
          have H3 := h3
          have H4 := h4
          clear hf h3 h4
          go_enter Tryz.func54, Tryz.ntmps54
          go_wp2_with fail
          refine (idx_no _ _ _ H3).mono ?_
          rintro e w' ⟨rfl, rfl⟩
          go_wp2_with fail
          refine (idx_yes _ _ _ H4).mono ?_
          rintro e w' ⟨n, rfl, rfl⟩
          go_wp2_with fail
          go_ret
          exact ⟨ret_int (by rw [hr.out]; rfl), rfl⟩
        · have hr : Hid (Sp.signLen s.data.toList = 0) := by unfold Hid; rw [hf.out, if_neg (fun h => h3 h.2), if_neg h4]
          have H3 := h3
          have H4 := h4
          clear hf h3 h4
          go_enter Tryz.func54, Tryz.ntmps54
          go_wp2_with fail
          refine (idx_no _ _ _ H3).mono ?_
          rintro e w' ⟨rfl, rfl⟩
          go_wp2_with fail
          refine (idx_no _ _ _ H4).mono ?_
          rintro e w' ⟨rfl, rfl⟩
          go_wp2_with fail
          go_ret
          exact ⟨ret_int (by rw [hr.out]; rfl), rfl⟩
    · have h2' : ¬ ((s[1].toNat : Int) = 61) := by omega
      by_cases h4 : s[0] ∈ Sp.ones
      · have hr : Hid (Sp.signLen s.data.toList = 1) := by unfold Hid; rw [hf.out, if_neg (fun h => h2 h.1), if_pos h4]
        have H4 := h4
        clear hf h4 h2
        go_enter Tryz.func54, Tryz.ntmps54
        go_wp2_with fail
        refine (idx_yes _ _ _ H4).mono ?_
        rintro e w' ⟨n, rfl, rfl⟩
        go_wp2_with fail
        go_ret
        exact ⟨ret_int (by rw [hr.out]; rfl), rfl⟩
      · have hr : Hid (Sp.signLen s.data.toList = 0) := by unfold Hid; rw [hf.out, if_neg (fun h => h2 h.1), if_neg h4]
        have H4 := h4
        clear hf h4 h2
        go_enter Tryz.func54, Tryz.ntmps54
        go_wp2_with fail
        refine (idx_no _ _ _ H4).mono ?_
        rintro e w' ⟨rfl, rfl⟩
        go_wp2_with fail
        go_ret
        exact ⟨ret_int (by rw [hr.out]; rfl), rfl⟩
  · have hf : Hid (Sp.signLen s.data.toList = if s[0] ∈ Sp.ones then 1 else 0) := signLen_one s h0 h1
    by_cases h4 : s[0] ∈ Sp.ones
    · have hr : Hid (Sp.signLen s.data.toList = 1) := by unfold Hid; rw [hf.out, if_pos h4]
      have H4 := h4
      clear hf h4
      go_enter Tryz.func54, Tryz.ntmps54
      go_wp2_with fail
      refine (idx_yes _ _ _ H4).mono ?_
      rintro e w' ⟨n, rfl, rfl⟩
      go_wp2_with fail
      go_ret
      exact ⟨ret_int (by rw [hr.out]; rfl), rfl⟩
    · have hr : Hid (Sp.signLen s.data.toList = 0) := by unfold Hid; rw [hf.out, if_neg h4]
      have H4 := h4
      clear hf h4
      go_enter Tryz.func54, Tryz.ntmps54
      go_wp2_with fail
      refine (idx_no _ _ _ H4).mono ?_
      rintro e w' ⟨rfl, rfl⟩
      go_wp2_with fail
      go_ret
      exact ⟨ret_int (by rw [hr.out]; rfl), rfl⟩

end Go.Proofs.YtjkllmiikdlhhaaGreatDoor
