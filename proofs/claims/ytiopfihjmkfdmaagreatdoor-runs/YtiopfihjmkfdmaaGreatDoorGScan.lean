/- THE SCANNER: (reader) isLetter, isDigit, run, signSize, measure, scan. -/
import Derived.Test.YtiopfihjmkfdmaaGreatDoorGBase
import Derived.Test.YtiopfihjmkfdmaaGreatDoorShelf
import Derived.Lib.IndexAny
namespace Go.Proofs.YtiopfihjmkfdmaaGreatDoor
open Go.RowKit
set_option maxRecDepth 100000
set_option maxHeartbeats 400000

theorem isLetter_calls (c : UInt8) (w : World) :
    Calls Tryz.prog 119 #[.int .u8 c.toNat] w fun e w' => e = .returned (.bool (Sp.isLet c)) ∧ w' = w := by
  go_enter Tryz.func119, Tryz.ntmps119
  go_wp2
  all_goals
    go_ret
    exact ⟨ret_bool (by unfold Sp.isLet; rw [Bool.eq_iff_iff]; simp; omega), rfl⟩

theorem isDigit_calls (c : UInt8) (w : World) :
    Calls Tryz.prog 120 #[.int .u8 c.toNat] w fun e w' => e = .returned (.bool (Sp.isDig c)) ∧ w' = w := by
  go_enter Tryz.func120, Tryz.ntmps120
  go_wp2
  all_goals
    go_ret
    exact ⟨ret_bool (by unfold Sp.isDig; rw [Bool.eq_iff_iff]; simp; omega), rfl⟩

/-- 'the first k bytes meet p' -/
def FirstMeet (p : UInt8 → Bool) (l : Sp.Bs) (k : Nat) : Prop := ∀ j c, j < k → l[j]? = some c → p c = true

theorem FirstMeet.succ {p : UInt8 → Bool} {s : ByteArray} {k : Nat} (h : FirstMeet p s.data.toList k) (hk : k < s.size) (hp : p s[k] = true) : FirstMeet p s.data.toList (k + 1) := by
  intro j c hj hc
  by_cases e : j = k
  · subst e
    have : s.data.toList[j]? = some s[j] := by
      rw [Array.getElem?_toList]; exact Array.getElem?_eq_getElem hk
    rw [this] at hc
    cases hc; exact hp
  · exact h j c (by omega) hc

theorem headRun_of (p : UInt8 → Bool) : ∀ (l : Sp.Bs) (k : Nat), k ≤ l.length → FirstMeet p l k → (∀ c, l[k]? = some c → p c = false) → Sp.headRun p l = k
  | [], k, hk, _, _ => by simp at hk; subst hk; rfl
  | c :: r, 0, _, _, hs => by
    rw [Sp.headRun_cons, hs c (by simp)]; rfl
  | c :: r, k + 1, hk, hm, hs => by
    rw [Sp.headRun_cons, hm 0 c (by omega) (by simp)]
    have := headRun_of p r k (by simpa using hk) (fun j d hj hd => hm (j + 1) d (by omega) (by simpa using hd)) (fun d hd => hs d (by simpa using hd))
    simp [this]

theorem byte_at (s : ByteArray) (k : Nat) (h : k < s.size) : s.data.toList[k]? = some s[k] := by
  rw [Array.getElem?_toList]; exact Array.getElem?_eq_getElem h

theorem byte_none (s : ByteArray) (k : Nat) (h : ¬ k < s.size) : s.data.toList[k]? = none := by
  rw [Array.getElem?_toList]; exact Array.getElem?_eq_none (by have : s.data.size = s.size := rfl; omega)

theorem run_calls_letters (s : ByteArray) (w : World) (hs : s.size ≤ 400) :
    Calls Tryz.prog 118 #[.string s, .func (Fn.func 119) #[] #[]] w fun e w' => e = .returned (.int .i64 (Sp.headRun Sp.isLet s.data.toList)) ∧ w' = w := by
  go_enter Tryz.func118, Tryz.ntmps118
  go_wp2
  go_loop [5] (fun n => ∃ k : Nat, k ≤ s.size ∧ Hid (FirstMeet Sp.isLet s.data.toList k) ∧ n = .int .i64 k) (fun i => s.size - (intOf i).toNat)
  case atStart => exact ⟨0, Nat.zero_le _, fun _ _ h => absurd h (Nat.not_lt_zero _), rfl⟩
  case round =>
    obtain ⟨k, hk, hm, rfl⟩ := hrel
    by_cases hlt : k < s.size
    · go_wp2_with fail
      refine (isLetter_calls s[k] _).mono ?_
      rintro e w' ⟨rfl, rfl⟩
      by_cases hpk : Sp.isLet s[k] = true
      · have hm1 : Hid (FirstMeet Sp.isLet s.data.toList (k + 1)) := hm.out.succ hlt hpk
        go_wp2
        go_round
        case rel => exact ⟨k + 1, by omega, hm1, by go_num⟩
        case measure => simp [intOf]; omega
      · have hpk' : Sp.isLet s[k] = false := by simpa using hpk
        have hr : Hid (Sp.headRun Sp.isLet s.data.toList = k) := headRun_of _ _ _ (by simpa using hk) hm.out (fun c hc => by rw [byte_at s k hlt] at hc; cases hc; exact hpk')
        go_wp2
        go_ret
        exact ⟨ret_int (by rw [hr.out]), rfl⟩
    · have hr : Hid (Sp.headRun Sp.isLet s.data.toList = k) := headRun_of _ _ _ (by simpa using hk) hm.out (fun c hc => by rw [byte_none s k hlt] at hc; cases hc)
      go_wp2
      go_ret
      exact ⟨ret_int (by rw [hr.out]), rfl⟩

theorem run_calls_digits (s : ByteArray) (w : World) (hs : s.size ≤ 400) :
    Calls Tryz.prog 118 #[.string s, .func (Fn.func 120) #[] #[]] w fun e w' => e = .returned (.int .i64 (Sp.headRun Sp.isDig s.data.toList)) ∧ w' = w := by
  go_enter Tryz.func118, Tryz.ntmps118
  go_wp2
  go_loop [5] (fun n => ∃ k : Nat, k ≤ s.size ∧ Hid (FirstMeet Sp.isDig s.data.toList k) ∧ n = .int .i64 k) (fun i => s.size - (intOf i).toNat)
  case atStart => exact ⟨0, Nat.zero_le _, fun _ _ h => absurd h (Nat.not_lt_zero _), rfl⟩
  case round =>
    obtain ⟨k, hk, hm, rfl⟩ := hrel
    by_cases hlt : k < s.size
    · go_wp2_with fail
      refine (isDigit_calls s[k] _).mono ?_
      rintro e w' ⟨rfl, rfl⟩
      by_cases hpk : Sp.isDig s[k] = true
      · have hm1 : Hid (FirstMeet Sp.isDig s.data.toList (k + 1)) := hm.out.succ hlt hpk
        go_wp2
        go_round
        case rel => exact ⟨k + 1, by omega, hm1, by go_num⟩
        case measure => simp [intOf]; omega
      · have hpk' : Sp.isDig s[k] = false := by simpa using hpk
        have hr : Hid (Sp.headRun Sp.isDig s.data.toList = k) := headRun_of _ _ _ (by simpa using hk) hm.out (fun c hc => by rw [byte_at s k hlt] at hc; cases hc; exact hpk')
        go_wp2
        go_ret
        exact ⟨ret_int (by rw [hr.out]), rfl⟩
    · have hr : Hid (Sp.headRun Sp.isDig s.data.toList = k) := headRun_of _ _ _ (by simpa using hk) hm.out (fun c hc => by rw [byte_none s k hlt] at hc; cases hc)
      go_wp2
      go_ret
      exact ⟨ret_int (by rw [hr.out]), rfl⟩

theorem idx_yes (t : ByteArray) (c : UInt8) (w : World) (h : c ∈ t.data.toList) :
    Calls Tryz.prog 163 #[.string t, .int .u8 c.toNat] w fun e w' => ∃ n : Nat, e = .returned (.int .i64 n) ∧ w' = w := by
  refine (Tryz.strings_IndexByte t c.toNat w).mono ?_
  rintro e w' ⟨rfl, rfl⟩
  have hc : ((c.toNat : Int)).toNat.toUInt8 = c := by simp
  have := Lib.contains_iff_indexByte t.data.toList c
  rw [List.contains_iff_mem.2 h] at this
  have h0 : 0 ≤ Lib.indexByte t.data.toList c := by simpa using this.symm
  exact ⟨(Lib.indexByte t.data.toList c).toNat, by rw [hc, Int.toNat_of_nonneg h0], rfl⟩

theorem idx_no (t : ByteArray) (c : UInt8) (w : World) (h : c ∉ t.data.toList) :
    Calls Tryz.prog 163 #[.string t, .int .u8 c.toNat] w fun e w' => e = .returned (.int .i64 (-1)) ∧ w' = w := by
  refine (Tryz.strings_IndexByte t c.toNat w).mono ?_
  rintro e w' ⟨rfl, rfl⟩
  have hc : ((c.toNat : Int)).toNat.toUInt8 = c := by simp
  have := Lib.contains_iff_indexByte t.data.toList c
  have hn : t.data.toList.contains c = false := by
    cases hh : t.data.toList.contains c
    · rfl
    · exact absurd (List.contains_iff_mem.1 hh) h
  rw [hn] at this
  have h0 : ¬ 0 ≤ Lib.indexByte t.data.toList c := by simpa using this.symm
  have h1 := Lib.indexByte_ge t.data.toList c
  exact ⟨ret_int (by rw [hc]; omega), rfl⟩

theorem signLen_one (s : ByteArray) (h0 : 0 < s.size) (h1 : ¬ 1 < s.size) : Sp.signLen s.data.toList = if s[0] ∈ Sp.ones then 1 else 0 := by
  have e : s.data.toList = [s[0]] := by
    apply List.ext_getElem?
    intro i
    match i with
    | 0 => rw [byte_at s 0 h0]; rfl
    | i + 1 => rw [byte_none s (i + 1) (by omega)]; rfl
  rw [e, Sp.signLen_cons]
  simp

theorem signLen_more (s : ByteArray) (h1 : 1 < s.size) : Sp.signLen s.data.toList = if s[1].toNat = 61 ∧ s[0] ∈ Sp.twos then 2 else if s[0] ∈ Sp.ones then 1 else 0 := by
  obtain ⟨c, r, e⟩ : ∃ c r, s.data.toList = c :: r := by
    cases h : s.data.toList with
    | nil => have := byte_at s 0 (by omega); rw [h] at this; cases this
    | cons c r => exact ⟨c, r, rfl⟩
  have h0' := byte_at s 0 (by omega)
  have h1' := byte_at s 1 h1
  rw [e] at h0' h1' ⊢
  simp at h0' h1'
  have e1 : s[1].toNat = 61 ↔ s[1] = 61 := ⟨fun h => UInt8.toNat_inj.1 h, fun h => by rw [h]; rfl⟩
  rw [Sp.signLen_cons, List.head?_eq_getElem?, h1', h0']
  simp only [Option.some.injEq, e1]

theorem signSize_calls (s : ByteArray) (w : World) (h0 : 0 < s.size) (hs : s.size ≤ 400) :
    Calls Tryz.prog 121 #[.string s] w fun e w' => e = .returned (.int .i64 (Sp.signLen s.data.toList)) ∧ w' = w := by
  by_cases h1 : 1 < s.size
  · have hf : Hid (Sp.signLen s.data.toList = if s[1].toNat = 61 ∧ s[0] ∈ Sp.twos then 2 else if s[0] ∈ Sp.ones then 1 else 0) := signLen_more s h1
    by_cases h2 : s[1].toNat = 61
    · by_cases h3 : s[0] ∈ Sp.twos
      · have hr : Hid (Sp.signLen s.data.toList = 2) := by unfold Hid; rw [hf.out, if_pos ⟨h2, h3⟩]
        have H3 := h3
        clear hf h3
        go_enter Tryz.func121, Tryz.ntmps121
        go_wp2_with fail
        refine (idx_yes _ _ _ H3).mono ?_
        rintro e w' ⟨n, rfl, rfl⟩
        go_wp2_with fail
        go_ret
        exact ⟨ret_int (by rw [hr.out]; rfl), rfl⟩
      · by_cases h4 : s[0] ∈ Sp.ones
        · have hr : Hid (Sp.signLen s.data.toList = 1) := by unfold Hid; rw [hf.out, if_neg (fun h => h3 h.2), if_pos h4]
          have H3 := h3
          have H4 := h4
          clear hf h3 h4
          go_enter Tryz.func121, Tryz.ntmps121
          go_wp2_with fail
          refine (idx_no _ _ _ H3).mono ?_
          rintro e w' ⟨rfl, rfl⟩
          go_wp2_with fail
          refine (idx_yes _ _ _ H4).mono ?_
          rintro e w' ⟨n, rfl, rfl⟩
          go_wp2_with fail
          go_ret
          exact ⟨ret_int (by rw [hr.out]; rfl), rfl⟩
        · have hr : Hid (Sp.signLen s.data.toList = 0) := by unfold Hid; rw [hf.out, if_neg (fun h => h3 h.2), if_neg h4]
          have H3 := h3
          have H4 := h4
          clear hf h3 h4
          go_enter Tryz.func121, Tryz.ntmps121
          go_wp2_with fail
          refine (idx_no _ _ _ H3).mono ?_
          rintro e w' ⟨rfl, rfl⟩
          go_wp2_with fail
          refine (idx_no _ _ _ H4).mono ?_
          rintro e w' ⟨rfl, rfl⟩
          go_wp2_with fail
          go_ret
          exact ⟨ret_int (by rw [hr.out]; rfl), rfl⟩
    · have h2' : ¬ ((s[1].toNat : Int) = 61) := by omega
      by_cases h4 : s[0] ∈ Sp.ones
      · have hr : Hid (Sp.signLen s.data.toList = 1) := by unfold Hid; rw [hf.out, if_neg (fun h => h2 h.1), if_pos h4]
        have H4 := h4
        clear hf h4 h2
        go_enter Tryz.func121, Tryz.ntmps121
        go_wp2_with fail
        refine (idx_yes _ _ _ H4).mono ?_
        rintro e w' ⟨n, rfl, rfl⟩
        go_wp2_with fail
        go_ret
        exact ⟨ret_int (by rw [hr.out]; rfl), rfl⟩
      · have hr : Hid (Sp.signLen s.data.toList = 0) := by unfold Hid; rw [hf.out, if_neg (fun h => h2 h.1), if_neg h4]
        have H4 := h4
        clear hf h4 h2
        go_enter Tryz.func121, Tryz.ntmps121
        go_wp2_with fail
        refine (idx_no _ _ _ H4).mono ?_
        rintro e w' ⟨rfl, rfl⟩
        go_wp2_with fail
        go_ret
        exact ⟨ret_int (by rw [hr.out]; rfl), rfl⟩
  · have hf : Hid (Sp.signLen s.data.toList = if s[0] ∈ Sp.ones then 1 else 0) := signLen_one s h0 h1
    by_cases h4 : s[0] ∈ Sp.ones
    · have hr : Hid (Sp.signLen s.data.toList = 1) := by unfold Hid; rw [hf.out, if_pos h4]
      have H4 := h4
      clear hf h4
      go_enter Tryz.func121, Tryz.ntmps121
      go_wp2_with fail
      refine (idx_yes _ _ _ H4).mono ?_
      rintro e w' ⟨n, rfl, rfl⟩
      go_wp2_with fail
      go_ret
      exact ⟨ret_int (by rw [hr.out]; rfl), rfl⟩
    · have hr : Hid (Sp.signLen s.data.toList = 0) := by unfold Hid; rw [hf.out, if_neg h4]
      have H4 := h4
      clear hf h4
      go_enter Tryz.func121, Tryz.ntmps121
      go_wp2_with fail
      refine (idx_no _ _ _ H4).mono ?_
      rintro e w' ⟨rfl, rfl⟩
      go_wp2_with fail
      go_ret
      exact ⟨ret_int (by rw [hr.out]; rfl), rfl⟩

end Go.Proofs.YtiopfihjmkfdmaaGreatDoor

/- THE SCANNER: (reader) measure, scan. -/
namespace Go.Proofs.YtiopfihjmkfdmaaGreatDoor
open Go.RowKit
set_option maxRecDepth 100000
set_option maxHeartbeats 400000

theorem measure_calls (s : ByteArray) (w : World) (hs : s.size ≤ 400) :
    Calls Tryz.prog 86 #[.string s] w fun e w' => e = .returned (.tuple #[.int .i64 (Sp.tokKind s.data.toList), .int .i64 (Sp.tokLen s.data.toList)]) ∧ w' = w := by
  cases hl : s.data.toList with
  | nil =>
    have hb : s.toList.isEmpty = true := by rw [ByteArray.toList_eq, hl]; rfl
    have HL : Hid (s.data.toList = []) := hl
    clear hl
    go_enter Tryz.func86, Tryz.ntmps86
    go_wp2_with fail
    go_ret2
    exact ⟨rfl, rfl⟩
  | cons c r =>
    have hb : s.toList.isEmpty = false := by rw [ByteArray.toList_eq, hl]; rfl
    have h0 : 0 < s.size := by
      have : s.data.toList.length = s.size := by simp
      rw [hl] at this; simp at this; omega
    have e1 : Sp.headRun Sp.isLet s.data.toList = if Sp.isLet c then Sp.headRun Sp.isLet r + 1 else 0 := by rw [hl, Sp.headRun_cons]
    have e2 : Sp.headRun Sp.isDig s.data.toList = if Sp.isDig c then Sp.headRun Sp.isDig r + 1 else 0 := by rw [hl, Sp.headRun_cons]
    by_cases hc : Sp.isLet c = true
    · have hk : Hid (Sp.tokKind (c :: r) = 2) := by unfold Hid; rw [Sp.tokKind_cons, if_pos hc]
      have hn : Hid (Sp.tokLen (c :: r) = Sp.headRun Sp.isLet s.data.toList) := by unfold Hid; rw [Sp.tokLen_cons, if_pos hc, hl]
      have hp : (0 : Int) < (Sp.headRun Sp.isLet s.data.toList : Nat) := by rw [e1, if_pos hc]; omega
      clear e1 e2 hl hc
      go_enter Tryz.func86, Tryz.ntmps86
      go_wp2_with fail
      refine (run_calls_letters s _ hs).mono ?_
      rintro e w' ⟨rfl, rfl⟩
      go_wp2_with fail
      go_ret2
      exact ⟨by rw [hk.out, hn.out]; rfl, rfl⟩
    · have hp : ((Sp.headRun Sp.isLet s.data.toList : Nat) : Int) = 0 := by rw [e1, if_neg hc]; rfl
      have Hp : Hid (((Sp.headRun Sp.isLet s.data.toList : Nat) : Int) = 0) := hp
      by_cases hd : Sp.isDig c = true
      · have hk : Hid (Sp.tokKind (c :: r) = 3) := by unfold Hid; rw [Sp.tokKind_cons, if_neg hc, if_pos hd]
        have hn : Hid (Sp.tokLen (c :: r) = Sp.headRun Sp.isDig s.data.toList) := by unfold Hid; rw [Sp.tokLen_cons, if_neg hc, if_pos hd, hl]
        have hp2 : (0 : Int) < (Sp.headRun Sp.isDig s.data.toList : Nat) := by rw [e2, if_pos hd]; omega
        clear e1 e2 hl hc hd hp
        go_enter Tryz.func86, Tryz.ntmps86
        go_wp2_with fail
        refine (run_calls_letters s _ hs).mono ?_
        rintro e w' ⟨rfl, rfl⟩
        rw [Hp.out]
        go_wp2_with fail
        refine (run_calls_digits s _ hs).mono ?_
        rintro e w' ⟨rfl, rfl⟩
        go_wp2_with fail
        go_ret2
        exact ⟨by rw [hk.out, hn.out]; rfl, rfl⟩
      · have hp2 : ((Sp.headRun Sp.isDig s.data.toList : Nat) : Int) = 0 := by rw [e2, if_neg hd]; rfl
        have Hp2 : Hid (((Sp.headRun Sp.isDig s.data.toList : Nat) : Int) = 0) := hp2
        have hn : Hid (Sp.tokLen (c :: r) = Sp.signLen s.data.toList) := by unfold Hid; rw [Sp.tokLen_cons, if_neg hc, if_neg hd, hl]
        by_cases hsg : 0 < Sp.signLen s.data.toList
        · have hk : Hid (Sp.tokKind (c :: r) = 4) := by unfold Hid; rw [Sp.tokKind_cons, if_neg hc, if_neg hd, if_pos (by rw [← hl]; exact hsg)]
          have hp3 : (0 : Int) < (Sp.signLen s.data.toList : Nat) := by omega
          clear e1 e2 hl hc hd hp hp2 hsg
          go_enter Tryz.func86, Tryz.ntmps86
          go_wp2_with fail
          refine (run_calls_letters s _ hs).mono ?_
          rintro e w' ⟨rfl, rfl⟩
          rw [Hp.out]
          go_wp2_with fail
          refine (run_calls_digits s _ hs).mono ?_
          rintro e w' ⟨rfl, rfl⟩
          rw [Hp2.out]
          go_wp2_with fail
          refine (signSize_calls s _ h0 hs).mono ?_
          rintro e w' ⟨rfl, rfl⟩
          go_wp2_with fail
          go_ret2
          exact ⟨by rw [hk.out, hn.out]; rfl, rfl⟩
        · have hk : Hid (Sp.tokKind (c :: r) = 0) := by unfold Hid; rw [Sp.tokKind_cons, if_neg hc, if_neg hd, if_neg (by rw [← hl]; exact hsg)]
          have Hp3 : Hid (((Sp.signLen s.data.toList : Nat) : Int) = 0) := by unfold Hid; omega
          clear e1 e2 hl hc hd hp hp2 hsg
          go_enter Tryz.func86, Tryz.ntmps86
          go_wp2_with fail
          refine (run_calls_letters s _ hs).mono ?_
          rintro e w' ⟨rfl, rfl⟩
          rw [Hp.out]
          go_wp2_with fail
          refine (run_calls_digits s _ hs).mono ?_
          rintro e w' ⟨rfl, rfl⟩
          rw [Hp2.out]
          go_wp2_with fail
          refine (signSize_calls s _ h0 hs).mono ?_
          rintro e w' ⟨rfl, rfl⟩
          rw [Hp3.out]
          go_wp2_with fail
          go_ret2
          exact ⟨by rw [hk.out, hn.out, Hp3.out]; rfl, rfl⟩

/-- the byte is a blank, as the walk asks it -/
theorem blank_iff (c : UInt8) : Sp.isBlank c = true ↔ ((c.toNat : Int) = 32 ∨ (c.toNat : Int) = 10) := by
  unfold Sp.isBlank
  rw [Bool.or_eq_true, beq_iff_eq, beq_iff_eq, ← UInt8.toNat_inj, ← UInt8.toNat_inj]
  show c.toNat = 32 ∨ c.toNat = 10 ↔ _
  omega

/-- 'from a on all is blank up to k' -/
def Blanks (l : Sp.Bs) (a k : Nat) : Prop := Sp.skip (l.drop a) = Sp.skip (l.drop k)

theorem Blanks.succ {s : ByteArray} {a k : Nat} (h : Blanks s.data.toList a k) (hk : k < s.size) (hb : Sp.isBlank s[k] = true) : Blanks s.data.toList a (k + 1) := by
  unfold Blanks at *
  rw [h]
  have : s.data.toList.drop k = s[k] :: s.data.toList.drop (k + 1) := by
    rw [List.drop_eq_getElem_cons (by simpa using hk)]; rfl
  rw [this]
  unfold Sp.skip
  rw [List.dropWhile_cons, if_pos hb]

theorem Blanks.stop {s : ByteArray} {a k : Nat} (h : Blanks s.data.toList a k) (hb : ∀ hk : k < s.size, Sp.isBlank s[k] = false) : Sp.skip (s.data.toList.drop a) = s.data.toList.drop k := by
  rw [h]
  by_cases hk : k < s.size
  · have : s.data.toList.drop k = s[k] :: s.data.toList.drop (k + 1) := by
      rw [List.drop_eq_getElem_cons (by simpa using hk)]; rfl
    rw [this]
    unfold Sp.skip
    rw [List.dropWhile_cons, if_neg (by rw [hb hk]; simp)]
  · rw [List.drop_of_length_le (by simpa using hk)]; rfl

/-- the token of what is left, as a value -/
def tokVal (s : ByteArray) (l : Sp.Bs) : Array Value := #[.int .i64 ((s.size - l.length : Nat) : Int), .int .i64 (Sp.tokKind l), .string ⟨(Sp.tok l).toArray⟩]

theorem bytes_ext {a b : ByteArray} (h : a.data.toList = b.data.toList) : a = b := by
  cases a; cases b; simp at h; simp [h]

theorem tokVal_of (s : ByteArray) (k : Nat) (hk : k ≤ s.size) : tokVal s (s.data.toList.drop k) = #[.int .i64 k, .int .i64 (Sp.tokKind (s.data.toList.drop k)), .string (s.extract k (k + Sp.tokLen (s.data.toList.drop k)))] := by
  unfold tokVal
  have h1 : s.size - (s.data.toList.drop k).length = k := by
    rw [List.length_drop]; have : s.data.toList.length = s.size := by simp
    omega
  have h2 : (⟨(Sp.tok (s.data.toList.drop k)).toArray⟩ : ByteArray) = s.extract k (k + Sp.tokLen (s.data.toList.drop k)) := by
    apply bytes_ext
    rw [Lib.extract_data]
    simp [Sp.tok]
  rw [h1, h2]

theorem extract_rest (s : ByteArray) (k : Nat) : (s.extract k s.size).data.toList = s.data.toList.drop k := by
  rw [Lib.extract_data]
  apply List.take_of_length_le
  simp

theorem tokLen_room (s : ByteArray) (k : Nat) (hk : k ≤ s.size) : k + Sp.tokLen (s.data.toList.drop k) ≤ s.size := by
  have := Sp.tokLen_le (s.data.toList.drop k)
  rw [List.length_drop] at this
  have h : s.data.toList.length = s.size := by simp
  omega

theorem scan_calls (s : ByteArray) (a : Nat) (w : World) (ha : a ≤ s.size) (hs : s.size ≤ 400) :
    Calls Tryz.prog 55 #[.string s, .int .i64 a] w fun e w' => e = .returned (.agg (tokVal s (Sp.skip (s.data.toList.drop a)))) ∧ Below w.heap.size w w' := by
  go_enter Tryz.func55, Tryz.ntmps55
  go_wp2
  go_loop [1] (fun n => ∃ k : Nat, k ≤ s.size ∧ Hid (Blanks s.data.toList a k) ∧ n = .int .i64 k) (fun i => s.size - (intOf i).toNat)
  case atStart => exact ⟨a, ha, rfl, rfl⟩
  case round =>
    obtain ⟨k, hk, hm, rfl⟩ := hrel
    have hx : Hid ((s.extract k s.size).data.toList = s.data.toList.drop k) := extract_rest s k
    have hv : Hid (tokVal s (s.data.toList.drop k) = #[.int .i64 k, .int .i64 (Sp.tokKind (s.data.toList.drop k)), .string (s.extract k (k + Sp.tokLen (s.data.toList.drop k)))]) := tokVal_of s k hk
    have hroom := tokLen_room s k hk
    have hsz : (s.extract k s.size).size ≤ 400 := by simp; omega
    have HSZ : Hid ((s.extract k s.size).size ≤ 400) := hsz
    clear hsz
    by_cases hlt : k < s.size
    · by_cases h32 : ((s[k].toNat : Int) = 32)
      · have hm1 : Hid (Blanks s.data.toList a (k + 1)) := hm.out.succ hlt ((blank_iff _).2 (.inl h32))
        clear hroom
        go_wp2_with fail
        exact ⟨⟨k + 1, by omega, hm1, by go_num⟩, by simp [intOf]; omega⟩
      · by_cases h10 : ((s[k].toNat : Int) = 10)
        · have hm1 : Hid (Blanks s.data.toList a (k + 1)) := hm.out.succ hlt ((blank_iff _).2 (.inr h10))
          clear hroom
          go_wp2_with fail
          exact ⟨⟨k + 1, by omega, hm1, by go_num⟩, by simp [intOf]; omega⟩
        · have hst : Hid (Sp.skip (s.data.toList.drop a) = s.data.toList.drop k) := hm.out.stop (fun _ => by
            cases hb : Sp.isBlank s[k]
            · rfl
            · exact absurd ((blank_iff _).1 hb) (fun h => h.elim h32 h10))
          have h32b : ((s[k].toNat : Int) == 32) = false := by simpa using h32
          have h10b : ((s[k].toNat : Int) == 10) = false := by simpa using h10
          have hfin : Hid (tokVal s (Sp.skip (s.data.toList.drop a)) = #[.int .i64 k, .int .i64 (Sp.tokKind (s.data.toList.drop k)), .string (s.extract k (k + Sp.tokLen (s.data.toList.drop k)))]) := by unfold Hid; rw [hst.out, hv.out]
          clear hst hv hm
          go_wp2_with fail
          refine (measure_calls _ _ HSZ.out).mono ?_
          rintro e w' ⟨rfl, rfl⟩
          rw [hx.out]
          generalize Sp.tokLen (s.data.toList.drop k) = m at *
          generalize Sp.tokKind (s.data.toList.drop k) = kd at *
          go_wp2_with fail
          refine bodyPost_ret (v := .agg #[.int .i64 k, .int .i64 kd, .string (s.extract k (k + m))]) (by simp [results, Tryz.results55, go_sem]) rfl ⟨by rw [hfin.out], ?_⟩
          exact (Below.refl _ _).alloc (Nat.le_refl _) _
    · have hst : Hid (Sp.skip (s.data.toList.drop a) = s.data.toList.drop k) := hm.out.stop (fun h => absurd h hlt)
      have hfin : Hid (tokVal s (Sp.skip (s.data.toList.drop a)) = #[.int .i64 k, .int .i64 (Sp.tokKind (s.data.toList.drop k)), .string (s.extract k (k + Sp.tokLen (s.data.toList.drop k)))]) := by unfold Hid; rw [hst.out, hv.out]
      clear hst hv hm
      go_wp2_with fail
      refine (measure_calls _ _ HSZ.out).mono ?_
      rintro e w' ⟨rfl, rfl⟩
      rw [hx.out]
      generalize Sp.tokLen (s.data.toList.drop k) = m at *
      generalize Sp.tokKind (s.data.toList.drop k) = kd at *
      go_wp2_with fail
      refine bodyPost_ret (v := .agg #[.int .i64 k, .int .i64 kd, .string (s.extract k (k + m))]) (by simp [results, Tryz.results55, go_sem]) rfl ⟨by rw [hfin.out], ?_⟩
      exact (Below.refl _ _).alloc (Nat.le_refl _) _
end Go.Proofs.YtiopfihjmkfdmaaGreatDoor
