/- THE SCANNER: (reader) measure, scan. -/
import Derived.Test.YtjkllmiikdlhhaaGreatDoorScan
namespace Go.Proofs.YtjkllmiikdlhhaaGreatDoor
open Go.RowKit
set_option maxRecDepth 100000
set_option maxHeartbeats 400000

theorem measure_calls (s : ByteArray) (w : World) (hs : s.size ≤ 400) :
    Calls Tryz.prog 35 #[.string s] w fun e w' => e = .returned (.tuple #[.int .i64 (Sp.tokKind s.data.toList), .int .i64 (Sp.tokLen s.data.toList)]) ∧ w' = w := by
  cases hl : s.data.toList with
  | nil =>
    have hb : s.toList.isEmpty = true := by rw [ByteArray.toList_eq, hl]; rfl
    have HL : Hid (s.data.toList = []) := hl
    clear hl
    go_enter Tryz.func35, Tryz.ntmps35
    go_wp2_with fail
    go_ret2
    exact ⟨rfl, rfl⟩
  | cons c r =>
    have hb : s.toList.isEmpty = false := by rw [ByteArray.toList_eq, hl]; rfl
    have h0 : 0 < s.size := by
      have : s.data.toList.length = s.size := by simp
      rw [hl] at this; simp at this; omega
    have e1 : Sp.headRun Sp.isLet s.data.toList = if Sp.isLet c then Sp.headRun Sp.isLet r + 1 else 0 := by rw [hl, Sp.headRun_cons]
    have e2 : Sp.headRun Sp.isDig s.data.toList = if Sp.isDig c then Sp.headRun Sp.isDig r + 1 else 0 := by rw [hl, Sp.headRun_cons]
    by_cases hc : Sp.isLet c = true
    · have hk : Hid (Sp.tokKind (c :: r) = 2) := by unfold Hid; rw [Sp.tokKind_cons, if_pos hc]
      have hn : Hid (Sp.tokLen (c :: r) = Sp.headRun Sp.isLet s.data.toList) := by unfold Hid; rw [Sp.tokLen_cons, if_pos hc, hl]
      have hp : (0 : Int) < (Sp.headRun Sp.isLet s.data.toList : Nat) := by rw [e1, if_pos hc]; omega
      clear e1 e2 hl hc
      go_enter Tryz.func35, Tryz.ntmps35
      go_wp2_with fail
      refine (run_calls_letters s _ hs).mono ?_
      rintro e w' ⟨rfl, rfl⟩
      go_wp2_with fail
      go_ret2
      exact ⟨by rw [hk.out, hn.out]; rfl, rfl⟩
    · have hp : ((Sp.headRun Sp.isLet s.data.toList : Nat) : Int) = 0 := by rw [e1, if_neg hc]; rfl
      have Hp : Hid (((Sp.headRun Sp.isLet s.data.toList : Nat) : Int) = 0) := hp
      by_cases hd : Sp.isDig c = true
      · have hk : Hid (Sp.tokKind (c :: r) = 3) := by unfold Hid; rw [Sp.tokKind_cons, if_neg hc, if_pos hd]
        have hn : Hid (Sp.tokLen (c :: r) = Sp.headRun Sp.isDig s.data.toList) := by unfold Hid; rw [Sp.tokLen_cons, if_neg hc, if_pos hd, hl]
        have hp2 : (0 : Int) < (Sp.headRun Sp.isDig s.data.toList : Nat) := by rw [e2, if_pos hd]; omega
        clear e1 e2 hl hc hd hp
        go_enter Tryz.func35, Tryz.ntmps35
        go_wp2_with fail
        refine (run_calls_letters s _ hs).mono ?_
        rintro e w' ⟨rfl, rfl⟩
        rw [Hp.out]
        go_wp2_with fail
        refine (run_calls_digits s _ hs).mono ?_
        rintro e w' ⟨rfl, rfl⟩
        go_wp2_with fail
        go_ret2
        exact ⟨by rw [hk.out, hn.out]; rfl, rfl⟩
      · have hp2 : ((Sp.headRun Sp.isDig s.data.toList : Nat) : Int) = 0 := by rw [e2, if_neg hd]; rfl
        have Hp2 : Hid (((Sp.headRun Sp.isDig s.data.toList : Nat) : Int) = 0) := hp2
        have hn : Hid (Sp.tokLen (c :: r) = Sp.signLen s.data.toList) := by unfold Hid; rw [Sp.tokLen_cons, if_neg hc, if_neg hd, hl]
        by_cases hsg : 0 < Sp.signLen s.data.toList
        · have hk : Hid (Sp.tokKind (c :: r) = 4) := by unfold Hid; rw [Sp.tokKind_cons, if_neg hc, if_neg hd, if_pos (by rw [← hl]; exact hsg)]
          have hp3 : (0 : Int) < (Sp.signLen s.data.toList : Nat) := by omega
          clear e1 e2 hl hc hd hp hp2 hsg
          go_enter Tryz.func35, Tryz.ntmps35
          go_wp2_with fail
          refine (run_calls_letters s _ hs).mono ?_
          rintro e w' ⟨rfl, rfl⟩
          rw [Hp.out]
          go_wp2_with fail
          refine (run_calls_digits s _ hs).mono ?_
          rintro e w' ⟨rfl, rfl⟩
          rw [Hp2.out]
          go_wp2_with fail
          refine (signSize_calls s _ h0 hs).mono ?_
          rintro e w' ⟨rfl, rfl⟩
          go_wp2_with fail
          go_ret2
          exact ⟨by rw [hk.out, hn.out]; rfl, rfl⟩
        · have hk : Hid (Sp.tokKind (c :: r) = 0) := by unfold Hid; rw [Sp.tokKind_cons, if_neg hc, if_neg hd, if_neg (by rw [← hl]; exact hsg)]
          have Hp3 : Hid (((Sp.signLen s.data.toList : Nat) : Int) = 0) := by unfold Hid; omega
          clear e1 e2 hl hc hd hp hp2 hsg
          go_enter Tryz.func35, Tryz.ntmps35
          go_wp2_with fail
          refine (run_calls_letters s _ hs).mono ?_
          rintro e w' ⟨rfl, rfl⟩
          rw [Hp.out]
          go_wp2_with fail
          refine (run_calls_digits s _ hs).mono ?_
          rintro e w' ⟨rfl, rfl⟩
          rw [Hp2.out]
          go_wp2_with fail
          refine (signSize_calls s _ h0 hs).mono ?_
          rintro e w' ⟨rfl, rfl⟩
          rw [Hp3.out]
          go_wp2_with fail
          go_ret2
          exact ⟨by rw [hk.out, hn.out, Hp3.out]; rfl, rfl⟩

/-- the byte is a blank, as the walk asks it -/
theorem blank_iff (c : UInt8) : Sp.isBlank c = true ↔ ((c.toNat : Int) = 32 ∨ (c.toNat : Int) = 10) := by
  unfold Sp.isBlank
  rw [Bool.or_eq_true, beq_iff_eq, beq_iff_eq, ← UInt8.toNat_inj, ← UInt8.toNat_inj]
  show c.toNat = 32 ∨ c.toNat = 10 ↔ _
  omega

/-- 'from a on all is blank up to k' -/
def Blanks (l : Sp.Bs) (a k : Nat) : Prop := Sp.skip (l.drop a) = Sp.skip (l.drop k)

theorem Blanks.succ {s : ByteArray} {a k : Nat} (h : Blanks s.data.toList a k) (hk : k < s.size) (hb : Sp.isBlank s[k] = true) : Blanks s.data.toList a (k + 1) := by
  unfold Blanks at *
  rw [h]
  have : s.data.toList.drop k = s[k] :: s.data.toList.drop (k + 1) := by
    rw [List.drop_eq_getElem_cons (by simpa using hk)]; rfl
  rw [this]
  unfold Sp.skip
  rw [List.dropWhile_cons, if_pos hb]

theorem Blanks.stop {s : ByteArray} {a k : Nat} (h : Blanks s.data.toList a k) (hb : ∀ hk : k < s.size, Sp.isBlank s[k] = false) : Sp.skip (s.data.toList.drop a) = s.data.toList.drop k := by
  rw [h]
  by_cases hk : k < s.size
  · have : s.data.toList.drop k = s[k] :: s.data.toList.drop (k + 1) := by
      rw [List.drop_eq_getElem_cons (by simpa using hk)]; rfl
    rw [this]
    unfold Sp.skip
    rw [List.dropWhile_cons, if_neg (by rw [hb hk]; simp)]
  · rw [List.drop_of_length_le (by simpa using hk)]; rfl

/-- the token of what is left, as a value -/
def tokVal (s : ByteArray) (l : Sp.Bs) : Array Value := #[.int .i64 ((s.size - l.length : Nat) : Int), .int .i64 (Sp.tokKind l), .string ⟨(Sp.tok l).toArray⟩]

theorem bytes_ext {a b : ByteArray} (h : a.data.toList = b.data.toList) : a = b := by
  cases a; cases b; simp at h; simp [h]

theorem tokVal_of (s : ByteArray) (k : Nat) (hk : k ≤ s.size) : tokVal s (s.data.toList.drop k) = #[.int .i64 k, .int .i64 (Sp.tokKind (s.data.toList.drop k)), .string (s.extract k (k + Sp.tokLen (s.data.toList.drop k)))] := by
  unfold tokVal
  have h1 : s.size - (s.data.toList.drop k).length = k := by
    rw [List.length_drop]; have : s.data.toList.length = s.size := by simp
    omega
  have h2 : (⟨(Sp.tok (s.data.toList.drop k)).toArray⟩ : ByteArray) = s.extract k (k + Sp.tokLen (s.data.toList.drop k)) := by
    apply bytes_ext
    rw [Lib.extract_data]
    simp [Sp.tok]
  rw [h1, h2]

theorem extract_rest (s : ByteArray) (k : Nat) : (s.extract k s.size).data.toList = s.data.toList.drop k := by
  rw [Lib.extract_data]
  apply List.take_of_length_le
  simp

theorem tokLen_room (s : ByteArray) (k : Nat) (hk : k ≤ s.size) : k + Sp.tokLen (s.data.toList.drop k) ≤ s.size := by
  have := Sp.tokLen_le (s.data.toList.drop k)
  rw [List.length_drop] at this
  have h : s.data.toList.length = s.size := by simp
  omega

theorem scan_calls (s : ByteArray) (a : Nat) (w : World) (ha : a ≤ s.size) (hs : s.size ≤ 400) :
    Calls Tryz.prog 20 #[.string s, .int .i64 a] w fun e w' => e = .returned (.agg (tokVal s (Sp.skip (s.data.toList.drop a)))) ∧ Below w.heap.size w w' := by
  go_enter Tryz.func20, Tryz.ntmps20
  go_wp2
  go_loop [1] (fun n => ∃ k : Nat, k ≤ s.size ∧ Hid (Blanks s.data.toList a k) ∧ n = .int .i64 k) (fun i => s.size - (intOf i).toNat)
  case atStart => exact ⟨a, ha, rfl, rfl⟩
  case round =>
    obtain ⟨k, hk, hm, rfl⟩ := hrel
    have hx : Hid ((s.extract k s.size).data.toList = s.data.toList.drop k) := extract_rest s k
    have hv : Hid (tokVal s (s.data.toList.drop k) = #[.int .i64 k, .int .i64 (Sp.tokKind (s.data.toList.drop k)), .string (s.extract k (k + Sp.tokLen (s.data.toList.drop k)))]) := tokVal_of s k hk
    have hroom := tokLen_room s k hk
    have hsz : (s.extract k s.size).size ≤ 400 := by simp; omega
    have HSZ : Hid ((s.extract k s.size).size ≤ 400) := hsz
    clear hsz
    by_cases hlt : k < s.size
    · by_cases h32 : ((s[k].toNat : Int) = 32)
      · have hm1 : Hid (Blanks s.data.toList a (k + 1)) := hm.out.succ hlt ((blank_iff _).2 (.inl h32))
        clear hroom
        go_wp2_with fail
        exact ⟨⟨k + 1, by omega, hm1, by go_num⟩, by simp [intOf]; omega⟩
      · by_cases h10 : ((s[k].toNat : Int) = 10)
        · have hm1 : Hid (Blanks s.data.toList a (k + 1)) := hm.out.succ hlt ((blank_iff _).2 (.inr h10))
          clear hroom
          go_wp2_with fail
          exact ⟨⟨k + 1, by omega, hm1, by go_num⟩, by simp [intOf]; omega⟩
        · have hst : Hid (Sp.skip (s.data.toList.drop a) = s.data.toList.drop k) := hm.out.stop (fun _ => by
            cases hb : Sp.isBlank s[k]
            · rfl
            · exact absurd ((blank_iff _).1 hb) (fun h => h.elim h32 h10))
          have h32b : ((s[k].toNat : Int) == 32) = false := by simpa using h32
          have h10b : ((s[k].toNat : Int) == 10) = false := by simpa using h10
          have hfin : Hid (tokVal s (Sp.skip (s.data.toList.drop a)) = #[.int .i64 k, .int .i64 (Sp.tokKind (s.data.toList.drop k)), .string (s.extract k (k + Sp.tokLen (s.data.toList.drop k)))]) := by unfold Hid; rw [hst.out, hv.out]
          clear hst hv hm
          go_wp2_with fail
          refine (measure_calls _ _ HSZ.out).mono ?_
          rintro e w' ⟨rfl, rfl⟩
          rw [hx.out]
          generalize Sp.tokLen (s.data.toList.drop k) = m at *
          generalize Sp.tokKind (s.data.toList.drop k) = kd at *
          go_wp2_with fail
          refine bodyPost_ret (v := .agg #[.int .i64 k, .int .i64 kd, .string (s.extract k (k + m))]) (by simp [results, Tryz.results20, go_sem]) rfl ⟨by rw [hfin.out], ?_⟩
          exact (Below.refl _ _).alloc (Nat.le_refl _) _
    · have hst : Hid (Sp.skip (s.data.toList.drop a) = s.data.toList.drop k) := hm.out.stop (fun h => absurd h hlt)
      have hfin : Hid (tokVal s (Sp.skip (s.data.toList.drop a)) = #[.int .i64 k, .int .i64 (Sp.tokKind (s.data.toList.drop k)), .string (s.extract k (k + Sp.tokLen (s.data.toList.drop k)))]) := by unfold Hid; rw [hst.out, hv.out]
      clear hst hv hm
      go_wp2_with fail
      refine (measure_calls _ _ HSZ.out).mono ?_
      rintro e w' ⟨rfl, rfl⟩
      rw [hx.out]
      generalize Sp.tokLen (s.data.toList.drop k) = m at *
      generalize Sp.tokKind (s.data.toList.drop k) = kd at *
      go_wp2_with fail
      refine bodyPost_ret (v := .agg #[.int .i64 k, .int .i64 kd, .string (s.extract k (k + m))]) (by simp [results, Tryz.results20, go_sem]) rfl ⟨by rw [hfin.out], ?_⟩
      exact (Below.refl _ _).alloc (Nat.le_refl _) _
end Go.Proofs.YtjkllmiikdlhhaaGreatDoor
