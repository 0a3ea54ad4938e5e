/- (reader) take, enter, name. -/
import Derived.Test.YtjkllmiikdlhhaaGreatDoorStep
namespace Go.Proofs.YtjkllmiikdlhhaaGreatDoor
open Go.RowKit
set_option maxRecDepth 100000
set_option maxHeartbeats 400000

theorem take_ok {b : Nat} {s : ByteArray} {m1 m2 : Nat} {l : Sp.Bs} {o : Nat} {w : World} (h : Rd b s m1 m2 l o w) (t : Sp.Bs) (ht : Sp.tok l = t) :
    Calls Tryz.prog 84 #[.pointer (some ⟨b, 0, none⟩), .string ⟨t.toArray⟩] w fun e w' => e = .returned (.tuple #[]) ∧ Rd b s m1 m2 (Sp.next l) o w' ∧ Ext b w w' := by
  go_enter Tryz.func84, Tryz.ntmps84
  go_wp2_with fail
  refine (need_ok h t ht).mono ?_
  rintro e w' ⟨rfl, rfl⟩
  go_wp2_with fail
  refine (step_calls h).mono ?_
  rintro e w' ⟨rfl, h1, x1⟩
  go_wp2_with fail
  go_end0
  exact ⟨rfl, h1, x1⟩

theorem take_bad {b : Nat} {s : ByteArray} {m1 m2 : Nat} {l : Sp.Bs} {o : Nat} {w : World} (h : Rd b s m1 m2 l o w) (t : Sp.Bs) (ht : Sp.tok l ≠ t) :
    Calls Tryz.prog 84 #[.pointer (some ⟨b, 0, none⟩), .string ⟨t.toArray⟩] w fun e w' => Faulty s b w (2, l.length) e w' := by
  go_enter Tryz.func84, Tryz.ntmps84
  go_wp2_with fail
  refine (need_bad h t ht).mono ?_
  rintro e w' hf
  obtain ⟨N, rfl, hr⟩ := hf
  exact ⟨rfl, N, rfl, hr⟩

theorem rd_open {b : Nat} {s : ByteArray} {m1 m2 : Nat} {l : Sp.Bs} {o : Nat} {w : World} (h : Rd b s m1 m2 l o w) (o' : Nat) (oi : Int) (ho : oi = o') :
    Rd b s m1 m2 l o' (w.setCell ⟨b, 4, none⟩ (.int .i64 oi)) ∧ Ext b w (w.setCell ⟨b, 4, none⟩ (.int .i64 oi)) := by
  subst ho
  refine ⟨⟨?_, h.suf, h.sz⟩, (Ext.refl b w).setCell (p := ⟨b, 4, none⟩) (.inl rfl) _⟩
  rw [heap_setCell_at h.blk 4 (.int .i64 o')]
  rfl

theorem enter_bad {b : Nat} {s : ByteArray} {m1 m2 : Nat} {l : Sp.Bs} {o : Nat} {w : World} (h : Rd b s m1 m2 l o w) (t : Sp.Bs) (ht : Sp.tok l ≠ t) :
    Calls Tryz.prog 95 #[.pointer (some ⟨b, 0, none⟩), .string ⟨t.toArray⟩] w fun e w' => Faulty s b w (2, l.length) e w' := by
  go_enter Tryz.func95, Tryz.ntmps95
  go_wp2_with fail
  refine (need_bad h t ht).mono ?_
  rintro e w' hf
  obtain ⟨N, rfl, hr⟩ := hf
  exact ⟨rfl, N, rfl, hr⟩

theorem enter_deep {b : Nat} {s : ByteArray} {m1 m2 : Nat} {l : Sp.Bs} {w : World} (h : Rd b s m1 m2 l 12 w) (t : Sp.Bs) (ht : Sp.tok l = t) :
    Calls Tryz.prog 95 #[.pointer (some ⟨b, 0, none⟩), .string ⟨t.toArray⟩] w fun e w' => Faulty s b w (3, l.length) e w' := by
  have h4 : w.cell? ⟨b, 4, none⟩ = some (.int .i64 12) := h.c4
  go_enter Tryz.func95, Tryz.ntmps95
  go_wp2_with fail
  refine (need_ok h t ht).mono ?_
  rintro e w' ⟨rfl, rfl⟩
  go_wp2_with fail
  refine (fault_calls h 3).mono ?_
  rintro e w' ⟨rfl, rfl⟩
  go_wp2_with fail
  exact ⟨rfl, faulty_of h 3 3 rfl⟩

theorem enter_ok {b : Nat} {s : ByteArray} {m1 m2 : Nat} {l : Sp.Bs} {o : Nat} {w : World} (h : Rd b s m1 m2 l o w) (ho : o < 12) (t : Sp.Bs) (ht : Sp.tok l = t) :
    Calls Tryz.prog 95 #[.pointer (some ⟨b, 0, none⟩), .string ⟨t.toArray⟩] w fun e w' => e = .returned (.tuple #[]) ∧ Rd b s m1 m2 (Sp.next l) (o + 1) w' ∧ Ext b w w' := by
  have h4 := h.c4
  have f4 := h.fz 4
  have hne : ((o : Int) == 12) = false := by simp; omega
  have hr := rd_open h (o + 1) ((o : Int) + 1) (by omega)
  obtain ⟨h1, x1⟩ := hr
  have H1 : Hid (Rd b s m1 m2 l (o + 1) (w.setCell ⟨b, 4, none⟩ (.int .i64 ((o : Int) + 1)))) := h1
  clear h1
  go_enter Tryz.func95, Tryz.ntmps95
  go_wp2_with fail
  refine (need_ok h t ht).mono ?_
  rintro e w' ⟨rfl, rfl⟩
  go_wp2_with fail
  refine (step_calls H1.out).mono ?_
  rintro e w' ⟨rfl, h2, x2⟩
  go_wp2_with fail
  go_end0
  exact ⟨rfl, h2, x1.trans x2⟩

/-- one open less -/
theorem rd_shut {b : Nat} {s : ByteArray} {m1 m2 : Nat} {l : Sp.Bs} {o : Nat} {w : World} (h : Rd b s m1 m2 l (o + 1) w) :
    Rd b s m1 m2 l o (w.setCell ⟨b, 4, none⟩ (.int .i64 o)) ∧ Ext b w (w.setCell ⟨b, 4, none⟩ (.int .i64 o)) := rd_open h o o rfl

theorem nameVal_some {l : Sp.Bs} {k : Nat} (h : Sp.nameVal l = some k) : ∃ c : UInt8, Sp.tok l = [c] ∧ Sp.tokKind l = 2 ∧ c.toNat < 105 ∧ 97 ≤ c.toNat ∧ k = c.toNat - 97 := by
  unfold Sp.nameVal at h
  split at h
  · rename_i c e
    split at h
    · rename_i hc
      cases h
      refine ⟨c, e, hc.1, hc.2, ?_, rfl⟩
      cases l with
      | nil => simp [Sp.tokKind] at hc
      | cons d r =>
        rw [Sp.tokKind_cons] at hc
        have hd : Sp.isLet d = true := by
          by_cases hd : Sp.isLet d = true
          · exact hd
          · simp [hd] at hc
            split at hc
            · omega
            · split at hc <;> omega
        have : Sp.tok (d :: r) = d :: (r.take (Sp.headRun Sp.isLet r)) := by
          unfold Sp.tok
          rw [Sp.tokLen_cons, if_pos hd, Sp.headRun_cons, if_pos hd, List.take_succ_cons]
        rw [this] at e
        have e1 : d = c := (List.cons.inj e).1
        subst e1
        unfold Sp.isLet at hd
        simp at hd
        omega
    · cases h
  · cases h

theorem one_byte (c : UInt8) : ∃ t : ByteArray, t = ⟨[c].toArray⟩ ∧ t.size = 1 ∧ ∀ h : 0 < t.size, t[0] = c := ⟨⟨[c].toArray⟩, rfl, rfl, fun _ => rfl⟩

theorem name_ok {b : Nat} {s : ByteArray} {m1 m2 : Nat} {l : Sp.Bs} {o : Nat} {w : World} (h : Rd b s m1 m2 l o w) {k : Nat} (hk : Sp.nameVal l = some k) :
    Calls Tryz.prog 85 #[.pointer (some ⟨b, 0, none⟩)] w fun e w' => e = .returned (.int .i64 k) ∧ Rd b s m1 m2 (Sp.next l) o w' ∧ Ext b w w' := by
  obtain ⟨c, ht, hkd, hc1, hc2, rfl⟩ := nameVal_some hk
  obtain ⟨t, et, hs1, hx⟩ := one_byte c
  have h0 : 0 < t.size := by omega
  have h2 : w.cell? ⟨b, 2, none⟩ = some (.int .i64 2) := by rw [h.c2, hkd]; rfl
  have h3 : w.cell? ⟨b, 3, none⟩ = some (.string t) := by rw [h.c3, ht, et]
  have hc3 : (t[0].toNat : Int) < 105 := by rw [hx]; omega
  have hc4 : (97 : Int) ≤ (t[0].toNat : Int) := by rw [hx]; omega
  have hfin : Hid (((c.toNat - 97 : Nat) : Int) = (t[0].toNat : Int) - 97) := by unfold Hid; rw [hx]; omega
  have hd : decide ((105 : Int) ≤ (t[0].toNat : Int)) = false := by simp; omega
  clear hx et hk hc1 hc2 hkd ht
  go_enter Tryz.func85, Tryz.ntmps85
  go_wp2_with fail
  refine (step_calls h).mono ?_
  rintro e w' ⟨rfl, h1, x1⟩
  go_wp2_with fail
  go_ret
  exact ⟨ret_int (by rw [hfin.out]), h1, x1⟩

theorem name_bad {b : Nat} {s : ByteArray} {m1 m2 : Nat} {l : Sp.Bs} {o : Nat} {w : World} (h : Rd b s m1 m2 l o w) (hk : Sp.nameVal l = none) :
    Calls Tryz.prog 85 #[.pointer (some ⟨b, 0, none⟩)] w fun e w' => Faulty s b w (2, l.length) e w' := by
  have h2 := h.c2
  have h3 := h.c3
  by_cases hkd : Sp.tokKind l = 2
  · by_cases hln : (Sp.tok l).length = 1
    · obtain ⟨c, ht⟩ : ∃ c, Sp.tok l = [c] := by
        match hm : Sp.tok l, hln with
        | [c], _ => exact ⟨c, rfl⟩
      obtain ⟨t, et, hs1, hx⟩ := one_byte c
      have h0 : 0 < t.size := by omega
      have hge : 105 ≤ c.toNat := by
        unfold Sp.nameVal at hk
        rw [ht] at hk
        simp [hkd] at hk
        omega
      rw [hkd] at h2
      have h2' : w.cell? ⟨b, 2, none⟩ = some (.int .i64 2) := h2
      rw [ht, ← et] at h3
      have hd : decide ((105 : Int) ≤ (t[0].toNat : Int)) = true := by simp; rw [hx]; omega
      have hd' : (105 : Int) ≤ (t[0].toNat : Int) := by simpa using hd
      clear h2 hx et ht hge hk hkd hln
      go_enter Tryz.func85, Tryz.ntmps85
      go_wp2_with fail
      refine (fault_calls h 2).mono ?_
      rintro e w' ⟨rfl, rfl⟩
      go_wp2_with fail
      exact ⟨rfl, faulty_of h 2 2 rfl⟩
    · rw [hkd] at h2
      have h2' : w.cell? ⟨b, 2, none⟩ = some (.int .i64 2) := h2
      generalize et : (⟨(Sp.tok l).toArray⟩ : ByteArray) = t at h3
      have hs1 : ((t.size : Int) == 1) = false := by
        rw [← et]
        have : (⟨(Sp.tok l).toArray⟩ : ByteArray).size = (Sp.tok l).length := by simp [ByteArray.size]
        rw [this]; simp; omega
      have hs2 : ¬ ((t.size : Int) = 1) := by simpa using hs1
      clear h2 et hk hkd hln
      go_enter Tryz.func85, Tryz.ntmps85
      go_wp2_with fail
      refine (fault_calls h 2).mono ?_
      rintro e w' ⟨rfl, rfl⟩
      go_wp2_with fail
      exact ⟨rfl, faulty_of h 2 2 rfl⟩
  · have hb : (((Sp.tokKind l : Nat) : Int) == 2) = false := by simp; omega
    have hb2 : ¬ (((Sp.tokKind l : Nat) : Int) = 2) := by omega
    clear hk hkd
    generalize Sp.tokKind l = kd at h2 hb hb2
    go_enter Tryz.func85, Tryz.ntmps85
    go_wp2_with fail
    refine (fault_calls h 2).mono ?_
    rintro e w' ⟨rfl, rfl⟩
    go_wp2_with fail
    exact ⟨rfl, faulty_of h 2 2 rfl⟩

end Go.Proofs.YtjkllmiikdlhhaaGreatDoor
