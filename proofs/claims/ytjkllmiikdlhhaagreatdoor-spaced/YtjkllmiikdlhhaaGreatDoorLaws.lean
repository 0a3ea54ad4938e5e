/- The laws' own small functions, and Again. -/
import Derived.Test.YtjkllmiikdlhhaaGreatDoorTell
import Derived.Test.YtjkllmiikdlhhaaGreatDoorErr
namespace Go.Proofs.YtjkllmiikdlhhaaGreatDoor
open Go.RowKit
set_option maxRecDepth 100000
set_option maxHeartbeats 1000000

theorem num_calls (n : Int) (w : World) : Calls Tryz.prog 9 #[.int .i64 n] w fun e w' => e = .returned (.int .i64 n) ∧ w' = w := by
  go_enter Tryz.func9, Tryz.ntmps9
  go_wp2_with fail
  go_ret
  exact ⟨rfl, rfl⟩

theorem Laid2.after {w w' : World} (h : Laid2 w) (hb : Below w.heap.size w w') : Laid2 w' := h.below hb h.laid.size

theorem prints_calls (w : World) (hL : Laid2 w) : Calls Tryz.prog 10 #[] w fun e w' => e = .returned (.bool true) ∧ Below w.heap.size w w' := by
  have hc := Print_calls ⟨#[97, 61, 40, 49, 41, 59, 119, 104, 105, 108, 101, 32, 97, 60, 57, 123, 97, 61, 97, 43, 50, 59, 125]⟩ w (by decide) hL.laid
  rw [show (⟨#[97, 61, 40, 49, 41, 59, 119, 104, 105, 108, 101, 32, 97, 60, 57, 123, 97, 61, 97, 43, 50, 59, 125]⟩ : ByteArray).data.toList = [97, 61, 40, 49, 41, 59, 119, 104, 105, 108, 101, 32, 97, 60, 57, 123, 97, 61, 97, 43, 50, 59, 125] from rfl, Sp.print_closed] at hc
  go_enter Tryz.func10, Tryz.ntmps10
  go_wp2_with fail
  refine hc.mono ?_
  rintro e w1 ⟨rfl, b1⟩
  clear hc
  go_wp2_with fail
  refine (Tell_nil w1).mono ?_
  rintro e w2 ⟨rfl, b2⟩
  go_wp2_with (go_at_call 9; refine (num_calls _ _).mono ?_; rintro e w3 ⟨rfl, rfl⟩)
  go_ret
  exact ⟨rfl, b1.trans (b2.mono b1.size)⟩

theorem Again_calls (s : ByteArray) (w : World) (hL : Laid2 w) (hre : ∀ t, Sp.print s.data.toList = .ok t → t.length ≤ 400 → Sp.print t = .ok t) :
    Calls Tryz.prog 4 #[.string s] w fun e w' => e = .returned (.bool true) ∧ Below w.heap.size w w' := by
  have hp := prints_calls w hL
  by_cases hs : 1048576 < s.size
  · go_enter Tryz.func4, Tryz.ntmps4
    go_wp2_with fail
    refine hp.mono ?_
    rintro e w1 ⟨rfl, b1⟩
    go_wp2_with fail
    go_ret
    exact ⟨rfl, b1⟩
  · have hs' : s.size ≤ 1048576 := by omega
    go_enter Tryz.func4, Tryz.ntmps4
    go_wp2_with fail
    refine hp.mono ?_
    rintro e w1 ⟨rfl, b1⟩
    have hL1 := hL.after b1
    have hc := Print_calls s w1 hs' hL1.laid
    clear hp
    cases hr : Sp.print s.data.toList with
    | error er =>
      rw [hr] at hc
      have he : Hid (¬ (er.1 : Int) = 0) := by unfold Hid; have := Sp.print_e _ er hr; omega
      go_wp2_with fail
      refine hc.mono ?_
      rintro e w2 ⟨v, rfl, hv, b2⟩
      have hL2 := hL1.after b2
      have ht := Tell_err v er _ w2 hL2.et hL2.laid.size hv
      obtain ⟨tv, uv, rfl⟩ := err_iface hv
      clear hc hv
      go_wp2_with fail
      refine ht.mono ?_
      rintro e w3 ⟨rfl, b3⟩
      clear ht
      have he' := he.out
      go_wp2_with (go_at_call 9; refine (num_calls _ _).mono ?_; rintro e w4 ⟨rfl, rfl⟩)
      go_ret
      exact ⟨rfl, b1.trans ((b2.trans (b3.mono b2.size)).mono b1.size)⟩
    | ok t =>
      rw [hr] at hc
      obtain ⟨T, hT⟩ : ∃ T : ByteArray, Hid (T = ⟨t.toArray⟩) := ⟨_, rfl⟩
      have hTs : T.size = t.length := by rw [hT.out]; exact size_of _
      go_wp2_with fail
      refine hc.mono ?_
      rintro e w2 ⟨rfl, b2⟩
      have hL2 := hL1.after b2
      clear hc
      rw [← hT.out]
      go_wp2_with fail
      refine (Tell_nil w2).mono ?_
      rintro e w3 ⟨rfl, b3⟩
      have hL3 := hL2.after b3
      by_cases h4 : 400 < T.size
      · go_wp2_with (go_at_call 9; refine (num_calls _ _).mono ?_; rintro e w4 ⟨rfl, rfl⟩)
        go_ret
        exact ⟨rfl, b1.trans ((b2.trans (b3.mono b2.size)).mono b1.size)⟩
      · have hc2 := Print_calls T w3 (by omega) hL3.laid
        rw [show T.data.toList = t by rw [hT.out], hre t hr (by omega)] at hc2
        go_wp2_with (go_at_call 9; refine (num_calls _ _).mono ?_; rintro e w4 ⟨rfl, rfl⟩)
        refine hc2.mono ?_
        rintro e w4 ⟨rfl, b4⟩
        clear hc2
        rw [← hT.out]
        go_wp2_with fail
        refine (Tell_nil w4).mono ?_
        rintro e w5 ⟨rfl, b5⟩
        go_wp2_with (go_at_call 9; refine (num_calls _ _).mono ?_; rintro e w6 ⟨rfl, rfl⟩)
        go_ret
        exact ⟨rfl, b1.trans ((b2.trans ((b3.trans ((b4.trans (b5.mono b4.size)).mono b3.size)).mono b2.size)).mono b1.size)⟩

end Go.Proofs.YtjkllmiikdlhhaaGreatDoor
