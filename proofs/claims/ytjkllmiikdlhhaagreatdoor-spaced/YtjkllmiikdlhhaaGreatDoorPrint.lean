/- invariants.Print, whole. -/
import Derived.Test.YtjkllmiikdlhhaaGreatDoorText
import Derived.Test.YtjkllmiikdlhhaaGreatDoorLen
namespace Go.Proofs.YtjkllmiikdlhhaaGreatDoor
open Go.RowKit
set_option maxRecDepth 100000
set_option maxHeartbeats 400000

/-- what Print comes to, of what the grammar says -/
def PrintPost (w : World) : Except (Nat × Nat) Sp.Bs → Ending → World → Prop
  | .ok t, e, w' => e = .returned (.tuple #[.string ⟨t.toArray⟩, .nilIface]) ∧ Below w.heap.size w w'
  | .error er, e, w' => ∃ v, e = .returned (.tuple #[.string ⟨#[]⟩, v]) ∧ ErrAt w' w.heap.size v er ∧ Below w.heap.size w w'

theorem err_iface {w : World} {B : Nat} {v : Value} {er : Nat × Nat} (h : ErrAt w B v er) : ∃ t u, v = .iface t u := by
  rcases h with ⟨rfl, _⟩ | ⟨N, _, rfl, _⟩
  · exact ⟨_, _, rfl⟩
  · exact ⟨_, _, rfl⟩

theorem Print_calls (s : ByteArray) (w : World) (hs : s.size ≤ 1048576) (hL : Laid w) :
    Calls Tryz.prog 6 #[.string s] w (PrintPost w (Sp.print s.data.toList)) := by
  have hc := Program_calls RtPr s w hs hL
  unfold Sp.print
  cases hr : Sp.parse Sp.Pr s.data.toList with
  | error er =>
    rw [hr] at hc
    go_enter Tryz.func6, Tryz.ntmps6
    go_wp2_with fail
    refine hc.mono ?_
    rintro e w1 ⟨v, rfl, hv, b1⟩
    obtain ⟨tv, uv, rfl⟩ := err_iface hv
    have HV : Hid (ErrAt w1 w.heap.size (.iface tv uv) er) := hv
    clear hv hc
    go_wp2_with fail
    go_ret2
    exact ⟨_, rfl, HV.out, b1⟩
  | ok xs =>
    rw [hr] at hc
    have hlen : (Sp.lines 0 xs).length ≤ 2000000 := Sp.parse_short hr
    go_enter Tryz.func6, Tryz.ntmps6
    go_wp2_with fail
    refine hc.mono ?_
    rintro e w1 ⟨v, rfl, hv, b1⟩
    have ht := Text_calls w.heap.size w1.heap.size w1 w1 v xs hv (SameOn.refl _ _ _) (Nat.le_refl _) (hL.below b1 hL.size) hlen
    clear hc hv
    go_wp2_with fail
    refine ht.mono ?_
    rintro e w2 ⟨rfl, b2⟩
    go_wp2_with fail
    go_ret2
    exact ⟨rfl, b1.trans (b2.mono b1.size)⟩

end Go.Proofs.YtjkllmiikdlhhaaGreatDoor
