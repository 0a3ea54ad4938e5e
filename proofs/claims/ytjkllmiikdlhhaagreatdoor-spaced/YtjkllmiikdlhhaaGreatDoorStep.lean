/- (reader) step: the next token. -/
import Derived.Test.YtjkllmiikdlhhaaGreatDoorRd
namespace Go.Proofs.YtjkllmiikdlhhaaGreatDoor
open Go.RowKit
set_option maxRecDepth 100000

set_option maxHeartbeats 4000000 in
theorem step_calls {b : Nat} {s : ByteArray} {m1 m2 : Nat} {l : Sp.Bs} {o : Nat} {w : World} (h : Rd b s m1 m2 l o w) :
    Calls Tryz.prog 94 #[.pointer (some ⟨b, 0, none⟩)] w fun e w' => e = .returned (.tuple #[]) ∧ Rd b s m1 m2 (Sp.next l) o w' ∧ Ext b w w' := by
  have h0 := h.c0
  have h1 := h.c1
  have h3 := h.c3
  have hlen := h.len
  have hsz := h.sz
  have htl := Sp.tok_length l
  have hle := Sp.tokLen_le l
  have ha : s.size - l.length + Sp.tokLen l ≤ s.size := by omega
  have hwr : Hid (IntKind.i64.wrap (((s.size - l.length : Nat) : Int) + ((Sp.tokLen l : Nat) : Int)) = ((s.size - l.length + Sp.tokLen l : Nat) : Int)) := by
    unfold Hid
    rw [IntWalk.i64_in _ (by omega)]
    omega
  have hd : Hid (Sp.skip (s.data.toList.drop (s.size - l.length + Sp.tokLen l)) = Sp.next l) := by
    unfold Hid; rw [h.drop_eq]; rfl
  have hsuf : Sp.next l <:+ s.data.toList := (Sp.next_suffix l).trans h.suf
  go_enter Tryz.func94, Tryz.ntmps94
  go_region_with (go_at_call 20; go_must (rw [hwr.out]); go_must (refine (scan_calls s _ _ ha hsz).mono ?_); go_must (rintro e w1 ⟨rfl, hb⟩); go_must (rw [hd.out, tokVal_eq]); obtain ⟨k1, k2, k3, f1, f2, f3⟩ := rd_facts h hb)
  all_goals
    go_end0
    exact ⟨rfl, rd_stored h (below_undrew hb) _ hsuf⟩

end Go.Proofs.YtjkllmiikdlhhaaGreatDoor
