/- (printer) line. -/
import Derived.Test.YtjkllmiikdlhhaaGreatDoorBuilder
namespace Go.Proofs.YtjkllmiikdlhhaaGreatDoor
open Go.RowKit
set_option maxRecDepth 100000
set_option maxHeartbeats 400000

/-- the parts of a line lie in a block -/
def PartsAt (a : Nat) (ps : List ByteArray) (w : World) : Prop := ∃ c, w.heap[a]? = some (.cells c 9) ∧ ∀ (i : Nat) (s : ByteArray), ps[i]? = some s → c[i]? = some (Value.string s)

theorem PartsAt.cell {a : Nat} {ps : List ByteArray} {w : World} (h : PartsAt a ps w) {i : Nat} {s : ByteArray} (hs : ps[i]? = some s) : w.cell? ⟨a, i, none⟩ = some (.string s) := by
  obtain ⟨c, hc, hi⟩ := h
  exact cell_of hc i (hi i s hs)

theorem PartsAt.keep {B b a : Nat} {ps : List ByteArray} {w w' : World} (h : PartsAt a ps w) (k : PKeep B b w w') (hab : a ≠ b) : PartsAt a ps w' := by
  obtain ⟨c, hc, hi⟩ := h
  exact ⟨c, k.cell hc hab (by decide), hi⟩

def joined (ps : List ByteArray) : Sp.Bs := (ps.map fun s => s.data.toList).flatten

theorem PrAt.depth {B b d : Nat} {t : Sp.Bs} {w : World} (h : PrAt B b d t w) : w.cell? ⟨b, 2, none⟩ = some (.int .i64 (d : Nat)) := by
  obtain ⟨p, v, hb, _⟩ := h
  exact cell_of hb 2 rfl

theorem pad_succ (k : Nat) : Sp.pad (k + 1) = Sp.pad k ++ [32, 32] := by
  unfold Sp.pad
  rw [show 2 * (k + 1) = 2 * k + 1 + 1 from by omega, List.replicate_succ', List.replicate_succ']
  simp

theorem joined_succ (ps : List ByteArray) (k : Nat) (s : ByteArray) (h : ps[k]? = some s) : joined (ps.take (k + 1)) = joined (ps.take k) ++ s.data.toList := by
  unfold joined
  have hk := (List.getElem?_eq_some_iff.1 h)
  rw [List.take_succ_eq_append_getElem hk.1, hk.2]
  simp

theorem joined_split (ps : List ByteArray) (k : Nat) : (joined ps).length = (joined (ps.take k)).length + (joined (ps.drop k)).length := by
  have h : joined ps = joined (ps.take k) ++ joined (ps.drop k) := by
    unfold joined
    rw [← List.flatten_append, ← List.map_append, List.take_append_drop]
  rw [h, List.length_append]

theorem joined_le (ps : List ByteArray) (k : Nat) : (joined (ps.take k)).length ≤ (joined ps).length := by
  rw [joined_split ps k]; omega

theorem line_calls (B b d a : Nat) (t : Sp.Bs) (ps : List ByteArray) (cap : Nat) (w : World) (h : PrAt B b d t w) (hp : PartsAt a ps w) (hab : a ≠ b) (hn : ps.length ≤ 4) (hlen : t.length + (Sp.pad d ++ joined ps ++ [10]).length ≤ 100000000) (hBw : B ≤ w.heap.size) :
    Calls Tryz.prog 56 #[.pointer (some ⟨b, 0, none⟩), .slice (some ⟨a, 0, none⟩) ps.length cap] w fun e w' => e = .returned (.tuple #[]) ∧ PrAt B b d (t ++ (Sp.pad d ++ joined ps ++ [10])) w' ∧ PKeep B b w w' := by
  have c2 := h.depth
  simp only [List.length_append, List.length_cons, List.length_nil] at hlen
  have hd : d ≤ 100000000 := by
    have : (Sp.pad d).length = 2 * d := by simp [Sp.pad]
    omega
  have hpl : ∀ k, k ≤ d → (Sp.pad k).length ≤ (Sp.pad d).length := fun k hk => by unfold Sp.pad; simp; omega
  go_enter Tryz.func56, Tryz.ntmps56
  go_wp2_with fail
  go_loopw [10] (fun i wr => ∃ k : Nat, k ≤ d ∧ i = .int .i64 k ∧ Hid (PrAt B b d (t ++ Sp.pad k) wr ∧ PKeep B b w wr)) (fun i _ => d - (intOf i).toNat)
  case atStart => exact ⟨0, Nat.zero_le _, rfl, by simpa [Sp.pad] using h, PKeep.refl _ _ _⟩
  case round =>
    obtain ⟨k, hk, rfl, hr⟩ := hrel
    by_cases hlt : k < d
    · have hplk := hpl k hk
      go_wp2_with fail
      refine (writeString_calls B b d (t ++ Sp.pad k) ⟨#[32, 32]⟩ wr hr.out.1 (by simp only [List.length_append]; show _ + 2 ≤ _; omega) (by have := hr.out.2.below.size; omega)).mono ?_
      rintro e w1 ⟨rfl, h1, b1⟩
      have h1' : PrAt B b d (t ++ Sp.pad (k + 1)) w1 := by rw [pad_succ, ← List.append_assoc]; exact h1
      have HR : Hid (PrAt B b d (t ++ Sp.pad (k + 1)) w1 ∧ PKeep B b w w1) := ⟨h1', hr.out.2.trans b1⟩
      clear h1 h1'
      go_wp2_with fail
      exact ⟨⟨k + 1, by omega, by go_num, HR⟩, by simp [intOf]; omega⟩
    · have e : k = d := by omega
      subst e
      go_wp2_with fail
      obtain ⟨wo, hwo⟩ : ∃ wo : World, wo = wr := ⟨_, rfl⟩
      go_loopw [5, 19] (fun _ i wq => ∃ j : Nat, j ≤ ps.length ∧ i = .int .i64 j ∧ Hid (PrAt B b k (t ++ Sp.pad k ++ joined (ps.take j)) wq ∧ PKeep B b w wq)) (fun _ i _ => ps.length - (intOf i).toNat)
      case atStart => exact ⟨0, Nat.zero_le _, rfl, by simpa [joined] using hr.out.1, hr.out.2⟩
      case round =>
        obtain ⟨j, hj, rfl, hq⟩ := hrel
        have hjl := joined_le ps j
        by_cases hjlt : j < ps.length
        · obtain ⟨s, hs⟩ : ∃ s, ps[j]? = some s := ⟨_, List.getElem?_eq_getElem hjlt⟩
          have hjs := joined_succ ps j s hs
          have hjl1 := joined_le ps (j + 1)
          rw [hjs, List.length_append] at hjl1
          have hcs : wr.cell? ⟨a, j, none⟩ = some (.string s) := (hp.keep hq.out.2 hab).cell hs
          have hsl : s.data.toList.length = s.size := by simp
          clear hs
          go_wp2_with fail
          refine (writeString_calls B b k (t ++ Sp.pad k ++ joined (ps.take j)) s wr hq.out.1 (by simp only [List.length_append]; omega) (by have := hq.out.2.below.size; omega)).mono ?_
          rintro e w1 ⟨rfl, h1, b1⟩
          have h1' : PrAt B b k (t ++ Sp.pad k ++ joined (ps.take (j + 1))) w1 := by rw [hjs, ← List.append_assoc]; exact h1
          have HR : Hid (PrAt B b k (t ++ Sp.pad k ++ joined (ps.take (j + 1))) w1 ∧ PKeep B b w w1) := ⟨h1', hq.out.2.trans b1⟩
          clear h1 h1' hjs
          go_wp2_with fail
          exact ⟨⟨j + 1, by omega, by go_num, HR⟩, by simp [intOf]; omega⟩
        · have hlast : Hid (PrAt B b k (t ++ Sp.pad k ++ joined ps) wr) := by
            unfold Hid
            have := hq.out.1
            rwa [List.take_of_length_le (by omega)] at this
          go_wp2_with fail
          refine (writeString_calls B b k (t ++ Sp.pad k ++ joined ps) ⟨#[10]⟩ wr hlast.out (by simp only [List.length_append]; show _ + 1 ≤ _; omega) (by have := hq.out.2.below.size; omega)).mono ?_
          rintro e w1 ⟨rfl, h1, b1⟩
          have HR : Hid (PrAt B b k (t ++ (Sp.pad k ++ joined ps ++ [10])) w1) := by
            unfold Hid
            have : t ++ (Sp.pad k ++ joined ps ++ [10]) = t ++ Sp.pad k ++ joined ps ++ [10] := by simp
            rw [this]; exact h1
          clear h1
          go_wp2_with fail
          go_end0
          exact ⟨rfl, HR.out, hq.out.2.trans b1⟩

end Go.Proofs.YtjkllmiikdlhhaaGreatDoor
