/- Rerun: the walk. -/
import Derived.Test.YtiopfihjmkfdmaaGreatDoorGRunD
import Derived.ProofKit
import Derived.Carry
import Derived.ChangeSlices
namespace Go.Proofs.YtiopfihjmkfdmaaGreatDoor
open Go.RowKit
set_option maxRecDepth 100000
set_option maxHeartbeats 4000000

theorem in_below {w w' : World} {v : Value} {l : List Int} (h : InAt w.heap.size w v l) (hb : Below w.heap.size w w') : InAt w'.heap.size w' v l := by
  rcases h.below hb with h | ⟨g, off, cap, h1, h2, h3⟩
  · exact .inl h
  · exact .inr ⟨g, off, cap, h1, Nat.lt_of_lt_of_le h2 hb.size, h3⟩

/-- the inputs of a run, out of the law's own -/
def ins16 (l : List Int) : List Int := l.map Sp.w16

theorem c16_eq (l : List Int) : c16 l = (ins16 l).map fun n => .int .i16 n := by
  unfold c16 ins16; rw [List.map_map]; rfl

theorem Rerun_calls (s : ByteArray) (lv : Value) (l : List Int) (w : World) (hL : Laid2 w) (hin : IntsAt w lv l)
    (hm : ∀ t, Sp.print s.data.toList = .ok t → t.length ≤ 400 → ∃ tr, Sp.run s.data.toList (ins16 l) 200 = .ok tr ∧ Sp.run t (ins16 l) 200 = .ok tr) :
    Calls Tryz.prog 8 #[.string s, lv] w fun e w' => e = .returned (.bool true) ∧ Below w.heap.size w w' := by
  have hr := runs_calls w hL
  have hlv := hin
  obtain ⟨ad, cap, rfl, hcap, _⟩ := hin
  by_cases hs : 1048576 < s.size
  · go_enter Tryz.func8, Tryz.ntmps8
    go_wp2_with fail
    refine hr.mono ?_
    rintro e w1 ⟨rfl, b1⟩
    go_wp2_with fail
    go_ret
    exact ⟨rfl, b1⟩
  by_cases hl : 1048576 < l.length
  · go_enter Tryz.func8, Tryz.ntmps8
    go_wp2_with fail
    refine hr.mono ?_
    rintro e w1 ⟨rfl, b1⟩
    go_wp2_with fail
    go_ret
    exact ⟨rfl, b1⟩
  have hs' : s.size ≤ 1048576 := by omega
  have hs2 : ¬ (1048576 : Int) < (s.size : Int) := by omega
  have hl2 : ¬ (1048576 : Int) < (l.length : Int) := by omega
  go_enter Tryz.func8, Tryz.ntmps8
  go_wp2_with fail
  refine hr.mono ?_
  rintro e w1 ⟨rfl, b1⟩
  have hL1 := hL.after b1
  have hc := Print_calls s w1 hs' hL1.laid
  clear hr
  cases hp : Sp.print s.data.toList with
  | error er =>
    rw [hp] at hc
    have he : Hid (¬ (er.1 : Int) = 0) := by unfold Hid; have := Sp.print_e _ er hp; omega
    go_wp2_with fail
    refine hc.mono ?_
    rintro e w2 ⟨v, rfl, hv, b2⟩
    have hL2 := hL1.after b2
    have ht := Tell_err v er _ w2 hL2.et hL2.laid.size hv
    obtain ⟨tv, uv, rfl⟩ := err_iface hv
    clear hc hv
    go_wp2_with fail
    refine ht.mono ?_
    rintro e w3 ⟨rfl, b3⟩
    clear ht
    have he' := he.out
    go_wp2_with (go_at_call 18; refine (num_calls _ _).mono ?_; rintro e w4 ⟨rfl, rfl⟩)
    go_ret
    exact ⟨rfl, b1.trans ((b2.trans (b3.mono b2.size)).mono b1.size)⟩
  | ok t =>
    rw [hp] at hc
    obtain ⟨T, hT⟩ : ∃ T : ByteArray, Hid (T = ⟨t.toArray⟩) := ⟨_, rfl⟩
    have hTs : T.size = t.length := by rw [hT.out]; exact size_of _
    go_wp2_with fail
    refine hc.mono ?_
    rintro e w2 ⟨rfl, b2⟩
    have hL2 := hL1.after b2
    clear hc
    rw [← hT.out]
    go_wp2_with fail
    refine (Tell_nil w2).mono ?_
    rintro e w3 ⟨rfl, b3⟩
    have hL3 := hL2.after b3
    have B3 : Hid (Below w.heap.size w w3) := b1.trans ((b2.trans (b3.mono b2.size)).mono b1.size)
    by_cases h4 : 400 < T.size
    · go_wp2_with (go_at_call 18; refine (num_calls _ _).mono ?_; rintro e w4 ⟨rfl, rfl⟩)
      go_ret
      exact ⟨rfl, B3.out⟩
    · obtain ⟨tr, hr1, hr2⟩ := hm t hp (by omega)
      obtain ⟨vis, stop⟩ := tr
      have h4' : ¬ (400 : Int) < (T.size : Int) := by omega
      have hi := inputs_calls (.slice ad l.length cap) l w3 (hlv.after B3.out) (by omega)
      clear b1 b2 b3
      go_wp2_with (go_at_call 18; refine (num_calls _ _).mono ?_; rintro e w4 ⟨rfl, rfl⟩)
      refine hi.mono ?_
      rintro e w4 ⟨a, b, rfl, ha, _, b4⟩
      have hL4 := hL3.after b4
      rw [c16_eq] at ha
      obtain ⟨hia, aa, an, ac, rfl⟩ := in_of_row ha (by simp [ins16])
      have hc1 := Run_calls s (.slice aa an ac) (ins16 l) 200 w4 hs' hL4.laid hia ⟨_, _, _, rfl⟩
      rw [hr1] at hc1
      clear ha hi
      go_wp2_with fail
      refine hc1.mono ?_
      rintro e w5 ⟨v5, rfl, ⟨vv5, rfl, ho5, hlen⟩, b5⟩
      have hva5 := visAt_of ho5
      obtain ⟨a5, n5, c5, rfl⟩ : ∃ a n c, vv5 = .slice a n c := by obtain ⟨a, c, h, _⟩ := hva5; exact ⟨_, _, _, h⟩
      have hn5 := heap_alloc_new w5 (.cells #[.slice a5 n5 c5, .int .i64 stop] 41)
      have bx5 : Below w4.heap.size w4 (w5.alloc (.cells #[.slice a5 n5 c5, .int .i64 stop] 41)) := b5.alloc b5.size _
      have hc2 := Run_calls T (.slice aa an ac) (ins16 l) 200 (w5.alloc (.cells #[.slice a5 n5 c5, .int .i64 stop] 41)) (by omega) (hL4.after bx5).laid (in_below hia bx5) ⟨_, _, _, rfl⟩
      rw [show T.data.toList = t by rw [hT.out], hr2] at hc2
      have hva5' := hva5.below (below_alloc1 w5 (.cells #[.slice a5 n5 c5, .int .i64 stop] 41))
      have HN5 : Hid (_ = _) := hn5
      have B5 : Hid (Below w.heap.size w (w5.alloc (.cells #[.slice a5 n5 c5, .int .i64 stop] 41)) ∧ w5.heap.size < (w5.alloc (.cells #[.slice a5 n5 c5, .int .i64 stop] 41)).heap.size) := ⟨B3.out.trans ((b4.trans (bx5.mono b4.size)).mono B3.out.size), by simp⟩
      clear hc1 ho5 hva5 hn5 bx5 b5 b4 hia B3
      go_wp2_with fail
      generalize w5.alloc (.cells #[.slice a5 n5 c5, .int .i64 stop] 41) = wx at *
      refine hc2.mono ?_
      rintro e w6 ⟨v6, rfl, ⟨vv6, rfl, ho6, _⟩, b6⟩
      have hva6 := visAt_of ho6
      obtain ⟨a6, n6, c6, rfl⟩ : ∃ a n c, vv6 = .slice a n c := by obtain ⟨a, c, h, _⟩ := hva6; exact ⟨_, _, _, h⟩
      have b7 := below_alloc1 w6 (.cells #[.slice a6 n6 c6, .int .i64 stop] 41)
      have hn6 : (w6.alloc (.cells #[.slice a6 n6 c6, .int .i64 stop] 41)).heap[w6.heap.size]? = some (.cells #[.slice a6 n6 c6, .int .i64 stop] 41) := heap_alloc_new _ _
      have hn56 : (w6.alloc (.cells #[.slice a6 n6 c6, .int .i64 stop] 41)).heap[w5.heap.size]? = some (.cells #[.slice a5 n5 c5, .int .i64 stop] 41) := heap_alloc_old (by rw [b6.block _ B5.out.2]; exact HN5.out)
      have hvx := (hva5'.below b6).below b7
      have hvy := hva6.below b7
      have B6 : Hid (Below w.heap.size w (w6.alloc (.cells #[.slice a6 n6 c6, .int .i64 stop] 41))) := B5.out.1.trans ((b6.trans (b7.mono b6.size)).mono B5.out.1.size)
      have HN6 : Hid (_ = _) := hn6
      have HN56 : Hid (_ = _) := hn56
      have hlt6 : w6.heap.size < (w6.alloc (.cells #[.slice a6 n6 c6, .int .i64 stop] 41)).heap.size := by simp
      have hlt5 : w5.heap.size < (w6.alloc (.cells #[.slice a6 n6 c6, .int .i64 stop] 41)).heap.size := heap_lt hn56
      clear hc2 ho6 hva6 hva5' hn6 hn56 b6 b7 B5 HN5
      go_wp2_with fail
      generalize w6.alloc (.cells #[.slice a6 n6 c6, .int .i64 stop] 41) = wy at *
      refine (Tell_nil wy).mono ?_
      rintro e w7 ⟨rfl, b7⟩
      go_wp2_with fail
      refine (Tell_nil w7).mono ?_
      rintro e w8 ⟨rfl, b8⟩
      have b9 : Below wy.heap.size wy w8 := b7.trans (b8.mono b7.size)
      have m0 := cell_of (show w8.heap[w5.heap.size]? = _ by rw [b9.block _ hlt5]; exact HN56.out) 0 (v := .slice a5 n5 c5) rfl
      have m1 := cell_of (show w8.heap[w5.heap.size]? = _ by rw [b9.block _ hlt5]; exact HN56.out) 1 (v := .int .i64 stop) rfl
      have p0 := cell_of (show w8.heap[w6.heap.size]? = _ by rw [b9.block _ hlt6]; exact HN6.out) 0 (v := .slice a6 n6 c6) rfl
      have p1 := cell_of (show w8.heap[w6.heap.size]? = _ by rw [b9.block _ hlt6]; exact HN6.out) 1 (v := .int .i64 stop) rfl
      have hst := sameTraces_calls (.slice a5 n5 c5) (.slice a6 n6 c6) stop vis w8 (hvx.below b9) (hvy.below b9) hlen
      have B8 : Hid (Below w.heap.size w w8) := B6.out.trans (b9.mono B6.out.size)
      clear b7 b8 b9 hvx hvy B6 HN6 HN56
      go_wp2_with fail
      refine hst.mono ?_
      rintro e w9 ⟨rfl, b9⟩
      clear hst m0 m1 p0 p1
      go_wp2_with (go_at_call 18; refine (num_calls _ _).mono ?_; rintro e w10 ⟨rfl, rfl⟩)
      go_ret
      exact ⟨rfl, B8.out.trans (b9.mono B8.out.size)⟩

end Go.Proofs.YtiopfihjmkfdmaaGreatDoor

/- Rows: a slice of numbers that was handed in. -/
namespace Go.Proofs.YtiopfihjmkfdmaaGreatDoor
open Go.ChangeShapes Go.WideShapes Go.ChangeAt Go.RowKit
set_option maxRecDepth 100000

theorem laidOut : laidOutB Tryz.prog = true := by kernel_rfl

/-- a slice of numbers that was handed in -/
theorem ints_in {H : Type} {enc : TypeId × Value → H} {W : World} {base : Nat} {v : Value} {d : DataW H} {p : List MemPlace} (hval : Value.okWide Tryz.prog W .any base 35 v) (h : DataW.Trod enc Tryz.prog W 0 (fun _ => true) true 35 v d p) : ∃ l, IntsAt W v l := by
  obtain ⟨a0, len, cap, rfl⟩ := okWide_slice Tryz.underlying35 hval
  obtain ⟨fuel, hf⟩ := h
  rcases open_ints Tryz.underlying35 Tryz.underlying3 (by kernel_rfl) hf with ⟨hcs, _⟩ | ⟨a, len', cap', zs, hcs, _, hl, hm, hz, _, hcell, _⟩
  · simp [Value.cells] at hcs
    obtain ⟨rfl, rfl, rfl⟩ := hcs
    exact ⟨[], none, 0, rfl, Nat.le_refl _, fun h => absurd rfl h⟩
  · simp [Value.cells] at hcs
    obtain ⟨rfl, rfl, rfl⟩ := hcs
    simp only [if_true] at hz
    refine ⟨zs.take len, some a, cap, ?_, ?_, fun hne => ?_⟩
    · simp; omega
    · simp; omega
    · have hz0 : 0 < zs.length := by
        rcases Nat.eq_zero_or_pos zs.length with h | h
        · exact absurd (by rw [List.eq_nil_of_length_eq_zero h]; simp) hne
        · exact h
      obtain ⟨g, off, sp⟩ := a
      have hsp : sp = none := World.cell?_spot (a := ⟨g, off, sp⟩) (hcell 0 hz0)
      subst hsp
      refine ⟨g, off, rfl, fun i n hn => ?_⟩
      have hi : i < zs.length := by
        have := (List.getElem?_eq_some_iff.1 hn).1
        simp at this; omega
      have h1 := hcell i hi
      rw [add_plain] at h1
      rw [h1]
      have h2 : zs[i]? = some n := by
        rw [List.getElem?_take] at hn
        split at hn
        · exact hn
        · cases hn
      rw [List.getD, h2]; rfl

end Go.Proofs.YtiopfihjmkfdmaaGreatDoor
