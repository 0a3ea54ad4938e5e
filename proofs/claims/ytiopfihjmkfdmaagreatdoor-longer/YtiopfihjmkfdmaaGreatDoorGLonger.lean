/- Longer: the walk. -/
import Derived.Test.YtiopfihjmkfdmaaGreatDoorGRerW
import Derived.Test.YtiopfihjmkfdmaaGreatDoorGFacts
import Derived.Test.YtiopfihjmkfdmaaGreatDoorGGrow
import Derived.Test.YtiopfihjmkfdmaaGreatDoorGFrame
import Derived.Test.YtiopfihjmkfdmaaGreatDoorTie
import Derived.Test.YtiopfihjmkfdmaaGreatDoorCards
import Derived.ShutString
import Derived.SevenTiedAt
import Derived.Carry
namespace Go.Proofs.YtiopfihjmkfdmaaGreatDoor
open Go.RowKit
set_option maxRecDepth 100000
set_option maxHeartbeats 4000000

/-- what is left of Longer -/
def LongerAt (src : Sp.Bs) (ins : List Int) (f m : Nat) : Prop :=
  (∃ er, Sp.run src ins f = .error er ∧ Sp.run src ins m = .error er ∧ er.1 ≠ 0) ∨
  ∃ x y, Sp.run src ins f = .ok x ∧ Sp.run src ins m = .ok y ∧ (x.2 ≠ -2 → x = y) ∧ (x.2 = -2 → x.1.length = f ∧ f ≤ y.1.length ∧ y.1.take f = x.1)

/-- a raw number as a fuel -/
def fuelOfRaw (n : Int) : Nat := ((IntKind.u64.wrap n) % 501).toNat

theorem ErrAt2.later {w w' : World} {B : Nat} {v : Value} {er : Nat × Nat} (h : ErrAt2 w B v er) (hb : Below w.heap.size w w') : ErrAt2 w' 0 v er := by
  rcases h with (h | ⟨N, _, h2, h3⟩) | h
  · exact .inl (.inl h)
  · exact .inl (.inr ⟨N, Nat.zero_le _, h2, by rw [hb.block _ (heap_lt h3)]; exact h3⟩)
  · exact .inr h

theorem visCells_append (a b : List (Int × List Int)) : visCells (a ++ b) = visCells a ++ visCells b := by
  unfold visCells; simp

theorem VisAt.take {w : World} {a : Option Addr} {n c : Nat} {vis : List (Int × List Int)} (h : VisAt w (.slice a n c) vis) (F : Nat) (hF : F ≤ vis.length) : VisAt w (.slice a F c) (vis.take F) := by
  obtain ⟨a', c', e, h2, h3⟩ := h
  cases e
  refine ⟨a, c, by simp [Nat.min_eq_left hF], by simp; omega, fun hne => ?_⟩
  have hv : vis ≠ [] := by intro e; subst e; simp at hne
  obtain ⟨g, h4, h5⟩ := h3 hv
  refine ⟨g, h4, fun i u hu => h5 i u ?_⟩
  rw [← List.take_append_drop F vis, visCells_append, List.getElem?_append_left (List.getElem?_eq_some_iff.1 hu).1]
  exact hu

theorem VisAt.set {w : World} {v : Value} {vis : List (Int × List Int)} (h : VisAt w v vis) {S j : Nat} {a : Option Addr} {n c : Nat} {x u : Value} {t : TypeId} (hS : w.heap[S]? = some (.cells #[.slice a n c, x] t)) : VisAt (w.setCell ⟨S, j, none⟩ u) v vis := by
  obtain ⟨a', c', e, h2, h3⟩ := h
  refine ⟨a', c', e, h2, fun hne => ?_⟩
  obtain ⟨g, h4, h5⟩ := h3 hne
  have hg : g ≠ S := by
    intro e
    subst e
    cases vis with
    | nil => exact hne rfl
    | cons y ys =>
      have h6 := h5 0 (.int .i64 y.1) rfl
      rw [cell_of hS 0 (v := .slice a n c) rfl] at h6
      cases h6
  exact ⟨g, h4, fun i u' hu => by rw [World.cell?_of_block (w := w) (Below.heap_setCell _ _ _ _ hg)]; exact h5 i u' hu⟩

theorem raw_fuel (n : Int) : ∃ F : Nat, Hid (fuelOfRaw n = F) ∧ F ≤ 500 ∧ RowKit.wrap64 ((IntKind.u64.wrap n).tmod 501) = (F : Int) := by
  have h0 : 0 ≤ IntKind.u64.wrap n := by
    simp [IntKind.wrap, IntKind.bits, IntKind.signed]; omega
  have h1 : (IntKind.u64.wrap n).tmod 501 = (IntKind.u64.wrap n) % 501 := Int.tmod_eq_emod_of_nonneg h0
  refine ⟨_, rfl, ?_, ?_⟩
  · unfold fuelOfRaw; omega
  · rw [h1]; unfold fuelOfRaw RowKit.wrap64; omega

theorem Longer_calls (s : ByteArray) (lv : Value) (l : List Int) (f m : Int) (w : World) (hL : Laid2 w) (hin : IntsAt w lv l)
    (hm : fuelOfRaw f ≤ fuelOfRaw m → LongerAt s.data.toList (ins16 l) (fuelOfRaw f) (fuelOfRaw m)) :
    Calls Tryz.prog 7 #[.string s, lv, .int .i64 f, .int .i64 m] w fun e w' => e = .returned (.bool true) ∧ Below w.heap.size w w' := by
  have hr := runs_calls w hL
  have hlv := hin
  obtain ⟨ad, cap, rfl, hcap, _⟩ := hin
  by_cases hs : 1048576 < s.size
  · go_enter Tryz.func7, Tryz.ntmps7
    go_wp2_with fail
    refine hr.mono ?_
    rintro e w1 ⟨rfl, b1⟩
    go_wp2_with fail
    go_ret
    exact ⟨rfl, b1⟩
  by_cases hl : 1048576 < l.length
  · go_enter Tryz.func7, Tryz.ntmps7
    go_wp2_with fail
    refine hr.mono ?_
    rintro e w1 ⟨rfl, b1⟩
    go_wp2_with fail
    go_ret
    exact ⟨rfl, b1⟩
  have hs' : s.size ≤ 1048576 := by omega
  have hs2 : ¬ (1048576 : Int) < (s.size : Int) := by omega
  have hl2 : ¬ (1048576 : Int) < (l.length : Int) := by omega
  go_enter Tryz.func7, Tryz.ntmps7
  go_wp2_with fail
  refine hr.mono ?_
  rintro e w1 ⟨rfl, b1⟩
  have hL1 := hL.after b1
  clear hr
  obtain ⟨F, hF, hF5, eF⟩ := raw_fuel f
  obtain ⟨M, hM, hM5, eM⟩ := raw_fuel m
  rw [hF.out, hM.out] at hm
  by_cases hFM : M < F
  · have hFM' : (M : Int) < (F : Int) := by omega
    go_wp2_with fail
    go_ret
    exact ⟨rfl, b1⟩
  have hFM' : ¬ ((M : Int) < (F : Int)) := by omega
  have hi := inputs_calls (.slice ad l.length cap) l w1 (hlv.after b1) (by omega)
  have hLo := hm (by omega)
  clear hm hF hM
  go_wp2_with fail
  simp only [eF, eM]
  clear eF eM
  refine hi.mono ?_
  rintro e w4 ⟨a, b, rfl, ha, _, b4⟩
  have hL4 := hL1.after b4
  rw [c16_eq] at ha
  obtain ⟨hia, aa, an, ac, rfl⟩ := in_of_row ha (by simp [ins16])
  have hc1 := Run_calls s (.slice aa an ac) (ins16 l) (F : Int) w4 hs' hL4.laid hia ⟨_, _, _, rfl⟩
  have B4 : Hid (Below w.heap.size w w4) := b1.trans (b4.mono b1.size)
  clear ha hi b1 b4
  rcases hLo with ⟨er, e1, e2, ene⟩ | ⟨x, y, e1, e2, hne, heq⟩
  · rw [e1] at hc1
    have he : Hid (¬ (er.1 : Int) = 0) := by unfold Hid; omega
    go_wp2_with fail
    refine hc1.mono ?_
    rintro e w5 ⟨v5, rfl, hv5, b5⟩
    have b5' : Below w4.heap.size w4 (w5.alloc (.cells #[.slice none 0 0, .int .i64 0] 41)) := b5.alloc b5.size _
    have hc2 := Run_calls s (.slice aa an ac) (ins16 l) (M : Int) (w5.alloc (.cells #[.slice none 0 0, .int .i64 0] 41)) hs' (hL4.after b5').laid (in_below hia b5') ⟨_, _, _, rfl⟩
    rw [e2] at hc2
    obtain ⟨t5, u5, rfl⟩ := err_iface2 hv5
    have hL5 := hL4.after b5'
    have B5 : Hid (Below w.heap.size w (w5.alloc (.cells #[.slice none 0 0, .int .i64 0] 41))) := B4.out.trans (b5'.mono B4.out.size)
    have HV5 : Hid (ErrAt2 (w5.alloc (.cells #[.slice none 0 0, .int .i64 0] 41)) 0 (.iface t5 u5) er) := hv5.later (below_alloc1 _ _)
    clear hc1 hv5 b5 b5'
    go_wp2_with fail
    generalize w5.alloc (.cells #[.slice none 0 0, .int .i64 0] 41) = wx at *
    refine hc2.mono ?_
    rintro e w6 ⟨v6, rfl, hv6, b6⟩
    obtain ⟨t6, u6, rfl⟩ := err_iface2 hv6
    have b6' : Below wx.heap.size wx (w6.alloc (.cells #[.slice none 0 0, .int .i64 0] 41)) := b6.alloc b6.size _
    have hL6 := hL5.after b6'
    have HV6 : Hid (ErrAt2 (w6.alloc (.cells #[.slice none 0 0, .int .i64 0] 41)) 0 (.iface t6 u6) er) := hv6.later (below_alloc1 _ _)
    have HV5' := HV5.out.later b6'
    have ht5 := Tell_err2 _ er 0 _ hL6.et hL6.laid.size HV5'
    have B6 : Hid (Below w.heap.size w (w6.alloc (.cells #[.slice none 0 0, .int .i64 0] 41))) := B5.out.trans (b6'.mono B5.out.size)
    clear hc2 hv6 b6 b6' HV5 HV5' B5
    go_wp2_with fail
    generalize w6.alloc (.cells #[.slice none 0 0, .int .i64 0] 41) = wy at *
    refine ht5.mono ?_
    rintro e w7 ⟨rfl, b7⟩
    have hL7 := hL6.after b7
    have ht6 := Tell_err2 _ er 0 _ hL7.et hL7.laid.size (HV6.out.later b7)
    clear ht5
    go_wp2_with fail
    refine ht6.mono ?_
    rintro e w8 ⟨rfl, b8⟩
    have he' := he.out
    clear ht6
    go_wp2_with (go_at_call 18; refine (num_calls _ _).mono ?_; rintro e w10 ⟨rfl, rfl⟩)
    go_ret
    exact ⟨rfl, B6.out.trans ((b7.trans (b8.mono b7.size)).mono B6.out.size)⟩
  · obtain ⟨vis, stop⟩ := x
    obtain ⟨vis2, stop2⟩ := y
    rw [e1] at hc1
    go_wp2_with fail
    refine hc1.mono ?_
    rintro e w5 ⟨v5, rfl, ⟨vv5, rfl, ho5, hlen⟩, b5⟩
    have hva5 := visAt_of ho5
    obtain ⟨a5, c5, rfl⟩ : ∃ a c, vv5 = .slice a vis.length c := by obtain ⟨a, c, h, _⟩ := hva5; exact ⟨_, _, h⟩
    have hn5 := heap_alloc_new w5 (.cells #[.slice a5 vis.length c5, .int .i64 stop] 41)
    have bx5 : Below w4.heap.size w4 (w5.alloc (.cells #[.slice a5 vis.length c5, .int .i64 stop] 41)) := b5.alloc b5.size _
    have hc2 := Run_calls s (.slice aa an ac) (ins16 l) (M : Int) (w5.alloc (.cells #[.slice a5 vis.length c5, .int .i64 stop] 41)) hs' (hL4.after bx5).laid (in_below hia bx5) ⟨_, _, _, rfl⟩
    rw [e2] at hc2
    have hva5' := hva5.below (below_alloc1 w5 (.cells #[.slice a5 vis.length c5, .int .i64 stop] 41))
    have HN5 : Hid (_ = _) := hn5
    have B5 : Hid (Below w.heap.size w (w5.alloc (.cells #[.slice a5 vis.length c5, .int .i64 stop] 41)) ∧ w5.heap.size < (w5.alloc (.cells #[.slice a5 vis.length c5, .int .i64 stop] 41)).heap.size) := ⟨B4.out.trans (bx5.mono B4.out.size), by simp⟩
    clear hc1 ho5 hva5 hn5 bx5 b5 hia B4 e1 e2
    go_wp2_with fail
    generalize w5.alloc (.cells #[.slice a5 vis.length c5, .int .i64 stop] 41) = wx at *
    refine hc2.mono ?_
    rintro e w6 ⟨v6, rfl, ⟨vv6, rfl, ho6, hlen2⟩, b6⟩
    have hva6 := visAt_of ho6
    obtain ⟨a6, c6, rfl⟩ : ∃ a c, vv6 = .slice a vis2.length c := by obtain ⟨a, c, h, _⟩ := hva6; exact ⟨_, _, h⟩
    have b7 := below_alloc1 w6 (.cells #[.slice a6 vis2.length c6, .int .i64 stop2] 41)
    have hn6 : (w6.alloc (.cells #[.slice a6 vis2.length c6, .int .i64 stop2] 41)).heap[w6.heap.size]? = some (.cells #[.slice a6 vis2.length c6, .int .i64 stop2] 41) := heap_alloc_new _ _
    have hn56 : (w6.alloc (.cells #[.slice a6 vis2.length c6, .int .i64 stop2] 41)).heap[w5.heap.size]? = some (.cells #[.slice a5 vis.length c5, .int .i64 stop] 41) := heap_alloc_old (by rw [b6.block _ B5.out.2]; exact HN5.out)
    have hvx := (hva5'.below b6).below b7
    have hvy := hva6.below b7
    have B6 : Hid (Below w.heap.size w (w6.alloc (.cells #[.slice a6 vis2.length c6, .int .i64 stop2] 41)) ∧ w.heap.size ≤ w6.heap.size) := ⟨B5.out.1.trans ((b6.trans (b7.mono b6.size)).mono B5.out.1.size), Nat.le_trans B5.out.1.size b6.size⟩
    have HN6 : Hid (_ = _) := hn6
    have HN56 : Hid (_ = _) := hn56
    have hlt6 : w6.heap.size < (w6.alloc (.cells #[.slice a6 vis2.length c6, .int .i64 stop2] 41)).heap.size := by simp
    have hlt5 : w5.heap.size < (w6.alloc (.cells #[.slice a6 vis2.length c6, .int .i64 stop2] 41)).heap.size := heap_lt hn56
    have hlt56 : w5.heap.size < w6.heap.size := Nat.lt_of_lt_of_le B5.out.2 b6.size
    have hvl : VisAt w6 (.slice a6 vis2.length c6) vis2 := hva6
    clear hc2 ho6 hva6 hva5' hn6 hn56 b6 b7 B5 HN5
    go_wp2_with fail
    generalize w6.alloc (.cells #[.slice a6 vis2.length c6, .int .i64 stop2] 41) = wy at *
    refine (Tell_nil wy).mono ?_
    rintro e w7 ⟨rfl, b7⟩
    go_wp2_with fail
    refine (Tell_nil w7).mono ?_
    rintro e w8 ⟨rfl, b8⟩
    have b9 : Below wy.heap.size wy w8 := b7.trans (b8.mono b7.size)
    have hb5 : w8.heap[w5.heap.size]? = some (.cells #[.slice a5 vis.length c5, .int .i64 stop] 41) := by rw [b9.block _ hlt5]; exact HN56.out
    have hb6 : w8.heap[w6.heap.size]? = some (.cells #[.slice a6 vis2.length c6, .int .i64 stop2] 41) := by rw [b9.block _ hlt6]; exact HN6.out
    have m0 := cell_of hb5 0 (v := .slice a5 vis.length c5) rfl
    have m1 := cell_of hb5 1 (v := .int .i64 stop) rfl
    have p0 := cell_of hb6 0 (v := .slice a6 vis2.length c6) rfl
    have p1 := cell_of hb6 1 (v := .int .i64 stop2) rfl
    have f0 := frozen_of hb6 0
    have f1 := frozen_of hb6 1
    have hvx8 := hvx.below b9
    have hvy8 := hvy.below b9
    have B8 : Hid (Below w.heap.size w w8) := B6.out.1.trans (b9.mono B6.out.1.size)
    clear b7 b8 b9 hvx hvy HN6 HN56 hvl
    by_cases hst : stop = -2
    · subst hst
      obtain ⟨q1, q2, q3⟩ := heq rfl
      clear heq hne
      have HB6 : Hid (_ = _) := hb6
      have HB5 : Hid (_ = _) := hb5
      clear hb5 hb6
      have hq1 : ((vis.length : Int) == (F : Int)) = true := by simp; omega
      have hq1' : (vis.length : Int) = (F : Int) := by omega
      have hq2 : ¬ ((vis2.length : Int) < (F : Int)) := by omega
      have hc6 : vis2.length ≤ c6 := by obtain ⟨_, _, h, h', _⟩ := hvy8; cases h; exact h'
      have hc6' : (F : Int) ≤ (c6 : Int) := by omega
      have hc6'' : F ≤ c6 := by omega
      go_wp2_with (go_at_call 18; refine (num_calls _ _).mono ?_; rintro e w10 ⟨rfl, rfl⟩)
      have hx9 : VisAt ((w10.setCell ⟨w6.heap.size, 0, none⟩ (.slice a6 F c6)).setCell ⟨w6.heap.size, 1, none⟩ (.int .i64 (-2))) (.slice a5 F c5) vis := by
        have h1 := (hvx8.set (j := 0) (u := .slice a6 F c6) HB6.out).set (j := 1) (u := .int .i64 (-2)) (heap_setCell_at HB6.out 0 (.slice a6 F c6))
        rw [q1] at h1
        exact h1
      have hy9 : VisAt ((w10.setCell ⟨w6.heap.size, 0, none⟩ (.slice a6 F c6)).setCell ⟨w6.heap.size, 1, none⟩ (.int .i64 (-2))) (.slice a6 F c6) vis := by
        have h1 := ((hvy8.take F q2).set (j := 0) (u := .slice a6 F c6) HB6.out).set (j := 1) (u := .int .i64 (-2)) (heap_setCell_at HB6.out 0 (.slice a6 F c6))
        rw [q3] at h1
        exact h1
      have hsc := sameTraces_calls (.slice a5 F c5) (.slice a6 F c6) (-2) vis _ hx9 hy9 hlen
      refine hsc.mono ?_
      rintro e w9 ⟨rfl, b9⟩
      have B9 : Hid (Below w.heap.size w w9) := by
        have b8 : Below w.heap.size w ((w10.setCell ⟨w6.heap.size, 0, none⟩ (.slice a6 F c6)).setCell ⟨w6.heap.size, 1, none⟩ (.int .i64 (-2))) := (B8.out.setCell (p := ⟨w6.heap.size, 0, none⟩) B6.out.2 _).setCell (p := ⟨w6.heap.size, 1, none⟩) B6.out.2 _
        exact b8.trans (b9.mono b8.size)
      clear hsc hx9 hy9 b9
      go_wp2_with fail
      go_ret
      exact ⟨rfl, B9.out⟩
    · obtain ⟨rfl, rfl⟩ : vis = vis2 ∧ stop = stop2 := by have := hne hst; cases this; exact ⟨rfl, rfl⟩
      have hsc := sameTraces_calls (.slice a5 vis.length c5) (.slice a6 vis.length c6) stop vis w8 hvx8 hvy8 hlen
      have hst' : ¬ (stop = -2) := hst
      clear heq hne hb5 hb6
      go_wp2_with (go_at_call 18; refine (num_calls _ _).mono ?_; rintro e w10 ⟨rfl, rfl⟩)
      refine hsc.mono ?_
      rintro e w9 ⟨rfl, b9⟩
      clear hsc m0 m1 p0 p1
      go_wp2_with fail
      go_ret
      exact ⟨rfl, B8.out.trans (b9.mono B8.out.size)⟩

end Go.Proofs.YtiopfihjmkfdmaaGreatDoor

/- Longer: from the walk to the row and its card. -/
namespace Go.Proofs.YtiopfihjmkfdmaaGreatDoor
open Go.ChangeShapes Go.WideShapes Go.ChangeAt Go.RowKit
open Go.ChangeMaps (open_string shut_string)
set_option maxRecDepth 100000

theorem longer_math (s : Sp.Bs) (ins : List Int) (f m : Int) (hfm : fuelOfRaw f ≤ fuelOfRaw m) : LongerAt s ins (fuelOfRaw f) (fuelOfRaw m) := by
  have b : ∀ n : Int, ¬ (((fuelOfRaw n : Nat) : Int) < 0 ∨ 500 < ((fuelOfRaw n : Nat) : Int)) := fun n => by
    obtain ⟨F, h1, h2, _⟩ := raw_fuel n
    rw [h1.out]; omega
  cases hp : Sp.parse Sp.Rn s with
  | error er =>
    refine .inl ⟨er, ?_, ?_, Sp.parse_e Sp.Rn s er hp⟩
    · unfold Sp.run; rw [hp]
    · unfold Sp.run; rw [hp]
  | ok xs =>
    obtain ⟨h1, h2⟩ := Sp.Gr.runOf_longer hp ins _ _ hfm
    refine .inr ⟨_, _, ?_, ?_, h1, h2⟩
    · unfold Sp.run; rw [hp]; simp only; rw [if_neg (b f)]; rfl
    · unfold Sp.run; rw [hp]; simp only; rw [if_neg (b m)]; rfl

theorem longer_lifted (os : Os) (started : os.Started) (H : Type) (enc : TypeId × Value → H) :
    ReturnsInHanded {} Tryz.checked os 7 .any (fun w args => (Rows.longerSpec.pre enc Tryz.prog Tryz.f7 [] false w args ∧ laidMetH Tryz.prog Rows.longerRow.laid w) ∧ sizedMet enc Tryz.prog Tryz.f7 (OpenSpec.ofChange Rows.longerSpec) false w args)
      (Rows.longerSpec.post enc Tryz.prog Tryz.f7 false true false false) := by
  refine returnsInHanded_of_change_and (C := Tryz.checked) (X := fun w _ => laidMetH Tryz.prog Rows.longerRow.laid w) (fun _ _ _ hh h => h.of_heap hh) own started (by kernel_rfl) Tryz.func7
    (ChangeSpec.witness_shaped (enc := enc) (C := Tryz.checked) (os := os) (X := fun w _ => laidMetH Tryz.prog Rows.longerRow.laid w) false (World.doorLaid Tryz.prog 400 os) #[.string ByteArray.empty, .slice none 0 0, .int .i64 0, .int .i64 0] 8 rfl (World.shaped_of_RefB (by kernel_rfl) (by kernel_rfl)) (by kernel_rfl) (by kernel_rfl) (by kernel_rfl) (door_met os _)) ?_
  intro W base args ds gs before hval0 hW _ _ hL _
  have hval : ∀ (j : Nat) t v, Tryz.f7.params[j]? = some t → args[j]? = some v → Value.okWide Tryz.prog W .any base t v := hval0
  have hW' := hW
  obtain ⟨p, q, hA0, hV, rfl, hfz, hnd⟩ := hW
  have hA : DataW.TrodAll enc Tryz.prog W 0 (fun _ => true) true Tryz.f7.params.toList args.toList ds p := hA0
  rw [Tryz.params7] at hA hval
  obtain ⟨v0, v1, v2, v3, d0, d1, d2, d3, p0, p1, p2, p3, rfl, rfl, rfl, h0, h1, h2, h3⟩ := trodAll_four hA
  obtain ⟨rfl, rfl⟩ := trodVars_none hV
  obtain ⟨s, rfl, rfl, rfl, ws⟩ := open_string Tryz.underlying9 (hval 0 9 v0 rfl rfl) h0
  obtain ⟨f, rfl, rfl, rfl, wf⟩ := open_int Tryz.underlying3 (hval 2 3 v2 rfl rfl) h2
  obtain ⟨m, rfl, rfl, rfl, wm⟩ := open_int Tryz.underlying3 (hval 3 3 v3 rfl rfl) h3
  obtain ⟨l, hl⟩ := ints_in (hval 1 35 v1 rfl rfl) h1
  clear hA0 hval0
  have hlt : ∀ x ∈ p1, x.block < W.heap.size := fun x hx => by simpa using hW'.lt x (by simp [hx])
  refine (Longer_calls s v1 l f m W (laid2_of hL) hl (longer_math _ _ _ _)).mono fun e W' ⟨he, bel⟩ => ?_
  subst he
  have hk := Below.trod laidOut (by kernel_rfl) (of_decide_eq_true (by kernel_rfl)) h1 bel hlt
  exact ⟨_, rfl, _, _, _, [], _, [], hW', trodAll_mk1 (shut_bool Tryz.underlying4 _), trodAll_mk4 (shut_string Tryz.underlying9 ws) hk (shut_int Tryz.underlying3 wf) (shut_int Tryz.underlying3 wm), rfl, bel.frame _, fun h => by cases h⟩

set_option maxRecDepth 100000 in
set_option maxHeartbeats 4000000 in
theorem longer_joined : joinedFacts Tryz.prog 7 Tryz.f7 Rows.longerSpec Rows.longerRow = true :=
  joined_of (by as_aux_lemma => kernel_rfl) f_laidOut f_mapsRowed (by as_aux_lemma => kernel_rfl) (by as_aux_lemma => kernel_rfl) rfl f_stops rfl f_knobs
    (by as_aux_lemma => kernel_rfl) (by as_aux_lemma => kernel_rfl) (by as_aux_lemma => kernel_rfl) (by as_aux_lemma => kernel_rfl)
    (by as_aux_lemma => kernel_rfl) (by as_aux_lemma => kernel_rfl) (by as_aux_lemma => kernel_rfl) (by as_aux_lemma => kernel_rfl) (by as_aux_lemma => kernel_rfl)
    (by as_aux_lemma => kernel_rfl) (by as_aux_lemma => kernel_rfl) (by as_aux_lemma => kernel_rfl) (by as_aux_lemma => kernel_rfl) f_keys rfl f_heard f_enter (by as_aux_lemma => kernel_rfl) (by as_aux_lemma => kernel_rfl)
    (by as_aux_lemma => kernel_rfl) (by as_aux_lemma => kernel_rfl) (by as_aux_lemma => kernel_rfl) (by as_aux_lemma => kernel_rfl)

set_option maxHeartbeats 4000000 in
theorem longer_row : Rows.LongerSaid :=
  OpenClaim.holds_of_wide 7 Tryz.f7 rfl rfl rfl rfl rfl rfl rfl ⟨rfl, rfl, rfl, rfl, rfl⟩ rfl rfl rfl rfl rfl (by as_aux_lemma => kernel_rfl) Tryz.func7 longer_joined
    (of_decide_eq_true (by as_aux_lemma => kernel_rfl)) (by unfold Func.isWrapper; first | (rw [if_pos (by decide +kernel)]; kernel_rfl) | (rw [if_neg (by decide +kernel)]; exact ⟨rfl, rfl⟩))
    (fun os started H enc _ => longer_lifted os started H enc)

theorem longer_proved : Rows.LongerCardSaid :=
  Claim7.holds_tied_plain_at .later [] [.data, .data, .data, .data, .data, .handle, .sentinel, .sentinel] true (true, Rows.longerCard.stood.harness.2) true
    longer_row (fun _ h => by cases h) (by as_aux_lemma => kernel_rfl) (fun _ h => by cases h) longer_row_tie rfl ⟨rfl, rfl⟩ (by as_aux_lemma => kernel_rfl) rfl
    (fun f fn hf hfn => by
      obtain rfl : f = 7 := Option.some.inj ((show Tryz.prog.funcNamed "invariants/invariantslaw.Longer" = some 7 by as_aux_lemma => kernel_rfl).symm.trans hf) |>.symm
      obtain rfl : fn = Tryz.f7 := (Option.some.inj (Tryz.func7.symm.trans hfn)).symm
      exact ⟨by as_aux_lemma => kernel_rfl, fun j t ht => by
        rw [Tryz.params7] at ht
        have h3 : t = 9 ∨ t = 35 ∨ t = 3 := by
          rcases j with _ | _ | _ | _ | j
          · left; simpa using ht.symm
          · right; left; simpa using ht.symm
          · right; right; simpa using ht.symm
          · right; right; simpa using ht.symm
          · simp at ht
        rcases h3 with rfl | rfl | rfl
        · exact (show Tryz.prog.wantsStandIn 9 = false by as_aux_lemma => kernel_rfl)
        · exact (show Tryz.prog.wantsStandIn 35 = false by as_aux_lemma => kernel_rfl)
        · exact (show Tryz.prog.wantsStandIn 3 = false by as_aux_lemma => kernel_rfl)⟩)
    (by as_aux_lemma => kernel_rfl)

end Go.Proofs.YtiopfihjmkfdmaaGreatDoor
