/- Spaced: its walk. -/
import Derived.Test.YtiopfihjmkfdmaaGreatDoorGTell
import Derived.Test.YtiopfihjmkfdmaaGreatDoorGTight
import Derived.Test.YtiopfihjmkfdmaaGreatDoorGFacts
import Derived.Test.YtiopfihjmkfdmaaGreatDoorGFrame
import Derived.Test.YtiopfihjmkfdmaaGreatDoorGMathB
import Derived.Test.YtiopfihjmkfdmaaGreatDoorTie
import Derived.Test.YtiopfihjmkfdmaaGreatDoorCards
import Derived.ShutString
import Derived.SevenTiedAt
namespace Go.Proofs.YtiopfihjmkfdmaaGreatDoor
open Go.RowKit
set_option maxRecDepth 100000
set_option maxHeartbeats 1000000

theorem Spaced_calls (s : ByteArray) (w : World) (hL : Laid2 w)
    (ht : ∀ t, Sp.print s.data.toList = .ok t → t.length ≤ 400 → Sp.print (Sp.tight t) = .ok t)
    (hw : ∀ t, Sp.print s.data.toList = .ok t → t.length ≤ 400 → (Sp.wide t).length ≤ 400 → Sp.print (Sp.wide t) = .ok t) :
    Calls Tryz.prog 5 #[.string s] w fun e w' => e = .returned (.bool true) ∧ Below w.heap.size w w' := by
  have hp := prints_calls w hL
  by_cases hs : 1048576 < s.size
  · go_enter Tryz.func5, Tryz.ntmps5
    go_wp2_with fail
    refine hp.mono ?_
    rintro e w1 ⟨rfl, b1⟩
    go_wp2_with fail
    go_ret
    exact ⟨rfl, b1⟩
  · have hs' : s.size ≤ 1048576 := by omega
    go_enter Tryz.func5, Tryz.ntmps5
    go_wp2_with fail
    refine hp.mono ?_
    rintro e w1 ⟨rfl, b1⟩
    have hL1 := hL.after b1
    have hc := Print_calls s w1 hs' hL1.laid
    clear hp
    cases hr : Sp.print s.data.toList with
    | error er =>
      rw [hr] at hc
      have he : Hid (¬ (er.1 : Int) = 0) := by unfold Hid; have := Sp.print_e _ er hr; omega
      clear ht hw
      go_wp2_with fail
      refine hc.mono ?_
      rintro e w2 ⟨v, rfl, hv, b2⟩
      have hL2 := hL1.after b2
      have ht := Tell_err v er _ w2 hL2.et hL2.laid.size hv
      obtain ⟨tv, uv, rfl⟩ := err_iface hv
      clear hc hv
      go_wp2_with fail
      refine ht.mono ?_
      rintro e w3 ⟨rfl, b3⟩
      clear ht
      have he' := he.out
      go_wp2_with (go_at_call 18; refine (num_calls _ _).mono ?_; rintro e w4 ⟨rfl, rfl⟩)
      go_ret
      exact ⟨rfl, b1.trans ((b2.trans (b3.mono b2.size)).mono b1.size)⟩
    | ok t =>
      rw [hr] at hc
      have HT := ht t hr
      have HW := hw t hr
      clear ht hw hr
      obtain ⟨T, hT⟩ : ∃ T : ByteArray, Hid (T = ⟨t.toArray⟩) := ⟨_, rfl⟩
      have hTs : T.size = t.length := by rw [hT.out]; exact size_of _
      have hTl : T.data.toList = t := by rw [hT.out]
      go_wp2_with fail
      refine hc.mono ?_
      rintro e w2 ⟨rfl, b2⟩
      have hL2 := hL1.after b2
      clear hc
      rw [← hT.out]
      go_wp2_with fail
      refine (Tell_nil w2).mono ?_
      rintro e w3 ⟨rfl, b3⟩
      have hL3 := hL2.after b3
      have b123 : Below w.heap.size w w3 := b1.trans ((b2.trans (b3.mono b2.size)).mono b1.size)
      by_cases h4 : 400 < T.size
      · clear HT HW
        go_wp2_with (go_at_call 18; refine (num_calls _ _).mono ?_; rintro e w4 ⟨rfl, rfl⟩)
        go_ret
        exact ⟨rfl, b123⟩
      · have h4' : T.size ≤ 400 := by omega
        have hsp := spaced_calls T w3 h4'
        have hti := tight_calls T w3 h4'
        have HT' := HT (by omega)
        have HW' := HW (by omega)
        rw [hTl] at hsp hti
        have lw := Sp.wide_len t
        have lt := Sp.tightTo_len t t.length
        obtain ⟨A, hA⟩ : ∃ A : ByteArray, Hid (A = ⟨(Sp.wide t).toArray⟩) := ⟨_, rfl⟩
        obtain ⟨B, hB⟩ : ∃ B : ByteArray, Hid (B = ⟨(Sp.tight t).toArray⟩) := ⟨_, rfl⟩
        have hAs : A.size = (Sp.wide t).length := by rw [hA.out]; exact size_of _
        have hBs : B.size = (Sp.tight t).length := by rw [hB.out]; exact size_of _
        have hBs' : B.size ≤ 400 := by rw [hBs]; unfold Sp.tight; omega
        have hBl : B.data.toList = Sp.tight t := by rw [hB.out]
        have hAl : A.data.toList = Sp.wide t := by rw [hA.out]
        rw [← hA.out] at hsp
        rw [← hB.out] at hti
        have hc2 := Print_calls B w3 (by omega) hL3.laid
        rw [hBl, HT'] at hc2
        clear HT HW HT' hBl lw lt
        have HW2 : Hid (A.size ≤ 400 → Sp.print A.data.toList = .ok t) := by unfold Hid; intro h; rw [hAl]; exact HW' (by omega)
        clear HW' hAl hAs hBs
        go_wp2_with (first | (go_at_call 18; refine (num_calls _ _).mono ?_; rintro e w4 ⟨rfl, rfl⟩) | (go_at_call 20; refine hsp.mono ?_; rintro e w4 ⟨rfl, rfl⟩) | (go_at_call 21; refine hti.mono ?_; rintro e w4 ⟨rfl, rfl⟩))
        refine hc2.mono ?_
        rintro e w5 ⟨rfl, b5⟩
        have hL5 := hL3.after b5
        clear hc2 hsp hti
        rw [← hT.out]
        have b5' := b123.trans (b5.mono b123.size)
        go_wp2_with fail
        refine (Tell_nil w5).mono ?_
        rintro e w6 ⟨rfl, b6⟩
        have hL6 := hL5.after b6
        have b6' := b5'.trans (b6.mono b5'.size)
        by_cases h5 : 400 < A.size
        · go_wp2_with (go_at_call 18; refine (num_calls _ _).mono ?_; rintro e w7 ⟨rfl, rfl⟩)
          go_ret
          exact ⟨rfl, b6'⟩
        · have hc3 := Print_calls A w6 (by omega) hL6.laid
          rw [HW2.out (by omega)] at hc3
          go_wp2_with (go_at_call 18; refine (num_calls _ _).mono ?_; rintro e w7 ⟨rfl, rfl⟩)
          refine hc3.mono ?_
          rintro e w8 ⟨rfl, b8⟩
          clear hc3
          rw [← hT.out]
          have b8' := b6'.trans (b8.mono b6'.size)
          go_wp2_with fail
          refine (Tell_nil w8).mono ?_
          rintro e w9 ⟨rfl, b9⟩
          go_wp2_with (go_at_call 18; refine (num_calls _ _).mono ?_; rintro e w10 ⟨rfl, rfl⟩)
          go_ret
          exact ⟨rfl, b8'.trans (b9.mono b8'.size)⟩

end Go.Proofs.YtiopfihjmkfdmaaGreatDoor

/- Spaced: from the walk to the row and its card. -/
namespace Go.Proofs.YtiopfihjmkfdmaaGreatDoor
open Go.ChangeShapes Go.WideShapes Go.ChangeAt Go.RowKit
open Go.ChangeMaps (open_string shut_string)

set_option maxRecDepth 100000 in
theorem spaced_lifted (os : Os) (started : os.Started) (H : Type) (enc : TypeId × Value → H) :
    ReturnsInHanded {} Tryz.checked os 5 .any (fun w args => (Rows.spacedSpec.pre enc Tryz.prog Tryz.f5 [] false w args ∧ laidMetH Tryz.prog Rows.againRow.laid w) ∧ sizedMet enc Tryz.prog Tryz.f5 (OpenSpec.ofChange Rows.spacedSpec) false w args)
      (Rows.spacedSpec.post enc Tryz.prog Tryz.f5 false true false false) := by
  refine returnsInHanded_of_change_and (C := Tryz.checked) (X := fun w _ => laidMetH Tryz.prog Rows.againRow.laid w) (fun _ _ _ hh h => h.of_heap hh) own started (by kernel_rfl) Tryz.func5
    (ChangeSpec.witness_shaped (enc := enc) (C := Tryz.checked) (os := os) (X := fun w _ => laidMetH Tryz.prog Rows.againRow.laid w) false (World.doorLaid Tryz.prog 400 os) #[.string ByteArray.empty] 8 rfl (World.shaped_of_RefB (by kernel_rfl) (by kernel_rfl)) (by kernel_rfl) (by kernel_rfl) (by kernel_rfl) (door_met os _)) ?_
  intro W base args ds gs before hval0 hW _ _ hL _
  have hval : ∀ (j : Nat) t v, Tryz.f5.params[j]? = some t → args[j]? = some v → Value.okWide Tryz.prog W .any base t v := hval0
  have hW' := hW
  obtain ⟨p, q, hA0, hV, rfl, hfz, hnd⟩ := hW
  have hA : DataW.TrodAll enc Tryz.prog W 0 (fun _ => true) true Tryz.f5.params.toList args.toList ds p := hA0
  rw [Tryz.params5] at hA hval
  obtain ⟨v0, d0, rfl, rfl, h0⟩ := trodAll_one hA
  obtain ⟨rfl, rfl⟩ := trodVars_none hV
  obtain ⟨s, rfl, rfl, rfl, ws⟩ := open_string Tryz.underlying9 (hval 0 9 v0 rfl rfl) h0
  clear hA0 hval0
  refine (Spaced_calls s W (laid2_of hL) (Sp.print_tight _) (Sp.print_wide _)).mono fun e W' ⟨he, bel⟩ => ?_
  subst he
  exact ⟨_, rfl, _, _, _, [], _, [], hW', trodAll_mk1 (shut_bool Tryz.underlying4 _), trodAll_mk1 (shut_string Tryz.underlying9 ws), rfl, bel.frame _, fun h => by cases h⟩

set_option maxRecDepth 100000 in
set_option maxHeartbeats 4000000 in
theorem spaced_joined : joinedFacts Tryz.prog 5 Tryz.f5 Rows.spacedSpec Rows.spacedRow = true :=
  joined_of (by as_aux_lemma => kernel_rfl) f_laidOut f_mapsRowed (by as_aux_lemma => kernel_rfl) (by as_aux_lemma => kernel_rfl) rfl f_stops rfl f_knobs
    (by as_aux_lemma => kernel_rfl) (by as_aux_lemma => kernel_rfl) (by as_aux_lemma => kernel_rfl) (by as_aux_lemma => kernel_rfl)
    (by as_aux_lemma => kernel_rfl) (by as_aux_lemma => kernel_rfl) (by as_aux_lemma => kernel_rfl) (by as_aux_lemma => kernel_rfl) (by as_aux_lemma => kernel_rfl)
    (by as_aux_lemma => kernel_rfl) (by as_aux_lemma => kernel_rfl) (by as_aux_lemma => kernel_rfl) (by as_aux_lemma => kernel_rfl) f_keys rfl f_heard f_enter (by as_aux_lemma => kernel_rfl) (by as_aux_lemma => kernel_rfl)
    (by as_aux_lemma => kernel_rfl) (by as_aux_lemma => kernel_rfl) (by as_aux_lemma => kernel_rfl) (by as_aux_lemma => kernel_rfl)

set_option maxHeartbeats 4000000 in
theorem spaced_row : Rows.SpacedSaid :=
  OpenClaim.holds_of_wide 5 Tryz.f5 rfl rfl rfl rfl rfl rfl rfl ⟨rfl, rfl, rfl, rfl, rfl⟩ rfl rfl rfl rfl rfl (by as_aux_lemma => kernel_rfl) Tryz.func5 spaced_joined
    (of_decide_eq_true (by as_aux_lemma => kernel_rfl)) (by unfold Func.isWrapper; first | (rw [if_pos (by decide +kernel)]; kernel_rfl) | (rw [if_neg (by decide +kernel)]; exact ⟨rfl, rfl⟩))
    (fun os started H enc _ => spaced_lifted os started H enc)

theorem spaced_proved : Rows.SpacedCardSaid :=
  Claim7.holds_tied_plain_at .later [] [.data, .data, .data, .data, .data, .handle, .sentinel, .sentinel] true (true, Rows.spacedCard.stood.harness.2) true
    spaced_row (fun _ h => by cases h) (by as_aux_lemma => kernel_rfl) (fun _ h => by cases h) spaced_row_tie rfl ⟨rfl, rfl⟩ (by as_aux_lemma => kernel_rfl) rfl
    (fun f fn hf hfn => by
      obtain rfl : f = 5 := Option.some.inj ((show Tryz.prog.funcNamed "invariants/invariantslaw.Spaced" = some 5 by as_aux_lemma => kernel_rfl).symm.trans hf) |>.symm
      obtain rfl : fn = Tryz.f5 := (Option.some.inj (Tryz.func5.symm.trans hfn)).symm
      exact ⟨by as_aux_lemma => kernel_rfl, fun j t ht => by
        rw [Tryz.params5] at ht
        have h3 : t = 9 := by
          rcases j with _ | j
          · simpa using ht.symm
          · simp at ht
        subst h3
        exact (show Tryz.prog.wantsStandIn 9 = false by as_aux_lemma => kernel_rfl)⟩)
    (by as_aux_lemma => kernel_rfl)

end Go.Proofs.YtiopfihjmkfdmaaGreatDoor
