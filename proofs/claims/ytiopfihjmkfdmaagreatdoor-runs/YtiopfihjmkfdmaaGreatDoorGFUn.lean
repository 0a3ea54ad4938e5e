/- THE DOCUMENT'S ANSWER: unary, numbers and what is wrong. -/
import Derived.Test.YtiopfihjmkfdmaaGreatDoorGFTree
namespace Go.Proofs.YtiopfihjmkfdmaaGreatDoor
open Go.RowKit
open Sp (Sm Bl Ct Tr)
set_option maxRecDepth 100000
set_option maxHeartbeats 8000000

theorem unary_wrong (base b pb : Nat) (s : ByteArray) (o n : Nat)
    (l : Sp.Bs) (p : FP) (w : World) (h : FR base b pb s l (o : Int) p w) (h45 : Sp.tok l ≠ [45]) (h40 : Sp.tok l ≠ [40]) (hf : fVal (Sp.tok l) = -1) (hv : Sp.nameVal l = none) (hE : Hid (Sp.pUnary Tr (n + 1) o l = .error (2, l.length))) :
    Calls Tryz.prog 210 #[.pointer (some ⟨b, 0, none⟩)] w (FPostS base b pb s o p l w (Sp.pUnary Tr (n + 1) o l)) := by
  obtain ⟨c6, c3, hsz, hl4⟩ := h.asks
  have HN : Hid (∀ w, Calls Tryz.prog 129 #[.string ⟨(Sp.tok l).toArray⟩] w fun e w' => e = .returned (.bool false) ∧ w' = w) := by
    have := fIsName_calls l hl4
    rw [hv] at this; exact this
  have HV : Hid (∀ w, Calls Tryz.prog 238 #[.string ⟨(Sp.tok l).toArray⟩] w fun e w' => e = .returned (.int .i64 (-1)) ∧ w' = w) := by
    intro w
    have := fValue_calls _ hsz w
    rw [show (⟨(Sp.tok l).toArray⟩ : ByteArray).data.toList = Sp.tok l from rfl, hf] at this
    exact this
  have nd1 : ((⟨(Sp.tok l).toArray⟩ : ByteArray).toList == [45]) = false := by rw [ByteArray.toList_eq]; simpa using h45
  have nd2 : ((⟨(Sp.tok l).toArray⟩ : ByteArray).toList == [40]) = false := by rw [ByteArray.toList_eq]; simpa using h40
  clear hsz h45 h40 hf hv
  generalize (⟨(Sp.tok l).toArray⟩ : ByteArray) = t at *
  go_enter Tryz.func210, Tryz.ntmps210
  go_wp2_with fail
  refine (HV.out _).mono ?_
  rintro e w1 ⟨rfl, rfl⟩
  go_wp2_with fail
  refine (HN.out _).mono ?_
  rintro e w1 ⟨rfl, rfl⟩
  go_wp2_with fail
  refine (wrong_fr h 2 (by decide) 2 rfl).mono ?_
  rintro e w2 ⟨rfl, h2, k2⟩
  go_wp2_with fail
  go_ret
  rw [hE.out]
  exact ⟨_, p, rfl, h2, k2, FBad.refl _ _⟩

attribute [local go_sem ↓] Go.wp_at_zero Go.wp_at_succ
theorem unary_number (base b pb : Nat) (s : ByteArray) (o n : Nat)
    (l : Sp.Bs) (p : FP) (w : World) (h : FR base b pb s l (o : Int) p w) (hlim : FLim p l) (hk : Sp.tokKind l = 3) (v : Nat) (hv : Sp.numVal (Sp.tok l) = some v) :
    Calls Tryz.prog 210 #[.pointer (some ⟨b, 0, none⟩)] w (FPostS base b pb s o p l w (Sp.pUnary Tr (n + 1) o l)) := by
  obtain ⟨i0, hi, hz0, hz1, hz2⟩ := info_parts infoI
  obtain ⟨c6, c3, hsz, hl4⟩ := h.asks
  have hE : Hid (Sp.pUnary Tr (n + 1) o l = .ok (.num v, Sp.next l)) := by
    unfold Hid; rw [pUnary_succ, if_pos hk, hv]; rfl
  have hf : fVal (Sp.tok l) = (v : Int) := by rw [fVal_number hk, hv]
  have hvn : Sp.nameVal l = none := by
    cases hq : Sp.nameVal l with
    | none => rfl
    | some q => have := Sp.nameVal_kind hq; omega
  have hv3 : v ≤ 32767 := by obtain ⟨_, h1, h2⟩ := numVal_some hv; omega
  have HN : Hid (∀ w, Calls Tryz.prog 129 #[.string ⟨(Sp.tok l).toArray⟩] w fun e w' => e = .returned (.bool false) ∧ w' = w) := by
    have := fIsName_calls l hl4
    rw [hvn] at this; exact this
  have HV : Hid (∀ w, Calls Tryz.prog 238 #[.string ⟨(Sp.tok l).toArray⟩] w fun e w' => e = .returned (.int .i64 (v : Int)) ∧ w' = w) := by
    intro w
    have := fValue_calls _ hsz w
    rw [show (⟨(Sp.tok l).toArray⟩ : ByteArray).data.toList = Sp.tok l from rfl, hf] at this
    exact this
  have nd1 : ((⟨(Sp.tok l).toArray⟩ : ByteArray).toList == [45]) = false := by
    rw [ByteArray.toList_eq]; simp
    intro e; exact (kind_minus e).1 hk
  have nd2 : ((⟨(Sp.tok l).toArray⟩ : ByteArray).toList == [40]) = false := by
    rw [ByteArray.toList_eq]; simp
    intro e; exact (kind_bracket e).1 hk
  have hnx : (Sp.next l).length < l.length := Sp.next_lt (Sp.tokLen_pos (.inr (.inl hk)))
  clear hsz hf hv hvn hk
  generalize (⟨(Sp.tok l).toArray⟩ : ByteArray) = t at *
  go_enter Tryz.func210, Tryz.ntmps210
  go_wp2_with fail
  refine (HV.out _).mono ?_
  rintro e w1 ⟨rfl, rfl⟩
  go_wp2_with fail
  refine (HN.out _).mono ?_
  rintro e w1 ⟨rfl, rfl⟩
  go_wp2_with fail
  refine (fstep_fr h).mono ?_
  rintro e w2 ⟨rfl, h2, k2⟩
  have hp := h2.prog
  have d4 := cell_of h2.blk 4 (v := .pointer (some ⟨pb, 0, none⟩)) rfl
  have d0 := cell_of hp.blk 4 (v := p.qv) rfl
  have f0 := frozen_of hp.blk 4
  have hltx : pb < w2.heap.size := heap_lt hp.blk
  have hltb : b < w2.heap.size := heap_lt h2.blk
  have ag : p.qv.ownBlock ≠ some pb := (hp.rows_ne hp.blk prog_ne).2
  have ab : p.qv.ownBlock ≠ some b := (hp.rows_ne h2.blk rdr_ne).2
  have hox := hp.rowQ
  have hge := hp.ge
  have hq1 : p.qs.length + 1 ≤ 2000 := by have := hlim.2.1; omega
  have hn' : p.qs.length + 1 ≤ maxLen := by unfold maxLen; omega
  have hby : (p.qs.length + 1) * 8 ≤ 140737488355328 := by omega
  clear hp
  go_wp2_with fail
  go_region_law
    ((refine step_append_lies _ (by rfl) _ _ _ (by rfl) base 3 i0 _ 1 8 Tryz.underlying35 hi hz0 hz1 hz2 rfl (by omega) p.qv p.qs.length (p.qs.map fun n => Value.int .i64 n) (by rfl) ((hox.alloc _).drew)
        ⟨w2.heap.size, 0, none⟩ 1 1 [.int .i64 (v : Int)] (by rfl) (by rfl) (World.news_of_block (cs := #[.int .i64 (v : Int)]) (t := 3) (fr := (0, 0)) (heap_alloc_new w2 _)) (by simp [Value.oneCell'])
        (by omega) hn' hby (by simp; omega) (w2.heap.size + 1) (by simp) ?_; intro gg cap w3 hown1 hgrow hat hlt; have f1 : w3.frozen? ⟨pb, 4, none⟩ = false := (by rw [hgrow.frozen_far _ (by simp; omega) (Ne.symm ag)]; exact frozen_alloc hltx f0); have e1 : w3.cell? ⟨pb, 4, none⟩ = some p.qv := (by rw [hgrow.cell_far _ (by simp; omega) (Ne.symm ag)]; exact cell_alloc hltx d0); have e4 : w3.cell? ⟨b, 4, none⟩ = some (.pointer (some ⟨pb, 0, none⟩)) := (by rw [hgrow.cell_far _ (by simp; omega) (Ne.symm ab)]; exact cell_alloc hltb d4)))
  all_goals
    have HF := numbered_at (r := .ok (Sp.next l)) h2 (by omega) (v : Int) hown1 hgrow hat
    have HH : Hid (_ ∧ _) := HF
    clear HF hown1 hgrow hat hlt
    go_wp2_with fail
    refine (node_calls HH.out.1 { kind := 1, n := (v : Int) } (by have := hlim.1; show p.ns.length + 1 ≤ _; omega)).mono ?_
    rintro e w5 ⟨rfl, v5, h5, k5⟩
    go_wp2_with fail
    go_ret
    rw [hE.out]
    refine ⟨_, _, rfl, h5, (k2.trans HH.out.2).trans k5, ⟨⟨_, rfl⟩, by simp; omega, by simp; omega, id⟩, ⟨p.ns.length, rfl, by simp, ?_⟩, rfl⟩
    exact ⟨_, by simp; rfl, rfl, rfl, hv3, Nat.le_refl _, rfl⟩

end Go.Proofs.YtiopfihjmkfdmaaGreatDoor


