/- (reader) assign, read, assert. -/
import Derived.Test.YtjkllmiikdlhhaaGreatDoorStmts
namespace Go.Proofs.YtjkllmiikdlhhaaGreatDoor
open Go.RowKit
set_option maxRecDepth 100000
set_option maxHeartbeats 400000

/-- what a reader of one statement owes -/
def StPost {A : Sp.Alg} {Rp : Rep A} (Rt : RepT A Rp) (b : Nat) (s : ByteArray) (m1 m2 o : Nat) (w : World) (r : Sp.R A.T) : Ending → World → Prop :=
  PostG (fun w' v x => Rt.T w.heap.size w'.heap.size w' v x) b s m1 m2 o w r

theorem nameVal_lt {l : Sp.Bs} {k : Nat} (h : Sp.nameVal l = some k) : k < 8 := by obtain ⟨c, _, _, h1, h2, rfl⟩ := nameVal_some h; omega
theorem take_yes {t l : Sp.Bs} (h : Sp.tok l = t) : Sp.take t l = .ok (Sp.next l) := by unfold Sp.take; rw [if_pos h]
theorem take_no {t l : Sp.Bs} (h : ¬ Sp.tok l = t) : Sp.take t l = .error (2, l.length) := by unfold Sp.take; rw [if_neg h]; rfl
theorem pName_none' {l : Sp.Bs} (h : Sp.nameVal l = none) : Sp.pName l = .error (2, l.length) := by unfold Sp.pName; rw [h]; rfl
theorem pName_some' {l : Sp.Bs} {k : Nat} (h : Sp.nameVal l = some k) : Sp.pName l = .ok (k, Sp.next l) := by unfold Sp.pName; rw [h]

theorem assign_calls {A : Sp.Alg} {Rp : Rep A} (Rt : RepT A Rp) (b : Nat) (s : ByteArray) (m1 m2 o : Nat) (ho : o ≤ 12) (l : Sp.Bs) (w : World) (h : Rd b s m1 m2 l o w) (hE : Env b m1 m2 w) :
    Calls Tryz.prog 74 #[.pointer (some ⟨b, 0, none⟩)] w (StPost Rt b s m1 m2 o w (Sp.pAssign A o l)) := by
  cases hn : Sp.nameVal l with
  | none =>
    have hfin : Hid (Sp.pAssign A o l = .error (2, l.length)) := by unfold Hid Sp.pAssign; rw [pName_none' hn]
    go_enter Tryz.func74, Tryz.ntmps74
    go_wp2_with fail
    refine (name_bad h hn).mono ?_
    rintro e w1 ⟨N, rfl, hf⟩
    exact ⟨rfl, bad_postG hfin.out ⟨N, rfl, hf⟩⟩
  | some k =>
    have hk := nameVal_lt hn
    have e1 := pName_some' hn
    by_cases ht : Sp.tok (Sp.next l) = [61]
    · have e2 := take_yes ht
      cases hr : Sp.pS A o (Sp.next (Sp.next l)) with
      | error er =>
        have hfin : Hid (Sp.pAssign A o l = .error er) := by unfold Hid Sp.pAssign; rw [e1]; simp only; rw [e2]; simp only; rw [hr]
        clear e1 e2
        go_enter Tryz.func74, Tryz.ntmps74
        go_wp2_with fail
        refine (name_ok h hn).mono ?_
        rintro e w1 ⟨rfl, h1, x1⟩
        go_wp2_with fail
        refine (take_ok h1 [61] ht).mono ?_
        rintro e w2 ⟨rfl, h2, x2⟩
        go_wp2_with fail
        refine (sum_calls Rp b s m1 m2 o ho _ w2 h2 ((hE.ext x1).ext x2)).mono ?_
        intro e w3 hp
        rw [hr] at hp
        obtain ⟨N, rfl, hf⟩ := hp
        exact ⟨rfl, bad_postG hfin.out (Faulty.ahead (x1.trans x2) ⟨N, rfl, hf⟩)⟩
      | ok xl =>
        obtain ⟨x, l3⟩ := xl
        by_cases hs : Sp.tok l3 = [59]
        · have hfin : Hid (Sp.pAssign A o l = .ok (A.assign k x, Sp.next l3)) := by unfold Hid Sp.pAssign; rw [e1]; simp only; rw [e2]; simp only; rw [hr]; simp only; rw [take_yes hs]
          clear e1 e2
          go_enter Tryz.func74, Tryz.ntmps74
          go_wp2_with fail
          refine (name_ok h hn).mono ?_
          rintro e w1 ⟨rfl, h1, x1⟩
          go_wp2_with fail
          refine (take_ok h1 [61] ht).mono ?_
          rintro e w2 ⟨rfl, h2, x2⟩
          go_wp2_with fail
          refine (sum_calls Rp b s m1 m2 o ho _ w2 h2 ((hE.ext x1).ext x2)).mono ?_
          intro e w3 hp
          rw [hr] at hp
          obtain ⟨v, rfl, hv, h3, x3⟩ := hp
          obtain ⟨tv, uv, rfl⟩ := Rp.iface _ _ hv
          have HV : Hid (Rp.S (.iface tv uv) x) := hv
          clear hv hr
          go_wp2_with fail
          refine (take_ok h3 [59] hs).mono ?_
          rintro e w4 ⟨rfl, h4, x4⟩
          go_wp2_with fail
          go_ret
          exact good_postG hfin.out (Rt.assign _ _ _ k _ _ hk HV.out) h4 (((x1.trans x2).trans x3).trans x4)
        · have hfin : Hid (Sp.pAssign A o l = .error (2, l3.length)) := by unfold Hid Sp.pAssign; rw [e1]; simp only; rw [e2]; simp only; rw [hr]; simp only; rw [take_no hs]
          clear e1 e2
          go_enter Tryz.func74, Tryz.ntmps74
          go_wp2_with fail
          refine (name_ok h hn).mono ?_
          rintro e w1 ⟨rfl, h1, x1⟩
          go_wp2_with fail
          refine (take_ok h1 [61] ht).mono ?_
          rintro e w2 ⟨rfl, h2, x2⟩
          go_wp2_with fail
          refine (sum_calls Rp b s m1 m2 o ho _ w2 h2 ((hE.ext x1).ext x2)).mono ?_
          intro e w3 hp
          rw [hr] at hp
          obtain ⟨v, rfl, hv, h3, x3⟩ := hp
          clear hv hr
          go_wp2_with fail
          refine (take_bad h3 [59] hs).mono ?_
          rintro e w4 ⟨N, rfl, hf⟩
          exact ⟨rfl, bad_postG hfin.out (Faulty.ahead ((x1.trans x2).trans x3) ⟨N, rfl, hf⟩)⟩
    · have hfin : Hid (Sp.pAssign A o l = .error (2, (Sp.next l).length)) := by unfold Hid Sp.pAssign; rw [e1]; simp only; rw [take_no ht]
      clear e1
      go_enter Tryz.func74, Tryz.ntmps74
      go_wp2_with fail
      refine (name_ok h hn).mono ?_
      rintro e w1 ⟨rfl, h1, x1⟩
      go_wp2_with fail
      refine (take_bad h1 [61] ht).mono ?_
      rintro e w2 ⟨N, rfl, hf⟩
      exact ⟨rfl, bad_postG hfin.out (Faulty.ahead x1 ⟨N, rfl, hf⟩)⟩

theorem read_calls {A : Sp.Alg} {Rp : Rep A} (Rt : RepT A Rp) (b : Nat) (s : ByteArray) (m1 m2 o : Nat) (l : Sp.Bs) (w : World) (h : Rd b s m1 m2 l o w) (ht : Sp.tok l = Sp.wRead) :
    Calls Tryz.prog 70 #[.pointer (some ⟨b, 0, none⟩)] w (StPost Rt b s m1 m2 o w (Sp.pRead A l)) := by
  cases hn : Sp.nameVal (Sp.next l) with
  | none =>
    have hfin : Hid (Sp.pRead A l = .error (2, (Sp.next l).length)) := by unfold Hid Sp.pRead; rw [pName_none' hn]
    go_enter Tryz.func70, Tryz.ntmps70
    go_wp2_with fail
    refine (take_ok h [114, 101, 97, 100] ht).mono ?_
    rintro e w1 ⟨rfl, h1, x1⟩
    go_wp2_with fail
    refine (name_bad h1 hn).mono ?_
    rintro e w2 ⟨N, rfl, hf⟩
    exact ⟨rfl, bad_postG hfin.out (Faulty.ahead x1 ⟨N, rfl, hf⟩)⟩
  | some k =>
    have hk := nameVal_lt hn
    have e1 := pName_some' hn
    by_cases hs : Sp.tok (Sp.next (Sp.next l)) = [59]
    · have hfin : Hid (Sp.pRead A l = .ok (A.read k, Sp.next (Sp.next (Sp.next l)))) := by unfold Hid Sp.pRead; rw [e1]; simp only; rw [take_yes hs]
      clear e1
      go_enter Tryz.func70, Tryz.ntmps70
      go_wp2_with fail
      refine (take_ok h [114, 101, 97, 100] ht).mono ?_
      rintro e w1 ⟨rfl, h1, x1⟩
      go_wp2_with fail
      refine (name_ok h1 hn).mono ?_
      rintro e w2 ⟨rfl, h2, x2⟩
      go_wp2_with fail
      refine (take_ok h2 [59] hs).mono ?_
      rintro e w3 ⟨rfl, h3, x3⟩
      go_wp2_with fail
      go_ret
      exact good_postG hfin.out (Rt.read _ _ _ k hk) h3 ((x1.trans x2).trans x3)
    · have hfin : Hid (Sp.pRead A l = .error (2, (Sp.next (Sp.next l)).length)) := by unfold Hid Sp.pRead; rw [e1]; simp only; rw [take_no hs]
      clear e1
      go_enter Tryz.func70, Tryz.ntmps70
      go_wp2_with fail
      refine (take_ok h [114, 101, 97, 100] ht).mono ?_
      rintro e w1 ⟨rfl, h1, x1⟩
      go_wp2_with fail
      refine (name_ok h1 hn).mono ?_
      rintro e w2 ⟨rfl, h2, x2⟩
      go_wp2_with fail
      refine (take_bad h2 [59] hs).mono ?_
      rintro e w3 ⟨N, rfl, hf⟩
      exact ⟨rfl, bad_postG hfin.out (Faulty.ahead (x1.trans x2) ⟨N, rfl, hf⟩)⟩

end Go.Proofs.YtjkllmiikdlhhaaGreatDoor
