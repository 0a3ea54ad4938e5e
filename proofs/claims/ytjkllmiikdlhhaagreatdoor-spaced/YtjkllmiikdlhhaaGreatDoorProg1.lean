/- (reader) program. -/
import Derived.Test.YtjkllmiikdlhhaaGreatDoorStmt
namespace Go.Proofs.YtjkllmiikdlhhaaGreatDoor
open Go.RowKit
set_option maxRecDepth 100000
set_option maxHeartbeats 400000

theorem tokKind_end {l : Sp.Bs} : Sp.tokKind l = 1 ↔ l = [] := by
  cases l with
  | nil => simp [Sp.tokKind]
  | cons c r =>
    rw [Sp.tokKind_cons]
    constructor
    · intro h
      split at h
      · omega
      · split at h
        · omega
        · split at h <;> omega
    · intro h; cases h

theorem program_calls {A : Sp.Alg} {Rp : Rep A} (Rt : RepT A Rp) (b : Nat) (s : ByteArray) (m1 m2 : Nat) (l : Sp.Bs) (w : World) (h : Rd b s m1 m2 l 0 w) (hE : Env b m1 m2 w) :
    Calls Tryz.prog 23 #[.pointer (some ⟨b, 0, none⟩)] w fun e w' => match Sp.pProg A l with
      | .ok xs => ∃ v, e = .returned v ∧ Blk Rt.T w.heap.size w'.heap.size w' v xs ∧ Ext b w w'
      | .error er => Faulty s b w er e w' := by
  have hc := statements_calls Rt b s m1 m2 0 (l.length + 1) (Sp.pStmt A (l.length + 1) 0) (Sp.pStmt_lt _ _) (statement_reads Rt b s m1 m2 (l.length + 1) 0 (by omega)) l w (Nat.lt_succ_self _) h hE
  unfold Sp.pProg
  cases hr : Sp.pMany A (Sp.pStmt A (l.length + 1) 0) (l.length + 1) [] l with
  | error er =>
    rw [hr] at hc
    go_enter Tryz.func23, Tryz.ntmps23
    go_wp2_with fail
    refine hc.mono ?_
    rintro e w1 ⟨N, rfl, hf⟩
    exact ⟨rfl, N, rfl, hf⟩
  | ok xl =>
    obtain ⟨xs, l1⟩ := xl
    rw [hr] at hc
    simp only
    by_cases he : l1 = []
    · rw [if_pos he]
      have hk := tokKind_end.2 he
      go_enter Tryz.func23, Tryz.ntmps23
      go_wp2_with fail
      refine hc.mono ?_
      rintro e w1 ⟨v, rfl, hv, h1, x1⟩
      have c2 : w1.cell? ⟨b, 2, none⟩ = some (.int .i64 1) := by rw [h1.c2, hk]; rfl
      have HV : Hid (Blk Rt.T w.heap.size w1.heap.size w1 v xs) := hv
      clear hv
      go_wp2_with fail
      go_ret
      exact ⟨v, rfl, HV.out, x1⟩
    · rw [if_neg he, show (Sp.bad 2 l1 : Except (Nat × Nat) (List A.T)) = .error (2, l1.length) from rfl]
      have hk : ¬ Sp.tokKind l1 = 1 := fun h => he (tokKind_end.1 h)
      go_enter Tryz.func23, Tryz.ntmps23
      go_wp2_with fail
      refine hc.mono ?_
      rintro e w1 ⟨v, rfl, hv, h1, x1⟩
      have c2 := h1.c2
      have n1 : ¬ (((Sp.tokKind l1 : Nat) : Int) = 1) := by omega
      have b1 : (((Sp.tokKind l1 : Nat) : Int) == 1) = false := by simpa using n1
      clear hv hk
      generalize Sp.tokKind l1 = kd at c2 n1 b1
      go_wp2_with fail
      refine (fault_calls h1 2).mono ?_
      rintro e w2 ⟨rfl, rfl⟩
      go_wp2_with fail
      exact ⟨rfl, Faulty.ahead x1 (faulty_of h1 2 2 rfl)⟩

end Go.Proofs.YtjkllmiikdlhhaaGreatDoor
