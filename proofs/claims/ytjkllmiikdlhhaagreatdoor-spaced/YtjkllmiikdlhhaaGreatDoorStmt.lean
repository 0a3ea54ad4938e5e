/- (reader) statement, by induction on how much is left; statements, program. -/
import Derived.Test.YtjkllmiikdlhhaaGreatDoorBranch
import Derived.Test.YtjkllmiikdlhhaaGreatDoorDec2
namespace Go.Proofs.YtjkllmiikdlhhaaGreatDoor
open Go.RowKit
set_option maxRecDepth 100000
set_option maxHeartbeats 400000

theorem statement_step {A : Sp.Alg} {Rp : Rep A} (Rt : RepT A Rp) (b : Nat) (s : ByteArray) (m1 m2 o n : Nat) (ho : o ≤ 12)
    (ih : o < 12 → StReads Rt 55 b s m1 m2 (o + 1) n (Sp.pStmt A n (o + 1))) : StReads Rt 55 b s m1 m2 o (n + 1) (Sp.pStmt A (n + 1) o) := by
  intro l w hl h hE
  have hblk : BlkReads Rt b s m1 m2 o (n + 1) (Sp.pBlock A (Sp.pStmt A n (o + 1)) o) := block_reads Rt b s m1 m2 o n ho _ (Sp.pStmt_lt n (o + 1)) ih
  have hbd : ∀ l x l1, Sp.pBlock A (Sp.pStmt A n (o + 1)) o l = .ok (x, l1) → l1.length ≤ l.length := fun l x l1 h => Nat.le_of_lt (Sp.pBlock_lt (Sp.pStmt_lt n (o + 1)) h)
  have hcd : ∀ c l1, Sp.pCond A o (Sp.next l) = .ok (c, l1) → l1.length < l.length := fun c l1 h => by have := Sp.pCond_lt h; have := Sp.next_le l; omega
  have c3 := h.c3
  unfold Sp.pStmt
  by_cases t1 : Sp.tok l = Sp.wRead
  · rw [if_pos t1]
    have c3' : w.cell? ⟨b, 3, none⟩ = some (.string ⟨#[114, 101, 97, 100]⟩) := by rw [c3, t1]; rfl
    have hc : Calls Tryz.prog 70 #[.pointer (some ⟨b, 0, none⟩)] w (PostG (fun w' v x => Rt.T w.heap.size w'.heap.size w' v x) b s m1 m2 o w (Sp.pRead A l)) := read_calls Rt b s m1 m2 o l w h t1
    clear c3 ih hblk hbd hcd
    generalize Sp.pRead A l = r at hc ⊢
    cases r with
    | error er =>
      go_enter Tryz.func55, Tryz.ntmps55
      go_wp2_with fail
      refine hc.mono ?_
      rintro e w1 ⟨N, rfl, hf⟩
      exact ⟨rfl, N, rfl, hf⟩
    | ok xl =>
      obtain ⟨x, l1⟩ := xl
      go_enter Tryz.func55, Tryz.ntmps55
      go_wp2_with fail
      refine hc.mono ?_
      rintro e w1 ⟨v, rfl, hv, h1, x1⟩
      go_wp2_with fail
      go_ret
      exact ⟨v, rfl, hv, h1, x1⟩
  · rw [if_neg t1]
    have b1 : (Sp.tok l == [114, 101, 97, 100]) = false := tok_ne_beq t1
    by_cases t2 : Sp.tok l = Sp.wAssert
    · rw [if_pos t2]
      have c3' : w.cell? ⟨b, 3, none⟩ = some (.string ⟨#[97, 115, 115, 101, 114, 116]⟩) := by rw [c3, t2]; rfl
      have hc : Calls Tryz.prog 71 #[.pointer (some ⟨b, 0, none⟩)] w (PostG (fun w' v x => Rt.T w.heap.size w'.heap.size w' v x) b s m1 m2 o w (Sp.pAssert A o l)) := assert_calls Rt b s m1 m2 o ho l w h hE t2
      clear c3 ih hblk hbd hcd b1
      generalize Sp.pAssert A o l = r at hc ⊢
      cases r with
      | error er =>
        go_enter Tryz.func55, Tryz.ntmps55
        go_wp2_with fail
        refine hc.mono ?_
        rintro e w1 ⟨N, rfl, hf⟩
        exact ⟨rfl, N, rfl, hf⟩
      | ok xl =>
        obtain ⟨x, l1⟩ := xl
        go_enter Tryz.func55, Tryz.ntmps55
        go_wp2_with fail
        refine hc.mono ?_
        rintro e w1 ⟨v, rfl, hv, h1, x1⟩
        go_wp2_with fail
        go_ret
        exact ⟨v, rfl, hv, h1, x1⟩
    · rw [if_neg t2]
      have b2 : (Sp.tok l == [97, 115, 115, 101, 114, 116]) = false := tok_ne_beq t2
      by_cases t3 : Sp.tok l = Sp.wIf
      · rw [if_pos t3]
        have c3' : w.cell? ⟨b, 3, none⟩ = some (.string ⟨#[105, 102]⟩) := by rw [c3, t3]; rfl
        have hc : Calls Tryz.prog 72 #[.pointer (some ⟨b, 0, none⟩)] w (PostG (fun w' v x => Rt.T w.heap.size w'.heap.size w' v x) b s m1 m2 o w (Sp.pIf A (fun l => Sp.pBlock A (Sp.pStmt A n (o + 1)) o l) o l)) := branch_calls Rt b s m1 m2 o (n + 1) ho _ hblk hbd l w (by omega) h hE t3 hcd
        clear c3 ih hblk hbd hcd b1 b2
        generalize Sp.pIf A (fun l => Sp.pBlock A (Sp.pStmt A n (o + 1)) o l) o l = r at hc ⊢
        cases r with
        | error er =>
          go_enter Tryz.func55, Tryz.ntmps55
          go_wp2_with fail
          refine hc.mono ?_
          rintro e w1 ⟨N, rfl, hf⟩
          exact ⟨rfl, N, rfl, hf⟩
        | ok xl =>
          obtain ⟨x, l1⟩ := xl
          go_enter Tryz.func55, Tryz.ntmps55
          go_wp2_with fail
          refine hc.mono ?_
          rintro e w1 ⟨v, rfl, hv, h1, x1⟩
          go_wp2_with fail
          go_ret
          exact ⟨v, rfl, hv, h1, x1⟩
      · rw [if_neg t3]
        have b3 : (Sp.tok l == [105, 102]) = false := tok_ne_beq t3
        by_cases t4 : Sp.tok l = Sp.wWhile
        · rw [if_pos t4]
          have c3' : w.cell? ⟨b, 3, none⟩ = some (.string ⟨#[119, 104, 105, 108, 101]⟩) := by rw [c3, t4]; rfl
          have hc : Calls Tryz.prog 73 #[.pointer (some ⟨b, 0, none⟩)] w (PostG (fun w' v x => Rt.T w.heap.size w'.heap.size w' v x) b s m1 m2 o w (Sp.pWhile A (fun l => Sp.pBlock A (Sp.pStmt A n (o + 1)) o l) o l)) := loop_calls Rt b s m1 m2 o (n + 1) ho _ hblk l w (by omega) h hE t4 hcd
          clear c3 ih hblk hbd hcd b1 b2 b3
          generalize Sp.pWhile A (fun l => Sp.pBlock A (Sp.pStmt A n (o + 1)) o l) o l = r at hc ⊢
          cases r with
          | error er =>
            go_enter Tryz.func55, Tryz.ntmps55
            go_wp2_with fail
            refine hc.mono ?_
            rintro e w1 ⟨N, rfl, hf⟩
            exact ⟨rfl, N, rfl, hf⟩
          | ok xl =>
            obtain ⟨x, l1⟩ := xl
            go_enter Tryz.func55, Tryz.ntmps55
            go_wp2_with fail
            refine hc.mono ?_
            rintro e w1 ⟨v, rfl, hv, h1, x1⟩
            go_wp2_with fail
            go_ret
            exact ⟨v, rfl, hv, h1, x1⟩
        · rw [if_neg t4]
          have b4 : (Sp.tok l == [119, 104, 105, 108, 101]) = false := tok_ne_beq t4
          have hc : Calls Tryz.prog 74 #[.pointer (some ⟨b, 0, none⟩)] w (PostG (fun w' v x => Rt.T w.heap.size w'.heap.size w' v x) b s m1 m2 o w (Sp.pAssign A o l)) := assign_calls Rt b s m1 m2 o ho l w h hE
          clear ih hblk hbd hcd t1 t2 t3 t4
          generalize Sp.pAssign A o l = r at hc ⊢
          cases r with
          | error er =>
            go_enter Tryz.func55, Tryz.ntmps55
            go_wp2_with fail
            refine hc.mono ?_
            rintro e w1 ⟨N, rfl, hf⟩
            exact ⟨rfl, N, rfl, hf⟩
          | ok xl =>
            obtain ⟨x, l1⟩ := xl
            go_enter Tryz.func55, Tryz.ntmps55
            go_wp2_with fail
            refine hc.mono ?_
            rintro e w1 ⟨v, rfl, hv, h1, x1⟩
            go_wp2_with fail
            go_ret
            exact ⟨v, rfl, hv, h1, x1⟩

theorem statement_reads {A : Sp.Alg} {Rp : Rep A} (Rt : RepT A Rp) (b : Nat) (s : ByteArray) (m1 m2 : Nat) : ∀ (n o : Nat), o ≤ 12 → StReads Rt 55 b s m1 m2 o n (Sp.pStmt A n o)
  | 0, _, _ => fun l _ hl _ _ => absurd hl (Nat.not_lt_zero _)
  | n + 1, o, ho => statement_step Rt b s m1 m2 o n ho (fun h => statement_reads Rt b s m1 m2 n (o + 1) (by omega))

end Go.Proofs.YtjkllmiikdlhhaaGreatDoor
