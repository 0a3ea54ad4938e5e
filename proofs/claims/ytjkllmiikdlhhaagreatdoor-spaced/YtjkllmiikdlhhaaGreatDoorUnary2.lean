/- SUMS: unary, by induction on how much is left; sums. -/
import Derived.Test.YtjkllmiikdlhhaaGreatDoorUnary
namespace Go.Proofs.YtjkllmiikdlhhaaGreatDoor
open Go.RowKit
set_option maxRecDepth 100000
set_option maxHeartbeats 400000

theorem pName_none {l : Sp.Bs} (h : Sp.nameVal l = none) : Sp.pName l = .error (2, l.length) := by unfold Sp.pName; rw [h]; rfl
theorem pName_some {l : Sp.Bs} {k : Nat} (h : Sp.nameVal l = some k) : Sp.pName l = .ok (k, Sp.next l) := by unfold Sp.pName; rw [h]

theorem unary_step {A : Sp.Alg} (Rp : Rep A) (b : Nat) (s : ByteArray) (m1 m2 o n : Nat) (ho : o ≤ 12)
    (ih : o < 12 → Reads Rp 101 b s m1 m2 (o + 1) n (Sp.pUnary A n (o + 1))) : Reads Rp 101 b s m1 m2 o (n + 1) (Sp.pUnary A (n + 1) o) := by
  intro l w hl h hE
  rw [pUnary_succ]
  have c2 := h.c2
  by_cases h3 : Sp.tokKind l = 3
  · rw [if_pos h3]
    have c2' : w.cell? ⟨b, 2, none⟩ = some (.int .i64 3) := by rw [c2, h3]; rfl
    clear c2
    cases hv : Sp.numVal (Sp.tok l) with
    | none =>
      go_enter Tryz.func101, Tryz.ntmps101
      go_wp2_with fail
      refine (number_bad h hE.laid h3 hv).mono ?_
      rintro e w1 ⟨N, rfl, hf⟩
      exact ⟨rfl, N, rfl, hf⟩
    | some v =>
      have hle : v ≤ 32767 := by have := numVal_some hv; omega
      go_enter Tryz.func101, Tryz.ntmps101
      go_wp2_with fail
      refine (number_ok h h3 hv).mono ?_
      rintro e w1 ⟨rfl, h1, x1⟩
      go_wp2_with fail
      go_ret
      exact ⟨_, rfl, Rp.num v hle, h1, x1⟩
  · rw [if_neg h3]
    have n3 : ¬ (((Sp.tokKind l : Nat) : Int) = 3) := by omega
    have b3 : (((Sp.tokKind l : Nat) : Int) == 3) = false := by simpa using n3
    by_cases h2 : Sp.tokKind l = 2
    · rw [if_pos h2]
      have c2' : w.cell? ⟨b, 2, none⟩ = some (.int .i64 2) := by rw [c2, h2]; rfl
      clear c2 n3 b3 h3
      cases hv : Sp.nameVal l with
      | none =>
        rw [pName_none hv]
        go_enter Tryz.func101, Tryz.ntmps101
        go_wp2_with fail
        refine (name_bad h hv).mono ?_
        rintro e w1 ⟨N, rfl, hf⟩
        exact ⟨rfl, N, rfl, hf⟩
      | some k =>
        rw [pName_some hv]
        have hk : k < 8 := by obtain ⟨c, _, _, h1, h2, rfl⟩ := nameVal_some hv; omega
        go_enter Tryz.func101, Tryz.ntmps101
        go_wp2_with fail
        refine (name_ok h hv).mono ?_
        rintro e w1 ⟨rfl, h1, x1⟩
        go_wp2_with fail
        go_ret
        exact ⟨_, rfl, Rp.name k hk, h1, x1⟩
    · rw [if_neg h2]
      have n2 : ¬ (((Sp.tokKind l : Nat) : Int) = 2) := by omega
      have b2 : (((Sp.tokKind l : Nat) : Int) == 2) = false := by simpa using n2
      have c3 := h.c3
      by_cases ht : Sp.tok l = [45]
      · rw [if_pos ht]
        have c3' : w.cell? ⟨b, 3, none⟩ = some (.string ⟨#[45]⟩) := by rw [c3, ht]
        have hc := negation_calls Rp b s m1 m2 o n (Sp.pUnary A n (o + 1)) ih l w hl h hE ho ht
        clear c3 ht ih h2 h3
        generalize negOf A (Sp.pUnary A n (o + 1)) o l = r at hc ⊢
        generalize Sp.tokKind l = kd at *
        cases r with
        | error er =>
          go_enter Tryz.func101, Tryz.ntmps101
          go_wp2_with fail
          refine hc.mono ?_
          rintro e w1 ⟨N, rfl, hf⟩
          exact ⟨rfl, N, rfl, hf⟩
        | ok xl =>
          obtain ⟨x, l1⟩ := xl
          go_enter Tryz.func101, Tryz.ntmps101
          go_wp2_with fail
          refine hc.mono ?_
          rintro e w1 ⟨v, rfl, hv, h1, x1⟩
          go_wp2_with fail
          go_ret
          exact ⟨v, rfl, hv, h1, x1⟩
      · rw [if_neg ht]
        have hb := tok_ne_beq ht
        have hc := bracketed_calls Rp b s m1 m2 o n (Sp.pSum A (Sp.pUnary A n (o + 1))) (fun h12 => sum_reads Rp b s m1 m2 (o + 1) n _ (fun l x l1 h => Nat.le_of_lt (Sp.pUnary_lt n (o + 1) l x l1 h)) (ih h12)) l w hl h hE ho
        clear ih h2 h3 ht
        generalize bracketOf A (Sp.pSum A (Sp.pUnary A n (o + 1))) o l = r at hc ⊢
        generalize Sp.tokKind l = kd at *
        cases r with
        | error er =>
          go_enter Tryz.func101, Tryz.ntmps101
          go_wp2_with fail
          refine hc.mono ?_
          rintro e w1 ⟨N, rfl, hf⟩
          exact ⟨rfl, N, rfl, hf⟩
        | ok xl =>
          obtain ⟨x, l1⟩ := xl
          go_enter Tryz.func101, Tryz.ntmps101
          go_wp2_with fail
          refine hc.mono ?_
          rintro e w1 ⟨v, rfl, hv, h1, x1⟩
          go_wp2_with fail
          go_ret
          exact ⟨v, rfl, hv, h1, x1⟩

theorem unary_reads {A : Sp.Alg} (Rp : Rep A) (b : Nat) (s : ByteArray) (m1 m2 : Nat) : ∀ (n o : Nat), o ≤ 12 → Reads Rp 101 b s m1 m2 o n (Sp.pUnary A n o)
  | 0, _, _ => fun l _ hl _ _ => absurd hl (Nat.not_lt_zero _)
  | n + 1, o, ho => unary_step Rp b s m1 m2 o n ho (fun h => unary_reads Rp b s m1 m2 n (o + 1) (by omega))

/-- (reader) sum -/
theorem sum_calls {A : Sp.Alg} (Rp : Rep A) (b : Nat) (s : ByteArray) (m1 m2 o : Nat) (ho : o ≤ 12) (l : Sp.Bs) (w : World) (h : Rd b s m1 m2 l o w) (hE : Env b m1 m2 w) :
    Calls Tryz.prog 88 #[.pointer (some ⟨b, 0, none⟩)] w (PostS Rp b s m1 m2 o w (Sp.pS A o l)) :=
  sum_reads Rp b s m1 m2 o (l.length + 1) _ (fun l' x l1 h => Nat.le_of_lt (Sp.pUnary_lt (l.length + 1) o l' x l1 h)) (unary_reads Rp b s m1 m2 (l.length + 1) o ho) l w (Nat.lt_succ_self _) h hE

end Go.Proofs.YtjkllmiikdlhhaaGreatDoor
