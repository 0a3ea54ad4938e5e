/- An error has a number (plain mathematics). -/
import Derived.Test.YtjkllmiikdlhhaaGreatDoorSpec
import Derived.KernelRfl
namespace Go.Proofs.YtjkllmiikdlhhaaGreatDoor
namespace Sp

def E3 {α : Type} (r : Except (Nat × Nat) α) : Prop := ∀ e, r = .error e → e.1 ≠ 0
theorem E3.ok {α : Type} (x : α) : E3 (.ok x) := fun _ h => by cases h
theorem E3.err {α β : Type} {r : Except (Nat × Nat) α} {e : Nat × Nat} (h : E3 r) (hr : r = .error e) : E3 (.error e : Except (Nat × Nat) β) := fun _ k => by cases k; exact h _ hr
theorem E3.bad {α : Type} (l : Bs) : E3 (Sp.bad 2 l : Except (Nat × Nat) α) := fun _ h => by cases h; simp
theorem E3.bad3 {α : Type} (l : Bs) : E3 (Sp.bad 3 l : Except (Nat × Nat) α) := fun _ h => by cases h; simp

theorem take_e (t l : Bs) : E3 (take t l) := by
  unfold take; split
  · exact .ok _
  · exact .bad _
theorem enter_e (t : Bs) (o : Nat) (l : Bs) : E3 (enter t o l) := by
  unfold enter; split
  · split
    · exact .bad3 _
    · exact .ok _
  · exact .bad _
theorem pName_e (l : Bs) : E3 (pName l) := by
  unfold pName; split
  · exact .ok _
  · exact .bad _
theorem pChain_e (A : Alg) (lv : Nat) (part : Bs → R A.S) (h : ∀ l, E3 (part l)) : ∀ m x l, E3 (pChain A lv part m x l) := by
  intro m
  induction m with
  | zero => intro x l; exact .ok _
  | succ m ih =>
    intro x l
    unfold pChain
    split
    · split
      · split
        · exact ih _ _
        · exact (h _).err ‹_›
      · exact .ok _
    · exact .ok _
theorem pWith_e (A : Alg) (lv : Nat) (part : Bs → R A.S) (h : ∀ l, E3 (part l)) (l : Bs) : E3 (pWith A lv part l) := by
  unfold pWith; split
  · exact pChain_e A lv part h _ _ _
  · exact (h _).err ‹_›
theorem pSum_e (A : Alg) (u : Bs → R A.S) (h : ∀ l, E3 (u l)) (l : Bs) : E3 (pSum A u l) := pWith_e A 0 _ (fun l => pWith_e A 1 u h l) l
theorem pUnary_e (A : Alg) : ∀ n o l, E3 (pUnary A n o l) := by
  intro n
  induction n with
  | zero => intro o l; exact .bad _
  | succ n ih =>
    intro o l
    unfold pUnary
    split
    · split
      · exact .ok _
      · exact .bad _
    · split
      · split
        · exact .ok _
        · exact (pName_e _).err ‹_›
      · split
        · split
          · split
            · exact .ok _
            · exact (ih _ _).err ‹_›
          · exact (enter_e _ _ _).err ‹_›
        · split
          · split
            · split
              · exact .ok _
              · exact (take_e _ _).err ‹_›
            · exact (pSum_e A _ (ih _) _).err ‹_›
          · exact (enter_e _ _ _).err ‹_›
theorem pS_e (A : Alg) (o : Nat) (l : Bs) : E3 (pS A o l) := pSum_e A _ (pUnary_e A _ _) l
theorem pCond_e (A : Alg) (o : Nat) (l : Bs) : E3 (pCond A o l) := by
  unfold pCond; split
  · split
    · split
      · exact .ok _
      · exact (pS_e _ _ _).err ‹_›
    · exact .bad _
  · exact (pS_e _ _ _).err ‹_›
theorem pMany_e (A : Alg) (st : Bs → R A.T) (h : ∀ l, E3 (st l)) : ∀ m acc l, E3 (pMany A st m acc l) := by
  intro m
  induction m with
  | zero => intro x l; exact .ok _
  | succ m ih =>
    intro x l
    unfold pMany
    split
    · split
      · exact ih _ _
      · exact (h _).err ‹_›
    · exact .ok _
theorem pBlock_e (A : Alg) (st : Bs → R A.T) (h : ∀ l, E3 (st l)) (o : Nat) (l : Bs) : E3 (pBlock A st o l) := by
  unfold pBlock; split
  · split
    · split
      · exact .ok _
      · exact (take_e _ _).err ‹_›
    · exact (pMany_e A st h _ _ _).err ‹_›
  · exact (enter_e _ _ _).err ‹_›
theorem pAssign_e (A : Alg) (o : Nat) (l : Bs) : E3 (pAssign A o l) := by
  unfold pAssign; split
  · split
    · split
      · split
        · exact .ok _
        · exact (take_e _ _).err ‹_›
      · exact (pS_e _ _ _).err ‹_›
    · exact (take_e _ _).err ‹_›
  · exact (pName_e _).err ‹_›
theorem pRead_e (A : Alg) (l : Bs) : E3 (pRead A l) := by
  unfold pRead; split
  · split
    · exact .ok _
    · exact (take_e _ _).err ‹_›
  · exact (pName_e _).err ‹_›
theorem pAssert_e (A : Alg) (o : Nat) (l : Bs) : E3 (pAssert A o l) := by
  unfold pAssert; split
  · split
    · exact .ok _
    · exact (take_e _ _).err ‹_›
  · exact (pCond_e _ _ _).err ‹_›
theorem pIf_e (A : Alg) (blk : Bs → R (List A.T)) (h : ∀ l, E3 (blk l)) (o : Nat) (l : Bs) : E3 (pIf A blk o l) := by
  unfold pIf; split
  · split
    · split
      · split
        · exact .ok _
        · exact (h _).err ‹_›
      · exact .ok _
    · exact (h _).err ‹_›
  · exact (pCond_e _ _ _).err ‹_›
theorem pWhile_e (A : Alg) (blk : Bs → R (List A.T)) (h : ∀ l, E3 (blk l)) (o : Nat) (l : Bs) : E3 (pWhile A blk o l) := by
  unfold pWhile; split
  · split
    · exact .ok _
    · exact (h _).err ‹_›
  · exact (pCond_e _ _ _).err ‹_›
theorem pStmt_e (A : Alg) : ∀ n o l, E3 (pStmt A n o l) := by
  intro n
  induction n with
  | zero => intro o l; exact .bad _
  | succ n ih =>
    intro o l
    unfold pStmt
    split
    · exact pRead_e A l
    · split
      · exact pAssert_e A o l
      · split
        · exact pIf_e A _ (fun l => pBlock_e A _ (ih _) o l) o l
        · split
          · exact pWhile_e A _ (fun l => pBlock_e A _ (ih _) o l) o l
          · exact pAssign_e A o l
theorem parse_e (A : Alg) (src : Bs) : E3 (parse A src) := by
  unfold parse
  split
  · intro e h; cases h; simp
  · have hp : E3 (pProg A (skip src)) := by
      unfold pProg; split
      · split
        · exact .ok _
        · exact .bad _
      · exact (pMany_e A _ (pStmt_e A _ _) _ _ _).err ‹_›
    split
    · exact .ok _
    · next e left hq => intro e h; cases h; exact fun k => hp _ hq k
theorem print_e (src : Bs) : E3 (print src) := by
  unfold print; split
  · exact .ok _
  · exact (parse_e Pr src).err ‹_›

/-- the closed program of the laws -/
theorem print_closed : print [97, 61, 40, 49, 41, 59, 119, 104, 105, 108, 101, 32, 97, 60, 57, 123, 97, 61, 97, 43, 50, 59, 125] = .ok [97, 32, 61, 32, 49, 59, 10, 119, 104, 105, 108, 101, 32, 97, 32, 60, 32, 57, 32, 123, 10, 32, 32, 97, 32, 61, 32, 97, 32, 43, 32, 50, 59, 10, 125, 10] := by kernel_rfl

end Sp
end Go.Proofs.YtjkllmiikdlhhaaGreatDoor
