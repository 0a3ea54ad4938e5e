/- WHAT IS LEFT grows shorter: statements (plain). -/
import Derived.Test.YtjkllmiikdlhhaaGreatDoorDec
namespace Go.Proofs.YtjkllmiikdlhhaaGreatDoor
namespace Sp

theorem pS_lt {A : Alg} {o : Nat} {l : Bs} {x : A.S} {l1 : Bs} (h : pS A o l = .ok (x, l1)) : l1.length < l.length :=
  pSum_lt (pUnary_lt _ _) l x l1 h

theorem pCond_lt {A : Alg} {o : Nat} {l : Bs} {c : Nat × A.S × A.S} {l1 : Bs} (h : pCond A o l = .ok (c, l1)) : l1.length < l.length := by
  unfold pCond at h
  split at h
  · rename_i x l2 hr
    have h1 := pS_lt hr
    split at h
    · split at h
      · rename_i y l3 hr2
        have h2 := pS_lt hr2
        have h3 := next_le l2
        cases h; omega
      · cases h
    · cases h
  · cases h

theorem pName_lt {l l1 : Bs} {k : Nat} (h : pName l = .ok (k, l1)) : l1.length < l.length := by
  obtain ⟨hk, rfl⟩ := pName_ok_iff h
  exact next_lt (tokLen_pos (.inl (nameVal_kind hk)))

theorem take_le {t l l1 : Bs} (h : take t l = .ok l1) : l1.length ≤ l.length := by
  obtain ⟨_, rfl⟩ := take_ok_iff h; exact next_le l

theorem pMany_le {A : Alg} {st : Bs → R A.T} (hs : ∀ l x l1, st l = .ok (x, l1) → l1.length < l.length) : ∀ (m : Nat) (xs : List A.T) (l : Bs) (ys : List A.T) (l1 : Bs), pMany A st m xs l = .ok (ys, l1) → l1.length ≤ l.length
  | 0, xs, l, ys, l1, h => by unfold pMany at h; cases h; exact Nat.le_refl _
  | m + 1, xs, l, ys, l1, h => by
    unfold pMany at h
    split at h
    · split at h
      · rename_i x l2 hr
        have := hs _ _ _ hr
        have := pMany_le hs m _ _ _ _ h
        omega
      · cases h
    · cases h; exact Nat.le_refl _

theorem pBlock_lt {A : Alg} {st : Bs → R A.T} (hs : ∀ l x l1, st l = .ok (x, l1) → l1.length < l.length) {o : Nat} {l : Bs} {xs : List A.T} {l1 : Bs} (h : pBlock A st o l = .ok (xs, l1)) : l1.length < l.length := by
  unfold pBlock at h
  split at h
  · rename_i l2 hr
    obtain ⟨ht, _, rfl⟩ := enter_ok_iff hr
    have := next_lt_of_tok ht (by simp)
    split at h
    · rename_i ys l3 hr2
      have := pMany_le hs _ _ _ _ _ hr2
      split at h
      · rename_i l4 hr3
        have := take_le hr3
        cases h; omega
      · cases h
    · cases h
  · cases h

theorem pStmt_lt {A : Alg} : ∀ (n o : Nat) (l : Bs) (x : A.T) (l1 : Bs), pStmt A n o l = .ok (x, l1) → l1.length < l.length
  | 0, o, l, x, l1, h => by unfold pStmt bad at h; cases h
  | n + 1, o, l, x, l1, h => by
    have hb : ∀ l xs l1, pBlock A (pStmt A n (o + 1)) o l = .ok (xs, l1) → l1.length < l.length := fun l xs l1 h => pBlock_lt (pStmt_lt n (o + 1)) h
    have hn := next_le l
    unfold pStmt at h
    split at h
    · unfold pRead at h
      split at h
      · rename_i k l2 hr
        have := pName_lt hr
        split at h
        · rename_i l3 hr2
          have := take_le hr2
          cases h; omega
        · cases h
      · cases h
    · split at h
      · unfold pAssert at h
        split at h
        · rename_i k x y l2 hr
          have := pCond_lt hr
          split at h
          · rename_i l3 hr2
            have := take_le hr2
            cases h; omega
          · cases h
        · cases h
      · split at h
        · unfold pIf at h
          split at h
          · rename_i k x y l2 hr
            have := pCond_lt hr
            split at h
            · rename_i xs l3 hr2
              have := hb _ _ _ hr2
              split at h
              · split at h
                · rename_i ys l4 hr3
                  have := hb _ _ _ hr3
                  have := next_le l3
                  cases h; omega
                · cases h
              · cases h; omega
            · cases h
          · cases h
        · split at h
          · unfold pWhile at h
            split at h
            · rename_i k x y l2 hr
              have := pCond_lt hr
              split at h
              · rename_i xs l3 hr2
                have := hb _ _ _ hr2
                cases h; omega
              · cases h
            · cases h
          · unfold pAssign at h
            split at h
            · rename_i k l2 hr
              have := pName_lt hr
              split at h
              · rename_i l3 hr2
                have := take_le hr2
                split at h
                · rename_i x l4 hr3
                  have := pS_lt hr3
                  split at h
                  · rename_i l5 hr4
                    have := take_le hr4
                    cases h; omega
                  · cases h
                · cases h
              · cases h
            · cases h

end Sp
end Go.Proofs.YtjkllmiikdlhhaaGreatDoor
