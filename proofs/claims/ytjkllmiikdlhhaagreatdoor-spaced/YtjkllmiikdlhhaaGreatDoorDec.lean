/- WHAT IS LEFT grows shorter (plain). -/
import Derived.Test.YtjkllmiikdlhhaaGreatDoorBase
namespace Go.Proofs.YtjkllmiikdlhhaaGreatDoor
namespace Sp

theorem take_ok_iff {t l l1 : Bs} (h : take t l = .ok l1) : tok l = t ∧ l1 = next l := by
  unfold take at h
  split at h
  · cases h; exact ⟨by assumption, rfl⟩
  · cases h

theorem enter_ok_iff {t l l1 : Bs} {o : Nat} (h : enter t o l = .ok l1) : tok l = t ∧ o ≠ 12 ∧ l1 = next l := by
  unfold enter at h
  split at h
  · split at h
    · cases h
    · cases h; exact ⟨by assumption, by assumption, rfl⟩
  · cases h

theorem pName_ok_iff {l l1 : Bs} {k : Nat} (h : pName l = .ok (k, l1)) : nameVal l = some k ∧ l1 = next l := by
  unfold pName at h
  split at h
  · rename_i hk; cases h; exact ⟨hk, rfl⟩
  · cases h

theorem pChain_dec {A : Alg} {lv : Nat} {part : Bs → R A.S} (hp : ∀ l x l1, part l = .ok (x, l1) → l1.length ≤ l.length) :
    ∀ (m : Nat) (x : A.S) (l : Bs) (y : A.S) (l1 : Bs), pChain A lv part m x l = .ok (y, l1) → l1.length ≤ l.length
  | 0, x, l, y, l1, h => by
    unfold pChain at h
    cases h; exact Nat.le_refl _
  | m + 1, x, l, y, l1, h => by
    unfold pChain at h
    split at h
    · split at h
      · split at h
        · rename_i y' l' hr
          have h1 := hp _ _ _ hr
          have h2 := pChain_dec hp m _ _ _ _ h
          have h3 := next_le l
          omega
        · cases h
      · cases h; exact Nat.le_refl _
    · cases h; exact Nat.le_refl _

theorem pWith_dec {A : Alg} {lv : Nat} {part : Bs → R A.S} (hp : ∀ l x l1, part l = .ok (x, l1) → l1.length ≤ l.length) (l : Bs) (y : A.S) (l1 : Bs) (h : pWith A lv part l = .ok (y, l1)) : l1.length ≤ l.length := by
  unfold pWith at h
  split at h
  · rename_i x l' hr
    have h1 := hp _ _ _ hr
    have h2 := pChain_dec hp _ _ _ _ _ h
    omega
  · cases h

theorem pWith_lt {A : Alg} {lv : Nat} {part : Bs → R A.S} (hp : ∀ l x l1, part l = .ok (x, l1) → l1.length < l.length) (l : Bs) (y : A.S) (l1 : Bs) (h : pWith A lv part l = .ok (y, l1)) : l1.length < l.length := by
  unfold pWith at h
  split at h
  · rename_i x l' hr
    have h1 := hp _ _ _ hr
    have h2 := pChain_dec (fun l x l1 h => Nat.le_of_lt (hp l x l1 h)) _ _ _ _ _ h
    omega
  · cases h

theorem pSum_lt {A : Alg} {u : Bs → R A.S} (hp : ∀ l x l1, u l = .ok (x, l1) → l1.length < l.length) (l : Bs) (y : A.S) (l1 : Bs) (h : pSum A u l = .ok (y, l1)) : l1.length < l.length :=
  pWith_lt (pWith_lt hp) l y l1 h

theorem nameVal_kind {l : Bs} {k : Nat} (h : nameVal l = some k) : tokKind l = 2 := by
  unfold nameVal at h
  split at h
  · split at h
    · rename_i hc; exact hc.1
    · cases h
  · cases h

theorem pUnary_lt {A : Alg} : ∀ (n o : Nat) (l : Bs) (x : A.S) (l1 : Bs), pUnary A n o l = .ok (x, l1) → l1.length < l.length
  | 0, o, l, x, l1, h => by unfold pUnary bad at h; cases h
  | n + 1, o, l, x, l1, h => by
    unfold pUnary at h
    split at h
    · rename_i hk
      split at h
      · cases h; exact next_lt (tokLen_pos (.inr (.inl hk)))
      · cases h
    · split at h
      · split at h
        · rename_i k l2 hr
          cases h
          obtain ⟨hk, rfl⟩ := pName_ok_iff hr
          exact next_lt (tokLen_pos (.inl (nameVal_kind hk)))
        · cases h
      · split at h
        · split at h
          · rename_i l2 hr
            obtain ⟨ht, _, rfl⟩ := enter_ok_iff hr
            have := next_lt_of_tok ht (by simp)
            split at h
            · rename_i x2 l3 hr2
              have := pUnary_lt n _ _ _ _ hr2
              cases h; omega
            · cases h
          · cases h
        · split at h
          · rename_i l2 hr
            obtain ⟨ht, _, rfl⟩ := enter_ok_iff hr
            have := next_lt_of_tok ht (by simp)
            split at h
            · rename_i x2 l3 hr2
              have := pSum_lt (pUnary_lt n (o + 1)) _ _ _ hr2
              split at h
              · rename_i l4 hr3
                obtain ⟨_, rfl⟩ := take_ok_iff hr3
                have := next_le l3
                cases h; omega
              · cases h
            · cases h
          · cases h

end Sp
end Go.Proofs.YtjkllmiikdlhhaaGreatDoor
