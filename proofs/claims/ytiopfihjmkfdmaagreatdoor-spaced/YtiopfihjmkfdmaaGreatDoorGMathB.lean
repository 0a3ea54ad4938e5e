/- Texts with the same tokens are read alike (plain mathematics). -/
import Derived.Test.YtiopfihjmkfdmaaGreatDoorGTell
import Derived.Test.YtiopfihjmkfdmaaGreatDoorGWide
import Derived.Test.YtiopfihjmkfdmaaGreatDoorGMathA
namespace Go.Proofs.YtiopfihjmkfdmaaGreatDoor
namespace Sp

/-- l begins with these tokens, and then comes l1 -/
def Toks : Bs → List Bs → Bs → Prop
  | l, [], l1 => l = l1
  | l, t :: ts, l1 => tok l = t ∧ t ≠ [] ∧ Toks (next l) ts l1

/-- the same comes next -/
def Hd (l l' : Bs) : Prop := tok l = tok l' ∧ (tokKind l = 2 ↔ tokKind l' = 2) ∧ (tokKind l = 3 ↔ tokKind l' = 3)

theorem tok_cons {l : Bs} {c : UInt8} {t : Bs} (h : tok l = c :: t) : ∃ r, l = c :: r := by
  cases l with
  | nil => cases h
  | cons d r =>
    unfold tok at h
    cases hn : tokLen (d :: r) with
    | zero => rw [hn] at h; cases h
    | succ n => rw [hn] at h; simp only [List.take_succ_cons, List.cons.injEq] at h; exact ⟨r, by rw [h.1]⟩
theorem kind_let (c : UInt8) (r : Bs) : tokKind (c :: r) = 2 ↔ isLet c = true := by
  by_cases h : isLet c = true
  · simp [tokKind, h]
  · simp only [tokKind, h]
    simp only [Bool.false_eq_true, if_false, iff_false]
    split
    · decide
    · split <;> decide
theorem kind_dig (c : UInt8) (r : Bs) : tokKind (c :: r) = 3 ↔ (isLet c = false ∧ isDig c = true) := by
  by_cases h : isLet c = true
  · simp [tokKind, h]
  · by_cases h2 : isDig c = true
    · simp [tokKind, h, h2]
    · simp only [tokKind, h, h2]
      simp only [Bool.false_eq_true, if_false]
      split <;> simp
theorem kind2 {l l' : Bs} (h : tok l = tok l') (h0 : tok l ≠ []) : Hd l l' := by
  cases ht : tok l with
  | nil => exact absurd ht h0
  | cons c t =>
    obtain ⟨r, rfl⟩ := tok_cons ht
    obtain ⟨r', rfl⟩ := tok_cons (h.symm.trans ht)
    refine ⟨h, ?_, ?_⟩
    · rw [kind_let, kind_let]
    · rw [kind_dig, kind_dig]
theorem Toks.app {ts : List Bs} : ∀ {us : List Bs} {l l1 l2 : Bs}, Toks l ts l1 → Toks l1 us l2 → Toks l (ts ++ us) l2 := by
  induction ts with
  | nil => intro us l l1 l2 h k; cases h; exact k
  | cons t ts ih => intro us l l1 l2 h k; exact ⟨h.1, h.2.1, ih h.2.2 k⟩
theorem Toks.split {ts : List Bs} : ∀ {us : List Bs} {l l2 : Bs}, Toks l (ts ++ us) l2 → ∃ l1, Toks l ts l1 ∧ Toks l1 us l2 := by
  induction ts with
  | nil => intro us l l2 h; exact ⟨l, rfl, h⟩
  | cons t ts ih => intro us l l2 h; obtain ⟨l1, h1, h2⟩ := ih h.2.2; exact ⟨l1, ⟨h.1, h.2.1, h1⟩, h2⟩
/-- the first token of what is the same -/
theorem Toks.hd {ts : List Bs} {l l1 l' l1' : Bs} (h : Toks l ts l1) (h' : Toks l' ts l1') (he : Hd l1 l1') : Hd l l' := by
  cases ts with
  | nil => cases h; cases h'; exact he
  | cons t ts => exact kind2 (h.1.trans h'.1.symm) (by rw [h.1]; exact h.2.1)
theorem Toks.len {ts : List Bs} : ∀ {l l1 : Bs}, Toks l ts l1 → ts.length + l1.length ≤ l.length := by
  induction ts with
  | nil => intro l l1 h; cases h; simp
  | cons t ts ih =>
    intro l l1 h
    have := ih h.2.2
    have h2 : (next l).length + 1 ≤ l.length := by
      cases l with
      | nil => exact absurd h.1.symm h.2.1
      | cons c r =>
        cases hn : tokLen (c :: r) with
        | zero => exact absurd (by rw [← h.1]; unfold tok; rw [hn]; rfl) h.2.1
        | succ n =>
          unfold next
          rw [hn]
          have : (skip ((c :: r).drop (n + 1))).length ≤ ((c :: r).drop (n + 1)).length := by unfold skip; exact (List.dropWhile_sublist _).length_le
          simp only [List.length_drop, List.length_cons] at this ⊢
          omega
    simp only [List.length_cons]
    omega

/-- p reads what it read here wherever the same tokens stand -/
def Like {α : Type} (p : Bs → R α) (q : Nat → Bs → R α) : Prop := ∀ l x l1, p l = .ok (x, l1) → ∃ ts, Toks l ts l1 ∧ ∀ n l' l1', ts.length ≤ n → Toks l' ts l1' → Hd l1 l1' → q n l' = .ok (x, l1')

theorem take_like {t l l1 : Bs} (h0 : t ≠ []) (h : take t l = .ok l1) : Toks l [t] l1 ∧ ∀ l' l1', Toks l' [t] l1' → take t l' = .ok l1' := by
  unfold take at h
  split at h
  · next e =>
    cases h
    refine ⟨⟨e, h0, rfl⟩, ?_⟩
    rintro l' l1' ⟨e', _, rfl⟩
    unfold take; rw [if_pos e']
  · cases h
theorem enter_like {t l l1 : Bs} {o : Nat} (h0 : t ≠ []) (h : enter t o l = .ok l1) : Toks l [t] l1 ∧ ∀ l' l1', Toks l' [t] l1' → enter t o l' = .ok l1' := by
  unfold enter at h
  split at h
  · next e =>
    split at h
    · cases h
    · next ho =>
      cases h
      refine ⟨⟨e, h0, rfl⟩, ?_⟩
      rintro l' l1' ⟨e', _, rfl⟩
      unfold enter; rw [if_pos e', if_neg ho]
  · cases h
theorem nameVal_like {l l' : Bs} (h : Hd l l') : nameVal l = nameVal l' := by
  unfold nameVal
  rw [h.1]
  split
  · simp only [h.2.1]
  · rfl
theorem pName_like {l : Bs} {k : Nat} {l1 : Bs} (h : pName l = .ok (k, l1)) : ∃ t, t ≠ [] ∧ Toks l [t] l1 ∧ ∀ l' l1', Toks l' [t] l1' → pName l' = .ok (k, l1') := by
  unfold pName at h
  split at h
  · next k' hk =>
    cases h
    have h0 : tok l ≠ [] := by
      intro e; unfold nameVal at hk; rw [e] at hk; cases hk
    refine ⟨tok l, h0, ⟨rfl, h0, rfl⟩, ?_⟩
    rintro l' l1' ⟨e', _, rfl⟩
    unfold pName
    rw [← nameVal_like (kind2 e'.symm h0), hk]
  · cases h

end Sp
end Go.Proofs.YtiopfihjmkfdmaaGreatDoor

/- Texts with the same tokens are read alike: sums (plain mathematics). -/
namespace Go.Proofs.YtiopfihjmkfdmaaGreatDoor
namespace Sp

theorem nxt_lt {l : Bs} (h : tok l ≠ []) : (next l).length < l.length := by
  have := Toks.len (ts := [tok l]) (l := l) (l1 := next l) ⟨rfl, h, rfl⟩
  simp at this; omega
theorem op_ne {l : Bs} {k : Nat} (h : opOf (tok l) = some k) : tok l ≠ [] := by
  intro e; rw [e] at h; cases h
theorem rel_ne {l : Bs} {k : Nat} (h : relOf (tok l) = some k) : tok l ≠ [] := by
  intro e; rw [e] at h; cases h

theorem pChain_eq (A : Alg) (lv : Nat) (part : Bs → R A.S) (m : Nat) (x : A.S) (l : Bs) : pChain A lv part (m + 1) x l = (match opOf (tok l) with
    | some k => if opLevel k = lv then (match part (next l) with
        | .ok (y, l') => pChain A lv part m (A.bin k x y) l'
        | .error e => .error e) else .ok (x, l)
    | none => .ok (x, l)) := rfl

theorem pChain_like (A : Alg) (lv : Nat) (u : Bs → R A.S) (q : Nat → Bs → R A.S) (hu : Like u q) : ∀ m x l y l1, l.length < m → pChain A lv u m x l = .ok (y, l1) →
    ∃ ts, Toks l ts l1 ∧ ∀ n m' l' l1', ts.length ≤ n → ts.length < m' → Toks l' ts l1' → Hd l1 l1' → pChain A lv (q n) m' x l' = .ok (y, l1') := by
  intro m
  induction m with
  | zero => intro x l y l1 hm; omega
  | succ m ih =>
    intro x l y l1 hm h
    rw [pChain_eq] at h
    cases ho : opOf (tok l) with
    | none =>
      rw [ho] at h
      cases h
      refine ⟨[], rfl, ?_⟩
      intro n m' l' l1' _ hm' ht hd
      cases ht
      obtain ⟨m2, rfl⟩ : ∃ m2, m' = m2 + 1 := ⟨m' - 1, by simp at hm'; omega⟩
      rw [pChain_eq, ← hd.1, ho]
    | some k =>
      rw [ho] at h
      simp only at h
      split at h
      · next hl =>
        split at h
        · next z l2 hz =>
          have hne := op_ne ho
          obtain ⟨ts1, t1, f1⟩ := hu _ _ _ hz
          have hn1 := nxt_lt hne
          have hn2 := t1.len
          obtain ⟨ts2, t2, f2⟩ := ih _ _ _ _ (by omega) h
          refine ⟨tok l :: (ts1 ++ ts2), ⟨rfl, hne, t1.app t2⟩, ?_⟩
          intro n m' l' l1' hn hm' ht hd
          obtain ⟨e1, _, ht2⟩ := ht
          obtain ⟨l2', k1, k2⟩ := ht2.split
          simp only [List.length_cons, List.length_append] at hn hm'
          obtain ⟨m2, rfl⟩ : ∃ m2, m' = m2 + 1 := ⟨m' - 1, by omega⟩
          rw [pChain_eq, e1, ho]
          simp only [hl, if_true]
          rw [f1 n _ l2' (by omega) k1 (t2.hd k2 hd)]
          exact f2 n m2 l2' l1' (by omega) (by omega) k2 hd
        · cases h
      · next hl =>
        cases h
        refine ⟨[], rfl, ?_⟩
        intro n m' l' l1' _ hm' ht hd
        cases ht
        obtain ⟨m2, rfl⟩ : ∃ m2, m' = m2 + 1 := ⟨m' - 1, by simp at hm'; omega⟩
        rw [pChain_eq, ← hd.1, ho]
        simp only [hl, if_false]

theorem pWith_like (A : Alg) (lv : Nat) (u : Bs → R A.S) (q : Nat → Bs → R A.S) (hu : Like u q) : Like (pWith A lv u) (fun n => pWith A lv (q n)) := by
  intro l x l1 h
  unfold pWith at h
  split at h
  · next y l2 hy =>
    obtain ⟨ts1, t1, f1⟩ := hu _ _ _ hy
    obtain ⟨ts2, t2, f2⟩ := pChain_like A lv u q hu _ _ _ _ _ (by omega) h
    refine ⟨ts1 ++ ts2, t1.app t2, ?_⟩
    intro n l' l1' hn ht hd
    obtain ⟨l2', k1, k2⟩ := ht.split
    rw [List.length_append] at hn
    have := k2.len
    show pWith A lv (q n) l' = _
    unfold pWith
    rw [f1 n _ l2' (by omega) k1 (t2.hd k2 hd)]
    exact f2 n _ l2' l1' (by omega) (by omega) k2 hd
  · cases h
theorem pSum_like (A : Alg) (u : Bs → R A.S) (q : Nat → Bs → R A.S) (hu : Like u q) : Like (pSum A u) (fun n => pSum A (q n)) :=
  pWith_like A 0 (pProd A u) (fun n => pProd A (q n)) (pWith_like A 1 u q hu)

theorem pUnary_like (A : Alg) : ∀ n o, Like (pUnary A n o) (fun n' => pUnary A n' o) := by
  intro n
  induction n with
  | zero => intro o l x l1 h; cases h
  | succ n ih =>
    intro o l x l1 h
    unfold pUnary at h
    split at h
    · next h3 =>
      split at h
      · next v hv =>
        cases h
        have hne : tok l ≠ [] := by
          intro e; rw [e] at hv
          cases l with
          | nil => cases h3
          | cons c r =>
            have hk := (kind_dig c r).1 h3
            have : tokLen (c :: r) = headRun isDig (c :: r) := by simp [tokLen, hk.1, hk.2]
            unfold tok at e
            rw [this] at e
            simp [headRun, hk.2] at e
        refine ⟨[tok l], ⟨rfl, hne, rfl⟩, ?_⟩
        intro n' l' l1' hn ht _
        obtain ⟨e1, _, rfl⟩ := ht
        simp only [List.length_cons, List.length_nil] at hn
        obtain ⟨m, rfl⟩ : ∃ m, n' = m + 1 := ⟨n' - 1, by omega⟩
        have hd := kind2 e1.symm hne
        show pUnary A (m + 1) o l' = _
        unfold pUnary
        rw [if_pos (hd.2.2.1 h3), e1, hv]
      · cases h
    · next h3 =>
      split at h
      · next h2 =>
        split at h
        · next k l2 hk =>
          cases h
          obtain ⟨t, t0, ht, f⟩ := pName_like hk
          refine ⟨[t], ht, ?_⟩
          intro n' l' l1' hn ht' hd'
          simp only [List.length_cons, List.length_nil] at hn
          obtain ⟨m, rfl⟩ : ∃ m, n' = m + 1 := ⟨n' - 1, by omega⟩
          have hd := ht.hd ht' hd'
          show pUnary A (m + 1) o l' = _
          unfold pUnary
          rw [if_neg (fun e => h3 (hd.2.2.2 e)), if_pos (hd.2.1.1 h2), f l' l1' ht']
        · cases h
      · next h2 =>
        split at h
        · next h45 =>
          split at h
          · next l2 he =>
            split at h
            · next y l3 hy =>
              cases h
              obtain ⟨t1, f1⟩ := enter_like (by decide) he
              obtain ⟨ts2, t2, f2⟩ := ih _ _ _ _ hy
              refine ⟨[45] :: ts2, t1.app t2, ?_⟩
              intro n' l' l1' hn ht' hd'
              simp only [List.length_cons] at hn
              obtain ⟨m, rfl⟩ : ∃ m, n' = m + 1 := ⟨n' - 1, by omega⟩
              have hd := (t1.app t2).hd ht' hd'
              obtain ⟨l2', k1, k2⟩ := Toks.split (ts := [[45]]) ht'
              show pUnary A (m + 1) o l' = _
              unfold pUnary
              rw [if_neg (fun e => h3 (hd.2.2.2 e)), if_neg (fun e => h2 (hd.2.1.2 e)), if_pos (hd.1 ▸ h45), f1 l' l2' k1]
              simp only
              rw [show pUnary A m (o + 1) l2' = _ from f2 m l2' l1' (by omega) k2 hd']
            · cases h
          · cases h
        · next h45 =>
          split at h
          · next l2 he =>
            split at h
            · next y l3 hy =>
              split at h
              · next l4 h41 =>
                cases h
                obtain ⟨t1, f1⟩ := enter_like (by decide) he
                obtain ⟨ts2, t2, f2⟩ := pSum_like A _ _ (ih (o + 1)) _ _ _ hy
                obtain ⟨t3, f3⟩ := take_like (by decide) h41
                refine ⟨[40] :: (ts2 ++ [[41]]), t1.app (t2.app t3), ?_⟩
                intro n' l' l1' hn ht' hd'
                simp only [List.length_cons, List.length_append] at hn
                obtain ⟨m, rfl⟩ : ∃ m, n' = m + 1 := ⟨n' - 1, by omega⟩
                have hd := (t1.app (t2.app t3)).hd ht' hd'
                obtain ⟨l2', k1, k2⟩ := Toks.split (ts := [[40]]) ht'
                obtain ⟨l3', k3, k4⟩ := k2.split
                show pUnary A (m + 1) o l' = _
                unfold pUnary
                rw [if_neg (fun e => h3 (hd.2.2.2 e)), if_neg (fun e => h2 (hd.2.1.2 e)), if_neg (hd.1 ▸ h45), f1 l' l2' k1]
                simp only
                rw [show pSum A (pUnary A m (o + 1)) l2' = _ from f2 m l2' l3' (by omega) k3 (t3.hd k4 hd')]
                simp only
                rw [f3 l3' l1' k4]
              · cases h
            · cases h
          · cases h

theorem pS_like (A : Alg) (o : Nat) {l : Bs} {x : A.S} {l1 : Bs} (h : pS A o l = .ok (x, l1)) : ∃ ts, Toks l ts l1 ∧ ∀ l' l1', Toks l' ts l1' → Hd l1 l1' → pS A o l' = .ok (x, l1') := by
  obtain ⟨ts, t, f⟩ := pSum_like A _ _ (pUnary_like A (l.length + 1) o) _ _ _ h
  refine ⟨ts, t, ?_⟩
  intro l' l1' ht hd
  have := ht.len
  exact f (l'.length + 1) l' l1' (by omega) ht hd
theorem pCond_like (A : Alg) (o : Nat) {l : Bs} {x : Nat × A.S × A.S} {l1 : Bs} (h : pCond A o l = .ok (x, l1)) : ∃ ts, Toks l ts l1 ∧ ∀ l' l1', Toks l' ts l1' → Hd l1 l1' → pCond A o l' = .ok (x, l1') := by
  unfold pCond at h
  split at h
  · next y l2 hy =>
    split at h
    · next k hk =>
      split at h
      · next z l3 hz =>
        cases h
        obtain ⟨ts1, t1, f1⟩ := pS_like A o hy
        obtain ⟨ts2, t2, f2⟩ := pS_like A o hz
        have tr : Toks l2 [tok l2] (next l2) := ⟨rfl, rel_ne hk, rfl⟩
        refine ⟨ts1 ++ ([tok l2] ++ ts2), t1.app (tr.app t2), ?_⟩
        intro l' l1' ht hd
        obtain ⟨l2', k1, k2⟩ := ht.split
        have hd2 := (tr.app t2).hd k2 hd
        obtain ⟨l3', k3, k4⟩ := k2.split
        obtain ⟨e1, _, rfl⟩ := k3
        unfold pCond
        rw [f1 l' l2' k1 hd2]
        simp only
        rw [e1, hk]
        simp only
        rw [f2 _ l1' k4 hd]
      · cases h
    · cases h
  · cases h

end Sp
end Go.Proofs.YtiopfihjmkfdmaaGreatDoor

/- Texts with the same tokens are read alike: statements, programs (plain mathematics). -/
namespace Go.Proofs.YtiopfihjmkfdmaaGreatDoor
namespace Sp

theorem word_ne {l : Bs} (h : tokKind l = 2) : tok l ≠ [] := by
  intro e
  cases l with
  | nil => cases h
  | cons c r =>
    have hk := (kind_let c r).1 h
    have : tokLen (c :: r) = headRun isLet (c :: r) := by simp [tokLen, hk]
    unfold tok at e
    rw [this] at e
    simp [headRun, hk] at e

theorem pMany_eq (A : Alg) (st : Bs → R A.T) (m : Nat) (acc : List A.T) (l : Bs) : pMany A st (m + 1) acc l = (if tokKind l = 2 then (match st l with
      | .ok (x, l1) => pMany A st m (acc ++ [x]) l1
      | .error e => .error e) else .ok (acc, l)) := rfl

theorem pMany_like (A : Alg) (st : Bs → R A.T) (q : Nat → Bs → R A.T) (hu : Like st q) (hne : ∀ l x l1, st l = .ok (x, l1) → l1.length < l.length) : ∀ m acc l ys l1, l.length < m → pMany A st m acc l = .ok (ys, l1) →
    ∃ ts, Toks l ts l1 ∧ ∀ n m' l' l1', ts.length ≤ n → l'.length < m' → Toks l' ts l1' → Hd l1 l1' → pMany A (q n) m' acc l' = .ok (ys, l1') := by
  intro m
  induction m with
  | zero => intro acc l ys l1 hm; omega
  | succ m ih =>
    intro acc l ys l1 hm h
    rw [pMany_eq] at h
    split at h
    · next h2 =>
      split at h
      · next x l2 hx =>
        obtain ⟨ts1, t1, f1⟩ := hu _ _ _ hx
        have hlt := hne _ _ _ hx
        obtain ⟨ts2, t2, f2⟩ := ih _ _ _ _ (by omega) h
        refine ⟨ts1 ++ ts2, t1.app t2, ?_⟩
        intro n m' l' l1' hn hm' ht hd
        have hdl := (t1.app t2).hd ht hd
        obtain ⟨l2', k1, k2⟩ := ht.split
        rw [List.length_append] at hn
        obtain ⟨m2, rfl⟩ : ∃ m2, m' = m2 + 1 := ⟨m' - 1, by omega⟩
        have h1 : 0 < ts1.length := by
          cases ts1 with
          | nil => cases t1; omega
          | cons a b => simp
        have := k1.len
        rw [pMany_eq, if_pos (hdl.2.1.1 h2), f1 n l' l2' (by omega) k1 (t2.hd k2 hd)]
        exact f2 n m2 l2' l1' (by omega) (by omega) k2 hd
      · cases h
    · next h2 =>
      cases h
      refine ⟨[], rfl, ?_⟩
      intro n m' l' l1' _ hm' ht hd
      cases ht
      obtain ⟨m2, rfl⟩ : ∃ m2, m' = m2 + 1 := ⟨m' - 1, by omega⟩
      rw [pMany_eq, if_neg (fun e => h2 (hd.2.1.2 e))]

theorem pBlock_like (A : Alg) (st : Bs → R A.T) (q : Nat → Bs → R A.T) (hu : Like st q) (hne : ∀ l x l1, st l = .ok (x, l1) → l1.length < l.length) (o : Nat) : Like (fun l => pBlock A st o l) (fun n l => pBlock A (q n) o l) := by
  intro l x l1 h
  simp only at h
  unfold pBlock at h
  split at h
  · next l2 he =>
    split at h
    · next ys l3 hm =>
      split at h
      · next l4 ht =>
        cases h
        obtain ⟨t1, f1⟩ := enter_like (by decide) he
        obtain ⟨ts2, t2, f2⟩ := pMany_like A st q hu hne _ _ _ _ _ (by omega) hm
        obtain ⟨t3, f3⟩ := take_like (by decide) ht
        refine ⟨[123] :: (ts2 ++ [[125]]), t1.app (t2.app t3), ?_⟩
        intro n l' l1' hn ht' hd'
        simp only [List.length_cons, List.length_append] at hn
        obtain ⟨l2', k1, k2⟩ := Toks.split (ts := [[123]]) ht'
        obtain ⟨l3', k3, k4⟩ := k2.split
        show pBlock A (q n) o l' = _
        unfold pBlock
        rw [f1 l' l2' k1]
        simp only
        rw [f2 n _ l2' l3' (by omega) (by omega) k3 (t3.hd k4 hd')]
        simp only
        rw [f3 l3' l1' k4]
      · cases h
    · cases h
  · cases h

/-- a statement takes something -/
theorem pAssign_like (A : Alg) (o : Nat) {l : Bs} {x : A.T} {l1 : Bs} (h : pAssign A o l = .ok (x, l1)) : ∃ ts, ts ≠ [] ∧ Toks l ts l1 ∧ ∀ l' l1', Toks l' ts l1' → Hd l1 l1' → pAssign A o l' = .ok (x, l1') := by
  unfold pAssign at h
  split at h
  · next k l2 hk =>
    split at h
    · next l3 h61 =>
      split at h
      · next y l4 hy =>
        split at h
        · next l5 h59 =>
          cases h
          obtain ⟨t, t0, t1, f1⟩ := pName_like hk
          obtain ⟨t2, f2⟩ := take_like (by decide) h61
          obtain ⟨ts3, t3, f3⟩ := pS_like A o hy
          obtain ⟨t4, f4⟩ := take_like (by decide) h59
          refine ⟨[t] ++ ([[61]] ++ (ts3 ++ [[59]])), by simp, t1.app (t2.app (t3.app t4)), ?_⟩
          intro l' l1' ht hd
          obtain ⟨l2', k1, r1⟩ := ht.split
          obtain ⟨l3', k2, r2⟩ := r1.split
          obtain ⟨l4', k3, k4⟩ := r2.split
          unfold pAssign
          rw [f1 l' l2' k1]
          simp only
          rw [f2 l2' l3' k2]
          simp only
          rw [f3 l3' l4' k3 (t4.hd k4 hd)]
          simp only
          rw [f4 l4' l1' k4]
        · cases h
      · cases h
    · cases h
  · cases h
theorem pRead_like (A : Alg) {l : Bs} {x : A.T} {l1 : Bs} (h0 : tok l ≠ []) (h : pRead A l = .ok (x, l1)) : ∃ ts, Toks l (tok l :: ts) l1 ∧ ∀ l' l1', Toks l' (tok l :: ts) l1' → Hd l1 l1' → pRead A l' = .ok (x, l1') := by
  unfold pRead at h
  split at h
  · next k l2 hk =>
    split at h
    · next l3 h59 =>
      cases h
      obtain ⟨t, t0, t1, f1⟩ := pName_like hk
      obtain ⟨t4, f4⟩ := take_like (by decide) h59
      refine ⟨[t] ++ [[59]], ⟨rfl, h0, t1.app t4⟩, ?_⟩
      intro l' l1' ht hd
      obtain ⟨l2', k1, k4⟩ := ht.2.2.split
      unfold pRead
      rw [f1 _ l2' k1]
      simp only
      rw [f4 l2' l1' k4]
    · cases h
  · cases h
theorem pAssert_like (A : Alg) (o : Nat) {l : Bs} {x : A.T} {l1 : Bs} (h0 : tok l ≠ []) (h : pAssert A o l = .ok (x, l1)) : ∃ ts, Toks l (tok l :: ts) l1 ∧ ∀ l' l1', Toks l' (tok l :: ts) l1' → Hd l1 l1' → pAssert A o l' = .ok (x, l1') := by
  unfold pAssert at h
  split at h
  · next k y z l2 hk =>
    split at h
    · next l3 h59 =>
      cases h
      obtain ⟨ts, t1, f1⟩ := pCond_like A o hk
      obtain ⟨t4, f4⟩ := take_like (by decide) h59
      refine ⟨ts ++ [[59]], ⟨rfl, h0, t1.app t4⟩, ?_⟩
      intro l' l1' ht hd
      obtain ⟨l2', k1, k4⟩ := ht.2.2.split
      unfold pAssert
      rw [f1 _ l2' k1 (t4.hd k4 hd)]
      simp only
      rw [f4 l2' l1' k4]
    · cases h
  · cases h
theorem pWhile_like (A : Alg) (blk : Bs → R (List A.T)) (q : Nat → Bs → R (List A.T)) (hb : Like blk q) (o : Nat) {l : Bs} {x : A.T} {l1 : Bs} (h0 : tok l ≠ []) (h : pWhile A blk o l = .ok (x, l1)) : ∃ ts, Toks l (tok l :: ts) l1 ∧ ∀ n l' l1', ts.length ≤ n → Toks l' (tok l :: ts) l1' → Hd l1 l1' → pWhile A (q n) o l' = .ok (x, l1') := by
  unfold pWhile at h
  split at h
  · next k y z l2 hk =>
    split at h
    · next xs l3 hx =>
      cases h
      obtain ⟨ts, t1, f1⟩ := pCond_like A o hk
      obtain ⟨ts2, t4, f4⟩ := hb _ _ _ hx
      refine ⟨ts ++ ts2, ⟨rfl, h0, t1.app t4⟩, ?_⟩
      intro n l' l1' hn ht hd
      rw [List.length_append] at hn
      obtain ⟨l2', k1, k4⟩ := ht.2.2.split
      unfold pWhile
      rw [f1 _ l2' k1 (t4.hd k4 hd)]
      simp only
      rw [f4 n l2' l1' (by omega) k4 hd]
    · cases h
  · cases h
theorem pIf_like (A : Alg) (blk : Bs → R (List A.T)) (q : Nat → Bs → R (List A.T)) (hb : Like blk q) (o : Nat) {l : Bs} {x : A.T} {l1 : Bs} (h0 : tok l ≠ []) (h : pIf A blk o l = .ok (x, l1)) : ∃ ts, Toks l (tok l :: ts) l1 ∧ ∀ n l' l1', ts.length ≤ n → Toks l' (tok l :: ts) l1' → Hd l1 l1' → pIf A (q n) o l' = .ok (x, l1') := by
  unfold pIf at h
  split at h
  · next k y z l2 hk =>
    split at h
    · next xs l3 hx =>
      obtain ⟨ts, t1, f1⟩ := pCond_like A o hk
      obtain ⟨ts2, t4, f4⟩ := hb _ _ _ hx
      split at h
      · next he =>
        split at h
        · next ys l4 hy =>
          cases h
          have hne : tok l3 ≠ [] := by rw [he]; decide
          have te : Toks l3 [tok l3] (next l3) := ⟨rfl, hne, rfl⟩
          obtain ⟨ts3, t5, f5⟩ := hb _ _ _ hy
          refine ⟨ts ++ (ts2 ++ ([tok l3] ++ ts3)), ⟨rfl, h0, t1.app (t4.app (te.app t5))⟩, ?_⟩
          intro n l' l1' hn ht hd
          simp only [List.length_append] at hn
          obtain ⟨l2', k1, r1⟩ := ht.2.2.split
          have hd2 := (t4.app (te.app t5)).hd r1 hd
          obtain ⟨l3', k2, r2⟩ := r1.split
          have hd3 := (te.app t5).hd r2 hd
          obtain ⟨l4', k3, k4⟩ := r2.split
          obtain ⟨e1, _, rfl⟩ := k3
          unfold pIf
          rw [f1 _ l2' k1 hd2]
          simp only
          rw [f4 n l2' l3' (by omega) k2 hd3]
          simp only
          rw [if_pos (e1.trans he), f5 n _ l1' (by omega) k4 hd]
        · cases h
      · next he =>
        cases h
        refine ⟨ts ++ ts2, ⟨rfl, h0, t1.app t4⟩, ?_⟩
        intro n l' l1' hn ht hd
        rw [List.length_append] at hn
        obtain ⟨l2', k1, k4⟩ := ht.2.2.split
        unfold pIf
        rw [f1 _ l2' k1 (t4.hd k4 hd)]
        simp only
        rw [f4 n l2' l1' (by omega) k4 hd]
        simp only
        rw [if_neg (fun e => he (hd.1.trans e))]
    · cases h
  · cases h

theorem pStmt_like (A : Alg) : ∀ n o, Like (pStmt A n o) (fun n' => pStmt A n' o) ∧ ∀ l x l1, pStmt A n o l = .ok (x, l1) → l1.length < l.length := by
  intro n
  induction n with
  | zero => intro o; exact ⟨fun l x l1 h => (by cases h), fun l x l1 h => (by cases h)⟩
  | succ n ih =>
    intro o
    have main : ∀ l x l1, pStmt A (n + 1) o l = .ok (x, l1) → ∃ ts, ts ≠ [] ∧ Toks l ts l1 ∧ ∀ n' l' l1', ts.length ≤ n' → Toks l' ts l1' → Hd l1 l1' → pStmt A n' o l' = .ok (x, l1') := by
      intro l x l1 h
      have hblk := pBlock_like A _ _ (ih (o + 1)).1 (ih (o + 1)).2 o
      unfold pStmt at h
      split at h
      · next h1 =>
        have h0 : tok l ≠ [] := by rw [h1]; decide
        obtain ⟨ts, t, f⟩ := pRead_like A h0 h
        refine ⟨tok l :: ts, by simp, t, ?_⟩
        intro n' l' l1' hn ht hd
        simp only [List.length_cons] at hn
        obtain ⟨m, rfl⟩ : ∃ m, n' = m + 1 := ⟨n' - 1, by omega⟩
        unfold pStmt
        rw [if_pos (ht.1.trans h1)]
        exact f l' l1' ht hd
      · next h1 =>
        split at h
        · next h2 =>
          have h0 : tok l ≠ [] := by rw [h2]; decide
          obtain ⟨ts, t, f⟩ := pAssert_like A o h0 h
          refine ⟨tok l :: ts, by simp, t, ?_⟩
          intro n' l' l1' hn ht hd
          simp only [List.length_cons] at hn
          obtain ⟨m, rfl⟩ : ∃ m, n' = m + 1 := ⟨n' - 1, by omega⟩
          unfold pStmt
          rw [if_neg (fun e => h1 (ht.1.symm.trans e)), if_pos (ht.1.trans h2)]
          exact f l' l1' ht hd
        · next h2 =>
          split at h
          · next h3 =>
            have h0 : tok l ≠ [] := by rw [h3]; decide
            obtain ⟨ts, t, f⟩ := pIf_like A _ _ hblk o h0 h
            refine ⟨tok l :: ts, by simp, t, ?_⟩
            intro n' l' l1' hn ht hd
            simp only [List.length_cons] at hn
            obtain ⟨m, rfl⟩ : ∃ m, n' = m + 1 := ⟨n' - 1, by omega⟩
            unfold pStmt
            rw [if_neg (fun e => h1 (ht.1.symm.trans e)), if_neg (fun e => h2 (ht.1.symm.trans e)), if_pos (ht.1.trans h3)]
            exact f m l' l1' (by omega) ht hd
          · next h3 =>
            split at h
            · next h4 =>
              have h0 : tok l ≠ [] := by rw [h4]; decide
              obtain ⟨ts, t, f⟩ := pWhile_like A _ _ hblk o h0 h
              refine ⟨tok l :: ts, by simp, t, ?_⟩
              intro n' l' l1' hn ht hd
              simp only [List.length_cons] at hn
              obtain ⟨m, rfl⟩ : ∃ m, n' = m + 1 := ⟨n' - 1, by omega⟩
              unfold pStmt
              rw [if_neg (fun e => h1 (ht.1.symm.trans e)), if_neg (fun e => h2 (ht.1.symm.trans e)), if_neg (fun e => h3 (ht.1.symm.trans e)), if_pos (ht.1.trans h4)]
              exact f m l' l1' (by omega) ht hd
            · next h4 =>
              obtain ⟨ts, tne, t, f⟩ := pAssign_like A o h
              refine ⟨ts, tne, t, ?_⟩
              intro n' l' l1' hn ht hd
              have hd0 := t.hd ht hd
              have : 0 < ts.length := List.length_pos_iff.2 tne
              obtain ⟨m, rfl⟩ : ∃ m, n' = m + 1 := ⟨n' - 1, by omega⟩
              unfold pStmt
              rw [if_neg (fun e => h1 (hd0.1.trans e)), if_neg (fun e => h2 (hd0.1.trans e)), if_neg (fun e => h3 (hd0.1.trans e)), if_neg (fun e => h4 (hd0.1.trans e))]
              exact f l' l1' ht hd
    refine ⟨?_, ?_⟩
    · intro l x l1 h
      obtain ⟨ts, _, t, f⟩ := main l x l1 h
      exact ⟨ts, t, f⟩
    · intro l x l1 h
      obtain ⟨ts, tne, t, _⟩ := main l x l1 h
      have := t.len
      have : 0 < ts.length := List.length_pos_iff.2 tne
      omega

/-- a program is read alike wherever the same tokens stand -/
theorem parse_like (A : Alg) {s : Bs} {xs : List A.T} (h : parse A s = .ok xs) : ∃ ts, Toks (skip s) ts [] ∧ ∀ s', s'.length ≤ 400 → Toks (skip s') ts [] → parse A s' = .ok xs := by
  unfold parse at h
  split at h
  · cases h
  · split at h
    · next ys hp =>
      cases h
      unfold pProg at hp
      split at hp
      · next zs l1 hm =>
        split at hp
        · next h0 =>
          cases hp
          subst h0
          obtain ⟨ts, t, f⟩ := pMany_like A _ _ (pStmt_like A _ 0).1 (pStmt_like A _ 0).2 _ _ _ _ _ (by omega) hm
          refine ⟨ts, t, ?_⟩
          intro s' hs' ht
          have hl := ht.len
          unfold parse
          rw [if_neg (by omega)]
          unfold pProg
          have := f ((skip s').length + 1) ((skip s').length + 1) (skip s') [] (by omega) (by omega) ht ⟨rfl, Iff.rfl, Iff.rfl⟩
          rw [this]
          simp
        · cases hp
      · cases hp
    · cases h

end Sp
end Go.Proofs.YtiopfihjmkfdmaaGreatDoor

/- More blanks where there are some: the same tokens (plain mathematics). -/
namespace Go.Proofs.YtiopfihjmkfdmaaGreatDoor
namespace Sp

theorem wide_blank {c : UInt8} (h : isBlank c = true) (l : Bs) : wide (c :: l) = c :: 10 :: 32 :: wide l := by simp [wide, h]
theorem wide_plain {c : UInt8} (h : isBlank c = false) (l : Bs) : wide (c :: l) = c :: wide l := by simp [wide, h]
theorem wide_skip (l : Bs) : skip (wide l) = wide (skip l) := by
  induction l with
  | nil => rfl
  | cons c l ih =>
    cases h : isBlank c with
    | true =>
      rw [wide_blank h]
      have e : skip (c :: l) = skip l := by simp [skip, h]
      have e2 : skip (c :: 10 :: 32 :: wide l) = skip (wide l) := by
        rw [show skip (c :: 10 :: 32 :: wide l) = skip (10 :: 32 :: wide l) by simp [skip, h], skip_10, skip_32]
      rw [e, e2, ih]
    | false => rw [wide_plain h, skip_nb _ h, skip_nb _ h, wide_plain h]
theorem wide_run {p : UInt8 → Bool} (hp : ∀ c, isBlank c = true → p c = false) (l : Bs) : headRun p (wide l) = headRun p l := by
  unfold headRun
  induction l with
  | nil => rfl
  | cons c l ih =>
    cases h : isBlank c with
    | true => rw [wide_blank h]; simp [hp c h]
    | false =>
      rw [wide_plain h]
      cases hc : p c with
      | true => simp [hc, ih]
      | false => simp [hc]
theorem wide_head (l : Bs) : (wide l).head? = l.head? := by
  cases l with
  | nil => rfl
  | cons c l =>
    cases h : isBlank c with
    | true => rw [wide_blank h]; rfl
    | false => rw [wide_plain h]; rfl
theorem blank_let {c : UInt8} (h : isBlank c = true) : isLet c = false := by
  cases hl : isLet c with
  | false => rfl
  | true => rw [let_nb hl] at h; cases h
theorem blank_dig {c : UInt8} (h : isBlank c = true) : isDig c = false := by
  unfold isBlank at h
  simp only [Bool.or_eq_true, beq_iff_eq] at h
  rcases h with rfl | rfl <;> decide
theorem blank_sign {c : UInt8} (h : isBlank c = true) (r : Bs) : signLen (c :: r) = 0 := by
  unfold isBlank at h
  simp only [Bool.or_eq_true, beq_iff_eq] at h
  have h1 : c ∉ twos := by rcases h with rfl | rfl <;> decide
  have h2 : c ∉ ones := by rcases h with rfl | rfl <;> decide
  show (if r.head? = some 61 ∧ c ∈ twos then 2 else if c ∈ ones then 1 else 0) = 0
  rw [if_neg (fun k => h1 k.2), if_neg h2]
theorem wide_len_tok (l : Bs) : tokLen (wide l) = tokLen l := by
  cases l with
  | nil => rfl
  | cons c l =>
    have r1 := wide_run (p := isLet) (fun c h => blank_let h) (c :: l)
    have r2 := wide_run (p := isDig) (fun c h => blank_dig h) (c :: l)
    cases h : isBlank c with
    | true =>
      rw [wide_blank h]
      simp [tokLen, blank_let h, blank_dig h, blank_sign h]
    | false =>
      rw [wide_plain h] at r1 r2 ⊢
      have r3 : signLen (c :: wide l) = signLen (c :: l) := by
        show (if (wide l).head? = some 61 ∧ c ∈ twos then 2 else if c ∈ ones then 1 else 0) = (if l.head? = some 61 ∧ c ∈ twos then 2 else if c ∈ ones then 1 else 0)
        rw [wide_head]
      simp only [tokLen, r1, r2, r3]
theorem wide_take : ∀ (n : Nat) (l : Bs), (∀ c ∈ l.take n, isBlank c = false) → (wide l).take n = l.take n ∧ (wide l).drop n = wide (l.drop n) := by
  intro n
  induction n with
  | zero => intro l _; exact ⟨rfl, rfl⟩
  | succ n ih =>
    intro l h
    cases l with
    | nil => exact ⟨rfl, rfl⟩
    | cons c l =>
      have hc := h c (by simp)
      obtain ⟨h1, h2⟩ := ih l (fun d hd => h d (by simp [hd]))
      rw [wide_plain hc]
      exact ⟨by simp [h1], by simp [h2]⟩
theorem mem_takeWhile {p : UInt8 → Bool} {l : Bs} {c : UInt8} (h : c ∈ l.takeWhile p) : p c = true := by
  induction l with
  | nil => cases h
  | cons d l ih =>
    cases hd : p d with
    | true =>
      simp only [List.takeWhile_cons, hd, if_true, List.mem_cons] at h
      rcases h with rfl | h
      · exact hd
      · exact ih h
    | false => simp [hd] at h
theorem take_headRun (p : UInt8 → Bool) (l : Bs) : l.take (headRun p l) = l.takeWhile p := by
  unfold headRun
  induction l with
  | nil => rfl
  | cons c l ih =>
    cases h : p c with
    | true => simp [h, ih]
    | false => simp [h]
theorem tok_plain (l : Bs) : ∀ c ∈ tok l, isBlank c = false := by
  intro c hc
  cases l with
  | nil => cases hc
  | cons d r =>
    unfold tok at hc
    cases h1 : isLet d with
    | true =>
      rw [show tokLen (d :: r) = headRun isLet (d :: r) by simp [tokLen, h1], take_headRun] at hc
      exact let_nb (mem_takeWhile hc)
    | false =>
      cases h2 : isDig d with
      | true =>
        rw [show tokLen (d :: r) = headRun isDig (d :: r) by simp [tokLen, h1, h2], take_headRun] at hc
        have := mem_takeWhile hc
        cases hb : isBlank c with
        | false => rfl
        | true => rw [blank_dig hb] at this; cases this
      | false =>
        rw [show tokLen (d :: r) = signLen (d :: r) by simp [tokLen, h1, h2]] at hc
        cases hb : isBlank d with
        | true => rw [blank_sign hb] at hc; cases hc
        | false =>
          have hs : signLen (d :: r) = (if r.head? = some 61 ∧ d ∈ twos then 2 else if d ∈ ones then 1 else 0) := rfl
          rw [hs] at hc
          split at hc
          · next hh =>
            cases r with
            | nil => cases hh.1
            | cons e r =>
              have : e = 61 := by have := hh.1; simpa using this
              subst this
              simp at hc
              rcases hc with rfl | rfl
              · exact hb
              · decide
          · split at hc
            · simp at hc; rw [hc]; exact hb
            · cases hc
theorem wide_tok (l : Bs) : tok (wide l) = tok l ∧ next (wide l) = wide (next l) := by
  obtain ⟨h1, h2⟩ := wide_take (tokLen l) l (tok_plain l)
  refine ⟨?_, ?_⟩
  · unfold tok; rw [wide_len_tok, h1]
  · unfold next; rw [wide_len_tok, h2, wide_skip]
theorem Toks.wide {ts : List Bs} : ∀ {l l1 : Bs}, Toks l ts l1 → Toks (wide l) ts (Sp.wide l1) := by
  induction ts with
  | nil => intro l l1 h; cases h; rfl
  | cons t ts ih =>
    intro l l1 h
    obtain ⟨e1, e2⟩ := wide_tok l
    exact ⟨e1.trans h.1, h.2.1, by rw [e2]; exact ih h.2.2⟩

/-- blanks do not matter: more of them -/
theorem print_wide (s t : Bs) (h : print s = .ok t) (hl : t.length ≤ 400) (hw : (wide t).length ≤ 400) : print (wide t) = .ok t := by
  have ha := print_again s t h hl
  unfold print at ha
  split at ha
  · next xs hp =>
    obtain ⟨ts, k, f⟩ := parse_like Pr hp
    have := f (wide t) hw (by rw [wide_skip]; exact k.wide)
    unfold print
    rw [this]
    exact ha
  · cases ha

end Sp
end Go.Proofs.YtiopfihjmkfdmaaGreatDoor

/- Fewer blanks: the same tokens, where tokens stand apart (plain mathematics). -/
namespace Go.Proofs.YtiopfihjmkfdmaaGreatDoor
namespace Sp

def headLet : Bs → Bool
  | d :: _ => isLet d
  | [] => false
def lastLet (a : Bs) : Bool := match a.getLast? with
  | some c => isLet c
  | none => false
/-- tight, a byte at a time: p: a letter stands ahead -/
def tightF : Bool → Bs → Bs
  | _, [] => []
  | p, c :: r => (if !isBlank c || (p && headLet r) then [c] else []) ++ tightF (isLet c) r

theorem keeps_mid (a : Bs) (c : UInt8) (r : Bs) : keeps (a ++ c :: r) a.length = (!isBlank c || (lastLet a && headLet r)) := by
  unfold keeps
  have h1 : (a ++ c :: r)[a.length]? = some c := by simp
  rw [h1]
  simp only
  congr 1
  have h2 : (a ++ c :: r).getD (a.length + 1) 0 = r.headD 0 := by
    cases r with
    | nil => simp [List.getD]
    | cons d r => simp [List.getD]
  rw [h2]
  have h3 : (decide (0 < a.length) && isLet ((a ++ c :: r).getD (a.length - 1) 0)) = lastLet a := by
    rcases List.eq_nil_or_concat a with rfl | ⟨a', d, rfl⟩
    · rfl
    · simp [lastLet, List.getD]
  have h4 : (decide (a.length + 1 < (a ++ c :: r).length) && isLet (r.headD 0)) = headLet r := by
    cases r with
    | nil => simp [headLet]
    | cons d r => simp [headLet]
  rw [← h3, ← h4]
  cases decide (0 < a.length) <;> cases decide (a.length + 1 < (a ++ c :: r).length) <;> simp

theorem tightTo_mid : ∀ (b a : Bs), tightTo (a ++ b) (a.length + b.length) = tightTo (a ++ b) a.length ++ tightF (lastLet a) b := by
  intro b
  induction b with
  | nil => intro a; simp [tightF]
  | cons c r ih =>
    intro a
    have h := ih (a ++ [c])
    rw [show a ++ [c] ++ r = a ++ c :: r by simp, show (a ++ [c]).length + r.length = a.length + (c :: r).length by simp; omega] at h
    rw [h, show (a ++ [c]).length = a.length + 1 by simp]
    have e : tightTo (a ++ c :: r) (a.length + 1) = tightTo (a ++ c :: r) a.length ++ (if keeps (a ++ c :: r) a.length then [(a ++ c :: r).getD a.length 0] else []) := rfl
    have g : (a ++ c :: r).getD a.length 0 = c := by simp [List.getD]
    have ll : lastLet (a ++ [c]) = isLet c := by simp [lastLet]
    rw [e, keeps_mid, g, ll, List.append_assoc]
    rfl
theorem tight_eq (l : Bs) : tight l = tightF false l := by
  have h := tightTo_mid l []
  simp only [List.nil_append, List.length_nil, Nat.zero_add] at h
  unfold tight
  rw [h]
  rfl

theorem tightF_plain : ∀ (t r : Bs) (p : Bool), t ≠ [] → (∀ c ∈ t, isBlank c = false) → tightF p (t ++ r) = t ++ tightF (lastLet t) r := by
  intro t
  induction t with
  | nil => intro r p h; exact absurd rfl h
  | cons c t ih =>
    intro r p _ h
    have hc := h c (by simp)
    cases t with
    | nil => simp [tightF, hc, lastLet]
    | cons d t =>
      have := ih r (isLet c) (by simp) (fun e he => h e (by simp [he]))
      have hl : lastLet (c :: d :: t) = lastLet (d :: t) := by simp [lastLet]
      rw [hl, List.cons_append, tightF, this, hc]
      simp
/-- nothing, or no blank first -/
def Fresh (n : Bs) : Prop := n = [] ∨ NB n
theorem Fresh.flag {n : Bs} (h : Fresh n) (p q : Bool) : tightF p n = tightF q n := by
  rcases h with rfl | ⟨c, r, rfl, hc⟩
  · rfl
  · simp [tightF, hc]
theorem Fresh.head {n : Bs} (h : Fresh n) (p : Bool) : (tightF p n).head? = n.head? := by
  rcases h with rfl | ⟨c, r, rfl, hc⟩
  · rfl
  · simp [tightF, hc]
theorem tightF_off : ∀ (b n : Bs), (∀ c ∈ b, isBlank c = true) → tightF false (b ++ n) = tightF false n := by
  intro b
  induction b with
  | nil => intro n _; rfl
  | cons c b ih =>
    intro n h
    have hc := h c (by simp)
    rw [List.cons_append, tightF, hc, blank_let hc, ih n (fun d hd => h d (by simp [hd]))]
    simp
theorem tightF_blanks (q : Bool) (b n : Bs) (hb : ∀ c ∈ b, isBlank c = true) (hn : Fresh n) (hw : (q && headLet n) = true → ∃ x, b = [x]) :
    tightF q (b ++ n) = (if (q && headLet n) = true then b else []) ++ tightF false n := by
  cases b with
  | nil =>
    rw [show (if (q && headLet n) = true then ([] : Bs) else []) = [] by split <;> rfl]
    exact hn.flag q false
  | cons c b =>
    have hc := hb c (by simp)
    by_cases hk : (q && headLet n) = true
    · obtain ⟨x, hx⟩ := hw hk
      cases hx
      rw [if_pos hk, List.cons_append, List.nil_append, tightF, hc, blank_let hc]
      simp [hk]
    · rw [if_neg hk, List.cons_append, tightF, hc, blank_let hc, tightF_off b n (fun d hd => hb d (by simp [hd]))]
      have h2 : (q && headLet (b ++ n)) = false := by
        cases b with
        | nil => simpa using hk
        | cons d b => simp [headLet, blank_let (hb d (by simp))]
      simp [h2]

end Sp
end Go.Proofs.YtiopfihjmkfdmaaGreatDoor

/- Fewer blanks: the same tokens, where tokens stand apart, second part (plain mathematics). -/
namespace Go.Proofs.YtiopfihjmkfdmaaGreatDoor
namespace Sp

theorem run_stop {p : UInt8 → Bool} {t n : Bs} (h : (t ++ n).take (headRun p (t ++ n)) = t) : (∀ c ∈ t, p c = true) ∧ ∀ c, n.head? = some c → p c = false := by
  rw [take_headRun] at h
  have ht : ∀ c ∈ t, p c = true := fun c hc => mem_takeWhile (by rw [h]; exact hc)
  refine ⟨ht, ?_⟩
  intro c hc
  cases n with
  | nil => cases hc
  | cons d n =>
    cases hc
    rw [List.takeWhile_append_of_pos ht] at h
    cases hp : p c with
    | false => rfl
    | true =>
      rw [List.takeWhile_cons, hp] at h
      have := congrArg List.length h
      simp at this
/-- where a token ends is told by the first byte behind it -/
theorem tok_head {t n n' : Bs} (h0 : t ≠ []) (h : tok (t ++ n) = t) (hh : n.head? = n'.head?) : tok (t ++ n') = t ∧ next (t ++ n') = skip n' := by
  cases t with
  | nil => exact absurd rfl h0
  | cons c t =>
    cases h1 : isLet c with
    | true =>
      have e : tokLen (c :: t ++ n) = headRun isLet (c :: t ++ n) := by simp [tokLen, h1]
      unfold tok at h
      rw [e] at h
      obtain ⟨a, b⟩ := run_stop h
      have := tok_word (t := c :: t) (r := n') h0 a (fun d hd => b d (hh.trans hd))
      exact ⟨this.1, this.2.1⟩
    | false =>
      cases h2 : isDig c with
      | true =>
        have e : tokLen (c :: t ++ n) = headRun isDig (c :: t ++ n) := by simp [tokLen, h1, h2]
        unfold tok at h
        rw [e] at h
        obtain ⟨a, b⟩ := run_stop h
        have := tok_digits (t := c :: t) (r := n') h0 a (fun d hd => b d (hh.trans hd))
        exact ⟨this.1, this.2.1⟩
      | false =>
        have e : tokLen (c :: t ++ n) = signLen (c :: (t ++ n)) := by simp [tokLen, h1, h2]
        have hs : signLen (c :: (t ++ n)) = (if (t ++ n).head? = some 61 ∧ c ∈ twos then 2 else if c ∈ ones then 1 else 0) := rfl
        unfold tok at h
        rw [e, hs] at h
        by_cases h3 : (t ++ n).head? = some 61 ∧ c ∈ twos
        · rw [if_pos h3] at h
          cases t with
          | nil =>
            simp only [List.nil_append] at h3
            cases n with
            | nil => cases h3.1
            | cons d n => simp at h
          | cons d t =>
            have hd : d = 61 := by have := h3.1; simpa using this
            subst hd
            have ht : t = [] := by
              have := congrArg List.length h
              simp only [List.length_take, List.length_cons, List.length_append] at this
              exact List.length_eq_zero_iff.1 (by omega)
            subst ht
            have := tok_two (c := c) (r := n') h3.2
            exact ⟨this.1, this.2.1⟩
        · rw [if_neg h3] at h
          by_cases h4 : c ∈ ones
          · rw [if_pos h4] at h
            have ht : t = [] := by
              have := congrArg List.length h
              simp only [List.length_take, List.length_cons, List.length_append] at this
              exact List.length_eq_zero_iff.1 (by omega)
            subst ht
            have := tok_one (c := c) (r := n') h4 (fun k e => h3 ⟨by simpa using hh.trans e, k⟩)
            exact ⟨this.1, this.2.1⟩
          · rw [if_neg h4] at h; cases h

/-- l's tokens stand apart: two words have one blank between them, and the others may be put together -/
def Sep : Bs → List Bs → Prop
  | _, [] => True
  | l, t :: ts => (∃ b, l = t ++ (b ++ next l) ∧ (∀ c ∈ b, isBlank c = true) ∧ ((lastLet t && headLet (next l)) = true → ∃ x, b = [x])) ∧ ((lastLet t && headLet (next l)) = false → tok (t ++ next l) = t) ∧ Sep (next l) ts

theorem skip_fresh (l : Bs) : Fresh (skip l) := by
  cases h : skip l with
  | nil => exact .inl rfl
  | cons c r =>
    refine .inr ⟨c, r, rfl, ?_⟩
    cases hb : isBlank c with
    | false => rfl
    | true =>
      have := skip_skip l
      rw [h] at this
      have e : skip (c :: r) = skip r := by simp [skip, hb]
      rw [e] at this
      have h2 := skip_len r
      rw [this] at h2
      simp at h2
      omega
theorem Fresh.skip {n : Bs} (h : Fresh n) : skip n = n := by
  rcases h with rfl | ⟨c, r, rfl, hc⟩
  · rfl
  · exact skip_nb _ hc
theorem Fresh.tight {n : Bs} (h : Fresh n) (p : Bool) : Fresh (tightF p n) := by
  rcases h with rfl | ⟨c, r, rfl, hc⟩
  · exact .inl rfl
  · exact .inr ⟨c, tightF (isLet c) r, by simp [tightF, hc], hc⟩

theorem Toks.tight {ts : List Bs} : ∀ {l : Bs} (p : Bool), Toks l ts [] → Sep l ts → Toks (tightF p l) ts [] := by
  induction ts with
  | nil => intro l p h _; cases h; rfl
  | cons t ts ih =>
    intro l p h hs
    obtain ⟨h1, h2, h3⟩ := h
    obtain ⟨⟨b, hl, hb, hw⟩, hj, hr⟩ := hs
    have hn : Fresh (next l) := skip_fresh _
    generalize hN : next l = n at *
    have hpl : ∀ c ∈ t, isBlank c = false := by rw [← h1]; exact tok_plain l
    have e : tightF p l = t ++ ((if (lastLet t && headLet n) = true then b else []) ++ tightF false n) := by
      rw [hl, tightF_plain t _ p h2 hpl, tightF_blanks _ b n hb hn hw]
    have ih' := ih false h3 hr
    rw [e]
    by_cases hk : (lastLet t && headLet n) = true
    · obtain ⟨x, rfl⟩ := hw hk
      rw [if_pos hk]
      have hx := hb x (by simp)
      have hh := tok_head (t := t) (n := [x] ++ n) (n' := [x] ++ tightF false n) h2 (by rw [← hl]; exact h1) rfl
      refine ⟨hh.1, h2, ?_⟩
      rw [hh.2]
      have : Sp.skip ([x] ++ tightF false n) = Sp.skip (tightF false n) := by simp [Sp.skip, hx]
      rw [this, (hn.tight false).skip]
      exact ih'
    · rw [if_neg hk, List.nil_append]
      have hh := tok_head (t := t) (n := n) (n' := tightF false n) h2 (hj (by simpa using hk)) (hn.head false).symm
      refine ⟨hh.1, h2, ?_⟩
      rw [hh.2, (hn.tight false).skip]
      exact ih'

end Sp
end Go.Proofs.YtiopfihjmkfdmaaGreatDoor

/- What holds of all that is built holds of what is read (plain mathematics). -/
namespace Go.Proofs.YtiopfihjmkfdmaaGreatDoor
namespace Sp

structure Sums (P : Nat × Bs → Prop) : Prop where
  num : ∀ n, n ≤ 32767 → P (Pr.num n)
  name : ∀ k, k < 8 → P (Pr.name k)
  neg : ∀ x, P x → P (Pr.neg x)
  bin : ∀ k x y, k < 5 → P x → P y → P (Pr.bin k x y)

theorem pChain_all {P : Nat × Bs → Prop} (H : Sums P) {lv : Nat} {u : Bs → R Pr.S} (hu : ∀ l x l', u l = .ok (x, l') → P x) : ∀ m (x : Pr.S) l (y : Pr.S) l', P x → pChain Pr lv u m x l = .ok (y, l') → P y := by
  intro m
  induction m with
  | zero => intro x l y l' hx h; cases h; exact hx
  | succ m ih =>
    intro x l y l' hx h
    rw [pChain_succ Pr lv u m x l] at h
    split at h
    · next k hk =>
      split at h
      · split at h
        · next z l1 hz => exact ih _ _ _ _ (H.bin k x z (opOf_lt hk) hx (hu _ _ _ hz)) h
        · cases h
      · cases h; exact hx
    · cases h; exact hx
theorem pWith_all {P : Nat × Bs → Prop} (H : Sums P) {lv : Nat} {u : Bs → R Pr.S} (hu : ∀ l x l', u l = .ok (x, l') → P x) : ∀ l x l', pWith Pr lv u l = .ok (x, l') → P x := by
  intro l x l' h
  unfold pWith at h
  split at h
  · next y l1 hy => exact pChain_all H hu _ _ _ _ _ (hu _ _ _ hy) h
  · cases h
theorem pSum_all {P : Nat × Bs → Prop} (H : Sums P) {u : Bs → R Pr.S} (hu : ∀ l x l', u l = .ok (x, l') → P x) : ∀ l x l', pSum Pr u l = .ok (x, l') → P x :=
  pWith_all H (pWith_all H hu)
theorem pUnary_all {P : Nat × Bs → Prop} (H : Sums P) : ∀ n o l x l', pUnary Pr n o l = .ok (x, l') → P x := by
  intro n
  induction n with
  | zero => intro o l x l' h; cases h
  | succ n ih =>
    intro o l x l' h
    unfold pUnary at h
    split at h
    · split at h
      · next v hv => cases h; exact H.num v (numVal_le hv)
      · cases h
    · split at h
      · split at h
        · next k l1 hk => cases h; exact H.name k (pName_lt8 hk)
        · cases h
      · split at h
        · split at h
          · split at h
            · next y l2 hy => cases h; exact H.neg y (ih _ _ _ _ hy)
            · cases h
          · cases h
        · split at h
          · split at h
            · next y l2 hy =>
              split at h
              · cases h; exact pSum_all H (ih _) _ _ _ hy
              · cases h
            · cases h
          · cases h
theorem pS_all {P : Nat × Bs → Prop} (H : Sums P) {o : Nat} {l : Bs} {x : Nat × Bs} {l' : Bs} (h : pS Pr o l = .ok (x, l')) : P x := pSum_all H (pUnary_all H _ _) _ _ _ h
theorem pCond_all {P : Nat × Bs → Prop} (H : Sums P) {o : Nat} {l : Bs} {k : Nat} {x y : Nat × Bs} {l' : Bs} (h : pCond Pr o l = .ok ((k, x, y), l')) : k < 6 ∧ P x ∧ P y := by
  unfold pCond at h
  split at h
  · next x1 l1 hx =>
    split at h
    · next k1 hk =>
      split at h
      · next y1 l2 hy => cases h; exact ⟨relOf_lt hk, pS_all H hx, pS_all H hy⟩
      · cases h
    · cases h
  · cases h

structure Stmts (P : Nat × Bs → Prop) (Q : (Nat → Bs) → Prop) : Prop where
  s : Sums P
  assign : ∀ k x, k < 8 → P x → Q (Pr.assign k x)
  read : ∀ k, k < 8 → Q (Pr.read k)
  assert : ∀ k x y, k < 6 → P x → P y → Q (Pr.assert k x y)
  ite : ∀ k x y xs, k < 6 → P x → P y → (∀ z ∈ xs, Q z) → Q (Pr.ite k x y xs none)
  iteElse : ∀ k x y xs ys, k < 6 → P x → P y → (∀ z ∈ xs, Q z) → (∀ z ∈ ys, Q z) → Q (Pr.ite k x y xs (some ys))
  loop : ∀ k x y xs, k < 6 → P x → P y → (∀ z ∈ xs, Q z) → Q (Pr.loop k x y xs)

theorem pStmt_all {P : Nat × Bs → Prop} {Q : (Nat → Bs) → Prop} (H : Stmts P Q) : ∀ n o l x l', pStmt Pr n o l = .ok (x, l') → Q x := by
  intro n
  induction n with
  | zero => intro o l x l' h; cases h
  | succ n ih =>
    intro o l x l' h
    unfold pStmt at h
    split at h
    · unfold pRead at h
      split at h
      · next k l1 hk =>
        split at h
        · cases h; exact H.read k (pName_lt8 hk)
        · cases h
      · cases h
    · split at h
      · unfold pAssert at h
        split at h
        · next k x1 y1 l1 hc =>
          split at h
          · cases h
            obtain ⟨h1, h2, h3⟩ := pCond_all H.s hc
            exact H.assert _ _ _ h1 h2 h3
          · cases h
        · cases h
      · split at h
        · unfold pIf at h
          split at h
          · next k x1 y1 l1 hc =>
            obtain ⟨h1, h2, h3⟩ := pCond_all H.s hc
            split at h
            · next xs l2 hb =>
              have h5 := pBlock_all (P := Q) (fun l x l' h => ih _ _ _ _ h) hb
              split at h
              · split at h
                · next ys l3 hb2 =>
                  cases h
                  exact H.iteElse _ _ _ _ _ h1 h2 h3 h5 (pBlock_all (P := Q) (fun l x l' h => ih _ _ _ _ h) hb2)
                · cases h
              · cases h; exact H.ite _ _ _ _ h1 h2 h3 h5
            · cases h
          · cases h
        · split at h
          · unfold pWhile at h
            split at h
            · next k x1 y1 l1 hc =>
              obtain ⟨h1, h2, h3⟩ := pCond_all H.s hc
              split at h
              · next xs l2 hb =>
                cases h
                exact H.loop _ _ _ _ h1 h2 h3 (pBlock_all (P := Q) (fun l x l' h => ih _ _ _ _ h) hb)
              · cases h
            · cases h
          · unfold pAssign at h
            split at h
            · next k l1 hk =>
              split at h
              · split at h
                · next x1 l3 hx =>
                  split at h
                  · cases h; exact H.assign _ _ (pName_lt8 hk) (pS_all H.s hx)
                  · cases h
                · cases h
              · cases h
            · cases h
theorem parse_all {P : Nat × Bs → Prop} {Q : (Nat → Bs) → Prop} (H : Stmts P Q) {s : Bs} {xs : List Pr.T} (h : parse Pr s = .ok xs) : ∀ x ∈ xs, Q x := by
  unfold parse at h
  split at h
  · cases h
  · split at h
    · next ys hp =>
      cases h
      unfold pProg at hp
      split at hp
      · next zs l1 hm =>
        split at hp
        · cases hp
          exact pMany_all (P := Q) (fun l x l' h => pStmt_all H _ _ _ _ _ h) _ _ _ _ _ (fun x hx => by cases hx) hm
        · cases hp
      · cases hp
    · cases h

end Sp
end Go.Proofs.YtiopfihjmkfdmaaGreatDoor

/- The tokens of what was written stand apart: sums (plain mathematics). -/
namespace Go.Proofs.YtiopfihjmkfdmaaGreatDoor
namespace Sp

def TS (l : Bs) (ts : List Bs) (l1 : Bs) : Prop := Toks l ts l1 ∧ Sep l ts
theorem Sep.app {ts : List Bs} : ∀ {us : List Bs} {l l1 : Bs}, Toks l ts l1 → Sep l ts → Sep l1 us → Sep l (ts ++ us) := by
  induction ts with
  | nil => intro us l l1 h _ k; cases h; exact k
  | cons t ts ih => intro us l l1 h s k; exact ⟨s.1, s.2.1, ih h.2.2 s.2.2 k⟩
theorem TS.app {ts us : List Bs} {l l1 l2 : Bs} (h : TS l ts l1) (k : TS l1 us l2) : TS l (ts ++ us) l2 := ⟨h.1.app k.1, Sep.app h.1 h.2 k.2⟩
theorem skip_blanks {b n : Bs} (hb : ∀ c ∈ b, isBlank c = true) (hn : Fresh n) : skip (b ++ n) = n := by
  induction b with
  | nil => exact hn.skip
  | cons c b ih =>
    have hc := hb c (by simp)
    have e : skip (c :: b ++ n) = skip (b ++ n) := by simp [skip, hc]
    rw [e, ih (fun d hd => hb d (by simp [hd]))]
theorem TS.one {t b n : Bs} (ht : t ≠ []) (hb : ∀ c ∈ b, isBlank c = true) (hn : Fresh n) (h : tok (t ++ (b ++ n)) = t)
    (hw : (lastLet t && headLet n) = true → ∃ x, b = [x]) (hj : (lastLet t && headLet n) = false → tok (t ++ n) = t) : TS (t ++ (b ++ n)) [t] n := by
  have e : next (t ++ (b ++ n)) = n := by rw [(tok_head ht h rfl).2]; exact skip_blanks hb hn
  refine ⟨⟨h, ht, e⟩, ⟨b, by rw [e], hb, by rw [e]; exact hw⟩, by rw [e]; exact hj, trivial⟩
theorem blank_ne61 {c : UInt8} (h : isBlank c = true) : c ≠ 61 := by intro e; subst e; cases h
theorem head_mid {b n : Bs} (hb : ∀ c ∈ b, isBlank c = true) (hn : n.head? ≠ some 61) : (b ++ n).head? ≠ some 61 := by
  cases b with
  | nil => exact hn
  | cons c b => intro e; simp at e; exact blank_ne61 (hb c (by simp)) e
theorem TS.sign {c : UInt8} {b n : Bs} (hc : c ∈ ones) (hb : ∀ c ∈ b, isBlank c = true) (hn : Fresh n) (h2 : c ∈ twos → n.head? ≠ some 61) : TS (c :: (b ++ n)) [[c]] n := by
  have hl : lastLet [c] = false := (ones_plain c hc).1
  exact TS.one (t := [c]) (by simp) hb hn (tok_one hc (fun k => head_mid hb (h2 k))).1 (by rw [hl]; intro h; cases h) (fun _ => (tok_one hc h2).1)
theorem TS.two {c : UInt8} {b n : Bs} (hc : c ∈ twos) (hb : ∀ c ∈ b, isBlank c = true) (hn : Fresh n) : TS (c :: 61 :: (b ++ n)) [[c, 61]] n := by
  have hl : lastLet [c, 61] = false := by simp [lastLet]; decide
  exact TS.one (t := [c, 61]) (by simp) hb hn (tok_two hc).1 (by rw [hl]; intro h; cases h) (fun _ => (tok_two hc).1)
theorem headLet_false {n : Bs} (h : headLet n = false) : ∀ c, n.head? = some c → isLet c = false := by
  intro c hc
  cases n with
  | nil => cases hc
  | cons d n => cases hc; exact h
theorem TS.word {w b n : Bs} (h0 : w ≠ []) (hl : ∀ c ∈ w, isLet c = true) (hb : ∀ c ∈ b, isBlank c = true) (hn : Fresh n) (hw : headLet n = true → ∃ x, b = [x]) : TS (w ++ (b ++ n)) [w] n := by
  refine TS.one h0 hb hn (tok_word h0 hl ?_).1 ?_ ?_
  · cases b with
    | nil =>
      cases hh : headLet n with
      | true => obtain ⟨x, hx⟩ := hw hh; cases hx
      | false => exact headLet_false hh
    | cons c b => intro d hd; cases hd; exact blank_let (hb c (by simp))
  · intro h; exact hw (by simp at h; exact h.2)
  · intro h
    have hll : lastLet w = true := by
      unfold lastLet
      cases hg : w.getLast? with
      | none => simp at hg; exact absurd hg h0
      | some c => exact hl c (List.mem_of_getLast? hg)
    rw [hll] at h
    exact (tok_word h0 hl (headLet_false (by simpa using h))).1
theorem TS.digits {t b n : Bs} (h0 : t ≠ []) (hl : ∀ c ∈ t, isDig c = true) (hb : ∀ c ∈ b, isBlank c = true) (hn : Fresh n) (hd : ∀ c, n.head? = some c → isDig c = false) : TS (t ++ (b ++ n)) [t] n := by
  refine TS.one h0 hb hn (tok_digits h0 hl ?_).1 ?_ (fun _ => (tok_digits h0 hl hd).1)
  · cases b with
    | nil => exact hd
    | cons c b => intro d hd; cases hd; exact blank_dig (hb c (by simp))
  · intro h
    have hll : lastLet t = false := by
      unfold lastLet
      cases hg : t.getLast? with
      | none => rfl
      | some c => exact let_not_dig (hl c (List.mem_of_getLast? hg))
    rw [hll] at h; cases h

/-- what a sum may be followed by -/
def Nx (r : Bs) : Prop := ∀ c, (skip r).head? = some c → isLet c = false ∧ isDig c = false
theorem blanks_of (r : Bs) : r = r.takeWhile isBlank ++ skip r := (List.takeWhile_append_dropWhile).symm
theorem blanks_all (r : Bs) : ∀ c ∈ r.takeWhile isBlank, isBlank c = true := fun _ h => mem_takeWhile h
structure VT (t : Bs) : Prop where
  nb : NB t
  ne : t.head? ≠ some 61
  ts : ∃ ts, ∀ r, Nx r → TS (t ++ r) ts (skip r)
theorem Nx.let {r : Bs} (h : Nx r) : headLet (skip r) = false := by
  cases hs : skip r with
  | nil => rfl
  | cons c s => exact (h c (by rw [hs]; rfl)).1
theorem nx_of {c : UInt8} {r : Bs} (h : skip r = c :: r.tail ∨ ∃ s, skip r = c :: s) (hl : isLet c = false) (hd : isDig c = false) : Nx r := by
  intro d hd'
  rcases h with h | ⟨s, h⟩ <;> (rw [h] at hd'; cases hd'; exact ⟨hl, hd⟩)

theorem VT.name {k : Nat} (hk : k < 8) : VT (letter k) := by
  refine ⟨letter_nb hk, ?_, [letter k], ?_⟩
  · match k, hk with
    | 0, _ => decide
    | 1, _ => decide
    | 2, _ => decide
    | 3, _ => decide
    | 4, _ => decide
    | 5, _ => decide
    | 6, _ => decide
    | 7, _ => decide
  · intro r hr
    have := TS.word (w := letter k) (b := r.takeWhile isBlank) (n := skip r) (by simp [letter]) (letter_let hk) (blanks_all r) (skip_fresh r) (by rw [hr.let]; intro h; cases h)
    rw [← blanks_of r] at this
    exact this
theorem VT.num {n : Nat} (hn : n ≤ 32767) : VT (digits n) := by
  obtain ⟨h1, h2, _⟩ := digits_spec hn
  refine ⟨digits_nb hn, ?_, [digits n], ?_⟩
  · intro e
    cases hd : digits n with
    | nil => exact h1 hd
    | cons c r =>
      rw [hd] at e; cases e
      have := h2 61 (by rw [hd]; simp)
      cases this
  · intro r hr
    have := TS.digits (t := digits n) (b := r.takeWhile isBlank) (n := skip r) h1 h2 (blanks_all r) (skip_fresh r) (fun c hc => (hr c hc).2)
    rw [← blanks_of r] at this
    exact this
theorem VT.bracket {t : Bs} (h : VT t) : VT ([40] ++ t ++ [41]) := by
  obtain ⟨ts, f⟩ := h.ts
  refine ⟨⟨40, t ++ [41], by simp, by decide⟩, by simp, [[40]] ++ (ts ++ [[41]]), ?_⟩
  intro r _
  rw [show [40] ++ t ++ [41] ++ r = 40 :: ([] ++ (t ++ 41 :: r)) by simp]
  have hsk : skip (41 :: r) = 41 :: r := skip_nb _ (by decide)
  have h1 := TS.sign (c := 40) (b := []) (n := t ++ 41 :: r) (by decide) (fun c hc => by cases hc) (.inr (h.nb.app _)) (fun k => absurd k (by decide))
  have h2 := f (41 :: r) (nx_of (c := 41) (.inr ⟨r, hsk⟩) (by decide) (by decide))
  rw [hsk] at h2
  have h3 := TS.sign (c := 41) (b := r.takeWhile isBlank) (n := skip r) (by decide) (blanks_all r) (skip_fresh r) (fun k => absurd k (by decide))
  rw [← blanks_of r] at h3
  exact h1.app (h2.app h3)
theorem VT.part {x : Nat × Bs} (h : VT x.2) (lv : Nat) : VT (part x lv) := by
  unfold Sp.part; split
  · exact h.bracket
  · exact h
theorem VT.neg {t : Bs} (h : VT t) : VT ([45] ++ t) := by
  obtain ⟨ts, f⟩ := h.ts
  refine ⟨⟨45, t, rfl, by decide⟩, by simp, [[45]] ++ ts, ?_⟩
  intro r hr
  rw [show [45] ++ t ++ r = 45 :: ([] ++ (t ++ r)) by simp]
  have h1 := TS.sign (c := 45) (b := []) (n := t ++ r) (by decide) (fun c hc => by cases hc) (.inr (h.nb.app _)) (fun k => absurd k (by decide))
  exact h1.app (f r hr)
theorem one32 : ∀ c ∈ ([32] : Bs), isBlank c = true := by decide
theorem VT.op {t u : Bs} (c : UInt8) (hc : c ∈ ones) (h2 : c ∉ twos) (hbl : isBlank c = false) (h : VT t) (k : VT u) : VT (t ++ [32] ++ [c] ++ [32] ++ u) := by
  obtain ⟨ts, f⟩ := h.ts
  obtain ⟨us, g⟩ := k.ts
  refine ⟨(((h.nb.app _).app _).app _).app _, ?_, ts ++ ([[c]] ++ us), ?_⟩
  · obtain ⟨d, t', e, _⟩ := h.nb
    have := h.ne
    rw [e] at this ⊢
    simpa using this
  · intro r hr
    rw [show t ++ [32] ++ [c] ++ [32] ++ u ++ r = t ++ (32 :: c :: ([32] ++ (u ++ r))) by simp]
    have hsk : skip (32 :: c :: ([32] ++ (u ++ r))) = c :: ([32] ++ (u ++ r)) := (skip_32 _).trans (skip_nb _ hbl)
    have h1 := f (32 :: c :: ([32] ++ (u ++ r))) (nx_of (c := c) (.inr ⟨_, hsk⟩) (ones_plain c hc).1 (ones_plain c hc).2)
    rw [hsk] at h1
    exact h1.app ((TS.sign hc one32 (.inr (k.nb.app _)) (fun q => absurd q h2)).app (g r hr))

theorem VT.sums : Sums (fun x => VT x.2) where
  num n hn := VT.num hn
  name k hk := VT.name hk
  neg x hx := VT.neg (VT.part hx 2)
  bin k x y hk hx hy := by
    show VT (Sp.part x (opLevel k) ++ [32] ++ opSign k ++ [32] ++ Sp.part y (opLevel k + 1))
    have hx' := VT.part hx (opLevel k)
    have hy' := VT.part hy (opLevel k + 1)
    match k, hk with
    | 0, _ => exact VT.op 43 (by decide) (by decide) (by decide) hx' hy'
    | 1, _ => exact VT.op 45 (by decide) (by decide) (by decide) hx' hy'
    | 2, _ => exact VT.op 42 (by decide) (by decide) (by decide) hx' hy'
    | 3, _ => exact VT.op 47 (by decide) (by decide) (by decide) hx' hy'
    | 4, _ => exact VT.op 37 (by decide) (by decide) (by decide) hx' hy'

end Sp
end Go.Proofs.YtiopfihjmkfdmaaGreatDoor

/- The tokens of what was written stand apart: statements; so fewer blanks do not matter (plain mathematics). -/
namespace Go.Proofs.YtiopfihjmkfdmaaGreatDoor
namespace Sp

theorem VT.head_app {t : Bs} (h : VT t) (r : Bs) : (t ++ r).head? ≠ some 61 := by
  obtain ⟨d, t', e, _⟩ := h.nb
  have := h.ne
  rw [e] at this ⊢
  simpa using this
theorem VT.rel1 {t u : Bs} (c : UInt8) (hc : c ∈ ones) (hbl : isBlank c = false) (h : VT t) (k : VT u) : VT (t ++ [32] ++ [c] ++ [32] ++ u) := by
  obtain ⟨ts, f⟩ := h.ts
  obtain ⟨us, g⟩ := k.ts
  refine ⟨(((h.nb.app _).app _).app _).app _, ?_, ts ++ ([[c]] ++ us), ?_⟩
  · rw [show t ++ [32] ++ [c] ++ [32] ++ u = t ++ ([32] ++ [c] ++ [32] ++ u) by simp]; exact h.head_app _
  · intro r hr
    rw [show t ++ [32] ++ [c] ++ [32] ++ u ++ r = t ++ (32 :: c :: ([32] ++ (u ++ r))) by simp]
    have hsk : skip (32 :: c :: ([32] ++ (u ++ r))) = c :: ([32] ++ (u ++ r)) := (skip_32 _).trans (skip_nb _ hbl)
    have h1 := f (32 :: c :: ([32] ++ (u ++ r))) (nx_of (c := c) (.inr ⟨_, hsk⟩) (ones_plain c hc).1 (ones_plain c hc).2)
    rw [hsk] at h1
    exact h1.app ((TS.sign hc one32 (.inr (k.nb.app _)) (fun _ => k.head_app r)).app (g r hr))
theorem VT.rel2 {t u : Bs} (c : UInt8) (hc : c ∈ twos) (hbl : isBlank c = false) (h : VT t) (k : VT u) : VT (t ++ [32] ++ [c, 61] ++ [32] ++ u) := by
  obtain ⟨ts, f⟩ := h.ts
  obtain ⟨us, g⟩ := k.ts
  refine ⟨(((h.nb.app _).app _).app _).app _, ?_, ts ++ ([[c, 61]] ++ us), ?_⟩
  · rw [show t ++ [32] ++ [c, 61] ++ [32] ++ u = t ++ ([32] ++ [c, 61] ++ [32] ++ u) by simp]; exact h.head_app _
  · intro r hr
    rw [show t ++ [32] ++ [c, 61] ++ [32] ++ u ++ r = t ++ (32 :: c :: 61 :: ([32] ++ (u ++ r))) by simp]
    have hsk : skip (32 :: c :: 61 :: ([32] ++ (u ++ r))) = c :: 61 :: ([32] ++ (u ++ r)) := (skip_32 _).trans (skip_nb _ hbl)
    have h1 := f (32 :: c :: 61 :: ([32] ++ (u ++ r))) (nx_of (c := c) (.inr ⟨_, hsk⟩) (twos_plain c hc).1 (twos_plain c hc).2)
    rw [hsk] at h1
    exact h1.app ((TS.two hc one32 (.inr (k.nb.app _))).app (g r hr))
theorem VT.cond {k : Nat} {x y : Nat × Bs} (hk : k < 6) (hx : VT x.2) (hy : VT y.2) : VT (condText k x y) := by
  show VT (x.2 ++ [32] ++ relSign k ++ [32] ++ y.2)
  match k, hk with
  | 0, _ => exact VT.rel1 60 (by decide) (by decide) hx hy
  | 1, _ => exact VT.rel2 60 (by decide) (by decide) hx hy
  | 2, _ => exact VT.rel2 61 (by decide) (by decide) hx hy
  | 3, _ => exact VT.rel2 33 (by decide) (by decide) hx hy
  | 4, _ => exact VT.rel2 62 (by decide) (by decide) hx hy
  | 5, _ => exact VT.rel1 62 (by decide) (by decide) hx hy

theorem end_ts (c : UInt8) (hc : c ∈ ones) (h2 : c ∉ twos) (r : Bs) : TS (c :: r) [[c]] (skip r) := by
  have h3 := TS.sign (c := c) (b := r.takeWhile isBlank) (n := skip r) hc (blanks_all r) (skip_fresh r) (fun k => absurd k h2)
  rw [← blanks_of r] at h3
  exact h3
theorem semi_ts (r : Bs) : TS (59 :: 10 :: r) [[59]] (skip r) := by
  have := end_ts 59 (by decide) (by decide) (10 :: r)
  rw [skip_10] at this; exact this
theorem nx_semi (r : Bs) : Nx (59 :: 10 :: r) := nx_of (c := 59) (.inr ⟨_, skip_nb _ (by decide)⟩) (by decide) (by decide)
theorem nx_brace (r : Bs) : Nx (32 :: 123 :: 10 :: r) := nx_of (c := 123) (.inr ⟨_, (skip_32 _).trans (skip_nb _ (by decide))⟩) (by decide) (by decide)

def Q (x : Nat → Bs) : Prop := ∀ d, ∃ ts, ∀ r, TS (skip (x d ++ r)) ts (skip r)
theorem Q.linesTS : ∀ xs, (∀ x ∈ xs, Q x) → ∀ d, ∃ ts, ∀ r, TS (skip (lines d xs ++ r)) ts (skip r) := by
  intro xs
  induction xs with
  | nil => intro _ d; exact ⟨[], fun r => ⟨rfl, trivial⟩⟩
  | cons x xs ih =>
    intro h d
    obtain ⟨ts, f⟩ := h x (by simp) d
    obtain ⟨us, g⟩ := ih (fun z hz => h z (by simp [hz])) d
    refine ⟨ts ++ us, fun r => ?_⟩
    rw [lines_cons, List.append_assoc]
    exact (f _).app (g r)
theorem Q.word {x : Nat → Bs} (w : Bs) (tail : Nat → Bs) (h0 : w ≠ []) (hl : ∀ c ∈ w, isLet c = true) (hx : ∀ d, x d = pad d ++ w ++ [32] ++ tail d)
    (hn : ∀ d, NB (tail d)) (ht : ∀ d, ∃ ts, ∀ r, TS (tail d ++ r) ts (skip r)) : Q x := by
  intro d
  obtain ⟨ts, f⟩ := ht d
  refine ⟨[w] ++ ts, fun r => ?_⟩
  have e : skip (x d ++ r) = w ++ ([32] ++ (tail d ++ r)) := by
    rw [hx, show (pad d ++ w ++ [32] ++ tail d) ++ r = pad d ++ (w ++ ([32] ++ (tail d ++ r))) by simp, skip_pad]
    exact (word_nb h0 hl).skip _
  rw [e]
  exact (TS.word h0 hl one32 (.inr ((hn d).app _)) (fun _ => ⟨32, rfl⟩)).app (f r)
theorem Q.assign {k : Nat} {x : Nat × Bs} (hk : k < 8) (hx : VT x.2) : Q (Pr.assign k x) := by
  intro d
  obtain ⟨ts, f⟩ := hx.ts
  refine ⟨[letter k] ++ ([[61]] ++ (ts ++ [[59]])), fun r => ?_⟩
  have e : skip (Pr.assign k x d ++ r) = letter k ++ ([32] ++ (61 :: ([32] ++ (x.2 ++ 59 :: 10 :: r)))) := by
    show skip ((pad d ++ letter k ++ [32, 61, 32] ++ x.2 ++ [59, 10]) ++ r) = _
    rw [show (pad d ++ letter k ++ [32, 61, 32] ++ x.2 ++ [59, 10]) ++ r = pad d ++ (letter k ++ ([32] ++ (61 :: ([32] ++ (x.2 ++ 59 :: 10 :: r))))) by simp, skip_pad]
    exact (letter_nb hk).skip _
  rw [e]
  have h1 := TS.word (w := letter k) (b := [32]) (n := 61 :: ([32] ++ (x.2 ++ 59 :: 10 :: r))) (by simp [letter]) (letter_let hk) one32 (.inr ⟨61, _, rfl, by decide⟩) (fun _ => ⟨32, rfl⟩)
  have h2 := TS.sign (c := 61) (b := [32]) (n := x.2 ++ 59 :: 10 :: r) (by decide) one32 (.inr (hx.nb.app _)) (fun _ => hx.head_app _)
  have h3 := f (59 :: 10 :: r) (nx_semi r)
  rw [skip_nb _ (by decide)] at h3
  exact h1.app (h2.app (h3.app (semi_ts r)))
theorem tail_semi {t : Bs} (h : VT t) : ∃ ts, ∀ r, TS (t ++ [59, 10] ++ r) ts (skip r) := by
  obtain ⟨ts, f⟩ := h.ts
  refine ⟨ts ++ [[59]], fun r => ?_⟩
  rw [show t ++ [59, 10] ++ r = t ++ 59 :: 10 :: r by simp]
  have h3 := f (59 :: 10 :: r) (nx_semi r)
  rw [skip_nb _ (by decide)] at h3
  exact h3.app (semi_ts r)
theorem Q.read {k : Nat} (hk : k < 8) : Q (Pr.read k) := by
  refine Q.word wRead (fun _ => letter k ++ [59, 10]) (by decide) (by decide) (fun d => ?_) (fun _ => (letter_nb hk).app _) (fun _ => tail_semi (VT.name hk))
  show pad d ++ [114, 101, 97, 100, 32] ++ letter k ++ [59, 10] = _
  simp [wRead]
theorem Q.assert {k : Nat} {x y : Nat × Bs} (hk : k < 6) (hx : VT x.2) (hy : VT y.2) : Q (Pr.assert k x y) := by
  refine Q.word wAssert (fun _ => condText k x y ++ [59, 10]) (by decide) (by decide) (fun d => ?_) (fun _ => (VT.cond hk hx hy).nb.app _) (fun _ => tail_semi (VT.cond hk hx hy))
  show pad d ++ [97, 115, 115, 101, 114, 116, 32] ++ condText k x y ++ [59, 10] = _
  simp [wAssert]
/-- a block from its brace on -/
theorem block_ts {xs : List (Nat → Bs)} (h : ∀ x ∈ xs, Q x) (d : Nat) : ∃ ts, ∀ r, TS (123 :: 10 :: (lines (d + 1) xs ++ (pad d ++ 125 :: r))) ts (skip r) := by
  obtain ⟨ts, f⟩ := Q.linesTS xs h (d + 1)
  refine ⟨[[123]] ++ (ts ++ [[125]]), fun r => ?_⟩
  have h1 := end_ts 123 (by decide) (by decide) (10 :: (lines (d + 1) xs ++ (pad d ++ 125 :: r)))
  rw [skip_10] at h1
  have h2 := f (pad d ++ 125 :: r)
  rw [skip_pad, skip_nb (c := 125) r (by decide)] at h2
  exact h1.app (h2.app (end_ts 125 (by decide) (by decide) r))
theorem tail_block {t : Bs} (h : VT t) {xs : List (Nat → Bs)} (hxs : ∀ x ∈ xs, Q x) (d : Nat) : ∃ ts, ∀ r, TS (t ++ [32, 123, 10] ++ lines (d + 1) xs ++ pad d ++ [125, 10] ++ r) ts (skip r) := by
  obtain ⟨ts, f⟩ := h.ts
  obtain ⟨us, g⟩ := block_ts hxs d
  refine ⟨ts ++ us, fun r => ?_⟩
  rw [show t ++ [32, 123, 10] ++ lines (d + 1) xs ++ pad d ++ [125, 10] ++ r = t ++ 32 :: 123 :: 10 :: (lines (d + 1) xs ++ (pad d ++ 125 :: (10 :: r))) by simp]
  have h1 := f _ (nx_brace (lines (d + 1) xs ++ (pad d ++ 125 :: (10 :: r))))
  rw [(brace _).1] at h1
  have h2 := g (10 :: r)
  rw [skip_10] at h2
  exact h1.app h2
theorem Q.loop {k : Nat} {x y : Nat × Bs} {xs : List (Nat → Bs)} (hk : k < 6) (hx : VT x.2) (hy : VT y.2) (hxs : ∀ z ∈ xs, Q z) : Q (Pr.loop k x y xs) := by
  refine Q.word wWhile (fun d => condText k x y ++ [32, 123, 10] ++ lines (d + 1) xs ++ pad d ++ [125, 10]) (by decide) (by decide) (fun d => ?_) (fun _ => (((((VT.cond hk hx hy).nb.app _).app _).app _).app _)) (fun d => tail_block (VT.cond hk hx hy) hxs d)
  show pad d ++ [119, 104, 105, 108, 101, 32] ++ condText k x y ++ [32, 123, 10] ++ lines (d + 1) xs ++ pad d ++ [125, 10] = _
  simp [wWhile]
theorem Q.ite {k : Nat} {x y : Nat × Bs} {xs : List (Nat → Bs)} (hk : k < 6) (hx : VT x.2) (hy : VT y.2) (hxs : ∀ z ∈ xs, Q z) : Q (Pr.ite k x y xs none) := by
  refine Q.word wIf (fun d => condText k x y ++ [32, 123, 10] ++ lines (d + 1) xs ++ pad d ++ [125, 10]) (by decide) (by decide) (fun d => ?_) (fun _ => (((((VT.cond hk hx hy).nb.app _).app _).app _).app _)) (fun d => tail_block (VT.cond hk hx hy) hxs d)
  show pad d ++ [105, 102, 32] ++ condText k x y ++ [32, 123, 10] ++ lines (d + 1) xs ++ [] ++ pad d ++ [125, 10] = _
  simp [wIf]
theorem Q.iteElse {k : Nat} {x y : Nat × Bs} {xs ys : List (Nat → Bs)} (hk : k < 6) (hx : VT x.2) (hy : VT y.2) (hxs : ∀ z ∈ xs, Q z) (hys : ∀ z ∈ ys, Q z) : Q (Pr.ite k x y xs (some ys)) := by
  refine Q.word wIf (fun d => condText k x y ++ ([32, 123, 10] ++ lines (d + 1) xs ++ pad d ++ [125, 32, 101, 108, 115, 101, 32, 123, 10] ++ lines (d + 1) ys ++ pad d ++ [125, 10])) (by decide) (by decide) (fun d => ?_) (fun _ => (VT.cond hk hx hy).nb.app _) (fun d => ?_)
  · show pad d ++ [105, 102, 32] ++ condText k x y ++ [32, 123, 10] ++ lines (d + 1) xs ++ (pad d ++ [125, 32, 101, 108, 115, 101, 32, 123, 10] ++ lines (d + 1) ys) ++ pad d ++ [125, 10] = _
    simp [wIf]
  · obtain ⟨ts, f⟩ := (VT.cond hk hx hy).ts
    obtain ⟨us, g⟩ := block_ts hxs d
    obtain ⟨vs, m⟩ := block_ts hys d
    refine ⟨ts ++ (us ++ ([wElse] ++ vs)), fun r => ?_⟩
    rw [show condText k x y ++ ([32, 123, 10] ++ lines (d + 1) xs ++ pad d ++ [125, 32, 101, 108, 115, 101, 32, 123, 10] ++ lines (d + 1) ys ++ pad d ++ [125, 10]) ++ r = condText k x y ++ 32 :: 123 :: 10 :: (lines (d + 1) xs ++ (pad d ++ 125 :: (32 :: (wElse ++ ([32] ++ (123 :: 10 :: (lines (d + 1) ys ++ (pad d ++ 125 :: (10 :: r))))))))) by simp [wElse]]
    have h1 := f _ (nx_brace (lines (d + 1) xs ++ (pad d ++ 125 :: (32 :: (wElse ++ ([32] ++ (123 :: 10 :: (lines (d + 1) ys ++ (pad d ++ 125 :: (10 :: r))))))))))
    rw [(brace _).1] at h1
    have h2 := g (32 :: (wElse ++ ([32] ++ (123 :: 10 :: (lines (d + 1) ys ++ (pad d ++ 125 :: (10 :: r)))))))
    rw [skip_32, (word_nb (w := wElse) (by decide) (by decide)).skip] at h2
    have h3 := TS.word (w := wElse) (b := [32]) (n := 123 :: 10 :: (lines (d + 1) ys ++ (pad d ++ 125 :: (10 :: r)))) (by decide) (by decide) one32 (.inr ⟨123, _, rfl, by decide⟩) (fun _ => ⟨32, rfl⟩)
    have h4 := m (10 :: r)
    rw [skip_10] at h4
    exact h1.app (h2.app (h3.app h4))

theorem Q.stmts : Stmts (fun x => VT x.2) Q where
  s := VT.sums
  assign _ _ hk hx := Q.assign hk hx
  read _ hk := Q.read hk
  assert _ _ _ hk hx hy := Q.assert hk hx hy
  ite _ _ _ _ hk hx hy h := Q.ite hk hx hy h
  iteElse _ _ _ _ _ hk hx hy h h' := Q.iteElse hk hx hy h h'
  loop _ _ _ _ hk hx hy h := Q.loop hk hx hy h

theorem Toks.uniq {ts : List Bs} : ∀ {us : List Bs} {l : Bs}, Toks l ts [] → Toks l us [] → ts = us := by
  induction ts with
  | nil =>
    intro us l h k
    cases h
    cases us with
    | nil => rfl
    | cons u us => exact absurd k.1.symm k.2.1
  | cons t ts ih =>
    intro us l h k
    cases us with
    | nil => cases k; exact absurd h.1.symm h.2.1
    | cons u us => rw [← h.1, ← k.1, ih h.2.2 k.2.2]

/-- blanks do not matter: fewer of them -/
theorem print_tight (s t : Bs) (h : print s = .ok t) (hl : t.length ≤ 400) : print (tight t) = .ok t := by
  have ha := print_again s t h hl
  have hlt : (tight t).length ≤ 400 := by have := tightTo_len t t.length; unfold tight; omega
  unfold print at h
  split at h
  · next xs0 hp0 =>
    obtain ⟨ts0, f0⟩ := Q.linesTS xs0 (parse_all Q.stmts hp0) 0
    have h0 := f0 []
    rw [List.append_nil, lines_skip (parse_T hp0)] at h0
    cases h
    unfold print at ha
    split at ha
    · next xs hp =>
      obtain ⟨ts, k, f⟩ := parse_like Pr hp
      rw [lines_skip (parse_T hp0)] at k
      have e := Toks.uniq k h0.1
      subst e
      have hf : Fresh (lines 0 xs0) := by have := skip_fresh (lines 0 xs0); rw [lines_skip (parse_T hp0)] at this; exact this
      have := f (tight (lines 0 xs0)) hlt (by rw [tight_eq, (hf.tight false).skip]; exact k.tight false h0.2)
      unfold print
      rw [this]
      exact ha
    · cases ha
  · cases h

end Sp
end Go.Proofs.YtiopfihjmkfdmaaGreatDoor
