/- What holds of all that is built holds of what is read; with how many bytes it was built of (plain mathematics). -/
import Derived.Test.YtiopfihjmkfdmaaGreatDoorGStmt
import Derived.Test.YtiopfihjmkfdmaaGreatDoorGMathA
import Derived.Test.YtiopfihjmkfdmaaGreatDoorGRunA
import Derived.Test.YtiopfihjmkfdmaaGreatDoorGTell
namespace Go.Proofs.YtiopfihjmkfdmaaGreatDoor
namespace Sp
namespace Pn

/-- statements one behind the other, of n bytes together -/
def QL {τ : Type} (Q : Nat → τ → Prop) : Nat → List τ → Prop
  | _, [] => True
  | n, x :: xs => ∃ a b, a + b ≤ n ∧ Q a x ∧ QL Q b xs

theorem QL.mono {τ : Type} {Q : Nat → τ → Prop} : ∀ {n m : Nat} {xs : List τ}, QL Q n xs → n ≤ m → QL Q m xs
  | _, _, [], _, _ => trivial
  | _, _, _ :: _, ⟨a, b, h, h1, h2⟩, k => ⟨a, b, by omega, h1, h2⟩

theorem QL.snoc {τ : Type} {Q : Nat → τ → Prop} : ∀ {n m : Nat} {xs : List τ} {x : τ}, QL Q n xs → Q m x → QL Q (n + m) (xs ++ [x])
  | n, m, [], x, _, hx => ⟨m, n, by omega, hx, trivial⟩
  | n, m, y :: ys, x, ⟨a, b, h, h1, h2⟩, hx => ⟨a, b + m, by omega, h1, QL.snoc h2 hx⟩

structure Made (A : Alg) (P : Nat → A.S → Prop) (Q : Nat → A.T → Prop) : Prop where
  pm : ∀ n m x, P n x → n ≤ m → P m x
  qm : ∀ n m x, Q n x → n ≤ m → Q m x
  num : ∀ v, v ≤ 32767 → P 0 (A.num v)
  name : ∀ k, k < 8 → P 0 (A.name k)
  neg : ∀ n x, P n x → P n (A.neg x)
  bin : ∀ k n m x y, k < 5 → P n x → P m y → P (n + m + 1) (A.bin k x y)
  assign : ∀ k n x, k < 8 → P n x → Q (n + 1) (A.assign k x)
  read : ∀ k, k < 8 → Q 1 (A.read k)
  assert : ∀ k n m x y, k < 6 → P n x → P m y → Q (n + m + 1) (A.assert k x y)
  ite : ∀ k n m j x y xs, k < 6 → P n x → P m y → QL Q j xs → Q (n + m + j + 1) (A.ite k x y xs none)
  iteElse : ∀ k n m j i x y xs ys, k < 6 → P n x → P m y → QL Q j xs → QL Q i ys → Q (n + m + j + i + 1) (A.ite k x y xs (some ys))
  loop : ∀ k n m j x y xs, k < 6 → P n x → P m y → QL Q j xs → Q (n + m + j + 1) (A.loop k x y xs)

section
variable {A : Alg} {P : Nat → A.S → Prop} {Q : Nat → A.T → Prop} (H : Made A P Q)

def Reads (P : Nat → A.S → Prop) (u : Bs → R A.S) : Prop := ∀ l x l', u l = .ok (x, l') → l'.length < l.length ∧ P (l.length - l'.length) x

include H in
theorem pChain_n {lv : Nat} {u : Bs → R A.S} (hu : Reads P u) : ∀ m a (x : A.S) l (y : A.S) l', P a x → pChain A lv u m x l = .ok (y, l') → l'.length ≤ l.length ∧ P (a + (l.length - l'.length)) y := by
  intro m
  induction m with
  | zero => intro a x l y l' hx h; cases h; exact ⟨Nat.le_refl _, by simpa using hx⟩
  | succ m ih =>
    intro a x l y l' hx h
    rw [pChain_succ A lv u m x l] at h
    split at h
    · next k hk =>
      split at h
      · split at h
        · next z l1 hz =>
          obtain ⟨h1, h2⟩ := hu _ _ _ hz
          have h0 : (next l).length < l.length := by
            apply next_lt
            rw [← tok_length]
            apply List.length_pos_iff.2
            intro e; rw [e] at hk; simp [opOf] at hk
          obtain ⟨h3, h4⟩ := ih _ _ _ _ _ (H.bin k a _ x z (opOf_lt hk) hx h2) h
          exact ⟨by omega, H.pm _ _ _ h4 (by omega)⟩
        · cases h
      · cases h; exact ⟨Nat.le_refl _, by simpa using hx⟩
    · cases h; exact ⟨Nat.le_refl _, by simpa using hx⟩
include H in
theorem pWith_n {lv : Nat} {u : Bs → R A.S} (hu : Reads P u) : Reads P (pWith A lv u) := by
  intro l x l' h
  unfold pWith at h
  split at h
  · next y l1 hy =>
    obtain ⟨h1, h2⟩ := hu _ _ _ hy
    obtain ⟨h3, h4⟩ := pChain_n H hu _ _ _ _ _ _ h2 h
    exact ⟨by omega, H.pm _ _ _ h4 (by omega)⟩
  · cases h
include H in
theorem pSum_n {u : Bs → R A.S} (hu : Reads P u) : Reads P (pSum A u) := pWith_n H (pWith_n H hu)
include H in
theorem pUnary_n : ∀ n o, Reads P (pUnary A n o) := by
  intro n
  induction n with
  | zero => intro o l x l' h; cases h
  | succ n ih =>
    intro o l x l' h
    unfold pUnary at h
    split at h
    · next hk =>
      split at h
      · next v hv => cases h; exact ⟨next_lt (tokLen_pos (.inr (.inl hk))), H.pm _ _ _ (H.num v (numVal_le hv)) (Nat.zero_le _)⟩
      · cases h
    · split at h
      · next hk2 =>
        split at h
        · next k l1 hk =>
          obtain ⟨h5, h6⟩ := pName_ok_iff hk
          cases h
          exact ⟨by rw [h6]; exact next_lt (tokLen_pos (.inl hk2)), H.pm _ _ _ (H.name k (pName_lt8 hk)) (Nat.zero_le _)⟩
        · cases h
      · split at h
        · split at h
          · next l1 he =>
            obtain ⟨ht, _, rfl⟩ := enter_ok_iff he
            have h0 := next_lt_of_tok ht (by simp)
            split at h
            · next y l2 hy =>
              cases h
              obtain ⟨h1, h2⟩ := ih _ _ _ _ hy
              exact ⟨by omega, H.pm _ _ _ (H.neg _ _ h2) (by omega)⟩
            · cases h
          · cases h
        · split at h
          · next l1 he =>
            obtain ⟨ht, _, rfl⟩ := enter_ok_iff he
            have h0 := next_lt_of_tok ht (by simp)
            split at h
            · next y l2 hy =>
              obtain ⟨h1, h2⟩ := pSum_n H (ih _) _ _ _ hy
              split at h
              · next l3 ht3 =>
                obtain ⟨_, rfl⟩ := take_ok_iff ht3
                have := next_le l2
                cases h
                exact ⟨by omega, H.pm _ _ _ h2 (by omega)⟩
              · cases h
            · cases h
          · cases h
include H in
theorem pS_n {o : Nat} {l : Bs} {x : A.S} {l' : Bs} (h : pS A o l = .ok (x, l')) : l'.length < l.length ∧ P (l.length - l'.length) x := pSum_n H (pUnary_n H _ _) _ _ _ h
include H in
theorem pCond_n {o : Nat} {l : Bs} {k : Nat} {x y : A.S} {l' : Bs} (h : pCond A o l = .ok ((k, x, y), l')) : k < 6 ∧ l'.length < l.length ∧ ∃ a b, a + b ≤ l.length - l'.length ∧ P a x ∧ P b y := by
  unfold pCond at h
  split at h
  · next x1 l1 hx =>
    split at h
    · next k1 hk =>
      split at h
      · next y1 l2 hy =>
        cases h
        obtain ⟨h1, h2⟩ := pS_n H hx
        obtain ⟨h3, h4⟩ := pS_n H hy
        have := next_le l1
        exact ⟨relOf_lt hk, by omega, _, _, by omega, h2, h4⟩
      · cases h
    · cases h
  · cases h

def ReadsT (Q : Nat → A.T → Prop) (st : Bs → R A.T) : Prop := ∀ l x l', st l = .ok (x, l') → l'.length < l.length ∧ Q (l.length - l'.length) x

theorem pMany_n {st : Bs → R A.T} (hs : ReadsT Q st) : ∀ m a (acc : List A.T) l ys l', QL Q a acc → pMany A st m acc l = .ok (ys, l') → l'.length ≤ l.length ∧ QL Q (a + (l.length - l'.length)) ys := by
  intro m
  induction m with
  | zero => intro a acc l ys l' ha h; cases h; exact ⟨Nat.le_refl _, by simpa using ha⟩
  | succ m ih =>
    intro a acc l ys l' ha h
    rw [pMany_succ A st m acc l] at h
    split at h
    · split at h
      · next x l1 hx =>
        obtain ⟨h1, h2⟩ := hs _ _ _ hx
        obtain ⟨h3, h4⟩ := ih _ _ _ _ _ (ha.snoc h2) h
        exact ⟨by omega, h4.mono (by omega)⟩
      · cases h
    · cases h; exact ⟨Nat.le_refl _, by simpa using ha⟩
theorem pBlock_n {st : Bs → R A.T} (hs : ReadsT Q st) {o : Nat} {l : Bs} {xs : List A.T} {l' : Bs} (h : pBlock A st o l = .ok (xs, l')) : l'.length < l.length ∧ QL Q (l.length - l'.length) xs := by
  unfold pBlock at h
  split at h
  · next l1 he =>
    obtain ⟨ht, _, rfl⟩ := enter_ok_iff he
    have h0 := next_lt_of_tok ht (by simp)
    split at h
    · next ys l2 hm =>
      obtain ⟨h1, h2⟩ := pMany_n hs _ 0 [] _ _ _ trivial hm
      split at h
      · next l3 ht3 =>
        obtain ⟨_, rfl⟩ := take_ok_iff ht3
        have := next_le l2
        cases h
        exact ⟨by omega, h2.mono (by omega)⟩
      · cases h
    · cases h
  · cases h

include H in
theorem pStmt_n : ∀ n o, ReadsT Q (pStmt A n o) := by
  intro n
  induction n with
  | zero => intro o l x l' h; cases h
  | succ n ih =>
    intro o l x l' h
    unfold pStmt at h
    split at h
    · next ht =>
      have h0 := next_lt_of_tok ht (by decide)
      unfold pRead at h
      split at h
      · next k l1 hk =>
        obtain ⟨h5, rfl⟩ := pName_ok_iff hk
        have h6 := next_le (next l)
        split at h
        · next l2 h2 =>
          obtain ⟨_, rfl⟩ := take_ok_iff h2
          have := next_le (next (next l))
          cases h
          exact ⟨by omega, H.qm _ _ _ (H.read k (pName_lt8 hk)) (by omega)⟩
        · cases h
      · cases h
    · split at h
      · next ht =>
        have h0 := next_lt_of_tok ht (by decide)
        unfold pAssert at h
        split at h
        · next k x1 y1 l1 hc =>
          obtain ⟨h1, h2, a, b, h3, h4, h5⟩ := pCond_n H hc
          split at h
          · next l2 h6 =>
            obtain ⟨_, rfl⟩ := take_ok_iff h6
            have := next_le l1
            cases h
            exact ⟨by omega, H.qm _ _ _ (H.assert _ _ _ _ _ h1 h4 h5) (by omega)⟩
          · cases h
        · cases h
      · split at h
        · next ht =>
          have h0 := next_lt_of_tok ht (by decide)
          unfold pIf at h
          split at h
          · next k x1 y1 l1 hc =>
            obtain ⟨h1, h2, a, b, h3, h4, h5⟩ := pCond_n H hc
            split at h
            · next xs l2 hb =>
              obtain ⟨h6, h7⟩ := pBlock_n (ih _) hb
              split at h
              · split at h
                · next ys l3 hb2 =>
                  obtain ⟨h8, h9⟩ := pBlock_n (ih _) hb2
                  have := next_le l2
                  cases h
                  exact ⟨by omega, H.qm _ _ _ (H.iteElse _ _ _ _ _ _ _ _ _ h1 h4 h5 h7 h9) (by omega)⟩
                · cases h
              · cases h; exact ⟨by omega, H.qm _ _ _ (H.ite _ _ _ _ _ _ _ h1 h4 h5 h7) (by omega)⟩
            · cases h
          · cases h
        · split at h
          · next ht =>
            have h0 := next_lt_of_tok ht (by decide)
            unfold pWhile at h
            split at h
            · next k x1 y1 l1 hc =>
              obtain ⟨h1, h2, a, b, h3, h4, h5⟩ := pCond_n H hc
              split at h
              · next xs l2 hb =>
                obtain ⟨h6, h7⟩ := pBlock_n (ih _) hb
                cases h
                exact ⟨by omega, H.qm _ _ _ (H.loop _ _ _ _ _ _ _ h1 h4 h5 h7) (by omega)⟩
              · cases h
            · cases h
          · unfold pAssign at h
            split at h
            · next k l1 hk =>
              obtain ⟨h5, rfl⟩ := pName_ok_iff hk
              have h6 : (next l).length < l.length := by
                have h2 : tokKind l = 2 := by
                  unfold nameVal at h5
                  split at h5
                  · split at h5
                    · next hc => exact hc.1
                    · cases h5
                  · cases h5
                exact next_lt (tokLen_pos (.inl h2))
              split at h
              · next l2 h2 =>
                obtain ⟨_, rfl⟩ := take_ok_iff h2
                have h7 := next_le (next l)
                split at h
                · next x1 l3 hx =>
                  obtain ⟨h8, h9⟩ := pS_n H hx
                  split at h
                  · next l4 h10 =>
                    obtain ⟨_, rfl⟩ := take_ok_iff h10
                    have := next_le l3
                    cases h
                    exact ⟨by omega, H.qm _ _ _ (H.assign _ _ _ (pName_lt8 hk) h9) (by omega)⟩
                  · cases h
                · cases h
              · cases h
            · cases h

include H in
theorem parse_n {s : Bs} {xs : List A.T} (h : parse A s = .ok xs) : s.length ≤ 400 ∧ QL Q 400 xs := by
  unfold parse at h
  split at h
  · cases h
  · next hs =>
    refine ⟨by omega, ?_⟩
    have hs2 := skip_le s
    split at h
    · next ys hp =>
      cases h
      unfold pProg at hp
      split at hp
      · next zs l1 hm =>
        split at hp
        · cases hp
          obtain ⟨_, h2⟩ := pMany_n (pStmt_n H _ _) _ 0 [] _ _ _ trivial hm
          exact h2.mono (by omega)
        · cases hp
      · cases hp
    · cases h

end
end Pn
end Sp
end Go.Proofs.YtiopfihjmkfdmaaGreatDoor

/- A run with less fuel is the beginning of one with more (plain mathematics). -/
namespace Go.Proofs.YtiopfihjmkfdmaaGreatDoor
namespace Sp
namespace Gr

def more (k : Nat) (r : Rst) : Rst := { r with fuel := r.fuel + k }

/-- visits are added alone; each takes one of fuel -/
structure Adds (F : Rst → Out) : Prop where
  pre : ∀ r, r.vis <+: (F r).1.vis
  sum : ∀ r, (F r).1.vis.length + (F r).1.fuel = r.vis.length + r.fuel

theorem Adds.le {F : Rst → Out} (h : Adds F) (r : Rst) : (F r).1.fuel ≤ r.fuel := by
  have h1 := h.sum r
  have h2 := (h.pre r).length_le
  omega

/-- with k more of fuel -/
def AtO (k : Nat) (o o' : Out) : Prop := match o with
  | (r1, none) => o' = (more k r1, none)
  | (r1, some s) => if s = -2 then r1.fuel = 0 ∧ r1.vis <+: o'.1.vis else o' = (more k r1, some s)
def At (F : Rst → Out) (r : Rst) (k : Nat) : Prop := AtO k (F r) (F (more k r))

theorem at_err {k : Nat} {r : Rst} {s : Int} (h : 0 ≤ s) : AtO k (r, some s) (more k r, some s) := by
  show (if s = -2 then _ else _)
  rw [if_neg (by omega)]

theorem loopF_succ (c : List Int → Except Int Bool) (F : Rst → Out) (p : Int) (n : Nat) (r : Rst) : loopF c F p (n + 1) r = (match c r.st with
    | .error e => (r, some e)
    | .ok false => (r, none)
    | .ok true => andThen (andThen (F r) (visit p)) (loopF c F p n)) := rfl

structure Good (F : Rst → Out) : Prop where
  adds : Adds F
  at_ : ∀ r k, At F r k

theorem andThen_adds {F G : Rst → Out} (hF : Adds F) (hG : Adds G) : Adds (fun r => andThen (F r) G) := by
  constructor
  · intro r
    have h1 := hF.pre r
    show r.vis <+: (andThen (F r) G).1.vis
    cases hf : F r with
    | mk r1 o =>
      rw [hf] at h1
      cases o with
      | none => exact h1.trans (hG.pre r1)
      | some s => exact h1
  · intro r
    have h1 := hF.sum r
    show (andThen (F r) G).1.vis.length + (andThen (F r) G).1.fuel = _
    cases hf : F r with
    | mk r1 o =>
      rw [hf] at h1
      cases o with
      | none => exact (hG.sum r1).trans h1
      | some s => exact h1

theorem andThen_at {F G : Rst → Out} {r : Rst} {k : Nat} (hF : At F r k) (hG : ∀ r1, F r = (r1, none) → At G r1 k) (pG : ∀ r, r.vis <+: (G r).1.vis) : At (fun r => andThen (F r) G) r k := by
  show AtO k (andThen (F r) G) (andThen (F (more k r)) G)
  have hF' : AtO k (F r) (F (more k r)) := hF
  cases hf : F r with
  | mk r1 o =>
    rw [hf] at hF'
    cases o with
    | none =>
      have h1 : AtO k (G r1) (G (more k r1)) := hG r1 hf
      have h2 : F (more k r) = (more k r1, none) := hF'
      rw [h2]
      exact h1
    | some s =>
      have h1 : (if s = -2 then r1.fuel = 0 ∧ r1.vis <+: (F (more k r)).1.vis else F (more k r) = (more k r1, some s)) := hF'
      show (if s = -2 then r1.fuel = 0 ∧ r1.vis <+: (andThen (F (more k r)) G).1.vis else andThen (F (more k r)) G = (more k r1, some s))
      by_cases hs : s = -2
      · rw [if_pos hs] at h1 ⊢
        refine ⟨h1.1, h1.2.trans ?_⟩
        cases hf2 : F (more k r) with
        | mk r2 o2 =>
          cases o2 with
          | none => exact pG r2
          | some s2 => exact List.prefix_refl _
      · rw [if_neg hs] at h1 ⊢
        rw [h1]; rfl

theorem andThen_good {F G : Rst → Out} (hF : Good F) (hG : Good G) : Good (fun r => andThen (F r) G) :=
  ⟨andThen_adds hF.adds hG.adds, fun r k => andThen_at (hF.at_ r k) (fun r1 _ => hG.at_ r1 k) hG.adds.pre⟩

theorem visit_good (p : Int) : Good (visit p) := by
  refine ⟨⟨?_, ?_⟩, ?_⟩
  · intro r
    unfold visit
    split
    · exact List.prefix_refl _
    · exact List.prefix_append _ _
  · intro r
    unfold visit
    split
    · rfl
    · simp; omega
  · intro r k
    show AtO k (visit p r) (visit p (more k r))
    by_cases h : r.fuel = 0
    · have e : visit p r = (r, some (-2)) := by unfold visit; rw [if_pos h]
      rw [e]
      refine ⟨h, ?_⟩
      unfold visit
      split
      · exact List.prefix_refl _
      · exact List.prefix_append _ _
    · have h2 : ¬ (more k r).fuel = 0 := by show ¬ r.fuel + k = 0; omega
      unfold visit
      rw [if_neg h, if_neg h2]
      show (_ : Out) = _
      simp [more]; omega

theorem steps_good : ∀ xs : List (Int × (Rst → Out)), (∀ x ∈ xs, Good x.2) → Good (steps xs)
  | [], _ => ⟨⟨fun _ => List.prefix_refl _, fun _ => rfl⟩, fun _ _ => rfl⟩
  | (p, F) :: xs, h => andThen_good (andThen_good (visit_good p) (h (p, F) (by simp))) (steps_good xs (fun x hx => h x (by simp [hx])))

/-- a place at which a run may stop has a number from 0 on -/
def NN {α : Type} (c : List Int → Except Int α) : Prop := ∀ st e, c st = .error e → 0 ≤ e

theorem loop_adds {c : List Int → Except Int Bool} {F : Rst → Out} (hF : Adds F) (p : Int) : ∀ n, Adds (loopF c F p n)
  | 0 => ⟨fun _ => List.prefix_refl _, fun _ => rfl⟩
  | n + 1 => by
    have h1 := andThen_adds (andThen_adds hF (visit_good p).adds) (loop_adds (c := c) hF p n)
    constructor
    · intro r
      unfold loopF
      split
      · exact List.prefix_refl _
      · exact List.prefix_refl _
      · exact h1.pre r
    · intro r
      unfold loopF
      split
      · rfl
      · rfl
      · exact h1.sum r

theorem visit_lt {p : Int} {r r' : Rst} (h : visit p r = (r', none)) : r'.fuel < r.fuel := by
  unfold visit at h
  split at h
  · cases h
  · cases h; show r.fuel - 1 < r.fuel; omega

theorem loop_enough {c : List Int → Except Int Bool} {F : Rst → Out} (hF : Adds F) (p : Int) : ∀ n m r, r.fuel < n → r.fuel < m → loopF c F p n r = loopF c F p m r := by
  intro n
  induction n with
  | zero => intro m r h; omega
  | succ n ih =>
    intro m r h1 h2
    obtain ⟨m, rfl⟩ : ∃ m', m = m' + 1 := ⟨m - 1, by omega⟩
    unfold loopF
    cases c r.st with
    | error e => rfl
    | ok b =>
      cases b with
      | false => rfl
      | true =>
        simp only
        cases hf : andThen (F r) (visit p) with
        | mk r2 o =>
          cases o with
          | some s => rfl
          | none =>
            show loopF c F p n r2 = loopF c F p m r2
            have hlt : r2.fuel < r.fuel := by
              have h3 := hF.le r
              cases hfr : F r with
              | mk r1 o1 =>
                rw [hfr] at hf h3
                cases o1 with
                | none =>
                  have h4 : visit p r1 = (r2, none) := hf
                  have h5 := visit_lt h4
                  have h6 : r1.fuel ≤ r.fuel := h3
                  omega
                | some s => cases hf
            exact ih m r2 (by omega) (by omega)

theorem loop_at {c : List Int → Except Int Bool} (hc : NN c) {F : Rst → Out} (hF : Good F) (p : Int) : ∀ n r k, r.fuel + k < n → At (loopF c F p n) r k := by
  intro n
  induction n with
  | zero => intro r k h; omega
  | succ n ih =>
    intro r k hn
    have hst : (more k r).st = r.st := rfl
    show AtO k (loopF c F p (n + 1) r) (loopF c F p (n + 1) (more k r))
    rw [loopF_succ, loopF_succ, hst]
    cases hcs : c r.st with
    | error e => exact at_err (hc _ _ hcs)
    | ok b =>
      cases b with
      | false => rfl
      | true =>
        have hg := andThen_good hF (visit_good p)
        have h1 : At (fun r => andThen (andThen (F r) (visit p)) (loopF c F p n)) r k := by
          refine andThen_at (hg.at_ r k) (fun r2 h2 => ih r2 k ?_) (loop_adds hF.adds p n).pre
          have h3 := hF.adds.le r
          have h2' : andThen (F r) (visit p) = (r2, none) := h2
          cases hfr : F r with
          | mk r1 o1 =>
            rw [hfr] at h2' h3
            cases o1 with
            | none =>
              have h4 : visit p r1 = (r2, none) := h2'
              have h5 := visit_lt h4
              have h6 : r1.fuel ≤ r.fuel := h3
              omega
            | some s => cases h2'
        exact h1

theorem while_good {c : List Int → Except Int Bool} (hc : NN c) {F : Rst → Out} (hF : Good F) (p : Int) : Good (doWhile c F p) := by
  refine ⟨⟨fun r => (loop_adds hF.adds p _).pre r, fun r => (loop_adds hF.adds p _).sum r⟩, fun r k => ?_⟩
  have h1 := loop_at hc hF p (r.fuel + k + 1) r k (by omega)
  have e1 : doWhile c F p r = loopF c F p (r.fuel + k + 1) r := loop_enough hF.adds p _ _ r (by omega) (by omega)
  have e2 : doWhile c F p (more k r) = loopF c F p (r.fuel + k + 1) (more k r) := rfl
  show AtO k (doWhile c F p r) (doWhile c F p (more k r))
  rw [e1, e2]
  exact h1

theorem assign_good (k : Nat) {f : Ev} (hf : NN f) : Good (doAssign k f) := by
  refine ⟨⟨fun r => ?_, fun r => ?_⟩, fun r n => ?_⟩
  · unfold doAssign; split <;> exact List.prefix_refl _
  · unfold doAssign; split <;> rfl
  · have hst : (more n r).st = r.st := rfl
    show AtO n (doAssign k f r) (doAssign k f (more n r))
    unfold doAssign
    rw [hst]
    cases h : f r.st with
    | error e => exact at_err (hf _ _ h)
    | ok v => rfl

theorem read_good (k : Nat) : Good (doRead k) := by
  refine ⟨⟨fun r => ?_, fun r => ?_⟩, fun r n => ?_⟩
  · unfold doRead; split <;> exact List.prefix_refl _
  · unfold doRead; split <;> rfl
  · have hst : (more n r).ins = r.ins := rfl
    show AtO n (doRead k r) (doRead k (more n r))
    unfold doRead
    rw [hst]
    cases r.ins <;> rfl

theorem assert_good {site : Int} (hs : 0 ≤ site) {c : List Int → Except Int Bool} (hc : NN c) : Good (doAssert site c) := by
  refine ⟨⟨fun r => ?_, fun r => ?_⟩, fun r n => ?_⟩
  · unfold doAssert; split <;> exact List.prefix_refl _
  · unfold doAssert; split <;> rfl
  · have hst : (more n r).st = r.st := rfl
    show AtO n (doAssert site c r) (doAssert site c (more n r))
    unfold doAssert
    rw [hst]
    cases h : c r.st with
    | error e => exact at_err (hc _ _ h)
    | ok b =>
      cases b with
      | true => rfl
      | false => exact at_err hs

theorem if_good {c : List Int → Except Int Bool} (hc : NN c) {F G : Rst → Out} (hF : Good F) (hG : Good G) : Good (doIf c F G) := by
  refine ⟨⟨fun r => ?_, fun r => ?_⟩, fun r n => ?_⟩
  · unfold doIf; split
    · exact List.prefix_refl _
    · exact hF.adds.pre r
    · exact hG.adds.pre r
  · unfold doIf; split
    · rfl
    · exact hF.adds.sum r
    · exact hG.adds.sum r
  · have hst : (more n r).st = r.st := rfl
    have h1 := hF.at_ r n
    have h2 := hG.at_ r n
    show AtO n (doIf c F G r) (doIf c F G (more n r))
    unfold doIf
    rw [hst]
    cases h : c r.st with
    | error e => exact at_err (hc _ _ h)
    | ok b =>
      cases b with
      | true => exact h1
      | false => exact h2

theorem evCond_nn (k : Nat) {f g : Ev} (hf : NN f) (hg : NN g) : NN (evCond k f g) := by
  intro st e h
  unfold evCond at h
  split at h
  · next e1 h1 => cases h; exact hf _ _ h1
  · split at h
    · next e1 h1 => cases h; exact hg _ _ h1
    · cases h
theorem evBin_nn (k : Nat) {q : Int} (hq : 0 ≤ q) {f g : Ev} (hf : NN f) (hg : NN g) : NN (evBin k q f g) := by
  intro st e h
  unfold evBin at h
  split at h
  · next e1 h1 => cases h; exact hf _ _ h1
  · split at h
    · next e1 h1 => cases h; exact hg _ _ h1
    · split at h
      · cases h
      · cases h; exact hq
theorem evNeg_nn {f : Ev} (hf : NN f) : NN (evNeg f) := by
  intro st e h
  unfold evNeg at h
  split at h
  · next e1 h1 => cases h; exact hf _ _ h1
  · cases h

/-- sums: of n bytes: so many sites at most -/
def P (n : Nat) (x : Rn.S) : Prop := ∀ ct : Ct, 0 ≤ ct.2 → ct.2 + n ≤ 1000000 → NN (x ct).1 ∧ ct.2 ≤ (x ct).2.2 ∧ (x ct).2.2 ≤ ct.2 + n
def Q (n : Nat) (x : Rn.T) : Prop := ∀ ct : Ct, 0 ≤ ct.2 → ct.2 + n ≤ 1000000 → Good (x ct).1 ∧ ct.2 ≤ (x ct).2.2 ∧ (x ct).2.2 ≤ ct.2 + n

theorem siteUp_eq {ct : Ct} (h0 : 0 ≤ ct.2) (h1 : ct.2 ≤ 1000000) : (siteUp ct).2 = ct.2 + 1 := by
  show RowKit.wrap64 (ct.2 + 1) = _
  unfold RowKit.wrap64
  omega

theorem number_good : ∀ (n : Nat) (xs : List Rn.T), Pn.QL Q n xs → ∀ ct : Ct, 0 ≤ ct.2 → ct.2 + n ≤ 1000000 → (∀ z ∈ (number xs ct).1, Good z.2) ∧ ct.2 ≤ (number xs ct).2.2 ∧ (number xs ct).2.2 ≤ ct.2 + n
  | n, [], _, ct, _, _ => ⟨fun z hz => (by cases hz), Int.le_refl _, by show ct.2 ≤ ct.2 + n; omega⟩
  | n, x :: xs, ⟨a, b, hab, hx, hxs⟩, ct, h0, h1 => by
    obtain ⟨g1, g2, g3⟩ := hx ct h0 (by omega)
    obtain ⟨k1, k2, k3⟩ := number_good b xs hxs (x ct).2 (by omega) (by omega)
    refine ⟨fun z hz => ?_, by show ct.2 ≤ (number xs (x ct).2).2.2; omega, by show (number xs (x ct).2).2.2 ≤ ct.2 + n; omega⟩
    have hz' : z ∈ (ct.1, (x ct).1) :: (number xs (x ct).2).1 := hz
    rcases List.mem_cons.1 hz' with rfl | hz''
    · exact g1
    · exact k1 z hz''

theorem made : Pn.Made Rn P Q where
  pm n m x h hn ct h0 h1 := by
    obtain ⟨a, b, c⟩ := h ct h0 (by omega)
    exact ⟨a, b, by omega⟩
  qm n m x h hn ct h0 h1 := by
    obtain ⟨a, b, c⟩ := h ct h0 (by omega)
    exact ⟨a, b, by omega⟩
  num v _ ct h0 h1 := ⟨fun st e h => (by cases h), Int.le_refl _, by show ct.2 ≤ ct.2 + ((0 : Nat) : Int); omega⟩
  name k _ ct h0 h1 := ⟨fun st e h => (by cases h), Int.le_refl _, by show ct.2 ≤ ct.2 + ((0 : Nat) : Int); omega⟩
  neg n x h ct h0 h1 := by
    obtain ⟨a, b, c⟩ := h ct h0 h1
    exact ⟨evNeg_nn a, b, c⟩
  bin k n m x y hk hx hy ct h0 h1 := by
    obtain ⟨a, b, c⟩ := hx ct h0 (by omega)
    by_cases h3 : 3 ≤ k
    · have e : Rn.bin k x y ct = (evBin k (x ct).2.2 (x ct).1 (y (siteUp (x ct).2)).1, (y (siteUp (x ct).2)).2) := if_pos h3
      have es := siteUp_eq (ct := (x ct).2) (by omega) (by omega)
      obtain ⟨a', b', c'⟩ := hy (siteUp (x ct).2) (by omega) (by omega)
      rw [e]
      exact ⟨evBin_nn k (by omega) a a', by show ct.2 ≤ (y (siteUp (x ct).2)).2.2; omega, by show (y (siteUp (x ct).2)).2.2 ≤ _; omega⟩
    · have e : Rn.bin k x y ct = (evBin k 0 (x ct).1 (y (x ct).2).1, (y (x ct).2).2) := if_neg h3
      obtain ⟨a', b', c'⟩ := hy (x ct).2 (by omega) (by omega)
      rw [e]
      exact ⟨evBin_nn k (Int.le_refl _) a a', by show ct.2 ≤ (y (x ct).2).2.2; omega, by show (y (x ct).2).2.2 ≤ _; omega⟩
  assign k n x _ h ct h0 h1 := by
    obtain ⟨a, b, c⟩ := h (ptUp ct) h0 (by show ct.2 + (n : Int) ≤ _; omega)
    have c0 : (x (ptUp ct)).2.2 ≤ ct.2 + n := c
    exact ⟨assign_good k a, b, by show (x (ptUp ct)).2.2 ≤ ct.2 + ((n + 1 : Nat) : Int); omega⟩
  read k _ ct h0 h1 := ⟨read_good k, Int.le_refl _, by show ct.2 ≤ ct.2 + ((1 : Nat) : Int); omega⟩
  assert k n m x y _ hx hy ct h0 h1 := by
    have es := siteUp_eq (ct := ptUp ct) h0 (by show ct.2 ≤ _; omega)
    have es' : (siteUp (ptUp ct)).2 = ct.2 + 1 := es
    obtain ⟨a, b, c⟩ := hx (siteUp (ptUp ct)) (by omega) (by omega)
    obtain ⟨a', b', c'⟩ := hy (x (siteUp (ptUp ct))).2 (by omega) (by omega)
    exact ⟨assert_good h0 (evCond_nn k a a'), by show ct.2 ≤ (y (x (siteUp (ptUp ct))).2).2.2; omega, by show (y (x (siteUp (ptUp ct))).2).2.2 ≤ _; omega⟩
  ite k n m j x y xs _ hx hy hxs ct h0 h1 := by
    obtain ⟨a, b, c⟩ := hx (ptUp ct) h0 (by show ct.2 + (n : Int) ≤ _; omega)
    have b0 : ct.2 ≤ (x (ptUp ct)).2.2 := b
    have c0 : (x (ptUp ct)).2.2 ≤ ct.2 + n := c
    obtain ⟨a', b', c'⟩ := hy (x (ptUp ct)).2 (by omega) (by omega)
    obtain ⟨g1, g2, g3⟩ := number_good j xs hxs (y (x (ptUp ct)).2).2 (by omega) (by omega)
    exact ⟨if_good (evCond_nn k a a') (steps_good _ g1) (steps_good [] (fun x hx => by cases hx)), by show ct.2 ≤ (number xs (y (x (ptUp ct)).2).2).2.2; omega, by show (number xs (y (x (ptUp ct)).2).2).2.2 ≤ _; omega⟩
  iteElse k n m j i x y xs ys _ hx hy hxs hys ct h0 h1 := by
    obtain ⟨a, b, c⟩ := hx (ptUp ct) h0 (by show ct.2 + (n : Int) ≤ _; omega)
    have b0 : ct.2 ≤ (x (ptUp ct)).2.2 := b
    have c0 : (x (ptUp ct)).2.2 ≤ ct.2 + n := c
    obtain ⟨a', b', c'⟩ := hy (x (ptUp ct)).2 (by omega) (by omega)
    obtain ⟨g1, g2, g3⟩ := number_good j xs hxs (y (x (ptUp ct)).2).2 (by omega) (by omega)
    obtain ⟨k1, k2, k3⟩ := number_good i ys hys (number xs (y (x (ptUp ct)).2).2).2 (by omega) (by omega)
    exact ⟨if_good (evCond_nn k a a') (steps_good _ g1) (steps_good _ k1), by show ct.2 ≤ (number ys (number xs (y (x (ptUp ct)).2).2).2).2.2; omega, by show (number ys (number xs (y (x (ptUp ct)).2).2).2).2.2 ≤ _; omega⟩
  loop k n m j x y xs _ hx hy hxs ct h0 h1 := by
    obtain ⟨a, b, c⟩ := hx (ptUp ct) h0 (by show ct.2 + (n : Int) ≤ _; omega)
    have b0 : ct.2 ≤ (x (ptUp ct)).2.2 := b
    have c0 : (x (ptUp ct)).2.2 ≤ ct.2 + n := c
    obtain ⟨a', b', c'⟩ := hy (x (ptUp ct)).2 (by omega) (by omega)
    obtain ⟨g1, g2, g3⟩ := number_good j xs hxs (y (x (ptUp ct)).2).2 (by omega) (by omega)
    exact ⟨while_good (evCond_nn k a a') (steps_good _ g1) ct.1, by show ct.2 ≤ (number xs (y (x (ptUp ct)).2).2).2.2; omega, by show (number xs (y (x (ptUp ct)).2).2).2.2 ≤ _; omega⟩

/-- a program's run with more fuel -/
theorem runOf_longer {s : Bs} {xs : List Rn.T} (h : parse Rn s = .ok xs) (ins : List Int) (f m : Nat) (hfm : f ≤ m) :
    ((runOf xs ins f).2 ≠ -2 → runOf xs ins f = runOf xs ins m) ∧ ((runOf xs ins f).2 = -2 → (runOf xs ins f).1.length = f ∧ f ≤ (runOf xs ins m).1.length ∧ (runOf xs ins m).1.take f = (runOf xs ins f).1) := by
  obtain ⟨g1, g2, g3⟩ := number_good 400 xs (Pn.parse_n made h).2 (0, 0) (Int.le_refl _) (by decide)
  have hg := andThen_good (steps_good _ g1) (visit_good (number xs (0, 0)).2.1)
  have hat := hg.at_ { vis := [], st := List.replicate 8 0, ins := ins, fuel := f } (m - f)
  have hsum := hg.adds.sum { vis := [], st := List.replicate 8 0, ins := ins, fuel := f }
  have hm : more (m - f) { vis := [], st := List.replicate 8 0, ins := ins, fuel := f } = { vis := [], st := List.replicate 8 0, ins := ins, fuel := m } := by
    unfold more
    simp only [Rst.mk.injEq, true_and]
    omega
  have hat' : AtO (m - f) (andThen (steps (number xs (0, 0)).1 { vis := [], st := List.replicate 8 0, ins := ins, fuel := f }) (visit (number xs (0, 0)).2.1)) (andThen (steps (number xs (0, 0)).1 (more (m - f) { vis := [], st := List.replicate 8 0, ins := ins, fuel := f })) (visit (number xs (0, 0)).2.1)) := hat
  rw [hm] at hat'
  clear hat
  have hsum' : (andThen (steps (number xs (0, 0)).1 { vis := [], st := List.replicate 8 0, ins := ins, fuel := f }) (visit (number xs (0, 0)).2.1)).1.vis.length + (andThen (steps (number xs (0, 0)).1 { vis := [], st := List.replicate 8 0, ins := ins, fuel := f }) (visit (number xs (0, 0)).2.1)).1.fuel = 0 + f := hsum
  unfold runOf
  simp only
  generalize andThen (steps (number xs (0, 0)).1 { vis := [], st := List.replicate 8 0, ins := ins, fuel := f }) (visit (number xs (0, 0)).2.1) = o1 at hat' hsum' ⊢
  generalize andThen (steps (number xs (0, 0)).1 { vis := [], st := List.replicate 8 0, ins := ins, fuel := m }) (visit (number xs (0, 0)).2.1) = o2 at hat' ⊢
  obtain ⟨r1, _ | s1⟩ := o1
  · have e : o2 = (more (m - f) r1, none) := hat'
    rw [e]
    exact ⟨fun _ => rfl, fun h => by
      have h' : (-1 : Int) = -2 := h
      omega⟩
  · have h1 : (if s1 = -2 then r1.fuel = 0 ∧ r1.vis <+: o2.1.vis else o2 = (more (m - f) r1, some s1)) := hat'
    by_cases hs : s1 = -2
    · rw [if_pos hs] at h1
      refine ⟨fun h => absurd hs h, fun _ => ?_⟩
      have hl : r1.vis.length = f := by
        have : r1.vis.length + r1.fuel = 0 + f := hsum'
        omega
      have hp : r1.vis <+: (match o2 with
        | (r, none) => (r.vis, (-1 : Int))
        | (r, some s) => (r.vis, s)).1 := by
        obtain ⟨r2, _ | s2⟩ := o2 <;> exact h1.2
      refine ⟨hl, ?_, ?_⟩
      · have := hp.length_le
        rw [hl] at this; exact this
      · obtain ⟨t, ht⟩ := hp
        refine (congrArg (List.take f) ht.symm).trans ?_
        show List.take f (r1.vis ++ t) = r1.vis
        rw [← hl]
        simp
    · rw [if_neg hs] at h1
      rw [h1]
      exact ⟨fun _ => rfl, fun h => absurd h hs⟩

end Gr
end Sp
end Go.Proofs.YtiopfihjmkfdmaaGreatDoor
