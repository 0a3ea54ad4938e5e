/- What was written of a sum is read back (plain mathematics). -/
import Derived.Test.YtjkllmiikdlhhaaGreatDoorLex
namespace Go.Proofs.YtjkllmiikdlhhaaGreatDoor
namespace Sp

def RU (x : Nat × Bs) (t : Bs) (o : Nat) : Prop := ∀ o' n r, o' ≤ o → t.length ≤ n → Brk r → pUnary Pr n o' (t ++ r) = .ok (x, skip r)
def RP (x : Nat × Bs) (t : Bs) (o : Nat) : Prop := ∀ o' n r, o' ≤ o → t.length ≤ n → Brk r → ∃ m, (skip r).length < m ∧ pProd Pr (pUnary Pr n o') (t ++ r) = pChain Pr 1 (pUnary Pr n o') m x (skip r)
/-- no sign of a product comes next -/
def No1 (r : Bs) : Prop := ∀ k, opOf (tok (skip r)) = some k → opLevel k ≠ 1
def RS (x : Nat × Bs) (t : Bs) (o : Nat) : Prop := ∀ o' n r, o' ≤ o → t.length ≤ n → Brk r → No1 r → ∃ m, (skip r).length < m ∧ pSum Pr (pUnary Pr n o') (t ++ r) = pChain Pr 0 (pProd Pr (pUnary Pr n o')) m x (skip r)

theorem pChain_succ (A : Alg) (lv : Nat) (part : Bs → R A.S) (m : Nat) (x : A.S) (l : Bs) : pChain A lv part (m + 1) x l = (match opOf (tok l) with
    | some k => if opLevel k = lv then (match part (next l) with
        | .ok (y, l') => pChain A lv part m (A.bin k x y) l'
        | .error e => .error e) else .ok (x, l)
    | none => .ok (x, l)) := rfl

theorem stop1 {u : Bs → R Pr.S} {m : Nat} {x : Nat × Bs} {r : Bs} (h : No1 r) : pChain Pr 1 u m x (skip r) = .ok (x, skip r) := by
  cases m with
  | zero => rfl
  | succ m =>
    rw [pChain_succ Pr 1 u m x (skip r)]
    split
    · next k hk => rw [if_neg (h k hk)]
    · rfl
theorem stop0 {u : Bs → R Pr.S} {m : Nat} {x : Nat × Bs} {r : Bs} (h : opOf (tok r) = none) : pChain Pr 0 u m x r = .ok (x, r) := by
  cases m with
  | zero => rfl
  | succ m =>
    rw [pChain_succ Pr 0 u m x r, h]

theorem RU.rp {x : Nat × Bs} {t : Bs} {o : Nat} (h : RU x t o) : RP x t o := by
  intro o' n r ho hn hr
  refine ⟨(skip r).length + 1, by omega, ?_⟩
  unfold pProd pWith
  rw [h o' n r ho hn hr]
theorem RP.rs {x : Nat × Bs} {t : Bs} {o : Nat} (h : RP x t o) : RS x t o := by
  intro o' n r ho hn hr h1
  obtain ⟨m, _, he⟩ := h o' n r ho hn hr
  rw [stop1 h1] at he
  refine ⟨(skip r).length + 1, by omega, ?_⟩
  unfold pSum pWith
  rw [he]
theorem RU.mono {x : Nat × Bs} {t : Bs} {o o1 : Nat} (h : RU x t o1) (ho : o ≤ o1) : RU x t o := fun o' n r k => h o' n r (by omega)
theorem RP.mono {x : Nat × Bs} {t : Bs} {o o1 : Nat} (h : RP x t o1) (ho : o ≤ o1) : RP x t o := fun o' n r k => h o' n r (by omega)
theorem RS.mono {x : Nat × Bs} {t : Bs} {o o1 : Nat} (h : RS x t o1) (ho : o ≤ o1) : RS x t o := fun o' n r k => h o' n r (by omega)

theorem sign_tok {k : Nat} (hk : k < 5) (z : Bs) : tok (opSign k ++ 32 :: z) = opSign k ∧ next (opSign k ++ 32 :: z) = skip z ∧ skip (32 :: (opSign k ++ 32 :: z)) = opSign k ++ 32 :: z ∧ opOf (opSign k) = some k ∧ (opSign k).length = 1 := by
  match k, hk with
  | 0, _ => exact ⟨(tok_one (c := 43) (by decide) (fun h => absurd h (by decide))).1, (tok_one (c := 43) (by decide) (fun h => absurd h (by decide))).2.1.trans (skip_32 z), (skip_32 _).trans (skip_nb _ (by decide)), rfl, rfl⟩
  | 1, _ => exact ⟨(tok_one (c := 45) (by decide) (fun h => absurd h (by decide))).1, (tok_one (c := 45) (by decide) (fun h => absurd h (by decide))).2.1.trans (skip_32 z), (skip_32 _).trans (skip_nb _ (by decide)), rfl, rfl⟩
  | 2, _ => exact ⟨(tok_one (c := 42) (by decide) (fun h => absurd h (by decide))).1, (tok_one (c := 42) (by decide) (fun h => absurd h (by decide))).2.1.trans (skip_32 z), (skip_32 _).trans (skip_nb _ (by decide)), rfl, rfl⟩
  | 3, _ => exact ⟨(tok_one (c := 47) (by decide) (fun h => absurd h (by decide))).1, (tok_one (c := 47) (by decide) (fun h => absurd h (by decide))).2.1.trans (skip_32 z), (skip_32 _).trans (skip_nb _ (by decide)), rfl, rfl⟩
  | 4, _ => exact ⟨(tok_one (c := 37) (by decide) (fun h => absurd h (by decide))).1, (tok_one (c := 37) (by decide) (fun h => absurd h (by decide))).2.1.trans (skip_32 z), (skip_32 _).trans (skip_nb _ (by decide)), rfl, rfl⟩

theorem RP.bin {x y : Nat × Bs} {tx ty : Bs} {o k : Nat} (hk : k < 5) (hl : opLevel k = 1) (hx : RP x tx o) (hy : RU y ty o) (ny : NB ty) :
    RP (Pr.bin k x y) (tx ++ [32] ++ opSign k ++ [32] ++ ty) o := by
  intro o' n r ho hn hr
  obtain ⟨s1, s2, s3, s4, s5⟩ := sign_tok hk (ty ++ r)
  rw [show (tx ++ [32] ++ opSign k ++ [32] ++ ty) ++ r = tx ++ (32 :: (opSign k ++ 32 :: (ty ++ r))) by simp]
  simp only [List.length_append, List.length_cons, List.length_nil] at hn
  obtain ⟨m, hm, he⟩ := hx o' n _ ho (by omega) (brk_32 _)
  rw [he]
  rw [s3] at hm ⊢
  obtain ⟨m', rfl⟩ : ∃ m', m = m' + 1 := ⟨m - 1, by omega⟩
  refine ⟨m', ?_, ?_⟩
  · simp only [List.length_append, List.length_cons] at hm
    have := skip_len r
    omega
  · rw [pChain_succ Pr 1 _ m' x _, s1, s4]
    simp only [hl, if_true]
    rw [s2, ny.skip, hy o' n r ho (by omega) hr]

theorem RS.bin {x y : Nat × Bs} {tx ty : Bs} {o k : Nat} (hk : k < 5) (hl : opLevel k = 0) (hx : RS x tx o) (hy : RP y ty o) (ny : NB ty) :
    RS (Pr.bin k x y) (tx ++ [32] ++ opSign k ++ [32] ++ ty) o := by
  intro o' n r ho hn hr h1
  obtain ⟨s1, s2, s3, s4, s5⟩ := sign_tok hk (ty ++ r)
  rw [show (tx ++ [32] ++ opSign k ++ [32] ++ ty) ++ r = tx ++ (32 :: (opSign k ++ 32 :: (ty ++ r))) by simp]
  simp only [List.length_append, List.length_cons, List.length_nil] at hn
  obtain ⟨m, hm, he⟩ := hx o' n (32 :: (opSign k ++ 32 :: (ty ++ r))) ho (by omega) (brk_32 _) (by
    intro k' hk'
    rw [s3, s1, s4] at hk'
    cases hk'
    omega)
  rw [he]
  rw [s3] at hm ⊢
  obtain ⟨m', rfl⟩ : ∃ m', m = m' + 1 := ⟨m - 1, by omega⟩
  refine ⟨m', ?_, ?_⟩
  · simp only [List.length_append, List.length_cons] at hm
    have := skip_len r
    omega
  · obtain ⟨m2, _, he2⟩ := hy o' n r ho (by omega) hr
    rw [stop1 h1] at he2
    rw [pChain_succ Pr 0 _ m' x _, s1, s4]
    simp only [hl, if_true]
    rw [s2, ny.skip, he2]

theorem RU.bracket {x : Nat × Bs} {t : Bs} {o : Nat} (h : RS x t (o + 1)) (nt : NB t) (ho : o < 12) : RU x ([40] ++ t ++ [41]) o := by
  intro o' n r ho' hn hr
  simp only [List.length_append, List.length_cons, List.length_nil] at hn
  obtain ⟨n', rfl⟩ : ∃ n', n = n' + 1 := ⟨n - 1, by omega⟩
  rw [show ([40] ++ t ++ [41]) ++ r = 40 :: (t ++ 41 :: r) by simp]
  obtain ⟨q1, q2, q3⟩ := tok_one (c := 40) (r := t ++ 41 :: r) (by decide) (fun h => absurd h (by decide))
  obtain ⟨p1, p2, _⟩ := tok_one (c := 41) (r := r) (by decide) (fun h => absurd h (by decide))
  have hsk : skip (41 :: r) = 41 :: r := skip_nb _ (by decide)
  have hop : opOf (tok (41 :: r)) = none := by rw [p1]; rfl
  obtain ⟨m, _, he⟩ := h (o' + 1) n' (41 :: r) (by omega) (by omega) (brk_41 r) (by
    intro k hk
    rw [hsk, hop] at hk
    cases hk)
  rw [hsk, stop0 hop] at he
  unfold pUnary
  rw [if_neg (by rw [q3]; decide), if_neg (by rw [q3]; decide), if_neg (by rw [q1]; decide)]
  unfold enter
  rw [if_pos q1, if_neg (by omega), q2, nt.skip]
  simp only
  rw [he]
  simp only
  unfold take
  rw [if_pos p1, p2]

theorem RU.neg {x : Nat × Bs} {t : Bs} {o : Nat} (y : Nat × Bs) (hy : y = Pr.neg x) (h : RU x t (o + 1)) (nt : NB t) (ho : o < 12) : RU y ([45] ++ t) o := by
  intro o' n r ho' hn hr
  simp only [List.length_append, List.length_cons, List.length_nil] at hn
  obtain ⟨n', rfl⟩ : ∃ n', n = n' + 1 := ⟨n - 1, by omega⟩
  rw [show ([45] ++ t) ++ r = 45 :: (t ++ r) by simp]
  obtain ⟨q1, q2, q3⟩ := tok_one (c := 45) (r := t ++ r) (by decide) (fun h => absurd h (by decide))
  have he := h (o' + 1) n' r (by omega) (by omega) hr
  unfold pUnary
  rw [if_neg (by rw [q3]; decide), if_neg (by rw [q3]; decide), if_pos q1]
  unfold enter
  rw [if_pos q1, if_neg (by omega), q2, nt.skip]
  simp only
  rw [he, hy]

/-- a sum, product or unary that is read back -/
structure G (o : Nat) (x : Nat × Bs) : Prop where
  nb : NB x.2
  le : x.1 ≤ 2
  u : x.1 = 2 → RU x x.2 o
  p : 1 ≤ x.1 → RP x x.2 o
  s : RS x x.2 o
structure PV (o : Nat) (x : Nat × Bs) : Prop where
  g : G o x
  p : RP x (part x 1) o
structure UV (o : Nat) (x : Nat × Bs) : Prop where
  g : G o x
  p : RP x (part x 1) o
  u : RU x (part x 2) o

theorem part_nb {x : Nat × Bs} (h : NB x.2) (lv : Nat) : NB (part x lv) := by
  unfold part; split
  · exact ⟨40, x.2 ++ [41], by simp, by decide⟩
  · exact h
theorem part_ge {x : Nat × Bs} {lv : Nat} (h : lv ≤ x.1) : part x lv = x.2 := by unfold part; rw [if_neg (by omega)]
theorem part_lt {x : Nat × Bs} {lv : Nat} (h : x.1 < lv) : part x lv = [40] ++ x.2 ++ [41] := by unfold part; rw [if_pos h]

/-- what stands for itself -/
theorem UV.leaf {o : Nat} {x : Nat × Bs} (h2 : x.1 = 2) (hn : NB x.2) (hu : RU x x.2 o) : UV o x :=
  ⟨⟨hn, by omega, fun _ => hu, fun _ => hu.rp, hu.rp.rs⟩, by rw [part_ge (by omega)]; exact hu.rp, by rw [part_ge (by omega)]; exact hu⟩
theorem UV.bracket {o : Nat} {x : Nat × Bs} (h : G (o + 1) x) (ho : o < 12) : UV o x := by
  have hb : RU x ([40] ++ x.2 ++ [41]) o := RU.bracket h.s h.nb ho
  refine ⟨⟨h.nb, h.le, fun k => (h.u k).mono (by omega), fun k => (h.p k).mono (by omega), h.s.mono (by omega)⟩, ?_, ?_⟩
  · by_cases k : x.1 < 1
    · rw [part_lt k]; exact hb.rp
    · rw [part_ge (by omega)]; exact (h.p (by omega)).mono (by omega)
  · by_cases k : x.1 < 2
    · rw [part_lt k]; exact hb
    · have := h.le
      rw [part_ge (by omega)]; exact (h.u (by omega)).mono (by omega)
theorem UV.neg {o : Nat} {x : Nat × Bs} (h : UV (o + 1) x) (ho : o < 12) : UV o (Pr.neg x) :=
  UV.leaf rfl ⟨45, part x 2, rfl, by decide⟩ (RU.neg _ rfl h.u (part_nb h.g.nb 2) ho)
theorem UV.num {o n : Nat} (hn : n ≤ 32767) : UV o (Pr.num n) := by
  refine UV.leaf rfl (digits_nb hn) ?_
  intro o' m r _ hm hr
  obtain ⟨h1, h2, h3⟩ := digits_spec hn
  obtain ⟨q1, q2, q3⟩ := tok_digits h1 h2 hr.dig
  have hm' : (digits n).length ≤ m := hm
  have : 0 < (digits n).length := List.length_pos_iff.2 h1
  obtain ⟨m', rfl⟩ : ∃ m', m = m' + 1 := ⟨m - 1, by omega⟩
  show pUnary Pr (m' + 1) o' (digits n ++ r) = _
  unfold pUnary
  rw [if_pos q3, q1, h3, q2]
theorem UV.name {o k : Nat} (hk : k < 8) : UV o (Pr.name k) := by
  refine UV.leaf rfl (letter_nb hk) ?_
  intro o' m r _ hm hr
  obtain ⟨q1, q2, q3⟩ := tok_word (t := letter k) (r := r) (by simp [letter]) (letter_let hk) hr.let
  have hm' : (letter k).length ≤ m := hm
  simp [letter] at hm'
  obtain ⟨m', rfl⟩ : ∃ m', m = m' + 1 := ⟨m - 1, by omega⟩
  show pUnary Pr (m' + 1) o' (letter k ++ r) = _
  unfold pUnary
  rw [if_neg (by rw [q3]; decide), if_pos q3, pName_letter hk hr.let]
theorem PV.bin {o k : Nat} {x y : Nat × Bs} (hk : k < 5) (hl : opLevel k = 1) (hx : PV o x) (hy : UV o y) : PV o (Pr.bin k x y) := by
  have e : Pr.bin k x y = (1, part x 1 ++ [32] ++ opSign k ++ [32] ++ part y 2) := by simp only [Pr, hl]
  have hp := RP.bin hk hl hx.p hy.u (part_nb hy.g.nb 2)
  rw [e] at hp ⊢
  have hn : NB (part x 1 ++ [32] ++ opSign k ++ [32] ++ part y 2) := ((((part_nb hx.g.nb 1).app _).app _).app _).app _
  have e2 : part (1, part x 1 ++ [32] ++ opSign k ++ [32] ++ part y 2) 1 = part x 1 ++ [32] ++ opSign k ++ [32] ++ part y 2 := part_ge (Nat.le_refl 1)
  exact ⟨⟨hn, by simp, fun h => by simp at h, fun _ => hp, hp.rs⟩, by rw [e2]; exact hp⟩
theorem G.bin {o k : Nat} {x y : Nat × Bs} (hk : k < 5) (hl : opLevel k = 0) (hx : G o x) (hy : PV o y) : G o (Pr.bin k x y) := by
  have e : Pr.bin k x y = (0, x.2 ++ [32] ++ opSign k ++ [32] ++ part y 1) := by simp only [Pr, hl]; rw [part_ge (Nat.zero_le _)]
  have hp := RS.bin hk hl hx.s hy.p (part_nb hy.g.nb 1)
  rw [e] at hp ⊢
  have hn : NB (x.2 ++ [32] ++ opSign k ++ [32] ++ part y 1) := (((hx.nb.app _).app _).app _).app _
  exact ⟨hn, by simp, fun h => by simp at h, fun h => by simp at h, hp⟩

theorem opOf_lt {t : Bs} {k : Nat} (h : opOf t = some k) : k < 5 := by
  unfold opOf at h
  repeat (split at h; (cases h; decide))
  cases h
theorem level_01 (k : Nat) : opLevel k = 0 ∨ opLevel k = 1 := by unfold opLevel; split <;> simp

theorem pChain1_pv {o : Nat} {u : Bs → R Pr.S} (hu : ∀ l x l', u l = .ok (x, l') → UV o x) : ∀ m x l y l', PV o x → pChain Pr 1 u m x l = .ok (y, l') → PV o y := by
  intro m
  induction m with
  | zero => intro x l y l' hx h; cases h; exact hx
  | succ m ih =>
    intro x l y l' hx h
    rw [pChain_succ Pr 1 u m x l] at h
    split at h
    · next k hk =>
      split at h
      · next hl =>
        split at h
        · next z l1 hz => exact ih _ _ _ _ (PV.bin (opOf_lt hk) hl hx (hu _ _ _ hz)) h
        · cases h
      · cases h; exact hx
    · cases h; exact hx
theorem pProd_pv {o : Nat} {u : Bs → R Pr.S} (hu : ∀ l x l', u l = .ok (x, l') → UV o x) {l : Bs} {y : Nat × Bs} {l' : Bs} (h : pProd Pr u l = .ok (y, l')) : PV o y := by
  unfold pProd pWith at h
  split at h
  · next x l1 hx => exact pChain1_pv hu _ _ _ _ _ ⟨(hu _ _ _ hx).g, (hu _ _ _ hx).p⟩ h
  · cases h
theorem pChain0_g {o : Nat} {u : Bs → R Pr.S} (hu : ∀ l x l', u l = .ok (x, l') → PV o x) : ∀ m x l y l', G o x → pChain Pr 0 u m x l = .ok (y, l') → G o y := by
  intro m
  induction m with
  | zero => intro x l y l' hx h; cases h; exact hx
  | succ m ih =>
    intro x l y l' hx h
    rw [pChain_succ Pr 0 u m x l] at h
    split at h
    · next k hk =>
      split at h
      · next hl =>
        split at h
        · next z l1 hz => exact ih _ _ _ _ (G.bin (opOf_lt hk) hl hx (hu _ _ _ hz)) h
        · cases h
      · cases h; exact hx
    · cases h; exact hx
theorem pSum_g {o : Nat} {u : Bs → R Pr.S} (hu : ∀ l x l', u l = .ok (x, l') → UV o x) {l : Bs} {y : Nat × Bs} {l' : Bs} (h : pSum Pr u l = .ok (y, l')) : G o y := by
  unfold pSum pWith at h
  split at h
  · next x l1 hx => exact pChain0_g (fun l x l' h => pProd_pv hu h) _ _ _ _ _ (pProd_pv hu hx).g h
  · cases h
theorem enter_ok {t : Bs} {o : Nat} {l l' : Bs} (h : enter t o l = .ok l') (ho : o ≤ 12) : o < 12 := by
  unfold enter at h
  split at h
  · split at h
    · cases h
    · omega
  · cases h
theorem pUnary_uv : ∀ n o l x l', o ≤ 12 → pUnary Pr n o l = .ok (x, l') → UV o x := by
  intro n
  induction n with
  | zero => intro o l x l' _ h; cases h
  | succ n ih =>
    intro o l x l' ho h
    unfold pUnary at h
    split at h
    · split at h
      · next v hv => cases h; exact UV.num (numVal_le hv)
      · cases h
    · split at h
      · split at h
        · next k l1 hk => cases h; exact UV.name (pName_lt8 hk)
        · cases h
      · split at h
        · split at h
          · next l1 he =>
            split at h
            · next y l2 hy => cases h; exact UV.neg (ih _ _ _ _ (enter_ok he ho) hy) (enter_ok he ho)
            · cases h
          · cases h
        · split at h
          · next l1 he =>
            split at h
            · next y l2 hy =>
              split at h
              · cases h; exact UV.bracket (pSum_g (fun l x l' h => ih _ _ _ _ (enter_ok he ho) h) hy) (enter_ok he ho)
              · cases h
            · cases h
          · cases h
theorem pS_g {o : Nat} {l : Bs} {x : Nat × Bs} {l' : Bs} (ho : o ≤ 12) (h : pS Pr o l = .ok (x, l')) : G o x :=
  pSum_g (fun _ _ _ h => pUnary_uv _ _ _ _ _ ho h) h
/-- a sum's text is read as it was -/
theorem G.read {o : Nat} {x : Nat × Bs} (h : G o x) {o' : Nat} (ho : o' ≤ o) {r : Bs} (hr : Brk r) (hn : opOf (tok (skip r)) = none) : pS Pr o' (x.2 ++ r) = .ok (x, skip r) := by
  unfold pS
  obtain ⟨m, _, he⟩ := h.s o' ((x.2 ++ r).length + 1) r ho (by simp; omega) hr (by intro k hk; rw [hn] at hk; cases hk)
  rw [he, stop0 hn]

end Sp
end Go.Proofs.YtjkllmiikdlhhaaGreatDoor
