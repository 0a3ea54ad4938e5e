import Derived.Test.YtiopfihjmkfdmaaGreatDoorU25
namespace Go.Proofs.YtiopfihjmkfdmaaGreatDoor
namespace Sp
theorem ivAb (steps : List Int) : Ab (ivRk steps) where
 keep x y _ h := by
  have h1 : x.a ≤ y.a := h.1
  have h2 : y.b ≤ x.b := h.2
  show (⟨min x.a y.a, max x.b y.b⟩ : Iv) = x
  refine iv_ext ?_ ?_
  ·show min x.a y.a = x.a; omega
  ·show max x.b y.b = x.b; omega
end Sp
end Go.Proofs.YtiopfihjmkfdmaaGreatDoor
namespace Go.Proofs.YtiopfihjmkfdmaaGreatDoor
namespace Sp
def nS : Sm → Nat
 | .num _ => 0
 | .name _ => 0
 | .neg x => nS x
 | .bin k x y => nS x + (if 3 ≤ k then 1 else 0) + nS y
def pB : Bl → Nat
 | .nil => 0
 | .assign _ _ t => 1 + pB t
 | .read _ t => 1 + pB t
 | .assert _ _ _ t => 1 + pB t
 | .ite _ _ _ xs els ys t => 1 + pB xs + (if els then pB ys else 0) + pB t
 | .loop _ _ _ xs t => 1 + pB xs + pB t
def qB : Bl → Nat
 | .nil => 0
 | .assign _ x t => nS x + qB t
 | .read _ t => qB t
 | .assert _ x y t => 1 + nS x + nS y + qB t
 | .ite _ x y xs els ys t => nS x + nS y + qB xs + (if els then qB ys else 0) + qB t
 | .loop _ x y xs t => nS x + nS y + qB xs + qB t
theorem ptUp_eq {ct : Ct} (h : 0 ≤ ct.1) (h' : ct.1 ≤ 1000000) : ptUp ct = (ct.1 + 1, ct.2) := by
 unfold ptUp RowKit.wrap64
 simp
 omega
theorem siteUp_eq {ct : Ct} (h : 0 ≤ ct.2) (h' : ct.2 ≤ 1000000) : siteUp ct = (ct.1, ct.2 + 1) := by
 unfold siteUp RowKit.wrap64
 simp
 omega
theorem cS_sm : ∀ (x : Sm) (ct : Ct), 0 ≤ ct.2 → ct.2 + nS x ≤ 1000000 → cS x ct = (ct.1, ct.2 + nS x)
 | .num _, ct, _, _ => by simp [cS, nS]
 | .name _, ct, _, _ => by simp [cS, nS]
 | .neg x, ct, h, h' => cS_sm x ct h h'
 | .bin k x y, ct, h, h' => by
  have h'' : ct.2 + ((nS x + (if 3 ≤ k then 1 else 0) + nS y : Nat) : Int) ≤ 1000000 := h'
  show cS y (if 3 ≤ k then siteUp (cS x ct) else cS x ct) = (ct.1, ct.2 + ((nS x + (if 3 ≤ k then 1 else 0) + nS y : Nat) : Int))
  rw [cS_sm x ct h (by split at h'' <;> omega)]
  by_cases h3 : 3 ≤ k
  ·rw [if_pos h3, if_pos h3] at *
   rw [siteUp_eq (by simp; omega) (by simp; omega)]
   rw [cS_sm y _ (by simp; omega) (by simp; omega)]
   simp; omega
  ·rw [if_neg h3, if_neg h3] at *
   rw [cS_sm y _ (by simp; omega) (by simp; omega)]
   simp; omega
def Small (ct : Ct) (n m : Nat) : Prop := 0 ≤ ct.1 ∧ 0 ≤ ct.2 ∧ ct.1 + n ≤ 1000000 ∧ ct.2 + m ≤ 1000000
theorem cB_sm : ∀ (t : Bl) (ct : Ct), Small ct (pB t) (qB t) → cB t ct = (ct.1 + pB t, ct.2 + qB t)
 | .nil, ct, _ => by simp [cB, pB, qB]
 | .assign _ x t, ct, ⟨h1, h2, h3, h4⟩ => by
  simp only [pB, qB] at h3 h4
  show cB t (cS x (ptUp ct)) = _
  rw [ptUp_eq h1 (by omega), cS_sm x (ct.1 + 1, ct.2) h2 (by simp; omega), cB_sm t _ ⟨by simp; omega, by simp; omega, by simp; omega, by simp; omega⟩]
  simp [pB, qB]; omega
 | .read _ t, ct, ⟨h1, h2, h3, h4⟩ => by
  simp only [pB, qB] at h3 h4
  show cB t (ptUp ct) = _
  rw [ptUp_eq h1 (by omega), cB_sm t _ ⟨by simp; omega, by simp; omega, by simp; omega, by simp; omega⟩]
  simp [pB, qB]; omega
 | .assert _ x y t, ct, ⟨h1, h2, h3, h4⟩ => by
  simp only [pB, qB] at h3 h4
  show cB t (cS y (cS x (siteUp (ptUp ct)))) = _
  rw [ptUp_eq h1 (by omega), siteUp_eq (by simp; omega) (by simp; omega), cS_sm x _ (by simp; omega) (by simp; omega), cS_sm y _ (by simp; omega) (by simp; omega), cB_sm t _ ⟨by simp; omega, by simp; omega, by simp; omega, by simp; omega⟩]
  simp [pB, qB]; omega
 | .ite _ x y xs true ys t, ct, ⟨h1, h2, h3, h4⟩ => by
  simp only [pB, qB, if_true] at h3 h4
  show cB t (cB ys (cB xs (cS y (cS x (ptUp ct))))) = _
  rw [ptUp_eq h1 (by omega), cS_sm x _ (by simp; omega) (by simp; omega), cS_sm y _ (by simp; omega) (by simp; omega), cB_sm xs _ ⟨by simp; omega, by simp; omega, by simp; omega, by simp; omega⟩, cB_sm ys _ ⟨by simp; omega, by simp; omega, by simp; omega, by simp; omega⟩, cB_sm t _ ⟨by simp; omega, by simp; omega, by simp; omega, by simp; omega⟩]
  simp [pB, qB]; omega
 | .ite _ x y xs false ys t, ct, ⟨h1, h2, h3, h4⟩ => by
  simp only [pB, qB] at h3 h4
  show cB t (cB xs (cS y (cS x (ptUp ct)))) = _
  simp at h3 h4
  rw [ptUp_eq h1 (by omega), cS_sm x _ (by simp; omega) (by simp; omega), cS_sm y _ (by simp; omega) (by simp; omega), cB_sm xs _ ⟨by simp; omega, by simp; omega, by simp; omega, by simp; omega⟩, cB_sm t _ ⟨by simp; omega, by simp; omega, by simp; omega, by simp; omega⟩]
  simp [pB, qB]; omega
 | .loop _ x y xs t, ct, ⟨h1, h2, h3, h4⟩ => by
  simp only [pB, qB] at h3 h4
  show cB t (cB xs (cS y (cS x (ptUp ct)))) = _
  rw [ptUp_eq h1 (by omega), cS_sm x _ (by simp; omega) (by simp; omega), cS_sm y _ (by simp; omega) (by simp; omega), cB_sm xs _ ⟨by simp; omega, by simp; omega, by simp; omega, by simp; omega⟩, cB_sm t _ ⟨by simp; omega, by simp; omega, by simp; omega, by simp; omega⟩]
  simp [pB, qB]; omega
section
variable {D : Dom}
def EvIn (lo hi : Ct) : Tel D.V → Prop
 | .point p _ => lo.1 ≤ p ∧ p < hi.1
 | .site q _ => lo.2 ≤ q ∧ q < hi.2
theorem EvIn.mono {lo hi lo' hi' : Ct} {x : Tel D.V} (h : EvIn lo hi x) (h1 : lo'.1 ≤ lo.1) (h2 : lo'.2 ≤ lo.2) (h3 : hi.1 ≤ hi'.1) (h4 : hi.2 ≤ hi'.2) : EvIn lo' hi' x := by
 cases x with
 | point p s => exact ⟨Int.le_trans h1 h.1, Int.lt_of_lt_of_le h.2 h3⟩
 | site q b => exact ⟨Int.le_trans h2 h.1, Int.lt_of_lt_of_le h.2 h4⟩
theorem anS_in : ∀ (x : Sm) (ct : Ct) (e : D.Env), 0 ≤ ct.2 → ct.2 + nS x ≤ 1000000 → ∀ ev ∈ (anS D x ct e).1, EvIn ct (ct.1, ct.2 + nS x) ev
 | .num _, _, _, _, _, ev, h => by cases h
 | .name _, _, _, _, _, ev, h => by cases h
 | .neg x, ct, e, h1, h2, ev, h => anS_in x ct e h1 h2 ev h
 | .bin k x y, ct, e, h1, h2, ev, h => by
  have h2' : ct.2 + ((nS x + (if 3 ≤ k then 1 else 0) + nS y : Nat) : Int) ≤ 1000000 := h2
  have hx := anS_in x ct e h1 (by split at h2' <;> omega)
  have ec := cS_sm x ct h1 (by split at h2' <;> omega)
  have hm1 : ∀ ev ∈ (anS D x ct e).1, EvIn ct (ct.1, ct.2 + (nS (.bin k x y) : Nat)) ev := fun ev h => (hx ev h).mono (Int.le_refl _) (Int.le_refl _) (Int.le_refl _) (by show ct.2 + (nS x : Int) ≤ ct.2 + ((nS x + (if 3 ≤ k then 1 else 0) + nS y : Nat) : Int); omega)
  have hm2 : ∀ ev ∈ (anS D y (if 3 ≤ k then siteUp (cS x ct) else cS x ct) e).1, EvIn ct (ct.1, ct.2 + (nS (.bin k x y) : Nat)) ev := by
   rw [ec]
   intro ev h
   by_cases h3 : 3 ≤ k
   ·rw [if_pos h3] at h h2'
    rw [siteUp_eq (by simp; omega) (by simp; omega)] at h
    refine (anS_in y _ e (by simp; omega) (by simp; omega) ev h).mono (Int.le_refl _) (by simp; omega) (Int.le_refl _) ?_
    simp [nS, h3]; omega
   ·rw [if_neg h3] at h h2'
    refine (anS_in y _ e (by simp; omega) (by simp; omega) ev h).mono (Int.le_refl _) (by simp; omega) (Int.le_refl _) ?_
    simp [nS, h3]; omega
  unfold anS at h
  split at h
  ·next e1 k1 => exact hm1 ev (by rw [k1]; exact h)
  ·next e1 a k1 =>
   split at h
   ·next e2 k2 =>
    rcases List.mem_append.1 h with h | h
    ·exact hm1 ev (by rw [k1]; exact h)
    ·exact hm2 ev (by rw [k2]; exact h)
   ·next e2 b k2 =>
    rcases List.mem_append.1 h with h | h
    ·rcases List.mem_append.1 h with h | h
     ·exact hm1 ev (by rw [k1]; exact h)
     ·exact hm2 ev (by rw [k2]; exact h)
    ·by_cases h3 : 3 ≤ k
     ·rw [if_pos h3] at h
      have := List.mem_singleton.1 h
      subst this
      rw [ec]
      simp [EvIn, nS, h3]; omega
     ·rw [if_neg h3] at h
      cases h
theorem anC_in (k : Nat) (x y : Sm) (ct : Ct) (s : D.St) (h1 : 0 ≤ ct.2) (h2 : ct.2 + nS x + nS y ≤ 1000000) : ∀ ev ∈ (anC D k x y ct s).1, EvIn ct (ct.1, ct.2 + nS x + nS y) ev := by
 intro ev h
 have ec := cS_sm x ct h1 (by omega)
 cases s with
 | none => cases h
 | some e =>
  have hm1 : ∀ ev ∈ (anS D x ct e).1, EvIn ct (ct.1, ct.2 + nS x + nS y) ev := fun ev h => (anS_in x ct e h1 (by omega) ev h).mono (Int.le_refl _) (Int.le_refl _) (Int.le_refl _) (by simp; omega)
  have hm2 : ∀ ev ∈ (anS D y (cS x ct) e).1, EvIn ct (ct.1, ct.2 + nS x + nS y) ev := fun ev h => by
   rw [ec] at h
   exact (anS_in y _ e (by simp; omega) (by simp; omega) ev h).mono (Int.le_refl _) (by simp; omega) (Int.le_refl _) (by simp)
  unfold anC at h
  simp only at h
  split at h
  ·next e1 k1 => exact hm1 ev (by rw [k1]; exact h)
  ·next e1 a k1 =>
   split at h
   ·next e2 k2 =>
    rcases List.mem_append.1 h with h | h
    ·exact hm1 ev (by rw [k1]; exact h)
    ·exact hm2 ev (by rw [k2]; exact h)
   ·next e2 b k2 =>
    rcases List.mem_append.1 h with h | h
    ·exact hm1 ev (by rw [k1]; exact h)
    ·exact hm2 ev (by rw [k2]; exact h)
theorem unrF_all {Q : Tel D.V → Prop} {cond : CondF D} {body : BodyF D} {p : Int} (hp : ∀ e, Q (.point p e)) (hc : ∀ s, ∀ ev ∈ (cond s).1, Q ev) (hb : ∀ s, ∀ ev ∈ (body s).1, Q ev) : ∀ (n : Nat) (out s : D.St), ∀ ev ∈ (unrF D cond body p n out s).1, Q ev
 | 0, _, _, ev, h => by cases h
 | n + 1, out, s, ev, h => by
  have h : ev ∈ telP D p s ++ (cond s).1 ++ (body (cond s).2.1).1 ++ (unrF D cond body p n (jn D out (cond s).2.2) (body (cond s).2.1).2).1 := h
  rcases List.mem_append.1 h with h | h
  ·rcases List.mem_append.1 h with h | h
   ·rcases List.mem_append.1 h with h | h
    ·cases s with
     | none => cases h
     | some e => have := List.mem_singleton.1 h; subst this; exact hp e
    ·exact hc _ ev h
   ·exact hb _ ev h
  ·exact unrF_all hp hc hb n _ _ ev h
theorem anW_all {Q : Tel D.V → Prop} {P : Pol} {cond : CondF D} {body : BodyF D} {p : Int} (hp : ∀ e, Q (.point p e)) (hc : ∀ s, ∀ ev ∈ (cond s).1, Q ev) (hb : ∀ s, ∀ ev ∈ (body s).1, Q ev) (s : D.St) : ∀ ev ∈ (anW D P cond body p s).1, Q ev := by
 intro ev h
 have h : ev ∈ (unrF D cond body p P.unroll none s).1 ++ telP D p (allV D P cond body (unrF D cond body p P.unroll none s).2.2) ++ (cond (allV D P cond body (unrF D cond body p P.unroll none s).2.2)).1 ++ (body (cond (allV D P cond body (unrF D cond body p P.unroll none s).2.2)).2.1).1 := h
 rcases List.mem_append.1 h with h | h
 ·rcases List.mem_append.1 h with h | h
  ·rcases List.mem_append.1 h with h | h
   ·exact unrF_all hp hc hb _ _ _ ev h
   ·cases hi : allV D P cond body (unrF D cond body p P.unroll none s).2.2 with
    | none => rw [hi] at h; cases h
    | some e => rw [hi] at h; have := List.mem_singleton.1 h; subst this; exact hp e
  ·exact hc _ ev h
 ·exact hb _ ev h
theorem stP_all {Q : Tel D.V → Prop} {p : Int} {f : D.Env → Res D} (hp : ∀ e, Q (.point p e)) (hf : ∀ e, ∀ ev ∈ (f e).1, Q ev) {g : D.St → Res D} (hg : ∀ s, ∀ ev ∈ (g s).1, Q ev) (s : D.St) : ∀ ev ∈ (thenR D (stP D p f s) g).1, Q ev := by
 intro ev h
 rcases List.mem_append.1 h with h | h
 ·cases s with
  | none => cases h
  | some e =>
   rcases List.mem_cons.1 h with rfl | h
   ·exact hp e
   ·exact hf e ev h
 ·exact hg _ ev h
theorem anB_in (P : Pol) : ∀ (t : Bl) (ct : Ct) (_ : Small ct (pB t) (qB t)) (s : D.St), ∀ ev ∈ (anB D P t ct s).1, EvIn ct (ct.1 + pB t, ct.2 + qB t) ev
 | .nil, _, _, _, ev, h => by cases h
 | .assign k x t, ct, ⟨h1, h2, h3, h4⟩, s, ev, h => by
  simp only [pB, qB] at h3 h4
  have e0 := ptUp_eq h1 (by omega)
  have ec := cS_sm x (ptUp ct) (by rw [e0]; exact h2) (by rw [e0]; simp; omega)
  refine stP_all (Q := EvIn ct (ct.1 + pB (.assign k x t), ct.2 + qB (.assign k x t))) (fun e => ?_) (fun e ev h => ?_) (fun s ev h => ?_) s ev h
  ·simp [EvIn, pB]; omega
  ·refine (anS_in x (ptUp ct) e (by rw [e0]; exact h2) (by rw [e0]; simp; omega) ev h).mono ?_ ?_ ?_ ?_ <;> (rw [e0]; simp [pB, qB]; try omega)
  ·rw [ec, e0] at h
   refine (anB_in P t _ ⟨by simp; omega, by simp; omega, by simp; omega, by simp; omega⟩ s ev h).mono ?_ ?_ ?_ ?_ <;> (simp [pB, qB]; try omega)
 | .read k t, ct, ⟨h1, h2, h3, h4⟩, s, ev, h => by
  simp only [pB, qB] at h3 h4
  have e0 := ptUp_eq h1 (by omega)
  refine stP_all (Q := EvIn ct (ct.1 + pB (.read k t), ct.2 + qB (.read k t))) (fun e => ?_) (fun e ev h => ?_) (fun s ev h => ?_) s ev h
  ·simp [EvIn, pB]; omega
  ·cases h
  ·rw [e0] at h
   refine (anB_in P t _ ⟨by simp; omega, by simp; omega, by simp; omega, by simp; omega⟩ s ev h).mono ?_ ?_ ?_ ?_ <;> (simp [pB, qB]; try omega)
 | .assert k x y t, ct, ⟨h1, h2, h3, h4⟩, s, ev, h => by
  simp only [pB, qB] at h3 h4
  have e0 : siteUp (ptUp ct) = (ct.1 + 1, ct.2 + 1) := by rw [ptUp_eq h1 (by omega), siteUp_eq (by simp; omega) (by simp; omega)]
  have ec : cS y (cS x (siteUp (ptUp ct))) = (ct.1 + 1, ct.2 + 1 + nS x + nS y) := by
   rw [e0, cS_sm x _ (by simp; omega) (by simp; omega), cS_sm y _ (by simp; omega) (by simp; omega)]
  refine stP_all (Q := EvIn ct (ct.1 + pB (.assert k x y t), ct.2 + qB (.assert k x y t))) (fun e => ?_) (fun e ev h => ?_) (fun s ev h => ?_) s ev h
  ·simp [EvIn, pB]; omega
  ·rcases List.mem_append.1 h with h | h
   ·refine (anC_in k x y _ (some e) (by rw [e0]; simp; omega) (by rw [e0]; simp; omega) ev h).mono ?_ ?_ ?_ ?_ <;> (rw [e0]; simp [pB, qB]; try omega)
   ·have := List.mem_singleton.1 h
    subst this
    simp [EvIn, qB]; omega
  ·rw [ec] at h
   refine (anB_in P t _ ⟨by simp; omega, by simp; omega, by simp; omega, by simp; omega⟩ s ev h).mono ?_ ?_ ?_ ?_ <;> (simp [pB, qB]; try omega)
 | .ite k x y xs true ys t, ct, ⟨h1, h2, h3, h4⟩, s, ev, h => by
  simp only [pB, qB, if_true] at h3 h4
  have e0 := ptUp_eq h1 (by omega)
  have ec : cS y (cS x (ptUp ct)) = (ct.1 + 1, ct.2 + nS x + nS y) := by
   rw [e0, cS_sm x _ (by simp; omega) (by simp; omega), cS_sm y _ (by simp; omega) (by simp; omega)]
  have ex := cB_sm xs (ct.1 + 1, ct.2 + nS x + nS y) ⟨by simp; omega, by simp; omega, by simp; omega, by simp; omega⟩
  refine stP_all (Q := EvIn ct (ct.1 + pB (.ite k x y xs true ys t), ct.2 + qB (.ite k x y xs true ys t))) (fun e => ?_) (fun e ev h => ?_) (fun s ev h => ?_) s ev h
  ·simp [EvIn, pB]; omega
  ·rcases List.mem_append.1 h with h | h
   ·rcases List.mem_append.1 h with h | h
    ·refine (anC_in k x y _ (some e) (by rw [e0]; simp; omega) (by rw [e0]; simp; omega) ev h).mono ?_ ?_ ?_ ?_ <;> (rw [e0]; simp [pB, qB]; try omega)
    ·rw [ec] at h
     refine (anB_in P xs _ ⟨by simp; omega, by simp; omega, by simp; omega, by simp; omega⟩ _ ev h).mono ?_ ?_ ?_ ?_ <;> (simp [pB, qB]; try omega)
   ·rw [ec, ex] at h
    refine (anB_in P ys _ ⟨by simp; omega, by simp; omega, by simp; omega, by simp; omega⟩ _ ev h).mono ?_ ?_ ?_ ?_ <;> (simp [pB, qB]; try omega)
  ·rw [ec, ex] at h
   rw [cB_sm ys _ ⟨by simp; omega, by simp; omega, by simp; omega, by simp; omega⟩] at h
   refine (anB_in P t _ ⟨by simp; omega, by simp; omega, by simp; omega, by simp; omega⟩ s ev h).mono ?_ ?_ ?_ ?_ <;> (simp [pB, qB]; try omega)
 | .ite k x y xs false ys t, ct, ⟨h1, h2, h3, h4⟩, s, ev, h => by
  simp only [pB, qB] at h3 h4
  simp at h3 h4
  have e0 := ptUp_eq h1 (by omega)
  have ec : cS y (cS x (ptUp ct)) = (ct.1 + 1, ct.2 + nS x + nS y) := by
   rw [e0, cS_sm x _ (by simp; omega) (by simp; omega), cS_sm y _ (by simp; omega) (by simp; omega)]
  have ex := cB_sm xs (ct.1 + 1, ct.2 + nS x + nS y) ⟨by simp; omega, by simp; omega, by simp; omega, by simp; omega⟩
  refine stP_all (Q := EvIn ct (ct.1 + pB (.ite k x y xs false ys t), ct.2 + qB (.ite k x y xs false ys t))) (fun e => ?_) (fun e ev h => ?_) (fun s ev h => ?_) s ev h
  ·simp [EvIn, pB]; omega
  ·rcases List.mem_append.1 h with h | h
   ·rcases List.mem_append.1 h with h | h
    ·refine (anC_in k x y _ (some e) (by rw [e0]; simp; omega) (by rw [e0]; simp; omega) ev h).mono ?_ ?_ ?_ ?_ <;> (rw [e0]; simp [pB, qB]; try omega)
    ·rw [ec] at h
     refine (anB_in P xs _ ⟨by simp; omega, by simp; omega, by simp; omega, by simp; omega⟩ _ ev h).mono ?_ ?_ ?_ ?_ <;> (simp [pB, qB]; try omega)
   ·cases h
  ·rw [ec, ex] at h
   refine (anB_in P t _ ⟨by simp; omega, by simp; omega, by simp; omega, by simp; omega⟩ s ev h).mono ?_ ?_ ?_ ?_ <;> (simp [pB, qB]; try omega)
 | .loop k x y xs t, ct, ⟨h1, h2, h3, h4⟩, s, ev, h => by
  simp only [pB, qB] at h3 h4
  have e0 := ptUp_eq h1 (by omega)
  have ec : cS y (cS x (ptUp ct)) = (ct.1 + 1, ct.2 + nS x + nS y) := by
   rw [e0, cS_sm x _ (by simp; omega) (by simp; omega), cS_sm y _ (by simp; omega) (by simp; omega)]
  have ex := cB_sm xs (ct.1 + 1, ct.2 + nS x + nS y) ⟨by simp; omega, by simp; omega, by simp; omega, by simp; omega⟩
  refine stP_all (Q := EvIn ct (ct.1 + pB (.loop k x y xs t), ct.2 + qB (.loop k x y xs t))) (fun e => ?_) (fun e ev h => ?_) (fun s ev h => ?_) s ev h
  ·simp [EvIn, pB]; omega
  ·refine anW_all (Q := EvIn ct (ct.1 + pB (.loop k x y xs t), ct.2 + qB (.loop k x y xs t))) (fun e => ?_) (fun s ev h => ?_) (fun s ev h => ?_) _ ev h
   ·simp [EvIn, pB]; omega
   ·refine (anC_in k x y _ s (by rw [e0]; simp; omega) (by rw [e0]; simp; omega) ev h).mono ?_ ?_ ?_ ?_ <;> (rw [e0]; simp [pB, qB]; try omega)
   ·rw [ec] at h
    refine (anB_in P xs _ ⟨by simp; omega, by simp; omega, by simp; omega, by simp; omega⟩ _ ev h).mono ?_ ?_ ?_ ?_ <;> (simp [pB, qB]; try omega)
  ·rw [ec, ex] at h
   refine (anB_in P t _ ⟨by simp; omega, by simp; omega, by simp; omega, by simp; omega⟩ s ev h).mono ?_ ?_ ?_ ?_ <;> (simp [pB, qB]; try omega)
end
def SzS (n : Nat) (x : Sm) : Prop := nS x ≤ n ∧ OkS x
def SzT (n : Nat) (f : Bl → Bl) : Prop := ∀ rest, pB (f rest) ≤ n + pB rest ∧ qB (f rest) ≤ n + qB rest ∧ (OkB rest → OkB (f rest))
theorem szL : ∀ {n : Nat} {fs : List (Bl → Bl)}, Pn.QL SzT n fs → pB (joinB fs) ≤ n ∧ qB (joinB fs) ≤ n ∧ OkB (joinB fs)
 | n, [], _ => ⟨Nat.zero_le _, Nat.zero_le _, fun _ h => by cases h⟩
 | n, f :: fs, ⟨a, b, hab, h1, h2⟩ => by
  obtain ⟨d1, d2, d3⟩ := szL h2
  obtain ⟨e1, e2, e3⟩ := h1 (joinB fs)
  exact ⟨by show pB (f (joinB fs)) ≤ n; omega, by show qB (f (joinB fs)) ≤ n; omega, e3 d3⟩
theorem okB_app {l1 l2 : List Int} (h1 : ∀ n ∈ l1, I16 n) (h2 : ∀ n ∈ l2, I16 n) : ∀ n ∈ l1 ++ l2, I16 n := fun n h => by
 rcases List.mem_append.1 h with h | h
 ·exact h1 n h
 ·exact h2 n h
theorem sz_made : Pn.Made Tr (fun n (x : Sm) => SzS n x) (fun n (f : Bl → Bl) => SzT n f) where
 pm n m x h hn := ⟨by have := h.1; omega, h.2⟩
 qm n m x h hn := fun rest => ⟨by have := (h rest).1; omega, by have := (h rest).2.1; omega, (h rest).2.2⟩
 num v hv := ⟨Nat.zero_le _, fun n h => by have := List.mem_singleton.1 h; subst this; unfold I16; omega⟩
 name k _ := ⟨Nat.zero_le _, fun n h => by cases h⟩
 neg n x h := h
 bin k n m x y _ hx hy := ⟨by show nS x + (if 3 ≤ k then 1 else 0) + nS y ≤ n + m + 1; have := hx.1; have := hy.1; split <;> omega, okB_app hx.2 hy.2⟩
 assign k n x _ h := fun rest => ⟨by show 1 + pB rest ≤ _; omega, by show nS x + qB rest ≤ _; have := h.1; omega, fun hr => okB_app h.2 hr⟩
 read k _ := fun rest => ⟨by show 1 + pB rest ≤ _; omega, by show qB rest ≤ _; omega, fun hr => hr⟩
 assert k n m x y _ hx hy := fun rest => ⟨by show 1 + pB rest ≤ _; omega, by show 1 + nS x + nS y + qB rest ≤ _; have := hx.1; have := hy.1; omega, fun hr => okB_app (okB_app hx.2 hy.2) hr⟩
 ite k n m j x y xs _ hx hy hxs := fun rest => by
  obtain ⟨d1, d2, d3⟩ := szL hxs
  refine ⟨by show 1 + pB (joinB xs) + 0 + pB rest ≤ _; omega, by show nS x + nS y + qB (joinB xs) + 0 + qB rest ≤ _; have := hx.1; have := hy.1; omega, fun hr => okB_app (okB_app (okB_app (okB_app hx.2 hy.2) d3) (fun _ h => by cases h)) hr⟩
 iteElse k n m j i x y xs ys _ hx hy hxs hys := fun rest => by
  obtain ⟨d1, d2, d3⟩ := szL hxs
  obtain ⟨g1, g2, g3⟩ := szL hys
  refine ⟨by show 1 + pB (joinB xs) + pB (joinB ys) + pB rest ≤ _; omega, by show nS x + nS y + qB (joinB xs) + qB (joinB ys) + qB rest ≤ _; have := hx.1; have := hy.1; omega, fun hr => okB_app (okB_app (okB_app (okB_app hx.2 hy.2) d3) g3) hr⟩
 loop k n m j x y xs _ hx hy hxs := fun rest => by
  obtain ⟨d1, d2, d3⟩ := szL hxs
  refine ⟨by show 1 + pB (joinB xs) + pB rest ≤ _; omega, by show nS x + nS y + qB (joinB xs) + qB rest ≤ _; have := hx.1; have := hy.1; omega, fun hr => okB_app (okB_app (okB_app hx.2 hy.2) d3) hr⟩
theorem tree_small {src : Bs} {t : Bl} (h : tree src = .ok t) : pB t ≤ 400 ∧ qB t ≤ 400 ∧ OkB t := by
 unfold tree at h
 split at h
 ·next fs hp =>
  cases h
  exact szL (Pn.parse_n sz_made hp).2
 ·cases h
end Sp
end Go.Proofs.YtiopfihjmkfdmaaGreatDoor
namespace Go.Proofs.YtiopfihjmkfdmaaGreatDoor
namespace Sp
section
variable {D : Dom}
theorem tell_cons (F : Found D) (x : Tel D.V) (es : List (Tel D.V)) : tell D F (x :: es) = tell D (tell1 D F x) es := rfl
theorem tell1_len (F : Found D) (x : Tel D.V) : (tell1 D F x).1.length = F.1.length ∧ (tell1 D F x).2.length = F.2.length := by
 cases x with
 | point p s => exact ⟨by simp [tell1], rfl⟩
 | site q b => exact ⟨rfl, by simp [tell1]⟩
theorem tell_len : ∀ (es : List (Tel D.V)) (F : Found D), (tell D F es).1.length = F.1.length ∧ (tell D F es).2.length = F.2.length
 | [], _ => ⟨rfl, rfl⟩
 | x :: es, F => by
  rw [tell_cons]
  obtain ⟨h1, h2⟩ := tell_len es (tell1 D F x)
  obtain ⟨h3, h4⟩ := tell1_len F x
  exact ⟨h1.trans h3, h2.trans h4⟩
variable (M : Snd D)
def FactHas (F : Found D) (p : Nat) (st : List Int) : Prop := ∃ e, F.1[p]? = some (some e) ∧ Gm M e st
variable {M}
theorem fact1_keep {F : Found D} {p : Nat} {st : List Int} (h : FactHas M F p st) (x : Tel D.V) : FactHas M (tell1 D F x) p st := by
 obtain ⟨e, h1, h2⟩ := h
 cases x with
 | site q b => exact ⟨e, h1, h2⟩
 | point q s =>
  unfold FactHas tell1
  simp only [List.getElem?_modify, h1, Option.map_eq_map, Option.map_some]
  by_cases hq : q.toNat = p
  ·rw [if_pos hq]
   obtain ⟨e', he', hm⟩ := inS_l (M := M) (t := some s) ⟨e, rfl, h2⟩
   exact ⟨e', by rw [he'], hm⟩
  ·rw [if_neg hq]
   exact ⟨e, rfl, h2⟩
theorem fact_keep {p : Nat} {st : List Int} : ∀ (es : List (Tel D.V)) {F : Found D}, FactHas M F p st → FactHas M (tell D F es) p st
 | [], _, h => h
 | x :: es, _, h => fact_keep es (fact1_keep h x)
theorem fact_told {p : Int} {s : D.Env} {st : List Int} (hm : Gm M s st) : ∀ (es : List (Tel D.V)) (F : Found D), .point p s ∈ es → p.toNat < F.1.length → FactHas M (tell D F es) p.toNat st
 | x :: es, F, h, hl => by
  rw [tell_cons]
  rcases List.mem_cons.1 h with rfl | h
  ·refine fact_keep es ?_
   unfold FactHas tell1
   simp only [List.getElem?_modify, if_true]
   rw [List.getElem?_eq_getElem hl]
   simp only [Option.map_eq_map, Option.map_some]
   obtain ⟨e', he', hm'⟩ := inS_r (M := M) (s := F.1[p.toNat]) ⟨s, rfl, hm⟩
   exact ⟨e', by rw [he'], hm'⟩
  ·exact fact_told hm es _ h (by rw [(tell1_len F x).1]; exact hl)
theorem site1_keep {F : Found D} {q : Nat} (h : F.2[q]? = some 2) (x : Tel D.V) : (tell1 D F x).2[q]? = some 2 := by
 cases x with
 | point p s => exact h
 | site r b =>
  unfold tell1
  simp only [List.getElem?_modify, h, Option.map_eq_map, Option.map_some]
  by_cases hr : r.toNat = q
  ·rw [if_pos hr]
   cases b <;> rfl
  ·rw [if_neg hr]
theorem site_keep {q : Nat} : ∀ (es : List (Tel D.V)) {F : Found D}, F.2[q]? = some 2 → (tell D F es).2[q]? = some 2
 | [], _, h => h
 | x :: es, _, h => site_keep es (site1_keep h x)
def SitesOk (F : Found D) : Prop := ∀ (q n : Nat), F.2[q]? = some n → n ≤ 2
theorem sites1_ok {F : Found D} (h : SitesOk F) (x : Tel D.V) : SitesOk (tell1 D F x) := by
 cases x with
 | point p s => exact h
 | site r b =>
  intro q n hn
  unfold tell1 at hn
  cases hq : F.2[q]? with
  | none => simp only [List.getElem?_modify, hq] at hn; cases hn
  | some m =>
   simp only [List.getElem?_modify, hq, Option.map_eq_map, Option.map_some] at hn
   have := h q m hq
   cases hn
   split
   ·cases b <;> simp <;> omega
   ·exact this
theorem site_told {q : Int} : ∀ (es : List (Tel D.V)) (F : Found D), SitesOk F → .site q true ∈ es → q.toNat < F.2.length → (tell D F es).2[q.toNat]? = some 2
 | x :: es, F, ho, h, hl => by
  rw [tell_cons]
  rcases List.mem_cons.1 h with rfl | h
  ·refine site_keep es ?_
   unfold tell1
   simp only [List.getElem?_modify, if_true]
   rw [List.getElem?_eq_getElem hl]
   have := ho q.toNat _ (List.getElem?_eq_getElem hl)
   simp
   omega
  ·exact site_told es _ (sites1_ok ho x) h (by rw [(tell1_len F x).2]; exact hl)
theorem telP_mem {p : Int} {s : D.St} {x : Tel D.V} (h : x ∈ telP D p s) : ∃ e, s = some e ∧ x = .point p e := by
 cases s with
 | none => cases h
 | some e => exact ⟨e, rfl, List.mem_singleton.1 h⟩
def tolds (D : Dom) (P : Pol) (t : Bl) : List (Tel D.V) := (anB D P t (0, 0) (some fun _ => D.num 0)).1 ++ telP D (cB t (0, 0)).1 (anB D P t (0, 0) (some fun _ => D.num 0)).2
theorem reportOf_eq (P : Pol) (t : Bl) : reportOf D P t = tell D (List.replicate ((cB t (0, 0)).1 + 1).toNat none, List.replicate (cB t (0, 0)).2.toNat 0) (tolds D P t) := rfl
theorem run_cov (K : Rk D) (P : Pol) (t : Bl) (ht : OkB t) (ins : List Int) (hi : ∀ n ∈ ins, I16 n) (fuel : Nat) (st0 : Gm M (fun _ => D.num 0) (List.replicate 8 0)) :
  Cov M { vis := [], st := List.replicate 8 0, ins := ins, fuel := fuel } (andThen (dB t (0, 0) { vis := [], st := List.replicate 8 0, ins := ins, fuel := fuel }) (visit (cB t (0, 0)).1)) (tolds D P t) (anB D P t (0, 0) (some fun _ => D.num 0)).2 := by
 have h1 := anB_sound (M := M) K P t ht (0, 0) { vis := [], st := List.replicate 8 0, ins := ins, fuel := fuel } (fun _ => D.num 0) hi (fun _ => K.wnum 0 (by unfold I16; omega)) st0
 refine h1.andThen (fun r1 _ hi1 hs1 => ?_)
 obtain ⟨e, he, hm⟩ := hs1
 rw [he]
 exact visit_cov hi1 hm
theorem gm_zero : Gm M (fun _ => D.num 0) (List.replicate 8 0) := by
 refine ⟨by simp, fun k => ?_⟩
 have : (List.replicate 8 (0 : Int)).getD k.val 0 = 0 := by
  rw [List.getD_eq_getElem?_getD, List.getElem?_replicate]
  split <;> rfl
 rw [this]
 exact ⟨M.num 0, by unfold I16; omega⟩
theorem report_sound (K : Rk D) (M : Snd D) (P : Pol) (t : Bl) (ht : OkB t) (hp : pB t ≤ 400) (hq : qB t ≤ 400) (ins : List Int) (hi : ∀ n ∈ ins, I16 n) (fuel : Nat) :
  (∀ v ∈ (runOf (foldB Rn t) ins fuel).1, 0 ≤ v.1 ∧ v.1.toNat < (reportOf D P t).1.length ∧ FactHas M (reportOf D P t) v.1.toNat v.2) ∧
  ((runOf (foldB Rn t) ins fuel).2 < 0 ∨ ((runOf (foldB Rn t) ins fuel).2.toNat < (reportOf D P t).2.length ∧ (reportOf D P t).2[(runOf (foldB Rn t) ins fuel).2.toNat]? = some 2)) := by
 have hsm : Small (0, 0) (pB t) (qB t) := ⟨by simp, by simp, by simp; omega, by simp; omega⟩
 have hc : cB t (0, 0) = ((pB t : Int), (qB t : Int)) := by rw [cB_sm t (0, 0) hsm]; simp
 have hcov := run_cov (M := M) K P t ht ins hi fuel gm_zero
 have hin : ∀ ev ∈ tolds D P t, EvIn (0, 0) ((pB t : Int) + 1, (qB t : Int)) ev := by
  intro ev h
  rcases List.mem_append.1 h with h | h
  ·have := anB_in P t (0, 0) hsm _ ev h
   exact this.mono (Int.le_refl _) (Int.le_refl _) (by simp; omega) (by simp)
  ·obtain ⟨e, _, rfl⟩ := telP_mem h
   rw [hc]
   exact ⟨by simp, by simp; omega⟩
 have hlen : (reportOf D P t).1.length = pB t + 1 ∧ (reportOf D P t).2.length = qB t := by
  rw [reportOf_eq]
  obtain ⟨h1, h2⟩ := tell_len (tolds D P t) ((List.replicate ((cB t (0, 0)).1 + 1).toNat none, List.replicate (cB t (0, 0)).2.toNat 0) : Found D)
  rw [h1, h2, hc]
  simp
 have hrun : runOf (foldB Rn t) ins fuel = (match andThen (dB t (0, 0) { vis := [], st := List.replicate 8 0, ins := ins, fuel := fuel }) (visit (cB t (0, 0)).1) with
   | (r, none) => (r.vis, -1)
   | (r, some s) => (r.vis, s)) := by
  rw [← cB_eq]; rfl
 rw [hrun]
 generalize andThen (dB t (0, 0) { vis := [], st := List.replicate 8 0, ins := ins, fuel := fuel }) (visit (cB t (0, 0)).1) = o at hcov
 obtain ⟨r, oo⟩ := o
 obtain ⟨_, ⟨nv, h2, h3⟩, h4⟩ := hcov
 have h2 : r.vis = nv := by simpa using h2
 have hvis : ∀ v ∈ r.vis, 0 ≤ v.1 ∧ v.1.toNat < (reportOf D P t).1.length ∧ FactHas M (reportOf D P t) v.1.toNat v.2 := by
  intro v hv
  rw [h2] at hv
  obtain ⟨e, he, hm⟩ := h3 v hv
  obtain ⟨b1, b2⟩ := hin _ he
  simp at b1 b2
  refine ⟨b1, by rw [hlen.1]; omega, ?_⟩
  rw [reportOf_eq]
  refine fact_told hm _ _ he ?_
  rw [hc]
  simp
  omega
 cases oo with
 | none => exact ⟨hvis, .inl (by simp)⟩
 | some q =>
  refine ⟨hvis, ?_⟩
  rcases h4 with h4 | h4
  ·have h4 : q = -2 := h4
   subst h4
   exact .inl (by simp)
  ·obtain ⟨b1, b2⟩ := hin _ h4
   simp at b1 b2
   refine .inr ⟨by rw [hlen.2]; show q.toNat < qB t; omega, ?_⟩
   rw [reportOf_eq]
   refine site_told _ _ ?_ h4 (by rw [hc]; simp; omega)
   intro i n hn
   have := List.getElem?_replicate (a := 0) (n := (cB t (0, 0)).2.toNat) (i := i)
   have hn : (List.replicate (cB t (0, 0)).2.toNat 0)[i]? = some n := hn
   rw [this] at hn
   split at hn
   ·cases hn; omega
   ·cases hn
end
end Sp
end Go.Proofs.YtiopfihjmkfdmaaGreatDoor
namespace Go.Proofs.YtiopfihjmkfdmaaGreatDoor
namespace Sp
def FeS (n : Nat) (x : Sm) : Prop := (natsS x).length ≤ n + 1
def FeT (n : Nat) (f : Bl → Bl) : Prop := ∀ rest, (natsB (f rest)).length ≤ 2 * n + (natsB rest).length
theorem feL : ∀ {n : Nat} {fs : List (Bl → Bl)}, Pn.QL FeT n fs → (natsB (joinB fs)).length ≤ 2 * n
 | n, [], _ => Nat.zero_le _
 | n, f :: fs, ⟨a, b, hab, h1, h2⟩ => by
  have d := feL h2
  have e := h1 (joinB fs)
  show (natsB (f (joinB fs))).length ≤ 2 * n
  omega
theorem fe_made : Pn.Made Tr (fun n (x : Sm) => FeS n x) (fun n (f : Bl → Bl) => FeT n f) where
 pm n m x h hn := by unfold FeS at *; omega
 qm n m x h hn := fun rest => by have := h rest; omega
 num v hv := Nat.le_refl _
 name k _ := Nat.zero_le _
 neg n x h := h
 bin k n m x y _ hx hy := by
  show (natsS x ++ natsS y).length ≤ _
  unfold FeS at hx hy
  rw [List.length_append]; omega
 assign k n x _ h := fun rest => by
  show (natsS x ++ natsB rest).length ≤ _
  unfold FeS at h
  rw [List.length_append]; omega
 read k _ := fun rest => by show (natsB rest).length ≤ _; omega
 assert k n m x y _ hx hy := fun rest => by
  show (natsS x ++ natsS y ++ natsB rest).length ≤ _
  unfold FeS at hx hy
  simp only [List.length_append]; omega
 ite k n m j x y xs _ hx hy hxs := fun rest => by
  have d := feL hxs
  show (natsS x ++ natsS y ++ natsB (joinB xs) ++ [] ++ natsB rest).length ≤ _
  unfold FeS at hx hy
  simp only [List.length_append, List.length_nil]; omega
 iteElse k n m j i x y xs ys _ hx hy hxs hys := fun rest => by
  have d := feL hxs
  have g := feL hys
  show (natsS x ++ natsS y ++ natsB (joinB xs) ++ natsB (joinB ys) ++ natsB rest).length ≤ _
  unfold FeS at hx hy
  simp only [List.length_append]; omega
 loop k n m j x y xs _ hx hy hxs := fun rest => by
  have d := feL hxs
  show (natsS x ++ natsS y ++ natsB (joinB xs) ++ natsB rest).length ≤ _
  unfold FeS at hx hy
  simp only [List.length_append]; omega
theorem tree_few {src : Bs} {t : Bl} (h : tree src = .ok t) : (natsB t).length ≤ 800 := by
 unfold tree at h
 split at h
 ·next fs hp =>
  cases h
  exact feL (Pn.parse_n fe_made hp).2
 ·cases h
theorem report_len (D : Dom) (P : Pol) (t : Bl) (h : Small (0, 0) (pB t) (qB t)) : (reportOf D P t).1.length = pB t + 1 ∧ (reportOf D P t).2.length = qB t := by
 rw [reportOf_eq, (tell_len _ _).1, (tell_len _ _).2, cB_sm t (0, 0) h]
 simp
end Sp
end Go.Proofs.YtiopfihjmkfdmaaGreatDoor
namespace Go.Proofs.YtiopfihjmkfdmaaGreatDoor
namespace Sp
section
variable (D : Dom) (P : Pol)
def LoopsB (T : Int → D.St → Res D) : Bl → Ct → Prop
 | .nil, _ => True
 | .assign _ x t, ct => LoopsB T t (cS x (ptUp ct))
 | .read _ t, ct => LoopsB T t (ptUp ct)
 | .assert _ x y t, ct => LoopsB T t (cS y (cS x (siteUp (ptUp ct))))
 | .ite _ x y xs true ys t, ct => LoopsB T xs (cS y (cS x (ptUp ct))) ∧ LoopsB T ys (cB xs (cS y (cS x (ptUp ct)))) ∧ LoopsB T t (cB ys (cB xs (cS y (cS x (ptUp ct)))))
 | .ite _ x y xs false _ t, ct => LoopsB T xs (cS y (cS x (ptUp ct))) ∧ LoopsB T t (cB xs (cS y (cS x (ptUp ct))))
 | .loop k x y xs t, ct => ((0 ≤ ct.1 ∧ ct.1 ≤ 1000000) ∧ ∀ s, T ct.1 s = anW D P (anC D k x y (ptUp ct)) (anB D P xs (cS y (cS x (ptUp ct)))) ct.1 s) ∧ LoopsB T xs (cS y (cS x (ptUp ct))) ∧ LoopsB T t (cB xs (cS y (cS x (ptUp ct))))
def tabB : Bl → Ct → Int → D.St → Res D
 | .nil, _, _, s => ([], s)
 | .assign _ x t, ct, p, s => tabB t (cS x (ptUp ct)) p s
 | .read _ t, ct, p, s => tabB t (ptUp ct) p s
 | .assert _ x y t, ct, p, s => tabB t (cS y (cS x (siteUp (ptUp ct)))) p s
 | .ite _ x y xs true ys t, ct, p, s => if p < (cB xs (cS y (cS x (ptUp ct)))).1 then tabB xs (cS y (cS x (ptUp ct))) p s else if p < (cB ys (cB xs (cS y (cS x (ptUp ct))))).1 then tabB ys (cB xs (cS y (cS x (ptUp ct)))) p s else tabB t (cB ys (cB xs (cS y (cS x (ptUp ct))))) p s
 | .ite _ x y xs false _ t, ct, p, s => if p < (cB xs (cS y (cS x (ptUp ct)))).1 then tabB xs (cS y (cS x (ptUp ct))) p s else tabB t (cB xs (cS y (cS x (ptUp ct)))) p s
 | .loop k x y xs t, ct, p, s => if p = ct.1 then anW D P (anC D k x y (ptUp ct)) (anB D P xs (cS y (cS x (ptUp ct)))) ct.1 s else if p < (cB xs (cS y (cS x (ptUp ct)))).1 then tabB xs (cS y (cS x (ptUp ct))) p s else tabB t (cB xs (cS y (cS x (ptUp ct)))) p s
theorem tab_loops (T : Int → D.St → Res D) : ∀ (t : Bl) (ct : Ct), Small ct (pB t) (qB t) → (∀ p s, ct.1 ≤ p → p < ct.1 + pB t → T p s = tabB D P t ct p s) → LoopsB D P T t ct
 | .nil, _, _, _ => trivial
 | .assign k x t, ct, ⟨h1, h2, h3, h4⟩, h => by
  simp only [pB, qB] at h3 h4 h
  have e0 := ptUp_eq h1 (by omega)
  have ec : cS x (ptUp ct) = (ct.1 + 1, ct.2 + nS x) := by rw [e0, cS_sm x _ (by simp; omega) (by simp; omega)]
  show LoopsB D P T t (cS x (ptUp ct))
  simp only [tabB, ec] at h
  rw [ec]
  exact tab_loops T t _ ⟨by simp; omega, by simp; omega, by simp; omega, by simp; omega⟩ (fun p s h5 h6 => h p s (by simp at h5; omega) (by simp at h6; omega))
 | .read k t, ct, ⟨h1, h2, h3, h4⟩, h => by
  simp only [pB, qB] at h3 h4 h
  have e0 := ptUp_eq h1 (by omega)
  show LoopsB D P T t (ptUp ct)
  simp only [tabB, e0] at h
  rw [e0]
  exact tab_loops T t _ ⟨by simp; omega, by simp; omega, by simp; omega, by simp; omega⟩ (fun p s h5 h6 => h p s (by simp at h5; omega) (by simp at h6; omega))
 | .assert k x y t, ct, ⟨h1, h2, h3, h4⟩, h => by
  simp only [pB, qB] at h3 h4 h
  have e0 : siteUp (ptUp ct) = (ct.1 + 1, ct.2 + 1) := by rw [ptUp_eq h1 (by omega), siteUp_eq (by simp; omega) (by simp; omega)]
  have ec : cS y (cS x (siteUp (ptUp ct))) = (ct.1 + 1, ct.2 + 1 + nS x + nS y) := by
   rw [e0, cS_sm x _ (by simp; omega) (by simp; omega), cS_sm y _ (by simp; omega) (by simp; omega)]
  show LoopsB D P T t (cS y (cS x (siteUp (ptUp ct))))
  simp only [tabB, ec] at h
  rw [ec]
  exact tab_loops T t _ ⟨by simp; omega, by simp; omega, by simp; omega, by simp; omega⟩ (fun p s h5 h6 => h p s (by simp at h5; omega) (by simp at h6; omega))
 | .ite k x y xs true ys t, ct, ⟨h1, h2, h3, h4⟩, h => by
  simp only [pB, qB, if_true] at h3 h4 h
  have e0 := ptUp_eq h1 (by omega)
  have ec : cS y (cS x (ptUp ct)) = (ct.1 + 1, ct.2 + nS x + nS y) := by
   rw [e0, cS_sm x _ (by simp; omega) (by simp; omega), cS_sm y _ (by simp; omega) (by simp; omega)]
  have ex := cB_sm xs (ct.1 + 1, ct.2 + nS x + nS y) ⟨by simp; omega, by simp; omega, by simp; omega, by simp; omega⟩
  have ey := cB_sm ys (ct.1 + 1 + pB xs, ct.2 + nS x + nS y + qB xs) ⟨by simp; omega, by simp; omega, by simp; omega, by simp; omega⟩
  show LoopsB D P T xs (cS y (cS x (ptUp ct))) ∧ LoopsB D P T ys (cB xs (cS y (cS x (ptUp ct)))) ∧ LoopsB D P T t (cB ys (cB xs (cS y (cS x (ptUp ct)))))
  simp only [tabB, ec, ex, ey] at h
  rw [ec, ex, ey]
  refine ⟨tab_loops T xs _ ⟨by simp; omega, by simp; omega, by simp; omega, by simp; omega⟩ (fun p s h5 h6 => ?_), tab_loops T ys _ ⟨by simp; omega, by simp; omega, by simp; omega, by simp; omega⟩ (fun p s h5 h6 => ?_), tab_loops T t _ ⟨by simp; omega, by simp; omega, by simp; omega, by simp; omega⟩ (fun p s h5 h6 => ?_)⟩
  all_goals
   simp at h5 h6
   have := h p s (by omega) (by omega)
  ·rw [if_pos (by omega)] at this; exact this
  ·rw [if_neg (by omega), if_pos (by omega)] at this; exact this
  ·rw [if_neg (by omega), if_neg (by omega)] at this; exact this
 | .ite k x y xs false ys t, ct, ⟨h1, h2, h3, h4⟩, h => by
  simp only [pB, qB, Bool.false_eq_true, if_false] at h3 h4 h
  have e0 := ptUp_eq h1 (by omega)
  have ec : cS y (cS x (ptUp ct)) = (ct.1 + 1, ct.2 + nS x + nS y) := by
   rw [e0, cS_sm x _ (by simp; omega) (by simp; omega), cS_sm y _ (by simp; omega) (by simp; omega)]
  have ex := cB_sm xs (ct.1 + 1, ct.2 + nS x + nS y) ⟨by simp; omega, by simp; omega, by simp; omega, by simp; omega⟩
  show LoopsB D P T xs (cS y (cS x (ptUp ct))) ∧ LoopsB D P T t (cB xs (cS y (cS x (ptUp ct))))
  simp only [tabB, ec, ex] at h
  rw [ec, ex]
  refine ⟨tab_loops T xs _ ⟨by simp; omega, by simp; omega, by simp; omega, by simp; omega⟩ (fun p s h5 h6 => ?_), tab_loops T t _ ⟨by simp; omega, by simp; omega, by simp; omega, by simp; omega⟩ (fun p s h5 h6 => ?_)⟩
  all_goals
   simp at h5 h6
   have := h p s (by omega) (by omega)
  ·rw [if_pos (by omega)] at this; exact this
  ·rw [if_neg (by omega)] at this; exact this
 | .loop k x y xs t, ct, ⟨h1, h2, h3, h4⟩, h => by
  simp only [pB, qB] at h3 h4 h
  have e0 := ptUp_eq h1 (by omega)
  have ec : cS y (cS x (ptUp ct)) = (ct.1 + 1, ct.2 + nS x + nS y) := by
   rw [e0, cS_sm x _ (by simp; omega) (by simp; omega), cS_sm y _ (by simp; omega) (by simp; omega)]
  have ex := cB_sm xs (ct.1 + 1, ct.2 + nS x + nS y) ⟨by simp; omega, by simp; omega, by simp; omega, by simp; omega⟩
  show ((0 ≤ ct.1 ∧ ct.1 ≤ 1000000) ∧ ∀ s, T ct.1 s = anW D P (anC D k x y (ptUp ct)) (anB D P xs (cS y (cS x (ptUp ct)))) ct.1 s) ∧ LoopsB D P T xs (cS y (cS x (ptUp ct))) ∧ LoopsB D P T t (cB xs (cS y (cS x (ptUp ct))))
  refine ⟨⟨⟨h1, by omega⟩, fun s => ?_⟩, ?_⟩
  ·rw [h ct.1 s (by omega) (by omega)]
   exact if_pos rfl
  ·simp only [tabB, ec, ex] at h
   rw [ec, ex]
   refine ⟨tab_loops T xs _ ⟨by simp; omega, by simp; omega, by simp; omega, by simp; omega⟩ (fun p s h5 h6 => ?_), tab_loops T t _ ⟨by simp; omega, by simp; omega, by simp; omega, by simp; omega⟩ (fun p s h5 h6 => ?_)⟩
   all_goals
    simp at h5 h6
    have := h p s (by omega) (by omega)
   ·rw [if_neg (by omega), if_pos (by omega)] at this; exact this
   ·rw [if_neg (by omega), if_neg (by omega)] at this; exact this
end
end Sp
end Go.Proofs.YtiopfihjmkfdmaaGreatDoor
namespace Go.Proofs.YtiopfihjmkfdmaaGreatDoor
namespace Sp
theorem anS_b1 (D : Dom) (k : Nat) (x y : Sm) (ct : Ct) (s : D.Env) (es : List (Tel D.V)) (h : anS D x ct s = (es, none)) : anS D (.bin k x y) ct s = (es, none) := by
 unfold anS
 rw [h]
theorem anS_b2 (D : Dom) (k : Nat) (x y : Sm) (ct : Ct) (s : D.Env) (es : List (Tel D.V)) (a : D.V) (es2 : List (Tel D.V)) (h : anS D x ct s = (es, some a)) (h2 : anS D y (if 3 ≤ k then siteUp (cS x ct) else cS x ct) s = (es2, none)) : anS D (.bin k x y) ct s = (es ++ es2, none) := by
 unfold anS
 rw [h]
 simp only
 rw [h2]
theorem anS_b3 (D : Dom) (k : Nat) (x y : Sm) (ct : Ct) (s : D.Env) (es : List (Tel D.V)) (a : D.V) (es2 : List (Tel D.V)) (c : D.V) (h : anS D x ct s = (es, some a)) (h2 : anS D y (if 3 ≤ k then siteUp (cS x ct) else cS x ct) s = (es2, some c)) (h3 : 3 ≤ k) : anS D (.bin k x y) ct s = (es ++ es2 ++ [.site (cS x ct).2 (D.nought c)], D.work k a c) := by
 unfold anS
 rw [h]
 simp only
 rw [h2]
 simp only
 rw [if_pos h3]
theorem anS_b4 (D : Dom) (k : Nat) (x y : Sm) (ct : Ct) (s : D.Env) (es : List (Tel D.V)) (a : D.V) (es2 : List (Tel D.V)) (c : D.V) (h : anS D x ct s = (es, some a)) (h2 : anS D y (if 3 ≤ k then siteUp (cS x ct) else cS x ct) s = (es2, some c)) (h3 : ¬ 3 ≤ k) : anS D (.bin k x y) ct s = (es ++ es2, D.work k a c) := by
 unfold anS
 rw [h]
 simp only
 rw [h2]
 simp only
 rw [if_neg h3, List.append_nil]
theorem bnd_none (D : Dom) (k r : Nat) (y : D.V) (e : D.Env) (h : D.bound r (getV D e k) y = none) : bndV D (.name k) r y (some e) = none := by
 unfold bndV
 simp only
 rw [h]
theorem bnd_some (D : Dom) (k r : Nat) (y : D.V) (e : D.Env) (v : D.V) (h : D.bound r (getV D e k) y = some v) : bndV D (.name k) r y (some e) = some (setV D e k v) := by
 unfold bndV
 simp only
 rw [h]
theorem behind_none (D : Dom) (r : Nat) (x y : Sm) (a b : D.V) (e : D.Env) (h : D.may r a b = false) : behindV D r x y a b e = none := by
 unfold behindV
 rw [if_neg (by rw [h]; simp)]
theorem behind_some (D : Dom) (r : Nat) (x y : Sm) (a b : D.V) (e : D.Env) (h : D.may r a b = true) : behindV D r x y a b e = bndV D y (mirror r) a (bndV D x r b (some e)) := by
 unfold behindV
 rw [if_pos h]
theorem anC_c1 (D : Dom) (k : Nat) (x y : Sm) (ct : Ct) (e : D.Env) (es : List (Tel D.V)) (h : anS D x ct e = (es, none)) : anC D k x y ct (some e) = (es, none, none) := by
 unfold anC
 simp only
 rw [h]
theorem anC_c2 (D : Dom) (k : Nat) (x y : Sm) (ct : Ct) (e : D.Env) (es : List (Tel D.V)) (a : D.V) (es2 : List (Tel D.V)) (h : anS D x ct e = (es, some a)) (h2 : anS D y (cS x ct) e = (es2, none)) : anC D k x y ct (some e) = (es ++ es2, none, none) := by
 unfold anC
 simp only
 rw [h]
 simp only
 rw [h2]
theorem anC_c3 (D : Dom) (k : Nat) (x y : Sm) (ct : Ct) (e : D.Env) (es : List (Tel D.V)) (a : D.V) (es2 : List (Tel D.V)) (c : D.V) (h : anS D x ct e = (es, some a)) (h2 : anS D y (cS x ct) e = (es2, some c)) : anC D k x y ct (some e) = (es ++ es2, behindV D k x y a c e, behindV D (opp k) x y a c e) := by
 unfold anC
 simp only
 rw [h]
 simp only
 rw [h2]
end Sp
end Go.Proofs.YtiopfihjmkfdmaaGreatDoor
