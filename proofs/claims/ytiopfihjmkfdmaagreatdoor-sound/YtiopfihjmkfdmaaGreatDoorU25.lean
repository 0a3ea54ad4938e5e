import Derived.Test.YtiopfihjmkfdmaaGreatDoorU10
import Derived.Test.YtiopfihjmkfdmaaGreatDoorU24
namespace Go.Proofs.YtiopfihjmkfdmaaGreatDoor
namespace Sp
theorem w16_id {n : Int} (h : I16 n) : w16 n = n := by
 unfold I16 at h
 unfold w16
 exact IntWalk.i16_in n (by omega)
def ivMem (x : Iv) (n : Int) : Prop := x.a ≤ n ∧ n ≤ x.b
def ivWf (x : Iv) : Prop := -32768 ≤ x.a ∧ x.a ≤ x.b ∧ x.b ≤ 32767
theorem whole_mem {n : Int} (h : I16 n) : ivMem ivWhole n := h
theorem hull2_mem {a b n : Int} (h1 : a ≤ n) (h2 : n ≤ b) : ivMem (hull2 a b) (w16 n) := by
 unfold hull2
 split
 ·exact whole_mem (w16_in n)
 ·rw [w16_id (by unfold I16; omega)]; exact ⟨h1, h2⟩
theorem hull2_mem' {a b n : Int} (h1 : a ≤ n) (h2 : n ≤ b) (hn : I16 n) : ivMem (hull2 a b) n := by
 have := hull2_mem h1 h2
 rwa [w16_id hn] at this
theorem foldmin_le : ∀ (l : List Int) (x : Int), l.foldl min x ≤ x ∧ ∀ y ∈ l, l.foldl min x ≤ y
 | [], x => ⟨Int.le_refl _, fun _ h => by cases h⟩
 | z :: l, x => by
  obtain ⟨h1, h2⟩ := foldmin_le l (min x z)
  refine ⟨by show l.foldl min (min x z) ≤ x; omega, fun y hy => ?_⟩
  show l.foldl min (min x z) ≤ y
  rcases List.mem_cons.1 hy with rfl | hy
  ·omega
  ·exact h2 y hy
theorem foldmax_le : ∀ (l : List Int) (x : Int), x ≤ l.foldl max x ∧ ∀ y ∈ l, y ≤ l.foldl max x
 | [], x => ⟨Int.le_refl _, fun _ h => by cases h⟩
 | z :: l, x => by
  obtain ⟨h1, h2⟩ := foldmax_le l (max x z)
  refine ⟨by show x ≤ l.foldl max (max x z); omega, fun y hy => ?_⟩
  show y ≤ l.foldl max (max x z)
  rcases List.mem_cons.1 hy with rfl | hy
  ·omega
  ·exact h2 y hy
theorem minL_le {l : List Int} {x : Int} (h : x ∈ l) : minL l ≤ x := by
 cases l with
 | nil => cases h
 | cons z l =>
  rcases List.mem_cons.1 h with rfl | h
  ·exact (foldmin_le l _).1
  ·exact (foldmin_le l z).2 x h
theorem le_maxL {l : List Int} {x : Int} (h : x ∈ l) : x ≤ maxL l := by
 cases l with
 | nil => cases h
 | cons z l =>
  rcases List.mem_cons.1 h with rfl | h
  ·exact (foldmax_le l _).1
  ·exact (foldmax_le l z).2 x h
theorem hullL_mem {l : List Int} {u v n : Int} (hu : u ∈ l) (hv : v ∈ l) (h1 : u ≤ n) (h2 : n ≤ v) : ivMem (hullL l) (w16 n) :=
 hull2_mem (Int.le_trans (minL_le hu) h1) (Int.le_trans h2 (le_maxL hv))
theorem lin {lo hi a : Int} (b : Int) (h1 : lo ≤ a) (h2 : a ≤ hi) : min (lo * b) (hi * b) ≤ a * b ∧ a * b ≤ max (lo * b) (hi * b) := by
 by_cases hb : 0 ≤ b
 ·have k1 := Int.mul_le_mul_of_nonneg_right h1 hb
  have k2 := Int.mul_le_mul_of_nonneg_right h2 hb
  omega
 ·have k1 := Int.mul_le_mul_of_nonpos_right h1 (by omega : b ≤ 0)
  have k2 := Int.mul_le_mul_of_nonpos_right h2 (by omega : b ≤ 0)
  omega
theorem mul_corner {x y : Iv} {a b : Int} (ha : ivMem x a) (hb : ivMem y b) : ivMem (hullL [x.a * y.a, x.a * y.b, x.b * y.a, x.b * y.b]) (w16 (a * b)) := by
 have h1 := lin b ha.1 ha.2
 have h2 := lin x.a hb.1 hb.2
 have h3 := lin x.b hb.1 hb.2
 rw [Int.mul_comm y.a, Int.mul_comm y.b, Int.mul_comm b] at h2
 rw [Int.mul_comm y.a, Int.mul_comm y.b, Int.mul_comm b] at h3
 have e1 := @minL_le [x.a * y.a, x.a * y.b, x.b * y.a, x.b * y.b]
 have e2 := @le_maxL [x.a * y.a, x.a * y.b, x.b * y.a, x.b * y.b]
 have m1 := e1 (x := x.a * y.a) (by simp)
 have m2 := e1 (x := x.a * y.b) (by simp)
 have m3 := e1 (x := x.b * y.a) (by simp)
 have m4 := e1 (x := x.b * y.b) (by simp)
 have n1 := e2 (x := x.a * y.a) (by simp)
 have n2 := e2 (x := x.a * y.b) (by simp)
 have n3 := e2 (x := x.b * y.a) (by simp)
 have n4 := e2 (x := x.b * y.b) (by simp)
 unfold hullL
 refine hull2_mem ?_ ?_ <;> omega
theorem tdiv_pos_mono {a a' b : Int} (hb : 0 < b) (h : a ≤ a') : a.tdiv b ≤ a'.tdiv b := Int.tdiv_le_tdiv hb h
theorem tdiv_anti {a p q : Int} (ha : 0 ≤ a) (hp : 0 < p) (h : p ≤ q) : a.tdiv q ≤ a.tdiv p := by
 rw [Int.tdiv_eq_ediv_of_nonneg ha, Int.tdiv_eq_ediv_of_nonneg ha]
 obtain ⟨a, rfl⟩ := Int.eq_ofNat_of_zero_le ha
 obtain ⟨p, rfl⟩ := Int.eq_ofNat_of_zero_le (Int.le_of_lt hp)
 obtain ⟨q, rfl⟩ := Int.eq_ofNat_of_zero_le (Int.le_trans (Int.le_of_lt hp) h)
 have h1 : p ≤ q := by omega
 have h2 : 0 < p := by omega
 have : a / q ≤ a / p := Nat.div_le_div_left h1 h2
 rw [← Int.natCast_ediv, ← Int.natCast_ediv]
 exact_mod_cast this
theorem tdiv_between {a p q b : Int} (hp : 0 < p) (h1 : p ≤ b) (h2 : b ≤ q) : min (a.tdiv p) (a.tdiv q) ≤ a.tdiv b ∧ a.tdiv b ≤ max (a.tdiv p) (a.tdiv q) := by
 by_cases ha : 0 ≤ a
 ·have k1 := tdiv_anti ha hp h1
  have k2 := tdiv_anti ha (by omega : 0 < b) h2
  omega
 ·have k1 := tdiv_anti (a := -a) (by omega) hp h1
  have k2 := tdiv_anti (a := -a) (by omega) (by omega : 0 < b) h2
  rw [Int.neg_tdiv, Int.neg_tdiv] at k1 k2
  omega
theorem quo_side {lo hi a p q b : Int} (h1 : lo ≤ a) (h2 : a ≤ hi) (h3 : p ≤ b) (h4 : b ≤ q) (hs : 0 < p ∨ q < 0) :
  (∃ u, (u = lo.tdiv p ∨ u = lo.tdiv q ∨ u = hi.tdiv p ∨ u = hi.tdiv q) ∧ u ≤ a.tdiv b) ∧ (∃ v, (v = lo.tdiv p ∨ v = lo.tdiv q ∨ v = hi.tdiv p ∨ v = hi.tdiv q) ∧ a.tdiv b ≤ v) := by
 rcases hs with hs | hs
 ·have k1 := tdiv_pos_mono (a := lo) (a' := a) (b := b) (by omega) h1
  have k2 := tdiv_pos_mono (a := a) (a' := hi) (b := b) (by omega) h2
  have k3 := tdiv_between (a := lo) hs h3 h4
  have k4 := tdiv_between (a := hi) hs h3 h4
  constructor
  ·by_cases h : lo.tdiv p ≤ lo.tdiv q
   ·exact ⟨_, .inl rfl, by omega⟩
   ·exact ⟨_, .inr (.inl rfl), by omega⟩
  ·by_cases h : hi.tdiv p ≤ hi.tdiv q
   ·exact ⟨_, .inr (.inr (.inr rfl)), by omega⟩
   ·exact ⟨_, .inr (.inr (.inl rfl)), by omega⟩
 ·have k1 := tdiv_pos_mono (a := lo) (a' := a) (b := -b) (by omega) h1
  have k2 := tdiv_pos_mono (a := a) (a' := hi) (b := -b) (by omega) h2
  have k3 := tdiv_between (a := lo) (p := -q) (q := -p) (b := -b) (by omega) (by omega) (by omega)
  have k4 := tdiv_between (a := hi) (p := -q) (q := -p) (b := -b) (by omega) (by omega) (by omega)
  simp only [Int.tdiv_neg] at k1 k2 k3 k4
  constructor
  ·by_cases h : hi.tdiv p ≤ hi.tdiv q
   ·exact ⟨_, .inr (.inr (.inl rfl)), by omega⟩
   ·exact ⟨_, .inr (.inr (.inr rfl)), by omega⟩
  ·by_cases h : lo.tdiv p ≤ lo.tdiv q
   ·exact ⟨_, .inr (.inl rfl), by omega⟩
   ·exact ⟨_, .inl rfl, by omega⟩
theorem mem_quos {x : Iv} {l : List Int} {q : Int} (h : q ∈ l) : x.a.tdiv q ∈ (l.flatMap fun q => [x.a.tdiv q, x.b.tdiv q]) ∧ x.b.tdiv q ∈ (l.flatMap fun q => [x.a.tdiv q, x.b.tdiv q]) := by
 constructor
 ·exact List.mem_flatMap.2 ⟨q, h, by simp⟩
 ·exact List.mem_flatMap.2 ⟨q, h, by simp⟩
theorem divide_mem {x y : Iv} {a b : Int} (ha : ivMem x a) (hb : ivMem y b) (h0 : b ≠ 0) : ∃ v, ivDivide x y = some v ∧ ivMem v (w16 (a.tdiv b)) := by
 have key : ∀ p q, p ∈ besides y → q ∈ besides y → p ≤ b → b ≤ q → (0 < p ∨ q < 0) → ∃ v, ivDivide x y = some v ∧ ivMem v (w16 (a.tdiv b)) := by
  intro p q hp hq h1 h2 hs
  obtain ⟨⟨u, hu, hu'⟩, ⟨v, hv, hv'⟩⟩ := quo_side ha.1 ha.2 h1 h2 hs
  refine ⟨_, by unfold ivDivide; rw [if_neg (fun e => by rw [e] at hp; cases hp)], ?_⟩
  have m1 := mem_quos (x := x) hp
  have m2 := mem_quos (x := x) hq
  refine hullL_mem (u := u) (v := v) ?_ ?_ hu' hv'
  ·rcases hu with rfl | rfl | rfl | rfl
   ·exact m1.1
   ·exact m2.1
   ·exact m1.2
   ·exact m2.2
  ·rcases hv with rfl | rfl | rfl | rfl
   ·exact m1.1
   ·exact m2.1
   ·exact m1.2
   ·exact m2.2
 obtain ⟨hb1, hb2⟩ := hb
 by_cases hs : b < 0
 ·refine key y.a (min y.b (-1)) ?_ ?_ hb1 (by omega) (.inr (by omega))
  ·unfold besides; rw [if_pos (by omega : y.a < 0)]; simp
  ·unfold besides; rw [if_pos (by omega : y.a < 0)]; simp
 ·refine key (max y.a 1) y.b ?_ ?_ (by omega) hb2 (.inl (by omega))
  ·unfold besides; rw [if_pos (by omega : 0 < y.b)]; simp
  ·unfold besides; rw [if_pos (by omega : 0 < y.b)]; simp
theorem tmod_bounds (a b : Int) (hb : b ≠ 0) : (0 ≤ a → 0 ≤ a.tmod b ∧ a.tmod b ≤ a) ∧ (a ≤ 0 → a ≤ a.tmod b ∧ a.tmod b ≤ 0) ∧ (a.tmod b).natAbs < b.natAbs := by
 have h3 : (a.tmod b).natAbs = a.natAbs % b.natAbs := Int.natAbs_tmod a b
 have h4 : a.natAbs % b.natAbs < b.natAbs := Nat.mod_lt _ (by omega)
 have h5 : a.natAbs % b.natAbs ≤ a.natAbs := Nat.mod_le _ _
 refine ⟨fun h => ?_, fun h => ?_, by omega⟩
 ·have := Int.tmod_nonneg b h
  omega
 ·have := Int.tmod_nonneg b (a := -a) (by omega)
  rw [Int.neg_tmod] at this
  omega
theorem rest_mem {x y : Iv} {a b : Int} (ha : ivMem x a) (hb : ivMem y b) (h0 : b ≠ 0) (hi : I16 a) : ∃ v, ivRest x y = some v ∧ ivMem v (a.tmod b) := by
 obtain ⟨h1, h2, h3⟩ := tmod_bounds a b h0
 obtain ⟨ha1, ha2⟩ := ha
 obtain ⟨hb1, hb2⟩ := hb
 unfold I16 at hi
 unfold ivRest
 rw [if_neg (by omega)]
 refine ⟨_, rfl, hull2_mem' ?_ ?_ ?_⟩
 ·by_cases hs : 0 ≤ a
  ·have := h1 hs; omega
  ·have := h2 (by omega); omega
 ·by_cases hs : 0 ≤ a
  ·have := h1 hs; omega
  ·have := h2 (by omega); omega
 ·unfold I16
  by_cases hs : 0 ≤ a
  ·have := h1 hs; omega
  ·have := h2 (by omega); omega
theorem work_mem (k : Nat) (x y : Iv) (a b c : Int) (ha : I16 a) (_ : I16 b) (hx : ivMem x a) (hy : ivMem y b) (h : work k a b = some c) : ∃ v, ivWork k x y = some v ∧ ivMem v c := by
 unfold work at h
 unfold ivWork
 split at h
 ·next h0 =>
  rw [if_pos h0]
  cases h
  exact ⟨_, rfl, hull2_mem (by have := hx.1; have := hy.1; omega) (by have := hx.2; have := hy.2; omega)⟩
 ·next h0 =>
  rw [if_neg h0]
  split at h
  ·next h1 =>
   rw [if_pos h1]
   cases h
   exact ⟨_, rfl, hull2_mem (by have := hx.1; have := hy.2; omega) (by have := hx.2; have := hy.1; omega)⟩
  ·next h1 =>
   rw [if_neg h1]
   split at h
   ·next h2 =>
    rw [if_pos h2]
    cases h
    exact ⟨_, rfl, mul_corner hx hy⟩
   ·next h2 =>
    rw [if_neg h2]
    split at h
    ·cases h
    ·next hb =>
     split at h
     ·next h3 =>
      rw [if_pos h3]
      cases h
      exact divide_mem hx hy hb
     ·next h3 =>
      rw [if_neg h3]
      cases h
      exact rest_mem hx hy hb ha
theorem iv_ext {x y : Iv} (h1 : x.a = y.a) (h2 : x.b = y.b) : x = y := by
 cases x; cases y; simp at h1 h2; rw [h1, h2]
theorem may_mem (r : Nat) (x y : Iv) (a b : Int) (hx : ivMem x a) (hy : ivMem y b) (h : holds r a b = true) : ivMay r x y = true := by
 obtain ⟨h1, h2⟩ := hx
 obtain ⟨h3, h4⟩ := hy
 unfold holds at h
 unfold ivMay
 split at h
 ·next e => rw [if_pos e]; simp at h ⊢; omega
 ·next e =>
  rw [if_neg e]
  split at h
  ·next e => rw [if_pos e]; simp at h ⊢; omega
  ·next e =>
   rw [if_neg e]
   split at h
   ·next e =>
    rw [if_pos e]
    simp at h
    unfold ivMeet
    rw [if_pos (by omega)]; rfl
   ·next e =>
    rw [if_neg e]
    split at h
    ·next e =>
     rw [if_pos e]
     simp at h
     simp
     by_cases e2 : x = y
     ·subst e2
      exact .inr (by omega)
     ·exact .inl e2
    ·next e =>
     rw [if_neg e]
     split at h
     ·next e => rw [if_pos e]; simp at h ⊢; omega
     ·next e => rw [if_neg e]; simp at h ⊢; omega
theorem meet_mem {x y : Iv} {n : Int} (hx : ivMem x n) (hy : ivMem y n) : ∃ v, ivMeet x y = some v ∧ ivMem v n := by
 obtain ⟨h1, h2⟩ := hx
 obtain ⟨h3, h4⟩ := hy
 unfold ivMeet
 rw [if_pos (by omega)]
 exact ⟨_, rfl, by show max x.a y.a ≤ n; omega, by show n ≤ min x.b y.b; omega⟩
theorem below_mem {x : Iv} {n m : Int} (hx : ivMem x n) (hi : I16 n) (h : n < m) : ∃ v, ivBelow x m = some v ∧ ivMem v n := by
 unfold I16 at hi
 unfold ivBelow
 rw [if_neg (by omega)]
 exact meet_mem hx ⟨hi.1, by show n ≤ m - 1; omega⟩
theorem above_mem {x : Iv} {n m : Int} (hx : ivMem x n) (hi : I16 n) (h : m < n) : ∃ v, ivAbove x m = some v ∧ ivMem v n := by
 unfold I16 at hi
 unfold ivAbove
 rw [if_neg (by omega)]
 exact meet_mem hx ⟨by show m + 1 ≤ n; omega, hi.2⟩
theorem bound_mem (r : Nat) (x y : Iv) (a b : Int) (hai : I16 a) (_ : I16 b) (hx : ivMem x a) (hy : ivMem y b) (h : holds r a b = true) : ∃ v, ivBound r x y = some v ∧ ivMem v a := by
 have hy1 := hy.1
 have hy2 := hy.2
 unfold holds at h
 unfold ivBound
 split at h
 ·next e => rw [if_pos e]; simp at h; exact below_mem hx hai (by omega)
 ·next e =>
  rw [if_neg e]
  split at h
  ·next e => rw [if_pos e]; simp at h; exact meet_mem hx ⟨hai.1, by show a ≤ y.b; omega⟩
  ·next e =>
   rw [if_neg e]
   split at h
   ·next e =>
    rw [if_pos e]
    simp at h
    subst h
    exact meet_mem hx hy
   ·next e =>
    rw [if_neg e]
    split at h
    ·next e =>
     rw [if_pos e]
     simp at h
     unfold ivBeside
     split
     ·exact ⟨_, rfl, hx⟩
     ·split
      ·exact above_mem hx hai (by have := hx.1; omega)
      ·split
       ·exact below_mem hx hai (by have := hx.2; omega)
       ·exact ⟨_, rfl, hx⟩
    ·next e =>
     rw [if_neg e]
     split at h
     ·next e => rw [if_pos e]; simp at h; exact meet_mem hx ⟨by show y.a ≤ a; omega, hai.2⟩
     ·next e => rw [if_neg e]; simp at h; exact above_mem hx hai (by omega)
def ivSnd (steps : List Int) : Snd (ivDom steps) where
 mem := ivMem
 num n := ⟨Int.le_refl n, Int.le_refl n⟩
 whole _ h := h
 neg x n _ h := hull2_mem (by have := h.2; omega) (by have := h.1; omega)
 work := work_mem
 nought x h := by
  have h1 : x.a ≤ 0 := h.1
  have h2 : 0 ≤ x.b := h.2
  show (decide (x.a ≤ 0) && decide (0 ≤ x.b)) = true
  simp [h1, h2]
 joinl x y n h := ⟨by show min x.a y.a ≤ n; have : x.a ≤ n := h.1; omega, by show n ≤ max x.b y.b; have : n ≤ x.b := h.2; omega⟩
 joinr x y n h := ⟨by show min x.a y.a ≤ n; have : y.a ≤ n := h.1; omega, by show n ≤ max x.b y.b; have : n ≤ y.b := h.2; omega⟩
 may r x y a b _ _ := may_mem r x y a b
 bound := bound_mem
 narrow x y n h k := by
  have h1 : x.a ≤ n := h.1
  have h2 : n ≤ x.b := h.2
  have k1 : y.a ≤ n := k.1
  have k2 : n ≤ y.b := k.2
  constructor
  ·show (if x.a = -32768 then y.a else x.a) ≤ n
   split <;> omega
  ·show n ≤ (if x.b = 32767 then y.b else x.b)
   split <;> omega
theorem hull2_wf {a b : Int} (h : a ≤ b) : ivWf (hull2 a b) := by
 unfold hull2
 split
 ·exact ⟨by decide, by decide, by decide⟩
 ·exact ⟨by show -32768 ≤ a; omega, h, by show b ≤ 32767; omega⟩
theorem hullL_wf {l : List Int} {u : Int} (h : u ∈ l) : ivWf (hullL l) := hull2_wf (Int.le_trans (minL_le h) (le_maxL h))
theorem work_wf (k : Nat) (x y v : Iv) (hx : ivWf x) (hy : ivWf y) (h : ivWork k x y = some v) : ivWf v := by
 obtain ⟨h1, h2, h3⟩ := hx
 obtain ⟨h4, h5, h6⟩ := hy
 unfold ivWork at h
 split at h
 ·cases h; exact hull2_wf (by omega)
 ·split at h
  ·cases h; exact hull2_wf (by omega)
  ·split at h
   ·cases h; exact hullL_wf (u := x.a * y.a) (by simp)
   ·split at h
    ·unfold ivDivide at h
     split at h
     ·cases h
     ·next hne =>
      cases h
      obtain ⟨q, hq⟩ := List.exists_mem_of_ne_nil _ hne
      exact hullL_wf (mem_quos (x := x) hq).1
    ·unfold ivRest at h
     split at h
     ·cases h
     ·cases h
      exact hull2_wf (by omega)
theorem meet_wf {x y v : Iv} (hx : ivWf x) (h : ivMeet x y = some v) : ivWf v := by
 obtain ⟨h1, h2, h3⟩ := hx
 unfold ivMeet at h
 split at h
 ·cases h
  exact ⟨by show -32768 ≤ max x.a y.a; omega, by assumption, by show min x.b y.b ≤ 32767; omega⟩
 ·cases h
theorem below_wf {x v : Iv} {n : Int} (hx : ivWf x) (h : ivBelow x n = some v) : ivWf v := by
 unfold ivBelow at h
 split at h
 ·cases h
 ·exact meet_wf hx h
theorem above_wf {x v : Iv} {n : Int} (hx : ivWf x) (h : ivAbove x n = some v) : ivWf v := by
 unfold ivAbove at h
 split at h
 ·cases h
 ·exact meet_wf hx h
theorem bound_wf (r : Nat) (x y v : Iv) (hx : ivWf x) (_ : ivWf y) (h : ivBound r x y = some v) : ivWf v := by
 unfold ivBound at h
 split at h
 ·exact below_wf hx h
 ·split at h
  ·exact meet_wf hx h
  ·split at h
   ·exact meet_wf hx h
   ·split at h
    ·unfold ivBeside at h
     split at h
     ·cases h; exact hx
     ·split at h
      ·exact above_wf hx h
      ·split at h
       ·exact below_wf hx h
       ·cases h; exact hx
    ·split at h
     ·exact meet_wf hx h
     ·exact above_wf hx h
theorem stepBelow_in (n : Int) : ∀ (l : List Int) (st : Int), st ≤ n → -32768 ≤ st → -32768 ≤ l.foldl (fun st s => if s ≤ n then max st s else st) st ∧ l.foldl (fun st s => if s ≤ n then max st s else st) st ≤ n
 | [], st, h1, h2 => ⟨h2, h1⟩
 | s :: l, st, h1, h2 => by
  show -32768 ≤ l.foldl _ (if s ≤ n then max st s else st) ∧ l.foldl _ (if s ≤ n then max st s else st) ≤ n
  exact stepBelow_in n l _ (by split <;> omega) (by split <;> omega)
theorem stepAbove_in (n : Int) : ∀ (l : List Int) (st : Int), n ≤ st → st ≤ 32767 → n ≤ l.foldl (fun st s => if n ≤ s then min st s else st) st ∧ l.foldl (fun st s => if n ≤ s then min st s else st) st ≤ 32767
 | [], st, h1, h2 => ⟨h1, h2⟩
 | s :: l, st, h1, h2 => by
  show n ≤ l.foldl _ (if n ≤ s then min st s else st) ∧ l.foldl _ (if n ≤ s then min st s else st) ≤ 32767
  exact stepAbove_in n l _ (by split <;> omega) (by split <;> omega)
theorem widen_in (steps : List Int) (x y : Iv) (hx : ivWf x) (hy : ivWf y) : -32768 ≤ (ivWiden steps x y).a ∧ (ivWiden steps x y).a ≤ y.a ∧ y.b ≤ (ivWiden steps x y).b ∧ (ivWiden steps x y).b ≤ 32767 := by
 obtain ⟨h1, h2, h3⟩ := hx
 obtain ⟨h4, h5, h6⟩ := hy
 have e1 := stepBelow_in y.a steps (-32768) h4 (Int.le_refl _)
 have e2 := stepAbove_in y.b steps 32767 h6 (Int.le_refl _)
 unfold ivWiden stepBelow stepAbove
 simp only
 refine ⟨?_, ?_, ?_, ?_⟩
 ·split <;> omega
 ·split <;> omega
 ·split <;> omega
 ·split <;> omega
def ivRk (steps : List Int) : Rk (ivDom steps) where
 wf := ivWf
 rk x := (x.b - x.a + 65535).toNat
 top := 131070
 le x h := by
  obtain ⟨h1, h2, h3⟩ := h
  show (x.b - x.a + 65535).toNat ≤ 131070
  omega
 wnum n h := ⟨h.1, Int.le_refl _, h.2⟩
 wwhole := (⟨by decide, by decide, by decide⟩ : ivWf ivWhole)
 wneg x h := hull2_wf (by have := h.2.1; omega)
 wwork := work_wf
 wjoin x y h k := ⟨by show -32768 ≤ min x.a y.a; have := h.1; have := k.1; omega, by show min x.a y.a ≤ max x.b y.b; have := h.2.1; omega, by show max x.b y.b ≤ 32767; have := h.2.2; have := k.2.2; omega⟩
 wbound := bound_wf
 wwiden x y h k := by
  obtain ⟨h1, h2, h3, h4⟩ := widen_in steps x y h k
  exact ⟨h1, by have := k.2.1; show (ivWiden steps x y).a ≤ (ivWiden steps x y).b; omega, h4⟩
 sub x y := y.a ≤ x.a ∧ x.b ≤ y.b
 sub_refl x := ⟨Int.le_refl _, Int.le_refl _⟩
 sub_trans x y z h k := ⟨Int.le_trans k.1 h.1, Int.le_trans h.2 k.2⟩
 sub_joinl x y := ⟨by show min x.a y.a ≤ x.a; omega, by show x.b ≤ max x.b y.b; omega⟩
 sub_joinr x y := ⟨by show min x.a y.a ≤ y.a; omega, by show y.b ≤ max x.b y.b; omega⟩
 sub_narrow x y z h k := by
  have h1 : x.a ≤ z.a := h.1
  have h2 : z.b ≤ x.b := h.2
  have k1 : y.a ≤ z.a := k.1
  have k2 : z.b ≤ y.b := k.2
  constructor
  ·show (if x.a = -32768 then y.a else x.a) ≤ z.a
   split <;> omega
  ·show z.b ≤ (if x.b = 32767 then y.b else x.b)
   split <;> omega
 wnarrow x y z hx hy hz h k := by
  have h1 : x.a ≤ z.a := h.1
  have h2 : z.b ≤ x.b := h.2
  have k1 : y.a ≤ z.a := k.1
  have k2 : z.b ≤ y.b := k.2
  obtain ⟨a1, a2, a3⟩ := hx
  obtain ⟨b1, b2, b3⟩ := hy
  obtain ⟨c1, c2, c3⟩ := hz
  refine ⟨?_, ?_, ?_⟩
  ·show -32768 ≤ (if x.a = -32768 then y.a else x.a)
   split <;> omega
  ·show (if x.a = -32768 then y.a else x.a) ≤ (if x.b = 32767 then y.b else x.b)
   split <;> split <;> omega
  ·show (if x.b = 32767 then y.b else x.b) ≤ 32767
   split <;> omega
 join_lt x y h k hne := by
  obtain ⟨h1, h2, h3⟩ := h
  obtain ⟨k1, k2, k3⟩ := k
  show (x.b - x.a + 65535).toNat < (max x.b y.b - min x.a y.a + 65535).toNat
  have : ¬ (min x.a y.a = x.a ∧ max x.b y.b = x.b) := fun e => hne (iv_ext e.1 e.2)
  omega
 widen_le x y h k := by
  have hj : ivWf ⟨min x.a y.a, max x.b y.b⟩ := ⟨by show -32768 ≤ min x.a y.a; have := h.1; have := k.1; omega, by show min x.a y.a ≤ max x.b y.b; have := h.2.1; omega, by show max x.b y.b ≤ 32767; have := h.2.2; have := k.2.2; omega⟩
  obtain ⟨h1, h2, h3, h4⟩ := widen_in steps x ⟨min x.a y.a, max x.b y.b⟩ h hj
  show (max x.b y.b - min x.a y.a + 65535).toNat ≤ ((ivWiden steps x ⟨min x.a y.a, max x.b y.b⟩).b - (ivWiden steps x ⟨min x.a y.a, max x.b y.b⟩).a + 65535).toNat
  have h2 : (ivWiden steps x ⟨min x.a y.a, max x.b y.b⟩).a ≤ min x.a y.a := h2
  have h3 : max x.b y.b ≤ (ivWiden steps x ⟨min x.a y.a, max x.b y.b⟩).b := h3
  omega
 fuel := by show 8 * 131070 < 1100000; decide
end Sp
end Go.Proofs.YtiopfihjmkfdmaaGreatDoor
namespace Go.Proofs.YtiopfihjmkfdmaaGreatDoor
open Go.RowKit
set_option maxRecDepth 100000
set_option maxHeartbeats 1000000
theorem iv_bound0 (dv : Value) (a b c d : Int) (w : World) (_ : -32768 ≤ c) (_ : c ≤ 32767) (h3 : -32768 ≤ d) (h4 : d ≤ 32767) :
  Calls Tryz.prog 318 #[.agg #[dv], .int .i64 0, .agg #[.int .i16 a, .int .i16 b], .agg #[.int .i16 c, .int .i16 d]] w fun e w' => e = .returned (optV (Sp.ivBound 0 ⟨a, b⟩ ⟨c, d⟩)) ∧ Below w.heap.size w w' := by
 have E : Hid (Sp.ivBound 0 ⟨a, b⟩ ⟨c, d⟩ = Sp.ivBelow ⟨a, b⟩ d) := rfl
 go_enter Tryz.func318, Tryz.ntmps318
 go_wp2_with fail
 refine (iv_below a b d _ h3 h4).mono ?_
 rintro e w1 ⟨rfl, b1⟩
 obtain ⟨_, _, _, hz, bw⟩ := laid4b b1
 obtain ⟨m0, m1, mf0, mf1, mq⟩ := res2 hz
 have BW : Hid (Below w.heap.size w w1) := bw
 clear b1 bw hz
 cases hr : Sp.ivBelow ⟨a, b⟩ d with
 | none =>
  have EE : Hid (_ = none) := E.out.trans hr
  have MQ : Hid (_ ∧ _) := mq (.int .i16 0) (.int .i16 0)
  clear mq hr E
  simp only [optV]
  go_wp2_with fail
  exact bodyPost_ret (v := .tuple #[.agg #[.int .i16 0, .int .i16 0], .bool false]) (by simp [results, Tryz.results318, go_sem, MQ.out.1, MQ.out.2]) rfl ⟨opt_none EE.out, (BW.out.setCell (p := ⟨w.heap.size + 1 + 1 + 1, 0, none⟩) (by show w.heap.size ≤ w.heap.size + 1 + 1 + 1; omega) _).setCell (p := ⟨w.heap.size + 1 + 1 + 1, 1, none⟩) (by show w.heap.size ≤ w.heap.size + 1 + 1 + 1; omega) _⟩
 | some v =>
  have EE : Hid (_ = some v) := E.out.trans hr
  have MQ : Hid (_ ∧ _) := mq (.int .i16 v.a) (.int .i16 v.b)
  clear mq hr E
  simp only [optV]
  go_wp2_with fail
  exact bodyPost_ret (v := .tuple #[.agg #[.int .i16 v.a, .int .i16 v.b], .bool true]) (by simp [results, Tryz.results318, go_sem, MQ.out.1, MQ.out.2]) rfl ⟨opt_some EE.out, (BW.out.setCell (p := ⟨w.heap.size + 1 + 1 + 1, 0, none⟩) (by show w.heap.size ≤ w.heap.size + 1 + 1 + 1; omega) _).setCell (p := ⟨w.heap.size + 1 + 1 + 1, 1, none⟩) (by show w.heap.size ≤ w.heap.size + 1 + 1 + 1; omega) _⟩
theorem iv_bound1 (dv : Value) (a b c d : Int) (w : World) (_ : -32768 ≤ c) (_ : c ≤ 32767) (_ : -32768 ≤ d) (_ : d ≤ 32767) :
  Calls Tryz.prog 318 #[.agg #[dv], .int .i64 1, .agg #[.int .i16 a, .int .i16 b], .agg #[.int .i16 c, .int .i16 d]] w fun e w' => e = .returned (optV (Sp.ivBound 1 ⟨a, b⟩ ⟨c, d⟩)) ∧ Below w.heap.size w w' := by
 have E : Hid (Sp.ivBound 1 ⟨a, b⟩ ⟨c, d⟩ = Sp.ivMeet ⟨a, b⟩ ⟨-32768, d⟩) := rfl
 go_enter Tryz.func318, Tryz.ntmps318
 go_wp2_with fail
 refine (iv_meet a b (-32768) d _).mono ?_
 rintro e w1 ⟨rfl, b1⟩
 obtain ⟨_, _, _, hz, bw⟩ := laid4b b1
 obtain ⟨m0, m1, mf0, mf1, mq⟩ := res2 hz
 have BW : Hid (Below w.heap.size w w1) := bw
 clear b1 bw hz
 cases hr : Sp.ivMeet ⟨a, b⟩ ⟨-32768, d⟩ with
 | none =>
  have EE : Hid (_ = none) := E.out.trans hr
  have MQ : Hid (_ ∧ _) := mq (.int .i16 0) (.int .i16 0)
  clear mq hr E
  simp only [optV]
  go_wp2_with fail
  exact bodyPost_ret (v := .tuple #[.agg #[.int .i16 0, .int .i16 0], .bool false]) (by simp [results, Tryz.results318, go_sem, MQ.out.1, MQ.out.2]) rfl ⟨opt_none EE.out, (BW.out.setCell (p := ⟨w.heap.size + 1 + 1 + 1, 0, none⟩) (by show w.heap.size ≤ w.heap.size + 1 + 1 + 1; omega) _).setCell (p := ⟨w.heap.size + 1 + 1 + 1, 1, none⟩) (by show w.heap.size ≤ w.heap.size + 1 + 1 + 1; omega) _⟩
 | some v =>
  have EE : Hid (_ = some v) := E.out.trans hr
  have MQ : Hid (_ ∧ _) := mq (.int .i16 v.a) (.int .i16 v.b)
  clear mq hr E
  simp only [optV]
  go_wp2_with fail
  exact bodyPost_ret (v := .tuple #[.agg #[.int .i16 v.a, .int .i16 v.b], .bool true]) (by simp [results, Tryz.results318, go_sem, MQ.out.1, MQ.out.2]) rfl ⟨opt_some EE.out, (BW.out.setCell (p := ⟨w.heap.size + 1 + 1 + 1, 0, none⟩) (by show w.heap.size ≤ w.heap.size + 1 + 1 + 1; omega) _).setCell (p := ⟨w.heap.size + 1 + 1 + 1, 1, none⟩) (by show w.heap.size ≤ w.heap.size + 1 + 1 + 1; omega) _⟩
theorem iv_bound2 (dv : Value) (a b c d : Int) (w : World) (_ : -32768 ≤ c) (_ : c ≤ 32767) (_ : -32768 ≤ d) (_ : d ≤ 32767) :
  Calls Tryz.prog 318 #[.agg #[dv], .int .i64 2, .agg #[.int .i16 a, .int .i16 b], .agg #[.int .i16 c, .int .i16 d]] w fun e w' => e = .returned (optV (Sp.ivBound 2 ⟨a, b⟩ ⟨c, d⟩)) ∧ Below w.heap.size w w' := by
 have E : Hid (Sp.ivBound 2 ⟨a, b⟩ ⟨c, d⟩ = Sp.ivMeet ⟨a, b⟩ ⟨c, d⟩) := rfl
 go_enter Tryz.func318, Tryz.ntmps318
 go_wp2_with fail
 refine (iv_meet a b c d _).mono ?_
 rintro e w1 ⟨rfl, b1⟩
 obtain ⟨_, _, _, hz, bw⟩ := laid4b b1
 obtain ⟨m0, m1, mf0, mf1, mq⟩ := res2 hz
 have BW : Hid (Below w.heap.size w w1) := bw
 clear b1 bw hz
 cases hr : Sp.ivMeet ⟨a, b⟩ ⟨c, d⟩ with
 | none =>
  have EE : Hid (_ = none) := E.out.trans hr
  have MQ : Hid (_ ∧ _) := mq (.int .i16 0) (.int .i16 0)
  clear mq hr E
  simp only [optV]
  go_wp2_with fail
  exact bodyPost_ret (v := .tuple #[.agg #[.int .i16 0, .int .i16 0], .bool false]) (by simp [results, Tryz.results318, go_sem, MQ.out.1, MQ.out.2]) rfl ⟨opt_none EE.out, (BW.out.setCell (p := ⟨w.heap.size + 1 + 1 + 1, 0, none⟩) (by show w.heap.size ≤ w.heap.size + 1 + 1 + 1; omega) _).setCell (p := ⟨w.heap.size + 1 + 1 + 1, 1, none⟩) (by show w.heap.size ≤ w.heap.size + 1 + 1 + 1; omega) _⟩
 | some v =>
  have EE : Hid (_ = some v) := E.out.trans hr
  have MQ : Hid (_ ∧ _) := mq (.int .i16 v.a) (.int .i16 v.b)
  clear mq hr E
  simp only [optV]
  go_wp2_with fail
  exact bodyPost_ret (v := .tuple #[.agg #[.int .i16 v.a, .int .i16 v.b], .bool true]) (by simp [results, Tryz.results318, go_sem, MQ.out.1, MQ.out.2]) rfl ⟨opt_some EE.out, (BW.out.setCell (p := ⟨w.heap.size + 1 + 1 + 1, 0, none⟩) (by show w.heap.size ≤ w.heap.size + 1 + 1 + 1; omega) _).setCell (p := ⟨w.heap.size + 1 + 1 + 1, 1, none⟩) (by show w.heap.size ≤ w.heap.size + 1 + 1 + 1; omega) _⟩
theorem iv_bound3 (dv : Value) (a b c d : Int) (w : World) (h1 : -32768 ≤ c) (h2 : c ≤ 32767) (h3 : -32768 ≤ d) (h4 : d ≤ 32767) :
  Calls Tryz.prog 318 #[.agg #[dv], .int .i64 3, .agg #[.int .i16 a, .int .i16 b], .agg #[.int .i16 c, .int .i16 d]] w fun e w' => e = .returned (optV (Sp.ivBound 3 ⟨a, b⟩ ⟨c, d⟩)) ∧ Below w.heap.size w w' := by
 have E : Hid (Sp.ivBound 3 ⟨a, b⟩ ⟨c, d⟩ = Sp.ivBeside ⟨a, b⟩ ⟨c, d⟩) := rfl
 go_enter Tryz.func318, Tryz.ntmps318
 go_wp2_with fail
 refine (iv_beside a b c d _ h1 h2 h3 h4).mono ?_
 rintro e w1 ⟨rfl, b1⟩
 obtain ⟨_, _, _, hz, bw⟩ := laid4b b1
 obtain ⟨m0, m1, mf0, mf1, mq⟩ := res2 hz
 have BW : Hid (Below w.heap.size w w1) := bw
 clear b1 bw hz
 cases hr : Sp.ivBeside ⟨a, b⟩ ⟨c, d⟩ with
 | none =>
  have EE : Hid (_ = none) := E.out.trans hr
  have MQ : Hid (_ ∧ _) := mq (.int .i16 0) (.int .i16 0)
  clear mq hr E
  simp only [optV]
  go_wp2_with fail
  exact bodyPost_ret (v := .tuple #[.agg #[.int .i16 0, .int .i16 0], .bool false]) (by simp [results, Tryz.results318, go_sem, MQ.out.1, MQ.out.2]) rfl ⟨opt_none EE.out, (BW.out.setCell (p := ⟨w.heap.size + 1 + 1 + 1, 0, none⟩) (by show w.heap.size ≤ w.heap.size + 1 + 1 + 1; omega) _).setCell (p := ⟨w.heap.size + 1 + 1 + 1, 1, none⟩) (by show w.heap.size ≤ w.heap.size + 1 + 1 + 1; omega) _⟩
 | some v =>
  have EE : Hid (_ = some v) := E.out.trans hr
  have MQ : Hid (_ ∧ _) := mq (.int .i16 v.a) (.int .i16 v.b)
  clear mq hr E
  simp only [optV]
  go_wp2_with fail
  exact bodyPost_ret (v := .tuple #[.agg #[.int .i16 v.a, .int .i16 v.b], .bool true]) (by simp [results, Tryz.results318, go_sem, MQ.out.1, MQ.out.2]) rfl ⟨opt_some EE.out, (BW.out.setCell (p := ⟨w.heap.size + 1 + 1 + 1, 0, none⟩) (by show w.heap.size ≤ w.heap.size + 1 + 1 + 1; omega) _).setCell (p := ⟨w.heap.size + 1 + 1 + 1, 1, none⟩) (by show w.heap.size ≤ w.heap.size + 1 + 1 + 1; omega) _⟩
theorem iv_bound4 (dv : Value) (a b c d : Int) (w : World) (_ : -32768 ≤ c) (_ : c ≤ 32767) (_ : -32768 ≤ d) (_ : d ≤ 32767) :
  Calls Tryz.prog 318 #[.agg #[dv], .int .i64 4, .agg #[.int .i16 a, .int .i16 b], .agg #[.int .i16 c, .int .i16 d]] w fun e w' => e = .returned (optV (Sp.ivBound 4 ⟨a, b⟩ ⟨c, d⟩)) ∧ Below w.heap.size w w' := by
 have E : Hid (Sp.ivBound 4 ⟨a, b⟩ ⟨c, d⟩ = Sp.ivMeet ⟨a, b⟩ ⟨c, 32767⟩) := rfl
 go_enter Tryz.func318, Tryz.ntmps318
 go_wp2_with fail
 refine (iv_meet a b c 32767 _).mono ?_
 rintro e w1 ⟨rfl, b1⟩
 obtain ⟨_, _, _, hz, bw⟩ := laid4b b1
 obtain ⟨m0, m1, mf0, mf1, mq⟩ := res2 hz
 have BW : Hid (Below w.heap.size w w1) := bw
 clear b1 bw hz
 cases hr : Sp.ivMeet ⟨a, b⟩ ⟨c, 32767⟩ with
 | none =>
  have EE : Hid (_ = none) := E.out.trans hr
  have MQ : Hid (_ ∧ _) := mq (.int .i16 0) (.int .i16 0)
  clear mq hr E
  simp only [optV]
  go_wp2_with fail
  exact bodyPost_ret (v := .tuple #[.agg #[.int .i16 0, .int .i16 0], .bool false]) (by simp [results, Tryz.results318, go_sem, MQ.out.1, MQ.out.2]) rfl ⟨opt_none EE.out, (BW.out.setCell (p := ⟨w.heap.size + 1 + 1 + 1, 0, none⟩) (by show w.heap.size ≤ w.heap.size + 1 + 1 + 1; omega) _).setCell (p := ⟨w.heap.size + 1 + 1 + 1, 1, none⟩) (by show w.heap.size ≤ w.heap.size + 1 + 1 + 1; omega) _⟩
 | some v =>
  have EE : Hid (_ = some v) := E.out.trans hr
  have MQ : Hid (_ ∧ _) := mq (.int .i16 v.a) (.int .i16 v.b)
  clear mq hr E
  simp only [optV]
  go_wp2_with fail
  exact bodyPost_ret (v := .tuple #[.agg #[.int .i16 v.a, .int .i16 v.b], .bool true]) (by simp [results, Tryz.results318, go_sem, MQ.out.1, MQ.out.2]) rfl ⟨opt_some EE.out, (BW.out.setCell (p := ⟨w.heap.size + 1 + 1 + 1, 0, none⟩) (by show w.heap.size ≤ w.heap.size + 1 + 1 + 1; omega) _).setCell (p := ⟨w.heap.size + 1 + 1 + 1, 1, none⟩) (by show w.heap.size ≤ w.heap.size + 1 + 1 + 1; omega) _⟩
theorem iv_bound5 (dv : Value) (a b c d : Int) (w : World) (h1 : -32768 ≤ c) (h2 : c ≤ 32767) (_ : -32768 ≤ d) (_ : d ≤ 32767) :
  Calls Tryz.prog 318 #[.agg #[dv], .int .i64 5, .agg #[.int .i16 a, .int .i16 b], .agg #[.int .i16 c, .int .i16 d]] w fun e w' => e = .returned (optV (Sp.ivBound 5 ⟨a, b⟩ ⟨c, d⟩)) ∧ Below w.heap.size w w' := by
 have E : Hid (Sp.ivBound 5 ⟨a, b⟩ ⟨c, d⟩ = Sp.ivAbove ⟨a, b⟩ c) := rfl
 go_enter Tryz.func318, Tryz.ntmps318
 go_wp2_with fail
 refine (iv_above a b c _ h1 h2).mono ?_
 rintro e w1 ⟨rfl, b1⟩
 obtain ⟨_, _, _, hz, bw⟩ := laid4b b1
 obtain ⟨m0, m1, mf0, mf1, mq⟩ := res2 hz
 have BW : Hid (Below w.heap.size w w1) := bw
 clear b1 bw hz
 cases hr : Sp.ivAbove ⟨a, b⟩ c with
 | none =>
  have EE : Hid (_ = none) := E.out.trans hr
  have MQ : Hid (_ ∧ _) := mq (.int .i16 0) (.int .i16 0)
  clear mq hr E
  simp only [optV]
  go_wp2_with fail
  exact bodyPost_ret (v := .tuple #[.agg #[.int .i16 0, .int .i16 0], .bool false]) (by simp [results, Tryz.results318, go_sem, MQ.out.1, MQ.out.2]) rfl ⟨opt_none EE.out, (BW.out.setCell (p := ⟨w.heap.size + 1 + 1 + 1, 0, none⟩) (by show w.heap.size ≤ w.heap.size + 1 + 1 + 1; omega) _).setCell (p := ⟨w.heap.size + 1 + 1 + 1, 1, none⟩) (by show w.heap.size ≤ w.heap.size + 1 + 1 + 1; omega) _⟩
 | some v =>
  have EE : Hid (_ = some v) := E.out.trans hr
  have MQ : Hid (_ ∧ _) := mq (.int .i16 v.a) (.int .i16 v.b)
  clear mq hr E
  simp only [optV]
  go_wp2_with fail
  exact bodyPost_ret (v := .tuple #[.agg #[.int .i16 v.a, .int .i16 v.b], .bool true]) (by simp [results, Tryz.results318, go_sem, MQ.out.1, MQ.out.2]) rfl ⟨opt_some EE.out, (BW.out.setCell (p := ⟨w.heap.size + 1 + 1 + 1, 0, none⟩) (by show w.heap.size ≤ w.heap.size + 1 + 1 + 1; omega) _).setCell (p := ⟨w.heap.size + 1 + 1 + 1, 1, none⟩) (by show w.heap.size ≤ w.heap.size + 1 + 1 + 1; omega) _⟩
theorem iv_bound (dv : Value) (r : Nat) (hr : r < 6) (a b c d : Int) (w : World) (h1 : -32768 ≤ c) (h2 : c ≤ 32767) (h3 : -32768 ≤ d) (h4 : d ≤ 32767) :
  Calls Tryz.prog 318 #[.agg #[dv], .int .i64 (r : Nat), .agg #[.int .i16 a, .int .i16 b], .agg #[.int .i16 c, .int .i16 d]] w fun e w' => e = .returned (optV (Sp.ivBound r ⟨a, b⟩ ⟨c, d⟩)) ∧ Below w.heap.size w w' := by
 rcases (show r = 0 ∨ r = 1 ∨ r = 2 ∨ r = 3 ∨ r = 4 ∨ r = 5 from by omega) with rfl | rfl | rfl | rfl | rfl | rfl
 ·exact iv_bound0 dv a b c d w h1 h2 h3 h4
 ·exact iv_bound1 dv a b c d w h1 h2 h3 h4
 ·exact iv_bound2 dv a b c d w h1 h2 h3 h4
 ·exact iv_bound3 dv a b c d w h1 h2 h3 h4
 ·exact iv_bound4 dv a b c d w h1 h2 h3 h4
 ·exact iv_bound5 dv a b c d w h1 h2 h3 h4
end Go.Proofs.YtiopfihjmkfdmaaGreatDoor
