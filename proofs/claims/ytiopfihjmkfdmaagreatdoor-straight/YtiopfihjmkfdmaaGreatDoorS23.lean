import Derived.Test.YtiopfihjmkfdmaaGreatDoorS10
import Derived.Test.YtiopfihjmkfdmaaGreatDoorS22
namespace Go.Proofs.YtiopfihjmkfdmaaGreatDoor
namespace Sp
def ivWf (x : Iv) : Prop := -32768 ≤ x.a ∧ x.a ≤ x.b ∧ x.b ≤ 32767
theorem foldmin_le : ∀ (l : List Int) (x : Int), l.foldl min x ≤ x ∧ ∀ y ∈ l, l.foldl min x ≤ y
 | [], x => ⟨Int.le_refl _, fun _ h => by cases h⟩
 | z :: l, x => by
  obtain ⟨h1, h2⟩ := foldmin_le l (min x z)
  refine ⟨by show l.foldl min (min x z) ≤ x; omega, fun y hy => ?_⟩
  show l.foldl min (min x z) ≤ y
  rcases List.mem_cons.1 hy with rfl | hy
  ·omega
  ·exact h2 y hy
theorem foldmax_le : ∀ (l : List Int) (x : Int), x ≤ l.foldl max x ∧ ∀ y ∈ l, y ≤ l.foldl max x
 | [], x => ⟨Int.le_refl _, fun _ h => by cases h⟩
 | z :: l, x => by
  obtain ⟨h1, h2⟩ := foldmax_le l (max x z)
  refine ⟨by show x ≤ l.foldl max (max x z); omega, fun y hy => ?_⟩
  show y ≤ l.foldl max (max x z)
  rcases List.mem_cons.1 hy with rfl | hy
  ·omega
  ·exact h2 y hy
theorem minL_le {l : List Int} {x : Int} (h : x ∈ l) : minL l ≤ x := by
 cases l with
 | nil => cases h
 | cons z l =>
  rcases List.mem_cons.1 h with rfl | h
  ·exact (foldmin_le l _).1
  ·exact (foldmin_le l z).2 x h
theorem le_maxL {l : List Int} {x : Int} (h : x ∈ l) : x ≤ maxL l := by
 cases l with
 | nil => cases h
 | cons z l =>
  rcases List.mem_cons.1 h with rfl | h
  ·exact (foldmax_le l _).1
  ·exact (foldmax_le l z).2 x h
theorem mem_quos {x : Iv} {l : List Int} {q : Int} (h : q ∈ l) : x.a.tdiv q ∈ (l.flatMap fun q => [x.a.tdiv q, x.b.tdiv q]) ∧ x.b.tdiv q ∈ (l.flatMap fun q => [x.a.tdiv q, x.b.tdiv q]) := by
 constructor
 ·exact List.mem_flatMap.2 ⟨q, h, by simp⟩
 ·exact List.mem_flatMap.2 ⟨q, h, by simp⟩
theorem iv_ext {x y : Iv} (h1 : x.a = y.a) (h2 : x.b = y.b) : x = y := by
 cases x; cases y; simp at h1 h2; rw [h1, h2]
theorem hull2_wf {a b : Int} (h : a ≤ b) : ivWf (hull2 a b) := by
 unfold hull2
 split
 ·exact ⟨by decide, by decide, by decide⟩
 ·exact ⟨by show -32768 ≤ a; omega, h, by show b ≤ 32767; omega⟩
theorem hullL_wf {l : List Int} {u : Int} (h : u ∈ l) : ivWf (hullL l) := hull2_wf (Int.le_trans (minL_le h) (le_maxL h))
theorem work_wf (k : Nat) (x y v : Iv) (hx : ivWf x) (hy : ivWf y) (h : ivWork k x y = some v) : ivWf v := by
 obtain ⟨h1, h2, h3⟩ := hx
 obtain ⟨h4, h5, h6⟩ := hy
 unfold ivWork at h
 split at h
 ·cases h; exact hull2_wf (by omega)
 ·split at h
  ·cases h; exact hull2_wf (by omega)
  ·split at h
   ·cases h; exact hullL_wf (u := x.a * y.a) (by simp)
   ·split at h
    ·unfold ivDivide at h
     split at h
     ·cases h
     ·next hne =>
      cases h
      obtain ⟨q, hq⟩ := List.exists_mem_of_ne_nil _ hne
      exact hullL_wf (mem_quos (x := x) hq).1
    ·unfold ivRest at h
     split at h
     ·cases h
     ·cases h
      exact hull2_wf (by omega)
theorem meet_wf {x y v : Iv} (hx : ivWf x) (h : ivMeet x y = some v) : ivWf v := by
 obtain ⟨h1, h2, h3⟩ := hx
 unfold ivMeet at h
 split at h
 ·cases h
  exact ⟨by show -32768 ≤ max x.a y.a; omega, by assumption, by show min x.b y.b ≤ 32767; omega⟩
 ·cases h
theorem below_wf {x v : Iv} {n : Int} (hx : ivWf x) (h : ivBelow x n = some v) : ivWf v := by
 unfold ivBelow at h
 split at h
 ·cases h
 ·exact meet_wf hx h
theorem above_wf {x v : Iv} {n : Int} (hx : ivWf x) (h : ivAbove x n = some v) : ivWf v := by
 unfold ivAbove at h
 split at h
 ·cases h
 ·exact meet_wf hx h
theorem bound_wf (r : Nat) (x y v : Iv) (hx : ivWf x) (_ : ivWf y) (h : ivBound r x y = some v) : ivWf v := by
 unfold ivBound at h
 split at h
 ·exact below_wf hx h
 ·split at h
  ·exact meet_wf hx h
  ·split at h
   ·exact meet_wf hx h
   ·split at h
    ·unfold ivBeside at h
     split at h
     ·cases h; exact hx
     ·split at h
      ·exact above_wf hx h
      ·split at h
       ·exact below_wf hx h
       ·cases h; exact hx
    ·split at h
     ·exact meet_wf hx h
     ·exact above_wf hx h
theorem stepBelow_in (n : Int) : ∀ (l : List Int) (st : Int), st ≤ n → -32768 ≤ st → -32768 ≤ l.foldl (fun st s => if s ≤ n then max st s else st) st ∧ l.foldl (fun st s => if s ≤ n then max st s else st) st ≤ n
 | [], st, h1, h2 => ⟨h2, h1⟩
 | s :: l, st, h1, h2 => by
  show -32768 ≤ l.foldl _ (if s ≤ n then max st s else st) ∧ l.foldl _ (if s ≤ n then max st s else st) ≤ n
  exact stepBelow_in n l _ (by split <;> omega) (by split <;> omega)
theorem stepAbove_in (n : Int) : ∀ (l : List Int) (st : Int), n ≤ st → st ≤ 32767 → n ≤ l.foldl (fun st s => if n ≤ s then min st s else st) st ∧ l.foldl (fun st s => if n ≤ s then min st s else st) st ≤ 32767
 | [], st, h1, h2 => ⟨h1, h2⟩
 | s :: l, st, h1, h2 => by
  show n ≤ l.foldl _ (if n ≤ s then min st s else st) ∧ l.foldl _ (if n ≤ s then min st s else st) ≤ 32767
  exact stepAbove_in n l _ (by split <;> omega) (by split <;> omega)
theorem widen_in (steps : List Int) (x y : Iv) (hx : ivWf x) (hy : ivWf y) : -32768 ≤ (ivWiden steps x y).a ∧ (ivWiden steps x y).a ≤ y.a ∧ y.b ≤ (ivWiden steps x y).b ∧ (ivWiden steps x y).b ≤ 32767 := by
 obtain ⟨h1, h2, h3⟩ := hx
 obtain ⟨h4, h5, h6⟩ := hy
 have e1 := stepBelow_in y.a steps (-32768) h4 (Int.le_refl _)
 have e2 := stepAbove_in y.b steps 32767 h6 (Int.le_refl _)
 unfold ivWiden stepBelow stepAbove
 simp only
 refine ⟨?_, ?_, ?_, ?_⟩
 ·split <;> omega
 ·split <;> omega
 ·split <;> omega
 ·split <;> omega
def ivRk (steps : List Int) : Rk (ivDom steps) where
 wf := ivWf
 rk x := (x.b - x.a + 65535).toNat
 top := 131070
 le x h := by
  obtain ⟨h1, h2, h3⟩ := h
  show (x.b - x.a + 65535).toNat ≤ 131070
  omega
 wnum n h := ⟨h.1, Int.le_refl _, h.2⟩
 wwhole := (⟨by decide, by decide, by decide⟩ : ivWf ivWhole)
 wneg x h := hull2_wf (by have := h.2.1; omega)
 wwork := work_wf
 wjoin x y h k := ⟨by show -32768 ≤ min x.a y.a; have := h.1; have := k.1; omega, by show min x.a y.a ≤ max x.b y.b; have := h.2.1; omega, by show max x.b y.b ≤ 32767; have := h.2.2; have := k.2.2; omega⟩
 wbound := bound_wf
 wwiden x y h k := by
  obtain ⟨h1, h2, h3, h4⟩ := widen_in steps x y h k
  exact ⟨h1, by have := k.2.1; show (ivWiden steps x y).a ≤ (ivWiden steps x y).b; omega, h4⟩
 sub x y := y.a ≤ x.a ∧ x.b ≤ y.b
 sub_refl x := ⟨Int.le_refl _, Int.le_refl _⟩
 sub_trans x y z h k := ⟨Int.le_trans k.1 h.1, Int.le_trans h.2 k.2⟩
 sub_joinl x y := ⟨by show min x.a y.a ≤ x.a; omega, by show x.b ≤ max x.b y.b; omega⟩
 sub_joinr x y := ⟨by show min x.a y.a ≤ y.a; omega, by show y.b ≤ max x.b y.b; omega⟩
 sub_narrow x y z h k := by
  have h1 : x.a ≤ z.a := h.1
  have h2 : z.b ≤ x.b := h.2
  have k1 : y.a ≤ z.a := k.1
  have k2 : z.b ≤ y.b := k.2
  constructor
  ·show (if x.a = -32768 then y.a else x.a) ≤ z.a
   split <;> omega
  ·show z.b ≤ (if x.b = 32767 then y.b else x.b)
   split <;> omega
 wnarrow x y z hx hy hz h k := by
  have h1 : x.a ≤ z.a := h.1
  have h2 : z.b ≤ x.b := h.2
  have k1 : y.a ≤ z.a := k.1
  have k2 : z.b ≤ y.b := k.2
  obtain ⟨a1, a2, a3⟩ := hx
  obtain ⟨b1, b2, b3⟩ := hy
  obtain ⟨c1, c2, c3⟩ := hz
  refine ⟨?_, ?_, ?_⟩
  ·show -32768 ≤ (if x.a = -32768 then y.a else x.a)
   split <;> omega
  ·show (if x.a = -32768 then y.a else x.a) ≤ (if x.b = 32767 then y.b else x.b)
   split <;> split <;> omega
  ·show (if x.b = 32767 then y.b else x.b) ≤ 32767
   split <;> omega
 join_lt x y h k hne := by
  obtain ⟨h1, h2, h3⟩ := h
  obtain ⟨k1, k2, k3⟩ := k
  show (x.b - x.a + 65535).toNat < (max x.b y.b - min x.a y.a + 65535).toNat
  have : ¬ (min x.a y.a = x.a ∧ max x.b y.b = x.b) := fun e => hne (iv_ext e.1 e.2)
  omega
 widen_le x y h k := by
  have hj : ivWf ⟨min x.a y.a, max x.b y.b⟩ := ⟨by show -32768 ≤ min x.a y.a; have := h.1; have := k.1; omega, by show min x.a y.a ≤ max x.b y.b; have := h.2.1; omega, by show max x.b y.b ≤ 32767; have := h.2.2; have := k.2.2; omega⟩
  obtain ⟨h1, h2, h3, h4⟩ := widen_in steps x ⟨min x.a y.a, max x.b y.b⟩ h hj
  show (max x.b y.b - min x.a y.a + 65535).toNat ≤ ((ivWiden steps x ⟨min x.a y.a, max x.b y.b⟩).b - (ivWiden steps x ⟨min x.a y.a, max x.b y.b⟩).a + 65535).toNat
  have h2 : (ivWiden steps x ⟨min x.a y.a, max x.b y.b⟩).a ≤ min x.a y.a := h2
  have h3 : max x.b y.b ≤ (ivWiden steps x ⟨min x.a y.a, max x.b y.b⟩).b := h3
  omega
 fuel := by show 8 * 131070 < 1100000; decide
end Sp
end Go.Proofs.YtiopfihjmkfdmaaGreatDoor
namespace Go.Proofs.YtiopfihjmkfdmaaGreatDoor
open Go.RowKit
set_option maxRecDepth 100000
set_option maxHeartbeats 1000000
theorem iv_bound0 (dv : Value) (a b c d : Int) (w : World) (_ : -32768 ≤ c) (_ : c ≤ 32767) (h3 : -32768 ≤ d) (h4 : d ≤ 32767) :
  Calls Tryz.prog 318 #[.agg #[dv], .int .i64 0, .agg #[.int .i16 a, .int .i16 b], .agg #[.int .i16 c, .int .i16 d]] w fun e w' => e = .returned (optV (Sp.ivBound 0 ⟨a, b⟩ ⟨c, d⟩)) ∧ Below w.heap.size w w' := by
 have E : Hid (Sp.ivBound 0 ⟨a, b⟩ ⟨c, d⟩ = Sp.ivBelow ⟨a, b⟩ d) := rfl
 go_enter Tryz.func318, Tryz.ntmps318
 go_wp2_with fail
 refine (iv_below a b d _ h3 h4).mono ?_
 rintro e w1 ⟨rfl, b1⟩
 obtain ⟨_, _, _, hz, bw⟩ := laid4b b1
 obtain ⟨m0, m1, mf0, mf1, mq⟩ := res2 hz
 have BW : Hid (Below w.heap.size w w1) := bw
 clear b1 bw hz
 cases hr : Sp.ivBelow ⟨a, b⟩ d with
 | none =>
  have EE : Hid (_ = none) := E.out.trans hr
  have MQ : Hid (_ ∧ _) := mq (.int .i16 0) (.int .i16 0)
  clear mq hr E
  simp only [optV]
  go_wp2_with fail
  exact bodyPost_ret (v := .tuple #[.agg #[.int .i16 0, .int .i16 0], .bool false]) (by simp [results, Tryz.results318, go_sem, MQ.out.1, MQ.out.2]) rfl ⟨opt_none EE.out, (BW.out.setCell (p := ⟨w.heap.size + 1 + 1 + 1, 0, none⟩) (by show w.heap.size ≤ w.heap.size + 1 + 1 + 1; omega) _).setCell (p := ⟨w.heap.size + 1 + 1 + 1, 1, none⟩) (by show w.heap.size ≤ w.heap.size + 1 + 1 + 1; omega) _⟩
 | some v =>
  have EE : Hid (_ = some v) := E.out.trans hr
  have MQ : Hid (_ ∧ _) := mq (.int .i16 v.a) (.int .i16 v.b)
  clear mq hr E
  simp only [optV]
  go_wp2_with fail
  exact bodyPost_ret (v := .tuple #[.agg #[.int .i16 v.a, .int .i16 v.b], .bool true]) (by simp [results, Tryz.results318, go_sem, MQ.out.1, MQ.out.2]) rfl ⟨opt_some EE.out, (BW.out.setCell (p := ⟨w.heap.size + 1 + 1 + 1, 0, none⟩) (by show w.heap.size ≤ w.heap.size + 1 + 1 + 1; omega) _).setCell (p := ⟨w.heap.size + 1 + 1 + 1, 1, none⟩) (by show w.heap.size ≤ w.heap.size + 1 + 1 + 1; omega) _⟩
theorem iv_bound1 (dv : Value) (a b c d : Int) (w : World) (_ : -32768 ≤ c) (_ : c ≤ 32767) (_ : -32768 ≤ d) (_ : d ≤ 32767) :
  Calls Tryz.prog 318 #[.agg #[dv], .int .i64 1, .agg #[.int .i16 a, .int .i16 b], .agg #[.int .i16 c, .int .i16 d]] w fun e w' => e = .returned (optV (Sp.ivBound 1 ⟨a, b⟩ ⟨c, d⟩)) ∧ Below w.heap.size w w' := by
 have E : Hid (Sp.ivBound 1 ⟨a, b⟩ ⟨c, d⟩ = Sp.ivMeet ⟨a, b⟩ ⟨-32768, d⟩) := rfl
 go_enter Tryz.func318, Tryz.ntmps318
 go_wp2_with fail
 refine (iv_meet a b (-32768) d _).mono ?_
 rintro e w1 ⟨rfl, b1⟩
 obtain ⟨_, _, _, hz, bw⟩ := laid4b b1
 obtain ⟨m0, m1, mf0, mf1, mq⟩ := res2 hz
 have BW : Hid (Below w.heap.size w w1) := bw
 clear b1 bw hz
 cases hr : Sp.ivMeet ⟨a, b⟩ ⟨-32768, d⟩ with
 | none =>
  have EE : Hid (_ = none) := E.out.trans hr
  have MQ : Hid (_ ∧ _) := mq (.int .i16 0) (.int .i16 0)
  clear mq hr E
  simp only [optV]
  go_wp2_with fail
  exact bodyPost_ret (v := .tuple #[.agg #[.int .i16 0, .int .i16 0], .bool false]) (by simp [results, Tryz.results318, go_sem, MQ.out.1, MQ.out.2]) rfl ⟨opt_none EE.out, (BW.out.setCell (p := ⟨w.heap.size + 1 + 1 + 1, 0, none⟩) (by show w.heap.size ≤ w.heap.size + 1 + 1 + 1; omega) _).setCell (p := ⟨w.heap.size + 1 + 1 + 1, 1, none⟩) (by show w.heap.size ≤ w.heap.size + 1 + 1 + 1; omega) _⟩
 | some v =>
  have EE : Hid (_ = some v) := E.out.trans hr
  have MQ : Hid (_ ∧ _) := mq (.int .i16 v.a) (.int .i16 v.b)
  clear mq hr E
  simp only [optV]
  go_wp2_with fail
  exact bodyPost_ret (v := .tuple #[.agg #[.int .i16 v.a, .int .i16 v.b], .bool true]) (by simp [results, Tryz.results318, go_sem, MQ.out.1, MQ.out.2]) rfl ⟨opt_some EE.out, (BW.out.setCell (p := ⟨w.heap.size + 1 + 1 + 1, 0, none⟩) (by show w.heap.size ≤ w.heap.size + 1 + 1 + 1; omega) _).setCell (p := ⟨w.heap.size + 1 + 1 + 1, 1, none⟩) (by show w.heap.size ≤ w.heap.size + 1 + 1 + 1; omega) _⟩
theorem iv_bound2 (dv : Value) (a b c d : Int) (w : World) (_ : -32768 ≤ c) (_ : c ≤ 32767) (_ : -32768 ≤ d) (_ : d ≤ 32767) :
  Calls Tryz.prog 318 #[.agg #[dv], .int .i64 2, .agg #[.int .i16 a, .int .i16 b], .agg #[.int .i16 c, .int .i16 d]] w fun e w' => e = .returned (optV (Sp.ivBound 2 ⟨a, b⟩ ⟨c, d⟩)) ∧ Below w.heap.size w w' := by
 have E : Hid (Sp.ivBound 2 ⟨a, b⟩ ⟨c, d⟩ = Sp.ivMeet ⟨a, b⟩ ⟨c, d⟩) := rfl
 go_enter Tryz.func318, Tryz.ntmps318
 go_wp2_with fail
 refine (iv_meet a b c d _).mono ?_
 rintro e w1 ⟨rfl, b1⟩
 obtain ⟨_, _, _, hz, bw⟩ := laid4b b1
 obtain ⟨m0, m1, mf0, mf1, mq⟩ := res2 hz
 have BW : Hid (Below w.heap.size w w1) := bw
 clear b1 bw hz
 cases hr : Sp.ivMeet ⟨a, b⟩ ⟨c, d⟩ with
 | none =>
  have EE : Hid (_ = none) := E.out.trans hr
  have MQ : Hid (_ ∧ _) := mq (.int .i16 0) (.int .i16 0)
  clear mq hr E
  simp only [optV]
  go_wp2_with fail
  exact bodyPost_ret (v := .tuple #[.agg #[.int .i16 0, .int .i16 0], .bool false]) (by simp [results, Tryz.results318, go_sem, MQ.out.1, MQ.out.2]) rfl ⟨opt_none EE.out, (BW.out.setCell (p := ⟨w.heap.size + 1 + 1 + 1, 0, none⟩) (by show w.heap.size ≤ w.heap.size + 1 + 1 + 1; omega) _).setCell (p := ⟨w.heap.size + 1 + 1 + 1, 1, none⟩) (by show w.heap.size ≤ w.heap.size + 1 + 1 + 1; omega) _⟩
 | some v =>
  have EE : Hid (_ = some v) := E.out.trans hr
  have MQ : Hid (_ ∧ _) := mq (.int .i16 v.a) (.int .i16 v.b)
  clear mq hr E
  simp only [optV]
  go_wp2_with fail
  exact bodyPost_ret (v := .tuple #[.agg #[.int .i16 v.a, .int .i16 v.b], .bool true]) (by simp [results, Tryz.results318, go_sem, MQ.out.1, MQ.out.2]) rfl ⟨opt_some EE.out, (BW.out.setCell (p := ⟨w.heap.size + 1 + 1 + 1, 0, none⟩) (by show w.heap.size ≤ w.heap.size + 1 + 1 + 1; omega) _).setCell (p := ⟨w.heap.size + 1 + 1 + 1, 1, none⟩) (by show w.heap.size ≤ w.heap.size + 1 + 1 + 1; omega) _⟩
theorem iv_bound3 (dv : Value) (a b c d : Int) (w : World) (h1 : -32768 ≤ c) (h2 : c ≤ 32767) (h3 : -32768 ≤ d) (h4 : d ≤ 32767) :
  Calls Tryz.prog 318 #[.agg #[dv], .int .i64 3, .agg #[.int .i16 a, .int .i16 b], .agg #[.int .i16 c, .int .i16 d]] w fun e w' => e = .returned (optV (Sp.ivBound 3 ⟨a, b⟩ ⟨c, d⟩)) ∧ Below w.heap.size w w' := by
 have E : Hid (Sp.ivBound 3 ⟨a, b⟩ ⟨c, d⟩ = Sp.ivBeside ⟨a, b⟩ ⟨c, d⟩) := rfl
 go_enter Tryz.func318, Tryz.ntmps318
 go_wp2_with fail
 refine (iv_beside a b c d _ h1 h2 h3 h4).mono ?_
 rintro e w1 ⟨rfl, b1⟩
 obtain ⟨_, _, _, hz, bw⟩ := laid4b b1
 obtain ⟨m0, m1, mf0, mf1, mq⟩ := res2 hz
 have BW : Hid (Below w.heap.size w w1) := bw
 clear b1 bw hz
 cases hr : Sp.ivBeside ⟨a, b⟩ ⟨c, d⟩ with
 | none =>
  have EE : Hid (_ = none) := E.out.trans hr
  have MQ : Hid (_ ∧ _) := mq (.int .i16 0) (.int .i16 0)
  clear mq hr E
  simp only [optV]
  go_wp2_with fail
  exact bodyPost_ret (v := .tuple #[.agg #[.int .i16 0, .int .i16 0], .bool false]) (by simp [results, Tryz.results318, go_sem, MQ.out.1, MQ.out.2]) rfl ⟨opt_none EE.out, (BW.out.setCell (p := ⟨w.heap.size + 1 + 1 + 1, 0, none⟩) (by show w.heap.size ≤ w.heap.size + 1 + 1 + 1; omega) _).setCell (p := ⟨w.heap.size + 1 + 1 + 1, 1, none⟩) (by show w.heap.size ≤ w.heap.size + 1 + 1 + 1; omega) _⟩
 | some v =>
  have EE : Hid (_ = some v) := E.out.trans hr
  have MQ : Hid (_ ∧ _) := mq (.int .i16 v.a) (.int .i16 v.b)
  clear mq hr E
  simp only [optV]
  go_wp2_with fail
  exact bodyPost_ret (v := .tuple #[.agg #[.int .i16 v.a, .int .i16 v.b], .bool true]) (by simp [results, Tryz.results318, go_sem, MQ.out.1, MQ.out.2]) rfl ⟨opt_some EE.out, (BW.out.setCell (p := ⟨w.heap.size + 1 + 1 + 1, 0, none⟩) (by show w.heap.size ≤ w.heap.size + 1 + 1 + 1; omega) _).setCell (p := ⟨w.heap.size + 1 + 1 + 1, 1, none⟩) (by show w.heap.size ≤ w.heap.size + 1 + 1 + 1; omega) _⟩
theorem iv_bound4 (dv : Value) (a b c d : Int) (w : World) (_ : -32768 ≤ c) (_ : c ≤ 32767) (_ : -32768 ≤ d) (_ : d ≤ 32767) :
  Calls Tryz.prog 318 #[.agg #[dv], .int .i64 4, .agg #[.int .i16 a, .int .i16 b], .agg #[.int .i16 c, .int .i16 d]] w fun e w' => e = .returned (optV (Sp.ivBound 4 ⟨a, b⟩ ⟨c, d⟩)) ∧ Below w.heap.size w w' := by
 have E : Hid (Sp.ivBound 4 ⟨a, b⟩ ⟨c, d⟩ = Sp.ivMeet ⟨a, b⟩ ⟨c, 32767⟩) := rfl
 go_enter Tryz.func318, Tryz.ntmps318
 go_wp2_with fail
 refine (iv_meet a b c 32767 _).mono ?_
 rintro e w1 ⟨rfl, b1⟩
 obtain ⟨_, _, _, hz, bw⟩ := laid4b b1
 obtain ⟨m0, m1, mf0, mf1, mq⟩ := res2 hz
 have BW : Hid (Below w.heap.size w w1) := bw
 clear b1 bw hz
 cases hr : Sp.ivMeet ⟨a, b⟩ ⟨c, 32767⟩ with
 | none =>
  have EE : Hid (_ = none) := E.out.trans hr
  have MQ : Hid (_ ∧ _) := mq (.int .i16 0) (.int .i16 0)
  clear mq hr E
  simp only [optV]
  go_wp2_with fail
  exact bodyPost_ret (v := .tuple #[.agg #[.int .i16 0, .int .i16 0], .bool false]) (by simp [results, Tryz.results318, go_sem, MQ.out.1, MQ.out.2]) rfl ⟨opt_none EE.out, (BW.out.setCell (p := ⟨w.heap.size + 1 + 1 + 1, 0, none⟩) (by show w.heap.size ≤ w.heap.size + 1 + 1 + 1; omega) _).setCell (p := ⟨w.heap.size + 1 + 1 + 1, 1, none⟩) (by show w.heap.size ≤ w.heap.size + 1 + 1 + 1; omega) _⟩
 | some v =>
  have EE : Hid (_ = some v) := E.out.trans hr
  have MQ : Hid (_ ∧ _) := mq (.int .i16 v.a) (.int .i16 v.b)
  clear mq hr E
  simp only [optV]
  go_wp2_with fail
  exact bodyPost_ret (v := .tuple #[.agg #[.int .i16 v.a, .int .i16 v.b], .bool true]) (by simp [results, Tryz.results318, go_sem, MQ.out.1, MQ.out.2]) rfl ⟨opt_some EE.out, (BW.out.setCell (p := ⟨w.heap.size + 1 + 1 + 1, 0, none⟩) (by show w.heap.size ≤ w.heap.size + 1 + 1 + 1; omega) _).setCell (p := ⟨w.heap.size + 1 + 1 + 1, 1, none⟩) (by show w.heap.size ≤ w.heap.size + 1 + 1 + 1; omega) _⟩
theorem iv_bound5 (dv : Value) (a b c d : Int) (w : World) (h1 : -32768 ≤ c) (h2 : c ≤ 32767) (_ : -32768 ≤ d) (_ : d ≤ 32767) :
  Calls Tryz.prog 318 #[.agg #[dv], .int .i64 5, .agg #[.int .i16 a, .int .i16 b], .agg #[.int .i16 c, .int .i16 d]] w fun e w' => e = .returned (optV (Sp.ivBound 5 ⟨a, b⟩ ⟨c, d⟩)) ∧ Below w.heap.size w w' := by
 have E : Hid (Sp.ivBound 5 ⟨a, b⟩ ⟨c, d⟩ = Sp.ivAbove ⟨a, b⟩ c) := rfl
 go_enter Tryz.func318, Tryz.ntmps318
 go_wp2_with fail
 refine (iv_above a b c _ h1 h2).mono ?_
 rintro e w1 ⟨rfl, b1⟩
 obtain ⟨_, _, _, hz, bw⟩ := laid4b b1
 obtain ⟨m0, m1, mf0, mf1, mq⟩ := res2 hz
 have BW : Hid (Below w.heap.size w w1) := bw
 clear b1 bw hz
 cases hr : Sp.ivAbove ⟨a, b⟩ c with
 | none =>
  have EE : Hid (_ = none) := E.out.trans hr
  have MQ : Hid (_ ∧ _) := mq (.int .i16 0) (.int .i16 0)
  clear mq hr E
  simp only [optV]
  go_wp2_with fail
  exact bodyPost_ret (v := .tuple #[.agg #[.int .i16 0, .int .i16 0], .bool false]) (by simp [results, Tryz.results318, go_sem, MQ.out.1, MQ.out.2]) rfl ⟨opt_none EE.out, (BW.out.setCell (p := ⟨w.heap.size + 1 + 1 + 1, 0, none⟩) (by show w.heap.size ≤ w.heap.size + 1 + 1 + 1; omega) _).setCell (p := ⟨w.heap.size + 1 + 1 + 1, 1, none⟩) (by show w.heap.size ≤ w.heap.size + 1 + 1 + 1; omega) _⟩
 | some v =>
  have EE : Hid (_ = some v) := E.out.trans hr
  have MQ : Hid (_ ∧ _) := mq (.int .i16 v.a) (.int .i16 v.b)
  clear mq hr E
  simp only [optV]
  go_wp2_with fail
  exact bodyPost_ret (v := .tuple #[.agg #[.int .i16 v.a, .int .i16 v.b], .bool true]) (by simp [results, Tryz.results318, go_sem, MQ.out.1, MQ.out.2]) rfl ⟨opt_some EE.out, (BW.out.setCell (p := ⟨w.heap.size + 1 + 1 + 1, 0, none⟩) (by show w.heap.size ≤ w.heap.size + 1 + 1 + 1; omega) _).setCell (p := ⟨w.heap.size + 1 + 1 + 1, 1, none⟩) (by show w.heap.size ≤ w.heap.size + 1 + 1 + 1; omega) _⟩
theorem iv_bound (dv : Value) (r : Nat) (hr : r < 6) (a b c d : Int) (w : World) (h1 : -32768 ≤ c) (h2 : c ≤ 32767) (h3 : -32768 ≤ d) (h4 : d ≤ 32767) :
  Calls Tryz.prog 318 #[.agg #[dv], .int .i64 (r : Nat), .agg #[.int .i16 a, .int .i16 b], .agg #[.int .i16 c, .int .i16 d]] w fun e w' => e = .returned (optV (Sp.ivBound r ⟨a, b⟩ ⟨c, d⟩)) ∧ Below w.heap.size w w' := by
 rcases (show r = 0 ∨ r = 1 ∨ r = 2 ∨ r = 3 ∨ r = 4 ∨ r = 5 from by omega) with rfl | rfl | rfl | rfl | rfl | rfl
 ·exact iv_bound0 dv a b c d w h1 h2 h3 h4
 ·exact iv_bound1 dv a b c d w h1 h2 h3 h4
 ·exact iv_bound2 dv a b c d w h1 h2 h3 h4
 ·exact iv_bound3 dv a b c d w h1 h2 h3 h4
 ·exact iv_bound4 dv a b c d w h1 h2 h3 h4
 ·exact iv_bound5 dv a b c d w h1 h2 h3 h4
end Go.Proofs.YtiopfihjmkfdmaaGreatDoor
namespace Go.Proofs.YtiopfihjmkfdmaaGreatDoor
open Go.RowKit
set_option maxRecDepth 100000
set_option maxHeartbeats 1000000
theorem iv_stepBelow (g off cap : Nat) (steps : List Int) (n : Int) (w : World) (hg : g < w.heap.size) (hl : (steps.length : Int) ≤ 1000000) (hc : ∀ i x, steps[i]? = some x → w.cell? ⟨g, off + i, none⟩ = some (.int .i16 x)) :
  Calls Tryz.prog 336 #[.agg #[.slice (some ⟨g, off, none⟩) steps.length cap], .int .i16 n] w fun e w' => e = .returned (.int .i16 (Sp.stepBelow steps n)) ∧ Below w.heap.size w w' := by
 have hc' : Hid (∀ i x, steps[i]? = some x → (w.alloc (.cells #[.slice (some ⟨g, off, none⟩) steps.length cap] 133)).cell? ⟨g, off + i, none⟩ = some (.int .i16 x)) := fun i x h => by
  rw [(below_alloc1 w _).cell (p := ⟨g, off + i, none⟩) hg]; exact hc i x h
 clear hc hg
 go_enter Tryz.func336, Tryz.ntmps336
 go_wp2_with fail
 go_loop [5, 11] (fun v5 v11 => ∃ (j : Nat) (st : Int), j ≤ steps.length ∧ v11 = .int .i64 j ∧ v5 = .int .i16 st ∧ Hid (Sp.stepBelow steps n = (steps.drop j).foldl (fun st s => if s ≤ n then max st s else st) st)) (fun _ v11 => steps.length - (intOf v11).toNat)
 case atStart => exact ⟨0, -32768, Nat.zero_le _, rfl, rfl, rfl⟩
 case round =>
  obtain ⟨j, st, hj, rfl, rfl, hq⟩ := hrel
  by_cases hjlt : j < steps.length
  ·obtain ⟨x, hx⟩ : ∃ x, steps[j]? = some x := ⟨_, List.getElem?_eq_getElem hjlt⟩
   have hcx := hc'.out j x hx
   have hd : steps.drop j = x :: steps.drop (j + 1) := by
    rw [List.drop_eq_getElem_cons hjlt, (List.getElem?_eq_some_iff.1 hx).2]
   have HD : Hid (Sp.stepBelow steps n = (steps.drop (j + 1)).foldl (fun st s => if s ≤ n then max st s else st) (if x ≤ n then max st x else st)) := by
    unfold Hid; rw [hq.out, hd]; rfl
   clear hd hx
   by_cases hle : x ≤ n
   ·rw [if_pos hle] at HD
    go_wp2_with fail
    all_goals exact ⟨⟨j + 1, _, by omega, by go_num, rfl, by unfold Hid; rw [HD.out] <;> congr 1 <;> omega⟩, by simp [intOf]; omega⟩
   ·rw [if_neg hle] at HD
    go_wp2_with fail
    all_goals exact ⟨⟨j + 1, _, by omega, by go_num, rfl, HD⟩, by simp [intOf]; omega⟩
  ·have E : Hid (Sp.stepBelow steps n = st) := by
    unfold Hid; rw [hq.out, List.drop_of_length_le (by omega)]; rfl
   go_wp2_with fail
   go_returns
   exact ⟨ret_int E.out.symm, by go_grown⟩
theorem iv_stepAbove (g off cap : Nat) (steps : List Int) (n : Int) (w : World) (hg : g < w.heap.size) (hl : (steps.length : Int) ≤ 1000000) (hc : ∀ i x, steps[i]? = some x → w.cell? ⟨g, off + i, none⟩ = some (.int .i16 x)) :
  Calls Tryz.prog 329 #[.agg #[.slice (some ⟨g, off, none⟩) steps.length cap], .int .i16 n] w fun e w' => e = .returned (.int .i16 (Sp.stepAbove steps n)) ∧ Below w.heap.size w w' := by
 have hc' : Hid (∀ i x, steps[i]? = some x → (w.alloc (.cells #[.slice (some ⟨g, off, none⟩) steps.length cap] 133)).cell? ⟨g, off + i, none⟩ = some (.int .i16 x)) := fun i x h => by
  rw [(below_alloc1 w _).cell (p := ⟨g, off + i, none⟩) hg]; exact hc i x h
 clear hc hg
 go_enter Tryz.func329, Tryz.ntmps329
 go_wp2_with fail
 go_loop [5, 11] (fun v5 v11 => ∃ (j : Nat) (st : Int), j ≤ steps.length ∧ v11 = .int .i64 j ∧ v5 = .int .i16 st ∧ Hid (Sp.stepAbove steps n = (steps.drop j).foldl (fun st s => if n ≤ s then min st s else st) st)) (fun _ v11 => steps.length - (intOf v11).toNat)
 case atStart => exact ⟨0, 32767, Nat.zero_le _, rfl, rfl, rfl⟩
 case round =>
  obtain ⟨j, st, hj, rfl, rfl, hq⟩ := hrel
  by_cases hjlt : j < steps.length
  ·obtain ⟨x, hx⟩ : ∃ x, steps[j]? = some x := ⟨_, List.getElem?_eq_getElem hjlt⟩
   have hcx := hc'.out j x hx
   have hd : steps.drop j = x :: steps.drop (j + 1) := by
    rw [List.drop_eq_getElem_cons hjlt, (List.getElem?_eq_some_iff.1 hx).2]
   have HD : Hid (Sp.stepAbove steps n = (steps.drop (j + 1)).foldl (fun st s => if n ≤ s then min st s else st) (if n ≤ x then min st x else st)) := by
    unfold Hid; rw [hq.out, hd]; rfl
   clear hd hx
   by_cases hle : n ≤ x
   ·rw [if_pos hle] at HD
    go_wp2_with fail
    all_goals exact ⟨⟨j + 1, _, by omega, by go_num, rfl, by unfold Hid; rw [HD.out] <;> congr 1 <;> omega⟩, by simp [intOf]; omega⟩
   ·rw [if_neg hle] at HD
    go_wp2_with fail
    all_goals exact ⟨⟨j + 1, _, by omega, by go_num, rfl, HD⟩, by simp [intOf]; omega⟩
  ·have E : Hid (Sp.stepAbove steps n = st) := by
    unfold Hid; rw [hq.out, List.drop_of_length_le (by omega)]; rfl
   go_wp2_with fail
   go_returns
   exact ⟨ret_int E.out.symm, by go_grown⟩
def StepsAt (w : World) (v : Value) (steps : List Int) : Prop := ∃ g off cap, v = .slice (some ⟨g, off, none⟩) steps.length cap ∧ g < w.heap.size ∧ (steps.length : Int) ≤ 1000000 ∧ ∀ i x, steps[i]? = some x → w.cell? ⟨g, off + i, none⟩ = some (.int .i16 x)
theorem StepsAt.below {w w' : World} {v : Value} {steps : List Int} (h : StepsAt w v steps) (b : Below w.heap.size w w') : StepsAt w' v steps := by
 obtain ⟨g, off, cap, rfl, hg, hl, hc⟩ := h
 exact ⟨g, off, cap, rfl, Nat.lt_of_lt_of_le hg b.size, hl, fun i x hx => by rw [b.cell (p := ⟨g, off + i, none⟩) hg]; exact hc i x hx⟩
structure WidAt (w : World) (v : Value) (p q c d : Int) (W : World) : Prop where
 o : W.heap[w.heap.size]? = some (.cells #[v] 133)
 x : W.heap[w.heap.size + 1]? = some (.cells #[.int .i16 p, .int .i16 q] 131)
 y : W.heap[w.heap.size + 1 + 1]? = some (.cells #[.int .i16 c, .int .i16 d] 131)
 z : W.heap[w.heap.size + 1 + 1 + 1]? = some (.cells #[.int .i16 0, .int .i16 0] 131)
 b : Below w.heap.size w W
theorem WidAt.call {w : World} {v : Value} {p q c d : Int} {W W' : World} (h : WidAt w v p q c d W) (k : Below W.heap.size W W') : WidAt w v p q c d W' :=
 ⟨(k.block _ (heap_lt h.o)).trans h.o, (k.block _ (heap_lt h.x)).trans h.x, (k.block _ (heap_lt h.y)).trans h.y, (k.block _ (heap_lt h.z)).trans h.z, h.b.trans (k.mono h.b.size)⟩
theorem WidAt.setA {w : World} {v : Value} {p q c d : Int} {W : World} (h : WidAt w v p q c d W) (u : Int) : WidAt w v u q c d (W.setCell ⟨w.heap.size + 1, 0, none⟩ (.int .i16 u)) :=
 ⟨by rw [Below.heap_setCell _ _ _ _ (by show w.heap.size ≠ w.heap.size + 1; omega)]; exact h.o, by rw [heap_setCell_at h.x 0 (.int .i16 u)]; rfl, by rw [Below.heap_setCell _ _ _ _ (by show w.heap.size + 1 + 1 ≠ w.heap.size + 1; omega)]; exact h.y, by rw [Below.heap_setCell _ _ _ _ (by show w.heap.size + 1 + 1 + 1 ≠ w.heap.size + 1; omega)]; exact h.z, h.b.setCell (p := ⟨w.heap.size + 1, 0, none⟩) (Nat.le_succ _) _⟩
theorem WidAt.setB {w : World} {v : Value} {p q c d : Int} {W : World} (h : WidAt w v p q c d W) (u : Int) : WidAt w v p u c d (W.setCell ⟨w.heap.size + 1, 1, none⟩ (.int .i16 u)) :=
 ⟨by rw [Below.heap_setCell _ _ _ _ (by show w.heap.size ≠ w.heap.size + 1; omega)]; exact h.o, by rw [heap_setCell_at h.x 1 (.int .i16 u)]; rfl, by rw [Below.heap_setCell _ _ _ _ (by show w.heap.size + 1 + 1 ≠ w.heap.size + 1; omega)]; exact h.y, by rw [Below.heap_setCell _ _ _ _ (by show w.heap.size + 1 + 1 + 1 ≠ w.heap.size + 1; omega)]; exact h.z, h.b.setCell (p := ⟨w.heap.size + 1, 1, none⟩) (Nat.le_succ _) _⟩
theorem WidAt.res {w : World} {v : Value} {p q c d : Int} {W : World} (h : WidAt w v p q c d W) (u u' : Value) : ((W.setCell ⟨w.heap.size + 1 + 1 + 1, 0, none⟩ u).setCell ⟨w.heap.size + 1 + 1 + 1, 1, none⟩ u').cell? ⟨w.heap.size + 1 + 1 + 1, 0, none⟩ = some u ∧ ((W.setCell ⟨w.heap.size + 1 + 1 + 1, 0, none⟩ u).setCell ⟨w.heap.size + 1 + 1 + 1, 1, none⟩ u').cell? ⟨w.heap.size + 1 + 1 + 1, 1, none⟩ = some u' ∧ Below w.heap.size w ((W.setCell ⟨w.heap.size + 1 + 1 + 1, 0, none⟩ u).setCell ⟨w.heap.size + 1 + 1 + 1, 1, none⟩ u') :=
 ⟨((res2 h.z).2.2.2.2 u u').1, ((res2 h.z).2.2.2.2 u u').2, (h.b.setCell (p := ⟨w.heap.size + 1 + 1 + 1, 0, none⟩) (by show w.heap.size ≤ w.heap.size + 1 + 1 + 1; omega) _).setCell (p := ⟨w.heap.size + 1 + 1 + 1, 1, none⟩) (by show w.heap.size ≤ w.heap.size + 1 + 1 + 1; omega) _⟩
theorem WidAt.cells {w : World} {v : Value} {p q c d : Int} {W : World} (h : WidAt w v p q c d W) : W.cell? ⟨w.heap.size, 0, none⟩ = some v ∧ W.cell? ⟨w.heap.size + 1, 0, none⟩ = some (.int .i16 p) ∧ W.cell? ⟨w.heap.size + 1, 1, none⟩ = some (.int .i16 q) ∧ W.cell? ⟨w.heap.size + 1 + 1, 0, none⟩ = some (.int .i16 c) ∧ W.cell? ⟨w.heap.size + 1 + 1, 1, none⟩ = some (.int .i16 d) ∧ W.cell? ⟨w.heap.size + 1 + 1 + 1, 0, none⟩ = some (.int .i16 0) ∧ W.cell? ⟨w.heap.size + 1 + 1 + 1, 1, none⟩ = some (.int .i16 0) ∧ W.frozen? ⟨w.heap.size + 1, 0, none⟩ = false ∧ W.frozen? ⟨w.heap.size + 1, 1, none⟩ = false ∧ W.frozen? ⟨w.heap.size + 1 + 1 + 1, 0, none⟩ = false ∧ W.frozen? ⟨w.heap.size + 1 + 1 + 1, 1, none⟩ = false :=
 ⟨cell_of h.o 0 rfl, cell_of h.x 0 rfl, cell_of h.x 1 rfl, cell_of h.y 0 rfl, cell_of h.y 1 rfl, cell_of h.z 0 rfl, cell_of h.z 1 rfl, frozen_of h.x 0, frozen_of h.x 1, frozen_of h.z 0, frozen_of h.z 1⟩
theorem steps_calls (v : Value) (steps : List Int) (n : Int) (w : World) (h : StepsAt w v steps) :
  Calls Tryz.prog 336 #[.agg #[v], .int .i16 n] w (fun e w' => e = .returned (.int .i16 (Sp.stepBelow steps n)) ∧ Below w.heap.size w w') ∧
  Calls Tryz.prog 329 #[.agg #[v], .int .i16 n] w (fun e w' => e = .returned (.int .i16 (Sp.stepAbove steps n)) ∧ Below w.heap.size w w') := by
 obtain ⟨g, off, cap, rfl, hg, hl, hc⟩ := h
 exact ⟨iv_stepBelow g off cap steps n w hg hl hc, iv_stepAbove g off cap steps n w hg hl hc⟩
theorem iv_widen (v : Value) (steps : List Int) (a b c d : Int) (w : World) (hS : StepsAt w v steps) :
  Calls Tryz.prog 327 #[.agg #[v], .agg #[.int .i16 a, .int .i16 b], .agg #[.int .i16 c, .int .i16 d]] w fun e w' => e = .returned (.agg #[.int .i16 (if c < a then Sp.stepBelow steps c else a), .int .i16 (if b < d then Sp.stepAbove steps d else b)]) ∧ Below w.heap.size w w' := by
 have HS : Hid (∀ W n, Below w.heap.size w W → _ ∧ _) := fun W n h => steps_calls v steps n W (hS.below h)
 clear hS
 by_cases h1 : c < a
 ·have e1 : (if c < a then Sp.stepBelow steps c else a) = Sp.stepBelow steps c := if_pos h1
  by_cases h2 : b < d
  ·have e2 : (if b < d then Sp.stepAbove steps d else b) = Sp.stepAbove steps d := if_pos h2
   rw [e1, e2]
   have C1 := (HS.out (((((w.alloc (.cells #[v] 133)).alloc (.cells #[.int .i16 a, .int .i16 b] 131)).alloc (.cells #[.int .i16 c, .int .i16 d] 131)).alloc (.cells #[.int .i16 0, .int .i16 0] 131))) c (by go_grown)).1
   generalize Sp.stepBelow steps c = s1 at *
   have HS2 : Hid (∀ W, Below w.heap.size w W → Calls Tryz.prog 329 #[.agg #[v], .int .i16 d] W (fun e w' => e = .returned (.int .i16 (Sp.stepAbove steps d)) ∧ Below W.heap.size W w')) := fun W h => (HS.out W d h).2
   clear HS e1 e2
   generalize Sp.stepAbove steps d = s2 at *
   go_enter Tryz.func327, Tryz.ntmps327
   go_wp2_with fail
   refine C1.mono ?_
   rintro e w1 ⟨rfl, b1⟩
   obtain ⟨k1, k2, k3, k4, k5⟩ := laid4b b1
   have A0 : Hid (WidAt w v a b c d w1) := ⟨k1, k2, k3, k4, k5⟩
   obtain ⟨q0, q1, q2, q3, q4, q5, q6, q7, q8, q9, q10⟩ := A0.out.cells
   have A1 : Hid (WidAt w v s1 b c d (w1.setCell ⟨w.heap.size + 1, 0, none⟩ (.int .i16 s1))) := A0.out.setA s1
   obtain ⟨r0, r1, r2, r3, r4, r5, r6, r7, r8, r9, r10⟩ := A1.out.cells
   clear k1 k2 k3 k4 k5 b1 C1
   go_wp2_with fail
   refine (HS2.out _ A1.out.b).mono ?_
   rintro e w2 ⟨rfl, b2⟩
   have A2 : Hid (WidAt w v s1 b c d w2) := A1.out.call b2
   have A3 : Hid (WidAt w v s1 s2 c d (w2.setCell ⟨w.heap.size + 1, 1, none⟩ (.int .i16 s2))) := A2.out.setB s2
   clear q0 q1 q2 q3 q4 q5 q6 q7 q8 q9 q10 r0 r1 r2 r3 r4 r5 r6 r7 r8 r9 r10 b2
   obtain ⟨q0, q1, q2, q3, q4, q5, q6, q7, q8, q9, q10⟩ := A2.out.cells
   obtain ⟨r0, r1, r2, r3, r4, r5, r6, r7, r8, r9, r10⟩ := A3.out.cells
   have R : Hid (_ ∧ _ ∧ _) := A3.out.res (.int .i16 s1) (.int .i16 s2)
   go_wp2_with fail
   exact bodyPost_ret (v := .agg #[.int .i16 s1, .int .i16 s2]) (by simp [results, Tryz.results327, go_sem, R.out.1, R.out.2.1]) rfl ⟨rfl, R.out.2.2⟩
  ·have e2 : (if b < d then Sp.stepAbove steps d else b) = b := if_neg h2
   rw [e1, e2]
   have C1 := (HS.out (((((w.alloc (.cells #[v] 133)).alloc (.cells #[.int .i16 a, .int .i16 b] 131)).alloc (.cells #[.int .i16 c, .int .i16 d] 131)).alloc (.cells #[.int .i16 0, .int .i16 0] 131))) c (by go_grown)).1
   generalize Sp.stepBelow steps c = s1 at *
   clear HS e1 e2
   go_enter Tryz.func327, Tryz.ntmps327
   go_wp2_with fail
   refine C1.mono ?_
   rintro e w1 ⟨rfl, b1⟩
   obtain ⟨k1, k2, k3, k4, k5⟩ := laid4b b1
   have A0 : Hid (WidAt w v a b c d w1) := ⟨k1, k2, k3, k4, k5⟩
   obtain ⟨q0, q1, q2, q3, q4, q5, q6, q7, q8, q9, q10⟩ := A0.out.cells
   have A1 : Hid (WidAt w v s1 b c d (w1.setCell ⟨w.heap.size + 1, 0, none⟩ (.int .i16 s1))) := A0.out.setA s1
   obtain ⟨r0, r1, r2, r3, r4, r5, r6, r7, r8, r9, r10⟩ := A1.out.cells
   have R : Hid (_ ∧ _ ∧ _) := A1.out.res (.int .i16 s1) (.int .i16 b)
   clear k1 k2 k3 k4 k5 b1 C1
   go_wp2_with fail
   exact bodyPost_ret (v := .agg #[.int .i16 s1, .int .i16 b]) (by simp [results, Tryz.results327, go_sem, R.out.1, R.out.2.1]) rfl ⟨rfl, R.out.2.2⟩
 ·have e1 : (if c < a then Sp.stepBelow steps c else a) = a := if_neg h1
  by_cases h2 : b < d
  ·have e2 : (if b < d then Sp.stepAbove steps d else b) = Sp.stepAbove steps d := if_pos h2
   rw [e1, e2]
   have C1 := (HS.out (((((w.alloc (.cells #[v] 133)).alloc (.cells #[.int .i16 a, .int .i16 b] 131)).alloc (.cells #[.int .i16 c, .int .i16 d] 131)).alloc (.cells #[.int .i16 0, .int .i16 0] 131))) d (by go_grown)).2
   generalize Sp.stepAbove steps d = s1 at *
   clear HS e1 e2
   go_enter Tryz.func327, Tryz.ntmps327
   go_wp2_with fail
   refine C1.mono ?_
   rintro e w1 ⟨rfl, b1⟩
   obtain ⟨k1, k2, k3, k4, k5⟩ := laid4b b1
   have A0 : Hid (WidAt w v a b c d w1) := ⟨k1, k2, k3, k4, k5⟩
   obtain ⟨q0, q1, q2, q3, q4, q5, q6, q7, q8, q9, q10⟩ := A0.out.cells
   have A1 : Hid (WidAt w v a s1 c d (w1.setCell ⟨w.heap.size + 1, 1, none⟩ (.int .i16 s1))) := A0.out.setB s1
   obtain ⟨r0, r1, r2, r3, r4, r5, r6, r7, r8, r9, r10⟩ := A1.out.cells
   have R : Hid (_ ∧ _ ∧ _) := A1.out.res (.int .i16 a) (.int .i16 s1)
   clear k1 k2 k3 k4 k5 b1 C1
   go_wp2_with fail
   exact bodyPost_ret (v := .agg #[.int .i16 a, .int .i16 s1]) (by simp [results, Tryz.results327, go_sem, R.out.1, R.out.2.1]) rfl ⟨rfl, R.out.2.2⟩
  ·have e2 : (if b < d then Sp.stepAbove steps d else b) = b := if_neg h2
   rw [e1, e2]
   clear HS e1 e2
   go_enter Tryz.func327, Tryz.ntmps327
   go_wp2_with fail
   go_returns
   exact ⟨rfl, by go_grown⟩
end Go.Proofs.YtiopfihjmkfdmaaGreatDoor
