/- (printer) branch; statement: if. -/
import Derived.Test.YtjkllmiikdlhhaaGreatDoorPLoop
namespace Go.Proofs.YtjkllmiikdlhhaaGreatDoor
open Go.RowKit
set_option maxRecDepth 100000
set_option maxHeartbeats 2000000

theorem branch_none (lo hi : Nat) (w : World) (k : Nat) (hk : k < 6) (tl : TypeId) (ul : Value) (tr : TypeId) (ur : Value) (x y : Nat × Sp.Bs) (hx : SumSays (.iface tl ul) x.2) (hy : SumSays (.iface tr ur) y.2) (av : Option Addr) (nv cv : Nat) (xs : List (Nat → Sp.Bs)) (hb : StsSays lo hi w (.slice av nv cv) xs)
    (w' : World) (B b d : Nat) (t : Sp.Bs) (hso : SameOn lo hi w w') (hhB : hi ≤ B) (hBw : B ≤ w'.heap.size) (h9 : 9 ≤ B) (hL : Laid w') (hP : PrAt B b d t w') (hlen : t.length + (Sp.Pr.ite k x y xs none d).length ≤ 2000000) :
    Calls Tryz.prog 60 #[.pointer (some ⟨b, 0, none⟩), .agg #[.int .i64 (k : Nat), .iface tl ul, .iface tr ur, .slice av nv cv, .slice none 0 0, .bool false]] w' fun e w'' => e = .returned (.tuple #[]) ∧ PrAt B b d (t ++ Sp.Pr.ite k x y xs none d) w'' ∧ PKeep B b w' w'' := by
  have e : Sp.Pr.ite k x y xs none d = (Sp.pad d ++ joined [⟨#[105, 102, 32]⟩, ⟨(Sp.condText k x y).toArray⟩, ⟨#[32, 123]⟩] ++ [10]) ++ Sp.lines (d + 1) xs ++ (Sp.pad d ++ joined [⟨#[125]⟩] ++ [10]) := by
    show Sp.pad d ++ [105, 102, 32] ++ Sp.condText k x y ++ [32, 123, 10] ++ Sp.lines (d + 1) xs ++ [] ++ Sp.pad d ++ [125, 10] = _
    simp [joined]
  rw [e] at hlen ⊢
  have hj : (joined [⟨#[105, 102, 32]⟩, ⟨(Sp.condText k x y).toArray⟩, ⟨#[32, 123]⟩]).length = 3 + (Sp.condText k x y).length + 2 := by simp [joined]; omega
  have hj1 : (joined [⟨#[125]⟩]).length = 1 := by simp [joined]
  have hpd := pad_length d
  simp only [List.length_append, List.length_cons, List.length_nil, hj, hj1, hpd] at hlen
  have hct : (Sp.condText k x y).length ≤ 2000000 := by omega
  have hW := below_alloc w' (.cells #[.int .i64 (k : Nat), .iface tl ul, .iface tr ur, .slice av nv cv, .slice none 0 0, .bool false] 146)
  have hnb := heap_alloc_new w' (.cells #[.int .i64 (k : Nat), .iface tl ul, .iface tr ur, .slice av nv cv, .slice none 0 0, .bool false] 146)
  have hNb : w'.heap.size ≠ b := by have := hP.lt; omega
  have HN : Hid (_ = _) := hnb
  clear hnb
  go_enter Tryz.func60, Tryz.ntmps60
  go_wp2_with fail
  refine (cond_says k hk tl ul tr ur x y hx hy hct _ (hL.below hW hL.size)).mono ?_
  rintro e w1 ⟨rfl, b1⟩
  have hb1 : Below w'.heap.size w' w1 := hW.trans (b1.mono (by simp))
  have hs1 := hb1.size
  have n1 : w1.heap[w'.heap.size]? = some (.cells #[.int .i64 (k : Nat), .iface tl ul, .iface tr ur, .slice av nv cv, .slice none 0 0, .bool false] 146) := below_block b1 (by simp) HN.out
  go_wp2_with fail
  refine (line_after B b d w1.heap.size 3 t [⟨#[105, 102, 32]⟩, ⟨(Sp.condText k x y).toArray⟩, ⟨#[32, 123]⟩] w1 (hP.below hb1) rfl rfl (by simp) (by simp only [List.length_append, List.length_cons, List.length_nil, hj, hpd]; omega) (by omega)).mono ?_
  rintro e w2 ⟨rfl, h2', k2⟩
  have n2 := k2.cell n1 hNb (by decide)
  have K2 : PKeep B b w' w2 := (PKeep.of_below hb1 hBw).trans k2
  have c3 := cell_of n2 3 (v := .slice av nv cv) rfl
  have hs2 := K2.below.size
  clear b1 hb1 n1 k2
  go_wp2_with fail
  refine (inner_says lo hi w (.slice av nv cv) xs hb w2 B b d _ (hso.keep K2 hhB) hhB (by omega) h9 (hL.below K2.below h9) h2' (by simp only [List.length_append, List.length_cons, List.length_nil, hj, hpd]; omega) (by omega)).mono ?_
  rintro e w3 ⟨rfl, h3', k3⟩
  have n3 := k3.cell n2 hNb (by decide)
  have c5 := cell_of n3 5 (v := .bool false) rfl
  have hs3 := k3.below.size
  have K3 : PKeep B b w' w3 := K2.trans k3
  clear h2' k3 n2 c3
  go_wp2_with fail
  refine (line_after B b d w3.heap.size 1 _ [⟨#[125]⟩] w3 h3' rfl rfl (by simp) (by simp only [List.length_append, List.length_cons, List.length_nil, hj, hj1, hpd]; omega) (by omega)).mono ?_
  rintro e w4 ⟨rfl, h4', k4⟩
  have K4 : PKeep B b w' w4 := K3.trans k4
  have HF : Hid (PrAt B b d (t ++ ((Sp.pad d ++ joined [⟨#[105, 102, 32]⟩, ⟨(Sp.condText k x y).toArray⟩, ⟨#[32, 123]⟩] ++ [10]) ++ Sp.lines (d + 1) xs ++ (Sp.pad d ++ joined [⟨#[125]⟩] ++ [10]))) w4) := by
    unfold Hid
    simp only [List.append_assoc] at h4' ⊢
    exact h4'
  clear h3' h4' k4
  go_wp2_with fail
  go_end0
  exact ⟨rfl, HF.out, K4⟩

theorem branch_else (lo hi : Nat) (w : World) (k : Nat) (hk : k < 6) (tl : TypeId) (ul : Value) (tr : TypeId) (ur : Value) (x y : Nat × Sp.Bs) (hx : SumSays (.iface tl ul) x.2) (hy : SumSays (.iface tr ur) y.2) (av : Option Addr) (nv cv : Nat) (xs : List (Nat → Sp.Bs)) (hb : StsSays lo hi w (.slice av nv cv) xs) (ae : Option Addr) (ne ce : Nat) (ys : List (Nat → Sp.Bs)) (hbe : StsSays lo hi w (.slice ae ne ce) ys)
    (w' : World) (B b d : Nat) (t : Sp.Bs) (hso : SameOn lo hi w w') (hhB : hi ≤ B) (hBw : B ≤ w'.heap.size) (h9 : 9 ≤ B) (hL : Laid w') (hP : PrAt B b d t w') (hlen : t.length + (Sp.Pr.ite k x y xs (some ys) d).length ≤ 2000000) :
    Calls Tryz.prog 60 #[.pointer (some ⟨b, 0, none⟩), .agg #[.int .i64 (k : Nat), .iface tl ul, .iface tr ur, .slice av nv cv, .slice ae ne ce, .bool true]] w' fun e w'' => e = .returned (.tuple #[]) ∧ PrAt B b d (t ++ Sp.Pr.ite k x y xs (some ys) d) w'' ∧ PKeep B b w' w'' := by
  have e : Sp.Pr.ite k x y xs (some ys) d = (Sp.pad d ++ joined [⟨#[105, 102, 32]⟩, ⟨(Sp.condText k x y).toArray⟩, ⟨#[32, 123]⟩] ++ [10]) ++ Sp.lines (d + 1) xs ++ (Sp.pad d ++ joined [⟨#[125, 32, 101, 108, 115, 101, 32, 123]⟩] ++ [10]) ++ Sp.lines (d + 1) ys ++ (Sp.pad d ++ joined [⟨#[125]⟩] ++ [10]) := by
    show Sp.pad d ++ [105, 102, 32] ++ Sp.condText k x y ++ [32, 123, 10] ++ Sp.lines (d + 1) xs ++ (Sp.pad d ++ [125, 32, 101, 108, 115, 101, 32, 123, 10] ++ Sp.lines (d + 1) ys) ++ Sp.pad d ++ [125, 10] = _
    simp [joined]
  rw [e] at hlen ⊢
  have hj : (joined [⟨#[105, 102, 32]⟩, ⟨(Sp.condText k x y).toArray⟩, ⟨#[32, 123]⟩]).length = 3 + (Sp.condText k x y).length + 2 := by simp [joined]; omega
  have hj1 : (joined [⟨#[125]⟩]).length = 1 := by simp [joined]
  have hj2 : (joined [⟨#[125, 32, 101, 108, 115, 101, 32, 123]⟩]).length = 8 := by simp [joined]
  have hpd := pad_length d
  simp only [List.length_append, List.length_cons, List.length_nil, hj, hj1, hj2, hpd] at hlen
  have hct : (Sp.condText k x y).length ≤ 2000000 := by omega
  have hW := below_alloc w' (.cells #[.int .i64 (k : Nat), .iface tl ul, .iface tr ur, .slice av nv cv, .slice ae ne ce, .bool true] 146)
  have hnb := heap_alloc_new w' (.cells #[.int .i64 (k : Nat), .iface tl ul, .iface tr ur, .slice av nv cv, .slice ae ne ce, .bool true] 146)
  have hNb : w'.heap.size ≠ b := by have := hP.lt; omega
  have HN : Hid (_ = _) := hnb
  clear hnb
  go_enter Tryz.func60, Tryz.ntmps60
  go_wp2_with fail
  refine (cond_says k hk tl ul tr ur x y hx hy hct _ (hL.below hW hL.size)).mono ?_
  rintro e w1 ⟨rfl, b1⟩
  have hb1 : Below w'.heap.size w' w1 := hW.trans (b1.mono (by simp))
  have hs1 := hb1.size
  have n1 : w1.heap[w'.heap.size]? = some (.cells #[.int .i64 (k : Nat), .iface tl ul, .iface tr ur, .slice av nv cv, .slice ae ne ce, .bool true] 146) := below_block b1 (by simp) HN.out
  go_wp2_with fail
  refine (line_after B b d w1.heap.size 3 t [⟨#[105, 102, 32]⟩, ⟨(Sp.condText k x y).toArray⟩, ⟨#[32, 123]⟩] w1 (hP.below hb1) rfl rfl (by simp) (by simp only [List.length_append, List.length_cons, List.length_nil, hj, hpd]; omega) (by omega)).mono ?_
  rintro e w2 ⟨rfl, h2', k2⟩
  have n2 := k2.cell n1 hNb (by decide)
  have K2 : PKeep B b w' w2 := (PKeep.of_below hb1 hBw).trans k2
  have c3 := cell_of n2 3 (v := .slice av nv cv) rfl
  have hs2 := K2.below.size
  clear b1 hb1 n1 k2
  go_wp2_with fail
  refine (inner_says lo hi w (.slice av nv cv) xs hb w2 B b d _ (hso.keep K2 hhB) hhB (by omega) h9 (hL.below K2.below h9) h2' (by simp only [List.length_append, List.length_cons, List.length_nil, hj, hpd]; omega) (by omega)).mono ?_
  rintro e w3 ⟨rfl, h3', k3⟩
  have n3 := k3.cell n2 hNb (by decide)
  have c5 := cell_of n3 5 (v := .bool true) rfl
  have hs3 := k3.below.size
  have K3 : PKeep B b w' w3 := K2.trans k3
  clear h2' k3 n2 c3
  go_wp2_with fail
  refine (line_after B b d w3.heap.size 1 _ [⟨#[125, 32, 101, 108, 115, 101, 32, 123]⟩] w3 h3' rfl rfl (by simp) (by simp only [List.length_append, List.length_cons, List.length_nil, hj, hj2, hpd]; omega) (by omega)).mono ?_
  rintro e w4 ⟨rfl, h4', k4⟩
  have n4 := k4.cell n3 hNb (by decide)
  have c4 := cell_of n4 4 (v := .slice ae ne ce) rfl
  have hs4 := k4.below.size
  have K4 : PKeep B b w' w4 := K3.trans k4
  clear h3' k4 n3 c5
  go_wp2_with fail
  refine (inner_says lo hi w (.slice ae ne ce) ys hbe w4 B b d _ (hso.keep K4 hhB) hhB (by omega) h9 (hL.below K4.below h9) h4' (by simp only [List.length_append, List.length_cons, List.length_nil, hj, hj2, hpd]; omega) (by omega)).mono ?_
  rintro e w5 ⟨rfl, h5', k5⟩
  have hs5 := k5.below.size
  have K5 : PKeep B b w' w5 := K4.trans k5
  clear h4' k5 n4 c4
  go_wp2_with fail
  refine (line_after B b d w5.heap.size 1 _ [⟨#[125]⟩] w5 h5' rfl rfl (by simp) (by simp only [List.length_append, List.length_cons, List.length_nil, hj, hj1, hj2, hpd]; omega) (by omega)).mono ?_
  rintro e w6 ⟨rfl, h6', k6⟩
  have K6 : PKeep B b w' w6 := K5.trans k6
  have HF : Hid (PrAt B b d (t ++ ((Sp.pad d ++ joined [⟨#[105, 102, 32]⟩, ⟨(Sp.condText k x y).toArray⟩, ⟨#[32, 123]⟩] ++ [10]) ++ Sp.lines (d + 1) xs ++ (Sp.pad d ++ joined [⟨#[125, 32, 101, 108, 115, 101, 32, 123]⟩] ++ [10]) ++ Sp.lines (d + 1) ys ++ (Sp.pad d ++ joined [⟨#[125]⟩] ++ [10]))) w6) := by
    unfold Hid
    simp only [List.append_assoc] at h6' ⊢
    exact h6'
  clear h5' h6' k6
  go_wp2_with fail
  go_end0
  exact ⟨rfl, HF.out, K6⟩

/-- the node's copy, then branch -/
theorem if_says (lo hi : Nat) (w : World) (k : Int) (a1 a2 a3 a4 : Value) (he : Bool) (f : Nat → Sp.Bs) (t1 : TypeId) (u1 : Value) (h1 : a1 = .iface t1 u1) (t2 : TypeId) (u2 : Value) (h2 : a2 = .iface t2 u2) (p3 : Option Addr) (n3 c3 : Nat) (h3 : a3 = .slice p3 n3 c3) (p4 : Option Addr) (n4 c4 : Nat) (h4 : a4 = .slice p4 n4 c4)
    (hbr : ∀ (w' : World) (B b d : Nat) (t : Sp.Bs), SameOn lo hi w w' → hi ≤ B → B ≤ w'.heap.size → 9 ≤ B → Laid w' → PrAt B b d t w' → t.length + (f d).length ≤ 2000000 →
      Calls Tryz.prog 60 #[.pointer (some ⟨b, 0, none⟩), .agg #[.int .i64 k, a1, a2, a3, a4, .bool he]] w' fun e w'' => e = .returned (.tuple #[]) ∧ PrAt B b d (t ++ f d) w'' ∧ PKeep B b w' w'') :
    StSays lo hi w (.iface 146 (.agg #[.int .i64 k, a1, a2, a3, a4, .bool he])) f := by
  intro w' B b d t hso hhB hBw h9 hL hP hlen
  subst h1 h2 h3 h4
  have q1 := ts_4_1 (.agg #[.int .i64 k, .iface t1 u1, .iface t2 u2, .slice p3 n3 c3, .slice p4 n4 c4, .bool he])
  have q2 := ts_4_2 (.agg #[.int .i64 k, .iface t1 u1, .iface t2 u2, .slice p3 n3 c3, .slice p4 n4 c4, .bool he])
  have q3 := ts_4_3 (.agg #[.int .i64 k, .iface t1 u1, .iface t2 u2, .slice p3 n3 c3, .slice p4 n4 c4, .bool he])
  have q4 := ts_4_4 (.agg #[.int .i64 k, .iface t1 u1, .iface t2 u2, .slice p3 n3 c3, .slice p4 n4 c4, .bool he])
  have hW := below_alloc w' (.cells #[.int .i64 k, .iface t1 u1, .iface t2 u2, .slice p3 n3 c3, .slice p4 n4 c4, .bool he] 146)
  have kW : PKeep B b w' (w'.alloc (.cells #[.int .i64 k, .iface t1 u1, .iface t2 u2, .slice p3 n3 c3, .slice p4 n4 c4, .bool he] 146)) := PKeep.of_below hW hBw
  have hc := hbr (w'.alloc (.cells #[.int .i64 k, .iface t1 u1, .iface t2 u2, .slice p3 n3 c3, .slice p4 n4 c4, .bool he] 146)) B b d t (hso.keep kW hhB) hhB (by simp; omega) h9 (hL.below hW hL.size) (hP.below hW) hlen
  clear hbr
  go_enter Tryz.func40, Tryz.ntmps40
  go_wp2_with fail
  refine hc.mono ?_
  rintro e w1 ⟨rfl, h1', k1⟩
  go_wp2_with fail
  go_end0
  exact ⟨rfl, h1', kW.trans k1⟩

end Go.Proofs.YtjkllmiikdlhhaaGreatDoor
