import Derived.Test.YtiopfihjmkfdmaaGreatDoorS17
import Derived.Test.YtiopfihjmkfdmaaGreatDoorS18
namespace Go.Proofs.YtiopfihjmkfdmaaGreatDoor
open Go.RowKit
set_option maxRecDepth 100000
set_option maxHeartbeats 2000000
theorem pad_length (d : Nat) : (Sp.pad d).length = 2 * d := by simp [Sp.pad]
theorem while_says (p : Int) (lo hi : Nat) (w : World) (k : Nat) (hk : k < 6) (tl : TypeId) (ul : Value) (tr : TypeId) (ur : Value) (x y : Nat × Sp.Bs) (hx : SumSays (.iface tl ul) x.2) (hy : SumSays (.iface tr ur) y.2) (av : Option Addr) (nv cv : Nat) (xs : List (Nat → Sp.Bs)) (hb : StsSays lo hi w (.slice av nv cv) xs) :
  StSays lo hi w (.iface 293 (.agg #[.int .i64 p, .int .i64 (k : Nat), .iface tl ul, .iface tr ur, .slice av nv cv])) (Sp.Pr.loop k x y xs) := by
 intro w' B b d t hso hhB hBw h9 hL hP hlen
 have h1 := ts_5_1 (.agg #[.int .i64 p, .int .i64 (k : Nat), .iface tl ul, .iface tr ur, .slice av nv cv])
 have h2 := ts_5_2 (.agg #[.int .i64 p, .int .i64 (k : Nat), .iface tl ul, .iface tr ur, .slice av nv cv])
 have h3 := ts_5_3 (.agg #[.int .i64 p, .int .i64 (k : Nat), .iface tl ul, .iface tr ur, .slice av nv cv])
 have h4 := ts_5_4 (.agg #[.int .i64 p, .int .i64 (k : Nat), .iface tl ul, .iface tr ur, .slice av nv cv])
 have h5 := ts_5_5 (.agg #[.int .i64 p, .int .i64 (k : Nat), .iface tl ul, .iface tr ur, .slice av nv cv])
 have e : Sp.Pr.loop k x y xs d = (Sp.pad d ++ joined [⟨#[119, 104, 105, 108, 101, 32]⟩, ⟨(Sp.condText k x y).toArray⟩, ⟨#[32, 123]⟩] ++ [10]) ++ Sp.lines (d + 1) xs ++ (Sp.pad d ++ joined [⟨#[125]⟩] ++ [10]) := by
  show Sp.pad d ++ [119, 104, 105, 108, 101, 32] ++ Sp.condText k x y ++ [32, 123, 10] ++ Sp.lines (d + 1) xs ++ Sp.pad d ++ [125, 10] = _
  simp [joined]
 rw [e] at hlen ⊢
 have hj : (joined [⟨#[119, 104, 105, 108, 101, 32]⟩, ⟨(Sp.condText k x y).toArray⟩, ⟨#[32, 123]⟩]).length = 6 + (Sp.condText k x y).length + 2 := by simp [joined]; omega
 have hj1 : (joined [⟨#[125]⟩]).length = 1 := by simp [joined]
 have hpd := pad_length d
 simp only [List.length_append, List.length_cons, List.length_nil, hj, hj1, hpd] at hlen
 have hct : (Sp.condText k x y).length ≤ 2000000 := by omega
 have hW := below_alloc w' (.cells #[.int .i64 p, .int .i64 (k : Nat), .iface tl ul, .iface tr ur, .slice av nv cv] 293)
 have hnb := heap_alloc_new w' (.cells #[.int .i64 p, .int .i64 (k : Nat), .iface tl ul, .iface tr ur, .slice av nv cv] 293)
 have hNb : w'.heap.size ≠ b := by have := hP.lt; omega
 have HN : Hid (_ = _) := hnb
 clear hnb
 go_enter Tryz.func91, Tryz.ntmps91
 go_wp2_with fail
 refine (cond_says k hk tl ul tr ur x y hx hy hct _ (hL.below hW hL.size)).mono ?_
 rintro e w1 ⟨rfl, b1⟩
 have hb1 : Below w'.heap.size w' w1 := hW.trans (b1.mono (by simp))
 have hs1 := hb1.size
 have n1 : w1.heap[w'.heap.size]? = some (.cells #[.int .i64 p, .int .i64 (k : Nat), .iface tl ul, .iface tr ur, .slice av nv cv] 293) := below_block b1 (by simp) HN.out
 go_wp2_with fail
 refine (line_after B b d w1.heap.size 3 t [⟨#[119, 104, 105, 108, 101, 32]⟩, ⟨(Sp.condText k x y).toArray⟩, ⟨#[32, 123]⟩] w1 (hP.below hb1) rfl rfl (by simp) (by simp only [List.length_append, List.length_cons, List.length_nil, hj, hpd]; omega) (by omega)).mono ?_
 rintro e w2 ⟨rfl, h2', k2⟩
 have n2 := k2.cell n1 hNb (by decide)
 have K2 : PKeep B b w' w2 := (PKeep.of_below hb1 hBw).trans k2
 have c3 := cell_of n2 4 (v := .slice av nv cv) rfl
 have hs2 := K2.below.size
 clear b1 hb1 n1 k2
 go_wp2_with fail
 refine (inner_says lo hi w (.slice av nv cv) xs hb w2 B b d _ (hso.keep K2 hhB) hhB (by omega) h9 (hL.below K2.below h9) h2' (by simp only [List.length_append, List.length_cons, List.length_nil, hj, hpd]; omega) (by omega)).mono ?_
 rintro e w3 ⟨rfl, h3', k3⟩
 have hs3 := k3.below.size
 have K3 : PKeep B b w' w3 := K2.trans k3
 clear h2' k3 n2 c3
 go_wp2_with fail
 refine (line_after B b d w3.heap.size 1 _ [⟨#[125]⟩] w3 h3' rfl rfl (by simp) (by simp only [List.length_append, List.length_cons, List.length_nil, hj, hj1, hpd]; omega) (by omega)).mono ?_
 rintro e w4 ⟨rfl, h4', k4⟩
 have K4 : PKeep B b w' w4 := K3.trans k4
 have HF : Hid (PrAt B b d (t ++ ((Sp.pad d ++ joined [⟨#[119, 104, 105, 108, 101, 32]⟩, ⟨(Sp.condText k x y).toArray⟩, ⟨#[32, 123]⟩] ++ [10]) ++ Sp.lines (d + 1) xs ++ (Sp.pad d ++ joined [⟨#[125]⟩] ++ [10]))) w4) := by
  unfold Hid
  simp only [List.append_assoc] at h4' ⊢
  exact h4'
 clear h3' h4' k4
 go_wp2_with fail
 go_end0
 exact ⟨rfl, HF.out, K4⟩
end Go.Proofs.YtiopfihjmkfdmaaGreatDoor
namespace Go.Proofs.YtiopfihjmkfdmaaGreatDoor
open Go.RowKit
set_option maxRecDepth 100000
set_option maxHeartbeats 2000000
theorem branch_none (p : Int) (lo hi : Nat) (w : World) (k : Nat) (hk : k < 6) (tl : TypeId) (ul : Value) (tr : TypeId) (ur : Value) (x y : Nat × Sp.Bs) (hx : SumSays (.iface tl ul) x.2) (hy : SumSays (.iface tr ur) y.2) (av : Option Addr) (nv cv : Nat) (xs : List (Nat → Sp.Bs)) (hb : StsSays lo hi w (.slice av nv cv) xs)
  (w' : World) (B b d : Nat) (t : Sp.Bs) (hso : SameOn lo hi w w') (hhB : hi ≤ B) (hBw : B ≤ w'.heap.size) (h9 : 11 ≤ B) (hL : Laid w') (hP : PrAt B b d t w') (hlen : t.length + (Sp.Pr.ite k x y xs none d).length ≤ 2000000) :
  Calls Tryz.prog 127 #[.pointer (some ⟨b, 0, none⟩), .agg #[.int .i64 p, .int .i64 (k : Nat), .iface tl ul, .iface tr ur, .slice av nv cv, .slice none 0 0, .bool false]] w' fun e w'' => e = .returned (.tuple #[]) ∧ PrAt B b d (t ++ Sp.Pr.ite k x y xs none d) w'' ∧ PKeep B b w' w'' := by
 have e : Sp.Pr.ite k x y xs none d = (Sp.pad d ++ joined [⟨#[105, 102, 32]⟩, ⟨(Sp.condText k x y).toArray⟩, ⟨#[32, 123]⟩] ++ [10]) ++ Sp.lines (d + 1) xs ++ (Sp.pad d ++ joined [⟨#[125]⟩] ++ [10]) := by
  show Sp.pad d ++ [105, 102, 32] ++ Sp.condText k x y ++ [32, 123, 10] ++ Sp.lines (d + 1) xs ++ [] ++ Sp.pad d ++ [125, 10] = _
  simp [joined]
 rw [e] at hlen ⊢
 have hj : (joined [⟨#[105, 102, 32]⟩, ⟨(Sp.condText k x y).toArray⟩, ⟨#[32, 123]⟩]).length = 3 + (Sp.condText k x y).length + 2 := by simp [joined]; omega
 have hj1 : (joined [⟨#[125]⟩]).length = 1 := by simp [joined]
 have hpd := pad_length d
 simp only [List.length_append, List.length_cons, List.length_nil, hj, hj1, hpd] at hlen
 have hct : (Sp.condText k x y).length ≤ 2000000 := by omega
 have hW := below_alloc w' (.cells #[.int .i64 p, .int .i64 (k : Nat), .iface tl ul, .iface tr ur, .slice av nv cv, .slice none 0 0, .bool false] 290)
 have hnb := heap_alloc_new w' (.cells #[.int .i64 p, .int .i64 (k : Nat), .iface tl ul, .iface tr ur, .slice av nv cv, .slice none 0 0, .bool false] 290)
 have hNb : w'.heap.size ≠ b := by have := hP.lt; omega
 have HN : Hid (_ = _) := hnb
 clear hnb
 go_enter Tryz.func127, Tryz.ntmps127
 go_wp2_with fail
 refine (cond_says k hk tl ul tr ur x y hx hy hct _ (hL.below hW hL.size)).mono ?_
 rintro e w1 ⟨rfl, b1⟩
 have hb1 : Below w'.heap.size w' w1 := hW.trans (b1.mono (by simp))
 have hs1 := hb1.size
 have n1 : w1.heap[w'.heap.size]? = some (.cells #[.int .i64 p, .int .i64 (k : Nat), .iface tl ul, .iface tr ur, .slice av nv cv, .slice none 0 0, .bool false] 290) := below_block b1 (by simp) HN.out
 go_wp2_with fail
 refine (line_after B b d w1.heap.size 3 t [⟨#[105, 102, 32]⟩, ⟨(Sp.condText k x y).toArray⟩, ⟨#[32, 123]⟩] w1 (hP.below hb1) rfl rfl (by simp) (by simp only [List.length_append, List.length_cons, List.length_nil, hj, hpd]; omega) (by omega)).mono ?_
 rintro e w2 ⟨rfl, h2', k2⟩
 have n2 := k2.cell n1 hNb (by decide)
 have K2 : PKeep B b w' w2 := (PKeep.of_below hb1 hBw).trans k2
 have c3 := cell_of n2 4 (v := .slice av nv cv) rfl
 have hs2 := K2.below.size
 clear b1 hb1 n1 k2
 go_wp2_with fail
 refine (inner_says lo hi w (.slice av nv cv) xs hb w2 B b d _ (hso.keep K2 hhB) hhB (by omega) h9 (hL.below K2.below h9) h2' (by simp only [List.length_append, List.length_cons, List.length_nil, hj, hpd]; omega) (by omega)).mono ?_
 rintro e w3 ⟨rfl, h3', k3⟩
 have n3 := k3.cell n2 hNb (by decide)
 have c5 := cell_of n3 6 (v := .bool false) rfl
 have hs3 := k3.below.size
 have K3 : PKeep B b w' w3 := K2.trans k3
 clear h2' k3 n2 c3
 go_wp2_with fail
 refine (line_after B b d w3.heap.size 1 _ [⟨#[125]⟩] w3 h3' rfl rfl (by simp) (by simp only [List.length_append, List.length_cons, List.length_nil, hj, hj1, hpd]; omega) (by omega)).mono ?_
 rintro e w4 ⟨rfl, h4', k4⟩
 have K4 : PKeep B b w' w4 := K3.trans k4
 have HF : Hid (PrAt B b d (t ++ ((Sp.pad d ++ joined [⟨#[105, 102, 32]⟩, ⟨(Sp.condText k x y).toArray⟩, ⟨#[32, 123]⟩] ++ [10]) ++ Sp.lines (d + 1) xs ++ (Sp.pad d ++ joined [⟨#[125]⟩] ++ [10]))) w4) := by
  unfold Hid
  simp only [List.append_assoc] at h4' ⊢
  exact h4'
 clear h3' h4' k4
 go_wp2_with fail
 go_end0
 exact ⟨rfl, HF.out, K4⟩
theorem branch_else (p : Int) (lo hi : Nat) (w : World) (k : Nat) (hk : k < 6) (tl : TypeId) (ul : Value) (tr : TypeId) (ur : Value) (x y : Nat × Sp.Bs) (hx : SumSays (.iface tl ul) x.2) (hy : SumSays (.iface tr ur) y.2) (av : Option Addr) (nv cv : Nat) (xs : List (Nat → Sp.Bs)) (hb : StsSays lo hi w (.slice av nv cv) xs) (ae : Option Addr) (ne ce : Nat) (ys : List (Nat → Sp.Bs)) (hbe : StsSays lo hi w (.slice ae ne ce) ys)
  (w' : World) (B b d : Nat) (t : Sp.Bs) (hso : SameOn lo hi w w') (hhB : hi ≤ B) (hBw : B ≤ w'.heap.size) (h9 : 11 ≤ B) (hL : Laid w') (hP : PrAt B b d t w') (hlen : t.length + (Sp.Pr.ite k x y xs (some ys) d).length ≤ 2000000) :
  Calls Tryz.prog 127 #[.pointer (some ⟨b, 0, none⟩), .agg #[.int .i64 p, .int .i64 (k : Nat), .iface tl ul, .iface tr ur, .slice av nv cv, .slice ae ne ce, .bool true]] w' fun e w'' => e = .returned (.tuple #[]) ∧ PrAt B b d (t ++ Sp.Pr.ite k x y xs (some ys) d) w'' ∧ PKeep B b w' w'' := by
 have e : Sp.Pr.ite k x y xs (some ys) d = (Sp.pad d ++ joined [⟨#[105, 102, 32]⟩, ⟨(Sp.condText k x y).toArray⟩, ⟨#[32, 123]⟩] ++ [10]) ++ Sp.lines (d + 1) xs ++ (Sp.pad d ++ joined [⟨#[125, 32, 101, 108, 115, 101, 32, 123]⟩] ++ [10]) ++ Sp.lines (d + 1) ys ++ (Sp.pad d ++ joined [⟨#[125]⟩] ++ [10]) := by
  show Sp.pad d ++ [105, 102, 32] ++ Sp.condText k x y ++ [32, 123, 10] ++ Sp.lines (d + 1) xs ++ (Sp.pad d ++ [125, 32, 101, 108, 115, 101, 32, 123, 10] ++ Sp.lines (d + 1) ys) ++ Sp.pad d ++ [125, 10] = _
  simp [joined]
 rw [e] at hlen ⊢
 have hj : (joined [⟨#[105, 102, 32]⟩, ⟨(Sp.condText k x y).toArray⟩, ⟨#[32, 123]⟩]).length = 3 + (Sp.condText k x y).length + 2 := by simp [joined]; omega
 have hj1 : (joined [⟨#[125]⟩]).length = 1 := by simp [joined]
 have hj2 : (joined [⟨#[125, 32, 101, 108, 115, 101, 32, 123]⟩]).length = 8 := by simp [joined]
 have hpd := pad_length d
 simp only [List.length_append, List.length_cons, List.length_nil, hj, hj1, hj2, hpd] at hlen
 have hct : (Sp.condText k x y).length ≤ 2000000 := by omega
 have hW := below_alloc w' (.cells #[.int .i64 p, .int .i64 (k : Nat), .iface tl ul, .iface tr ur, .slice av nv cv, .slice ae ne ce, .bool true] 290)
 have hnb := heap_alloc_new w' (.cells #[.int .i64 p, .int .i64 (k : Nat), .iface tl ul, .iface tr ur, .slice av nv cv, .slice ae ne ce, .bool true] 290)
 have hNb : w'.heap.size ≠ b := by have := hP.lt; omega
 have HN : Hid (_ = _) := hnb
 clear hnb
 go_enter Tryz.func127, Tryz.ntmps127
 go_wp2_with fail
 refine (cond_says k hk tl ul tr ur x y hx hy hct _ (hL.below hW hL.size)).mono ?_
 rintro e w1 ⟨rfl, b1⟩
 have hb1 : Below w'.heap.size w' w1 := hW.trans (b1.mono (by simp))
 have hs1 := hb1.size
 have n1 : w1.heap[w'.heap.size]? = some (.cells #[.int .i64 p, .int .i64 (k : Nat), .iface tl ul, .iface tr ur, .slice av nv cv, .slice ae ne ce, .bool true] 290) := below_block b1 (by simp) HN.out
 go_wp2_with fail
 refine (line_after B b d w1.heap.size 3 t [⟨#[105, 102, 32]⟩, ⟨(Sp.condText k x y).toArray⟩, ⟨#[32, 123]⟩] w1 (hP.below hb1) rfl rfl (by simp) (by simp only [List.length_append, List.length_cons, List.length_nil, hj, hpd]; omega) (by omega)).mono ?_
 rintro e w2 ⟨rfl, h2', k2⟩
 have n2 := k2.cell n1 hNb (by decide)
 have K2 : PKeep B b w' w2 := (PKeep.of_below hb1 hBw).trans k2
 have c3 := cell_of n2 4 (v := .slice av nv cv) rfl
 have hs2 := K2.below.size
 clear b1 hb1 n1 k2
 go_wp2_with fail
 refine (inner_says lo hi w (.slice av nv cv) xs hb w2 B b d _ (hso.keep K2 hhB) hhB (by omega) h9 (hL.below K2.below h9) h2' (by simp only [List.length_append, List.length_cons, List.length_nil, hj, hpd]; omega) (by omega)).mono ?_
 rintro e w3 ⟨rfl, h3', k3⟩
 have n3 := k3.cell n2 hNb (by decide)
 have c5 := cell_of n3 6 (v := .bool true) rfl
 have hs3 := k3.below.size
 have K3 : PKeep B b w' w3 := K2.trans k3
 clear h2' k3 n2 c3
 go_wp2_with fail
 refine (line_after B b d w3.heap.size 1 _ [⟨#[125, 32, 101, 108, 115, 101, 32, 123]⟩] w3 h3' rfl rfl (by simp) (by simp only [List.length_append, List.length_cons, List.length_nil, hj, hj2, hpd]; omega) (by omega)).mono ?_
 rintro e w4 ⟨rfl, h4', k4⟩
 have n4 := k4.cell n3 hNb (by decide)
 have c4 := cell_of n4 5 (v := .slice ae ne ce) rfl
 have hs4 := k4.below.size
 have K4 : PKeep B b w' w4 := K3.trans k4
 clear h3' k4 n3 c5
 go_wp2_with fail
 refine (inner_says lo hi w (.slice ae ne ce) ys hbe w4 B b d _ (hso.keep K4 hhB) hhB (by omega) h9 (hL.below K4.below h9) h4' (by simp only [List.length_append, List.length_cons, List.length_nil, hj, hj2, hpd]; omega) (by omega)).mono ?_
 rintro e w5 ⟨rfl, h5', k5⟩
 have hs5 := k5.below.size
 have K5 : PKeep B b w' w5 := K4.trans k5
 clear h4' k5 n4 c4
 go_wp2_with fail
 refine (line_after B b d w5.heap.size 1 _ [⟨#[125]⟩] w5 h5' rfl rfl (by simp) (by simp only [List.length_append, List.length_cons, List.length_nil, hj, hj1, hj2, hpd]; omega) (by omega)).mono ?_
 rintro e w6 ⟨rfl, h6', k6⟩
 have K6 : PKeep B b w' w6 := K5.trans k6
 have HF : Hid (PrAt B b d (t ++ ((Sp.pad d ++ joined [⟨#[105, 102, 32]⟩, ⟨(Sp.condText k x y).toArray⟩, ⟨#[32, 123]⟩] ++ [10]) ++ Sp.lines (d + 1) xs ++ (Sp.pad d ++ joined [⟨#[125, 32, 101, 108, 115, 101, 32, 123]⟩] ++ [10]) ++ Sp.lines (d + 1) ys ++ (Sp.pad d ++ joined [⟨#[125]⟩] ++ [10]))) w6) := by
  unfold Hid
  simp only [List.append_assoc] at h6' ⊢
  exact h6'
 clear h5' h6' k6
 go_wp2_with fail
 go_end0
 exact ⟨rfl, HF.out, K6⟩
theorem if_says (p : Int) (lo hi : Nat) (w : World) (k : Int) (a1 a2 a3 a4 : Value) (he : Bool) (f : Nat → Sp.Bs) (t1 : TypeId) (u1 : Value) (h1 : a1 = .iface t1 u1) (t2 : TypeId) (u2 : Value) (h2 : a2 = .iface t2 u2) (p3 : Option Addr) (n3 c3 : Nat) (h3 : a3 = .slice p3 n3 c3) (p4 : Option Addr) (n4 c4 : Nat) (h4 : a4 = .slice p4 n4 c4)
  (hbr : ∀ (w' : World) (B b d : Nat) (t : Sp.Bs), SameOn lo hi w w' → hi ≤ B → B ≤ w'.heap.size → 11 ≤ B → Laid w' → PrAt B b d t w' → t.length + (f d).length ≤ 2000000 →
    Calls Tryz.prog 127 #[.pointer (some ⟨b, 0, none⟩), .agg #[.int .i64 p, .int .i64 k, a1, a2, a3, a4, .bool he]] w' fun e w'' => e = .returned (.tuple #[]) ∧ PrAt B b d (t ++ f d) w'' ∧ PKeep B b w' w'') :
  StSays lo hi w (.iface 290 (.agg #[.int .i64 p, .int .i64 k, a1, a2, a3, a4, .bool he])) f := by
 intro w' B b d t hso hhB hBw h9 hL hP hlen
 subst h1 h2 h3 h4
 have q1 := ts_4_1 (.agg #[.int .i64 p, .int .i64 k, .iface t1 u1, .iface t2 u2, .slice p3 n3 c3, .slice p4 n4 c4, .bool he])
 have q2 := ts_4_2 (.agg #[.int .i64 p, .int .i64 k, .iface t1 u1, .iface t2 u2, .slice p3 n3 c3, .slice p4 n4 c4, .bool he])
 have q3 := ts_4_3 (.agg #[.int .i64 p, .int .i64 k, .iface t1 u1, .iface t2 u2, .slice p3 n3 c3, .slice p4 n4 c4, .bool he])
 have q4 := ts_4_4 (.agg #[.int .i64 p, .int .i64 k, .iface t1 u1, .iface t2 u2, .slice p3 n3 c3, .slice p4 n4 c4, .bool he])
 have hW := below_alloc w' (.cells #[.int .i64 p, .int .i64 k, .iface t1 u1, .iface t2 u2, .slice p3 n3 c3, .slice p4 n4 c4, .bool he] 290)
 have kW : PKeep B b w' (w'.alloc (.cells #[.int .i64 p, .int .i64 k, .iface t1 u1, .iface t2 u2, .slice p3 n3 c3, .slice p4 n4 c4, .bool he] 290)) := PKeep.of_below hW hBw
 have hc := hbr (w'.alloc (.cells #[.int .i64 p, .int .i64 k, .iface t1 u1, .iface t2 u2, .slice p3 n3 c3, .slice p4 n4 c4, .bool he] 290)) B b d t (hso.keep kW hhB) hhB (by simp; omega) h9 (hL.below hW hL.size) (hP.below hW) hlen
 clear hbr
 go_enter Tryz.func91, Tryz.ntmps91
 go_wp2_with fail
 refine hc.mono ?_
 rintro e w1 ⟨rfl, h1', k1⟩
 go_wp2_with fail
 go_end0
 exact ⟨rfl, h1', kW.trans k1⟩
end Go.Proofs.YtiopfihjmkfdmaaGreatDoor
namespace Go.Proofs.YtiopfihjmkfdmaaGreatDoor
open Go.RowKit
set_option maxRecDepth 100000
set_option maxHeartbeats 1000000
def StT (_ : Int × Int) (lo hi : Nat) (w : World) (v : Value) (f : Nat → Sp.Bs) (_ : Int × Int) : Prop := (∃ t u, v = .iface t u) ∧ StSays lo hi w v f ∧ ∀ d, f d ≠ []
theorem blk_says {ct ct' : Int × Int} {lo hi : Nat} {w : World} {v : Value} {xs : List (Nat → Sp.Bs)} (h : Blk StT ct lo hi w v xs ct') : StsSays lo hi w v xs := by
 obtain ⟨vs, f, h1, h2, h3, h4⟩ := h
 exact statements_says ct ct' lo hi w v xs ⟨vs, f, h1, h2, fun i u x hu hx => (h3 i u x hu hx).2.1, h4⟩
def RtPr : RepT Sp.Pr RpPr where
 T := StT
 mono := by
  intro _ _ lo hi lo' hi' w w' v x h hl hh hs
  refine ⟨h.1, ?_, h.2.2⟩
  intro w2 B b d t hso hhB
  exact h.2.1 w2 B b d t (fun k h1 h2 hn => (hso k (by omega) (by omega) (by rw [hs k h1 h2 hn]; exact hn)).trans (hs k h1 h2 hn)) (by omega)
 iface h := h.1
 assign ct lo hi w k v x _ hk h := by
  obtain ⟨⟨t, u, rfl⟩, hs, _⟩ := h
  exact ⟨⟨_, _, rfl⟩, assign_says _ lo hi w k hk t u x hs, fun d => by show Sp.pad d ++ Sp.letter k ++ [32, 61, 32] ++ x.2 ++ [59, 10] ≠ []; simp⟩
 read ct lo hi w k hk := ⟨⟨_, _, rfl⟩, read_says _ lo hi w k hk, fun d => by show Sp.pad d ++ [114, 101, 97, 100, 32] ++ Sp.letter k ++ [59, 10] ≠ []; simp⟩
 assert ct lo hi w k v x _ u y _ hk h h' := by
  obtain ⟨⟨tl, ul, rfl⟩, hs, _⟩ := h
  obtain ⟨⟨tr, ur, rfl⟩, hs', _⟩ := h'
  exact ⟨⟨_, _, rfl⟩, assert_says _ _ lo hi w k hk tl ul tr ur x y hs hs', fun d => by show Sp.pad d ++ [97, 115, 115, 101, 114, 116, 32] ++ Sp.condText k x y ++ [59, 10] ≠ []; simp⟩
 ite ct lo hi w k v x _ u y _ bv xs _ hk h h' hb := by
  obtain ⟨⟨tl, ul, rfl⟩, hs, _⟩ := h
  obtain ⟨⟨tr, ur, rfl⟩, hs', _⟩ := h'
  obtain ⟨av, nv, cv, rfl⟩ := blk_slice hb
  refine ⟨⟨_, _, rfl⟩, if_says _ lo hi w (k : Nat) _ _ _ _ false _ tl ul rfl tr ur rfl av nv cv rfl none 0 0 rfl ?_, fun d => ?_⟩
  ·intro w' B b d t a1 a2 a3 a4 a5 a6 a7
   exact branch_none _ lo hi w k hk tl ul tr ur x y hs hs' av nv cv xs (blk_says hb) w' B b d t a1 a2 a3 a4 a5 a6 a7
  ·show Sp.pad d ++ [105, 102, 32] ++ Sp.condText k x y ++ [32, 123, 10] ++ Sp.lines (d + 1) xs ++ [] ++ Sp.pad d ++ [125, 10] ≠ []
   simp
 iteElse ct lo hi w k v x _ u y _ bv xs _ cv' ys _ hk h h' hb hc := by
  obtain ⟨⟨tl, ul, rfl⟩, hs, _⟩ := h
  obtain ⟨⟨tr, ur, rfl⟩, hs', _⟩ := h'
  obtain ⟨av, nv, cv, rfl⟩ := blk_slice hb
  obtain ⟨ae, ne, ce, rfl⟩ := blk_slice hc
  refine ⟨⟨_, _, rfl⟩, if_says _ lo hi w (k : Nat) _ _ _ _ true _ tl ul rfl tr ur rfl av nv cv rfl ae ne ce rfl ?_, fun d => ?_⟩
  ·intro w' B b d t a1 a2 a3 a4 a5 a6 a7
   exact branch_else _ lo hi w k hk tl ul tr ur x y hs hs' av nv cv xs (blk_says hb) ae ne ce ys (blk_says hc) w' B b d t a1 a2 a3 a4 a5 a6 a7
  ·show Sp.pad d ++ [105, 102, 32] ++ Sp.condText k x y ++ [32, 123, 10] ++ Sp.lines (d + 1) xs ++ _ ++ Sp.pad d ++ [125, 10] ≠ []
   simp
 loop ct lo hi w k v x _ u y _ bv xs _ hk h h' hb := by
  obtain ⟨⟨tl, ul, rfl⟩, hs, _⟩ := h
  obtain ⟨⟨tr, ur, rfl⟩, hs', _⟩ := h'
  obtain ⟨av, nv, cv, rfl⟩ := blk_slice hb
  exact ⟨⟨_, _, rfl⟩, while_says _ lo hi w k hk tl ul tr ur x y hs hs' av nv cv xs (blk_says hb), fun d => by show Sp.pad d ++ [119, 104, 105, 108, 101, 32] ++ Sp.condText k x y ++ [32, 123, 10] ++ Sp.lines (d + 1) xs ++ Sp.pad d ++ [125, 10] ≠ []; simp⟩
theorem printer_new (w : World) : PrAt w.heap.size w.heap.size 0 [] (w.alloc (.cells #[.pointer none, .slice none 0 0, .int .i64 0] 155)) :=
 ⟨.pointer none, .slice none 0 0, heap_alloc_new _ _, .inl rfl, World.ownsRow_nil _ _ _ _, by simp [Value.ownBlock], Nat.le_refl _⟩
theorem text_none (a : Option Addr) (c : Nat) (w : World) : Calls Tryz.prog 37 #[.slice a 0 c] w fun e w' => e = .returned (.string ⟨#[]⟩) ∧ Below w.heap.size w w' := by
 have hb0 := below_alloc w (.cells #[.pointer none, .slice none 0 0, .int .i64 0] 155)
 have hbk := heap_alloc_new w (.cells #[.pointer none, .slice none 0 0, .int .i64 0] 155)
 have HK : Hid (_ = _) := hbk
 clear hbk
 have hc : Calls Tryz.prog 59 #[.pointer (some ⟨w.heap.size, 0, none⟩), .slice a 0 c] (w.alloc (.cells #[.pointer none, .slice none 0 0, .int .i64 0] 155)) fun e w' => e = .returned (.tuple #[]) ∧ w' = w.alloc (.cells #[.pointer none, .slice none 0 0, .int .i64 0] 155) := by
  go_enter Tryz.func59, Tryz.ntmps59
  go_wp2_with fail
  refine wp_loop_rounds 1 ?_
  rw [rounds_succ]
  go_wp2_with fail
  go_end0
  exact ⟨rfl, rfl⟩
 go_enter Tryz.func37, Tryz.ntmps37
 go_wp2_with fail
 refine hc.mono ?_
 rintro e w1 ⟨rfl, rfl⟩
 go_wp2_with fail
 refine (string_none w.heap.size _ _ w.heap.size _ HK.out).mono ?_
 rintro e w2 ⟨rfl, b2⟩
 go_wp2_with fail
 go_ret
 exact ⟨rfl, hb0.trans b2⟩
theorem text_some {ct ct' : Int × Int} (lo hi : Nat) (w0 w : World) (v : Value) (xs : List (Nat → Sp.Bs)) (h : Blk StT ct lo hi w0 v xs ct') (hne : xs ≠ []) (hso : SameOn lo hi w0 w) (hh : hi ≤ w.heap.size) (hL : Laid w) (hlen : (Sp.lines 0 xs).length ≤ 2000000) :
  Calls Tryz.prog 37 #[v] w fun e w' => e = .returned (.string ⟨(Sp.lines 0 xs).toArray⟩) ∧ Below w.heap.size w w' := by
 have h9 := hL.size
 have hb0 := below_alloc w (.cells #[.pointer none, .slice none 0 0, .int .i64 0] 155)
 have hc := blk_says h (w.alloc (.cells #[.pointer none, .slice none 0 0, .int .i64 0] 155)) w.heap.size w.heap.size 0 [] (fun k h1 h2 => by rw [hb0.block k (by omega)]; exact hso k h1 h2) hh (by simp) h9 (hL.below hb0 h9) (printer_new w) (by simpa using hlen)
 have hnel : Sp.lines 0 xs ≠ [] := by
  cases xs with
  | nil => exact absurd rfl hne
  | cons x r =>
   obtain ⟨vs, f, h1, _, h3, _⟩ := h
   have hl : vs.length = r.length + 1 := by simpa using h1.1
   obtain ⟨u, hu⟩ : ∃ u, vs[0]? = some u := ⟨_, List.getElem?_eq_getElem (by omega)⟩
   have := (h3 0 u x hu (by simp)).2.2 0
   unfold Sp.lines
   simp [this]
 go_enter Tryz.func37, Tryz.ntmps37
 go_wp2_with fail
 refine hc.mono ?_
 rintro e w1 ⟨rfl, h1, k1⟩
 have h1' : PrAt w.heap.size w.heap.size 0 (Sp.lines 0 xs) w1 := by simpa using h1
 clear h1 hc
 go_wp2_with fail
 refine (string_calls w.heap.size w.heap.size 0 _ w1 h1' hnel).mono ?_
 rintro e w2 ⟨rfl, b2⟩
 go_wp2_with fail
 go_ret
 exact ⟨rfl, (hb0.trans k1.below).trans b2⟩
theorem Text_calls {ct ct' : Int × Int} (lo hi : Nat) (w0 w : World) (v : Value) (xs : List (Nat → Sp.Bs)) (h : Blk StT ct lo hi w0 v xs ct') (hso : SameOn lo hi w0 w) (hh : hi ≤ w.heap.size) (hL : Laid w) (hlen : (Sp.lines 0 xs).length ≤ 2000000) :
  Calls Tryz.prog 37 #[v] w fun e w' => e = .returned (.string ⟨(Sp.lines 0 xs).toArray⟩) ∧ Below w.heap.size w w' := by
 by_cases hx : xs = []
 ·subst hx
  obtain ⟨vs, f, h1, _⟩ := h
  rcases h1.2 with ⟨rfl, _⟩ | ⟨g, cap, cur, rfl, _⟩
  ·exact text_none _ _ w
  ·exact text_none _ _ w
 ·exact text_some lo hi w0 w v xs h hx hso hh hL hlen
end Go.Proofs.YtiopfihjmkfdmaaGreatDoor
namespace Go.Proofs.YtiopfihjmkfdmaaGreatDoor
open Go.RowKit
set_option maxRecDepth 100000
set_option maxHeartbeats 400000
def PrintPost (w : World) : Except (Nat × Nat) Sp.Bs → Ending → World → Prop
 | .ok t, e, w' => e = .returned (.tuple #[.string ⟨t.toArray⟩, .nilIface]) ∧ Below w.heap.size w w'
 | .error er, e, w' => ∃ v, e = .returned (.tuple #[.string ⟨#[]⟩, v]) ∧ ErrAt w' w.heap.size v er ∧ Below w.heap.size w w'
theorem err_iface {w : World} {B : Nat} {v : Value} {er : Nat × Nat} (h : ErrAt w B v er) : ∃ t u, v = .iface t u := by
 rcases h with ⟨rfl, _⟩ | ⟨N, _, rfl, _⟩
 ·exact ⟨_, _, rfl⟩
 ·exact ⟨_, _, rfl⟩
theorem ErrAt.laid {w : World} {B : Nat} {v : Value} {er : Nat × Nat} (h : ErrAt w B v er) (o : Obj) : ErrAt (w.alloc o) B v er := by
 rcases h with h | ⟨N, h1, h2, h3⟩
 ·exact .inl h
 ·exact .inr ⟨N, h1, h2, heap_alloc_old h3⟩
theorem Print_calls (s : ByteArray) (w : World) (hs : s.size ≤ 1048576) (hL : Laid w) :
  Calls Tryz.prog 15 #[.string s] w (PrintPost w (Sp.print s.data.toList)) := by
 have hc := Program_calls RtPr s w hs hL
 unfold Sp.print
 cases hr : Sp.parse Sp.Pr s.data.toList with
 | error er =>
  rw [hr] at hc
  go_enter Tryz.func15, Tryz.ntmps15
  go_wp2_with fail
  refine hc.mono ?_
  rintro e w1 ⟨v, rfl, hv, b1⟩
  obtain ⟨tv, uv, rfl⟩ := err_iface hv
  have HV : Hid (ErrAt (w1.alloc (.cells #[.slice none 0 0, .int .i64 0, .int .i64 0, .slice none 0 0] 86)) w.heap.size (.iface tv uv) er) := hv.laid _
  clear hv hc
  go_wp2_with fail
  go_ret2
  exact ⟨_, rfl, HV.out, b1.alloc b1.size _⟩
 | ok xs =>
  rw [hr] at hc
  have hlen : (Sp.lines 0 xs).length ≤ 2000000 := Sp.parse_short hr
  go_enter Tryz.func15, Tryz.ntmps15
  go_wp2_with fail
  refine hc.mono ?_
  rintro e w1 ⟨v, ct1, nvv, ns1, rfl, hv, b1, hrow, hnums⟩
  obtain ⟨av, nv, cv, rfl⟩ := blk_slice hv
  obtain ⟨ax, nx, cx, rfl⟩ := row_slice0 hrow
  have b1' : Below w.heap.size w (w1.alloc (.cells #[.slice av nv cv, .int .i64 ct1.1, .int .i64 ct1.2, .slice ax nx cx] 86)) := b1.alloc b1.size _
  have ht := Text_calls w.heap.size w1.heap.size w1 (w1.alloc (.cells #[.slice av nv cv, .int .i64 ct1.1, .int .i64 ct1.2, .slice ax nx cx] 86)) (.slice av nv cv) xs hv (fun k _ h2 _ => Below.heap_alloc _ _ _ h2) (by simp) (hL.below b1' hL.size) hlen
  clear hc hv hrow hnums
  go_wp2_with fail
  refine ht.mono ?_
  rintro e w2 ⟨rfl, b2⟩
  go_wp2_with fail
  go_ret2
  exact ⟨rfl, b1'.trans (b2.mono b1'.size)⟩
end Go.Proofs.YtiopfihjmkfdmaaGreatDoor
