/- (printer) statement: while, if. -/
import Derived.Test.YtjkllmiikdlhhaaGreatDoorPStmts
namespace Go.Proofs.YtjkllmiikdlhhaaGreatDoor
open Go.RowKit
set_option maxRecDepth 100000
set_option maxHeartbeats 2000000

theorem ts_4_1 (x : Value) (w : World) : (Instr.typeAssert (.iface 146 x) 106 135 true).run Tryz.prog w = .ok (.tuple #[.agg #[.int .i64 0, .nilIface], .bool false]) w := by kernel_rfl
theorem ts_4_2 (x : Value) (w : World) : (Instr.typeAssert (.iface 146 x) 106 139 true).run Tryz.prog w = .ok (.tuple #[.agg #[.int .i64 0], .bool false]) w := by kernel_rfl
theorem ts_4_3 (x : Value) (w : World) : (Instr.typeAssert (.iface 146 x) 106 143 true).run Tryz.prog w = .ok (.tuple #[.agg #[.int .i64 0, .nilIface, .nilIface], .bool false]) w := by kernel_rfl
theorem ts_4_4 (x : Value) (w : World) : (Instr.typeAssert (.iface 146 x) 106 146 true).run Tryz.prog w = .ok (.tuple #[x, .bool true]) w := by kernel_rfl
theorem ts_5_1 (x : Value) (w : World) : (Instr.typeAssert (.iface 149 x) 106 135 true).run Tryz.prog w = .ok (.tuple #[.agg #[.int .i64 0, .nilIface], .bool false]) w := by kernel_rfl
theorem ts_5_2 (x : Value) (w : World) : (Instr.typeAssert (.iface 149 x) 106 139 true).run Tryz.prog w = .ok (.tuple #[.agg #[.int .i64 0], .bool false]) w := by kernel_rfl
theorem ts_5_3 (x : Value) (w : World) : (Instr.typeAssert (.iface 149 x) 106 143 true).run Tryz.prog w = .ok (.tuple #[.agg #[.int .i64 0, .nilIface, .nilIface], .bool false]) w := by kernel_rfl
theorem ts_5_4 (x : Value) (w : World) : (Instr.typeAssert (.iface 149 x) 106 146 true).run Tryz.prog w = .ok (.tuple #[.agg #[.int .i64 0, .nilIface, .nilIface, .slice none 0 0, .slice none 0 0, .bool false], .bool false]) w := by kernel_rfl
theorem ts_5_5 (x : Value) (w : World) : (Instr.typeAssert (.iface 149 x) 106 149 true).run Tryz.prog w = .ok (.tuple #[x, .bool true]) w := by kernel_rfl

/-- a line's length, taken apart -/
theorem joined3 (a b c : Sp.Bs) : joined [⟨a.toArray⟩, ⟨b.toArray⟩, ⟨c.toArray⟩] = a ++ b ++ c := by simp [joined]
theorem joined1 (a : Sp.Bs) : joined [⟨a.toArray⟩] = a := by simp [joined]
theorem pad_length (d : Nat) : (Sp.pad d).length = 2 * d := by simp [Sp.pad]

theorem while_says (lo hi : Nat) (w : World) (k : Nat) (hk : k < 6) (tl : TypeId) (ul : Value) (tr : TypeId) (ur : Value) (x y : Nat × Sp.Bs) (hx : SumSays (.iface tl ul) x.2) (hy : SumSays (.iface tr ur) y.2) (av : Option Addr) (nv cv : Nat) (xs : List (Nat → Sp.Bs)) (hb : StsSays lo hi w (.slice av nv cv) xs) :
    StSays lo hi w (.iface 149 (.agg #[.int .i64 (k : Nat), .iface tl ul, .iface tr ur, .slice av nv cv])) (Sp.Pr.loop k x y xs) := by
  intro w' B b d t hso hhB hBw h9 hL hP hlen
  have h1 := ts_5_1 (.agg #[.int .i64 (k : Nat), .iface tl ul, .iface tr ur, .slice av nv cv])
  have h2 := ts_5_2 (.agg #[.int .i64 (k : Nat), .iface tl ul, .iface tr ur, .slice av nv cv])
  have h3 := ts_5_3 (.agg #[.int .i64 (k : Nat), .iface tl ul, .iface tr ur, .slice av nv cv])
  have h4 := ts_5_4 (.agg #[.int .i64 (k : Nat), .iface tl ul, .iface tr ur, .slice av nv cv])
  have h5 := ts_5_5 (.agg #[.int .i64 (k : Nat), .iface tl ul, .iface tr ur, .slice av nv cv])
  have e : Sp.Pr.loop k x y xs d = (Sp.pad d ++ joined [⟨#[119, 104, 105, 108, 101, 32]⟩, ⟨(Sp.condText k x y).toArray⟩, ⟨#[32, 123]⟩] ++ [10]) ++ Sp.lines (d + 1) xs ++ (Sp.pad d ++ joined [⟨#[125]⟩] ++ [10]) := by
    show Sp.pad d ++ [119, 104, 105, 108, 101, 32] ++ Sp.condText k x y ++ [32, 123, 10] ++ Sp.lines (d + 1) xs ++ Sp.pad d ++ [125, 10] = _
    simp [joined]
  rw [e] at hlen ⊢
  have hj : (joined [⟨#[119, 104, 105, 108, 101, 32]⟩, ⟨(Sp.condText k x y).toArray⟩, ⟨#[32, 123]⟩]).length = 6 + (Sp.condText k x y).length + 2 := by simp [joined]; omega
  have hj1 : (joined [⟨#[125]⟩]).length = 1 := by simp [joined]
  have hpd := pad_length d
  simp only [List.length_append, List.length_cons, List.length_nil, hj, hj1, hpd] at hlen
  have hct : (Sp.condText k x y).length ≤ 2000000 := by omega
  have hW := below_alloc w' (.cells #[.int .i64 (k : Nat), .iface tl ul, .iface tr ur, .slice av nv cv] 149)
  have hnb := heap_alloc_new w' (.cells #[.int .i64 (k : Nat), .iface tl ul, .iface tr ur, .slice av nv cv] 149)
  have hNb : w'.heap.size ≠ b := by have := hP.lt; omega
  have HN : Hid (_ = _) := hnb
  clear hnb
  go_enter Tryz.func40, Tryz.ntmps40
  go_wp2_with fail
  refine (cond_says k hk tl ul tr ur x y hx hy hct _ (hL.below hW hL.size)).mono ?_
  rintro e w1 ⟨rfl, b1⟩
  have hb1 : Below w'.heap.size w' w1 := hW.trans (b1.mono (by simp))
  have hs1 := hb1.size
  have n1 : w1.heap[w'.heap.size]? = some (.cells #[.int .i64 (k : Nat), .iface tl ul, .iface tr ur, .slice av nv cv] 149) := below_block b1 (by simp) HN.out
  go_wp2_with fail
  refine (line_after B b d w1.heap.size 3 t [⟨#[119, 104, 105, 108, 101, 32]⟩, ⟨(Sp.condText k x y).toArray⟩, ⟨#[32, 123]⟩] w1 (hP.below hb1) rfl rfl (by simp) (by simp only [List.length_append, List.length_cons, List.length_nil, hj, hpd]; omega) (by omega)).mono ?_
  rintro e w2 ⟨rfl, h2', k2⟩
  have n2 := k2.cell n1 hNb (by decide)
  have K2 : PKeep B b w' w2 := (PKeep.of_below hb1 hBw).trans k2
  have c3 := cell_of n2 3 (v := .slice av nv cv) rfl
  have hs2 := K2.below.size
  clear b1 hb1 n1 k2
  go_wp2_with fail
  refine (inner_says lo hi w (.slice av nv cv) xs hb w2 B b d _ (hso.keep K2 hhB) hhB (by omega) h9 (hL.below K2.below h9) h2' (by simp only [List.length_append, List.length_cons, List.length_nil, hj, hpd]; omega) (by omega)).mono ?_
  rintro e w3 ⟨rfl, h3', k3⟩
  have hs3 := k3.below.size
  have K3 : PKeep B b w' w3 := K2.trans k3
  clear h2' k3 n2 c3
  go_wp2_with fail
  refine (line_after B b d w3.heap.size 1 _ [⟨#[125]⟩] w3 h3' rfl rfl (by simp) (by simp only [List.length_append, List.length_cons, List.length_nil, hj, hj1, hpd]; omega) (by omega)).mono ?_
  rintro e w4 ⟨rfl, h4', k4⟩
  have K4 : PKeep B b w' w4 := K3.trans k4
  have HF : Hid (PrAt B b d (t ++ ((Sp.pad d ++ joined [⟨#[119, 104, 105, 108, 101, 32]⟩, ⟨(Sp.condText k x y).toArray⟩, ⟨#[32, 123]⟩] ++ [10]) ++ Sp.lines (d + 1) xs ++ (Sp.pad d ++ joined [⟨#[125]⟩] ++ [10]))) w4) := by
    unfold Hid
    simp only [List.append_assoc] at h4' ⊢
    exact h4'
  clear h3' h4' k4
  go_wp2_with fail
  go_end0
  exact ⟨rfl, HF.out, K4⟩

end Go.Proofs.YtjkllmiikdlhhaaGreatDoor
