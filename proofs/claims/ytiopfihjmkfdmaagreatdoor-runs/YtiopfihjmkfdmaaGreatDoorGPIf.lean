/- (printer) statements, inner. -/
import Derived.Test.YtiopfihjmkfdmaaGreatDoorGPStmt
namespace Go.Proofs.YtiopfihjmkfdmaaGreatDoor
open Go.RowKit
set_option maxRecDepth 100000
set_option maxHeartbeats 2000000

/-- 'printer.statements writes v as these say' -/
def StsSays (lo hi : Nat) (w : World) (v : Value) (xs : List (Nat → Sp.Bs)) : Prop :=
  ∀ (w' : World) (B b d : Nat) (t : Sp.Bs), SameOn lo hi w w' → hi ≤ B → B ≤ w'.heap.size → 11 ≤ B → Laid w' → PrAt B b d t w' → t.length + (Sp.lines d xs).length ≤ 2000000 →
    Calls Tryz.prog 59 #[.pointer (some ⟨b, 0, none⟩), v] w' fun e w'' => e = .returned (.tuple #[]) ∧ PrAt B b d (t ++ Sp.lines d xs) w'' ∧ PKeep B b w' w''

theorem lines_succ (d : Nat) (xs : List (Nat → Sp.Bs)) (j : Nat) (x : Nat → Sp.Bs) (h : xs[j]? = some x) : Sp.lines d (xs.take (j + 1)) = Sp.lines d (xs.take j) ++ x d := by
  unfold Sp.lines
  have hk := List.getElem?_eq_some_iff.1 h
  rw [List.take_succ_eq_append_getElem hk.1, hk.2]
  simp

theorem lines_le (d : Nat) (xs : List (Nat → Sp.Bs)) (j : Nat) : (Sp.lines d (xs.take j)).length ≤ (Sp.lines d xs).length := by
  have h : Sp.lines d xs = Sp.lines d (xs.take j) ++ Sp.lines d (xs.drop j) := by
    unfold Sp.lines
    rw [← List.flatten_append, ← List.map_append, List.take_append_drop]
  rw [h, List.length_append]; omega

theorem SameOn.keep {B b lo hi : Nat} {w w1 w2 : World} (h : SameOn lo hi w w1) (k : PKeep B b w1 w2) (hh : hi ≤ B) : SameOn lo hi w w2 :=
  fun i h1 h2 hn => by rw [k.below.block i (by omega)]; exact h i h1 h2 hn

theorem statements_none (lo hi : Nat) (w : World) : StsSays lo hi w (.slice none 0 0) [] := by
  intro w' B b d t _ _ hBw h9 hL hP hlen
  go_enter Tryz.func59, Tryz.ntmps59
  go_wp2_with fail
  refine wp_loop_rounds 1 ?_
  rw [rounds_succ]
  go_wp2_with fail
  go_end0
  exact ⟨rfl, by simpa [Sp.lines] using hP, PKeep.refl _ _ _⟩

theorem statements_says (ct ct' : Int × Int) (lo hi : Nat) (w : World) (v : Value) (xs : List (Nat → Sp.Bs)) (h : Blk (fun _ lo hi w v f _ => StSays lo hi w v f) ct lo hi w v xs ct') : StsSays lo hi w v xs := by
  obtain ⟨vs, _, ho, hg, he, _, _⟩ := h
  have hvl : vs.length = xs.length := by simpa using ho.1
  rcases ho.2 with ⟨rfl, hz⟩ | ⟨g, cap, cur, rfl, hlg, hh, hnc, hcm, hcs, htake⟩
  · have : xs = [] := List.eq_nil_of_length_eq_zero hz
    subst this
    exact statements_none lo hi w
  · intro w' B b d t hso hhB hBw h9 hL hP hlen
    have hgl := hg g rfl
    have hcell : ∀ (i : Nat) (u : Value), vs[i]? = some u → w'.cell? ⟨g, i, none⟩ = some u := by
      intro i u hu
      have h1 : w'.heap[g]? = some (.cells cur 234) := by rw [hso g hlg hgl (by rw [hh]; exact not_num (by decide))]; exact hh
      refine cell_of h1 i ?_
      have h2 : i < vs.length := (List.getElem?_eq_some_iff.1 hu).1
      have h3 : cur.toList[i]? = vs[i]? := by
        rw [← htake, List.getElem?_take, if_pos (by omega)]
      rw [← Array.getElem?_toList, h3]; exact hu
    have hn : (xs.length : Int) ≤ 9223372036854775807 := by unfold maxLen at hcm; omega
    clear htake hcs hcm
    go_enter Tryz.func59, Tryz.ntmps59
    go_wp2_with fail
    go_loopw [5, 8] (fun _ i wr => ∃ j : Nat, j ≤ xs.length ∧ i = .int .i64 j ∧ Hid (PrAt B b d (t ++ Sp.lines d (xs.take j)) wr ∧ PKeep B b w' wr)) (fun _ i _ => xs.length - (intOf i).toNat)
    case atStart => exact ⟨0, Nat.zero_le _, rfl, by simpa [Sp.lines] using hP, PKeep.refl _ _ _⟩
    case round =>
      obtain ⟨j, hj, rfl, hq⟩ := hrel
      have hjl := lines_le d xs j
      by_cases hjlt : j < xs.length
      · obtain ⟨u, hu⟩ : ∃ u, vs[j]? = some u := ⟨_, List.getElem?_eq_getElem (by omega)⟩
        obtain ⟨x, hx⟩ : ∃ x, xs[j]? = some x := ⟨_, List.getElem?_eq_getElem hjlt⟩
        have hls := lines_succ d xs j x hx
        have hjl1 := lines_le d xs (j + 1)
        rw [hls, List.length_append] at hjl1
        have hcu : wr.cell? ⟨g, j, none⟩ = some u := by
          rw [hq.out.2.below.cell (by show g < B; omega)]; exact hcell j u hu
        have hst := he j u x hu hx
        have hc := hst wr B b d (t ++ Sp.lines d (xs.take j)) (hso.keep hq.out.2 hhB) hhB (by have := hq.out.2.below.size; omega) h9 (hL.below hq.out.2.below h9) hq.out.1 (by simp only [List.length_append]; omega)
        clear hst hu hx
        go_wp2_with fail
        refine hc.mono ?_
        rintro e w1 ⟨rfl, h1, b1⟩
        have HR : Hid (PrAt B b d (t ++ Sp.lines d (xs.take (j + 1))) w1 ∧ PKeep B b w' w1) := ⟨by rw [hls, ← List.append_assoc]; exact h1, hq.out.2.trans b1⟩
        clear h1 hls hc b1
        go_wp2_with fail
        exact ⟨⟨j + 1, by omega, by go_num, HR⟩, by simp [intOf]; omega⟩
      · have hlast : Hid (PrAt B b d (t ++ Sp.lines d xs) wr) := by
          unfold Hid
          have := hq.out.1
          rwa [List.take_of_length_le (by omega)] at this
        go_wp2_with fail
        go_end0
        exact ⟨rfl, hlast.out, hq.out.2⟩

/-- one block more is open -/
theorem prAt_depth {B b d : Nat} {t : Sp.Bs} {w : World} (h : PrAt B b d t w) (d' : Nat) (di : Int) (hd : di = d') : PrAt B b d' t (w.setCell ⟨b, 2, none⟩ (.int .i64 di)) ∧ PKeep B b w (w.setCell ⟨b, 2, none⟩ (.int .i64 di)) := by
  subst hd
  obtain ⟨p, v, hbk, hp, ho, hne, hB⟩ := h
  refine ⟨⟨p, v, ?_, hp, ownsRow_setCell_other ho (a := ⟨b, 2, none⟩) hne _, hne, hB⟩, (Below.refl _ _).setCell (p := ⟨b, 2, none⟩) hB _, fun k _ hk _ => Below.heap_setCell _ _ _ _ hk⟩
  rw [heap_setCell_at hbk 2 (.int .i64 d')]
  rfl

theorem PrAt.fz {B b d : Nat} {t : Sp.Bs} {w : World} (h : PrAt B b d t w) : w.frozen? ⟨b, 2, none⟩ = false := by
  obtain ⟨p, v, hb, _⟩ := h
  exact frozen_of hb 2

theorem inner_says (lo hi : Nat) (w : World) (v : Value) (xs : List (Nat → Sp.Bs)) (h : StsSays lo hi w v xs) (w' : World) (B b d : Nat) (t : Sp.Bs) (hso : SameOn lo hi w w') (hhB : hi ≤ B) (hBw : B ≤ w'.heap.size) (h9 : 11 ≤ B) (hL : Laid w') (hP : PrAt B b d t w') (hlen : t.length + (Sp.lines (d + 1) xs).length ≤ 2000000) (hd : d ≤ 2000000) :
    Calls Tryz.prog 128 #[.pointer (some ⟨b, 0, none⟩), v] w' fun e w'' => e = .returned (.tuple #[]) ∧ PrAt B b d (t ++ Sp.lines (d + 1) xs) w'' ∧ PKeep B b w' w'' := by
  have c2 := hP.depth
  have f2 := hP.fz
  obtain ⟨hp1, k1⟩ := prAt_depth hP (d + 1) ((d : Int) + 1) (by omega)
  have hc := h _ B b (d + 1) t (hso.keep k1 hhB) hhB (by simp [World.setCell]; exact hBw) h9 (hL.below k1.below h9) hp1 hlen
  clear hp1
  go_enter Tryz.func128, Tryz.ntmps128
  go_wp2_with fail
  refine hc.mono ?_
  rintro e w1 ⟨rfl, h1, b1⟩
  have c3 : w1.cell? ⟨b, 2, none⟩ = some (.int .i64 ((d : Int) + 1)) := h1.depth
  have f3 := h1.fz
  have hp2 := prAt_depth h1 d (d : Int) rfl
  have HP : Hid (PrAt B b d (t ++ Sp.lines (d + 1) xs) (w1.setCell ⟨b, 2, none⟩ (.int .i64 (d : Int))) ∧ PKeep B b w' (w1.setCell ⟨b, 2, none⟩ (.int .i64 (d : Int)))) := ⟨hp2.1, (k1.trans b1).trans hp2.2⟩
  clear hp2 hc
  go_wp2_with fail
  go_end0
  exact ⟨rfl, HP.out.1, HP.out.2⟩

end Go.Proofs.YtiopfihjmkfdmaaGreatDoor

/- (printer) statement: while, if. -/
namespace Go.Proofs.YtiopfihjmkfdmaaGreatDoor
open Go.RowKit
set_option maxRecDepth 100000
set_option maxHeartbeats 2000000


/-- a line's length, taken apart -/
theorem joined3 (a b c : Sp.Bs) : joined [⟨a.toArray⟩, ⟨b.toArray⟩, ⟨c.toArray⟩] = a ++ b ++ c := by simp [joined]
theorem joined1 (a : Sp.Bs) : joined [⟨a.toArray⟩] = a := by simp [joined]
theorem pad_length (d : Nat) : (Sp.pad d).length = 2 * d := by simp [Sp.pad]

theorem while_says (p : Int) (lo hi : Nat) (w : World) (k : Nat) (hk : k < 6) (tl : TypeId) (ul : Value) (tr : TypeId) (ur : Value) (x y : Nat × Sp.Bs) (hx : SumSays (.iface tl ul) x.2) (hy : SumSays (.iface tr ur) y.2) (av : Option Addr) (nv cv : Nat) (xs : List (Nat → Sp.Bs)) (hb : StsSays lo hi w (.slice av nv cv) xs) :
    StSays lo hi w (.iface 293 (.agg #[.int .i64 p, .int .i64 (k : Nat), .iface tl ul, .iface tr ur, .slice av nv cv])) (Sp.Pr.loop k x y xs) := by
  intro w' B b d t hso hhB hBw h9 hL hP hlen
  have h1 := ts_5_1 (.agg #[.int .i64 p, .int .i64 (k : Nat), .iface tl ul, .iface tr ur, .slice av nv cv])
  have h2 := ts_5_2 (.agg #[.int .i64 p, .int .i64 (k : Nat), .iface tl ul, .iface tr ur, .slice av nv cv])
  have h3 := ts_5_3 (.agg #[.int .i64 p, .int .i64 (k : Nat), .iface tl ul, .iface tr ur, .slice av nv cv])
  have h4 := ts_5_4 (.agg #[.int .i64 p, .int .i64 (k : Nat), .iface tl ul, .iface tr ur, .slice av nv cv])
  have h5 := ts_5_5 (.agg #[.int .i64 p, .int .i64 (k : Nat), .iface tl ul, .iface tr ur, .slice av nv cv])
  have e : Sp.Pr.loop k x y xs d = (Sp.pad d ++ joined [⟨#[119, 104, 105, 108, 101, 32]⟩, ⟨(Sp.condText k x y).toArray⟩, ⟨#[32, 123]⟩] ++ [10]) ++ Sp.lines (d + 1) xs ++ (Sp.pad d ++ joined [⟨#[125]⟩] ++ [10]) := by
    show Sp.pad d ++ [119, 104, 105, 108, 101, 32] ++ Sp.condText k x y ++ [32, 123, 10] ++ Sp.lines (d + 1) xs ++ Sp.pad d ++ [125, 10] = _
    simp [joined]
  rw [e] at hlen ⊢
  have hj : (joined [⟨#[119, 104, 105, 108, 101, 32]⟩, ⟨(Sp.condText k x y).toArray⟩, ⟨#[32, 123]⟩]).length = 6 + (Sp.condText k x y).length + 2 := by simp [joined]; omega
  have hj1 : (joined [⟨#[125]⟩]).length = 1 := by simp [joined]
  have hpd := pad_length d
  simp only [List.length_append, List.length_cons, List.length_nil, hj, hj1, hpd] at hlen
  have hct : (Sp.condText k x y).length ≤ 2000000 := by omega
  have hW := below_alloc w' (.cells #[.int .i64 p, .int .i64 (k : Nat), .iface tl ul, .iface tr ur, .slice av nv cv] 293)
  have hnb := heap_alloc_new w' (.cells #[.int .i64 p, .int .i64 (k : Nat), .iface tl ul, .iface tr ur, .slice av nv cv] 293)
  have hNb : w'.heap.size ≠ b := by have := hP.lt; omega
  have HN : Hid (_ = _) := hnb
  clear hnb
  go_enter Tryz.func91, Tryz.ntmps91
  go_wp2_with fail
  refine (cond_says k hk tl ul tr ur x y hx hy hct _ (hL.below hW hL.size)).mono ?_
  rintro e w1 ⟨rfl, b1⟩
  have hb1 : Below w'.heap.size w' w1 := hW.trans (b1.mono (by simp))
  have hs1 := hb1.size
  have n1 : w1.heap[w'.heap.size]? = some (.cells #[.int .i64 p, .int .i64 (k : Nat), .iface tl ul, .iface tr ur, .slice av nv cv] 293) := below_block b1 (by simp) HN.out
  go_wp2_with fail
  refine (line_after B b d w1.heap.size 3 t [⟨#[119, 104, 105, 108, 101, 32]⟩, ⟨(Sp.condText k x y).toArray⟩, ⟨#[32, 123]⟩] w1 (hP.below hb1) rfl rfl (by simp) (by simp only [List.length_append, List.length_cons, List.length_nil, hj, hpd]; omega) (by omega)).mono ?_
  rintro e w2 ⟨rfl, h2', k2⟩
  have n2 := k2.cell n1 hNb (by decide)
  have K2 : PKeep B b w' w2 := (PKeep.of_below hb1 hBw).trans k2
  have c3 := cell_of n2 4 (v := .slice av nv cv) rfl
  have hs2 := K2.below.size
  clear b1 hb1 n1 k2
  go_wp2_with fail
  refine (inner_says lo hi w (.slice av nv cv) xs hb w2 B b d _ (hso.keep K2 hhB) hhB (by omega) h9 (hL.below K2.below h9) h2' (by simp only [List.length_append, List.length_cons, List.length_nil, hj, hpd]; omega) (by omega)).mono ?_
  rintro e w3 ⟨rfl, h3', k3⟩
  have hs3 := k3.below.size
  have K3 : PKeep B b w' w3 := K2.trans k3
  clear h2' k3 n2 c3
  go_wp2_with fail
  refine (line_after B b d w3.heap.size 1 _ [⟨#[125]⟩] w3 h3' rfl rfl (by simp) (by simp only [List.length_append, List.length_cons, List.length_nil, hj, hj1, hpd]; omega) (by omega)).mono ?_
  rintro e w4 ⟨rfl, h4', k4⟩
  have K4 : PKeep B b w' w4 := K3.trans k4
  have HF : Hid (PrAt B b d (t ++ ((Sp.pad d ++ joined [⟨#[119, 104, 105, 108, 101, 32]⟩, ⟨(Sp.condText k x y).toArray⟩, ⟨#[32, 123]⟩] ++ [10]) ++ Sp.lines (d + 1) xs ++ (Sp.pad d ++ joined [⟨#[125]⟩] ++ [10]))) w4) := by
    unfold Hid
    simp only [List.append_assoc] at h4' ⊢
    exact h4'
  clear h3' h4' k4
  go_wp2_with fail
  go_end0
  exact ⟨rfl, HF.out, K4⟩

end Go.Proofs.YtiopfihjmkfdmaaGreatDoor

/- (printer) branch; statement: if. -/
namespace Go.Proofs.YtiopfihjmkfdmaaGreatDoor
open Go.RowKit
set_option maxRecDepth 100000
set_option maxHeartbeats 2000000

theorem branch_none (p : Int) (lo hi : Nat) (w : World) (k : Nat) (hk : k < 6) (tl : TypeId) (ul : Value) (tr : TypeId) (ur : Value) (x y : Nat × Sp.Bs) (hx : SumSays (.iface tl ul) x.2) (hy : SumSays (.iface tr ur) y.2) (av : Option Addr) (nv cv : Nat) (xs : List (Nat → Sp.Bs)) (hb : StsSays lo hi w (.slice av nv cv) xs)
    (w' : World) (B b d : Nat) (t : Sp.Bs) (hso : SameOn lo hi w w') (hhB : hi ≤ B) (hBw : B ≤ w'.heap.size) (h9 : 11 ≤ B) (hL : Laid w') (hP : PrAt B b d t w') (hlen : t.length + (Sp.Pr.ite k x y xs none d).length ≤ 2000000) :
    Calls Tryz.prog 127 #[.pointer (some ⟨b, 0, none⟩), .agg #[.int .i64 p, .int .i64 (k : Nat), .iface tl ul, .iface tr ur, .slice av nv cv, .slice none 0 0, .bool false]] w' fun e w'' => e = .returned (.tuple #[]) ∧ PrAt B b d (t ++ Sp.Pr.ite k x y xs none d) w'' ∧ PKeep B b w' w'' := by
  have e : Sp.Pr.ite k x y xs none d = (Sp.pad d ++ joined [⟨#[105, 102, 32]⟩, ⟨(Sp.condText k x y).toArray⟩, ⟨#[32, 123]⟩] ++ [10]) ++ Sp.lines (d + 1) xs ++ (Sp.pad d ++ joined [⟨#[125]⟩] ++ [10]) := by
    show Sp.pad d ++ [105, 102, 32] ++ Sp.condText k x y ++ [32, 123, 10] ++ Sp.lines (d + 1) xs ++ [] ++ Sp.pad d ++ [125, 10] = _
    simp [joined]
  rw [e] at hlen ⊢
  have hj : (joined [⟨#[105, 102, 32]⟩, ⟨(Sp.condText k x y).toArray⟩, ⟨#[32, 123]⟩]).length = 3 + (Sp.condText k x y).length + 2 := by simp [joined]; omega
  have hj1 : (joined [⟨#[125]⟩]).length = 1 := by simp [joined]
  have hpd := pad_length d
  simp only [List.length_append, List.length_cons, List.length_nil, hj, hj1, hpd] at hlen
  have hct : (Sp.condText k x y).length ≤ 2000000 := by omega
  have hW := below_alloc w' (.cells #[.int .i64 p, .int .i64 (k : Nat), .iface tl ul, .iface tr ur, .slice av nv cv, .slice none 0 0, .bool false] 290)
  have hnb := heap_alloc_new w' (.cells #[.int .i64 p, .int .i64 (k : Nat), .iface tl ul, .iface tr ur, .slice av nv cv, .slice none 0 0, .bool false] 290)
  have hNb : w'.heap.size ≠ b := by have := hP.lt; omega
  have HN : Hid (_ = _) := hnb
  clear hnb
  go_enter Tryz.func127, Tryz.ntmps127
  go_wp2_with fail
  refine (cond_says k hk tl ul tr ur x y hx hy hct _ (hL.below hW hL.size)).mono ?_
  rintro e w1 ⟨rfl, b1⟩
  have hb1 : Below w'.heap.size w' w1 := hW.trans (b1.mono (by simp))
  have hs1 := hb1.size
  have n1 : w1.heap[w'.heap.size]? = some (.cells #[.int .i64 p, .int .i64 (k : Nat), .iface tl ul, .iface tr ur, .slice av nv cv, .slice none 0 0, .bool false] 290) := below_block b1 (by simp) HN.out
  go_wp2_with fail
  refine (line_after B b d w1.heap.size 3 t [⟨#[105, 102, 32]⟩, ⟨(Sp.condText k x y).toArray⟩, ⟨#[32, 123]⟩] w1 (hP.below hb1) rfl rfl (by simp) (by simp only [List.length_append, List.length_cons, List.length_nil, hj, hpd]; omega) (by omega)).mono ?_
  rintro e w2 ⟨rfl, h2', k2⟩
  have n2 := k2.cell n1 hNb (by decide)
  have K2 : PKeep B b w' w2 := (PKeep.of_below hb1 hBw).trans k2
  have c3 := cell_of n2 4 (v := .slice av nv cv) rfl
  have hs2 := K2.below.size
  clear b1 hb1 n1 k2
  go_wp2_with fail
  refine (inner_says lo hi w (.slice av nv cv) xs hb w2 B b d _ (hso.keep K2 hhB) hhB (by omega) h9 (hL.below K2.below h9) h2' (by simp only [List.length_append, List.length_cons, List.length_nil, hj, hpd]; omega) (by omega)).mono ?_
  rintro e w3 ⟨rfl, h3', k3⟩
  have n3 := k3.cell n2 hNb (by decide)
  have c5 := cell_of n3 6 (v := .bool false) rfl
  have hs3 := k3.below.size
  have K3 : PKeep B b w' w3 := K2.trans k3
  clear h2' k3 n2 c3
  go_wp2_with fail
  refine (line_after B b d w3.heap.size 1 _ [⟨#[125]⟩] w3 h3' rfl rfl (by simp) (by simp only [List.length_append, List.length_cons, List.length_nil, hj, hj1, hpd]; omega) (by omega)).mono ?_
  rintro e w4 ⟨rfl, h4', k4⟩
  have K4 : PKeep B b w' w4 := K3.trans k4
  have HF : Hid (PrAt B b d (t ++ ((Sp.pad d ++ joined [⟨#[105, 102, 32]⟩, ⟨(Sp.condText k x y).toArray⟩, ⟨#[32, 123]⟩] ++ [10]) ++ Sp.lines (d + 1) xs ++ (Sp.pad d ++ joined [⟨#[125]⟩] ++ [10]))) w4) := by
    unfold Hid
    simp only [List.append_assoc] at h4' ⊢
    exact h4'
  clear h3' h4' k4
  go_wp2_with fail
  go_end0
  exact ⟨rfl, HF.out, K4⟩

theorem branch_else (p : Int) (lo hi : Nat) (w : World) (k : Nat) (hk : k < 6) (tl : TypeId) (ul : Value) (tr : TypeId) (ur : Value) (x y : Nat × Sp.Bs) (hx : SumSays (.iface tl ul) x.2) (hy : SumSays (.iface tr ur) y.2) (av : Option Addr) (nv cv : Nat) (xs : List (Nat → Sp.Bs)) (hb : StsSays lo hi w (.slice av nv cv) xs) (ae : Option Addr) (ne ce : Nat) (ys : List (Nat → Sp.Bs)) (hbe : StsSays lo hi w (.slice ae ne ce) ys)
    (w' : World) (B b d : Nat) (t : Sp.Bs) (hso : SameOn lo hi w w') (hhB : hi ≤ B) (hBw : B ≤ w'.heap.size) (h9 : 11 ≤ B) (hL : Laid w') (hP : PrAt B b d t w') (hlen : t.length + (Sp.Pr.ite k x y xs (some ys) d).length ≤ 2000000) :
    Calls Tryz.prog 127 #[.pointer (some ⟨b, 0, none⟩), .agg #[.int .i64 p, .int .i64 (k : Nat), .iface tl ul, .iface tr ur, .slice av nv cv, .slice ae ne ce, .bool true]] w' fun e w'' => e = .returned (.tuple #[]) ∧ PrAt B b d (t ++ Sp.Pr.ite k x y xs (some ys) d) w'' ∧ PKeep B b w' w'' := by
  have e : Sp.Pr.ite k x y xs (some ys) d = (Sp.pad d ++ joined [⟨#[105, 102, 32]⟩, ⟨(Sp.condText k x y).toArray⟩, ⟨#[32, 123]⟩] ++ [10]) ++ Sp.lines (d + 1) xs ++ (Sp.pad d ++ joined [⟨#[125, 32, 101, 108, 115, 101, 32, 123]⟩] ++ [10]) ++ Sp.lines (d + 1) ys ++ (Sp.pad d ++ joined [⟨#[125]⟩] ++ [10]) := by
    show Sp.pad d ++ [105, 102, 32] ++ Sp.condText k x y ++ [32, 123, 10] ++ Sp.lines (d + 1) xs ++ (Sp.pad d ++ [125, 32, 101, 108, 115, 101, 32, 123, 10] ++ Sp.lines (d + 1) ys) ++ Sp.pad d ++ [125, 10] = _
    simp [joined]
  rw [e] at hlen ⊢
  have hj : (joined [⟨#[105, 102, 32]⟩, ⟨(Sp.condText k x y).toArray⟩, ⟨#[32, 123]⟩]).length = 3 + (Sp.condText k x y).length + 2 := by simp [joined]; omega
  have hj1 : (joined [⟨#[125]⟩]).length = 1 := by simp [joined]
  have hj2 : (joined [⟨#[125, 32, 101, 108, 115, 101, 32, 123]⟩]).length = 8 := by simp [joined]
  have hpd := pad_length d
  simp only [List.length_append, List.length_cons, List.length_nil, hj, hj1, hj2, hpd] at hlen
  have hct : (Sp.condText k x y).length ≤ 2000000 := by omega
  have hW := below_alloc w' (.cells #[.int .i64 p, .int .i64 (k : Nat), .iface tl ul, .iface tr ur, .slice av nv cv, .slice ae ne ce, .bool true] 290)
  have hnb := heap_alloc_new w' (.cells #[.int .i64 p, .int .i64 (k : Nat), .iface tl ul, .iface tr ur, .slice av nv cv, .slice ae ne ce, .bool true] 290)
  have hNb : w'.heap.size ≠ b := by have := hP.lt; omega
  have HN : Hid (_ = _) := hnb
  clear hnb
  go_enter Tryz.func127, Tryz.ntmps127
  go_wp2_with fail
  refine (cond_says k hk tl ul tr ur x y hx hy hct _ (hL.below hW hL.size)).mono ?_
  rintro e w1 ⟨rfl, b1⟩
  have hb1 : Below w'.heap.size w' w1 := hW.trans (b1.mono (by simp))
  have hs1 := hb1.size
  have n1 : w1.heap[w'.heap.size]? = some (.cells #[.int .i64 p, .int .i64 (k : Nat), .iface tl ul, .iface tr ur, .slice av nv cv, .slice ae ne ce, .bool true] 290) := below_block b1 (by simp) HN.out
  go_wp2_with fail
  refine (line_after B b d w1.heap.size 3 t [⟨#[105, 102, 32]⟩, ⟨(Sp.condText k x y).toArray⟩, ⟨#[32, 123]⟩] w1 (hP.below hb1) rfl rfl (by simp) (by simp only [List.length_append, List.length_cons, List.length_nil, hj, hpd]; omega) (by omega)).mono ?_
  rintro e w2 ⟨rfl, h2', k2⟩
  have n2 := k2.cell n1 hNb (by decide)
  have K2 : PKeep B b w' w2 := (PKeep.of_below hb1 hBw).trans k2
  have c3 := cell_of n2 4 (v := .slice av nv cv) rfl
  have hs2 := K2.below.size
  clear b1 hb1 n1 k2
  go_wp2_with fail
  refine (inner_says lo hi w (.slice av nv cv) xs hb w2 B b d _ (hso.keep K2 hhB) hhB (by omega) h9 (hL.below K2.below h9) h2' (by simp only [List.length_append, List.length_cons, List.length_nil, hj, hpd]; omega) (by omega)).mono ?_
  rintro e w3 ⟨rfl, h3', k3⟩
  have n3 := k3.cell n2 hNb (by decide)
  have c5 := cell_of n3 6 (v := .bool true) rfl
  have hs3 := k3.below.size
  have K3 : PKeep B b w' w3 := K2.trans k3
  clear h2' k3 n2 c3
  go_wp2_with fail
  refine (line_after B b d w3.heap.size 1 _ [⟨#[125, 32, 101, 108, 115, 101, 32, 123]⟩] w3 h3' rfl rfl (by simp) (by simp only [List.length_append, List.length_cons, List.length_nil, hj, hj2, hpd]; omega) (by omega)).mono ?_
  rintro e w4 ⟨rfl, h4', k4⟩
  have n4 := k4.cell n3 hNb (by decide)
  have c4 := cell_of n4 5 (v := .slice ae ne ce) rfl
  have hs4 := k4.below.size
  have K4 : PKeep B b w' w4 := K3.trans k4
  clear h3' k4 n3 c5
  go_wp2_with fail
  refine (inner_says lo hi w (.slice ae ne ce) ys hbe w4 B b d _ (hso.keep K4 hhB) hhB (by omega) h9 (hL.below K4.below h9) h4' (by simp only [List.length_append, List.length_cons, List.length_nil, hj, hj2, hpd]; omega) (by omega)).mono ?_
  rintro e w5 ⟨rfl, h5', k5⟩
  have hs5 := k5.below.size
  have K5 : PKeep B b w' w5 := K4.trans k5
  clear h4' k5 n4 c4
  go_wp2_with fail
  refine (line_after B b d w5.heap.size 1 _ [⟨#[125]⟩] w5 h5' rfl rfl (by simp) (by simp only [List.length_append, List.length_cons, List.length_nil, hj, hj1, hj2, hpd]; omega) (by omega)).mono ?_
  rintro e w6 ⟨rfl, h6', k6⟩
  have K6 : PKeep B b w' w6 := K5.trans k6
  have HF : Hid (PrAt B b d (t ++ ((Sp.pad d ++ joined [⟨#[105, 102, 32]⟩, ⟨(Sp.condText k x y).toArray⟩, ⟨#[32, 123]⟩] ++ [10]) ++ Sp.lines (d + 1) xs ++ (Sp.pad d ++ joined [⟨#[125, 32, 101, 108, 115, 101, 32, 123]⟩] ++ [10]) ++ Sp.lines (d + 1) ys ++ (Sp.pad d ++ joined [⟨#[125]⟩] ++ [10]))) w6) := by
    unfold Hid
    simp only [List.append_assoc] at h6' ⊢
    exact h6'
  clear h5' h6' k6
  go_wp2_with fail
  go_end0
  exact ⟨rfl, HF.out, K6⟩

/-- the node's copy, then branch -/
theorem if_says (p : Int) (lo hi : Nat) (w : World) (k : Int) (a1 a2 a3 a4 : Value) (he : Bool) (f : Nat → Sp.Bs) (t1 : TypeId) (u1 : Value) (h1 : a1 = .iface t1 u1) (t2 : TypeId) (u2 : Value) (h2 : a2 = .iface t2 u2) (p3 : Option Addr) (n3 c3 : Nat) (h3 : a3 = .slice p3 n3 c3) (p4 : Option Addr) (n4 c4 : Nat) (h4 : a4 = .slice p4 n4 c4)
    (hbr : ∀ (w' : World) (B b d : Nat) (t : Sp.Bs), SameOn lo hi w w' → hi ≤ B → B ≤ w'.heap.size → 11 ≤ B → Laid w' → PrAt B b d t w' → t.length + (f d).length ≤ 2000000 →
      Calls Tryz.prog 127 #[.pointer (some ⟨b, 0, none⟩), .agg #[.int .i64 p, .int .i64 k, a1, a2, a3, a4, .bool he]] w' fun e w'' => e = .returned (.tuple #[]) ∧ PrAt B b d (t ++ f d) w'' ∧ PKeep B b w' w'') :
    StSays lo hi w (.iface 290 (.agg #[.int .i64 p, .int .i64 k, a1, a2, a3, a4, .bool he])) f := by
  intro w' B b d t hso hhB hBw h9 hL hP hlen
  subst h1 h2 h3 h4
  have q1 := ts_4_1 (.agg #[.int .i64 p, .int .i64 k, .iface t1 u1, .iface t2 u2, .slice p3 n3 c3, .slice p4 n4 c4, .bool he])
  have q2 := ts_4_2 (.agg #[.int .i64 p, .int .i64 k, .iface t1 u1, .iface t2 u2, .slice p3 n3 c3, .slice p4 n4 c4, .bool he])
  have q3 := ts_4_3 (.agg #[.int .i64 p, .int .i64 k, .iface t1 u1, .iface t2 u2, .slice p3 n3 c3, .slice p4 n4 c4, .bool he])
  have q4 := ts_4_4 (.agg #[.int .i64 p, .int .i64 k, .iface t1 u1, .iface t2 u2, .slice p3 n3 c3, .slice p4 n4 c4, .bool he])
  have hW := below_alloc w' (.cells #[.int .i64 p, .int .i64 k, .iface t1 u1, .iface t2 u2, .slice p3 n3 c3, .slice p4 n4 c4, .bool he] 290)
  have kW : PKeep B b w' (w'.alloc (.cells #[.int .i64 p, .int .i64 k, .iface t1 u1, .iface t2 u2, .slice p3 n3 c3, .slice p4 n4 c4, .bool he] 290)) := PKeep.of_below hW hBw
  have hc := hbr (w'.alloc (.cells #[.int .i64 p, .int .i64 k, .iface t1 u1, .iface t2 u2, .slice p3 n3 c3, .slice p4 n4 c4, .bool he] 290)) B b d t (hso.keep kW hhB) hhB (by simp; omega) h9 (hL.below hW hL.size) (hP.below hW) hlen
  clear hbr
  go_enter Tryz.func91, Tryz.ntmps91
  go_wp2_with fail
  refine hc.mono ?_
  rintro e w1 ⟨rfl, h1', k1⟩
  go_wp2_with fail
  go_end0
  exact ⟨rfl, h1', kW.trans k1⟩

end Go.Proofs.YtiopfihjmkfdmaaGreatDoor
