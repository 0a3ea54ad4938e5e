/- (printer) statement: assignments, reads, assertions. -/
import Derived.Test.YtiopfihjmkfdmaaGreatDoorGSays
import Derived.Test.YtiopfihjmkfdmaaGreatDoorGBuilder
namespace Go.Proofs.YtiopfihjmkfdmaaGreatDoor
open Go.RowKit
set_option maxRecDepth 100000
set_option maxHeartbeats 2000000

/-- 'printer.statement writes v as f says' -/
def StSays (lo hi : Nat) (w : World) (v : Value) (f : Nat → Sp.Bs) : Prop :=
  ∀ (w' : World) (B b d : Nat) (t : Sp.Bs), SameOn lo hi w w' → hi ≤ B → B ≤ w'.heap.size → 11 ≤ B → Laid w' → PrAt B b d t w' → t.length + (f d).length ≤ 2000000 →
    Calls Tryz.prog 91 #[.pointer (some ⟨b, 0, none⟩), v] w' fun e w'' => e = .returned (.tuple #[]) ∧ PrAt B b d (t ++ f d) w'' ∧ PKeep B b w' w''


theorem PrAt.below {B b d : Nat} {t : Sp.Bs} {w w' : World} (h : PrAt B b d t w) (hb : Below w.heap.size w w') : PrAt B b d t w' := by
  obtain ⟨p, v, hbk, hp, ho, hne, hB⟩ := h
  refine ⟨p, v, by rw [hb.block b (heap_lt hbk)]; exact hbk, hp, ?_, hne, hB⟩
  obtain ⟨h1, h2⟩ := ho
  refine ⟨h1, ?_⟩
  rcases h2 with h2 | ⟨g, cap, cur, rfl, hg, hh, r⟩
  · exact .inl h2
  · exact .inr ⟨g, cap, cur, rfl, hg, by rw [hb.block g (heap_lt hh)]; exact hh, r⟩

theorem below_alloc (w : World) (o : Obj) : Below w.heap.size w (w.alloc o) := (Below.refl _ _).alloc (Nat.le_refl _) o

/-- the parts as they are laid -/
theorem parts_new (w : World) (ps : List ByteArray) : PartsAt w.heap.size ps (w.alloc (.cells (ps.map Value.string).toArray 9)) := by
  refine ⟨_, heap_alloc_new _ _, fun i s hs => ?_⟩
  simp [hs]

/-- a line whose parts have just been laid behind W -/
theorem line_after (B b d a n : Nat) (t : Sp.Bs) (ps : List ByteArray) (W : World) (h : PrAt B b d t W) (ha : a = W.heap.size) (hn : n = ps.length) (h4 : ps.length ≤ 4) (hlen : t.length + (Sp.pad d ++ joined ps ++ [10]).length ≤ 100000000) (hBw : B ≤ W.heap.size) :
    Calls Tryz.prog 123 #[.pointer (some ⟨b, 0, none⟩), .slice (some ⟨a, 0, none⟩) n n] (W.alloc (.cells (ps.map Value.string).toArray 9)) fun e w' => e = .returned (.tuple #[]) ∧ PrAt B b d (t ++ (Sp.pad d ++ joined ps ++ [10])) w' ∧ PKeep B b W w' := by
  subst ha hn
  have hlt := h.lt
  have hp := h.below (below_alloc W (.cells (ps.map Value.string).toArray 9))
  refine (line_calls B b d W.heap.size t ps ps.length _ hp (parts_new W ps) (by omega) h4 hlen (by simp; omega)).mono ?_
  rintro e w' ⟨rfl, h1, k1⟩
  exact ⟨rfl, h1, (PKeep.of_below (below_alloc W _) hBw).trans k1⟩

theorem read_says (p : Int) (lo hi : Nat) (w : World) (k : Nat) (hk : k < 8) : StSays lo hi w (.iface 283 (.agg #[.int .i64 p, .int .i64 (k : Nat)])) (Sp.Pr.read k) := by
  intro w' B b d t _ _ hBw h9 hL hP hlen
  have h1 := ts_2_1 (.agg #[.int .i64 p, .int .i64 (k : Nat)])
  have h2 := ts_2_2 (.agg #[.int .i64 p, .int .i64 (k : Nat)])
  have e : Sp.Pr.read k d = Sp.pad d ++ joined [⟨#[114, 101, 97, 100, 32]⟩, ⟨(Sp.letter k).toArray⟩, ⟨#[59]⟩] ++ [10] := by
    show Sp.pad d ++ [114, 101, 97, 100, 32] ++ Sp.letter k ++ [59, 10] = _
    simp [joined]
  rw [e] at hlen ⊢
  have hc : Calls Tryz.prog 123 #[.pointer (some ⟨b, 0, none⟩), .slice (some ⟨w'.heap.size + 1, 0, none⟩) 3 3] ((w'.alloc (.cells #[.int .i64 p, .int .i64 (k : Nat)] 283)).alloc (.cells #[.string ⟨#[114, 101, 97, 100, 32]⟩, .string ⟨(Sp.letter k).toArray⟩, .string ⟨#[59]⟩] 9)) _ :=
    line_after B b d (w'.heap.size + 1) 3 t [⟨#[114, 101, 97, 100, 32]⟩, ⟨(Sp.letter k).toArray⟩, ⟨#[59]⟩] (w'.alloc (.cells #[.int .i64 p, .int .i64 (k : Nat)] 283)) (hP.below (below_alloc _ _)) (by simp) rfl (by simp) (by omega) (by simp; omega)
  go_enter Tryz.func91, Tryz.ntmps91
  go_wp2_with fail
  refine (text_calls k hk _).mono ?_
  rintro e w1 ⟨rfl, rfl⟩
  go_wp2_with fail
  refine hc.mono ?_
  rintro e w2 ⟨rfl, h2, k2⟩
  go_wp2_with fail
  go_end0
  exact ⟨rfl, h2, (PKeep.of_below (below_alloc _ _) hBw).trans k2⟩

theorem assert_says (p q : Int) (lo hi : Nat) (w : World) (k : Nat) (hk : k < 6) (tl : TypeId) (ul : Value) (tr : TypeId) (ur : Value) (x y : Nat × Sp.Bs) (hx : SumSays (.iface tl ul) x.2) (hy : SumSays (.iface tr ur) y.2) :
    StSays lo hi w (.iface 287 (.agg #[.int .i64 p, .int .i64 q, .int .i64 (k : Nat), .iface tl ul, .iface tr ur])) (Sp.Pr.assert k x y) := by
  intro w' B b d t _ _ hBw h9 hL hP hlen
  have h1 := ts_3_1 (.agg #[.int .i64 p, .int .i64 q, .int .i64 (k : Nat), .iface tl ul, .iface tr ur])
  have h2 := ts_3_2 (.agg #[.int .i64 p, .int .i64 q, .int .i64 (k : Nat), .iface tl ul, .iface tr ur])
  have h3 := ts_3_3 (.agg #[.int .i64 p, .int .i64 q, .int .i64 (k : Nat), .iface tl ul, .iface tr ur])
  have e : Sp.Pr.assert k x y d = Sp.pad d ++ joined [⟨#[97, 115, 115, 101, 114, 116, 32]⟩, ⟨(Sp.condText k x y).toArray⟩, ⟨#[59]⟩] ++ [10] := by
    show Sp.pad d ++ [97, 115, 115, 101, 114, 116, 32] ++ Sp.condText k x y ++ [59, 10] = _
    simp [joined]
  rw [e] at hlen ⊢
  have hct : (Sp.condText k x y).length ≤ 2000000 := by
    have : (joined [⟨#[97, 115, 115, 101, 114, 116, 32]⟩, ⟨(Sp.condText k x y).toArray⟩, ⟨#[59]⟩]).length = 7 + (Sp.condText k x y).length + 1 := by simp [joined]; omega
    simp only [List.length_append] at hlen
    omega
  go_enter Tryz.func91, Tryz.ntmps91
  go_wp2_with fail
  refine (cond_says k hk tl ul tr ur x y hx hy hct _ (hL.below (below_alloc _ _) hL.size)).mono ?_
  rintro e w1 ⟨rfl, b1⟩
  go_wp2_with fail
  have hb1 : Below w'.heap.size w' w1 := (below_alloc _ _).trans (b1.mono (by simp))
  refine (line_after B b d w1.heap.size 3 t [⟨#[97, 115, 115, 101, 114, 116, 32]⟩, ⟨(Sp.condText k x y).toArray⟩, ⟨#[59]⟩] w1 (hP.below hb1) rfl rfl (by simp) (by omega) (by have := hb1.size; omega)).mono ?_
  rintro e w2 ⟨rfl, h2, k2⟩
  have K : PKeep B b w' w2 := (PKeep.of_below hb1 hBw).trans k2
  clear b1 hb1 k2
  go_wp2_with fail
  go_end0
  exact ⟨rfl, h2, K⟩

end Go.Proofs.YtiopfihjmkfdmaaGreatDoor

/- (printer) statement: assignments. -/
namespace Go.Proofs.YtiopfihjmkfdmaaGreatDoor
open Go.RowKit
set_option maxRecDepth 100000
set_option maxHeartbeats 4000000

theorem below_drew' (w : World) (o : Obj) : Below w.heap.size w (w.alloc o).drew := (below_alloc w o).drew

theorem assign_says (p : Int) (lo hi : Nat) (w : World) (k : Nat) (hk : k < 8) (tv : TypeId) (uv : Value) (x : Nat × Sp.Bs) (hx : SumSays (.iface tv uv) x.2) :
    StSays lo hi w (.iface 279 (.agg #[.int .i64 p, .int .i64 (k : Nat), .iface tv uv])) (Sp.Pr.assign k x) := by
  intro w' B b d t _ _ hBw h9 hL hP hlen
  have h1 := ts_1_1 (.agg #[.int .i64 p, .int .i64 (k : Nat), .iface tv uv])
  have e : Sp.Pr.assign k x d = Sp.pad d ++ joined [⟨(Sp.letter k).toArray⟩, ⟨#[32, 61, 32]⟩, ⟨x.2.toArray⟩, ⟨#[59]⟩] ++ [10] := by
    show Sp.pad d ++ Sp.letter k ++ [32, 61, 32] ++ x.2 ++ [59, 10] = _
    simp [joined]
  rw [e] at hlen ⊢
  have hct : x.2.length ≤ 2000000 := by
    have : (joined [⟨(Sp.letter k).toArray⟩, ⟨#[32, 61, 32]⟩, ⟨x.2.toArray⟩, ⟨#[59]⟩]).length = 1 + 3 + x.2.length + 1 := by simp [joined, Sp.letter]; omega
    simp only [List.length_append] at hlen
    omega
  have hL1 : Laid (w'.alloc (.cells #[.int .i64 p, .int .i64 (k : Nat), .iface tv uv] 279)).drew := hL.below (below_drew' _ _) hL.size
  have hP1 : PrAt B b d t (w'.alloc (.cells #[.int .i64 p, .int .i64 (k : Nat), .iface tv uv] 279)).drew := hP.below (below_drew' _ _)
  have HP1 : Hid (PrAt B b d t (w'.alloc (.cells #[.int .i64 p, .int .i64 (k : Nat), .iface tv uv] 279)).drew) := hP1
  clear hP1
  have hsz : B ≤ (w'.alloc (.cells #[.int .i64 p, .int .i64 (k : Nat), .iface tv uv] 279)).drew.heap.size := by show B ≤ (w'.alloc _).heap.size; simp; omega
  go_enter Tryz.func91, Tryz.ntmps91
  go_wp2_with fail
  go_region_with (first | (go_at_call 124; refine (text_calls k hk _).mono ?_; rintro e w1 ⟨rfl, rfl⟩) | (go_at_call 125; refine (hx hct _ hL1).mono ?_; rintro e w1 ⟨rfl, b1⟩) | (go_at_call 123; refine (line_after B b d w1.heap.size 4 t [⟨(Sp.letter k).toArray⟩, ⟨#[32, 61, 32]⟩, ⟨x.2.toArray⟩, ⟨#[59]⟩] w1 (HP1.out.below b1) rfl rfl (by simp) (by omega) (by have := b1.size; omega)).mono ?_; rintro e w2 ⟨rfl, h2, k2⟩))
  all_goals
    have K : PKeep B b w' w2 := ((PKeep.of_below (below_drew' _ _) hBw).trans (PKeep.of_below b1 hsz)).trans k2
    clear b1 k2
    go_wp2_with fail
    go_end0
    exact ⟨rfl, h2, K⟩

end Go.Proofs.YtiopfihjmkfdmaaGreatDoor
