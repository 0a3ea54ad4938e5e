/- printer.Text; the one form as an algebra that the reader may make. -/
import Derived.Test.YtjkllmiikdlhhaaGreatDoorPIf
import Derived.Test.YtjkllmiikdlhhaaGreatDoorPAssign
import Derived.Test.YtjkllmiikdlhhaaGreatDoorBString
namespace Go.Proofs.YtjkllmiikdlhhaaGreatDoor
open Go.RowKit
set_option maxRecDepth 100000
set_option maxHeartbeats 1000000

/-- statements and what printer makes of them -/
def StT (lo hi : Nat) (w : World) (v : Value) (f : Nat → Sp.Bs) : Prop := (∃ t u, v = .iface t u) ∧ StSays lo hi w v f ∧ ∀ d, f d ≠ []

theorem blk_says {lo hi : Nat} {w : World} {v : Value} {xs : List (Nat → Sp.Bs)} (h : Blk StT lo hi w v xs) : StsSays lo hi w v xs := by
  obtain ⟨vs, h1, h2, h3⟩ := h
  exact statements_says lo hi w v xs ⟨vs, h1, h2, fun i u x hu hx => (h3 i u x hu hx).2.1⟩

def RtPr : RepT Sp.Pr RpPr where
  T := StT
  mono := by
    intro lo hi lo' hi' w w' v x h hl hh hs
    refine ⟨h.1, ?_, h.2.2⟩
    intro w2 B b d t hso hhB
    exact h.2.1 w2 B b d t (fun k h1 h2 => (hso k (by omega) (by omega)).trans (hs k h1 h2)) (by omega)
  iface h := h.1
  assign lo hi w k v x hk h := by
    obtain ⟨⟨t, u, rfl⟩, hs, _⟩ := h
    exact ⟨⟨_, _, rfl⟩, assign_says lo hi w k hk t u x hs, fun d => by show Sp.pad d ++ Sp.letter k ++ [32, 61, 32] ++ x.2 ++ [59, 10] ≠ []; simp⟩
  read lo hi w k hk := ⟨⟨_, _, rfl⟩, read_says lo hi w k hk, fun d => by show Sp.pad d ++ [114, 101, 97, 100, 32] ++ Sp.letter k ++ [59, 10] ≠ []; simp⟩
  assert lo hi w k v x u y hk h h' := by
    obtain ⟨⟨tl, ul, rfl⟩, hs, _⟩ := h
    obtain ⟨⟨tr, ur, rfl⟩, hs', _⟩ := h'
    exact ⟨⟨_, _, rfl⟩, assert_says lo hi w k hk tl ul tr ur x y hs hs', fun d => by show Sp.pad d ++ [97, 115, 115, 101, 114, 116, 32] ++ Sp.condText k x y ++ [59, 10] ≠ []; simp⟩
  ite lo hi w k v x u y bv xs hk h h' hb := by
    obtain ⟨⟨tl, ul, rfl⟩, hs, _⟩ := h
    obtain ⟨⟨tr, ur, rfl⟩, hs', _⟩ := h'
    obtain ⟨av, nv, cv, rfl⟩ := blk_slice hb
    refine ⟨⟨_, _, rfl⟩, if_says lo hi w (k : Nat) _ _ _ _ false _ tl ul rfl tr ur rfl av nv cv rfl none 0 0 rfl ?_, fun d => ?_⟩
    · intro w' B b d t a1 a2 a3 a4 a5 a6 a7
      exact branch_none lo hi w k hk tl ul tr ur x y hs hs' av nv cv xs (blk_says hb) w' B b d t a1 a2 a3 a4 a5 a6 a7
    · show Sp.pad d ++ [105, 102, 32] ++ Sp.condText k x y ++ [32, 123, 10] ++ Sp.lines (d + 1) xs ++ [] ++ Sp.pad d ++ [125, 10] ≠ []
      simp
  iteElse lo hi w k v x u y bv xs cv' ys hk h h' hb hc := by
    obtain ⟨⟨tl, ul, rfl⟩, hs, _⟩ := h
    obtain ⟨⟨tr, ur, rfl⟩, hs', _⟩ := h'
    obtain ⟨av, nv, cv, rfl⟩ := blk_slice hb
    obtain ⟨ae, ne, ce, rfl⟩ := blk_slice hc
    refine ⟨⟨_, _, rfl⟩, if_says lo hi w (k : Nat) _ _ _ _ true _ tl ul rfl tr ur rfl av nv cv rfl ae ne ce rfl ?_, fun d => ?_⟩
    · intro w' B b d t a1 a2 a3 a4 a5 a6 a7
      exact branch_else lo hi w k hk tl ul tr ur x y hs hs' av nv cv xs (blk_says hb) ae ne ce ys (blk_says hc) w' B b d t a1 a2 a3 a4 a5 a6 a7
    · show Sp.pad d ++ [105, 102, 32] ++ Sp.condText k x y ++ [32, 123, 10] ++ Sp.lines (d + 1) xs ++ _ ++ Sp.pad d ++ [125, 10] ≠ []
      simp
  loop lo hi w k v x u y bv xs hk h h' hb := by
    obtain ⟨⟨tl, ul, rfl⟩, hs, _⟩ := h
    obtain ⟨⟨tr, ur, rfl⟩, hs', _⟩ := h'
    obtain ⟨av, nv, cv, rfl⟩ := blk_slice hb
    exact ⟨⟨_, _, rfl⟩, while_says lo hi w k hk tl ul tr ur x y hs hs' av nv cv xs (blk_says hb), fun d => by show Sp.pad d ++ [119, 104, 105, 108, 101, 32] ++ Sp.condText k x y ++ [32, 123, 10] ++ Sp.lines (d + 1) xs ++ Sp.pad d ++ [125, 10] ≠ []; simp⟩

theorem printer_new (w : World) : PrAt w.heap.size w.heap.size 0 [] (w.alloc (.cells #[.pointer none, .slice none 0 0, .int .i64 0] 75)) :=
  ⟨.pointer none, .slice none 0 0, heap_alloc_new _ _, .inl rfl, World.ownsRow_nil _ _ _ _, by simp [Value.ownBlock], Nat.le_refl _⟩

theorem text_none (a : Option Addr) (c : Nat) (w : World) : Calls Tryz.prog 14 #[.slice a 0 c] w fun e w' => e = .returned (.string ⟨#[]⟩) ∧ Below w.heap.size w w' := by
  have hb0 := below_alloc w (.cells #[.pointer none, .slice none 0 0, .int .i64 0] 75)
  have hbk := heap_alloc_new w (.cells #[.pointer none, .slice none 0 0, .int .i64 0] 75)
  have HK : Hid (_ = _) := hbk
  clear hbk
  have hc : Calls Tryz.prog 24 #[.pointer (some ⟨w.heap.size, 0, none⟩), .slice a 0 c] (w.alloc (.cells #[.pointer none, .slice none 0 0, .int .i64 0] 75)) fun e w' => e = .returned (.tuple #[]) ∧ w' = w.alloc (.cells #[.pointer none, .slice none 0 0, .int .i64 0] 75) := by
    go_enter Tryz.func24, Tryz.ntmps24
    go_wp2_with fail
    refine wp_loop_rounds 1 ?_
    rw [rounds_succ]
    go_wp2_with fail
    go_end0
    exact ⟨rfl, rfl⟩
  go_enter Tryz.func14, Tryz.ntmps14
  go_wp2_with fail
  refine hc.mono ?_
  rintro e w1 ⟨rfl, rfl⟩
  go_wp2_with fail
  refine (string_none w.heap.size _ _ w.heap.size _ HK.out).mono ?_
  rintro e w2 ⟨rfl, b2⟩
  go_wp2_with fail
  go_ret
  exact ⟨rfl, hb0.trans b2⟩

theorem text_some (lo hi : Nat) (w0 w : World) (v : Value) (xs : List (Nat → Sp.Bs)) (h : Blk StT lo hi w0 v xs) (hne : xs ≠ []) (hso : SameOn lo hi w0 w) (hh : hi ≤ w.heap.size) (hL : Laid w) (hlen : (Sp.lines 0 xs).length ≤ 2000000) :
    Calls Tryz.prog 14 #[v] w fun e w' => e = .returned (.string ⟨(Sp.lines 0 xs).toArray⟩) ∧ Below w.heap.size w w' := by
  have h9 := hL.size
  have hb0 := below_alloc w (.cells #[.pointer none, .slice none 0 0, .int .i64 0] 75)
  have hc := blk_says h (w.alloc (.cells #[.pointer none, .slice none 0 0, .int .i64 0] 75)) w.heap.size w.heap.size 0 [] (fun k h1 h2 => by rw [hb0.block k (by omega)]; exact hso k h1 h2) hh (by simp) h9 (hL.below hb0 h9) (printer_new w) (by simpa using hlen)
  have hnel : Sp.lines 0 xs ≠ [] := by
    cases xs with
    | nil => exact absurd rfl hne
    | cons x r =>
      obtain ⟨vs, h1, _, h3⟩ := h
      have hl : vs.length = r.length + 1 := by simpa using h1.1
      obtain ⟨u, hu⟩ : ∃ u, vs[0]? = some u := ⟨_, List.getElem?_eq_getElem (by omega)⟩
      have := (h3 0 u x hu (by simp)).2.2 0
      unfold Sp.lines
      simp [this]
  go_enter Tryz.func14, Tryz.ntmps14
  go_wp2_with fail
  refine hc.mono ?_
  rintro e w1 ⟨rfl, h1, k1⟩
  have h1' : PrAt w.heap.size w.heap.size 0 (Sp.lines 0 xs) w1 := by simpa using h1
  clear h1 hc
  go_wp2_with fail
  refine (string_calls w.heap.size w.heap.size 0 _ w1 h1' hnel).mono ?_
  rintro e w2 ⟨rfl, b2⟩
  go_wp2_with fail
  go_ret
  exact ⟨rfl, (hb0.trans k1.below).trans b2⟩

theorem Text_calls (lo hi : Nat) (w0 w : World) (v : Value) (xs : List (Nat → Sp.Bs)) (h : Blk StT lo hi w0 v xs) (hso : SameOn lo hi w0 w) (hh : hi ≤ w.heap.size) (hL : Laid w) (hlen : (Sp.lines 0 xs).length ≤ 2000000) :
    Calls Tryz.prog 14 #[v] w fun e w' => e = .returned (.string ⟨(Sp.lines 0 xs).toArray⟩) ∧ Below w.heap.size w w' := by
  by_cases hx : xs = []
  · subst hx
    obtain ⟨vs, h1, _⟩ := h
    rcases h1.2 with ⟨rfl, _⟩ | ⟨g, cap, cur, rfl, _⟩
    · exact text_none _ _ w
    · exact text_none _ _ w
  · exact text_some lo hi w0 w v xs h hx hso hh hL hlen

end Go.Proofs.YtjkllmiikdlhhaaGreatDoor
