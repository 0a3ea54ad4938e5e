/- (printer) statements, inner. -/
import Derived.Test.YtjkllmiikdlhhaaGreatDoorPStmt
namespace Go.Proofs.YtjkllmiikdlhhaaGreatDoor
open Go.RowKit
set_option maxRecDepth 100000
set_option maxHeartbeats 2000000

/-- 'printer.statements writes v as these say' -/
def StsSays (lo hi : Nat) (w : World) (v : Value) (xs : List (Nat → Sp.Bs)) : Prop :=
  ∀ (w' : World) (B b d : Nat) (t : Sp.Bs), SameOn lo hi w w' → hi ≤ B → B ≤ w'.heap.size → 9 ≤ B → Laid w' → PrAt B b d t w' → t.length + (Sp.lines d xs).length ≤ 2000000 →
    Calls Tryz.prog 24 #[.pointer (some ⟨b, 0, none⟩), v] w' fun e w'' => e = .returned (.tuple #[]) ∧ PrAt B b d (t ++ Sp.lines d xs) w'' ∧ PKeep B b w' w''

theorem lines_succ (d : Nat) (xs : List (Nat → Sp.Bs)) (j : Nat) (x : Nat → Sp.Bs) (h : xs[j]? = some x) : Sp.lines d (xs.take (j + 1)) = Sp.lines d (xs.take j) ++ x d := by
  unfold Sp.lines
  have hk := List.getElem?_eq_some_iff.1 h
  rw [List.take_succ_eq_append_getElem hk.1, hk.2]
  simp

theorem lines_le (d : Nat) (xs : List (Nat → Sp.Bs)) (j : Nat) : (Sp.lines d (xs.take j)).length ≤ (Sp.lines d xs).length := by
  have h : Sp.lines d xs = Sp.lines d (xs.take j) ++ Sp.lines d (xs.drop j) := by
    unfold Sp.lines
    rw [← List.flatten_append, ← List.map_append, List.take_append_drop]
  rw [h, List.length_append]; omega

theorem SameOn.keep {B b lo hi : Nat} {w w1 w2 : World} (h : SameOn lo hi w w1) (k : PKeep B b w1 w2) (hh : hi ≤ B) : SameOn lo hi w w2 :=
  fun i h1 h2 => by rw [k.below.block i (by omega)]; exact h i h1 h2

theorem statements_none (lo hi : Nat) (w : World) : StsSays lo hi w (.slice none 0 0) [] := by
  intro w' B b d t _ _ hBw h9 hL hP hlen
  go_enter Tryz.func24, Tryz.ntmps24
  go_wp2_with fail
  refine wp_loop_rounds 1 ?_
  rw [rounds_succ]
  go_wp2_with fail
  go_end0
  exact ⟨rfl, by simpa [Sp.lines] using hP, PKeep.refl _ _ _⟩

theorem statements_says (lo hi : Nat) (w : World) (v : Value) (xs : List (Nat → Sp.Bs)) (h : Blk StSays lo hi w v xs) : StsSays lo hi w v xs := by
  obtain ⟨vs, ho, hg, he⟩ := h
  have hvl : vs.length = xs.length := by simpa using ho.1
  rcases ho.2 with ⟨rfl, hz⟩ | ⟨g, cap, cur, rfl, hlg, hh, hnc, hcm, hcs, htake⟩
  · have : xs = [] := List.eq_nil_of_length_eq_zero hz
    subst this
    exact statements_none lo hi w
  · intro w' B b d t hso hhB hBw h9 hL hP hlen
    have hgl := hg g rfl
    have hcell : ∀ (i : Nat) (u : Value), vs[i]? = some u → w'.cell? ⟨g, i, none⟩ = some u := by
      intro i u hu
      have h1 : w'.heap[g]? = some (.cells cur 106) := by rw [hso g hlg hgl]; exact hh
      refine cell_of h1 i ?_
      have h2 : i < vs.length := (List.getElem?_eq_some_iff.1 hu).1
      have h3 : cur.toList[i]? = vs[i]? := by
        rw [← htake, List.getElem?_take, if_pos (by omega)]
      rw [← Array.getElem?_toList, h3]; exact hu
    have hn : (xs.length : Int) ≤ 9223372036854775807 := by unfold maxLen at hcm; omega
    clear htake hcs hcm
    go_enter Tryz.func24, Tryz.ntmps24
    go_wp2_with fail
    go_loopw [5, 8] (fun _ i wr => ∃ j : Nat, j ≤ xs.length ∧ i = .int .i64 j ∧ Hid (PrAt B b d (t ++ Sp.lines d (xs.take j)) wr ∧ PKeep B b w' wr)) (fun _ i _ => xs.length - (intOf i).toNat)
    case atStart => exact ⟨0, Nat.zero_le _, rfl, by simpa [Sp.lines] using hP, PKeep.refl _ _ _⟩
    case round =>
      obtain ⟨j, hj, rfl, hq⟩ := hrel
      have hjl := lines_le d xs j
      by_cases hjlt : j < xs.length
      · obtain ⟨u, hu⟩ : ∃ u, vs[j]? = some u := ⟨_, List.getElem?_eq_getElem (by omega)⟩
        obtain ⟨x, hx⟩ : ∃ x, xs[j]? = some x := ⟨_, List.getElem?_eq_getElem hjlt⟩
        have hls := lines_succ d xs j x hx
        have hjl1 := lines_le d xs (j + 1)
        rw [hls, List.length_append] at hjl1
        have hcu : wr.cell? ⟨g, j, none⟩ = some u := by
          rw [hq.out.2.below.cell (by show g < B; omega)]; exact hcell j u hu
        have hst := he j u x hu hx
        have hc := hst wr B b d (t ++ Sp.lines d (xs.take j)) (hso.keep hq.out.2 hhB) hhB (by have := hq.out.2.below.size; omega) h9 (hL.below hq.out.2.below h9) hq.out.1 (by simp only [List.length_append]; omega)
        clear hst hu hx
        go_wp2_with fail
        refine hc.mono ?_
        rintro e w1 ⟨rfl, h1, b1⟩
        have HR : Hid (PrAt B b d (t ++ Sp.lines d (xs.take (j + 1))) w1 ∧ PKeep B b w' w1) := ⟨by rw [hls, ← List.append_assoc]; exact h1, hq.out.2.trans b1⟩
        clear h1 hls hc b1
        go_wp2_with fail
        exact ⟨⟨j + 1, by omega, by go_num, HR⟩, by simp [intOf]; omega⟩
      · have hlast : Hid (PrAt B b d (t ++ Sp.lines d xs) wr) := by
          unfold Hid
          have := hq.out.1
          rwa [List.take_of_length_le (by omega)] at this
        go_wp2_with fail
        go_end0
        exact ⟨rfl, hlast.out, hq.out.2⟩

/-- one block more is open -/
theorem prAt_depth {B b d : Nat} {t : Sp.Bs} {w : World} (h : PrAt B b d t w) (d' : Nat) (di : Int) (hd : di = d') : PrAt B b d' t (w.setCell ⟨b, 2, none⟩ (.int .i64 di)) ∧ PKeep B b w (w.setCell ⟨b, 2, none⟩ (.int .i64 di)) := by
  subst hd
  obtain ⟨p, v, hbk, hp, ho, hne, hB⟩ := h
  refine ⟨⟨p, v, ?_, hp, ownsRow_setCell_other ho (a := ⟨b, 2, none⟩) hne _, hne, hB⟩, (Below.refl _ _).setCell (p := ⟨b, 2, none⟩) hB _, fun k _ hk _ => Below.heap_setCell _ _ _ _ hk⟩
  rw [heap_setCell_at hbk 2 (.int .i64 d')]
  rfl

theorem PrAt.fz {B b d : Nat} {t : Sp.Bs} {w : World} (h : PrAt B b d t w) : w.frozen? ⟨b, 2, none⟩ = false := by
  obtain ⟨p, v, hb, _⟩ := h
  exact frozen_of hb 2

theorem inner_says (lo hi : Nat) (w : World) (v : Value) (xs : List (Nat → Sp.Bs)) (h : StsSays lo hi w v xs) (w' : World) (B b d : Nat) (t : Sp.Bs) (hso : SameOn lo hi w w') (hhB : hi ≤ B) (hBw : B ≤ w'.heap.size) (h9 : 9 ≤ B) (hL : Laid w') (hP : PrAt B b d t w') (hlen : t.length + (Sp.lines (d + 1) xs).length ≤ 2000000) (hd : d ≤ 2000000) :
    Calls Tryz.prog 61 #[.pointer (some ⟨b, 0, none⟩), v] w' fun e w'' => e = .returned (.tuple #[]) ∧ PrAt B b d (t ++ Sp.lines (d + 1) xs) w'' ∧ PKeep B b w' w'' := by
  have c2 := hP.depth
  have f2 := hP.fz
  obtain ⟨hp1, k1⟩ := prAt_depth hP (d + 1) ((d : Int) + 1) (by omega)
  have hc := h _ B b (d + 1) t (hso.keep k1 hhB) hhB (by simp [World.setCell]; exact hBw) h9 (hL.below k1.below h9) hp1 hlen
  clear hp1
  go_enter Tryz.func61, Tryz.ntmps61
  go_wp2_with fail
  refine hc.mono ?_
  rintro e w1 ⟨rfl, h1, b1⟩
  have c3 : w1.cell? ⟨b, 2, none⟩ = some (.int .i64 ((d : Int) + 1)) := h1.depth
  have f3 := h1.fz
  have hp2 := prAt_depth h1 d (d : Int) rfl
  have HP : Hid (PrAt B b d (t ++ Sp.lines (d + 1) xs) (w1.setCell ⟨b, 2, none⟩ (.int .i64 (d : Int))) ∧ PKeep B b w' (w1.setCell ⟨b, 2, none⟩ (.int .i64 (d : Int)))) := ⟨hp2.1, (k1.trans b1).trans hp2.2⟩
  clear hp2 hc
  go_wp2_with fail
  go_end0
  exact ⟨rfl, HP.out.1, HP.out.2⟩

end Go.Proofs.YtjkllmiikdlhhaaGreatDoor
