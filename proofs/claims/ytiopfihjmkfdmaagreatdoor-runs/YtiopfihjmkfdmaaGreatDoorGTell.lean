/- api.Tell takes an error apart. -/
import Derived.Test.YtiopfihjmkfdmaaGreatDoorGAs2
import Derived.Deep.RegionHeld3
import Derived.Test.YtiopfihjmkfdmaaGreatDoorGSpec
import Derived.KernelRfl
namespace Go.Proofs.YtiopfihjmkfdmaaGreatDoor
open Go.RowKit
set_option maxRecDepth 100000
set_option maxHeartbeats 1000000

/-- errors.errorType's cell -/
def ErrT (w : World) : Prop := w.cell? ⟨0, 0, none⟩ = some (.iface 238 (.agg #[.pointer (some ⟨11, 23, none⟩)]))

/-- all that the laws want of the variables -/
structure Laid2 (w : World) : Prop where
  laid : Laid w
  et : ErrT w

theorem ErrT.below {w w' : World} (h : ErrT w) {B : Nat} (hb : Below B w w') (hB : 11 ≤ B) : ErrT w' := by
  unfold ErrT
  rw [hb.cell (show 0 < B by omega)]; exact h
theorem Laid2.below {w w' : World} (h : Laid2 w) {B : Nat} (hb : Below B w w') (hB : 11 ≤ B) : Laid2 w' :=
  ⟨h.laid.below hb hB, h.et.below hb hB⟩

theorem as_hitF' (e : Addr) (T : Nat) (w : World) (hg : ErrT w) (hlt : 11 ≤ w.heap.size) (hT : w.heap[T]? = some (.cells #[.pointer none] 90)) :
    Calls Tryz.prog 38 #[.iface 90 (.pointer (some e)), .iface 92 (.pointer (some ⟨T, 0, none⟩))] w fun e' w' => e' = .returned (.bool true) ∧ w'.cell? ⟨T, 0, none⟩ = some (.pointer (some e)) ∧ Below T w w' := by
  have hlt2 := heap_lt hT
  have hc : w.cell? ⟨T, 0, none⟩ = some (.pointer none) := cell_of hT 0 rfl
  refine (as_hitF e ⟨T, 0, none⟩ (.pointer none) w hg hlt hc (by simp [World.frozen?, hT])).mono ?_
  rintro e' w' ⟨rfl, rfl⟩
  refine ⟨rfl, ?_, ?_⟩
  · refine World.cell?_setCell_same _ _ _ (u := .pointer none) ?_
    rw [World.cell?_alloc_lt _ _ ⟨T, 0, none⟩ (by simp; omega), World.cell?_alloc_lt _ _ ⟨T, 0, none⟩ (by simp; omega), World.cell?_alloc_lt _ _ ⟨T, 0, none⟩ (by simp; omega), World.cell?_alloc_lt _ _ ⟨T, 0, none⟩ hlt2]; exact hc
  · exact (((((Below.refl T w).alloc (by omega) _).alloc (by simp; omega) _).alloc (by simp; omega) _).alloc (by simp; omega) _).setCell (Nat.le_refl _) _

theorem as_hitE' (n : Int) (T : Nat) (w : World) (hg : ErrT w) (hlt : 11 ≤ w.heap.size) (hT : w.heap[T]? = some (.cells #[.int .i64 0] 26)) :
    Calls Tryz.prog 38 #[.iface 26 (.int .i64 n), .iface 98 (.pointer (some ⟨T, 0, none⟩))] w fun e' w' => e' = .returned (.bool true) ∧ w'.cell? ⟨T, 0, none⟩ = some (.int .i64 n) ∧ Below T w w' := by
  have hlt2 := heap_lt hT
  have hc : w.cell? ⟨T, 0, none⟩ = some (.int .i64 0) := cell_of hT 0 rfl
  refine (as_hitE n ⟨T, 0, none⟩ (.int .i64 0) w hg hlt hc (by simp [World.frozen?, hT])).mono ?_
  rintro e' w' ⟨rfl, rfl⟩
  refine ⟨rfl, ?_, ?_⟩
  · refine World.cell?_setCell_same _ _ _ (u := .int .i64 0) ?_
    rw [World.cell?_alloc_lt _ _ ⟨T, 0, none⟩ (by simp; omega), World.cell?_alloc_lt _ _ ⟨T, 0, none⟩ (by simp; omega), World.cell?_alloc_lt _ _ ⟨T, 0, none⟩ (by simp; omega), World.cell?_alloc_lt _ _ ⟨T, 0, none⟩ hlt2]; exact hc
  · exact (((((Below.refl T w).alloc (by omega) _).alloc (by simp; omega) _).alloc (by simp; omega) _).alloc (by simp; omega) _).setCell (Nat.le_refl _) _

theorem as_missF' (n : Int) (T : Nat) (w : World) (hg : ErrT w) (hlt : 11 ≤ w.heap.size) (hT : w.heap[T]? = some (.cells #[.pointer none] 90)) :
    Calls Tryz.prog 38 #[.iface 26 (.int .i64 n), .iface 92 (.pointer (some ⟨T, 0, none⟩))] w fun e' w' => e' = .returned (.bool false) ∧ Below w.heap.size w w' := by
  have hc : w.cell? ⟨T, 0, none⟩ = some (.pointer none) := cell_of hT 0 rfl
  refine (as_missF n ⟨T, 0, none⟩ (.pointer none) w hg hlt hc).mono ?_
  rintro e' w' ⟨rfl, rfl⟩
  exact ⟨rfl, (((Below.refl _ _).alloc (by omega) _).alloc (by simp) _).alloc (by simp; omega) _⟩

theorem Tell_nil (w : World) : Calls Tryz.prog 16 #[.nilIface] w fun e w' => e = .returned (.tuple #[.int .i64 0, .int .i64 0]) ∧ Below w.heap.size w w' := by
  go_enter Tryz.func16, Tryz.ntmps16
  go_wp2_with fail
  go_ret2
  exact ⟨rfl, ((Below.refl _ _).alloc (by omega) _).alloc (by simp) _⟩

theorem where_calls (a : Int) (w : World) : Calls Tryz.prog 39 #[.agg #[.int .i64 a]] w fun e w' => e = .returned (.int .i64 a) ∧ Below w.heap.size w w' := by
  go_enter Tryz.func39, Tryz.ntmps39
  go_wp2_with fail
  go_ret
  exact ⟨rfl, (Below.refl _ _).alloc (by omega) _⟩

theorem Tell_errno (n : Int) (w : World) (hg : ErrT w) (hlt : 11 ≤ w.heap.size) : Calls Tryz.prog 16 #[.iface 26 (.int .i64 n)] w fun e w' => e = .returned (.tuple #[.int .i64 n, .int .i64 0]) ∧ Below w.heap.size w w' := by
  have b1 : Below w.heap.size w ((w.alloc (.cells #[.pointer none] 90)).alloc (.cells #[.int .i64 0] 26)) := ((Below.refl _ _).alloc (by omega) _).alloc (by simp) _
  have hF : ((w.alloc (.cells #[.pointer none] 90)).alloc (.cells #[.int .i64 0] 26)).heap[w.heap.size]? = some (.cells #[.pointer none] 90) := by
    rw [Below.heap_alloc _ _ _ (by simp)]; exact heap_alloc_new _ _
  have hN : ((w.alloc (.cells #[.pointer none] 90)).alloc (.cells #[.int .i64 0] 26)).heap[w.heap.size + 1]? = some (.cells #[.int .i64 0] 26) := by
    have := heap_alloc_new (w.alloc (.cells #[.pointer none] 90)) (.cells #[.int .i64 0] 26)
    simpa using this
  have hc1 := as_missF' n w.heap.size _ (hg.below b1 hlt) (by simp; omega) hF
  go_enter Tryz.func16, Tryz.ntmps16
  go_wp2_with fail
  refine hc1.mono ?_
  rintro e w1 ⟨rfl, b2⟩
  have hN1 : w1.heap[w.heap.size + 1]? = some (.cells #[.int .i64 0] 26) := by rw [b2.block _ (by simp)]; exact hN
  have b3 : Below w.heap.size w w1 := b1.trans (b2.mono (by simp; omega))
  have hc2 := as_hitE' n (w.heap.size + 1) w1 (hg.below b3 hlt) (by have := b3.size; omega) hN1
  clear hc1 hF hN hN1
  go_wp2_with fail
  refine hc2.mono ?_
  rintro e w2 ⟨rfl, hcell, b4⟩
  clear hc2
  go_wp2_with fail
  go_ret2
  exact ⟨rfl, b3.trans (b4.mono (by omega))⟩

/-- what stands while a Fault is taken apart -/
def tellS (w0 : World) (F N : Nat) (a n : Int) (w : World) : Prop :=
  w.cell? ⟨F, 0, none⟩ = some (.pointer (some ⟨N, 0, none⟩)) ∧ w.cell? ⟨N, 0, none⟩ = some (.int .i64 a) ∧ w.cell? ⟨N, 1, none⟩ = some (.int .i64 n) ∧ Below w0.heap.size w0 w

theorem cell_lt {w : World} {p : Addr} {v : Value} (h : w.cell? p = some v) : p.block < w.heap.size := by
  rcases Nat.lt_or_ge p.block w.heap.size with k | k
  · exact k
  · simp [World.cell?, Array.getElem?_eq_none k] at h

theorem tellCall {w0 : World} {F N : Nat} {a n : Int} {w w' : World} (hb : Below w.heap.size w w') (h : tellS w0 F N a n w) : tellS w0 F N a n w' := by
  obtain ⟨h1, h2, h3, h4⟩ := h
  refine ⟨?_, ?_, ?_, h4.trans (hb.mono h4.size)⟩
  · rw [hb.cell (cell_lt h1)]; exact h1
  · rw [hb.cell (cell_lt h2)]; exact h2
  · rw [hb.cell (cell_lt h3)]; exact h3
theorem tellBelow {w0 : World} {F N : Nat} {a n : Int} {w : World} (h : tellS w0 F N a n w) : Below w0.heap.size w0 w := h.2.2.2
theorem tellDrew {w0 : World} {F N : Nat} {a n : Int} {w : World} (h : tellS w0 F N a n w) : tellS w0 F N a n w.drew := ⟨h.1, h.2.1, h.2.2.1, h.2.2.2.drew⟩

theorem Tell_fault (N : Nat) (a n : Int) (w : World) (hg : ErrT w) (hlt : 11 ≤ w.heap.size) (hN : w.heap[N]? = some (.cells #[.int .i64 a, .int .i64 n] 96)) : Calls Tryz.prog 16 #[.iface 90 (.pointer (some ⟨N, 0, none⟩))] w fun e w' => e = .returned (.tuple #[.int .i64 n, .int .i64 a]) ∧ Below w.heap.size w w' := by
  have hNl := heap_lt hN
  have b1 : Below w.heap.size w ((w.alloc (.cells #[.pointer none] 90)).alloc (.cells #[.int .i64 0] 26)) := ((Below.refl _ _).alloc (by omega) _).alloc (by simp) _
  have hF : ((w.alloc (.cells #[.pointer none] 90)).alloc (.cells #[.int .i64 0] 26)).heap[w.heap.size]? = some (.cells #[.pointer none] 90) := by
    rw [Below.heap_alloc _ _ _ (by simp)]; exact heap_alloc_new _ _
  have hc1 := as_hitF' ⟨N, 0, none⟩ w.heap.size _ (hg.below b1 hlt) (by simp; omega) hF
  go_enter Tryz.func16, Tryz.ntmps16
  go_wp2_with fail
  refine hc1.mono ?_
  rintro e w1 ⟨rfl, hcell, b2⟩
  have b3 : Below w.heap.size w w1 := b1.trans b2
  have k : tellS w w.heap.size N a n w1 := ⟨hcell, by rw [b3.cell (show N < w.heap.size from hNl)]; exact cell_of hN 0 rfl, by rw [b3.cell (show N < w.heap.size from hNl)]; exact cell_of hN 1 rfl, b3⟩
  have kd := tellDrew k
  clear hc1 hF hN hcell b2 b3 b1 k
  go_wp2_with fail
  go_region_held3 (fun w' : World => w'.cell? ⟨w.heap.size, 0, none⟩ = some (.pointer (some ⟨N, 0, none⟩)) ∧ w'.cell? ⟨N, 0, none⟩ = some (.int .i64 a) ∧ w'.cell? ⟨N, 1, none⟩ = some (.int .i64 n) ∧ Below w.heap.size w w') (first | exact kd | assumption | exact tellCall (by assumption) (by assumption)) (first | (go_at_call 39; refine (where_calls a _).mono ?_; rintro e w1 ⟨rfl, hb1⟩))
  all_goals
    go_wp2_with fail
    go_ret2
    exact ⟨rfl, tellBelow (F := w.heap.size) (N := N) (a := a) (n := n) (by assumption)⟩

/-- what Tell tells of what Print gave -/
theorem Tell_err (v : Value) (er : Nat × Nat) (B : Nat) (w : World) (hg : ErrT w) (hlt : 11 ≤ w.heap.size) (hv : ErrAt w B v er) :
    Calls Tryz.prog 16 #[v] w fun e w' => e = .returned (.tuple #[.int .i64 er.1, .int .i64 er.2]) ∧ Below w.heap.size w w' := by
  rcases hv with ⟨rfl, rfl⟩ | ⟨N, _, rfl, hN⟩
  · exact Tell_errno 1 w hg hlt
  · exact Tell_fault N er.2 er.1 w hg hlt hN

end Go.Proofs.YtiopfihjmkfdmaaGreatDoor

/- An error has a number (plain mathematics). -/
namespace Go.Proofs.YtiopfihjmkfdmaaGreatDoor
namespace Sp

def E3 {α : Type} (r : Except (Nat × Nat) α) : Prop := ∀ e, r = .error e → e.1 ≠ 0
theorem E3.ok {α : Type} (x : α) : E3 (.ok x) := fun _ h => by cases h
theorem E3.err {α β : Type} {r : Except (Nat × Nat) α} {e : Nat × Nat} (h : E3 r) (hr : r = .error e) : E3 (.error e : Except (Nat × Nat) β) := fun _ k => by cases k; exact h _ hr
theorem E3.bad {α : Type} (l : Bs) : E3 (Sp.bad 2 l : Except (Nat × Nat) α) := fun _ h => by cases h; simp
theorem E3.bad3 {α : Type} (l : Bs) : E3 (Sp.bad 3 l : Except (Nat × Nat) α) := fun _ h => by cases h; simp

theorem take_e (t l : Bs) : E3 (take t l) := by
  unfold take; split
  · exact .ok _
  · exact .bad _
theorem enter_e (t : Bs) (o : Nat) (l : Bs) : E3 (enter t o l) := by
  unfold enter; split
  · split
    · exact .bad3 _
    · exact .ok _
  · exact .bad _
theorem pName_e (l : Bs) : E3 (pName l) := by
  unfold pName; split
  · exact .ok _
  · exact .bad _
theorem pChain_e (A : Alg) (lv : Nat) (part : Bs → R A.S) (h : ∀ l, E3 (part l)) : ∀ m x l, E3 (pChain A lv part m x l) := by
  intro m
  induction m with
  | zero => intro x l; exact .ok _
  | succ m ih =>
    intro x l
    unfold pChain
    split
    · split
      · split
        · exact ih _ _
        · exact (h _).err ‹_›
      · exact .ok _
    · exact .ok _
theorem pWith_e (A : Alg) (lv : Nat) (part : Bs → R A.S) (h : ∀ l, E3 (part l)) (l : Bs) : E3 (pWith A lv part l) := by
  unfold pWith; split
  · exact pChain_e A lv part h _ _ _
  · exact (h _).err ‹_›
theorem pSum_e (A : Alg) (u : Bs → R A.S) (h : ∀ l, E3 (u l)) (l : Bs) : E3 (pSum A u l) := pWith_e A 0 _ (fun l => pWith_e A 1 u h l) l
theorem pUnary_e (A : Alg) : ∀ n o l, E3 (pUnary A n o l) := by
  intro n
  induction n with
  | zero => intro o l; exact .bad _
  | succ n ih =>
    intro o l
    unfold pUnary
    split
    · split
      · exact .ok _
      · exact .bad _
    · split
      · split
        · exact .ok _
        · exact (pName_e _).err ‹_›
      · split
        · split
          · split
            · exact .ok _
            · exact (ih _ _).err ‹_›
          · exact (enter_e _ _ _).err ‹_›
        · split
          · split
            · split
              · exact .ok _
              · exact (take_e _ _).err ‹_›
            · exact (pSum_e A _ (ih _) _).err ‹_›
          · exact (enter_e _ _ _).err ‹_›
theorem pS_e (A : Alg) (o : Nat) (l : Bs) : E3 (pS A o l) := pSum_e A _ (pUnary_e A _ _) l
theorem pCond_e (A : Alg) (o : Nat) (l : Bs) : E3 (pCond A o l) := by
  unfold pCond; split
  · split
    · split
      · exact .ok _
      · exact (pS_e _ _ _).err ‹_›
    · exact .bad _
  · exact (pS_e _ _ _).err ‹_›
theorem pMany_e (A : Alg) (st : Bs → R A.T) (h : ∀ l, E3 (st l)) : ∀ m acc l, E3 (pMany A st m acc l) := by
  intro m
  induction m with
  | zero => intro x l; exact .ok _
  | succ m ih =>
    intro x l
    unfold pMany
    split
    · split
      · exact ih _ _
      · exact (h _).err ‹_›
    · exact .ok _
theorem pBlock_e (A : Alg) (st : Bs → R A.T) (h : ∀ l, E3 (st l)) (o : Nat) (l : Bs) : E3 (pBlock A st o l) := by
  unfold pBlock; split
  · split
    · split
      · exact .ok _
      · exact (take_e _ _).err ‹_›
    · exact (pMany_e A st h _ _ _).err ‹_›
  · exact (enter_e _ _ _).err ‹_›
theorem pAssign_e (A : Alg) (o : Nat) (l : Bs) : E3 (pAssign A o l) := by
  unfold pAssign; split
  · split
    · split
      · split
        · exact .ok _
        · exact (take_e _ _).err ‹_›
      · exact (pS_e _ _ _).err ‹_›
    · exact (take_e _ _).err ‹_›
  · exact (pName_e _).err ‹_›
theorem pRead_e (A : Alg) (l : Bs) : E3 (pRead A l) := by
  unfold pRead; split
  · split
    · exact .ok _
    · exact (take_e _ _).err ‹_›
  · exact (pName_e _).err ‹_›
theorem pAssert_e (A : Alg) (o : Nat) (l : Bs) : E3 (pAssert A o l) := by
  unfold pAssert; split
  · split
    · exact .ok _
    · exact (take_e _ _).err ‹_›
  · exact (pCond_e _ _ _).err ‹_›
theorem pIf_e (A : Alg) (blk : Bs → R (List A.T)) (h : ∀ l, E3 (blk l)) (o : Nat) (l : Bs) : E3 (pIf A blk o l) := by
  unfold pIf; split
  · split
    · split
      · split
        · exact .ok _
        · exact (h _).err ‹_›
      · exact .ok _
    · exact (h _).err ‹_›
  · exact (pCond_e _ _ _).err ‹_›
theorem pWhile_e (A : Alg) (blk : Bs → R (List A.T)) (h : ∀ l, E3 (blk l)) (o : Nat) (l : Bs) : E3 (pWhile A blk o l) := by
  unfold pWhile; split
  · split
    · exact .ok _
    · exact (h _).err ‹_›
  · exact (pCond_e _ _ _).err ‹_›
theorem pStmt_e (A : Alg) : ∀ n o l, E3 (pStmt A n o l) := by
  intro n
  induction n with
  | zero => intro o l; exact .bad _
  | succ n ih =>
    intro o l
    unfold pStmt
    split
    · exact pRead_e A l
    · split
      · exact pAssert_e A o l
      · split
        · exact pIf_e A _ (fun l => pBlock_e A _ (ih _) o l) o l
        · split
          · exact pWhile_e A _ (fun l => pBlock_e A _ (ih _) o l) o l
          · exact pAssign_e A o l
theorem parse_e (A : Alg) (src : Bs) : E3 (parse A src) := by
  unfold parse
  split
  · intro e h; cases h; simp
  · have hp : E3 (pProg A (skip src)) := by
      unfold pProg; split
      · split
        · exact .ok _
        · exact .bad _
      · exact (pMany_e A _ (pStmt_e A _ _) _ _ _).err ‹_›
    split
    · exact .ok _
    · next e left hq => intro e h; cases h; exact fun k => hp _ hq k
theorem print_e (src : Bs) : E3 (print src) := by
  unfold print; split
  · exact .ok _
  · exact (parse_e Pr src).err ‹_›

/-- the closed program of the laws -/
theorem print_closed : print [97, 61, 40, 49, 41, 59, 119, 104, 105, 108, 101, 32, 97, 60, 57, 123, 97, 61, 97, 43, 50, 59, 125] = .ok [97, 32, 61, 32, 49, 59, 10, 119, 104, 105, 108, 101, 32, 97, 32, 60, 32, 57, 32, 123, 10, 32, 32, 97, 32, 61, 32, 97, 32, 43, 32, 50, 59, 10, 125, 10] := by kernel_rfl

end Sp
end Go.Proofs.YtiopfihjmkfdmaaGreatDoor

/- The laws' own small functions, and Again. -/
namespace Go.Proofs.YtiopfihjmkfdmaaGreatDoor
open Go.RowKit
set_option maxRecDepth 100000
set_option maxHeartbeats 1000000

theorem num_calls (n : Int) (w : World) : Calls Tryz.prog 18 #[.int .i64 n] w fun e w' => e = .returned (.int .i64 n) ∧ w' = w := by
  go_enter Tryz.func18, Tryz.ntmps18
  go_wp2_with fail
  go_ret
  exact ⟨rfl, rfl⟩

theorem Laid2.after {w w' : World} (h : Laid2 w) (hb : Below w.heap.size w w') : Laid2 w' := h.below hb h.laid.size

theorem prints_calls (w : World) (hL : Laid2 w) : Calls Tryz.prog 19 #[] w fun e w' => e = .returned (.bool true) ∧ Below w.heap.size w w' := by
  have hc := Print_calls ⟨#[97, 61, 40, 49, 41, 59, 119, 104, 105, 108, 101, 32, 97, 60, 57, 123, 97, 61, 97, 43, 50, 59, 125]⟩ w (by decide) hL.laid
  rw [show (⟨#[97, 61, 40, 49, 41, 59, 119, 104, 105, 108, 101, 32, 97, 60, 57, 123, 97, 61, 97, 43, 50, 59, 125]⟩ : ByteArray).data.toList = [97, 61, 40, 49, 41, 59, 119, 104, 105, 108, 101, 32, 97, 60, 57, 123, 97, 61, 97, 43, 50, 59, 125] from rfl, Sp.print_closed] at hc
  go_enter Tryz.func19, Tryz.ntmps19
  go_wp2_with fail
  refine hc.mono ?_
  rintro e w1 ⟨rfl, b1⟩
  clear hc
  go_wp2_with fail
  refine (Tell_nil w1).mono ?_
  rintro e w2 ⟨rfl, b2⟩
  go_wp2_with (go_at_call 18; refine (num_calls _ _).mono ?_; rintro e w3 ⟨rfl, rfl⟩)
  go_ret
  exact ⟨rfl, b1.trans (b2.mono b1.size)⟩

theorem Again_calls (s : ByteArray) (w : World) (hL : Laid2 w) (hre : ∀ t, Sp.print s.data.toList = .ok t → t.length ≤ 400 → Sp.print t = .ok t) :
    Calls Tryz.prog 4 #[.string s] w fun e w' => e = .returned (.bool true) ∧ Below w.heap.size w w' := by
  have hp := prints_calls w hL
  by_cases hs : 1048576 < s.size
  · go_enter Tryz.func4, Tryz.ntmps4
    go_wp2_with fail
    refine hp.mono ?_
    rintro e w1 ⟨rfl, b1⟩
    go_wp2_with fail
    go_ret
    exact ⟨rfl, b1⟩
  · have hs' : s.size ≤ 1048576 := by omega
    go_enter Tryz.func4, Tryz.ntmps4
    go_wp2_with fail
    refine hp.mono ?_
    rintro e w1 ⟨rfl, b1⟩
    have hL1 := hL.after b1
    have hc := Print_calls s w1 hs' hL1.laid
    clear hp
    cases hr : Sp.print s.data.toList with
    | error er =>
      rw [hr] at hc
      have he : Hid (¬ (er.1 : Int) = 0) := by unfold Hid; have := Sp.print_e _ er hr; omega
      go_wp2_with fail
      refine hc.mono ?_
      rintro e w2 ⟨v, rfl, hv, b2⟩
      have hL2 := hL1.after b2
      have ht := Tell_err v er _ w2 hL2.et hL2.laid.size hv
      obtain ⟨tv, uv, rfl⟩ := err_iface hv
      clear hc hv
      go_wp2_with fail
      refine ht.mono ?_
      rintro e w3 ⟨rfl, b3⟩
      clear ht
      have he' := he.out
      go_wp2_with (go_at_call 18; refine (num_calls _ _).mono ?_; rintro e w4 ⟨rfl, rfl⟩)
      go_ret
      exact ⟨rfl, b1.trans ((b2.trans (b3.mono b2.size)).mono b1.size)⟩
    | ok t =>
      rw [hr] at hc
      obtain ⟨T, hT⟩ : ∃ T : ByteArray, Hid (T = ⟨t.toArray⟩) := ⟨_, rfl⟩
      have hTs : T.size = t.length := by rw [hT.out]; exact size_of _
      go_wp2_with fail
      refine hc.mono ?_
      rintro e w2 ⟨rfl, b2⟩
      have hL2 := hL1.after b2
      clear hc
      rw [← hT.out]
      go_wp2_with fail
      refine (Tell_nil w2).mono ?_
      rintro e w3 ⟨rfl, b3⟩
      have hL3 := hL2.after b3
      by_cases h4 : 400 < T.size
      · go_wp2_with (go_at_call 18; refine (num_calls _ _).mono ?_; rintro e w4 ⟨rfl, rfl⟩)
        go_ret
        exact ⟨rfl, b1.trans ((b2.trans (b3.mono b2.size)).mono b1.size)⟩
      · have hc2 := Print_calls T w3 (by omega) hL3.laid
        rw [show T.data.toList = t by rw [hT.out], hre t hr (by omega)] at hc2
        go_wp2_with (go_at_call 18; refine (num_calls _ _).mono ?_; rintro e w4 ⟨rfl, rfl⟩)
        refine hc2.mono ?_
        rintro e w4 ⟨rfl, b4⟩
        clear hc2
        rw [← hT.out]
        go_wp2_with fail
        refine (Tell_nil w4).mono ?_
        rintro e w5 ⟨rfl, b5⟩
        go_wp2_with (go_at_call 18; refine (num_calls _ _).mono ?_; rintro e w6 ⟨rfl, rfl⟩)
        go_ret
        exact ⟨rfl, b1.trans ((b2.trans ((b3.trans ((b4.trans (b5.mono b4.size)).mono b3.size)).mono b2.size)).mono b1.size)⟩

end Go.Proofs.YtiopfihjmkfdmaaGreatDoor
