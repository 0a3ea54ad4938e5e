import Derived.Test.YtiopfihjmkfdmaaGreatDoorU2
import Derived.Test.YtiopfihjmkfdmaaGreatDoorU10
import Derived.Test.YtiopfihjmkfdmaaGreatDoorU16
namespace Go.Proofs.YtiopfihjmkfdmaaGreatDoor
open Go.RowKit
set_option maxRecDepth 100000
set_option maxHeartbeats 1000000
def ErrT (w : World) : Prop := w.cell? ⟨0, 0, none⟩ = some (.iface 238 (.agg #[.pointer (some ⟨11, 23, none⟩)]))
structure Laid2 (w : World) : Prop where
 laid : Laid w
 et : ErrT w
theorem ErrT.below {w w' : World} (h : ErrT w) {B : Nat} (hb : Below B w w') (hB : 11 ≤ B) : ErrT w' := by
 unfold ErrT
 rw [hb.cell (show 0 < B by omega)]; exact h
theorem Laid2.below {w w' : World} (h : Laid2 w) {B : Nat} (hb : Below B w w') (hB : 11 ≤ B) : Laid2 w' :=
 ⟨h.laid.below hb hB, h.et.below hb hB⟩
theorem as_hitF' (e : Addr) (T : Nat) (w : World) (hg : ErrT w) (hlt : 11 ≤ w.heap.size) (hT : w.heap[T]? = some (.cells #[.pointer none] 90)) :
  Calls Tryz.prog 38 #[.iface 90 (.pointer (some e)), .iface 92 (.pointer (some ⟨T, 0, none⟩))] w fun e' w' => e' = .returned (.bool true) ∧ w'.cell? ⟨T, 0, none⟩ = some (.pointer (some e)) ∧ Below T w w' := by
 have hlt2 := heap_lt hT
 have hc : w.cell? ⟨T, 0, none⟩ = some (.pointer none) := cell_of hT 0 rfl
 refine (as_hitF e ⟨T, 0, none⟩ (.pointer none) w hg hlt hc (by simp [World.frozen?, hT])).mono ?_
 rintro e' w' ⟨rfl, rfl⟩
 refine ⟨rfl, ?_, ?_⟩
 ·refine World.cell?_setCell_same _ _ _ (u := .pointer none) ?_
  rw [World.cell?_alloc_lt _ _ ⟨T, 0, none⟩ (by simp; omega), World.cell?_alloc_lt _ _ ⟨T, 0, none⟩ (by simp; omega), World.cell?_alloc_lt _ _ ⟨T, 0, none⟩ (by simp; omega), World.cell?_alloc_lt _ _ ⟨T, 0, none⟩ hlt2]; exact hc
 ·exact (((((Below.refl T w).alloc (by omega) _).alloc (by simp; omega) _).alloc (by simp; omega) _).alloc (by simp; omega) _).setCell (Nat.le_refl _) _
theorem as_hitE' (n : Int) (T : Nat) (w : World) (hg : ErrT w) (hlt : 11 ≤ w.heap.size) (hT : w.heap[T]? = some (.cells #[.int .i64 0] 26)) :
  Calls Tryz.prog 38 #[.iface 26 (.int .i64 n), .iface 98 (.pointer (some ⟨T, 0, none⟩))] w fun e' w' => e' = .returned (.bool true) ∧ w'.cell? ⟨T, 0, none⟩ = some (.int .i64 n) ∧ Below T w w' := by
 have hlt2 := heap_lt hT
 have hc : w.cell? ⟨T, 0, none⟩ = some (.int .i64 0) := cell_of hT 0 rfl
 refine (as_hitE n ⟨T, 0, none⟩ (.int .i64 0) w hg hlt hc (by simp [World.frozen?, hT])).mono ?_
 rintro e' w' ⟨rfl, rfl⟩
 refine ⟨rfl, ?_, ?_⟩
 ·refine World.cell?_setCell_same _ _ _ (u := .int .i64 0) ?_
  rw [World.cell?_alloc_lt _ _ ⟨T, 0, none⟩ (by simp; omega), World.cell?_alloc_lt _ _ ⟨T, 0, none⟩ (by simp; omega), World.cell?_alloc_lt _ _ ⟨T, 0, none⟩ (by simp; omega), World.cell?_alloc_lt _ _ ⟨T, 0, none⟩ hlt2]; exact hc
 ·exact (((((Below.refl T w).alloc (by omega) _).alloc (by simp; omega) _).alloc (by simp; omega) _).alloc (by simp; omega) _).setCell (Nat.le_refl _) _
theorem as_missF' (n : Int) (T : Nat) (w : World) (hg : ErrT w) (hlt : 11 ≤ w.heap.size) (hT : w.heap[T]? = some (.cells #[.pointer none] 90)) :
  Calls Tryz.prog 38 #[.iface 26 (.int .i64 n), .iface 92 (.pointer (some ⟨T, 0, none⟩))] w fun e' w' => e' = .returned (.bool false) ∧ Below w.heap.size w w' := by
 have hc : w.cell? ⟨T, 0, none⟩ = some (.pointer none) := cell_of hT 0 rfl
 refine (as_missF n ⟨T, 0, none⟩ (.pointer none) w hg hlt hc).mono ?_
 rintro e' w' ⟨rfl, rfl⟩
 exact ⟨rfl, (((Below.refl _ _).alloc (by omega) _).alloc (by simp) _).alloc (by simp; omega) _⟩
theorem Tell_nil (w : World) : Calls Tryz.prog 16 #[.nilIface] w fun e w' => e = .returned (.tuple #[.int .i64 0, .int .i64 0]) ∧ Below w.heap.size w w' := by
 go_enter Tryz.func16, Tryz.ntmps16
 go_wp2_with fail
 go_ret2
 exact ⟨rfl, ((Below.refl _ _).alloc (by omega) _).alloc (by simp) _⟩
theorem where_calls (a : Int) (w : World) : Calls Tryz.prog 39 #[.agg #[.int .i64 a]] w fun e w' => e = .returned (.int .i64 a) ∧ Below w.heap.size w w' := by
 go_enter Tryz.func39, Tryz.ntmps39
 go_wp2_with fail
 go_ret
 exact ⟨rfl, (Below.refl _ _).alloc (by omega) _⟩
theorem Tell_errno (n : Int) (w : World) (hg : ErrT w) (hlt : 11 ≤ w.heap.size) : Calls Tryz.prog 16 #[.iface 26 (.int .i64 n)] w fun e w' => e = .returned (.tuple #[.int .i64 n, .int .i64 0]) ∧ Below w.heap.size w w' := by
 have b1 : Below w.heap.size w ((w.alloc (.cells #[.pointer none] 90)).alloc (.cells #[.int .i64 0] 26)) := ((Below.refl _ _).alloc (by omega) _).alloc (by simp) _
 have hF : ((w.alloc (.cells #[.pointer none] 90)).alloc (.cells #[.int .i64 0] 26)).heap[w.heap.size]? = some (.cells #[.pointer none] 90) := by
  rw [Below.heap_alloc _ _ _ (by simp)]; exact heap_alloc_new _ _
 have hN : ((w.alloc (.cells #[.pointer none] 90)).alloc (.cells #[.int .i64 0] 26)).heap[w.heap.size + 1]? = some (.cells #[.int .i64 0] 26) := by
  have := heap_alloc_new (w.alloc (.cells #[.pointer none] 90)) (.cells #[.int .i64 0] 26)
  simpa using this
 have hc1 := as_missF' n w.heap.size _ (hg.below b1 hlt) (by simp; omega) hF
 go_enter Tryz.func16, Tryz.ntmps16
 go_wp2_with fail
 refine hc1.mono ?_
 rintro e w1 ⟨rfl, b2⟩
 have hN1 : w1.heap[w.heap.size + 1]? = some (.cells #[.int .i64 0] 26) := by rw [b2.block _ (by simp)]; exact hN
 have b3 : Below w.heap.size w w1 := b1.trans (b2.mono (by simp; omega))
 have hc2 := as_hitE' n (w.heap.size + 1) w1 (hg.below b3 hlt) (by have := b3.size; omega) hN1
 clear hc1 hF hN hN1
 go_wp2_with fail
 refine hc2.mono ?_
 rintro e w2 ⟨rfl, hcell, b4⟩
 clear hc2
 go_wp2_with fail
 go_ret2
 exact ⟨rfl, b3.trans (b4.mono (by omega))⟩
def tellS (w0 : World) (F N : Nat) (a n : Int) (w : World) : Prop :=
 w.cell? ⟨F, 0, none⟩ = some (.pointer (some ⟨N, 0, none⟩)) ∧ w.cell? ⟨N, 0, none⟩ = some (.int .i64 a) ∧ w.cell? ⟨N, 1, none⟩ = some (.int .i64 n) ∧ Below w0.heap.size w0 w
theorem cell_lt {w : World} {p : Addr} {v : Value} (h : w.cell? p = some v) : p.block < w.heap.size := by
 rcases Nat.lt_or_ge p.block w.heap.size with k | k
 ·exact k
 ·simp [World.cell?, Array.getElem?_eq_none k] at h
theorem tellCall {w0 : World} {F N : Nat} {a n : Int} {w w' : World} (hb : Below w.heap.size w w') (h : tellS w0 F N a n w) : tellS w0 F N a n w' := by
 obtain ⟨h1, h2, h3, h4⟩ := h
 refine ⟨?_, ?_, ?_, h4.trans (hb.mono h4.size)⟩
 ·rw [hb.cell (cell_lt h1)]; exact h1
 ·rw [hb.cell (cell_lt h2)]; exact h2
 ·rw [hb.cell (cell_lt h3)]; exact h3
theorem tellBelow {w0 : World} {F N : Nat} {a n : Int} {w : World} (h : tellS w0 F N a n w) : Below w0.heap.size w0 w := h.2.2.2
theorem tellDrew {w0 : World} {F N : Nat} {a n : Int} {w : World} (h : tellS w0 F N a n w) : tellS w0 F N a n w.drew := ⟨h.1, h.2.1, h.2.2.1, h.2.2.2.drew⟩
theorem Tell_fault (N : Nat) (a n : Int) (w : World) (hg : ErrT w) (hlt : 11 ≤ w.heap.size) (hN : w.heap[N]? = some (.cells #[.int .i64 a, .int .i64 n] 96)) : Calls Tryz.prog 16 #[.iface 90 (.pointer (some ⟨N, 0, none⟩))] w fun e w' => e = .returned (.tuple #[.int .i64 n, .int .i64 a]) ∧ Below w.heap.size w w' := by
 have hNl := heap_lt hN
 have b1 : Below w.heap.size w ((w.alloc (.cells #[.pointer none] 90)).alloc (.cells #[.int .i64 0] 26)) := ((Below.refl _ _).alloc (by omega) _).alloc (by simp) _
 have hF : ((w.alloc (.cells #[.pointer none] 90)).alloc (.cells #[.int .i64 0] 26)).heap[w.heap.size]? = some (.cells #[.pointer none] 90) := by
  rw [Below.heap_alloc _ _ _ (by simp)]; exact heap_alloc_new _ _
 have hc1 := as_hitF' ⟨N, 0, none⟩ w.heap.size _ (hg.below b1 hlt) (by simp; omega) hF
 go_enter Tryz.func16, Tryz.ntmps16
 go_wp2_with fail
 refine hc1.mono ?_
 rintro e w1 ⟨rfl, hcell, b2⟩
 have b3 : Below w.heap.size w w1 := b1.trans b2
 have k : tellS w w.heap.size N a n w1 := ⟨hcell, by rw [b3.cell (show N < w.heap.size from hNl)]; exact cell_of hN 0 rfl, by rw [b3.cell (show N < w.heap.size from hNl)]; exact cell_of hN 1 rfl, b3⟩
 have kd := tellDrew k
 clear hc1 hF hN hcell b2 b3 b1 k
 go_wp2_with fail
 go_region_held3 (fun w' : World => w'.cell? ⟨w.heap.size, 0, none⟩ = some (.pointer (some ⟨N, 0, none⟩)) ∧ w'.cell? ⟨N, 0, none⟩ = some (.int .i64 a) ∧ w'.cell? ⟨N, 1, none⟩ = some (.int .i64 n) ∧ Below w.heap.size w w') (first | exact kd | assumption | exact tellCall (by assumption) (by assumption)) (first | (go_at_call 39; refine (where_calls a _).mono ?_; rintro e w1 ⟨rfl, hb1⟩))
 all_goals
  go_wp2_with fail
  go_ret2
  exact ⟨rfl, tellBelow (F := w.heap.size) (N := N) (a := a) (n := n) (by assumption)⟩
theorem Tell_err (v : Value) (er : Nat × Nat) (B : Nat) (w : World) (hg : ErrT w) (hlt : 11 ≤ w.heap.size) (hv : ErrAt w B v er) :
  Calls Tryz.prog 16 #[v] w fun e w' => e = .returned (.tuple #[.int .i64 er.1, .int .i64 er.2]) ∧ Below w.heap.size w w' := by
 rcases hv with ⟨rfl, rfl⟩ | ⟨N, _, rfl, hN⟩
 ·exact Tell_errno 1 w hg hlt
 ·exact Tell_fault N er.2 er.1 w hg hlt hN
end Go.Proofs.YtiopfihjmkfdmaaGreatDoor
namespace Go.Proofs.YtiopfihjmkfdmaaGreatDoor
open Go.ChangeShapes Go.WideShapes Go.ChangeAt Go.RowKit
set_option maxRecDepth 100000
theorem gOpp : Tryz.prog.globalNamed "invariants/tree.opposites" = some 4 := by kernel_rfl
theorem gMir : Tryz.prog.globalNamed "invariants/tree.mirrors" = some 3 := by kernel_rfl
theorem tOpp : (Tryz.prog.globals[4]?).map (·.type) = some 403 := by kernel_rfl
theorem tMir : (Tryz.prog.globals[3]?).map (·.type) = some 403 := by kernel_rfl
theorem laid3_of {W : World} (h : laidMetH Tryz.prog Rows.straightRow.laid W) : Laid2 W ∧ Turns W := by
 have h' : laidMet Tryz.prog [("invariants/tree.opSigns", Rows.laid_invariants_tree_opSigns), ("invariants/tree.relationSigns", Rows.laid_invariants_tree_relationSigns), ("invariants/tree.opposites", Rows.laid_invariants_tree_opposites), ("invariants/tree.mirrors", Rows.laid_invariants_tree_mirrors), ("math/bits.deBruijn32tab", Rows.laid_math_bits_deBruijn32tab), ("math/bits.deBruijn64tab", Rows.laid_math_bits_deBruijn64tab), ("internal/strconv.uint64pow10", Rows.laid_internal_strconv_uint64pow10), ("strconv.ErrRange", Rows.laid_strconv_ErrRange), ("strconv.ErrSyntax", Rows.laid_strconv_ErrSyntax)] W ∧ handlesMet Tryz.prog [("errors.errorType", Rows.laid_errors_errorType)] W := h
 obtain ⟨⟨ps, ⟨g0, t0, c0, f0, p0, q0, hg0, ht0, hv0, hd0, ⟨g1, t1, c1, f1, p1, q1, hg1, ht1, hv1, hd1, ⟨g2, t2, c2, f2, p2, q2, hg2, ht2, hv2, hd2, ⟨g3, t3, c3, f3, p3, q3, hg3, ht3, hv3, hd3, ⟨g4, t4, c4, f4, p4, q4, hg4, ht4, hv4, hd4, ⟨g5, t5, c5, f5, p5, q5, hg5, ht5, hv5, hd5, ⟨g6, t6, c6, f6, p6, q6, hg6, ht6, hv6, hd6, ⟨g7, t7, c7, f7, p7, q7, hg7, ht7, hv7, hd7, ⟨g8, t8, c8, f8, p8, q8, hg8, ht8, hv8, hd8, _, _⟩, _⟩, _⟩, _⟩, _⟩, _⟩, _⟩, _⟩, _⟩, _, _⟩, hh⟩ := h'
 obtain rfl := Option.some.inj (gOps.symm.trans hg0)
 obtain rfl := Option.some.inj (tOps.symm.trans ht0)
 obtain rfl := Option.some.inj (gRels.symm.trans hg1)
 obtain rfl := Option.some.inj (tRels.symm.trans ht1)
 obtain rfl := Option.some.inj (gOpp.symm.trans hg2)
 obtain rfl := Option.some.inj (tOpp.symm.trans ht2)
 obtain rfl := Option.some.inj (gMir.symm.trans hg3)
 obtain rfl := Option.some.inj (tMir.symm.trans ht3)
 obtain rfl := Option.some.inj (gPow.symm.trans hg6)
 obtain rfl := Option.some.inj (tPow.symm.trans ht6)
 obtain rfl := Option.some.inj (gErrR.symm.trans hg7)
 obtain rfl := Option.some.inj (tErrR.symm.trans ht7)
 obtain rfl := Option.some.inj (gErrS.symm.trans hg8)
 obtain rfl := Option.some.inj (tErrS.symm.trans ht8)
 have kR : ∃ tp p, W.cell? ⟨10, 0, none⟩ = some (.iface tp p) := by
  obtain ⟨_, u, v, hc, _, _⟩ := iface_of_trod Tryz.underlying23 hd7
  exact ⟨u, v, by rw [World.var?_cell hg7 hv7 0, Array.eq_one_of_toList hc]; rfl⟩
 have kS : ∃ tp p, W.cell? ⟨9, 0, none⟩ = some (.iface tp p) := by
  obtain ⟨_, u, v, hc, _, _⟩ := iface_of_trod Tryz.underlying23 hd8
  exact ⟨u, v, by rw [World.var?_cell hg8 hv8 0, Array.eq_one_of_toList hc]; rfl⟩
 have hcO := Lib.cells_of_tab (zs := [4, 5, 3, 2, 0, 1]) Tryz.underlying403 Tryz.underlying230 (by kernel_rfl) (by kernel_rfl) hd2
 have hcM := Lib.cells_of_tab (zs := [5, 4, 2, 3, 1, 0]) Tryz.underlying403 Tryz.underlying230 (by kernel_rfl) (by kernel_rfl) hd3
 refine ⟨⟨⟨?_, ?_, ?_, kS, kR, ?_⟩, ?_⟩, ⟨?_, ?_⟩⟩
 ·obtain ⟨_, _, hc⟩ := kR
  obtain ⟨_, _, hc'⟩ := kS
  have := cell_lt hc
  have := cell_lt hc'
  simp at *
  omega
 ·intro k hk
  have := strs_of_trod (ss := [[43], [45], [42], [47], [37]]) Tryz.underlying272 Tryz.underlying9 (by kernel_rfl) hd0 k (Sp.opSign k) (by
   match k, hk with
   | 0, _ => rfl
   | 1, _ => rfl
   | 2, _ => rfl
   | 3, _ => rfl
   | 4, _ => rfl)
  rw [World.var?_cell hg0 hv0 k, ← this]; simp
 ·intro k hk
  have := strs_of_trod (ss := [[60], [60, 61], [61, 61], [33, 61], [62, 61], [62]]) Tryz.underlying273 Tryz.underlying9 (by kernel_rfl) hd1 k (Sp.relSign k) (by
   match k, hk with
   | 0, _ => rfl
   | 1, _ => rfl
   | 2, _ => rfl
   | 3, _ => rfl
   | 4, _ => rfl
   | 5, _ => rfl)
  rw [World.var?_cell hg1 hv1 k, ← this]; simp
 ·unfold Lib.TabIs
  rw [hv6, ← Lib.cells_of_tab (zs := Lib.pow10Tab) Tryz.underlying423 Tryz.underlying416 (by kernel_rfl) (by kernel_rfl) hd6]
 ·obtain ⟨name, u, ty, e1, e2, e3, e4, e5⟩ := hh _ (List.mem_singleton.2 rfl)
  have en : name = [101, 114, 114, 111, 114] := (Option.some.inj e1).symm
  subst en
  obtain rfl := Option.some.inj (rtOf.symm.trans e2)
  have hm : ty ∈ (List.range 487).filter fun t => Tryz.prog.rowNamed t [101, 114, 114, 111, 114] := List.mem_filter.2 ⟨List.mem_range.2 (by rw [← tSize]; exact e3), e4⟩
  rw [oneRow] at hm
  obtain rfl := List.mem_singleton.1 hm
  have hh : typeHandle Tryz.prog 23 = .pointer (some ⟨11, 23, none⟩) := by kernel_rfl
  rw [hh] at e5
  show W.cell? _ = _
  simpa using World.var?_cell gET e5 0
 ·intro k hk
  rw [World.var?_cell hg3 hv3 k, ← Array.getElem?_toList, hcM]
  match k, hk with
  | 0, _ => rfl
  | 1, _ => rfl
  | 2, _ => rfl
  | 3, _ => rfl
  | 4, _ => rfl
  | 5, _ => rfl
 ·intro k hk
  rw [World.var?_cell hg2 hv2 k, ← Array.getElem?_toList, hcO]
  match k, hk with
  | 0, _ => rfl
  | 1, _ => rfl
  | 2, _ => rfl
  | 3, _ => rfl
  | 4, _ => rfl
  | 5, _ => rfl
theorem door_met3 (os : Os) (args : Array Value) : laidMetH Tryz.prog Rows.straightRow.laid ((World.doorLaid Tryz.prog 400 os).forCall (fun _ _ => 0) ⟨#[], args, []⟩).memory :=
 laidMetH_of_parts3 (fuel := 8) (laidMet_of_run' 8 (by kernel_rfl) (by kernel_rfl)) (by kernel_rfl) (by kernel_rfl)
end Go.Proofs.YtiopfihjmkfdmaaGreatDoor
