/- invariants.Run. -/
import Derived.Test.YtiopfihjmkfdmaaGreatDoorGRunC
import Derived.Test.YtiopfihjmkfdmaaGreatDoorGTell
import Derived.ChangeKeysEq
import Derived.Laws.StructEq
import Derived.Deep.RegionHeld3
namespace Go.Proofs.YtiopfihjmkfdmaaGreatDoor
open Go.RowKit
set_option maxRecDepth 100000
set_option maxHeartbeats 2000000

/-- an error as it comes out of Run -/
def ErrAt2 (w : World) (B : Nat) (v : Value) (er : Nat × Nat) : Prop := ErrAt w B v er ∨ (v = .iface 26 (.int .i64 4) ∧ er = (4, 0))

theorem err_iface2 {w : World} {B : Nat} {v : Value} {er : Nat × Nat} (h : ErrAt2 w B v er) : ∃ t u, v = .iface t u := by
  rcases h with h | ⟨rfl, _⟩
  · exact err_iface h
  · exact ⟨_, _, rfl⟩

theorem Tell_err2 (v : Value) (er : Nat × Nat) (B : Nat) (w : World) (hg : ErrT w) (hlt : 11 ≤ w.heap.size) (hv : ErrAt2 w B v er) :
    Calls Tryz.prog 16 #[v] w fun e w' => e = .returned (.tuple #[.int .i64 er.1, .int .i64 er.2]) ∧ Below w.heap.size w w' := by
  rcases hv with h | ⟨rfl, rfl⟩
  · exact Tell_err v er B w hg hlt h
  · exact Tell_errno 4 w hg hlt

def RunPost (w : World) : Except (Nat × Nat) (List (Int × List Int) × Int) → Ending → World → Prop
  | .ok t, e, w' => ∃ v, e = .returned (.tuple #[v, .nilIface]) ∧ TraceAt w.heap.size w' v t ∧ Below w.heap.size w w'
  | .error er, e, w' => ∃ v, e = .returned (.tuple #[.agg #[.slice none 0 0, .int .i64 0], v]) ∧ ErrAt2 w' w.heap.size v er ∧ Below w.heap.size w w'

theorem ErrAt.weaken {w : World} {B B' : Nat} {v : Value} {er : Nat × Nat} (h : ErrAt w B v er) (hB : B' ≤ B) : ErrAt w B' v er := by
  rcases h with h | ⟨N, h1, h2, h3⟩
  · exact .inl h
  · exact .inr ⟨N, Nat.le_trans hB h1, h2, h3⟩

theorem ErrAt.set {w : World} {B S i : Nat} {v u : Value} {er : Nat × Nat} (h : ErrAt w B v er) (hS : S < B) : ErrAt (w.setCell ⟨S, i, none⟩ u) B v er := by
  rcases h with h | ⟨N, h1, h2, h3⟩
  · exact .inl h
  · exact .inr ⟨N, h1, h2, by rw [Below.heap_setCell _ _ _ _ (by show N ≠ S; omega)]; exact h3⟩

theorem ownsRow9_weaken {base base' n : Nat} {e : TypeId} {sz : Nat} {w : World} {v : Value} {vs : List Value} (h : w.ownsRow base e sz v n vs) (hb : base' ≤ base) : w.ownsRow base' e sz v n vs := by
  obtain ⟨h1, h2⟩ := h
  refine ⟨h1, ?_⟩
  rcases h2 with h2 | ⟨g, cap, cur, rfl, hg, r⟩
  · exact .inl h2
  · exact .inr ⟨g, cap, cur, rfl, Nat.le_trans hb hg, r⟩

theorem within_yes (n g : Int) (w : World) (h : 0 ≤ n) (h' : n ≤ g) : Calls Tryz.prog 42 #[.int .i64 n, .int .i64 g] w fun e w' => e = .returned (.bool true) ∧ w' = w := by
  go_enter Tryz.func42, Tryz.ntmps42
  go_wp2_with fail
  go_ret
  exact ⟨rfl, rfl⟩
theorem within_low (n g : Int) (w : World) (h : ¬ 0 ≤ n) : Calls Tryz.prog 42 #[.int .i64 n, .int .i64 g] w fun e w' => e = .returned (.bool false) ∧ w' = w := by
  go_enter Tryz.func42, Tryz.ntmps42
  go_wp2_with fail
  go_ret
  exact ⟨rfl, rfl⟩
theorem within_high (n g : Int) (w : World) (h : 0 ≤ n) (h' : ¬ n ≤ g) : Calls Tryz.prog 42 #[.int .i64 n, .int .i64 g] w fun e w' => e = .returned (.bool false) ∧ w' = w := by
  go_enter Tryz.func42, Tryz.ntmps42
  go_wp2_with fail
  go_ret
  exact ⟨rfl, rfl⟩
theorem within_no (n g : Int) (w : World) (h : n < 0 ∨ g < n) : Calls Tryz.prog 42 #[.int .i64 n, .int .i64 g] w fun e w' => e = .returned (.bool false) ∧ w' = w := by
  by_cases h0 : 0 ≤ n
  · exact within_high n g w h0 (by omega)
  · exact within_low n g w h0

theorem Run_calls (s : ByteArray) (iv : Value) (ins : List Int) (fuel : Int) (w : World) (hs : s.size ≤ 1048576) (hL : Laid w) (hin : InAt w.heap.size w iv ins) (hiv : ∃ a n c, iv = .slice a n c) :
    Calls Tryz.prog 23 #[.string s, iv, .int .i64 fuel] w (RunPost w (Sp.run s.data.toList ins fuel)) := by
  have bz := below_alloc1 w (.cells #[.slice none 0 0, .int .i64 0] 41)
  have hn := heap_alloc_new w (.cells #[.slice none 0 0, .int .i64 0] 41)
  have hc := Program_calls RtRn s (w.alloc (.cells #[.slice none 0 0, .int .i64 0] 41)) hs (hL.below bz hL.size)
  have hsz : (w.alloc (.cells #[.slice none 0 0, .int .i64 0] 41)).heap.size = w.heap.size + 1 := by simp
  have HN : Hid (_ = _) := hn
  clear hn
  obtain ⟨ia, i_n, ic, rfl⟩ := hiv
  cases hr : Sp.parse Sp.Rn s.data.toList with
  | error er =>
    have E : Hid (Sp.run s.data.toList ins fuel = .error er) := by unfold Hid Sp.run; rw [hr]
    rw [hr] at hc
    go_enter Tryz.func23, Tryz.ntmps23
    go_wp2_with fail
    generalize w.alloc (.cells #[.slice none 0 0, .int .i64 0] 41) = wz at *
    refine hc.mono ?_
    rintro e w1 ⟨v, rfl, hv, b1⟩
    obtain ⟨tv, uv, rfl⟩ := err_iface hv
    have hn1 : (w1.alloc (.cells #[.slice none 0 0, .int .i64 0, .int .i64 0, .slice none 0 0] 86)).heap[w.heap.size]? = some (.cells #[.slice none 0 0, .int .i64 0] 41) := heap_alloc_old (by rw [b1.block _ (by omega)]; exact HN.out)
    have c0 := cell_of hn1 0 (v := .slice none 0 0) rfl
    have c1 := cell_of hn1 1 (v := .int .i64 0) rfl
    have f0 := frozen_of hn1 0
    have f1 := frozen_of hn1 1
    have h2 := heap_setCell_at (heap_setCell_at hn1 0 (.slice none 0 0)) 1 (.int .i64 0)
    have Q0 : Hid (_ = _) := cell_of h2 0 (v := .slice none 0 0) rfl
    have Q1 : Hid (_ = _) := cell_of h2 1 (v := .int .i64 0) rfl
    have HV : Hid (ErrAt2 (((w1.alloc (.cells #[.slice none 0 0, .int .i64 0, .int .i64 0, .slice none 0 0] 86)).setCell ⟨w.heap.size, 0, none⟩ (.slice none 0 0)).setCell ⟨w.heap.size, 1, none⟩ (.int .i64 0)) w.heap.size (.iface tv uv) er) :=
      .inl ((((hv.laid _).set (by omega)).set (by omega)).weaken (by omega))
    have B : Hid (Below w.heap.size w (((w1.alloc (.cells #[.slice none 0 0, .int .i64 0, .int .i64 0, .slice none 0 0] 86)).setCell ⟨w.heap.size, 0, none⟩ (.slice none 0 0)).setCell ⟨w.heap.size, 1, none⟩ (.int .i64 0))) :=
      (((bz.trans (b1.mono (by omega))).alloc (by have := b1.size; omega) _).setCell (p := ⟨w.heap.size, 0, none⟩) (Nat.le_refl _) _).setCell (p := ⟨w.heap.size, 1, none⟩) (Nat.le_refl _) _
    clear hv hc hn1 h2
    go_wp2_with fail
    exact bodyPost_ret (v := .tuple #[.agg #[.slice none 0 0, .int .i64 0], .iface tv uv]) (by simp [results, Tryz.results23, go_sem, Q0.out, Q1.out]) rfl (by rw [E.out]; exact ⟨_, rfl, HV.out, B.out⟩)
  | ok xs =>
    rw [hr] at hc
    by_cases hfu : fuel < 0 ∨ 500 < fuel
    · have E : Hid (Sp.run s.data.toList ins fuel = .error (4, 0)) := by unfold Hid Sp.run; rw [hr]; simp only; rw [if_pos hfu]
      have HFU : Hid (fuel < 0 ∨ 500 < fuel) := hfu
      all_goals
       clear hfu
       go_enter Tryz.func23, Tryz.ntmps23
       go_wp2_with fail
       generalize w.alloc (.cells #[.slice none 0 0, .int .i64 0] 41) = wz at *
       refine hc.mono ?_
       rintro e w1 ⟨v, ct1, nvv, ns1, rfl, hv, b1, hrow, hnums⟩
       obtain ⟨av, nv, cv, rfl⟩ := blk_slice hv
       obtain ⟨ax, nx, cx, rfl⟩ := row_slice0 hrow
       clear hrow hnums
       have hn1 : (w1.alloc (.cells #[.slice av nv cv, .int .i64 ct1.1, .int .i64 ct1.2, .slice ax nx cx] 86)).heap[w.heap.size]? = some (.cells #[.slice none 0 0, .int .i64 0] 41) := heap_alloc_old (by rw [b1.block _ (by omega)]; exact HN.out)
       have c0 := cell_of hn1 0 (v := .slice none 0 0) rfl
       have c1 := cell_of hn1 1 (v := .int .i64 0) rfl
       have f0 := frozen_of hn1 0
       have f1 := frozen_of hn1 1
       have h2 := heap_setCell_at (heap_setCell_at hn1 0 (.slice none 0 0)) 1 (.int .i64 0)
       have Q0 : Hid (_ = _) := cell_of h2 0 (v := .slice none 0 0) rfl
       have Q1 : Hid (_ = _) := cell_of h2 1 (v := .int .i64 0) rfl
       have B : Hid (Below w.heap.size w (((w1.alloc (.cells #[.slice av nv cv, .int .i64 ct1.1, .int .i64 ct1.2, .slice ax nx cx] 86)).setCell ⟨w.heap.size, 0, none⟩ (.slice none 0 0)).setCell ⟨w.heap.size, 1, none⟩ (.int .i64 0))) :=
         (((bz.trans (b1.mono (by omega))).alloc (by have := b1.size; omega) _).setCell (p := ⟨w.heap.size, 0, none⟩) (Nat.le_refl _) _).setCell (p := ⟨w.heap.size, 1, none⟩) (Nat.le_refl _) _
       clear hv hc hn1 h2
       go_wp2_with fail
       refine (within_no fuel 500 _ HFU.out).mono ?_
       rintro e w2 ⟨rfl, rfl⟩
       go_wp2_with fail
       exact bodyPost_ret (v := .tuple #[.agg #[.slice none 0 0, .int .i64 0], .iface 26 (.int .i64 4)]) (by simp [results, Tryz.results23, go_sem, Q0.out, Q1.out]) rfl (by rw [E.out]; exact ⟨_, rfl, .inr ⟨rfl, rfl⟩, B.out⟩)
    · obtain ⟨fn, rfl⟩ : ∃ fn : Nat, fuel = fn := ⟨fuel.toNat, by omega⟩
      have E0 : Hid (Sp.run s.data.toList ins (fn : Int) = .ok (Sp.runOf xs ins fn)) := by unfold Hid Sp.run; rw [hr]; simp only; rw [if_neg hfu]; rfl
      have E : Hid (Sp.run s.data.toList ins (fn : Int) = .ok ((Sp.runOf xs ins fn).1, (Sp.runOf xs ins fn).2)) := E0.out
      have hd1 : ¬ ((fn : Int) < 0) := by omega
      have hd2 : ¬ ((500 : Int) < (fn : Int)) := by omega
      go_enter Tryz.func23, Tryz.ntmps23
      go_wp2_with fail
      generalize w.alloc (.cells #[.slice none 0 0, .int .i64 0] 41) = wz at *
      refine hc.mono ?_
      rintro e w1 ⟨v, ct1, nvv, ns1, rfl, hv, b1, hrow, hnums⟩
      obtain ⟨av, nv, cv, rfl⟩ := blk_slice hv
      obtain ⟨ax, nx, cx, rfl⟩ := row_slice0 hrow
      clear hrow hnums
      have b2 : Below w.heap.size w (w1.alloc (.cells #[.slice av nv cv, .int .i64 ct1.1, .int .i64 ct1.2, .slice ax nx cx] 86)) := (bz.trans (b1.mono (by omega))).alloc (by have := b1.size; omega) _
      have hn1 : (w1.alloc (.cells #[.slice av nv cv, .int .i64 ct1.1, .int .i64 ct1.2, .slice ax nx cx] 86)).heap[w.heap.size]? = some (.cells #[.slice none 0 0, .int .i64 0] 41) := heap_alloc_old (by rw [b1.block _ (by omega)]; exact HN.out)
      have hin2 : InAt (w1.alloc (.cells #[.slice av nv cv, .int .i64 ct1.1, .int .i64 ct1.2, .slice ax nx cx] 86)).heap.size (w1.alloc (.cells #[.slice av nv cv, .int .i64 ct1.1, .int .i64 ct1.2, .slice ax nx cx] 86)) (.slice ia i_n ic) ins := by
        rcases hin.below b2 with h | ⟨g, off, cap, h1, h2, h3⟩
        · exact .inl h
        · exact .inr ⟨g, off, cap, h1, Nat.lt_of_lt_of_le h2 b2.size, h3⟩
      have hrun := runner_calls av nv cv ct1.2 ax nx cx xs hv (w1.alloc (.cells #[.slice av nv cv, .int .i64 ct1.1, .int .i64 ct1.2, .slice ax nx cx] 86)) (.slice ia i_n ic) ins fn (by omega) (fun k _ h2 _ => Below.heap_alloc _ _ _ h2) (by simp) hin2 ⟨_, _, _, rfl⟩
      have HN1 : Hid (_ = _) := hn1
      clear hv hc hin2 hn1
      go_wp2_with fail
      refine (within_yes (fn : Int) 500 _ (by omega) (by omega)).mono ?_
      rintro e wq ⟨rfl, rfl⟩
      go_wp2_with fail
      generalize w1.alloc (.cells #[.slice av nv cv, .int .i64 ct1.1, .int .i64 ct1.2, .slice ax nx cx] 86) = w2 at *
      refine hrun.mono ?_
      rintro e w3 ⟨v, rfl, ⟨vv, rfl, ho, hlen⟩, b3⟩
      have ho' : w3.ownsRow w.heap.size 80 9 vv (Sp.runOf xs ins fn).1.length (visCells (Sp.runOf xs ins fn).1) := ownsRow9_weaken ho b2.size
      have hn3 : w3.heap[w.heap.size]? = some (.cells #[.slice none 0 0, .int .i64 0] 41) := by rw [b3.block _ (heap_lt HN1.out)]; exact HN1.out
      have c0 := cell_of hn3 0 (v := .slice none 0 0) rfl
      have c1 := cell_of hn3 1 (v := .int .i64 0) rfl
      have f0 := frozen_of hn3 0
      have f1 := frozen_of hn3 1
      have hfin := trace_stored (stop := (Sp.runOf xs ins fn).2) (r := { vis := (Sp.runOf xs ins fn).1, st := [], ins := [], fuel := 0 }) (S := w.heap.size) (Nat.le_refl _) hn3 ho'
      have HF : Hid (_ ∧ _) := hfin
      obtain ⟨a3, n3, d3, rfl⟩ : ∃ a n c, vv = .slice a n c := by
        rcases ho.2 with ⟨rfl, _⟩ | ⟨g, cap, cur, rfl, _⟩
        · exact ⟨_, _, _, rfl⟩
        · exact ⟨_, _, _, rfl⟩
      have B : Hid (Below w.heap.size w w3) := b2.trans (b3.mono b2.size)
      clear hfin ho ho' hn3 b3 hrun
      generalize (Sp.runOf xs ins fn).2 = stop at *
      generalize (Sp.runOf xs ins fn).1 = vis at *
      go_wp2_with fail
      exact bodyPost_ret (v := .tuple #[.agg #[.slice a3 n3 d3, .int .i64 stop], .nilIface]) (by simp [results, Tryz.results23, go_sem, HF.out.1, HF.out.2.1]) rfl (by rw [E.out]; exact ⟨_, rfl, ⟨_, rfl, HF.out.2.2.1, hlen⟩, B.out.trans HF.out.2.2.2⟩)

end Go.Proofs.YtiopfihjmkfdmaaGreatDoor

/- Two stores held against each other by ==. -/
namespace Go.Proofs.YtiopfihjmkfdmaaGreatDoor
open Go.RowKit
set_option maxRecDepth 100000
set_option maxHeartbeats 2000000

theorem part16 (xs : Array Value) (i : Nat) (v : Value) (hv : xs[i]? = some v) (w : World) : (part 48 xs (i * 1)).run Tryz.prog w = .ok v w :=
  run_part_plain w (by kernel_rfl) (by rw [Nat.mul_one]; exact hv)

theorem eqStore (a0 a1 a2 a3 a4 a5 a6 a7 : Int) (w : World) :
    (Op.equalIn 9999 78 (.agg #[.int .i16 a0, .int .i16 a1, .int .i16 a2, .int .i16 a3, .int .i16 a4, .int .i16 a5, .int .i16 a6, .int .i16 a7]) (.agg #[.int .i16 a0, .int .i16 a1, .int .i16 a2, .int .i16 a3, .int .i16 a4, .int .i16 a5, .int .i16 a6, .int .i16 a7])).run Tryz.prog w = .ok true w := by
  have hi : ∃ i, Tryz.prog.info? 48 = some i := by
    cases h : Tryz.prog.info? 48 with
    | some i => exact ⟨i, rfl⟩
    | none => exact absurd (show (Tryz.prog.info? 48).isSome = true by kernel_rfl) (by rw [h]; simp)
  obtain ⟨i0, hi⟩ := hi
  rw [run_equalIn_array w 9998 _ _ Tryz.underlying78 hi, show Tryz.prog.cellsOf 48 = 1 by kernel_rfl, show List.range 8 = [0, 1, 2, 3, 4, 5, 6, 7] from rfl]
  have e : ∀ (a : Int) (w : World), (Op.equalIn 9998 48 (.int .i16 a) (.int .i16 a)).run Tryz.prog w = .ok (a == a) w := fun a w => run_equalIn_int w 9997 48 .i16 .i16 a a Tryz.underlying48
  have p0 := part16 #[.int .i16 a0, .int .i16 a1, .int .i16 a2, .int .i16 a3, .int .i16 a4, .int .i16 a5, .int .i16 a6, .int .i16 a7] 0 (.int .i16 a0) rfl
  have p1 := part16 #[.int .i16 a0, .int .i16 a1, .int .i16 a2, .int .i16 a3, .int .i16 a4, .int .i16 a5, .int .i16 a6, .int .i16 a7] 1 (.int .i16 a1) rfl
  have p2 := part16 #[.int .i16 a0, .int .i16 a1, .int .i16 a2, .int .i16 a3, .int .i16 a4, .int .i16 a5, .int .i16 a6, .int .i16 a7] 2 (.int .i16 a2) rfl
  have p3 := part16 #[.int .i16 a0, .int .i16 a1, .int .i16 a2, .int .i16 a3, .int .i16 a4, .int .i16 a5, .int .i16 a6, .int .i16 a7] 3 (.int .i16 a3) rfl
  have p4 := part16 #[.int .i16 a0, .int .i16 a1, .int .i16 a2, .int .i16 a3, .int .i16 a4, .int .i16 a5, .int .i16 a6, .int .i16 a7] 4 (.int .i16 a4) rfl
  have p5 := part16 #[.int .i16 a0, .int .i16 a1, .int .i16 a2, .int .i16 a3, .int .i16 a4, .int .i16 a5, .int .i16 a6, .int .i16 a7] 5 (.int .i16 a5) rfl
  have p6 := part16 #[.int .i16 a0, .int .i16 a1, .int .i16 a2, .int .i16 a3, .int .i16 a4, .int .i16 a5, .int .i16 a6, .int .i16 a7] 6 (.int .i16 a6) rfl
  have p7 := part16 #[.int .i16 a0, .int .i16 a1, .int .i16 a2, .int .i16 a3, .int .i16 a4, .int .i16 a5, .int .i16 a6, .int .i16 a7] 7 (.int .i16 a7) rfl
  simp only [Op.eqItems, Sem.run_bind, p0, p1, p2, p3, p4, p5, p6, p7, e, Result.andThen_ok, beq_self_eq_true, Bool.not_true, Bool.false_eq_true, if_false, Sem.run_pure]

end Go.Proofs.YtiopfihjmkfdmaaGreatDoor

/- The laws' own functions on traces: sameTraces. -/
namespace Go.Proofs.YtiopfihjmkfdmaaGreatDoor
open Go.RowKit
set_option maxRecDepth 100000
set_option maxHeartbeats 2000000

/-- visits that may be read off a slice -/
def VisAt (w : World) (v : Value) (vis : List (Int × List Int)) : Prop :=
  ∃ a cap, v = .slice a vis.length cap ∧ vis.length ≤ cap ∧ (vis ≠ [] → ∃ g, a = some ⟨g, 0, none⟩ ∧ ∀ i u, (visCells vis)[i]? = some u → w.cell? ⟨g, i, none⟩ = some u)

theorem visAt_of {base : Nat} {w : World} {v : Value} {vis : List (Int × List Int)} (h : w.ownsRow base 80 9 v vis.length (visCells vis)) : VisAt w v vis := by
  rcases h.2 with ⟨rfl, hz⟩ | ⟨g, cap, cur, rfl, _, hh, hnc, _, _, htake⟩
  · exact ⟨none, 0, by rw [hz], by omega, fun hne => absurd (List.eq_nil_of_length_eq_zero hz) hne⟩
  · refine ⟨_, cap, rfl, hnc, fun _ => ⟨g, rfl, fun i u hu => cell_of hh i ?_⟩⟩
    have hl := (List.getElem?_eq_some_iff.1 hu).1
    have h3 : cur.toList[i]? = (visCells vis)[i]? := by
      rw [← htake, List.getElem?_take, if_pos (by rw [← h.1]; exact hl)]
    rw [← Array.getElem?_toList, h3]; exact hu

theorem VisAt.below {w w' : World} {v : Value} {vis : List (Int × List Int)} (h : VisAt w v vis) (hb : Below w.heap.size w w') : VisAt w' v vis := by
  obtain ⟨a, cap, h1, h2, h3⟩ := h
  refine ⟨a, cap, h1, h2, fun hne => ?_⟩
  obtain ⟨g, h4, h5⟩ := h3 hne
  exact ⟨g, h4, fun i u hu => by rw [hb.cell (p := ⟨g, i, none⟩) (cell_lt (h5 i u hu))]; exact h5 i u hu⟩

theorem visCells_length (vis : List (Int × List Int)) : (visCells vis).length = vis.length * 9 := by
  unfold visCells
  induction vis with
  | nil => rfl
  | cons x xs ih => simp [visCell] at ih ⊢; omega

theorem visCells_get (vis : List (Int × List Int)) (i : Nat) (x : Int × List Int) (h : vis[i]? = some x) (j : Nat) (u : Value) (hu : (visCell x)[j]? = some u) : (visCells vis)[i * 9 + j]? = some u := by
  induction vis generalizing i with
  | nil => simp at h
  | cons y ys ih =>
    have e : visCells (y :: ys) = visCell y ++ visCells ys := by simp [visCells]
    have hl : (visCell y).length = 9 := rfl
    rw [e]
    cases i with
    | zero =>
      have hj := (List.getElem?_eq_some_iff.1 hu).1
      simp at h
      subst h
      rw [List.getElem?_append_left (by omega)]
      simpa using hu
    | succ i =>
      rw [List.getElem?_append_right (by omega), hl]
      have := ih i (by simpa using h)
      rw [show (i + 1) * 9 + j - 9 = i * 9 + j by omega]
      exact this

/-- nine cells -/
def nine (w : World) (g o : Nat) (p a0 a1 a2 a3 a4 a5 a6 a7 : Int) : Prop :=
  w.cell? ⟨g, o, none⟩ = some (.int .i64 p) ∧ w.cell? ⟨g, o + 1, none⟩ = some (.int .i16 a0) ∧ w.cell? ⟨g, o + 2, none⟩ = some (.int .i16 a1) ∧ w.cell? ⟨g, o + 3, none⟩ = some (.int .i16 a2) ∧ w.cell? ⟨g, o + 4, none⟩ = some (.int .i16 a3) ∧ w.cell? ⟨g, o + 5, none⟩ = some (.int .i16 a4) ∧ w.cell? ⟨g, o + 6, none⟩ = some (.int .i16 a5) ∧ w.cell? ⟨g, o + 7, none⟩ = some (.int .i16 a6) ∧ w.cell? ⟨g, o + 8, none⟩ = some (.int .i16 a7)

/-- a visit's cells -/
theorem visAt_nine {w : World} {g : Nat} {vis : List (Int × List Int)} (h : ∀ i u, (visCells vis)[i]? = some u → w.cell? ⟨g, i, none⟩ = some u) (i : Nat) (x : Int × List Int) (hx : vis[i]? = some x) :
    nine w g (i * 9) x.1 (x.2.getD 0 0) (x.2.getD 1 0) (x.2.getD 2 0) (x.2.getD 3 0) (x.2.getD 4 0) (x.2.getD 5 0) (x.2.getD 6 0) (x.2.getD 7 0) :=
  ⟨h _ _ (visCells_get vis i x hx 0 _ rfl), h _ _ (visCells_get vis i x hx 1 _ rfl), h _ _ (visCells_get vis i x hx 2 _ rfl), h _ _ (visCells_get vis i x hx 3 _ rfl), h _ _ (visCells_get vis i x hx 4 _ rfl), h _ _ (visCells_get vis i x hx 5 _ rfl), h _ _ (visCells_get vis i x hx 6 _ rfl), h _ _ (visCells_get vis i x hx 7 _ rfl), h _ _ (visCells_get vis i x hx 8 _ rfl)⟩

/-- the same visit out of two slices -/
theorem visAt_two {w : World} {a a' : Option Addr} {n n' cap cap' : Nat} {vis : List (Int × List Int)} (hx : VisAt w (.slice a n cap) vis) (hy : VisAt w (.slice a' n' cap') vis) (i : Nat) (hi : i < vis.length) :
    ∃ g g' p a0 a1 a2 a3 a4 a5 a6 a7, a = some ⟨g, 0, none⟩ ∧ a' = some ⟨g', 0, none⟩ ∧ nine w g (i * 9) p a0 a1 a2 a3 a4 a5 a6 a7 ∧ nine w g' (i * 9) p a0 a1 a2 a3 a4 a5 a6 a7 := by
  obtain ⟨b, c, e1, _, h1⟩ := hx
  obtain ⟨b', c', e2, _, h2⟩ := hy
  cases e1
  cases e2
  have hne : vis ≠ [] := by intro e; subst e; simp at hi
  obtain ⟨g, rfl, hg⟩ := h1 hne
  obtain ⟨g', rfl, hg'⟩ := h2 hne
  exact ⟨g, g', _, _, _, _, _, _, _, _, _, rfl, rfl, visAt_nine hg i _ (List.getElem?_eq_getElem hi), visAt_nine hg' i _ (List.getElem?_eq_getElem hi)⟩

/-- what stands while two traces are held against each other -/
structure STr (w : World) (a a' : Option Addr) (cap cap' : Nat) (stop : Int) (vis : List (Int × List Int)) (wr : World) : Prop where
  bel : Below w.heap.size w wr
  left : VisAt wr (.slice a vis.length cap) vis
  right : VisAt wr (.slice a' vis.length cap') vis
  blk : wr.heap[w.heap.size]? = some (.cells #[.slice a vis.length cap, .int .i64 stop] 41)
  blk1 : wr.heap[w.heap.size + 1]? = some (.cells #[.slice a' vis.length cap', .int .i64 stop] 41)

theorem STr.drew {w : World} {a a' : Option Addr} {cap cap' : Nat} {stop : Int} {vis : List (Int × List Int)} {wr : World} (h : STr w a a' cap cap' stop vis wr) : STr w a a' cap cap' stop vis wr.drew :=
  ⟨h.bel.drew, h.left.below (below_drew1 _), h.right.below (below_drew1 _), h.blk, h.blk1⟩

theorem sameTraces_calls (x y : Value) (stop : Int) (vis : List (Int × List Int)) (w : World) (hx : VisAt w x vis) (hy : VisAt w y vis) (hl : vis.length ≤ 500) :
    Calls Tryz.prog 27 #[.agg #[x, .int .i64 stop], .agg #[y, .int .i64 stop]] w fun e w' => e = .returned (.bool true) ∧ Below w.heap.size w w' := by
  have hx0 := hx
  have hy0 := hy
  obtain ⟨a, cap, rfl, hcap, _⟩ := hx
  obtain ⟨a', cap', rfl, hcap', _⟩ := hy
  have b1 := below_alloc1 w (.cells #[.slice a vis.length cap, .int .i64 stop] 41)
  have b2 : Below w.heap.size w ((w.alloc (.cells #[.slice a vis.length cap, .int .i64 stop] 41)).alloc (.cells #[.slice a' vis.length cap', .int .i64 stop] 41)) := b1.alloc (by simp) _
  have hn0 : ((w.alloc (.cells #[.slice a vis.length cap, .int .i64 stop] 41)).alloc (.cells #[.slice a' vis.length cap', .int .i64 stop] 41)).heap[w.heap.size]? = some (.cells #[.slice a vis.length cap, .int .i64 stop] 41) := heap_alloc_old (heap_alloc_new _ _)
  have hn1 : ((w.alloc (.cells #[.slice a vis.length cap, .int .i64 stop] 41)).alloc (.cells #[.slice a' vis.length cap', .int .i64 stop] 41)).heap[w.heap.size + 1]? = some (.cells #[.slice a' vis.length cap', .int .i64 stop] 41) := by
    have := heap_alloc_new (w.alloc (.cells #[.slice a vis.length cap, .int .i64 stop] 41)) (.cells #[.slice a' vis.length cap', .int .i64 stop] 41)
    simpa using this
  have hS : STr w a a' cap cap' stop vis ((w.alloc (.cells #[.slice a vis.length cap, .int .i64 stop] 41)).alloc (.cells #[.slice a' vis.length cap', .int .i64 stop] 41)) := ⟨b2, hx0.below b2, hy0.below b2, hn0, hn1⟩
  have HS : Hid (STr w a a' cap cap' stop vis _) := hS
  have c0 := cell_of hn0 0 (v := .slice a vis.length cap) rfl
  have c1 := cell_of hn0 1 (v := .int .i64 stop) rfl
  have d0 := cell_of hn1 0 (v := .slice a' vis.length cap') rfl
  have d1 := cell_of hn1 1 (v := .int .i64 stop) rfl
  clear hn0 hn1 hx0 hy0 hS
  go_enter Tryz.func27, Tryz.ntmps27
  go_wp2_with fail
  generalize (w.alloc (.cells #[.slice a vis.length cap, .int .i64 stop] 41)).alloc (.cells #[.slice a' vis.length cap', .int .i64 stop] 41) = w2 at *
  clear c0 c1 d0 d1 b2
  go_loopw [5] (fun i wr => ∃ j : Nat, j ≤ vis.length ∧ i = .int .i64 j ∧ Hid (STr w a a' cap cap' stop vis wr)) (fun i _ => vis.length - (intOf i).toNat)
  case atStart => exact ⟨0, Nat.zero_le _, rfl, HS⟩
  case round =>
    obtain ⟨j, hj, rfl, hq⟩ := hrel
    have c0 := cell_of hq.out.blk 0 (v := .slice a vis.length cap) rfl
    have d0 := cell_of hq.out.blk1 0 (v := .slice a' vis.length cap') rfl
    by_cases hjlt : j < vis.length
    · have HD : Hid (STr w a a' cap cap' stop vis wr.drew) := hq.out.drew
      obtain ⟨g, g', p, a0, a1, a2, a3, a4, a5, a6, a7, rfl, rfl, ⟨p0, p1, p2, p3, p4, p5, p6, p7, p8⟩, q0, q1, q2, q3, q4, q5, q6, q7, q8⟩ := visAt_two hq.out.left hq.out.right j hjlt
      have heq := eqStore a0 a1 a2 a3 a4 a5 a6 a7
      have hji : (j : Int) < (vis.length : Int) := by omega
      have hj0 : (0 : Int) ≤ (j : Int) := by omega
      go_wp2_with fail
      go_region_held3 (fun w' => w'.cell? ⟨w.heap.size, 0, none⟩ = some (.slice (some ⟨g, 0, none⟩) vis.length cap) ∧ w'.cell? ⟨w.heap.size + 1, 0, none⟩ = some (.slice (some ⟨g', 0, none⟩) vis.length cap') ∧ w'.cell? ⟨g, j * 9, none⟩ = some (.int .i64 p) ∧ w'.cell? ⟨g, j * 9 + 1, none⟩ = some (.int .i16 a0) ∧ w'.cell? ⟨g, j * 9 + 2, none⟩ = some (.int .i16 a1) ∧ w'.cell? ⟨g, j * 9 + 3, none⟩ = some (.int .i16 a2) ∧ w'.cell? ⟨g, j * 9 + 4, none⟩ = some (.int .i16 a3) ∧ w'.cell? ⟨g, j * 9 + 5, none⟩ = some (.int .i16 a4) ∧ w'.cell? ⟨g, j * 9 + 6, none⟩ = some (.int .i16 a5) ∧ w'.cell? ⟨g, j * 9 + 7, none⟩ = some (.int .i16 a6) ∧ w'.cell? ⟨g, j * 9 + 8, none⟩ = some (.int .i16 a7)
        ∧ w'.cell? ⟨g', j * 9, none⟩ = some (.int .i64 p) ∧ w'.cell? ⟨g', j * 9 + 1, none⟩ = some (.int .i16 a0) ∧ w'.cell? ⟨g', j * 9 + 2, none⟩ = some (.int .i16 a1) ∧ w'.cell? ⟨g', j * 9 + 3, none⟩ = some (.int .i16 a2) ∧ w'.cell? ⟨g', j * 9 + 4, none⟩ = some (.int .i16 a3) ∧ w'.cell? ⟨g', j * 9 + 5, none⟩ = some (.int .i16 a4) ∧ w'.cell? ⟨g', j * 9 + 6, none⟩ = some (.int .i16 a5) ∧ w'.cell? ⟨g', j * 9 + 7, none⟩ = some (.int .i16 a6) ∧ w'.cell? ⟨g', j * 9 + 8, none⟩ = some (.int .i16 a7)) (go_keep) (fail)
      clear p0 p1 p2 p3 p4 p5 p6 p7 p8 q0 q1 q2 q3 q4 q5 q6 q7 q8
      go_wp2_with fail
      exact ⟨⟨j + 1, by omega, by go_num, HD⟩, by simp [intOf]; omega⟩
    · have hji : ¬ ((j : Int) < (vis.length : Int)) := by omega
      go_wp2_with fail
      go_ret
      exact ⟨rfl, hq.out.bel⟩

end Go.Proofs.YtiopfihjmkfdmaaGreatDoor

/- The laws' own functions: inputs. -/
namespace Go.Proofs.YtiopfihjmkfdmaaGreatDoor
open Go.RowKit
set_option maxRecDepth 100000
set_option maxHeartbeats 2000000

/-- numbers that may be read off a slice -/
def IntsAt (w : World) (v : Value) (l : List Int) : Prop :=
  ∃ a cap, v = .slice a l.length cap ∧ l.length ≤ cap ∧ (l ≠ [] → ∃ g off, a = some ⟨g, off, none⟩ ∧ ∀ i n, l[i]? = some n → w.cell? ⟨g, off + i, none⟩ = some (.int .i64 n))

theorem IntsAt.after {w w' : World} {v : Value} {l : List Int} (h : IntsAt w v l) (hb : Below w.heap.size w w') : IntsAt w' v l := by
  obtain ⟨a, cap, h1, h2, h3⟩ := h
  refine ⟨a, cap, h1, h2, fun hne => ?_⟩
  obtain ⟨g, off, h4, h5⟩ := h3 hne
  exact ⟨g, off, h4, fun i n hn => by rw [hb.cell (p := ⟨g, off + i, none⟩) (cell_lt (h5 i n hn))]; exact h5 i n hn⟩

theorem info16 : (Tryz.prog.info? 48).map (fun i => (i.zero, i.size, i.bytes)) = some (some (.int .i16 0), 1, 2) := by kernel_rfl
theorem info64 : (Tryz.prog.info? 3).map (fun i => (i.zero, i.size, i.bytes)) = some (some (.int .i64 0), 1, 8) := by kernel_rfl

theorem w16_range (n : Int) : -32768 ≤ IntKind.i16.wrap n ∧ IntKind.i16.wrap n ≤ 32767 := by
  simp only [IntKind.wrap, IntKind.bits, IntKind.signed]; simp; split <;> omega

theorem wrap_w16 (n : Int) : RowKit.wrap64 (IntKind.i16.wrap n) = IntKind.i16.wrap n := by
  have := w16_range n
  unfold RowKit.wrap64
  omega

def c16 (l : List Int) : List Value := l.map fun n => .int .i16 (Sp.w16 n)
def c64 (l : List Int) : List Value := l.map fun n => .int .i64 (Sp.w16 n)

theorem inputs_calls (lv : Value) (l : List Int) (w : World) (h : IntsAt w lv l) (hl : l.length ≤ 1048576) :
    Calls Tryz.prog 22 #[lv] w fun e w' => ∃ a b, e = .returned (.tuple #[a, b]) ∧ w'.ownsRow w.heap.size 48 1 a l.length (c16 l) ∧ w'.ownsRow w.heap.size 3 1 b l.length (c64 l) ∧ Below w.heap.size w w' := by
  obtain ⟨i16, hi16, hz16, hs16, hb16⟩ := info_parts info16
  obtain ⟨i64, hi64, hz64, hs64, hb64⟩ := info_parts info64
  obtain ⟨ad, cap, rfl, hcap, hc⟩ := h
  go_enter Tryz.func22, Tryz.ntmps22
  go_wp2_with fail
  go_loopw [4, 5, 6] (fun a b i wr => ∃ j : Nat, j ≤ l.length ∧ i = .int .i64 j ∧ Hid (wr.ownsRow w.heap.size 48 1 a j (c16 (l.take j)) ∧ wr.ownsRow w.heap.size 3 1 b j (c64 (l.take j)) ∧ Below w.heap.size w wr)) (fun _ _ i _ => l.length - (intOf i).toNat)
  case atStart => exact ⟨0, Nat.zero_le _, rfl, World.ownsRow_nil _ _ _ _, World.ownsRow_nil _ _ _ _, Below.refl _ _⟩
  case round =>
    obtain ⟨j, hj, rfl, hq⟩ := hrel
    by_cases hjlt : j < l.length
    · have hji : (j : Int) < (l.length : Int) := by omega
      have hne : l ≠ [] := by intro e; subst e; simp at hjlt
      obtain ⟨g, off, rfl, hcell⟩ := hc hne
      obtain ⟨n, hn⟩ : ∃ n, l[j]? = some n := ⟨_, List.getElem?_eq_getElem hjlt⟩
      have hcj := hcell j n hn
      have hcr : wr.cell? ⟨g, off + j, none⟩ = some (.int .i64 n) := by rw [hq.out.2.2.cell (p := ⟨g, off + j, none⟩) (cell_lt hcj)]; exact hcj
      have hq1 := hq.out.1
      have hq2 := hq.out.2.1
      have hbs := hq.out.2.2.size
      have htk : l.take (j + 1) = l.take j ++ [n] := by
        have hk := List.getElem?_eq_some_iff.1 hn
        rw [List.take_succ_eq_append_getElem hk.1, hk.2]
      have HQ1 : Hid (wr.ownsRow w.heap.size 48 1 u4 j (c16 (l.take j))) := hq1
      clear hq1 hq2
      go_wp2_with (first
        | (at_builtin; refine wpList_append_own_at _ rfl _ _ 36 rfl w.heap.size 48 i16 (.int .i16 0) 1 2 Tryz.underlying36 hi16 hz16 hs16 hb16 rfl (by decide) _ _ _ rfl (HQ1.out.alloc _) ⟨wr.heap.size, 0, none⟩ 1 1 [.int .i16 (IntKind.i16.wrap n)] rfl rfl (cell_one_new _ _ _) ?q1 ?q2 ?q3 ?q4 ?_))
      case q1 => intro u hu; simp at hu; subst hu; rfl
      case q2 => unfold maxLen; omega
      case q3 => omega
      case q4 => simp; omega
      intro v' w2 hown2 hgrow2 hnil2 hat2
      have hg2 := grown_alloc hgrow2
      have b2 : Below w.heap.size w w2 := hq.out.2.2.grown hg2 hbs (fun k hk => (ownsRow9_lt HQ1.out k hk).1)
      have h64 : w2.ownsRow w.heap.size 3 1 u5 j (c64 (l.take j)) := ownsRow9_keep hq.out.2.1 (fun k hk => hg2.block k (ownsRow9_lt hq.out.2.1 k hk).2.1 (fun e => by
        obtain ⟨_, _, c, hc⟩ := ownsRow9_lt hq.out.2.1 k hk
        obtain ⟨_, _, c', hc'⟩ := ownsRow9_lt HQ1.out k e.symm
        rw [hc] at hc'
        cases hc'))
      have hcr2 : w2.cell? ⟨g, off + j, none⟩ = some (.int .i64 n) := by rw [b2.cell (p := ⟨g, off + j, none⟩) (cell_lt hcj)]; exact hcj
      have H16 : Hid (w2.ownsRow w.heap.size 48 1 v' (j + 1) (c16 (l.take (j + 1)))) := by
        unfold Hid; rw [htk]
        have := hown2
        simpa [c16, Sp.w16] using this
      have H64 : Hid (w2.ownsRow w.heap.size 3 1 u5 j (c64 (l.take j))) := h64
      obtain ⟨av, nv, cv, rfl⟩ : ∃ a n c, v' = .slice a n c := by
        rcases hown2.2 with ⟨hv, _⟩ | ⟨g, cap, cur, hv, _⟩
        · exact ⟨_, _, _, hv⟩
        · exact ⟨_, _, _, hv⟩
      have hbs2 := b2.size
      clear hown2 hgrow2 hnil2 hat2 hg2 h64 hcr
      go_wp2_with (first
        | (at_builtin; refine wpList_append_own_at _ rfl _ _ 35 rfl w.heap.size 3 i64 (.int .i64 0) 1 8 Tryz.underlying35 hi64 hz64 hs64 hb64 rfl (by decide) _ _ _ rfl (H64.out.alloc _) ⟨w2.heap.size, 0, none⟩ 1 1 [.int .i64 (RowKit.wrap64 (IntKind.i16.wrap n))] rfl rfl (cell_one_new _ _ _) ?q1 ?q2 ?q3 ?q4 ?_))
      case q1 => intro u hu; simp at hu; subst hu; rfl
      case q2 => unfold maxLen; omega
      case q3 => omega
      case q4 => simp; omega
      intro v3 w3 hown3 hgrow3 hnil3 hat3
      have hg3 := grown_alloc hgrow3
      have b3 : Below w.heap.size w w3 := b2.grown hg3 hbs2 (fun k hk => (ownsRow9_lt H64.out k hk).1)
      have HQ : Hid (w3.ownsRow w.heap.size 48 1 (.slice av nv cv) (j + 1) (c16 (l.take (j + 1))) ∧ w3.ownsRow w.heap.size 3 1 v3 (j + 1) (c64 (l.take (j + 1))) ∧ Below w.heap.size w w3) := by
        refine ⟨ownsRow9_keep H16.out (fun k hk => hg3.block k (ownsRow9_lt H16.out k hk).2.1 (fun e => by
          obtain ⟨_, _, c, hc⟩ := ownsRow9_lt H16.out k hk
          obtain ⟨_, _, c', hc'⟩ := ownsRow9_lt H64.out k e.symm
          rw [hc] at hc'
          cases hc')), ?_, b3⟩
        rw [htk]
        have := hown3
        rw [wrap_w16] at this
        simpa [c64, Sp.w16] using this
      clear hown3 hgrow3 hnil3 hat3 hg3 H16 H64 hcr2
      go_wp2_with fail
      exact ⟨⟨j + 1, by omega, by go_num, HQ⟩, by simp [intOf]; omega⟩
    · have hji : ¬ ((j : Int) < (l.length : Int)) := by omega
      have HE : Hid (wr.ownsRow w.heap.size 48 1 u4 l.length (c16 l) ∧ wr.ownsRow w.heap.size 3 1 u5 l.length (c64 l)) := by
        have e : j = l.length := by omega
        subst e
        have h1 := hq.out.1
        have h2 := hq.out.2.1
        rw [List.take_length] at h1 h2
        exact ⟨h1, h2⟩
      go_wp2_with fail
      go_ret2
      exact ⟨_, _, rfl, HE.out.1, HE.out.2, hq.out.2.2⟩

end Go.Proofs.YtiopfihjmkfdmaaGreatDoor

/- The laws' closed fact on runs. -/
namespace Go.Proofs.YtiopfihjmkfdmaaGreatDoor
open Go.RowKit
set_option maxRecDepth 100000
set_option maxHeartbeats 2000000

def runSrc : Sp.Bs := [114, 101, 97, 100, 32, 97, 59, 32, 98, 32, 61, 32, 54, 32, 47, 32, 97, 59]

theorem Sp.run_closed : Sp.run runSrc [2] 9 = .ok ([(0, [0, 0, 0, 0, 0, 0, 0, 0]), (1, [2, 0, 0, 0, 0, 0, 0, 0]), (2, [2, 3, 0, 0, 0, 0, 0, 0])], -1) := by kernel_rfl

theorem in_of_row {base n : Nat} {w : World} {v : Value} {l : List Int} (h : w.ownsRow base 48 1 v n (l.map fun n => .int .i16 n)) (hn : n = l.length) : InAt w.heap.size w v l ∧ ∃ a m c, v = .slice a m c := by
  subst hn
  rcases h.2 with ⟨rfl, hz⟩ | ⟨g, cap, cur, rfl, hb, hh, hnc, _, _, htake⟩
  · exact ⟨.inl ⟨_, _, rfl, List.eq_nil_of_length_eq_zero hz⟩, _, _, _, rfl⟩
  · refine ⟨.inr ⟨g, 0, cap, rfl, heap_lt hh, hnc, fun i m hm => ?_⟩, _, _, _, rfl⟩
    rw [Nat.zero_add]
    refine cell_of hh i ?_
    have hl := (List.getElem?_eq_some_iff.1 hm).1
    have h3 : cur.toList[i]? = (l.map fun n => Value.int .i16 n)[i]? := by
      rw [← htake, List.getElem?_take, if_pos (by omega)]
    rw [← Array.getElem?_toList, h3, List.getElem?_map, hm]; rfl

theorem runs_calls (w : World) (hL : Laid2 w) : Calls Tryz.prog 26 #[] w fun e w' => e = .returned (.bool true) ∧ Below w.heap.size w w' := by
  have b0 := below_alloc1 w (.cells #[.int .i16 2] 48)
  have hin : InAt (w.alloc (.cells #[.int .i16 2] 48)).heap.size (w.alloc (.cells #[.int .i16 2] 48)) (.slice (some ⟨w.heap.size, 0, none⟩) 1 1) [2] := by
    refine .inr ⟨w.heap.size, 0, 1, rfl, by simp, Nat.le_refl _, fun i n hn => ?_⟩
    cases i with
    | zero => simp at hn; subst hn; exact cell_of (heap_alloc_new _ _) 0 rfl
    | succ i => simp at hn
  have hc := Run_calls ⟨#[114, 101, 97, 100, 32, 97, 59, 32, 98, 32, 61, 32, 54, 32, 47, 32, 97, 59]⟩ (.slice (some ⟨w.heap.size, 0, none⟩) 1 1) [2] 9 _ (by decide) (hL.laid.below b0 hL.laid.size) hin ⟨_, _, _, rfl⟩
  rw [show (⟨#[114, 101, 97, 100, 32, 97, 59, 32, 98, 32, 61, 32, 54, 32, 47, 32, 97, 59]⟩ : ByteArray).data.toList = runSrc from rfl, Sp.run_closed] at hc
  go_enter Tryz.func26, Tryz.ntmps26
  go_wp2_with fail
  refine hc.mono ?_
  rintro e w1 ⟨v, rfl, ⟨vv, rfl, ho, _⟩, b1⟩
  have hL1 : Laid2 w1 := (hL.after b0).after b1
  have hva := visAt_of ho
  have b2 : Below w.heap.size w w1 := b0.trans (b1.mono (by simp))
  clear hc ho hin
  obtain ⟨ad, cap, rfl, hcap, hcells⟩ := hva
  obtain ⟨g, rfl, hg⟩ := hcells (by simp)
  have k18 : w1.cell? ⟨g, 18, none⟩ = some (.int .i64 2) := hg 18 _ rfl
  have k20 : w1.cell? ⟨g, 20, none⟩ = some (.int .i16 3) := hg 20 _ rfl
  have hgl := cell_lt k18
  clear hg hcells
  go_wp2_with fail
  have hn := heap_alloc_new w1 (.cells #[.slice (some ⟨g, 0, none⟩) 3 cap, .int .i64 (-1)] 41)
  have b3 := below_alloc1 w1 (.cells #[.slice (some ⟨g, 0, none⟩) 3 cap, .int .i64 (-1)] 41)
  refine (Tell_nil _).mono ?_
  rintro e w2 ⟨rfl, b4⟩
  have hn2 : w2.heap[w1.heap.size]? = some (.cells #[.slice (some ⟨g, 0, none⟩) 3 cap, .int .i64 (-1)] 41) := by rw [b4.block _ (by simp)]; exact hn
  have m0 := cell_of hn2 0 (v := .slice (some ⟨g, 0, none⟩) 3 cap) rfl
  have m1 := cell_of hn2 1 (v := .int .i64 (-1)) rfl
  have b5 : Below w1.heap.size w1 w2 := b3.trans (b4.mono (by simp))
  have j18 : w2.cell? ⟨g, 18, none⟩ = some (.int .i64 2) := by rw [b5.cell (p := ⟨g, 18, none⟩) hgl]; exact k18
  have j20 : w2.cell? ⟨g, 20, none⟩ = some (.int .i16 3) := by rw [b5.cell (p := ⟨g, 20, none⟩) hgl]; exact k20
  clear hn hn2 b3 b4 k18 k20
  go_wp2_with (go_at_call 18; refine (num_calls _ _).mono ?_; rintro e w4 ⟨rfl, rfl⟩)
  go_ret
  exact ⟨rfl, b2.trans (b5.mono b2.size)⟩

end Go.Proofs.YtiopfihjmkfdmaaGreatDoor
