/- (runner) next; the store written. -/
import Derived.Test.YtiopfihjmkfdmaaGreatDoorGRunV
import Derived.Test.YtiopfihjmkfdmaaGreatDoorGStmts
namespace Go.Proofs.YtiopfihjmkfdmaaGreatDoor
open Go.RowKit
set_option maxRecDepth 100000
set_option maxHeartbeats 2000000

theorem rn_in {w : World} {b : Nat} {vv iv : Value} {stop : Int} {st : List Int} {fuel : Nat} (h : w.heap[b]? = some (.cells (rnCells vv stop st iv fuel) 181)) (v : Value) : (w.setCell ⟨b, 10, none⟩ v).heap[b]? = some (.cells (rnCells vv stop st v fuel) 181) := by
  rw [heap_setCell_at h 10 v]; rfl

theorem rn_put {w : World} {b : Nat} {vv iv : Value} {stop : Int} {st : List Int} {fuel : Nat} (h : w.heap[b]? = some (.cells (rnCells vv stop st iv fuel) 181)) (hst : st.length = 8) (k : Nat) (hk : k < 8) (n : Int) : (w.setCell ⟨b, 2 + k, none⟩ (.int .i16 n)).heap[b]? = some (.cells (rnCells vv stop (st.set k n) iv fuel) 181) := by
  rw [heap_setCell_at h (2 + k) (.int .i16 n)]
  match st, hst with
  | [a0, a1, a2, a3, a4, a5, a6, a7], _ =>
    rcases (show k = 0 ∨ k = 1 ∨ k = 2 ∨ k = 3 ∨ k = 4 ∨ k = 5 ∨ k = 6 ∨ k = 7 from by omega) with rfl | rfl | rfl | rfl | rfl | rfl | rfl | rfl
    all_goals rfl

theorem RunAt.put {base b : Nat} {stop : Int} {r : Sp.Rst} {w : World} (h : RunAt base b stop r w) (k : Nat) (hk : k < 8) (n : Int) :
    RunAt base b stop (Sp.put k n r) (w.setCell ⟨b, 2 + k, none⟩ (.int .i16 n)) ∧ RKeep base b w (w.setCell ⟨b, 2 + k, none⟩ (.int .i16 n)) := by
  obtain ⟨vv, iv, h1, h2, h3, h4, h5, h6⟩ := h
  have kk := (RKeep.refl base b w).setB h4 (2 + k) (.int .i16 n)
  exact ⟨⟨vv, iv, rn_put h1 h5 k hk n, ownsRow9_keep h2 (fun g hg => Below.heap_setCell _ _ _ _ (RunAt.row_ne h1 h2 g hg)), h3.below kk.below, h4, by simp [Sp.put, h5], h6⟩, kk⟩

theorem RunAt.storeCell {base b : Nat} {stop : Int} {r : Sp.Rst} {w : World} (h : RunAt base b stop r w) (k : Nat) (hk : k < 8) : (∃ x, w.cell? ⟨b, 2 + k, none⟩ = some (.int .i16 x)) ∧ w.frozen? ⟨b, 2 + k, none⟩ = false := by
  obtain ⟨vv, iv, h1, _⟩ := h
  exact ⟨⟨_, store_cell h1 k hk⟩, frozen_of h1 _⟩

/-- what next comes to -/
def nextOf (r : Sp.Rst) : Int × Sp.Rst := match r.ins with
  | [] => (0, r)
  | n :: rest => (n, { r with ins := rest })

theorem next_calls {base b : Nat} {stop : Int} {r : Sp.Rst} {w : World} (h : RunAt base b stop r w) :
    Calls Tryz.prog 137 #[.pointer (some ⟨b, 0, none⟩)] w fun e w' => e = .returned (.int .i16 (nextOf r).1) ∧ RunAt base b stop (nextOf r).2 w' ∧ RKeep base b w w' := by
  have hh := h
  obtain ⟨vv, iv, h1, h2, h3, h4, h5, h6⟩ := h
  have c10 := cell_of h1 10 (v := iv) rfl
  have f10 := frozen_of h1 10
  rcases h3 with ⟨a, c, rfl, hin⟩ | ⟨g, off, cap, rfl, hg, hcap, hcell⟩
  · have e : Hid (nextOf r = (0, r)) := by unfold Hid nextOf; rw [hin]
    go_enter Tryz.func137, Tryz.ntmps137
    go_wp2_with fail
    go_ret
    rw [e.out]
    exact ⟨rfl, hh, RKeep.refl _ _ _⟩
  · cases hr : r.ins with
    | nil =>
      have e : Hid (nextOf r = (0, r)) := by unfold Hid nextOf; rw [hr]
      rw [hr] at c10
      have c10' : w.cell? ⟨b, 10, none⟩ = some (.slice (some ⟨g, off, none⟩) 0 cap) := c10
      clear c10
      go_enter Tryz.func137, Tryz.ntmps137
      go_wp2_with fail
      go_ret
      rw [e.out]
      exact ⟨rfl, hh, RKeep.refl _ _ _⟩
    | cons n rest =>
      have e : Hid (nextOf r = (n, { r with ins := rest })) := by unfold Hid nextOf; rw [hr]
      have hl : r.ins.length = rest.length + 1 := by rw [hr]; simp
      rw [hl] at c10 hcap
      have c0 : w.cell? ⟨g, off, none⟩ = some (.int .i16 n) := by
        have := hcell 0 n (by rw [hr]; rfl)
        simpa using this
      by_cases hc1 : cap = 1
      · subst hc1
        have hrn : rest = [] := List.eq_nil_of_length_eq_zero (by omega)
        subst hrn
        have k := (RKeep.refl base b w).setB h4 10 (.slice (some ⟨g, off, none⟩) 0 0)
        have HF : Hid (RunAt base b stop { r with ins := [] } (w.setCell ⟨b, 10, none⟩ (.slice (some ⟨g, off, none⟩) 0 0)) ∧ RKeep base b w (w.setCell ⟨b, 10, none⟩ (.slice (some ⟨g, off, none⟩) 0 0))) :=
          ⟨⟨vv, _, rn_in h1 _, ownsRow9_keep h2 (fun g hg => Below.heap_setCell _ _ _ _ (RunAt.row_ne h1 h2 g hg)), .inl ⟨_, _, rfl, rfl⟩, h4, h5, h6⟩, k⟩
        have c10' : w.cell? ⟨b, 10, none⟩ = some (.slice (some ⟨g, off, none⟩) 1 1) := c10
        clear hcell k hr hh h1 c10
        go_enter Tryz.func137, Tryz.ntmps137
        go_wp2_with fail
        go_ret
        rw [e.out]
        exact ⟨rfl, HF.out⟩
      · have k := (RKeep.refl base b w).setB h4 10 (.slice (some ⟨g, off + 1, none⟩) rest.length (cap - 1))
        have HF : Hid (RunAt base b stop { r with ins := rest } (w.setCell ⟨b, 10, none⟩ (.slice (some ⟨g, off + 1, none⟩) rest.length (cap - 1))) ∧ RKeep base b w (w.setCell ⟨b, 10, none⟩ (.slice (some ⟨g, off + 1, none⟩) rest.length (cap - 1)))) := by
          refine ⟨⟨vv, _, rn_in h1 _, ownsRow9_keep h2 (fun g hg => Below.heap_setCell _ _ _ _ (RunAt.row_ne h1 h2 g hg)), ?_, h4, h5, h6⟩, k⟩
          refine InAt.below (w := w) (.inr ⟨g, off + 1, cap - 1, rfl, hg, by show rest.length ≤ cap - 1; omega, fun i m hm => ?_⟩) k.below
          have := hcell (i + 1) m (by rw [hr]; simpa using hm)
          rw [show off + 1 + i = off + (i + 1) from by omega]; exact this
        have hcap' : (rest.length : Int) + 1 ≤ (cap : Int) := by omega
        clear hcell k hr hh h1
        go_enter Tryz.func137, Tryz.ntmps137
        go_wp2_with fail
        go_ret
        rw [e.out]
        exact ⟨rfl, HF.out⟩

end Go.Proofs.YtiopfihjmkfdmaaGreatDoor

/- (runner) statement: assignments, reads, assertions. -/
namespace Go.Proofs.YtiopfihjmkfdmaaGreatDoor
open Go.RowKit
set_option maxRecDepth 100000
set_option maxHeartbeats 2000000

/-- 'runner.statement does with v what F says' -/
def StRuns (lo hi : Nat) (w0 : World) (v : Value) (F : Sp.Rst → Sp.Out) : Prop :=
  ∀ (w : World) (base b : Nat) (r : Sp.Rst), SameOn lo hi w0 w → hi ≤ base → RunAt base b 0 r w → Calls Tryz.prog 102 #[.pointer (some ⟨b, 0, none⟩), v] w (OutPost base b w (F r))

theorem below_drew1 (w : World) : Below w.heap.size w w.drew := (Below.refl _ _).drew

theorem assign_runs (p : Int) (lo hi : Nat) (w0 : World) (k : Nat) (hk : k < 8) (tv : TypeId) (uv : Value) (f : Sp.Ev) (hf : SumRuns (.iface tv uv) f) :
    StRuns lo hi w0 (.iface 279 (.agg #[.int .i64 p, .int .i64 (k : Nat), .iface tv uv])) (Sp.doAssign k f) := by
  have hcall : ∀ (w : World) (base b : Nat) (r : Sp.Rst), RunAt base b 0 r w → Calls Tryz.prog 136 #[.pointer (some ⟨b, 0, none⟩), .agg #[.int .i64 p, .int .i64 (k : Nat), .iface tv uv]] w (OutPost base b w (Sp.doAssign k f r)) := by
    intro w base b r h
    have hk' : (k : Int) < 8 := by omega
    have kw := RKeep.of_below (b := b) (below_alloc1 w (.cells #[.int .i64 p, .int .i64 (k : Nat), .iface tv uv] 279)) h.le
    have h1 := hf base b r _ (h.below (below_alloc1 w (.cells #[.int .i64 p, .int .i64 (k : Nat), .iface tv uv] 279)))
    have hn := heap_alloc_new w (.cells #[.int .i64 p, .int .i64 (k : Nat), .iface tv uv] 279)
    have hnb : w.heap.size ≠ b := by have := h.lt; omega
    have HN : Hid (_ = _) := hn
    clear hn
    cases ef : f r.st with
    | error s =>
      rw [ef] at h1
      have E : Hid (Sp.doAssign k f r = (r, some s)) := by unfold Hid Sp.doAssign; rw [ef]
      go_enter Tryz.func136, Tryz.ntmps136
      go_wp2_with fail
      refine h1.mono ?_
      rintro e w1 ⟨m, rfl, r1, k1⟩
      go_wp2_with fail
      go_ret
      rw [E.out]
      exact ⟨rfl, r1, kw.trans k1⟩
    | ok n =>
      rw [ef] at h1
      have E : Hid (Sp.doAssign k f r = (Sp.put k n r, none)) := by unfold Hid Sp.doAssign; rw [ef]
      go_enter Tryz.func136, Tryz.ntmps136
      go_wp2_with fail
      refine h1.mono ?_
      rintro e w1 ⟨rfl, r1, k1⟩
      have hn1 := k1.cell HN.out hnb (by decide)
      have c1 := cell_of hn1 1 (v := .int .i64 (k : Nat)) rfl
      obtain ⟨⟨x, cx⟩, fx⟩ := r1.storeCell k hk
      have r2 := (r1.below (below_drew1 w1)).put k hk n
      have R2 : Hid (_ ∧ _) := r2
      have K1 : Hid (RKeep base b w w1.drew) := (kw.trans k1).drew
      clear r2 hn1
      go_wp2_with fail
      go_region_with (fail)
      all_goals
        go_wp2_with fail
        go_ret
        rw [E.out]
        exact ⟨rfl, R2.out.1, K1.out.trans R2.out.2⟩
  intro w base b r _ _ h
  have h1 := ts_1_1 (.agg #[.int .i64 p, .int .i64 (k : Nat), .iface tv uv])
  have kw := RKeep.of_below (b := b) (below_alloc1 w (.cells #[.int .i64 p, .int .i64 (k : Nat), .iface tv uv] 279)) h.le
  have hc := hcall _ base b r (h.below (below_alloc1 w (.cells #[.int .i64 p, .int .i64 (k : Nat), .iface tv uv] 279)))
  clear hcall
  generalize Sp.doAssign k f r = out at hc ⊢
  obtain ⟨r', _ | s⟩ := out
  · go_enter Tryz.func102, Tryz.ntmps102
    go_wp2_with fail
    refine hc.mono ?_
    rintro e w1 ⟨rfl, r1, k1⟩
    go_wp2_with fail
    go_ret
    exact ⟨rfl, r1, kw.trans k1⟩
  · go_enter Tryz.func102, Tryz.ntmps102
    go_wp2_with fail
    refine hc.mono ?_
    rintro e w1 ⟨rfl, r1, k1⟩
    go_wp2_with fail
    go_ret
    exact ⟨rfl, r1, kw.trans k1⟩

theorem doRead_eq (k : Nat) (r : Sp.Rst) : Sp.doRead k r = (Sp.put k (nextOf r).1 (nextOf r).2, none) := by
  unfold Sp.doRead nextOf
  cases r.ins <;> rfl

theorem read_runs (p : Int) (lo hi : Nat) (w0 : World) (k : Nat) (hk : k < 8) :
    StRuns lo hi w0 (.iface 283 (.agg #[.int .i64 p, .int .i64 (k : Nat)])) (Sp.doRead k) := by
  intro w base b r _ _ h
  rw [doRead_eq]
  have h1 := ts_2_1 (.agg #[.int .i64 p, .int .i64 (k : Nat)])
  have h2 := ts_2_2 (.agg #[.int .i64 p, .int .i64 (k : Nat)])
  have hk' : (k : Int) < 8 := by omega
  have kw := RKeep.of_below (b := b) (below_alloc1 w (.cells #[.int .i64 p, .int .i64 (k : Nat)] 283)) h.le
  have hn := heap_alloc_new w (.cells #[.int .i64 p, .int .i64 (k : Nat)] 283)
  have hnb : w.heap.size ≠ b := by have := h.lt; omega
  have HN : Hid (_ = _) := hn
  clear hn
  go_enter Tryz.func102, Tryz.ntmps102
  have hA := h.below (below_alloc1 w (.cells #[.int .i64 p, .int .i64 (k : Nat)] 283))
  have hc := next_calls (hA.below (below_drew1 _))
  have KA : Hid (RKeep base b w (w.alloc (.cells #[.int .i64 p, .int .i64 (k : Nat)] 283)).drew) := kw.drew
  clear hA kw
  go_wp2_with fail
  go_region_with (go_at_call 137; go_must (refine hc.mono ?_); rintro e w1 ⟨rfl, r1, k1⟩; have hn1 := k1.cell (w := (w.alloc (.cells #[.int .i64 p, .int .i64 (k : Nat)] 283)).drew) HN.out hnb (by decide); have c1 := cell_of hn1 1 (v := .int .i64 (k : Nat)) rfl; obtain ⟨⟨x, cx⟩, fx⟩ := r1.storeCell k hk)
  all_goals
    have R2 : Hid (_ ∧ _) := r1.put k hk (nextOf r).1
    have K2 : Hid (RKeep base b w w1) := KA.out.trans k1
    clear k1 hn1 c1 cx fx
    go_wp2_with fail
    go_ret
    exact ⟨rfl, R2.out.1, K2.out.trans R2.out.2⟩

theorem assert_runs (p q : Int) (lo hi : Nat) (w0 : World) (k : Nat) (hk : k < 6) (tl : TypeId) (ul : Value) (tr : TypeId) (ur : Value) (f g : Sp.Ev) (hf : SumRuns (.iface tl ul) f) (hg : SumRuns (.iface tr ur) g) :
    StRuns lo hi w0 (.iface 287 (.agg #[.int .i64 p, .int .i64 q, .int .i64 (k : Nat), .iface tl ul, .iface tr ur])) (Sp.doAssert q (Sp.evCond k f g)) := by
  have hcall : ∀ (w : World) (base b : Nat) (r : Sp.Rst), RunAt base b 0 r w → Calls Tryz.prog 138 #[.pointer (some ⟨b, 0, none⟩), .agg #[.int .i64 p, .int .i64 q, .int .i64 (k : Nat), .iface tl ul, .iface tr ur]] w (OutPost base b w (Sp.doAssert q (Sp.evCond k f g) r)) := by
    intro w base b r h
    have kw := RKeep.of_below (b := b) (below_alloc1 w (.cells #[.int .i64 p, .int .i64 q, .int .i64 (k : Nat), .iface tl ul, .iface tr ur] 287)) h.le
    have h1 := rcond_calls k hk tl ul tr ur f g hf hg base b r _ (h.below (below_alloc1 w (.cells #[.int .i64 p, .int .i64 q, .int .i64 (k : Nat), .iface tl ul, .iface tr ur] 287)))
    have hn := heap_alloc_new w (.cells #[.int .i64 p, .int .i64 q, .int .i64 (k : Nat), .iface tl ul, .iface tr ur] 287)
    have hnb : w.heap.size ≠ b := by have := h.lt; omega
    have HN : Hid (_ = _) := hn
    clear hn
    cases ef : Sp.evCond k f g r.st with
    | error s =>
      rw [ef] at h1
      have E : Hid (Sp.doAssert q (Sp.evCond k f g) r = (r, some s)) := by unfold Hid Sp.doAssert; rw [ef]
      go_enter Tryz.func138, Tryz.ntmps138
      go_wp2_with fail
      refine h1.mono ?_
      rintro e w1 ⟨m, rfl, r1, k1⟩
      go_wp2_with fail
      go_ret
      rw [E.out]
      exact ⟨rfl, r1, kw.trans k1⟩
    | ok n =>
      rw [ef] at h1
      cases n with
      | true =>
        have E : Hid (Sp.doAssert q (Sp.evCond k f g) r = (r, none)) := by unfold Hid Sp.doAssert; rw [ef]
        go_enter Tryz.func138, Tryz.ntmps138
        go_wp2_with fail
        refine h1.mono ?_
        rintro e w1 ⟨rfl, r1, k1⟩
        go_wp2_with fail
        go_ret
        rw [E.out]
        exact ⟨rfl, r1, kw.trans k1⟩
      | false =>
        have E : Hid (Sp.doAssert q (Sp.evCond k f g) r = (r, some q)) := by unfold Hid Sp.doAssert; rw [ef]
        go_enter Tryz.func138, Tryz.ntmps138
        go_wp2_with fail
        refine h1.mono ?_
        rintro e w1 ⟨rfl, r1, k1⟩
        have hn1 := k1.cell HN.out hnb (by decide)
        have c1 := cell_of hn1 1 (v := .int .i64 q) rfl
        clear hn1
        go_wp2_with fail
        refine (stopAt_calls r1 q).mono ?_
        rintro e w2 ⟨rfl, r2, k2⟩
        go_wp2_with fail
        go_ret
        rw [E.out]
        exact ⟨rfl, r2, (kw.trans k1).trans k2⟩
  intro w base b r _ _ h
  have h1 := ts_3_1 (.agg #[.int .i64 p, .int .i64 q, .int .i64 (k : Nat), .iface tl ul, .iface tr ur])
  have h2 := ts_3_2 (.agg #[.int .i64 p, .int .i64 q, .int .i64 (k : Nat), .iface tl ul, .iface tr ur])
  have h3 := ts_3_3 (.agg #[.int .i64 p, .int .i64 q, .int .i64 (k : Nat), .iface tl ul, .iface tr ur])
  have kw := RKeep.of_below (b := b) (below_alloc1 w (.cells #[.int .i64 p, .int .i64 q, .int .i64 (k : Nat), .iface tl ul, .iface tr ur] 287)) h.le
  have hc := hcall _ base b r (h.below (below_alloc1 w (.cells #[.int .i64 p, .int .i64 q, .int .i64 (k : Nat), .iface tl ul, .iface tr ur] 287)))
  clear hcall
  generalize Sp.doAssert q (Sp.evCond k f g) r = out at hc ⊢
  obtain ⟨r', _ | s⟩ := out
  · go_enter Tryz.func102, Tryz.ntmps102
    go_wp2_with fail
    refine hc.mono ?_
    rintro e w1 ⟨rfl, r1, k1⟩
    go_wp2_with fail
    go_ret
    exact ⟨rfl, r1, kw.trans k1⟩
  · go_enter Tryz.func102, Tryz.ntmps102
    go_wp2_with fail
    refine hc.mono ?_
    rintro e w1 ⟨rfl, r1, k1⟩
    go_wp2_with fail
    go_ret
    exact ⟨rfl, r1, kw.trans k1⟩

end Go.Proofs.YtiopfihjmkfdmaaGreatDoor
