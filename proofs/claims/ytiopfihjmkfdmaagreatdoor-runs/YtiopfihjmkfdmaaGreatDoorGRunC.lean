/- (runner) block. -/
import Derived.Test.YtiopfihjmkfdmaaGreatDoorGRunN
import Derived.Test.YtiopfihjmkfdmaaGreatDoorGProgram
namespace Go.Proofs.YtiopfihjmkfdmaaGreatDoor
open Go.RowKit
set_option maxRecDepth 100000
set_option maxHeartbeats 2000000

theorem visit_calls {base b : Nat} {r : Sp.Rst} {w : World} (h : RunAt base b 0 r w) (p : Int) :
    Calls Tryz.prog 71 #[.pointer (some ⟨b, 0, none⟩), .int .i64 p] w (OutPost base b w (Sp.visit p r)) := by
  by_cases h0 : r.fuel = 0
  · exact visit_spent h p h0
  · exact visit_goes h p h0

/-- a statement's point -/
def WhereIs (t : TypeId) (u : Value) (p : Int) : Prop := ∀ w, (method 587 t u "Where").run Tryz.prog w = .ok (72, .int .i64 p) w

theorem pwhere_calls (p : Int) (w : World) : Calls Tryz.prog 72 #[.int .i64 p] w fun e w' => e = .returned (.int .i64 p) ∧ w' = w := by
  go_enter Tryz.func72, Tryz.ntmps72
  go_wp2_with fail
  go_ret
  exact ⟨rfl, rfl⟩

/-- 'runner.block does with v what these say' -/
def BlkRuns (lo hi : Nat) (w0 : World) (v : Value) (xs : List (Int × (Sp.Rst → Sp.Out))) : Prop :=
  ∀ (w : World) (base b : Nat) (r : Sp.Rst), SameOn lo hi w0 w → hi ≤ base → RunAt base b 0 r w → Calls Tryz.prog 70 #[.pointer (some ⟨b, 0, none⟩), v] w (OutPost base b w (Sp.steps xs r))

theorem block_none (lo hi : Nat) (w0 : World) (a : Option Addr) (c : Nat) : BlkRuns lo hi w0 (.slice a 0 c) [] := by
  intro w base b r _ _ h
  go_enter Tryz.func70, Tryz.ntmps70
  go_wp2_with fail
  refine wp_loop_rounds 1 ?_
  rw [rounds_succ]
  go_wp2_with fail
  go_ret
  exact ⟨rfl, h, RKeep.refl _ _ _⟩

theorem RKeep.same {base b lo hi : Nat} {w w1 w2 : World} (h : SameOn lo hi w w1) (k : RKeep base b w1 w2) (hh : hi ≤ base) : SameOn lo hi w w2 :=
  fun i h1 h2 hn => by rw [k.below.block i (by omega)]; exact h i h1 h2 hn

theorem block_runs (lo hi : Nat) (w0 : World) (v : Value) (xs : List (Int × (Sp.Rst → Sp.Out))) (vs : List Value) (ho : w0.ownsRow lo 234 1 v xs.length vs) (hg : ∀ g, v.ownBlock = some g → g < hi)
    (he : ∀ (i : Nat) (u : Value) (x : Int × (Sp.Rst → Sp.Out)), vs[i]? = some u → xs[i]? = some x → ∃ t y, u = .iface t y ∧ WhereIs t y x.1 ∧ StRuns lo hi w0 u x.2) : BlkRuns lo hi w0 v xs := by
  have hvl : vs.length = xs.length := by simpa using ho.1
  rcases ho.2 with ⟨rfl, hz⟩ | ⟨g, cap, cur, rfl, hlg, hh, hnc, hcm, hcs, htake⟩
  · have : xs = [] := List.eq_nil_of_length_eq_zero hz
    subst this
    exact block_none lo hi w0 none 0
  · intro w base b r hso hhB h
    have hgl := hg g rfl
    have hcell : ∀ (i : Nat) (u : Value), vs[i]? = some u → w.cell? ⟨g, i, none⟩ = some u := by
      intro i u hu
      have h1 : w.heap[g]? = some (.cells cur 234) := by rw [hso g hlg hgl (by rw [hh]; exact not_num (by decide))]; exact hh
      refine cell_of h1 i ?_
      have h2 : i < vs.length := (List.getElem?_eq_some_iff.1 hu).1
      have h3 : cur.toList[i]? = vs[i]? := by
        rw [← htake, List.getElem?_take, if_pos (by omega)]
      rw [← Array.getElem?_toList, h3]; exact hu
    have hn : (xs.length : Int) ≤ 9223372036854775807 := by unfold maxLen at hcm; omega
    clear htake hcs hcm
    go_enter Tryz.func70, Tryz.ntmps70
    go_wp2_with fail
    go_loopw [6, 9] (fun _ i wr => ∃ (j : Nat) (rj : Sp.Rst), j ≤ xs.length ∧ i = .int .i64 j ∧ Hid (Sp.steps xs r = Sp.steps (xs.drop j) rj ∧ RunAt base b 0 rj wr ∧ RKeep base b w wr)) (fun _ i _ => xs.length - (intOf i).toNat)
    case atStart => exact ⟨0, r, Nat.zero_le _, rfl, rfl, h, RKeep.refl _ _ _⟩
    case round =>
      obtain ⟨j, rj, hj, rfl, hq⟩ := hrel
      by_cases hjlt : j < xs.length
      · obtain ⟨u, hu⟩ : ∃ u, vs[j]? = some u := ⟨_, List.getElem?_eq_getElem (by omega)⟩
        obtain ⟨x, hx⟩ : ∃ x, xs[j]? = some x := ⟨_, List.getElem?_eq_getElem hjlt⟩
        obtain ⟨p, F⟩ := x
        obtain ⟨t, y, rfl, hwh, hst⟩ := he j u (p, F) hu hx
        have hcu : wr.cell? ⟨g, j, none⟩ = some (.iface t y) := by
          rw [hq.out.2.2.below.cell (by show g < base; omega)]; exact hcell j _ hu
        have hdrop : xs.drop j = (p, F) :: xs.drop (j + 1) := by
          rw [List.drop_eq_getElem_cons hjlt]
          have := (List.getElem?_eq_some_iff.1 hx).2
          rw [this]
        have HS : Hid (Sp.steps xs r = Sp.andThen (Sp.andThen (Sp.visit p rj) F) (Sp.steps (xs.drop (j + 1)))) := by
          unfold Hid; rw [hq.out.1, hdrop]; rfl
        have hv := visit_calls hq.out.2.1 p
        have hwm : ∀ w, (method 587 t y "Where").run Tryz.prog w = .ok (72, .int .i64 p) w := hwh
        clear hu hx hdrop he hcell
        go_wp2_with fail
        refine (pwhere_calls p _).mono ?_
        rintro e w1 ⟨rfl, rfl⟩
        go_wp2_with fail
        refine hv.mono ?_
        intro e w1 hp
        generalize Sp.visit p rj = o1 at hp HS
        obtain ⟨r1, _ | s⟩ := o1
        · obtain ⟨rfl, r1a, k1⟩ := hp
          have hs := hst w1 base b r1 (RKeep.same hso (hq.out.2.2.trans k1) hhB) hhB r1a
          go_wp2_with fail
          refine hs.mono ?_
          intro e w2 hp2
          have HS2 : Hid (Sp.steps xs r = Sp.andThen (F r1) (Sp.steps (xs.drop (j + 1)))) := HS
          clear hs HS
          generalize F r1 = o2 at hp2 HS2
          obtain ⟨r2, _ | s⟩ := o2
          · obtain ⟨rfl, r2a, k2⟩ := hp2
            have HQ : Hid (Sp.steps xs r = Sp.steps (xs.drop (j + 1)) r2 ∧ RunAt base b 0 r2 w2 ∧ RKeep base b w w2) := ⟨HS2, r2a, (hq.out.2.2.trans k1).trans k2⟩
            clear HS2 r2a k2 k1 r1a
            go_wp2_with fail
            exact ⟨⟨j + 1, r2, by omega, by go_num, HQ⟩, by simp [intOf]; omega⟩
          · obtain ⟨rfl, r2a, k2⟩ := hp2
            have E : Hid (Sp.steps xs r = (r2, some s)) := HS2
            have K : Hid (RKeep base b w w2) := (hq.out.2.2.trans k1).trans k2
            clear HS2 k2 k1
            go_wp2_with fail
            go_ret
            rw [E.out]
            exact ⟨rfl, r2a, K.out⟩
        · obtain ⟨rfl, r1a, k1⟩ := hp
          have E : Hid (Sp.steps xs r = (r1, some s)) := HS
          have K : Hid (RKeep base b w w1) := hq.out.2.2.trans k1
          clear HS k1
          go_wp2_with fail
          go_ret
          rw [E.out]
          exact ⟨rfl, r1a, K.out⟩
      · have E : Hid (Sp.steps xs r = (rj, none)) := by
          unfold Hid
          rw [hq.out.1, List.drop_of_length_le (by omega)]
          rfl
        go_wp2_with fail
        go_ret
        rw [E.out]
        exact ⟨rfl, hq.out.2.1, hq.out.2.2⟩

end Go.Proofs.YtiopfihjmkfdmaaGreatDoor

/- (runner) branch, loop; statement: if, while. -/
namespace Go.Proofs.YtiopfihjmkfdmaaGreatDoor
open Go.RowKit
set_option maxRecDepth 100000
set_option maxHeartbeats 2000000

/-- no fuel is won -/
def Wanes (F : Sp.Rst → Sp.Out) : Prop := ∀ r, (F r).1.fuel ≤ r.fuel

theorem visit_wanes (p : Int) : Wanes (Sp.visit p) := by
  intro r
  unfold Sp.visit
  split
  · exact Nat.le_refl _
  · show r.fuel - 1 ≤ r.fuel; omega

theorem andThen_wanes {a : Sp.Out} {F : Sp.Rst → Sp.Out} {n : Nat} (ha : a.1.fuel ≤ n) (hF : Wanes F) : (Sp.andThen a F).1.fuel ≤ n := by
  obtain ⟨r, _ | s⟩ := a
  · exact Nat.le_trans (hF r) ha
  · exact ha

theorem steps_wanes : ∀ (xs : List (Int × (Sp.Rst → Sp.Out))), (∀ x ∈ xs, Wanes x.2) → Wanes (Sp.steps xs)
  | [], _ => fun r => Nat.le_refl _
  | (p, F) :: xs, h => fun r => by
    have h1 : (Sp.andThen (Sp.visit p r) F).1.fuel ≤ r.fuel := andThen_wanes (visit_wanes p r) (h (p, F) (by simp))
    exact andThen_wanes h1 (steps_wanes xs (fun x hx => h x (by simp [hx])))

theorem loopF_wanes (c : List Int → Except Int Bool) (F : Sp.Rst → Sp.Out) (hF : Wanes F) (p : Int) : ∀ n, Wanes (Sp.loopF c F p n)
  | 0 => fun r => Nat.le_refl _
  | n + 1 => fun r => by
    unfold Sp.loopF
    split
    · exact Nat.le_refl _
    · exact Nat.le_refl _
    · exact andThen_wanes (andThen_wanes (hF r) (visit_wanes p)) (loopF_wanes c F hF p n)

/-- the fuel that is left, by the runner's block -/
def fuelOf (b : Nat) (w : World) : Nat := match w.cell? ⟨b, 11, none⟩ with
  | some (.int _ q) => q.toNat
  | _ => 0

theorem RunAt.fuel {base b : Nat} {stop : Int} {r : Sp.Rst} {w : World} (h : RunAt base b stop r w) : fuelOf b w = r.fuel := by
  obtain ⟨vv, iv, h1, _⟩ := h
  unfold fuelOf
  rw [cell_of h1 11 (v := .int .i64 (r.fuel : Int)) rfl]
  simp

theorem visit_less {p : Int} {r r' : Sp.Rst} (h : Sp.visit p r = (r', none)) : r'.fuel < r.fuel := by
  unfold Sp.visit at h
  split at h
  · cases h
  · cases h; show r.fuel - 1 < r.fuel; omega

theorem loop_calls' (p : Int) (lo hi : Nat) (w0 : World) (k : Nat) (hk : k < 6) (tl : TypeId) (ul : Value) (tr : TypeId) (ur : Value) (f g : Sp.Ev) (hf : SumRuns (.iface tl ul) f) (hg : SumRuns (.iface tr ur) g) (av : Option Addr) (nv cv : Nat) (xs : List (Int × (Sp.Rst → Sp.Out))) (hb : BlkRuns lo hi w0 (.slice av nv cv) xs) (hw : Wanes (Sp.steps xs))
    (w : World) (base b : Nat) (r : Sp.Rst) (hso : SameOn lo hi w0 w) (hhB : hi ≤ base) (h : RunAt base b 0 r w) :
    Calls Tryz.prog 140 #[.pointer (some ⟨b, 0, none⟩), .agg #[.int .i64 p, .int .i64 (k : Nat), .iface tl ul, .iface tr ur, .slice av nv cv]] w (OutPost base b w (Sp.doWhile (Sp.evCond k f g) (Sp.steps xs) p r)) := by
  have hle := h.le
  have kw := RKeep.of_below (b := b) (below_alloc1 w (.cells #[.int .i64 p, .int .i64 (k : Nat), .iface tl ul, .iface tr ur, .slice av nv cv] 293)) hle
  have h1 := h.below (below_alloc1 w (.cells #[.int .i64 p, .int .i64 (k : Nat), .iface tl ul, .iface tr ur, .slice av nv cv] 293))
  have hn := heap_alloc_new w (.cells #[.int .i64 p, .int .i64 (k : Nat), .iface tl ul, .iface tr ur, .slice av nv cv] 293)
  have hnb : w.heap.size ≠ b := by have := h.lt; omega
  have HN : Hid (_ = _) := hn
  clear hn
  go_enter Tryz.func140, Tryz.ntmps140
  go_wp2_with fail
  generalize w.alloc (.cells #[.int .i64 p, .int .i64 (k : Nat), .iface tl ul, .iface tr ur, .slice av nv cv] 293) = wa at *
  go_loopw [] (fun wr => ∃ (rj : Sp.Rst) (m : Nat), Hid (Sp.doWhile (Sp.evCond k f g) (Sp.steps xs) p r = Sp.loopF (Sp.evCond k f g) (Sp.steps xs) p m rj ∧ rj.fuel < m ∧ RunAt base b 0 rj wr ∧ RKeep base b wa wr)) (fun wr => fuelOf b wr)
  case atStart => exact ⟨r, r.fuel + 1, rfl, Nat.lt_succ_self _, h1, RKeep.refl _ _ _⟩
  case round =>
    obtain ⟨rj, m, hq⟩ := hrel
    obtain ⟨m, rfl⟩ : ∃ m', m = m' + 1 := ⟨m - 1, by have := hq.out.2.1; omega⟩
    have hn1 := hq.out.2.2.2.cell HN.out hnb (by decide)
    have c0 := cell_of hn1 0 (v := .int .i64 p) rfl
    have c1 := cell_of hn1 1 (v := .int .i64 (k : Nat)) rfl
    have c2 := cell_of hn1 2 (v := .iface tl ul) rfl
    have c3 := cell_of hn1 3 (v := .iface tr ur) rfl
    have c4 := cell_of hn1 4 (v := .slice av nv cv) rfl
    have hc := rcond_calls k hk tl ul tr ur f g hf hg base b rj wr hq.out.2.2.1
    go_wp2_with fail
    refine hc.mono ?_
    intro e w1 hp
    clear hc
    cases ec : Sp.evCond k f g rj.st with
    | error s =>
      rw [ec] at hp
      obtain ⟨hb', rfl, r1, k1⟩ := hp
      have E : Hid (Sp.doWhile (Sp.evCond k f g) (Sp.steps xs) p r = (rj, some s)) := by
        unfold Hid; rw [hq.out.1]; unfold Sp.loopF; rw [ec]
      have K : Hid (RKeep base b w w1) := (kw.trans hq.out.2.2.2).trans k1
      clear k1 ec
      go_wp2_with fail
      go_ret
      rw [E.out]
      exact ⟨rfl, r1, K.out⟩
    | ok hld =>
      rw [ec] at hp
      obtain ⟨rfl, r1, k1⟩ := hp
      cases hld with
      | false =>
        have E : Hid (Sp.doWhile (Sp.evCond k f g) (Sp.steps xs) p r = (rj, none)) := by
          unfold Hid; rw [hq.out.1]; unfold Sp.loopF; rw [ec]
        have K : Hid (RKeep base b w w1) := (kw.trans hq.out.2.2.2).trans k1
        clear k1 ec
        go_wp2_with fail
        go_ret
        rw [E.out]
        exact ⟨rfl, r1, K.out⟩
      | true =>
        have E : Hid (Sp.doWhile (Sp.evCond k f g) (Sp.steps xs) p r = Sp.andThen (Sp.andThen (Sp.steps xs rj) (Sp.visit p)) (Sp.loopF (Sp.evCond k f g) (Sp.steps xs) p m)) := by
          unfold Hid; rw [hq.out.1]; conv => lhs; unfold Sp.loopF
          rw [ec]
        have K1 : Hid (RKeep base b wa w1) := hq.out.2.2.2.trans k1
        have hn2 := K1.out.cell HN.out hnb (by decide)
        have d0 := cell_of hn2 0 (v := .int .i64 p) rfl
        have d4 := cell_of hn2 4 (v := .slice av nv cv) rfl
        have hbk := hb w1 base b rj (RKeep.same hso (kw.trans K1.out) hhB) hhB r1
        have hwj := hw rj
        clear k1 ec hn2 hn1 c0 c1 c2 c3 c4
        go_wp2_with fail
        refine hbk.mono ?_
        intro e w2 hp2
        clear hbk
        generalize Sp.steps xs rj = o2 at hp2 E hwj
        obtain ⟨r2, _ | s⟩ := o2
        · obtain ⟨rfl, r2a, k2⟩ := hp2
          have E2 : Hid (Sp.doWhile (Sp.evCond k f g) (Sp.steps xs) p r = Sp.andThen (Sp.visit p r2) (Sp.loopF (Sp.evCond k f g) (Sp.steps xs) p m)) := E
          have K2 : Hid (RKeep base b wa w2) := K1.out.trans k2
          have hn3 := K2.out.cell HN.out hnb (by decide)
          have e0 := cell_of hn3 0 (v := .int .i64 p) rfl
          have hvs := visit_calls r2a p
          have hvl : ∀ r', Sp.visit p r2 = (r', none) → r'.fuel < r2.fuel := fun r' h => visit_less h
          have hwj' : r2.fuel ≤ rj.fuel := hwj
          clear E k2 hn3 K1 d0 d4
          go_wp2_with fail
          refine (pwhere_calls p _).mono ?_
          rintro e w3 ⟨rfl, rfl⟩
          go_wp2_with fail
          refine hvs.mono ?_
          intro e w3 hp3
          clear hvs
          generalize Sp.visit p r2 = o3 at hp3 E2 hvl
          obtain ⟨r3, _ | s⟩ := o3
          · obtain ⟨rfl, r3a, k3⟩ := hp3
            have hl3 := hvl r3 rfl
            have HQ : Hid (Sp.doWhile (Sp.evCond k f g) (Sp.steps xs) p r = Sp.loopF (Sp.evCond k f g) (Sp.steps xs) p m r3 ∧ r3.fuel < m ∧ RunAt base b 0 r3 w3 ∧ RKeep base b wa w3) := ⟨E2, by have := hq.out.2.1; omega, r3a, K2.out.trans k3⟩
            have HF : Hid (fuelOf b w3 < fuelOf b wr) := by unfold Hid; rw [r3a.fuel, hq.out.2.2.1.fuel]; omega
            clear E2 hvl k3 K2 r2a
            go_wp2_with fail
            exact ⟨⟨r3, m, HQ⟩, HF.out⟩
          · obtain ⟨rfl, r3a, k3⟩ := hp3
            have E3 : Hid (Sp.doWhile (Sp.evCond k f g) (Sp.steps xs) p r = (r3, some s)) := E2
            have K3 : Hid (RKeep base b w w3) := (kw.trans K2.out).trans k3
            clear E2 hvl k3 K2 r2a
            go_wp2_with fail
            go_ret
            rw [E3.out]
            exact ⟨rfl, r3a, K3.out⟩
        · obtain ⟨rfl, r2a, k2⟩ := hp2
          have E2 : Hid (Sp.doWhile (Sp.evCond k f g) (Sp.steps xs) p r = (r2, some s)) := E
          have K2 : Hid (RKeep base b w w2) := (kw.trans K1.out).trans k2
          clear E k2 K1 d0 d4
          go_wp2_with fail
          go_ret
          rw [E2.out]
          exact ⟨rfl, r2a, K2.out⟩

theorem while_runs (p : Int) (lo hi : Nat) (w0 : World) (k : Nat) (hk : k < 6) (tl : TypeId) (ul : Value) (tr : TypeId) (ur : Value) (f g : Sp.Ev) (hf : SumRuns (.iface tl ul) f) (hg : SumRuns (.iface tr ur) g) (av : Option Addr) (nv cv : Nat) (xs : List (Int × (Sp.Rst → Sp.Out))) (hb : BlkRuns lo hi w0 (.slice av nv cv) xs) (hw : Wanes (Sp.steps xs)) :
    StRuns lo hi w0 (.iface 293 (.agg #[.int .i64 p, .int .i64 (k : Nat), .iface tl ul, .iface tr ur, .slice av nv cv])) (Sp.doWhile (Sp.evCond k f g) (Sp.steps xs) p) := by
  intro w base b r hso hhB h
  have h1 := ts_5_1 (.agg #[.int .i64 p, .int .i64 (k : Nat), .iface tl ul, .iface tr ur, .slice av nv cv])
  have h2 := ts_5_2 (.agg #[.int .i64 p, .int .i64 (k : Nat), .iface tl ul, .iface tr ur, .slice av nv cv])
  have h3 := ts_5_3 (.agg #[.int .i64 p, .int .i64 (k : Nat), .iface tl ul, .iface tr ur, .slice av nv cv])
  have h4 := ts_5_4 (.agg #[.int .i64 p, .int .i64 (k : Nat), .iface tl ul, .iface tr ur, .slice av nv cv])
  have h5 := ts_5_5 (.agg #[.int .i64 p, .int .i64 (k : Nat), .iface tl ul, .iface tr ur, .slice av nv cv])
  have kw := RKeep.of_below (b := b) (below_alloc1 w (.cells #[.int .i64 p, .int .i64 (k : Nat), .iface tl ul, .iface tr ur, .slice av nv cv] 293)) h.le
  have hc := loop_calls' p lo hi w0 k hk tl ul tr ur f g hf hg av nv cv xs hb hw _ base b r (RKeep.same hso kw hhB) hhB (h.below (below_alloc1 w (.cells #[.int .i64 p, .int .i64 (k : Nat), .iface tl ul, .iface tr ur, .slice av nv cv] 293)))
  clear hb hw
  generalize Sp.doWhile (Sp.evCond k f g) (Sp.steps xs) p r = out at hc ⊢
  obtain ⟨r', _ | s⟩ := out
  · go_enter Tryz.func102, Tryz.ntmps102
    go_wp2_with fail
    refine hc.mono ?_
    rintro e w1 ⟨rfl, r1, k1⟩
    go_wp2_with fail
    go_ret
    exact ⟨rfl, r1, kw.trans k1⟩
  · go_enter Tryz.func102, Tryz.ntmps102
    go_wp2_with fail
    refine hc.mono ?_
    rintro e w1 ⟨rfl, r1, k1⟩
    go_wp2_with fail
    go_ret
    exact ⟨rfl, r1, kw.trans k1⟩

theorem branch_runs (p : Int) (he : Bool) (lo hi : Nat) (w0 : World) (k : Nat) (hk : k < 6) (tl : TypeId) (ul : Value) (tr : TypeId) (ur : Value) (f g : Sp.Ev) (hf : SumRuns (.iface tl ul) f) (hg : SumRuns (.iface tr ur) g) (av : Option Addr) (nv cv : Nat) (xs : List (Int × (Sp.Rst → Sp.Out))) (hb : BlkRuns lo hi w0 (.slice av nv cv) xs) (ae : Option Addr) (ne ce : Nat) (ys : List (Int × (Sp.Rst → Sp.Out))) (hbe : BlkRuns lo hi w0 (.slice ae ne ce) ys)
    (w : World) (base b : Nat) (r : Sp.Rst) (hso : SameOn lo hi w0 w) (hhB : hi ≤ base) (h : RunAt base b 0 r w) :
    Calls Tryz.prog 139 #[.pointer (some ⟨b, 0, none⟩), .agg #[.int .i64 p, .int .i64 (k : Nat), .iface tl ul, .iface tr ur, .slice av nv cv, .slice ae ne ce, .bool he]] w (OutPost base b w (Sp.doIf (Sp.evCond k f g) (Sp.steps xs) (Sp.steps ys) r)) := by
  have kw := RKeep.of_below (b := b) (below_alloc1 w (.cells #[.int .i64 p, .int .i64 (k : Nat), .iface tl ul, .iface tr ur, .slice av nv cv, .slice ae ne ce, .bool he] 290)) h.le
  have hc := rcond_calls k hk tl ul tr ur f g hf hg base b r _ (h.below (below_alloc1 w (.cells #[.int .i64 p, .int .i64 (k : Nat), .iface tl ul, .iface tr ur, .slice av nv cv, .slice ae ne ce, .bool he] 290)))
  have hn := heap_alloc_new w (.cells #[.int .i64 p, .int .i64 (k : Nat), .iface tl ul, .iface tr ur, .slice av nv cv, .slice ae ne ce, .bool he] 290)
  have hnb : w.heap.size ≠ b := by have := h.lt; omega
  have HN : Hid (_ = _) := hn
  clear hn
  cases ec : Sp.evCond k f g r.st with
  | error s =>
    rw [ec] at hc
    have E : Hid (Sp.doIf (Sp.evCond k f g) (Sp.steps xs) (Sp.steps ys) r = (r, some s)) := by unfold Hid Sp.doIf; rw [ec]
    go_enter Tryz.func139, Tryz.ntmps139
    go_wp2_with fail
    refine hc.mono ?_
    rintro e w1 ⟨hb', rfl, r1, k1⟩
    go_wp2_with fail
    go_ret
    rw [E.out]
    exact ⟨rfl, r1, kw.trans k1⟩
  | ok hld =>
    rw [ec] at hc
    cases hld with
    | true =>
      have E : Hid (Sp.doIf (Sp.evCond k f g) (Sp.steps xs) (Sp.steps ys) r = Sp.steps xs r) := by unfold Hid Sp.doIf; rw [ec]
      go_enter Tryz.func139, Tryz.ntmps139
      go_wp2_with fail
      refine hc.mono ?_
      rintro e w1 ⟨rfl, r1, k1⟩
      have K1 := kw.trans k1
      have hn2 := k1.cell HN.out hnb (by decide)
      have d4 := cell_of hn2 4 (v := .slice av nv cv) rfl
      have hbk := hb w1 base b r (RKeep.same hso K1 hhB) hhB r1
      clear hn2 k1
      go_wp2_with fail
      refine hbk.mono ?_
      intro e w2 hp2
      clear hbk
      generalize Sp.steps xs r = o2 at hp2 E
      obtain ⟨r2, _ | s⟩ := o2
      · obtain ⟨rfl, r2a, k2⟩ := hp2
        go_wp2_with fail
        go_ret
        rw [E.out]
        exact ⟨rfl, r2a, K1.trans k2⟩
      · obtain ⟨rfl, r2a, k2⟩ := hp2
        go_wp2_with fail
        go_ret
        rw [E.out]
        exact ⟨rfl, r2a, K1.trans k2⟩
    | false =>
      have E : Hid (Sp.doIf (Sp.evCond k f g) (Sp.steps xs) (Sp.steps ys) r = Sp.steps ys r) := by unfold Hid Sp.doIf; rw [ec]
      go_enter Tryz.func139, Tryz.ntmps139
      go_wp2_with fail
      refine hc.mono ?_
      rintro e w1 ⟨rfl, r1, k1⟩
      have K1 := kw.trans k1
      have hn2 := k1.cell HN.out hnb (by decide)
      have d5 := cell_of hn2 5 (v := .slice ae ne ce) rfl
      have hbk := hbe w1 base b r (RKeep.same hso K1 hhB) hhB r1
      clear hn2 k1
      go_wp2_with fail
      refine hbk.mono ?_
      intro e w2 hp2
      clear hbk
      generalize Sp.steps ys r = o2 at hp2 E
      obtain ⟨r2, _ | s⟩ := o2
      · obtain ⟨rfl, r2a, k2⟩ := hp2
        go_wp2_with fail
        go_ret
        rw [E.out]
        exact ⟨rfl, r2a, K1.trans k2⟩
      · obtain ⟨rfl, r2a, k2⟩ := hp2
        go_wp2_with fail
        go_ret
        rw [E.out]
        exact ⟨rfl, r2a, K1.trans k2⟩

theorem if_runs (p : Int) (he : Bool) (lo hi : Nat) (w0 : World) (k : Nat) (hk : k < 6) (tl : TypeId) (ul : Value) (tr : TypeId) (ur : Value) (f g : Sp.Ev) (hf : SumRuns (.iface tl ul) f) (hg : SumRuns (.iface tr ur) g) (av : Option Addr) (nv cv : Nat) (xs : List (Int × (Sp.Rst → Sp.Out))) (hb : BlkRuns lo hi w0 (.slice av nv cv) xs) (ae : Option Addr) (ne ce : Nat) (ys : List (Int × (Sp.Rst → Sp.Out))) (hbe : BlkRuns lo hi w0 (.slice ae ne ce) ys) :
    StRuns lo hi w0 (.iface 290 (.agg #[.int .i64 p, .int .i64 (k : Nat), .iface tl ul, .iface tr ur, .slice av nv cv, .slice ae ne ce, .bool he])) (Sp.doIf (Sp.evCond k f g) (Sp.steps xs) (Sp.steps ys)) := by
  intro w base b r hso hhB h
  have h1 := ts_4_1 (.agg #[.int .i64 p, .int .i64 (k : Nat), .iface tl ul, .iface tr ur, .slice av nv cv, .slice ae ne ce, .bool he])
  have h2 := ts_4_2 (.agg #[.int .i64 p, .int .i64 (k : Nat), .iface tl ul, .iface tr ur, .slice av nv cv, .slice ae ne ce, .bool he])
  have h3 := ts_4_3 (.agg #[.int .i64 p, .int .i64 (k : Nat), .iface tl ul, .iface tr ur, .slice av nv cv, .slice ae ne ce, .bool he])
  have h4 := ts_4_4 (.agg #[.int .i64 p, .int .i64 (k : Nat), .iface tl ul, .iface tr ur, .slice av nv cv, .slice ae ne ce, .bool he])
  have kw := RKeep.of_below (b := b) (below_alloc1 w (.cells #[.int .i64 p, .int .i64 (k : Nat), .iface tl ul, .iface tr ur, .slice av nv cv, .slice ae ne ce, .bool he] 290)) h.le
  have hc := branch_runs p he lo hi w0 k hk tl ul tr ur f g hf hg av nv cv xs hb ae ne ce ys hbe _ base b r (RKeep.same hso kw hhB) hhB (h.below (below_alloc1 w (.cells #[.int .i64 p, .int .i64 (k : Nat), .iface tl ul, .iface tr ur, .slice av nv cv, .slice ae ne ce, .bool he] 290)))
  clear hb hbe
  generalize Sp.doIf (Sp.evCond k f g) (Sp.steps xs) (Sp.steps ys) r = out at hc ⊢
  obtain ⟨r', _ | s⟩ := out
  · go_enter Tryz.func102, Tryz.ntmps102
    go_wp2_with fail
    refine hc.mono ?_
    rintro e w1 ⟨rfl, r1, k1⟩
    go_wp2_with fail
    go_ret
    exact ⟨rfl, r1, kw.trans k1⟩
  · go_enter Tryz.func102, Tryz.ntmps102
    go_wp2_with fail
    refine hc.mono ?_
    rintro e w1 ⟨rfl, r1, k1⟩
    go_wp2_with fail
    go_ret
    exact ⟨rfl, r1, kw.trans k1⟩

end Go.Proofs.YtiopfihjmkfdmaaGreatDoor

/- RUNS as an algebra that the reader may make; runner.Run. -/
namespace Go.Proofs.YtiopfihjmkfdmaaGreatDoor
open Go.RowKit
set_option maxRecDepth 100000
set_option maxHeartbeats 2000000

def RpRn : Rep Sp.Rn where
  S ct v x ct' := (∃ t u, v = .iface t u) ∧ SumRuns v (x ct).1 ∧ (x ct).2 = ct'
  iface _ _ _ _ h := h.1
  num ct n _ := ⟨⟨_, _, rfl⟩, num_runs n, rfl⟩
  name ct k hk := ⟨⟨_, _, rfl⟩, name_runs k hk, rfl⟩
  neg ct v x ct' h := by
    obtain ⟨⟨t, u, rfl⟩, hs, he⟩ := h
    exact ⟨⟨_, _, rfl⟩, neg_runs t u _ hs, he⟩
  bin ct k v x ct1 u y ct2 hk h h' := by
    obtain ⟨⟨tl, ul, rfl⟩, hs, rfl⟩ := h
    obtain ⟨⟨tr, ur, rfl⟩, hs', rfl⟩ := h'
    have e : Sp.Rn.bin k x y ct = (Sp.evBin k 0 (x ct).1 (y (x ct).2).1, (y (x ct).2).2) := if_neg (by omega)
    refine ⟨⟨_, _, rfl⟩, ?_, ?_⟩
    · rw [e]; exact bin_runs k (by omega) 0 tl ul tr ur _ _ hs hs'
    · rw [e]
  binSite ct k v x ct1 u y ct2 h3 hk h h' := by
    obtain ⟨⟨tl, ul, rfl⟩, hs, rfl⟩ := h
    obtain ⟨⟨tr, ur, rfl⟩, hs', rfl⟩ := h'
    have e : Sp.Rn.bin k x y ct = (Sp.evBin k (x ct).2.2 (x ct).1 (y (Sp.siteUp (x ct).2)).1, (y (Sp.siteUp (x ct).2)).2) := if_pos h3
    refine ⟨⟨_, _, rfl⟩, ?_, ?_⟩
    · rw [e]; exact bin_runs k hk _ tl ul tr ur _ _ hs hs'
    · rw [e]; rfl

/-- a statement and what the runner does with it -/
def StR (ct : Int × Int) (lo hi : Nat) (w : World) (v : Value) (x : Sp.Ct → (Sp.Rst → Sp.Out) × Sp.Ct) (ct' : Int × Int) : Prop :=
  (∃ t u, v = .iface t u ∧ WhereIs t u ct.1) ∧ StRuns lo hi w v (x ct).1 ∧ Wanes (x ct).1 ∧ (x ct).2 = ct'

theorem number_get {α : Type} : ∀ (xs : List (Sp.Ct → α × Sp.Ct)) (f : Nat → Sp.Ct), (∀ i x, xs[i]? = some x → (x (f i)).2 = f (i + 1)) →
    (Sp.number xs (f 0)).2 = f xs.length ∧ (Sp.number xs (f 0)).1.length = xs.length ∧ ∀ i z, (Sp.number xs (f 0)).1[i]? = some z → ∃ x, xs[i]? = some x ∧ z = ((f i).1, (x (f i)).1)
  | [], f, _ => ⟨rfl, rfl, fun i z h => by simp [Sp.number] at h⟩
  | x :: xs, f, h => by
    have hx := h 0 x (by simp)
    obtain ⟨h1, h2, h3⟩ := number_get xs (fun i => f (i + 1)) (fun i y hy => h (i + 1) y (by simpa using hy))
    have e : Sp.number (x :: xs) (f 0) = (((f 0).1, (x (f 0)).1) :: (Sp.number xs (f 1)).1, (Sp.number xs (f 1)).2) := by
      show ((_ : Int × α) :: (Sp.number xs (x (f 0)).2).1, (Sp.number xs (x (f 0)).2).2) = _
      rw [hx]
    rw [e]
    refine ⟨h1, by simp; exact h2, fun i z hz => ?_⟩
    cases i with
    | zero => exact ⟨x, by simp, by simpa using hz.symm⟩
    | succ i =>
      obtain ⟨y, hy, rfl⟩ := h3 i z (by simpa using hz)
      exact ⟨y, by simpa using hy, rfl⟩

theorem blk_runs {ct ct' : Int × Int} {lo hi : Nat} {w : World} {v : Value} {xs : List Sp.Rn.T} (h : Blk StR ct lo hi w v xs ct') : BlkRuns lo hi w v (Sp.number xs ct).1 ∧ Wanes (Sp.steps (Sp.number xs ct).1) ∧ (Sp.number xs ct).2 = ct' := by
  obtain ⟨vs, f, ho, hg, he, rfl, rfl⟩ := h
  have hvl : vs.length = xs.length := by have := ho.1; rw [Nat.mul_one] at this; exact this
  have hget : ∀ i x, xs[i]? = some x → ∃ u, vs[i]? = some u ∧ StR (f i) lo hi w u x (f (i + 1)) := fun i x hx => by
    have hi : i < vs.length := by rw [hvl]; exact (List.getElem?_eq_some_iff.1 hx).1
    exact ⟨_, List.getElem?_eq_getElem hi, he i _ x (List.getElem?_eq_getElem hi) hx⟩
  obtain ⟨h1, h2, h3⟩ := number_get xs f (fun i x hx => (hget i x hx).choose_spec.2.2.2.2)
  refine ⟨?_, ?_, h1⟩
  · refine block_runs lo hi w v _ vs (by rw [h2]; exact ho) hg (fun i u z hu hz => ?_)
    obtain ⟨x, hx, rfl⟩ := h3 i z hz
    obtain ⟨⟨t, y, rfl, hw⟩, hs, _⟩ := he i u x hu hx
    exact ⟨t, y, rfl, hw, hs⟩
  · refine steps_wanes _ (fun z hz => ?_)
    obtain ⟨i, hi⟩ := List.getElem?_of_mem hz
    obtain ⟨x, hx, rfl⟩ := h3 i z hi
    exact (hget i x hx).choose_spec.2.2.2.1

theorem mw_assign (p k : Int) (v : Value) (w : World) : (method 587 279 (.agg #[.int .i64 p, .int .i64 k, v]) "Where").run Tryz.prog w = .ok (72, .int .i64 p) w := by kernel_rfl
theorem mw_read (p k : Int) (w : World) : (method 587 283 (.agg #[.int .i64 p, .int .i64 k]) "Where").run Tryz.prog w = .ok (72, .int .i64 p) w := by kernel_rfl
theorem mw_assert (p q k : Int) (v u : Value) (w : World) : (method 587 287 (.agg #[.int .i64 p, .int .i64 q, .int .i64 k, v, u]) "Where").run Tryz.prog w = .ok (72, .int .i64 p) w := by kernel_rfl
theorem mw_if (p k : Int) (v u b c e : Value) (w : World) : (method 587 290 (.agg #[.int .i64 p, .int .i64 k, v, u, b, c, e]) "Where").run Tryz.prog w = .ok (72, .int .i64 p) w := by kernel_rfl
theorem mw_while (p k : Int) (v u b : Value) (w : World) : (method 587 293 (.agg #[.int .i64 p, .int .i64 k, v, u, b]) "Where").run Tryz.prog w = .ok (72, .int .i64 p) w := by kernel_rfl

def RtRn : RepT Sp.Rn RpRn where
  T := StR
  mono := by
    intro ct ct' lo hi lo' hi' w w' v x h hl hh hs
    refine ⟨h.1, ?_, h.2.2⟩
    intro w2 base b r hso hhB
    exact h.2.1 w2 base b r (fun k h1 h2 hn => (hso k (by omega) (by omega) (by rw [hs k h1 h2 hn]; exact hn)).trans (hs k h1 h2 hn)) (by omega)
  iface h := by
    obtain ⟨⟨t, u, e, _⟩, _⟩ := h
    exact ⟨t, u, e⟩
  assign ct lo hi w k v x ct' hk h := by
    obtain ⟨⟨t, u, rfl⟩, hs, he⟩ := h
    refine ⟨⟨_, _, rfl, mw_assign _ _ _⟩, assign_runs _ lo hi w k hk t u _ hs, fun r => ?_, he⟩
    show (Sp.doAssign k _ r).1.fuel ≤ r.fuel
    unfold Sp.doAssign
    split <;> exact Nat.le_refl _
  read ct lo hi w k hk := by
    refine ⟨⟨_, _, rfl, mw_read _ _⟩, read_runs _ lo hi w k hk, fun r => ?_, rfl⟩
    show (Sp.doRead k r).1.fuel ≤ r.fuel
    unfold Sp.doRead
    split <;> exact Nat.le_refl _
  assert ct lo hi w k v x ct1 u y ct2 hk h h' := by
    obtain ⟨⟨tl, ul, rfl⟩, hs, rfl⟩ := h
    obtain ⟨⟨tr, ur, rfl⟩, hs', rfl⟩ := h'
    refine ⟨⟨_, _, rfl, mw_assert _ _ _ _ _⟩, assert_runs _ _ lo hi w k hk tl ul tr ur _ _ hs hs', fun r => ?_, rfl⟩
    show (Sp.doAssert _ _ r).1.fuel ≤ r.fuel
    unfold Sp.doAssert
    split <;> exact Nat.le_refl _
  ite ct lo hi w k v x ct1 u y ct2 bv xs ct3 hk h h' hb := by
    obtain ⟨⟨tl, ul, rfl⟩, hs, rfl⟩ := h
    obtain ⟨⟨tr, ur, rfl⟩, hs', rfl⟩ := h'
    obtain ⟨av, nv, cv, rfl⟩ := blk_slice hb
    obtain ⟨hb1, hb2, rfl⟩ := blk_runs hb
    refine ⟨⟨_, _, rfl, mw_if _ _ _ _ _ _ _⟩, if_runs _ false lo hi w k hk tl ul tr ur _ _ hs hs' av nv cv _ hb1 none 0 0 [] (block_none lo hi w none 0), fun r => ?_, rfl⟩
    show (Sp.doIf _ _ _ r).1.fuel ≤ r.fuel
    unfold Sp.doIf
    split
    · exact Nat.le_refl _
    · exact hb2 r
    · exact Nat.le_refl _
  iteElse ct lo hi w k v x ct1 u y ct2 bv xs ct3 cv' ys ct4 hk h h' hb hc := by
    obtain ⟨⟨tl, ul, rfl⟩, hs, rfl⟩ := h
    obtain ⟨⟨tr, ur, rfl⟩, hs', rfl⟩ := h'
    obtain ⟨av, nv, cv, rfl⟩ := blk_slice hb
    obtain ⟨ae, ne, ce, rfl⟩ := blk_slice hc
    obtain ⟨hb1, hb2, rfl⟩ := blk_runs hb
    obtain ⟨hc1, hc2, rfl⟩ := blk_runs hc
    refine ⟨⟨_, _, rfl, mw_if _ _ _ _ _ _ _⟩, if_runs _ true lo hi w k hk tl ul tr ur _ _ hs hs' av nv cv _ hb1 ae ne ce _ hc1, fun r => ?_, rfl⟩
    show (Sp.doIf _ _ _ r).1.fuel ≤ r.fuel
    unfold Sp.doIf
    split
    · exact Nat.le_refl _
    · exact hb2 r
    · exact hc2 r
  loop ct lo hi w k v x ct1 u y ct2 bv xs ct3 hk h h' hb := by
    obtain ⟨⟨tl, ul, rfl⟩, hs, rfl⟩ := h
    obtain ⟨⟨tr, ur, rfl⟩, hs', rfl⟩ := h'
    obtain ⟨av, nv, cv, rfl⟩ := blk_slice hb
    obtain ⟨hb1, hb2, rfl⟩ := blk_runs hb
    exact ⟨⟨_, _, rfl, mw_while _ _ _ _ _⟩, while_runs _ lo hi w k hk tl ul tr ur _ _ hs hs' av nv cv _ hb1 hb2, fun r => loopF_wanes _ _ hb2 _ _ r, rfl⟩

end Go.Proofs.YtiopfihjmkfdmaaGreatDoor

/- runner.Run, invariants.Run. -/
namespace Go.Proofs.YtiopfihjmkfdmaaGreatDoor
open Go.RowKit
set_option maxRecDepth 100000
set_option maxHeartbeats 2000000

/-- a run as it begins -/
def rs0 (ins : List Int) (fuel : Nat) : Sp.Rst := { vis := [], st := List.replicate 8 0, ins := ins, fuel := fuel }

theorem run_new {base : Nat} {w : World} {iv : Value} {ins : List Int} {fuel : Nat} (hf : fuel ≤ 500) (hB : base ≤ w.heap.size) (hin : InAt base w iv ins) (fi : Int) (hfi : fi = fuel) :
    RunAt base w.heap.size 0 (rs0 ins fuel) (w.alloc (.cells #[.slice none 0 0, .int .i64 0, .int .i16 0, .int .i16 0, .int .i16 0, .int .i16 0, .int .i16 0, .int .i16 0, .int .i16 0, .int .i16 0, iv, .int .i64 fi] 181)) := by
  subst hfi
  refine ⟨.slice none 0 0, iv, heap_alloc_new _ _, World.ownsRow_nil _ _ _ _, hin.below ((Below.refl _ _).alloc hB _), hB, rfl, by simp [rs0]; omega⟩

/-- what comes out of a run: its visits in a row of their own -/
def TraceAt (base : Nat) (w : World) (v : Value) (t : List (Int × List Int) × Int) : Prop :=
  ∃ vv, v = .agg #[vv, .int .i64 t.2] ∧ w.ownsRow base 80 9 vv t.1.length (visCells t.1) ∧ t.1.length ≤ 500

theorem trace_of {base b : Nat} {stop : Int} {r : Sp.Rst} {w : World} (h : RunAt base b stop r w) : ∃ vv, w.cell? ⟨b, 0, none⟩ = some vv ∧ w.cell? ⟨b, 1, none⟩ = some (.int .i64 stop) ∧ w.ownsRow base 80 9 vv r.vis.length (visCells r.vis) ∧ r.vis.length ≤ 500 ∧ (∃ a n c, vv = .slice a n c) := by
  obtain ⟨vv, iv, h1, h2, _, _, _, h6⟩ := h
  refine ⟨vv, cell_of h1 0 rfl, cell_of h1 1 rfl, h2, by omega, ?_⟩
  rcases h2.2 with ⟨rfl, _⟩ | ⟨g, cap, cur, rfl, _⟩
  · exact ⟨_, _, _, rfl⟩
  · exact ⟨_, _, _, rfl⟩

/-- the result as it is stored -/
theorem trace_stored {base S : Nat} {stop : Int} {r : Sp.Rst} {w : World} (hS : base ≤ S) (hr : w.heap[S]? = some (.cells #[.slice none 0 0, .int .i64 0] 41)) {vv : Value} (hv : w.ownsRow base 80 9 vv r.vis.length (visCells r.vis)) :
    ((w.setCell ⟨S, 0, none⟩ vv).setCell ⟨S, 1, none⟩ (.int .i64 stop)).cell? ⟨S, 0, none⟩ = some vv ∧ ((w.setCell ⟨S, 0, none⟩ vv).setCell ⟨S, 1, none⟩ (.int .i64 stop)).cell? ⟨S, 1, none⟩ = some (.int .i64 stop) ∧
    ((w.setCell ⟨S, 0, none⟩ vv).setCell ⟨S, 1, none⟩ (.int .i64 stop)).ownsRow base 80 9 vv r.vis.length (visCells r.vis) ∧ Below base w ((w.setCell ⟨S, 0, none⟩ vv).setCell ⟨S, 1, none⟩ (.int .i64 stop)) := by
  have h2 := heap_setCell_at (heap_setCell_at hr 0 vv) 1 (.int .i64 stop)
  refine ⟨cell_of h2 0 rfl, cell_of h2 1 rfl, ownsRow9_keep hv (fun g hg => ?_), ((Below.refl _ _).setCell (p := ⟨S, 0, none⟩) hS _).setCell (p := ⟨S, 1, none⟩) hS _⟩
  have hne : g ≠ S := fun e => by
    obtain ⟨_, _, c, hc⟩ := ownsRow9_lt hv g hg
    rw [e, hr] at hc
    cases hc
  rw [Below.heap_setCell _ _ _ _ hne, Below.heap_setCell _ _ _ _ hne]

/-- the three blocks that Run lays -/
def runW (w : World) (av : Option Addr) (nv cv : Nat) (p q : Int) (ax : Option Addr) (nx cx : Nat) (iv : Value) (fuel : Int) : World :=
  ((w.alloc (.cells #[.slice av nv cv, .int .i64 p, .int .i64 q, .slice ax nx cx] 86)).alloc (.cells #[.slice none 0 0, .int .i64 0] 41)).alloc (.cells #[.slice none 0 0, .int .i64 0, .int .i16 0, .int .i16 0, .int .i16 0, .int .i16 0, .int .i16 0, .int .i16 0, .int .i16 0, .int .i16 0, iv, .int .i64 fuel] 181)

theorem runW_eq (w : World) (av : Option Addr) (nv cv : Nat) (p q : Int) (ax : Option Addr) (nx cx : Nat) (iv : Value) (fuel : Int) : ((w.alloc (.cells #[.slice av nv cv, .int .i64 p, .int .i64 q, .slice ax nx cx] 86)).alloc (.cells #[.slice none 0 0, .int .i64 0] 41)).alloc (.cells #[.slice none 0 0, .int .i64 0, .int .i16 0, .int .i16 0, .int .i16 0, .int .i16 0, .int .i16 0, .int .i16 0, .int .i16 0, .int .i16 0, iv, .int .i64 fuel] 181) = runW w av nv cv p q ax nx cx iv fuel := rfl

theorem runW_facts (w : World) (av : Option Addr) (nv cv : Nat) (p q : Int) (ax : Option Addr) (nx cx : Nat) (iv : Value) (ins : List Int) (fuel : Nat) (hf : fuel ≤ 500) (hin : InAt w.heap.size w iv ins) :
    RunAt w.heap.size (w.heap.size + 2) 0 (rs0 ins fuel) (runW w av nv cv p q ax nx cx iv fuel) ∧ (runW w av nv cv p q ax nx cx iv fuel).heap[w.heap.size]? = some (.cells #[.slice av nv cv, .int .i64 p, .int .i64 q, .slice ax nx cx] 86) ∧ (runW w av nv cv p q ax nx cx iv fuel).heap[w.heap.size + 1]? = some (.cells #[.slice none 0 0, .int .i64 0] 41) ∧ Below w.heap.size w (runW w av nv cv p q ax nx cx iv fuel) := by
  have b1 := below_alloc1 w (.cells #[.slice av nv cv, .int .i64 p, .int .i64 q, .slice ax nx cx] 86)
  have b2 : Below w.heap.size w ((w.alloc (.cells #[.slice av nv cv, .int .i64 p, .int .i64 q, .slice ax nx cx] 86)).alloc (.cells #[.slice none 0 0, .int .i64 0] 41)) := b1.alloc (by simp) _
  have hs : ((w.alloc (.cells #[.slice av nv cv, .int .i64 p, .int .i64 q, .slice ax nx cx] 86)).alloc (.cells #[.slice none 0 0, .int .i64 0] 41)).heap.size = w.heap.size + 2 := by simp
  have r0 := run_new (base := w.heap.size) (w := (w.alloc (.cells #[.slice av nv cv, .int .i64 p, .int .i64 q, .slice ax nx cx] 86)).alloc (.cells #[.slice none 0 0, .int .i64 0] 41)) hf (by rw [hs]; omega) (hin.below b2) (fuel : Int) rfl
  rw [hs] at r0
  refine ⟨r0, heap_alloc_old (heap_alloc_old (heap_alloc_new _ _)), heap_alloc_old ?_, b2.alloc (by rw [hs]; omega) _⟩
  have := heap_alloc_new (w.alloc (.cells #[.slice av nv cv, .int .i64 p, .int .i64 q, .slice ax nx cx] 86)) (.cells #[.slice none 0 0, .int .i64 0] 41)
  simpa using this

theorem runOf_eq (xs : List Sp.Rn.T) (ins : List Int) (fuel : Nat) (ct : Int × Int) (h : (Sp.number xs (0, 0)).2 = ct) : Sp.runOf xs ins fuel = match Sp.andThen (Sp.steps (Sp.number xs (0, 0)).1 (rs0 ins fuel)) (Sp.visit ct.1) with
    | (r, none) => (r.vis, -1)
    | (r, some s) => (r.vis, s) := by
  unfold Sp.runOf rs0
  simp only
  rw [h]
  rfl

theorem runner_calls {ct : Int × Int} {lo hi : Nat} {w0 : World} (av : Option Addr) (nv cv : Nat) (q : Int) (ax : Option Addr) (nx cx : Nat) (xs : List Sp.Rn.T) (h : Blk StR (0, 0) lo hi w0 (.slice av nv cv) xs ct) (w : World) (iv : Value) (ins : List Int) (fuel : Nat) (hf : fuel ≤ 500) (hso : SameOn lo hi w0 w) (hhi : hi ≤ w.heap.size) (hin : InAt w.heap.size w iv ins) (hiv : ∃ a n c, iv = .slice a n c) :
    Calls Tryz.prog 43 #[.agg #[.slice av nv cv, .int .i64 ct.1, .int .i64 q, .slice ax nx cx], iv, .int .i64 fuel] w fun e w' => ∃ v, e = .returned v ∧ TraceAt w.heap.size w' v (Sp.runOf xs ins fuel) ∧ Below w.heap.size w w' := by
  obtain ⟨hb, _, hct⟩ := blk_runs h
  have ER : Hid (_ = _) := runOf_eq xs ins fuel ct hct
  obtain ⟨ia, i_n, ic, rfl⟩ := hiv
  obtain ⟨hr0, hn0, hn1, kb⟩ := runW_facts w av nv cv ct.1 q ax nx cx (.slice ia i_n ic) ins fuel hf hin
  have HN0 : Hid (_ = _) := hn0
  have HN1 : Hid (_ = _) := hn1
  have hbk := hb (runW w av nv cv ct.1 q ax nx cx (.slice ia i_n ic) fuel) w.heap.size (w.heap.size + 2) _ (fun k h1 h2 hn => by rw [kb.block k (by omega)]; exact hso k h1 h2 hn) hhi hr0
  have hw := @runW_eq w av nv cv ct.1 q ax nx cx (.slice ia i_n ic) fuel
  have HW : Hid (_ = _) := hw
  have c0 := cell_of hn0 0 (v := .slice av nv cv) rfl
  have c1 := cell_of hn0 1 (v := .int .i64 ct.1) rfl
  clear hn0 hn1 hin hb hct h hr0 hw
  go_enter Tryz.func43, Tryz.ntmps43
  go_wp2_with fail
  rw [HW.out]
  clear HW
  generalize runW w av nv cv ct.1 q ax nx cx (.slice ia i_n ic) fuel = wn at *
  refine hbk.mono ?_
  intro e w1 hp
  clear hbk
  generalize Sp.steps (Sp.number xs (0, 0)).1 (rs0 ins fuel) = o1 at hp ER
  obtain ⟨r1, _ | s⟩ := o1
  · obtain ⟨rfl, r1a, k1⟩ := hp
    have ER1 : Hid (Sp.runOf xs ins fuel = match Sp.visit ct.1 r1 with
      | (r, none) => (r.vis, -1)
      | (r, some s) => (r.vis, s)) := ER
    have d1 := cell_of (k1.cell HN0.out (by omega) (by decide)) 1 (v := .int .i64 ct.1) rfl
    have hv := visit_calls r1a ct.1
    clear ER
    go_wp2_with fail
    refine (pwhere_calls ct.1 _).mono ?_
    rintro e w2 ⟨rfl, rfl⟩
    go_wp2_with fail
    refine hv.mono ?_
    intro e w2 hp2
    clear hv d1
    generalize Sp.visit ct.1 r1 = o2 at hp2 ER1
    obtain ⟨r2, _ | s⟩ := o2
    · obtain ⟨rfl, r2a, k2⟩ := hp2
      have E : Hid (Sp.runOf xs ins fuel = (r2.vis, -1)) := ER1
      obtain ⟨_, _, hb2, _⟩ := id r2a
      have g1 := cell_of hb2 1 (v := .int .i64 0) rfl
      have fg1 := frozen_of hb2 1
      obtain ⟨r3, k3⟩ := r2a.stopped (-1)
      have K : Hid (RKeep w.heap.size (w.heap.size + 2) wn (w2.setCell ⟨w.heap.size + 2, 1, none⟩ (.int .i64 (-1)))) := (k1.trans k2).trans k3
      obtain ⟨vv, q0, q1, ho, hlen, av', nv', cv', rfl⟩ := trace_of r3
      have hres := K.out.cell HN1.out (by omega) (by decide)
      have m0 := cell_of hres 0 (v := .slice none 0 0) rfl
      have m1 := cell_of hres 1 (v := .int .i64 0) rfl
      have fm0 := frozen_of hres 0
      have fm1 := frozen_of hres 1
      have hfin := trace_stored (stop := -1) (r := r2) (S := w.heap.size + 1) (by omega) hres ho
      have HF : Hid (_ ∧ _) := hfin
      clear hfin hres ho k1 k2 k3 hb2 r1a r2a r3 ER1
      go_wp2_with fail
      exact bodyPost_ret (v := .agg #[.slice av' nv' cv', .int .i64 (-1)]) (by simp [results, Tryz.results43, go_sem, HF.out.1, HF.out.2.1]) rfl ⟨_, rfl, ⟨_, by rw [E.out], by rw [E.out]; exact HF.out.2.2.1, by rw [E.out]; exact hlen⟩, (kb.trans K.out.below).trans HF.out.2.2.2⟩
    · obtain ⟨rfl, r2a, k2⟩ := hp2
      have E : Hid (Sp.runOf xs ins fuel = (r2.vis, s)) := ER1
      have K : Hid (RKeep w.heap.size (w.heap.size + 2) wn w2) := k1.trans k2
      obtain ⟨vv, q0, q1, ho, hlen, av', nv', cv', rfl⟩ := trace_of r2a
      have hres := K.out.cell HN1.out (by omega) (by decide)
      have m0 := cell_of hres 0 (v := .slice none 0 0) rfl
      have m1 := cell_of hres 1 (v := .int .i64 0) rfl
      have fm0 := frozen_of hres 0
      have fm1 := frozen_of hres 1
      have hfin := trace_stored (stop := s) (r := r2) (S := w.heap.size + 1) (by omega) hres ho
      have HF : Hid (_ ∧ _) := hfin
      clear hfin hres ho k1 k2 r1a r2a ER1
      go_wp2_with fail
      exact bodyPost_ret (v := .agg #[.slice av' nv' cv', .int .i64 s]) (by simp [results, Tryz.results43, go_sem, HF.out.1, HF.out.2.1]) rfl ⟨_, rfl, ⟨_, by rw [E.out], by rw [E.out]; exact HF.out.2.2.1, by rw [E.out]; exact hlen⟩, (kb.trans K.out.below).trans HF.out.2.2.2⟩
  · obtain ⟨rfl, r1a, k1⟩ := hp
    have E : Hid (Sp.runOf xs ins fuel = (r1.vis, s)) := ER
    have K : Hid (RKeep w.heap.size (w.heap.size + 2) wn w1) := k1
    obtain ⟨vv, q0, q1, ho, hlen, av', nv', cv', rfl⟩ := trace_of r1a
    have hres := K.out.cell HN1.out (by omega) (by decide)
    have m0 := cell_of hres 0 (v := .slice none 0 0) rfl
    have m1 := cell_of hres 1 (v := .int .i64 0) rfl
    have fm0 := frozen_of hres 0
    have fm1 := frozen_of hres 1
    have hfin := trace_stored (stop := s) (r := r1) (S := w.heap.size + 1) (by omega) hres ho
    have HF : Hid (_ ∧ _) := hfin
    clear hfin hres ho k1 r1a ER
    go_wp2_with fail
    exact bodyPost_ret (v := .agg #[.slice av' nv' cv', .int .i64 s]) (by simp [results, Tryz.results43, go_sem, HF.out.1, HF.out.2.1]) rfl ⟨_, rfl, ⟨_, by rw [E.out], by rw [E.out]; exact HF.out.2.2.1, by rw [E.out]; exact hlen⟩, (kb.trans K.out.below).trans HF.out.2.2.2⟩

end Go.Proofs.YtiopfihjmkfdmaaGreatDoor
