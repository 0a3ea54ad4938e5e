/- THE SIGNS: tree's two tables, Sign, Level, the two maps. -/
import Derived.Test.YtiopfihjmkfdmaaGreatDoorGRd
import Derived.Maps.OwnSet
import Derived.Maps.AppendAt
namespace Go.Proofs.YtiopfihjmkfdmaaGreatDoor
open Go.RowKit Go.WideMaps Go.Maps
set_option maxRecDepth 100000
set_option maxHeartbeats 400000

/-- what the listed variables hold -/
structure Laid (w : World) : Prop where
  size : 11 ≤ w.heap.size
  ops : ∀ k, k < 5 → w.cell? ⟨1, k, none⟩ = some (.string ⟨(Sp.opSign k).toArray⟩)
  rels : ∀ k, k < 6 → w.cell? ⟨2, k, none⟩ = some (.string ⟨(Sp.relSign k).toArray⟩)
  errS : ∃ tp p, w.cell? ⟨9, 0, none⟩ = some (.iface tp p)
  errR : ∃ tp p, w.cell? ⟨10, 0, none⟩ = some (.iface tp p)
  pow : Lib.TabIs Tryz.prog w "internal/strconv.uint64pow10" .u64 Lib.pow10Tab

theorem opSign_calls (k : Nat) (hk : k < 5) (w : World) (h : w.cell? ⟨1, k, none⟩ = some (.string ⟨(Sp.opSign k).toArray⟩)) :
    Calls Tryz.prog 87 #[.int .i64 k] w fun e w' => e = .returned (.string ⟨(Sp.opSign k).toArray⟩) ∧ w' = w := by
  generalize (⟨(Sp.opSign k).toArray⟩ : ByteArray) = t at *
  go_enter Tryz.func87, Tryz.ntmps87
  go_wp2_with fail
  go_ret
  exact ⟨rfl, rfl⟩

theorem relSign_calls (k : Nat) (hk : k < 6) (w : World) (h : w.cell? ⟨2, k, none⟩ = some (.string ⟨(Sp.relSign k).toArray⟩)) :
    Calls Tryz.prog 88 #[.int .i64 k] w fun e w' => e = .returned (.string ⟨(Sp.relSign k).toArray⟩) ∧ w' = w := by
  generalize (⟨(Sp.relSign k).toArray⟩ : ByteArray) = t at *
  go_enter Tryz.func88, Tryz.ntmps88
  go_wp2_with fail
  go_ret
  exact ⟨rfl, rfl⟩

theorem hasSite_calls (k : Nat) (hk : k < 5) (w : World) :
    Calls Tryz.prog 240 #[.int .i64 k] w fun e w' => e = .returned (.bool (decide (3 ≤ k))) ∧ w' = w := by
  have hk' : k = 3 ∨ k = 4 ∨ (k < 3 ∧ ¬ ((k : Int) = 3) ∧ ¬ ((k : Int) = 4)) := by omega
  rcases hk' with rfl | rfl | ⟨h2, h0, h1⟩
  · go_enter Tryz.func240, Tryz.ntmps240
    go_wp2_with fail
    go_ret
    exact ⟨rfl, rfl⟩
  · go_enter Tryz.func240, Tryz.ntmps240
    go_wp2_with fail
    go_ret
    exact ⟨rfl, rfl⟩
  · have hl : Hid (decide (3 ≤ k) = false) := by unfold Hid; simp; omega
    clear h2 hk
    go_enter Tryz.func240, Tryz.ntmps240
    go_wp2_with fail
    go_ret
    refine ⟨ret_bool ?_, rfl⟩
    rw [hl.out]
    simp [h0, h1]

theorem opLevel_calls (k : Nat) (hk : k < 5) (w : World) :
    Calls Tryz.prog 172 #[.int .i64 k] w fun e w' => e = .returned (.int .i64 (Sp.opLevel k)) ∧ w' = w := by
  have hk' : k = 0 ∨ k = 1 ∨ (2 ≤ k ∧ ¬ ((k : Int) = 0) ∧ ¬ ((k : Int) = 1)) := by omega
  rcases hk' with rfl | rfl | ⟨h2, h0, h1⟩
  · go_enter Tryz.func172, Tryz.ntmps172
    go_wp2_with fail
    go_ret
    exact ⟨rfl, rfl⟩
  · go_enter Tryz.func172, Tryz.ntmps172
    go_wp2_with fail
    go_ret
    exact ⟨rfl, rfl⟩
  · have hl : Hid (Sp.opLevel k = 1) := by unfold Hid Sp.opLevel; rw [if_neg (by omega)]
    have b0 : ((k : Int) == 0) = false := by simp; omega
    have b1 : ((k : Int) == 1) = false := by simp; omega
    go_enter Tryz.func172, Tryz.ntmps172
    go_wp2_with fail
    go_ret
    exact ⟨ret_int (by rw [hl.out]; rfl), rfl⟩

theorem law9 : Keyed Tryz.prog 9 := string_keyed Tryz.underlying9
theorem zeroOp (w : World) : (zeroValue 229).run Tryz.prog w = .ok (.int .i64 0) w := by kernel_rfl
theorem zeroRel (w : World) : (zeroValue 230).run Tryz.prog w = .ok (.int .i64 0) w := by kernel_rfl

def opsD : Nat → DataW Unit
  | 0 => .map []
  | k + 1 => (opsD k).put (.string (Sp.opSign k)) (.lit (.int .i64 k))
def relsD : Nat → DataW Unit
  | 0 => .map []
  | k + 1 => (relsD k).put (.string (Sp.relSign k)) (.lit (.int .i64 k))

def OpsMap (m : Nat) (w : World) : Prop := w.ownsMap Tryz.prog 9 (plainElem (H := Unit) Tryz.prog 229) m 5 (opsD 5)
def RelsMap (m : Nat) (w : World) : Prop := w.ownsMap Tryz.prog 9 (plainElem (H := Unit) Tryz.prog 230) m 6 (relsD 6)

theorem key_of (t : Sp.Bs) (h : t.length ≤ 400) : keyOf Tryz.prog 9 (.string ⟨t.toArray⟩) = some (.string t) := by
  have := keyOf_string_mk (P := Tryz.prog) (s := ⟨t.toArray⟩) Tryz.underlying9 (by show t.toArray.size ≤ maxLen; unfold maxLen; simp; omega)
  simpa using this

theorem opSign_len (k : Nat) : (Sp.opSign k).length ≤ 400 := by unfold Sp.opSign; split <;> decide
theorem relSign_len (k : Nat) : (Sp.relSign k).length ≤ 400 := by unfold Sp.relSign; split <;> decide

theorem ops_calls (w : World) (hL : Laid w) :
    Calls Tryz.prog 56 #[] w fun e w' => e = .returned (.map (some w.heap.size)) ∧ OpsMap w.heap.size w' ∧ Below w.heap.size w w' := by
  have hmm := @run_makeMap Tryz.prog
  go_enter Tryz.func56, Tryz.ntmps56
  go_wp2_with fail
  go_loopw [2] (fun i wr => ∃ k : Nat, k ≤ 5 ∧ i = .int .i64 k ∧ wr.ownsMap Tryz.prog 9 (plainElem (H := Unit) Tryz.prog 229) w.heap.size k (opsD k) ∧ Below w.heap.size w wr)
    (fun i _ => 5 - (intOf i).toNat)
  case atStart => exact ⟨0, Nat.zero_le _, rfl, World.ownsMap_made _ _ _ _, (Below.refl _ _).alloc (Nat.le_refl _) _⟩
  case round =>
    obtain ⟨k, hk, rfl, hown, hnx⟩ := hrel
    by_cases hlt : k < 5
    · have hc : wr.cell? ⟨1, k, none⟩ = some (.string ⟨(Sp.opSign k).toArray⟩) := by
        rw [hnx.cell (by have := hL.size; show 1 < w.heap.size; omega)]; exact hL.ops k hlt
      have HC : Hid (wr.cell? ⟨1, k, none⟩ = some (.string ⟨(Sp.opSign k).toArray⟩)) := hc
      clear hc
      have hle : (k : Int) ≤ 4 := by omega
      have hkey := key_of (Sp.opSign k) (opSign_len k)
      have hwf : (Lit.int .i64 (k : Int)).wf = true := by have := wrap64_wf (k : Int); rwa [IntWalk.wrap64_in _ (by omega)] at this
      go_wp2_with fail
      refine (opSign_calls k hlt _ HC.out).mono ?_
      rintro e w' ⟨rfl, rfl⟩
      go_wp2_with (first
        | (at_mapUpdate; refine wpList_mapUpdate_own _ rfl _ _ _ 141 rfl 9 229 law9 Tryz.underlying141 _ w.heap.size k _ rfl hown (by unfold maxLen; omega) _ _ _ rfl rfl hkey _ [] (plainElem_int Tryz.underlying229 hwf) ?_)
        | go_in)
      intro w1 hown1 hgrow1
      have R2 := hnx.grown hgrow1 hnx.size (fun j hj => by cases hj; exact Nat.le_refl _)
      clear hgrow1 hown
      go_wp2_with fail
      exact ⟨⟨k + 1, by omega, by go_num, hown1, R2⟩, by simp [intOf]; omega⟩
    · have hge : ¬ (k : Int) ≤ 4 := by omega
      have e : k = 5 := by omega
      subst e
      go_wp2_with fail
      go_ret
      exact ⟨rfl, hown, hnx⟩

theorem rels_calls (w : World) (hL : Laid w) :
    Calls Tryz.prog 57 #[] w fun e w' => e = .returned (.map (some w.heap.size)) ∧ RelsMap w.heap.size w' ∧ Below w.heap.size w w' := by
  have hmm := @run_makeMap Tryz.prog
  go_enter Tryz.func57, Tryz.ntmps57
  go_wp2_with fail
  go_loopw [2] (fun i wr => ∃ k : Nat, k ≤ 6 ∧ i = .int .i64 k ∧ wr.ownsMap Tryz.prog 9 (plainElem (H := Unit) Tryz.prog 230) w.heap.size k (relsD k) ∧ Below w.heap.size w wr)
    (fun i _ => 6 - (intOf i).toNat)
  case atStart => exact ⟨0, Nat.zero_le _, rfl, World.ownsMap_made _ _ _ _, (Below.refl _ _).alloc (Nat.le_refl _) _⟩
  case round =>
    obtain ⟨k, hk, rfl, hown, hnx⟩ := hrel
    by_cases hlt : k < 6
    · have hc : wr.cell? ⟨2, k, none⟩ = some (.string ⟨(Sp.relSign k).toArray⟩) := by
        rw [hnx.cell (by have := hL.size; show 2 < w.heap.size; omega)]; exact hL.rels k hlt
      have HC : Hid (wr.cell? ⟨2, k, none⟩ = some (.string ⟨(Sp.relSign k).toArray⟩)) := hc
      clear hc
      have hle : (k : Int) ≤ 5 := by omega
      have hkey := key_of (Sp.relSign k) (relSign_len k)
      have hwf : (Lit.int .i64 (k : Int)).wf = true := by have := wrap64_wf (k : Int); rwa [IntWalk.wrap64_in _ (by omega)] at this
      go_wp2_with fail
      refine (relSign_calls k hlt _ HC.out).mono ?_
      rintro e w' ⟨rfl, rfl⟩
      go_wp2_with (first
        | (at_mapUpdate; refine wpList_mapUpdate_own _ rfl _ _ _ 143 rfl 9 230 law9 Tryz.underlying143 _ w.heap.size k _ rfl hown (by unfold maxLen; omega) _ _ _ rfl rfl hkey _ [] (plainElem_int Tryz.underlying230 hwf) ?_)
        | go_in)
      intro w1 hown1 hgrow1
      have R2 := hnx.grown hgrow1 hnx.size (fun j hj => by cases hj; exact Nat.le_refl _)
      clear hgrow1 hown
      go_wp2_with fail
      exact ⟨⟨k + 1, by omega, by go_num, hown1, R2⟩, by simp [intOf]; omega⟩
    · have hge : ¬ (k : Int) ≤ 5 := by omega
      have e : k = 6 := by omega
      subst e
      go_wp2_with fail
      go_ret
      exact ⟨rfl, hown, hnx⟩

end Go.Proofs.YtiopfihjmkfdmaaGreatDoor

/- THE SIGNS LOOKED UP in the two maps. -/
namespace Go.Proofs.YtiopfihjmkfdmaaGreatDoor
open Go.RowKit Go.WideMaps Go.Maps
set_option maxRecDepth 100000
set_option maxHeartbeats 400000

theorem opsD_isMap : ∀ k, IsMap (opsD k)
  | 0 => isMap_empty
  | k + 1 => (opsD_isMap k).put _ _
theorem relsD_isMap : ∀ k, IsMap (relsD k)
  | 0 => isMap_empty
  | k + 1 => (relsD_isMap k).put _ _

theorem lit_ne {a b : Sp.Bs} (h : a ≠ b) : (Lit.string a) ≠ Lit.string b := fun e => h (Lit.string.inj e)

/-- one step up: what stands at a key -/
theorem step_same {D : DataW Unit} (hD : IsMap D) (t : Sp.Bs) (d z : DataW Unit) : Maps.has (D.put (.string t) d) (.string t) = true ∧ (D.put (.string t) d).atKey (.string t) z = d :=
  ⟨has_put_same hD (by simp [WideAt.IsKeyLit]) _, atKey_put_same hD (by simp [WideAt.IsKeyLit]) _ _⟩
theorem step_other {D : DataW Unit} (t u : Sp.Bs) (d z : DataW Unit) (h : u ≠ t) : Maps.has (D.put (.string t) d) (.string u) = Maps.has D (.string u) ∧ (D.put (.string t) d).atKey (.string u) z = D.atKey (.string u) z :=
  ⟨has_put_other (lit_ne h) _, atKey_put_other (lit_ne h) _ _⟩

theorem ops_view (t : Sp.Bs) (z : DataW Unit) : Maps.has (opsD 5) (.string t) = (Sp.opOf t).isSome ∧ (opsD 5).atKey (.string t) z = (match Sp.opOf t with | some k => .lit (.int .i64 (k : Nat)) | none => z) := by
  unfold Sp.opOf
  by_cases h0 : t = [43]
  · subst h0
    have e4 := step_other (D := opsD 4) (Sp.opSign 4) [43] (.lit (.int .i64 (4 : Nat))) z (by decide)
    have e3 := step_other (D := opsD 3) (Sp.opSign 3) [43] (.lit (.int .i64 (3 : Nat))) z (by decide)
    have e2 := step_other (D := opsD 2) (Sp.opSign 2) [43] (.lit (.int .i64 (2 : Nat))) z (by decide)
    have e1 := step_other (D := opsD 1) (Sp.opSign 1) [43] (.lit (.int .i64 (1 : Nat))) z (by decide)
    have e0 := step_same (opsD_isMap 0) [43] (.lit (.int .i64 (0 : Nat))) z
    exact ⟨(e4.1.trans (e3.1.trans (e2.1.trans (e1.1.trans e0.1)))), (e4.2.trans (e3.2.trans (e2.2.trans (e1.2.trans e0.2))))⟩
  by_cases h1 : t = [45]
  · subst h1
    have e4 := step_other (D := opsD 4) (Sp.opSign 4) [45] (.lit (.int .i64 (4 : Nat))) z (by decide)
    have e3 := step_other (D := opsD 3) (Sp.opSign 3) [45] (.lit (.int .i64 (3 : Nat))) z (by decide)
    have e2 := step_other (D := opsD 2) (Sp.opSign 2) [45] (.lit (.int .i64 (2 : Nat))) z (by decide)
    have e1 := step_same (opsD_isMap 1) [45] (.lit (.int .i64 (1 : Nat))) z
    exact ⟨(e4.1.trans (e3.1.trans (e2.1.trans e1.1))), (e4.2.trans (e3.2.trans (e2.2.trans e1.2)))⟩
  by_cases h2 : t = [42]
  · subst h2
    have e4 := step_other (D := opsD 4) (Sp.opSign 4) [42] (.lit (.int .i64 (4 : Nat))) z (by decide)
    have e3 := step_other (D := opsD 3) (Sp.opSign 3) [42] (.lit (.int .i64 (3 : Nat))) z (by decide)
    have e2 := step_same (opsD_isMap 2) [42] (.lit (.int .i64 (2 : Nat))) z
    exact ⟨(e4.1.trans (e3.1.trans e2.1)), (e4.2.trans (e3.2.trans e2.2))⟩
  by_cases h3 : t = [47]
  · subst h3
    have e4 := step_other (D := opsD 4) (Sp.opSign 4) [47] (.lit (.int .i64 (4 : Nat))) z (by decide)
    have e3 := step_same (opsD_isMap 3) [47] (.lit (.int .i64 (3 : Nat))) z
    exact ⟨(e4.1.trans e3.1), (e4.2.trans e3.2)⟩
  by_cases h4 : t = [37]
  · subst h4
    have e4 := step_same (opsD_isMap 4) [37] (.lit (.int .i64 (4 : Nat))) z
    exact ⟨ e4.1,  e4.2⟩
  have e4 := step_other (D := opsD 4) (Sp.opSign 4) t (.lit (.int .i64 (4 : Nat))) z h4
  have e3 := step_other (D := opsD 3) (Sp.opSign 3) t (.lit (.int .i64 (3 : Nat))) z h3
  have e2 := step_other (D := opsD 2) (Sp.opSign 2) t (.lit (.int .i64 (2 : Nat))) z h2
  have e1 := step_other (D := opsD 1) (Sp.opSign 1) t (.lit (.int .i64 (1 : Nat))) z h1
  have e0 := step_other (D := opsD 0) (Sp.opSign 0) t (.lit (.int .i64 (0 : Nat))) z h0
  rw [if_neg h0, if_neg h1, if_neg h2, if_neg h3, if_neg h4]
  exact ⟨(e4.1.trans (e3.1.trans (e2.1.trans (e1.1.trans (e0.1.trans rfl))))), (e4.2.trans (e3.2.trans (e2.2.trans (e1.2.trans (e0.2.trans rfl)))))⟩

theorem rels_view (t : Sp.Bs) (z : DataW Unit) : Maps.has (relsD 6) (.string t) = (Sp.relOf t).isSome ∧ (relsD 6).atKey (.string t) z = (match Sp.relOf t with | some k => .lit (.int .i64 (k : Nat)) | none => z) := by
  unfold Sp.relOf
  by_cases h0 : t = [60]
  · subst h0
    have e5 := step_other (D := relsD 5) (Sp.relSign 5) [60] (.lit (.int .i64 (5 : Nat))) z (by decide)
    have e4 := step_other (D := relsD 4) (Sp.relSign 4) [60] (.lit (.int .i64 (4 : Nat))) z (by decide)
    have e3 := step_other (D := relsD 3) (Sp.relSign 3) [60] (.lit (.int .i64 (3 : Nat))) z (by decide)
    have e2 := step_other (D := relsD 2) (Sp.relSign 2) [60] (.lit (.int .i64 (2 : Nat))) z (by decide)
    have e1 := step_other (D := relsD 1) (Sp.relSign 1) [60] (.lit (.int .i64 (1 : Nat))) z (by decide)
    have e0 := step_same (relsD_isMap 0) [60] (.lit (.int .i64 (0 : Nat))) z
    exact ⟨(e5.1.trans (e4.1.trans (e3.1.trans (e2.1.trans (e1.1.trans e0.1))))), (e5.2.trans (e4.2.trans (e3.2.trans (e2.2.trans (e1.2.trans e0.2)))))⟩
  by_cases h1 : t = [60, 61]
  · subst h1
    have e5 := step_other (D := relsD 5) (Sp.relSign 5) [60, 61] (.lit (.int .i64 (5 : Nat))) z (by decide)
    have e4 := step_other (D := relsD 4) (Sp.relSign 4) [60, 61] (.lit (.int .i64 (4 : Nat))) z (by decide)
    have e3 := step_other (D := relsD 3) (Sp.relSign 3) [60, 61] (.lit (.int .i64 (3 : Nat))) z (by decide)
    have e2 := step_other (D := relsD 2) (Sp.relSign 2) [60, 61] (.lit (.int .i64 (2 : Nat))) z (by decide)
    have e1 := step_same (relsD_isMap 1) [60, 61] (.lit (.int .i64 (1 : Nat))) z
    exact ⟨(e5.1.trans (e4.1.trans (e3.1.trans (e2.1.trans e1.1)))), (e5.2.trans (e4.2.trans (e3.2.trans (e2.2.trans e1.2))))⟩
  by_cases h2 : t = [61, 61]
  · subst h2
    have e5 := step_other (D := relsD 5) (Sp.relSign 5) [61, 61] (.lit (.int .i64 (5 : Nat))) z (by decide)
    have e4 := step_other (D := relsD 4) (Sp.relSign 4) [61, 61] (.lit (.int .i64 (4 : Nat))) z (by decide)
    have e3 := step_other (D := relsD 3) (Sp.relSign 3) [61, 61] (.lit (.int .i64 (3 : Nat))) z (by decide)
    have e2 := step_same (relsD_isMap 2) [61, 61] (.lit (.int .i64 (2 : Nat))) z
    exact ⟨(e5.1.trans (e4.1.trans (e3.1.trans e2.1))), (e5.2.trans (e4.2.trans (e3.2.trans e2.2)))⟩
  by_cases h3 : t = [33, 61]
  · subst h3
    have e5 := step_other (D := relsD 5) (Sp.relSign 5) [33, 61] (.lit (.int .i64 (5 : Nat))) z (by decide)
    have e4 := step_other (D := relsD 4) (Sp.relSign 4) [33, 61] (.lit (.int .i64 (4 : Nat))) z (by decide)
    have e3 := step_same (relsD_isMap 3) [33, 61] (.lit (.int .i64 (3 : Nat))) z
    exact ⟨(e5.1.trans (e4.1.trans e3.1)), (e5.2.trans (e4.2.trans e3.2))⟩
  by_cases h4 : t = [62, 61]
  · subst h4
    have e5 := step_other (D := relsD 5) (Sp.relSign 5) [62, 61] (.lit (.int .i64 (5 : Nat))) z (by decide)
    have e4 := step_same (relsD_isMap 4) [62, 61] (.lit (.int .i64 (4 : Nat))) z
    exact ⟨(e5.1.trans e4.1), (e5.2.trans e4.2)⟩
  by_cases h5 : t = [62]
  · subst h5
    have e5 := step_same (relsD_isMap 5) [62] (.lit (.int .i64 (5 : Nat))) z
    exact ⟨ e5.1,  e5.2⟩
  have e5 := step_other (D := relsD 5) (Sp.relSign 5) t (.lit (.int .i64 (5 : Nat))) z h5
  have e4 := step_other (D := relsD 4) (Sp.relSign 4) t (.lit (.int .i64 (4 : Nat))) z h4
  have e3 := step_other (D := relsD 3) (Sp.relSign 3) t (.lit (.int .i64 (3 : Nat))) z h3
  have e2 := step_other (D := relsD 2) (Sp.relSign 2) t (.lit (.int .i64 (2 : Nat))) z h2
  have e1 := step_other (D := relsD 1) (Sp.relSign 1) t (.lit (.int .i64 (1 : Nat))) z h1
  have e0 := step_other (D := relsD 0) (Sp.relSign 0) t (.lit (.int .i64 (0 : Nat))) z h0
  rw [if_neg h0, if_neg h1, if_neg h2, if_neg h3, if_neg h4, if_neg h5]
  exact ⟨(e5.1.trans (e4.1.trans (e3.1.trans (e2.1.trans (e1.1.trans (e0.1.trans rfl)))))), (e5.2.trans (e4.2.trans (e3.2.trans (e2.2.trans (e1.2.trans (e0.2.trans rfl))))))⟩

theorem ops_look {m : Nat} {w : World} (h : OpsMap m w) (t : Sp.Bs) (ht : t.length ≤ 400) :
    (Instr.lookup 141 (.map (some m)) (.string ⟨t.toArray⟩) true).run Tryz.prog w = .ok (.tuple #[.int .i64 (((Sp.opOf t).getD 0 : Nat) : Int), .bool (Sp.opOf t).isSome]) w := by
  obtain ⟨v, ps, hrun, hv⟩ := World.ownsMap.look_ok h law9 Tryz.underlying141 (zeroOp w) (plainElem_int Tryz.underlying229 (a := 0) (by decide)) (key_of t ht)
  have hw := ops_view t (.lit (.int .i64 0))
  rw [hw.1] at hrun
  rw [hw.2] at hv
  obtain ⟨a, rfl, hc, _⟩ := plainElem_int_inv Tryz.underlying229 hv
  rw [hrun]
  cases ho : Sp.opOf t with
  | none => rw [ho] at hc; simp at hc; simp [← hc.1]
  | some k => rw [ho] at hc; simp at hc; simp [← hc.1]

theorem rels_look {m : Nat} {w : World} (h : RelsMap m w) (t : Sp.Bs) (ht : t.length ≤ 400) :
    (Instr.lookup 143 (.map (some m)) (.string ⟨t.toArray⟩) true).run Tryz.prog w = .ok (.tuple #[.int .i64 (((Sp.relOf t).getD 0 : Nat) : Int), .bool (Sp.relOf t).isSome]) w := by
  obtain ⟨v, ps, hrun, hv⟩ := World.ownsMap.look_ok h law9 Tryz.underlying143 (zeroRel w) (plainElem_int Tryz.underlying230 (a := 0) (by decide)) (key_of t ht)
  have hw := rels_view t (.lit (.int .i64 0))
  rw [hw.1] at hrun
  rw [hw.2] at hv
  obtain ⟨a, rfl, hc, _⟩ := plainElem_int_inv Tryz.underlying230 hv
  rw [hrun]
  cases ho : Sp.relOf t with
  | none => rw [ho] at hc; simp at hc; simp [← hc.1]
  | some k => rw [ho] at hc; simp at hc; simp [← hc.1]

theorem OpsMap.ext {m b : Nat} {w w' : World} (h : OpsMap m w) (x : Ext b w w') (hb : m ≠ b) : OpsMap m w' := by
  obtain ⟨es, clock, hh, r⟩ := h
  exact ⟨es, clock, x.keep hh hb not_num_map, r⟩
theorem RelsMap.ext {m b : Nat} {w w' : World} (h : RelsMap m w) (x : Ext b w w') (hb : m ≠ b) : RelsMap m w' := by
  obtain ⟨es, clock, hh, r⟩ := h
  exact ⟨es, clock, x.keep hh hb not_num_map, r⟩
end Go.Proofs.YtiopfihjmkfdmaaGreatDoor

/- (reader) number: by strconv.ParseInt. -/
namespace Go.Proofs.YtiopfihjmkfdmaaGreatDoor
open Go.RowKit
set_option maxRecDepth 100000
set_option maxHeartbeats 400000

def decFrom (a : Nat) (t : Sp.Bs) : Nat := t.foldl (fun a c => a * 10 + (c.toNat - 48)) a

theorem decFrom_ge : ∀ (t : Sp.Bs) (a : Nat), a ≤ decFrom a t
  | [], _ => Nat.le_refl _
  | c :: r, a => by
    have := decFrom_ge r (a * 10 + (c.toNat - 48))
    have e : decFrom a (c :: r) = decFrom (a * 10 + (c.toNat - 48)) r := rfl
    rw [e]; omega

theorem parseM (M : Nat) (hM : M < 1844674407370955162) : ∀ (t : Sp.Bs) (a : Nat), a ≤ M → (∀ c ∈ t, Sp.isDig c = true) → Lib.parseUintM M a t = if decFrom a t ≤ M then .ok (decFrom a t) else .range
  | [], a, ha, _ => by
    have : decFrom a [] = a := rfl
    rw [this, if_pos ha]; rfl
  | c :: r, a, ha, hd => by
    have hc : 48 ≤ c.toNat ∧ c.toNat ≤ 57 := by
      have := hd c (by simp)
      unfold Sp.isDig at this
      simpa using this
    have e : decFrom a (c :: r) = decFrom (a * 10 + (c.toNat - 48)) r := rfl
    have h1 : Lib.parseUintM M a (c :: r) = if 1844674407370955162 ≤ a then .range else if M < a * 10 + (c.toNat - 48) then .range else Lib.parseUintM M (a * 10 + (c.toNat - 48)) r := by
      show (if 48 ≤ c.toNat ∧ c.toNat ≤ 57 then _ else _) = _
      rw [if_pos hc]
    rw [h1, if_neg (by omega), e]
    by_cases hm : M < a * 10 + (c.toNat - 48)
    · rw [if_pos hm, if_neg]
      have := decFrom_ge r (a * 10 + (c.toNat - 48))
      omega
    · rw [if_neg hm]
      exact parseM M hM r _ (by omega) (fun d hdm => hd d (by simp [hdm]))

theorem parse_digits (t : Sp.Bs) (hne : t ≠ []) (hd : ∀ c ∈ t, Sp.isDig c = true) : Lib.parseIntB 16 t = if Sp.decimal t ≤ 32767 then .ok ((Sp.decimal t : Nat) : Int) else .range := by
  cases t with
  | nil => exact absurd rfl hne
  | cons c r =>
    have hc : 48 ≤ c.toNat ∧ c.toNat ≤ 57 := by
      have := hd c (by simp)
      unfold Sp.isDig at this
      simpa using this
    have h1 : Lib.parseUintB 16 (c :: r) = if decFrom 0 (c :: r) ≤ 65535 then .ok (decFrom 0 (c :: r)) else .range := by
      unfold Lib.parseUintB
      rw [if_neg (by simp)]
      exact parseM 65535 (by omega) (c :: r) 0 (by omega) hd
    have e0 : Sp.decimal (c :: r) = decFrom 0 (c :: r) := rfl
    unfold Lib.parseIntB
    simp only
    rw [if_neg (by omega), h1, e0]
    by_cases h2 : decFrom 0 (c :: r) ≤ 65535
    · rw [if_pos h2]
      simp only
      by_cases h3 : decFrom 0 (c :: r) ≤ 32767
      · rw [if_neg (by simp; omega), if_neg (by omega), if_neg (by omega), if_pos h3]
      · rw [if_pos (by simp; omega), if_neg h3]
    · rw [if_neg h2, if_neg (by omega)]

theorem takeWhile_all (p : UInt8 → Bool) : ∀ (l : Sp.Bs), ∀ c ∈ l.takeWhile p, p c = true
  | [], c, h => by simp at h
  | d :: r, c, h => by
    rw [List.takeWhile_cons] at h
    split at h
    · rename_i hd
      rcases List.mem_cons.1 h with rfl | h
      · exact hd
      · exact takeWhile_all p r c h
    · simp at h

theorem take_headRun (p : UInt8 → Bool) (l : Sp.Bs) : l.take (Sp.headRun p l) = l.takeWhile p := by
  unfold Sp.headRun
  exact (List.prefix_iff_eq_take.1 (List.takeWhile_prefix p)).symm

theorem digits_of_kind {l : Sp.Bs} (h : Sp.tokKind l = 3) : Sp.tok l ≠ [] ∧ ∀ c ∈ Sp.tok l, Sp.isDig c = true := by
  refine ⟨fun e => ?_, ?_⟩
  · have := Sp.tokLen_pos (l := l) (.inr (.inl h))
    rw [← Sp.tok_length, e] at this
    simp at this
  · cases l with
    | nil => simp [Sp.tokKind] at h
    | cons c r =>
      have hk := Sp.tokKind_cons c r
      have hl := Sp.tokLen_cons c r
      by_cases h1 : Sp.isLet c = true
      · rw [h, if_pos h1] at hk; omega
      · by_cases h2 : Sp.isDig c = true
        · rw [if_neg h1, if_pos h2] at hl
          unfold Sp.tok
          rw [hl, take_headRun]
          exact takeWhile_all _ _
        · rw [h, if_neg h1, if_neg h2] at hk
          split at hk <;> omega

theorem size_of (t : Sp.Bs) : (⟨t.toArray⟩ : ByteArray).size = t.length := by simp [ByteArray.size]

theorem parseInt_ok (t : Sp.Bs) (hne : t ≠ []) (hd : ∀ c ∈ t, Sp.isDig c = true) (hl : t.length ≤ 400) (hv : Sp.decimal t ≤ 32767) (w : World) :
    Calls Tryz.prog 260 #[.string ⟨t.toArray⟩, .int .i64 10, .int .i64 16] w fun e w' => e = .returned (.tuple #[.int .i64 ((Sp.decimal t : Nat) : Int), .nilIface]) ∧ Below w.heap.size w w' := by
  have hp := parse_digits t hne hd
  rw [if_pos hv] at hp
  refine (Tryz.strconv_ParseInt_10_at16_ok ⟨t.toArray⟩ (by rw [size_of]; omega) ((Sp.decimal t : Nat) : Int) (by simpa using hp) w).mono ?_
  rintro e w' ⟨rfl, h⟩
  refine ⟨rfl, ?_⟩
  rcases h with rfl | ⟨u, rfl⟩
  · exact Below.refl _ _
  · exact Lib.bytesWorld_below _ _ _

theorem parseInt_range (t : Sp.Bs) (hne : t ≠ []) (hd : ∀ c ∈ t, Sp.isDig c = true) (hl : t.length ≤ 400) (hv : ¬ Sp.decimal t ≤ 32767) (w : World) (hL : Laid w) :
    Calls Tryz.prog 260 #[.string ⟨t.toArray⟩, .int .i64 10, .int .i64 16] w fun e w' => ∃ (n : Int) (N : Nat), e = .returned (.tuple #[.int .i64 n, .iface 436 (.pointer (some ⟨N, 0, none⟩))]) ∧ Below w.heap.size w w' := by
  have hp := parse_digits t hne hd
  rw [if_neg hv] at hp
  obtain ⟨tp, p, hc⟩ := hL.errR
  refine (Tryz.strconv_ParseInt_10_at16_range ⟨t.toArray⟩ (by rw [size_of]; omega) (by simpa using hp) (.iface tp p) w hc (.inr ⟨tp, p, rfl⟩)).mono ?_
  rintro e w' ⟨N, rfl, _, _, hb⟩
  exact ⟨_, N, rfl, hb⟩

theorem Laid.below {w w' : World} (h : Laid w) {B : Nat} (hb : Below B w w') (hB : 11 ≤ B) : Laid w' := by
  have := h.size
  have := hb.size
  refine ⟨by omega, fun k hk => ?_, fun k hk => ?_, ?_, ?_, ?_⟩
  · rw [hb.cell (by show 1 < B; omega)]; exact h.ops k hk
  · rw [hb.cell (by show 2 < B; omega)]; exact h.rels k hk
  · rw [hb.cell (by show 9 < B; omega)]; exact h.errS
  · rw [hb.cell (by show 10 < B; omega)]; exact h.errR
  · exact var?_below hb (g := 6) (by kernel_rfl) (by omega) h.pow

/-- what the token that is a number gives: its text, its first byte -/
theorem number_text {l : Sp.Bs} (hk : Sp.tokKind l = 3) (hlen : l.length ≤ 400) : ∃ t : ByteArray, t = ⟨(Sp.tok l).toArray⟩ ∧ t.size = (Sp.tok l).length ∧ 0 < t.size ∧ (Sp.tok l).length ≤ 400 ∧ ∀ hh : 0 < t.size, ((Sp.tok l).head? = some 48 ↔ (t[0].toNat : Int) = 48) := by
  obtain ⟨hne, _⟩ := digits_of_kind hk
  refine ⟨⟨(Sp.tok l).toArray⟩, rfl, size_of _, ?_, ?_, ?_⟩
  · rw [size_of]; exact List.length_pos_iff.2 hne
  · have := Sp.tok_length l; have := Sp.tokLen_le l; omega
  · intro hh
    have e : (Sp.tok l).head? = some ((⟨(Sp.tok l).toArray⟩ : ByteArray)[0]) := by
      have := byte_at ⟨(Sp.tok l).toArray⟩ 0 hh
      simp at this
      rw [List.head?_eq_getElem?]; exact this
    rw [e]
    generalize (⟨(Sp.tok l).toArray⟩ : ByteArray)[0] = c
    constructor
    · intro h
      cases h; rfl
    · intro h
      congr 1
      apply UInt8.toNat_inj.1
      show c.toNat = 48
      omega

theorem numVal_some {t : Sp.Bs} {v : Nat} (hv : Sp.numVal t = some v) : ¬ (1 < t.length ∧ t.head? = some 48) ∧ Sp.decimal t ≤ 32767 ∧ v = Sp.decimal t := by
  unfold Sp.numVal at hv
  split at hv
  · cases hv
  · rename_i hn
    split at hv
    · rename_i hle
      cases hv; exact ⟨hn, hle, rfl⟩
    · cases hv

theorem numVal_none {t : Sp.Bs} (hv : Sp.numVal t = none) : ¬ Sp.decimal t ≤ 32767 ∨ (Sp.decimal t ≤ 32767 ∧ 1 < t.length ∧ t.head? = some 48) := by
  unfold Sp.numVal at hv
  split at hv
  · rename_i hn
    by_cases h : Sp.decimal t ≤ 32767
    · exact .inr ⟨h, hn⟩
    · exact .inl h
  · split at hv
    · cases hv
    · rename_i h; exact .inl h

theorem infoNumber : (Tryz.prog.info? 226).map (fun i => (i.zero, i.size, i.bytes)) = some (some (.int .i16 0), 1, 2) := by kernel_rfl

theorem row_slice {w : World} {base : Nat} {e : TypeId} {v : Value} {n : Nat} {vs : List Value} (h : w.ownsRow base e 1 v (n + 1) vs) : ∃ g cap, v = .slice (some ⟨g, 0, none⟩) (n + 1) cap := by
  rcases h.2 with ⟨_, h⟩ | ⟨g, cap, cur, rfl, _⟩
  · omega
  · exact ⟨g, cap, rfl⟩

/-- one number more -/
theorem rd_more {b : Nat} {s : ByteArray} {m1 m2 : Nat} {l : Sp.Bs} {o : Nat} {ct : Int × Int} {nv : Value} {ns : List Nat} {w w3 : World} {ob : Obj} (h : RdN b s m1 m2 l o ct nv ns w) (d : Nat) (v' : Value)
    (hown : w3.ownsRow (b + 1) 226 1 v' (ns.length + 1) (numVals ns ++ [.int .i16 ((d : Nat) : Int)])) (hg : (w.alloc ob).grownBy w3 nv.ownBlock) :
    w3.heap[b]? = some (.cells (rdCells s m1 m2 l o ct nv) 147) ∧ RdN b s m1 m2 l o ct v' (ns ++ [d]) (w3.setCell ⟨b, 7, none⟩ v') ∧ Ext b w (w3.setCell ⟨b, 7, none⟩ v') := by
  have hnv : ∀ k, nv.ownBlock = some k → b < k ∧ NumB w.heap[k]? := by
    intro k hk
    rcases h.row.2 with ⟨rfl, _⟩ | ⟨g', cap, cur, rfl, hb, hh, _⟩
    · simp [Value.ownBlock] at hk
    · simp [Value.ownBlock] at hk
      subst hk
      exact ⟨hb, by rw [hh]; exact ⟨_, _, rfl⟩⟩
  have hlt := h.lt
  have hs : w.heap.size + 1 ≤ w3.heap.size := by have := hg.size; simpa using this
  have hbk : ∀ k, k < w.heap.size → nv.ownBlock ≠ some k → w3.heap[k]? = w.heap[k]? := fun k hk hne => by
    rw [hg.block k (by simp; omega) (fun e => hne e.symm)]; exact Below.heap_alloc _ _ _ hk
  have e : w3.heap[b]? = some (.cells (rdCells s m1 m2 l o ct nv) 147) := by
    rw [hbk b hlt (fun e => by have := (hnv b e).1; omega)]; exact h.blk
  refine ⟨e, ⟨?_, h.suf, h.sz, ?_⟩, ⟨hg.os, hg.tape, hg.output, by simp [World.setCell]; omega, fun k hk hb hn => ?_⟩⟩
  · rw [heap_setCell_at e 7 v']; rfl
  · have := row_keep (b := b) (w' := w3.setCell ⟨b, 7, none⟩ v') hown (fun k hk _ _ => Below.heap_setCell _ _ _ _ (by show k ≠ b; omega))
    rw [List.length_append, List.length_singleton]
    unfold numVals at *
    rw [List.map_append]
    exact this
  · rw [Below.heap_setCell _ _ _ _ (by show k ≠ b; exact hb)]
    exact hbk k hk (fun e => hn (hnv k e).1 (hnv k e).2)

theorem number_ok {b : Nat} {s : ByteArray} {m1 m2 : Nat} {l : Sp.Bs} {o : Nat} {ct : Int × Int} {w : World} (h : Rd b s m1 m2 l o ct w) (hk : Sp.tokKind l = 3) {v : Nat} (hv : Sp.numVal (Sp.tok l) = some v) :
    Calls Tryz.prog 252 #[.pointer (some ⟨b, 0, none⟩)] w fun e w' => e = .returned (.int .i16 v) ∧ Rd b s m1 m2 (Sp.next l) o ct w' ∧ Ext b w w' := by
  obtain ⟨nv, ns, h, hl⟩ := h
  obtain ⟨i0, hi, hz0, hz1, hz2⟩ := info_parts infoNumber
  obtain ⟨hne, hd⟩ := digits_of_kind hk
  obtain ⟨hn, hle, rfl⟩ := numVal_some hv
  obtain ⟨t, et, hsz, h0, hlen, hx⟩ := number_text hk (by have := h.len; have := h.sz; omega)
  have hx := hx h0
  have h3 : w.cell? ⟨b, 3, none⟩ = some (.string t) := by rw [et]; exact cell_of h.blk 3 rfl
  have HP : Hid (∀ w : World, Calls Tryz.prog 260 #[.string t, .int .i64 10, .int .i64 16] w fun e w' => e = .returned (.tuple #[.int .i64 ((Sp.decimal (Sp.tok l) : Nat) : Int), .nilIface]) ∧ Below w.heap.size w w') := by
    rw [et]; exact parseInt_ok (Sp.tok l) hne hd hlen hle
  have HL : Hid (Sp.Nums (Sp.skip s.data.toList) (Sp.next l) (ns ++ [Sp.decimal (Sp.tok l)])) := by
    have := hl.step
    rwa [Sp.numsAt, if_pos hk] at this
  have hns : ns.length ≤ 400 := by
    have h1 := hl.len
    have h2 := Sp.skip_le s.data.toList
    have h3 := h.sz
    have : s.data.toList.length = s.size := by simp
    omega
  clear hl
  generalize Sp.decimal (Sp.tok l) = d at *
  by_cases h1 : 1 < t.size
  · have h48 : ¬ ((t[0].toNat : Int) = 48) := fun e => hn ⟨by omega, hx.2 e⟩
    have b48 : ((t[0].toNat : Int) == 48) = false := by simpa using h48
    clear hx hn hsz hd hne hk hv et
    go_enter Tryz.func252, Tryz.ntmps252
    go_wp2_with fail
    refine (HP.out _).mono ?_
    rintro e w1 ⟨rfl, hb⟩
    go_wp2_with fail
    refine (stepN_calls (rdn_at h hb)).mono ?_
    rintro e w2 ⟨rfl, h2, x2⟩
    have c7 : w2.cell? ⟨b, 7, none⟩ = some nv := cell_of h2.blk 7 rfl
    have hlt2 := h2.lt
    go_wp2_with (first
      | (at_builtin; refine wpList_append_own_at _ rfl _ _ 84 rfl (b + 1) 226 i0 (.int .i16 0) 1 2 Tryz.underlying84 hi hz0 hz1 hz2 rfl (by decide) nv ns.length (numVals ns) rfl (h2.row.alloc _) ⟨w2.heap.size, 0, none⟩ 1 1 [.int .i16 (d : Nat)] rfl rfl (cell_one_new _ _ _) ?q1 ?q2 ?q3 ?q4 ?_))
    case q1 => intro u hu; simp at hu; subst hu; rfl
    case q2 => unfold maxLen; omega
    case q3 => omega
    case q4 => simp; omega
    intro v' w3 hown3 hgrow3 _ _
    obtain ⟨g3, cap3, rfl⟩ := row_slice hown3
    obtain ⟨hb3, hr3, x3⟩ := rd_more h2 d _ hown3 hgrow3
    have c3 : w3.cell? ⟨b, 7, none⟩ = some nv := cell_of hb3 7 rfl
    have f3 := frozen_of hb3 7
    have H3 : Hid (RdN b s m1 m2 (Sp.next l) o ct _ (ns ++ [d]) (w3.setCell ⟨b, 7, none⟩ (.slice (some ⟨g3, 0, none⟩) (ns.length + 1) cap3)) ∧ Ext b w2 (w3.setCell ⟨b, 7, none⟩ (.slice (some ⟨g3, 0, none⟩) (ns.length + 1) cap3))) := ⟨hr3, x3⟩
    clear hr3 x3 hb3 hown3 hgrow3
    go_wp2_with fail
    go_ret
    exact ⟨rfl, ⟨_, _, H3.out.1, HL.out⟩, ((Ext.of_below hb).trans x2).trans H3.out.2⟩
  · have h1' : ¬ (1 : Int) < (t.size : Int) := by omega
    clear hx hn hsz hd hne hk hv et
    go_enter Tryz.func252, Tryz.ntmps252
    go_wp2_with fail
    refine (HP.out _).mono ?_
    rintro e w1 ⟨rfl, hb⟩
    go_wp2_with fail
    refine (stepN_calls (rdn_at h hb)).mono ?_
    rintro e w2 ⟨rfl, h2, x2⟩
    have c7 : w2.cell? ⟨b, 7, none⟩ = some nv := cell_of h2.blk 7 rfl
    have hlt2 := h2.lt
    go_wp2_with (first
      | (at_builtin; refine wpList_append_own_at _ rfl _ _ 84 rfl (b + 1) 226 i0 (.int .i16 0) 1 2 Tryz.underlying84 hi hz0 hz1 hz2 rfl (by decide) nv ns.length (numVals ns) rfl (h2.row.alloc _) ⟨w2.heap.size, 0, none⟩ 1 1 [.int .i16 (d : Nat)] rfl rfl (cell_one_new _ _ _) ?q1 ?q2 ?q3 ?q4 ?_))
    case q1 => intro u hu; simp at hu; subst hu; rfl
    case q2 => unfold maxLen; omega
    case q3 => omega
    case q4 => simp; omega
    intro v' w3 hown3 hgrow3 _ _
    obtain ⟨g3, cap3, rfl⟩ := row_slice hown3
    obtain ⟨hb3, hr3, x3⟩ := rd_more h2 d _ hown3 hgrow3
    have c3 : w3.cell? ⟨b, 7, none⟩ = some nv := cell_of hb3 7 rfl
    have f3 := frozen_of hb3 7
    have H3 : Hid (RdN b s m1 m2 (Sp.next l) o ct _ (ns ++ [d]) (w3.setCell ⟨b, 7, none⟩ (.slice (some ⟨g3, 0, none⟩) (ns.length + 1) cap3)) ∧ Ext b w2 (w3.setCell ⟨b, 7, none⟩ (.slice (some ⟨g3, 0, none⟩) (ns.length + 1) cap3))) := ⟨hr3, x3⟩
    clear hr3 x3 hb3 hown3 hgrow3
    go_wp2_with fail
    go_ret
    exact ⟨rfl, ⟨_, _, H3.out.1, HL.out⟩, ((Ext.of_below hb).trans x2).trans H3.out.2⟩

theorem number_bad {b : Nat} {s : ByteArray} {m1 m2 : Nat} {l : Sp.Bs} {o : Nat} {ct : Int × Int} {w : World} (h : Rd b s m1 m2 l o ct w) (hL : Laid w) (hk : Sp.tokKind l = 3) (hv : Sp.numVal (Sp.tok l) = none) :
    Calls Tryz.prog 252 #[.pointer (some ⟨b, 0, none⟩)] w fun e w' => Faulty s b w (2, l.length) e w' := by
  obtain ⟨hne, hd⟩ := digits_of_kind hk
  obtain ⟨t, et, hsz, h0, hlen, hx⟩ := number_text hk (by have := h.len; have := h.sz; omega)
  have hx := hx h0
  have h3 : w.cell? ⟨b, 3, none⟩ = some (.string t) := by rw [h.c3, et]
  rcases numVal_none hv with hle | ⟨hle, h1, h48⟩
  · have HP : Hid (Calls Tryz.prog 260 #[.string t, .int .i64 10, .int .i64 16] w fun e w' => ∃ (n : Int) (N : Nat), e = .returned (.tuple #[.int .i64 n, .iface 436 (.pointer (some ⟨N, 0, none⟩))]) ∧ Below w.heap.size w w') := by
      rw [et]; exact parseInt_range (Sp.tok l) hne hd hlen hle w hL
    clear hx hsz hd hne hk hv et hle
    go_enter Tryz.func252, Tryz.ntmps252
    go_wp2_with fail
    refine (HP.out).mono ?_
    rintro e w1 ⟨n, N, rfl, hb⟩
    go_wp2_with fail
    refine (fault_calls (rd_at h hb) 2).mono ?_
    rintro e w' ⟨rfl, rfl⟩
    go_wp2_with fail
    exact ⟨rfl, Faulty.ahead (Ext.of_below hb) (faulty_of (rd_at h hb) 2 2 rfl)⟩
  · have HP : Hid (∀ w : World, Calls Tryz.prog 260 #[.string t, .int .i64 10, .int .i64 16] w fun e w' => e = .returned (.tuple #[.int .i64 ((Sp.decimal (Sp.tok l) : Nat) : Int), .nilIface]) ∧ Below w.heap.size w w') := by
      rw [et]; exact parseInt_ok (Sp.tok l) hne hd hlen hle
    generalize Sp.decimal (Sp.tok l) = d at *
    have h1' : 1 < t.size := by omega
    have e48 : (t[0].toNat : Int) = 48 := hx.1 h48
    have b48 : ((t[0].toNat : Int) == 48) = true := by simpa using e48
    clear hx hsz hd hne hk hv et h1 h48 e48
    go_enter Tryz.func252, Tryz.ntmps252
    go_wp2_with fail
    refine (HP.out _).mono ?_
    rintro e w1 ⟨rfl, hb⟩
    go_wp2_with fail
    refine (fault_calls (rd_at h hb) 2).mono ?_
    rintro e w' ⟨rfl, rfl⟩
    go_wp2_with fail
    exact ⟨rfl, Faulty.ahead (Ext.of_below hb) (faulty_of (rd_at h hb) 2 2 rfl)⟩

end Go.Proofs.YtiopfihjmkfdmaaGreatDoor
