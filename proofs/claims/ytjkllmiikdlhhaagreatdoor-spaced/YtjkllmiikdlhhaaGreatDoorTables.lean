/- THE SIGNS: tree's two tables, Sign, Level, the two maps. -/
import Derived.Test.YtjkllmiikdlhhaaGreatDoorTake
import Derived.Maps.OwnSet
namespace Go.Proofs.YtjkllmiikdlhhaaGreatDoor
open Go.RowKit Go.WideMaps Go.Maps
set_option maxRecDepth 100000
set_option maxHeartbeats 400000

/-- what the listed variables hold -/
structure Laid (w : World) : Prop where
  size : 9 ≤ w.heap.size
  ops : ∀ k, k < 5 → w.cell? ⟨1, k, none⟩ = some (.string ⟨(Sp.opSign k).toArray⟩)
  rels : ∀ k, k < 6 → w.cell? ⟨2, k, none⟩ = some (.string ⟨(Sp.relSign k).toArray⟩)
  errS : ∃ tp p, w.cell? ⟨7, 0, none⟩ = some (.iface tp p)
  errR : ∃ tp p, w.cell? ⟨8, 0, none⟩ = some (.iface tp p)
  pow : Lib.TabIs Tryz.prog w "internal/strconv.uint64pow10" .u64 Lib.pow10Tab

theorem opSign_calls (k : Nat) (hk : k < 5) (w : World) (h : w.cell? ⟨1, k, none⟩ = some (.string ⟨(Sp.opSign k).toArray⟩)) :
    Calls Tryz.prog 36 #[.int .i64 k] w fun e w' => e = .returned (.string ⟨(Sp.opSign k).toArray⟩) ∧ w' = w := by
  generalize (⟨(Sp.opSign k).toArray⟩ : ByteArray) = t at *
  go_enter Tryz.func36, Tryz.ntmps36
  go_wp2_with fail
  go_ret
  exact ⟨rfl, rfl⟩

theorem relSign_calls (k : Nat) (hk : k < 6) (w : World) (h : w.cell? ⟨2, k, none⟩ = some (.string ⟨(Sp.relSign k).toArray⟩)) :
    Calls Tryz.prog 37 #[.int .i64 k] w fun e w' => e = .returned (.string ⟨(Sp.relSign k).toArray⟩) ∧ w' = w := by
  generalize (⟨(Sp.relSign k).toArray⟩ : ByteArray) = t at *
  go_enter Tryz.func37, Tryz.ntmps37
  go_wp2_with fail
  go_ret
  exact ⟨rfl, rfl⟩

theorem opLevel_calls (k : Nat) (hk : k < 5) (w : World) :
    Calls Tryz.prog 78 #[.int .i64 k] w fun e w' => e = .returned (.int .i64 (Sp.opLevel k)) ∧ w' = w := by
  have hk' : k = 0 ∨ k = 1 ∨ (2 ≤ k ∧ ¬ ((k : Int) = 0) ∧ ¬ ((k : Int) = 1)) := by omega
  rcases hk' with rfl | rfl | ⟨h2, h0, h1⟩
  · go_enter Tryz.func78, Tryz.ntmps78
    go_wp2_with fail
    go_ret
    exact ⟨rfl, rfl⟩
  · go_enter Tryz.func78, Tryz.ntmps78
    go_wp2_with fail
    go_ret
    exact ⟨rfl, rfl⟩
  · have hl : Hid (Sp.opLevel k = 1) := by unfold Hid Sp.opLevel; rw [if_neg (by omega)]
    have b0 : ((k : Int) == 0) = false := by simp; omega
    have b1 : ((k : Int) == 1) = false := by simp; omega
    go_enter Tryz.func78, Tryz.ntmps78
    go_wp2_with fail
    go_ret
    exact ⟨ret_int (by rw [hl.out]; rfl), rfl⟩

theorem law9 : Keyed Tryz.prog 9 := string_keyed Tryz.underlying9
theorem zeroOp (w : World) : (zeroValue 102).run Tryz.prog w = .ok (.int .i64 0) w := by kernel_rfl
theorem zeroRel (w : World) : (zeroValue 103).run Tryz.prog w = .ok (.int .i64 0) w := by kernel_rfl

def opsD : Nat → DataW Unit
  | 0 => .map []
  | k + 1 => (opsD k).put (.string (Sp.opSign k)) (.lit (.int .i64 k))
def relsD : Nat → DataW Unit
  | 0 => .map []
  | k + 1 => (relsD k).put (.string (Sp.relSign k)) (.lit (.int .i64 k))

def OpsMap (m : Nat) (w : World) : Prop := w.ownsMap Tryz.prog 9 (plainElem (H := Unit) Tryz.prog 102) m 5 (opsD 5)
def RelsMap (m : Nat) (w : World) : Prop := w.ownsMap Tryz.prog 9 (plainElem (H := Unit) Tryz.prog 103) m 6 (relsD 6)

theorem key_of (t : Sp.Bs) (h : t.length ≤ 400) : keyOf Tryz.prog 9 (.string ⟨t.toArray⟩) = some (.string t) := by
  have := keyOf_string_mk (P := Tryz.prog) (s := ⟨t.toArray⟩) Tryz.underlying9 (by show t.toArray.size ≤ maxLen; unfold maxLen; simp; omega)
  simpa using this

theorem opSign_len (k : Nat) : (Sp.opSign k).length ≤ 400 := by unfold Sp.opSign; split <;> decide
theorem relSign_len (k : Nat) : (Sp.relSign k).length ≤ 400 := by unfold Sp.relSign; split <;> decide

theorem ops_calls (w : World) (hL : Laid w) :
    Calls Tryz.prog 21 #[] w fun e w' => e = .returned (.map (some w.heap.size)) ∧ OpsMap w.heap.size w' ∧ Below w.heap.size w w' := by
  have hmm := @run_makeMap Tryz.prog
  go_enter Tryz.func21, Tryz.ntmps21
  go_wp2_with fail
  go_loopw [2] (fun i wr => ∃ k : Nat, k ≤ 5 ∧ i = .int .i64 k ∧ wr.ownsMap Tryz.prog 9 (plainElem (H := Unit) Tryz.prog 102) w.heap.size k (opsD k) ∧ Below w.heap.size w wr)
    (fun i _ => 5 - (intOf i).toNat)
  case atStart => exact ⟨0, Nat.zero_le _, rfl, World.ownsMap_made _ _ _ _, (Below.refl _ _).alloc (Nat.le_refl _) _⟩
  case round =>
    obtain ⟨k, hk, rfl, hown, hnx⟩ := hrel
    by_cases hlt : k < 5
    · have hc : wr.cell? ⟨1, k, none⟩ = some (.string ⟨(Sp.opSign k).toArray⟩) := by
        rw [hnx.cell (by have := hL.size; show 1 < w.heap.size; omega)]; exact hL.ops k hlt
      have HC : Hid (wr.cell? ⟨1, k, none⟩ = some (.string ⟨(Sp.opSign k).toArray⟩)) := hc
      clear hc
      have hle : (k : Int) ≤ 4 := by omega
      have hkey := key_of (Sp.opSign k) (opSign_len k)
      have hwf : (Lit.int .i64 (k : Int)).wf = true := by have := wrap64_wf (k : Int); rwa [IntWalk.wrap64_in _ (by omega)] at this
      go_wp2_with fail
      refine (opSign_calls k hlt _ HC.out).mono ?_
      rintro e w' ⟨rfl, rfl⟩
      go_wp2_with (first
        | (at_mapUpdate; refine wpList_mapUpdate_own _ rfl _ _ _ 62 rfl 9 102 law9 Tryz.underlying62 _ w.heap.size k _ rfl hown (by unfold maxLen; omega) _ _ _ rfl rfl hkey _ [] (plainElem_int Tryz.underlying102 hwf) ?_)
        | go_in)
      intro w1 hown1 hgrow1
      have R2 := hnx.grown hgrow1 hnx.size (fun j hj => by cases hj; exact Nat.le_refl _)
      clear hgrow1 hown
      go_wp2_with fail
      exact ⟨⟨k + 1, by omega, by go_num, hown1, R2⟩, by simp [intOf]; omega⟩
    · have hge : ¬ (k : Int) ≤ 4 := by omega
      have e : k = 5 := by omega
      subst e
      go_wp2_with fail
      go_ret
      exact ⟨rfl, hown, hnx⟩

theorem rels_calls (w : World) (hL : Laid w) :
    Calls Tryz.prog 22 #[] w fun e w' => e = .returned (.map (some w.heap.size)) ∧ RelsMap w.heap.size w' ∧ Below w.heap.size w w' := by
  have hmm := @run_makeMap Tryz.prog
  go_enter Tryz.func22, Tryz.ntmps22
  go_wp2_with fail
  go_loopw [2] (fun i wr => ∃ k : Nat, k ≤ 6 ∧ i = .int .i64 k ∧ wr.ownsMap Tryz.prog 9 (plainElem (H := Unit) Tryz.prog 103) w.heap.size k (relsD k) ∧ Below w.heap.size w wr)
    (fun i _ => 6 - (intOf i).toNat)
  case atStart => exact ⟨0, Nat.zero_le _, rfl, World.ownsMap_made _ _ _ _, (Below.refl _ _).alloc (Nat.le_refl _) _⟩
  case round =>
    obtain ⟨k, hk, rfl, hown, hnx⟩ := hrel
    by_cases hlt : k < 6
    · have hc : wr.cell? ⟨2, k, none⟩ = some (.string ⟨(Sp.relSign k).toArray⟩) := by
        rw [hnx.cell (by have := hL.size; show 2 < w.heap.size; omega)]; exact hL.rels k hlt
      have HC : Hid (wr.cell? ⟨2, k, none⟩ = some (.string ⟨(Sp.relSign k).toArray⟩)) := hc
      clear hc
      have hle : (k : Int) ≤ 5 := by omega
      have hkey := key_of (Sp.relSign k) (relSign_len k)
      have hwf : (Lit.int .i64 (k : Int)).wf = true := by have := wrap64_wf (k : Int); rwa [IntWalk.wrap64_in _ (by omega)] at this
      go_wp2_with fail
      refine (relSign_calls k hlt _ HC.out).mono ?_
      rintro e w' ⟨rfl, rfl⟩
      go_wp2_with (first
        | (at_mapUpdate; refine wpList_mapUpdate_own _ rfl _ _ _ 64 rfl 9 103 law9 Tryz.underlying64 _ w.heap.size k _ rfl hown (by unfold maxLen; omega) _ _ _ rfl rfl hkey _ [] (plainElem_int Tryz.underlying103 hwf) ?_)
        | go_in)
      intro w1 hown1 hgrow1
      have R2 := hnx.grown hgrow1 hnx.size (fun j hj => by cases hj; exact Nat.le_refl _)
      clear hgrow1 hown
      go_wp2_with fail
      exact ⟨⟨k + 1, by omega, by go_num, hown1, R2⟩, by simp [intOf]; omega⟩
    · have hge : ¬ (k : Int) ≤ 5 := by omega
      have e : k = 6 := by omega
      subst e
      go_wp2_with fail
      go_ret
      exact ⟨rfl, hown, hnx⟩

end Go.Proofs.YtjkllmiikdlhhaaGreatDoor
