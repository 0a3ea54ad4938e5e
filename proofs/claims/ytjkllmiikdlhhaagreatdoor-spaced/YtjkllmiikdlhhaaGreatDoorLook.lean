/- THE SIGNS LOOKED UP in the two maps. -/
import Derived.Test.YtjkllmiikdlhhaaGreatDoorTables
namespace Go.Proofs.YtjkllmiikdlhhaaGreatDoor
open Go.RowKit Go.WideMaps Go.Maps
set_option maxRecDepth 100000
set_option maxHeartbeats 400000

theorem opsD_isMap : ∀ k, IsMap (opsD k)
  | 0 => isMap_empty
  | k + 1 => (opsD_isMap k).put _ _
theorem relsD_isMap : ∀ k, IsMap (relsD k)
  | 0 => isMap_empty
  | k + 1 => (relsD_isMap k).put _ _

theorem lit_ne {a b : Sp.Bs} (h : a ≠ b) : (Lit.string a) ≠ Lit.string b := fun e => h (Lit.string.inj e)

/-- one step up: what stands at a key -/
theorem step_same {D : DataW Unit} (hD : IsMap D) (t : Sp.Bs) (d z : DataW Unit) : Maps.has (D.put (.string t) d) (.string t) = true ∧ (D.put (.string t) d).atKey (.string t) z = d :=
  ⟨has_put_same hD (by simp [WideAt.IsKeyLit]) _, atKey_put_same hD (by simp [WideAt.IsKeyLit]) _ _⟩
theorem step_other {D : DataW Unit} (t u : Sp.Bs) (d z : DataW Unit) (h : u ≠ t) : Maps.has (D.put (.string t) d) (.string u) = Maps.has D (.string u) ∧ (D.put (.string t) d).atKey (.string u) z = D.atKey (.string u) z :=
  ⟨has_put_other (lit_ne h) _, atKey_put_other (lit_ne h) _ _⟩

theorem ops_view (t : Sp.Bs) (z : DataW Unit) : Maps.has (opsD 5) (.string t) = (Sp.opOf t).isSome ∧ (opsD 5).atKey (.string t) z = (match Sp.opOf t with | some k => .lit (.int .i64 (k : Nat)) | none => z) := by
  unfold Sp.opOf
  by_cases h0 : t = [43]
  · subst h0
    have e4 := step_other (D := opsD 4) (Sp.opSign 4) [43] (.lit (.int .i64 (4 : Nat))) z (by decide)
    have e3 := step_other (D := opsD 3) (Sp.opSign 3) [43] (.lit (.int .i64 (3 : Nat))) z (by decide)
    have e2 := step_other (D := opsD 2) (Sp.opSign 2) [43] (.lit (.int .i64 (2 : Nat))) z (by decide)
    have e1 := step_other (D := opsD 1) (Sp.opSign 1) [43] (.lit (.int .i64 (1 : Nat))) z (by decide)
    have e0 := step_same (opsD_isMap 0) [43] (.lit (.int .i64 (0 : Nat))) z
    exact ⟨(e4.1.trans (e3.1.trans (e2.1.trans (e1.1.trans e0.1)))), (e4.2.trans (e3.2.trans (e2.2.trans (e1.2.trans e0.2))))⟩
  by_cases h1 : t = [45]
  · subst h1
    have e4 := step_other (D := opsD 4) (Sp.opSign 4) [45] (.lit (.int .i64 (4 : Nat))) z (by decide)
    have e3 := step_other (D := opsD 3) (Sp.opSign 3) [45] (.lit (.int .i64 (3 : Nat))) z (by decide)
    have e2 := step_other (D := opsD 2) (Sp.opSign 2) [45] (.lit (.int .i64 (2 : Nat))) z (by decide)
    have e1 := step_same (opsD_isMap 1) [45] (.lit (.int .i64 (1 : Nat))) z
    exact ⟨(e4.1.trans (e3.1.trans (e2.1.trans e1.1))), (e4.2.trans (e3.2.trans (e2.2.trans e1.2)))⟩
  by_cases h2 : t = [42]
  · subst h2
    have e4 := step_other (D := opsD 4) (Sp.opSign 4) [42] (.lit (.int .i64 (4 : Nat))) z (by decide)
    have e3 := step_other (D := opsD 3) (Sp.opSign 3) [42] (.lit (.int .i64 (3 : Nat))) z (by decide)
    have e2 := step_same (opsD_isMap 2) [42] (.lit (.int .i64 (2 : Nat))) z
    exact ⟨(e4.1.trans (e3.1.trans e2.1)), (e4.2.trans (e3.2.trans e2.2))⟩
  by_cases h3 : t = [47]
  · subst h3
    have e4 := step_other (D := opsD 4) (Sp.opSign 4) [47] (.lit (.int .i64 (4 : Nat))) z (by decide)
    have e3 := step_same (opsD_isMap 3) [47] (.lit (.int .i64 (3 : Nat))) z
    exact ⟨(e4.1.trans e3.1), (e4.2.trans e3.2)⟩
  by_cases h4 : t = [37]
  · subst h4
    have e4 := step_same (opsD_isMap 4) [37] (.lit (.int .i64 (4 : Nat))) z
    exact ⟨ e4.1,  e4.2⟩
  have e4 := step_other (D := opsD 4) (Sp.opSign 4) t (.lit (.int .i64 (4 : Nat))) z h4
  have e3 := step_other (D := opsD 3) (Sp.opSign 3) t (.lit (.int .i64 (3 : Nat))) z h3
  have e2 := step_other (D := opsD 2) (Sp.opSign 2) t (.lit (.int .i64 (2 : Nat))) z h2
  have e1 := step_other (D := opsD 1) (Sp.opSign 1) t (.lit (.int .i64 (1 : Nat))) z h1
  have e0 := step_other (D := opsD 0) (Sp.opSign 0) t (.lit (.int .i64 (0 : Nat))) z h0
  rw [if_neg h0, if_neg h1, if_neg h2, if_neg h3, if_neg h4]
  exact ⟨(e4.1.trans (e3.1.trans (e2.1.trans (e1.1.trans (e0.1.trans rfl))))), (e4.2.trans (e3.2.trans (e2.2.trans (e1.2.trans (e0.2.trans rfl)))))⟩

theorem rels_view (t : Sp.Bs) (z : DataW Unit) : Maps.has (relsD 6) (.string t) = (Sp.relOf t).isSome ∧ (relsD 6).atKey (.string t) z = (match Sp.relOf t with | some k => .lit (.int .i64 (k : Nat)) | none => z) := by
  unfold Sp.relOf
  by_cases h0 : t = [60]
  · subst h0
    have e5 := step_other (D := relsD 5) (Sp.relSign 5) [60] (.lit (.int .i64 (5 : Nat))) z (by decide)
    have e4 := step_other (D := relsD 4) (Sp.relSign 4) [60] (.lit (.int .i64 (4 : Nat))) z (by decide)
    have e3 := step_other (D := relsD 3) (Sp.relSign 3) [60] (.lit (.int .i64 (3 : Nat))) z (by decide)
    have e2 := step_other (D := relsD 2) (Sp.relSign 2) [60] (.lit (.int .i64 (2 : Nat))) z (by decide)
    have e1 := step_other (D := relsD 1) (Sp.relSign 1) [60] (.lit (.int .i64 (1 : Nat))) z (by decide)
    have e0 := step_same (relsD_isMap 0) [60] (.lit (.int .i64 (0 : Nat))) z
    exact ⟨(e5.1.trans (e4.1.trans (e3.1.trans (e2.1.trans (e1.1.trans e0.1))))), (e5.2.trans (e4.2.trans (e3.2.trans (e2.2.trans (e1.2.trans e0.2)))))⟩
  by_cases h1 : t = [60, 61]
  · subst h1
    have e5 := step_other (D := relsD 5) (Sp.relSign 5) [60, 61] (.lit (.int .i64 (5 : Nat))) z (by decide)
    have e4 := step_other (D := relsD 4) (Sp.relSign 4) [60, 61] (.lit (.int .i64 (4 : Nat))) z (by decide)
    have e3 := step_other (D := relsD 3) (Sp.relSign 3) [60, 61] (.lit (.int .i64 (3 : Nat))) z (by decide)
    have e2 := step_other (D := relsD 2) (Sp.relSign 2) [60, 61] (.lit (.int .i64 (2 : Nat))) z (by decide)
    have e1 := step_same (relsD_isMap 1) [60, 61] (.lit (.int .i64 (1 : Nat))) z
    exact ⟨(e5.1.trans (e4.1.trans (e3.1.trans (e2.1.trans e1.1)))), (e5.2.trans (e4.2.trans (e3.2.trans (e2.2.trans e1.2))))⟩
  by_cases h2 : t = [61, 61]
  · subst h2
    have e5 := step_other (D := relsD 5) (Sp.relSign 5) [61, 61] (.lit (.int .i64 (5 : Nat))) z (by decide)
    have e4 := step_other (D := relsD 4) (Sp.relSign 4) [61, 61] (.lit (.int .i64 (4 : Nat))) z (by decide)
    have e3 := step_other (D := relsD 3) (Sp.relSign 3) [61, 61] (.lit (.int .i64 (3 : Nat))) z (by decide)
    have e2 := step_same (relsD_isMap 2) [61, 61] (.lit (.int .i64 (2 : Nat))) z
    exact ⟨(e5.1.trans (e4.1.trans (e3.1.trans e2.1))), (e5.2.trans (e4.2.trans (e3.2.trans e2.2)))⟩
  by_cases h3 : t = [33, 61]
  · subst h3
    have e5 := step_other (D := relsD 5) (Sp.relSign 5) [33, 61] (.lit (.int .i64 (5 : Nat))) z (by decide)
    have e4 := step_other (D := relsD 4) (Sp.relSign 4) [33, 61] (.lit (.int .i64 (4 : Nat))) z (by decide)
    have e3 := step_same (relsD_isMap 3) [33, 61] (.lit (.int .i64 (3 : Nat))) z
    exact ⟨(e5.1.trans (e4.1.trans e3.1)), (e5.2.trans (e4.2.trans e3.2))⟩
  by_cases h4 : t = [62, 61]
  · subst h4
    have e5 := step_other (D := relsD 5) (Sp.relSign 5) [62, 61] (.lit (.int .i64 (5 : Nat))) z (by decide)
    have e4 := step_same (relsD_isMap 4) [62, 61] (.lit (.int .i64 (4 : Nat))) z
    exact ⟨(e5.1.trans e4.1), (e5.2.trans e4.2)⟩
  by_cases h5 : t = [62]
  · subst h5
    have e5 := step_same (relsD_isMap 5) [62] (.lit (.int .i64 (5 : Nat))) z
    exact ⟨ e5.1,  e5.2⟩
  have e5 := step_other (D := relsD 5) (Sp.relSign 5) t (.lit (.int .i64 (5 : Nat))) z h5
  have e4 := step_other (D := relsD 4) (Sp.relSign 4) t (.lit (.int .i64 (4 : Nat))) z h4
  have e3 := step_other (D := relsD 3) (Sp.relSign 3) t (.lit (.int .i64 (3 : Nat))) z h3
  have e2 := step_other (D := relsD 2) (Sp.relSign 2) t (.lit (.int .i64 (2 : Nat))) z h2
  have e1 := step_other (D := relsD 1) (Sp.relSign 1) t (.lit (.int .i64 (1 : Nat))) z h1
  have e0 := step_other (D := relsD 0) (Sp.relSign 0) t (.lit (.int .i64 (0 : Nat))) z h0
  rw [if_neg h0, if_neg h1, if_neg h2, if_neg h3, if_neg h4, if_neg h5]
  exact ⟨(e5.1.trans (e4.1.trans (e3.1.trans (e2.1.trans (e1.1.trans (e0.1.trans rfl)))))), (e5.2.trans (e4.2.trans (e3.2.trans (e2.2.trans (e1.2.trans (e0.2.trans rfl))))))⟩

theorem ops_look {m : Nat} {w : World} (h : OpsMap m w) (t : Sp.Bs) (ht : t.length ≤ 400) :
    (Instr.lookup 62 (.map (some m)) (.string ⟨t.toArray⟩) true).run Tryz.prog w = .ok (.tuple #[.int .i64 (((Sp.opOf t).getD 0 : Nat) : Int), .bool (Sp.opOf t).isSome]) w := by
  obtain ⟨v, ps, hrun, hv⟩ := World.ownsMap.look_ok h law9 Tryz.underlying62 (zeroOp w) (plainElem_int Tryz.underlying102 (a := 0) (by decide)) (key_of t ht)
  have hw := ops_view t (.lit (.int .i64 0))
  rw [hw.1] at hrun
  rw [hw.2] at hv
  obtain ⟨a, rfl, hc, _⟩ := plainElem_int_inv Tryz.underlying102 hv
  rw [hrun]
  cases ho : Sp.opOf t with
  | none => rw [ho] at hc; simp at hc; simp [← hc.1]
  | some k => rw [ho] at hc; simp at hc; simp [← hc.1]

theorem rels_look {m : Nat} {w : World} (h : RelsMap m w) (t : Sp.Bs) (ht : t.length ≤ 400) :
    (Instr.lookup 64 (.map (some m)) (.string ⟨t.toArray⟩) true).run Tryz.prog w = .ok (.tuple #[.int .i64 (((Sp.relOf t).getD 0 : Nat) : Int), .bool (Sp.relOf t).isSome]) w := by
  obtain ⟨v, ps, hrun, hv⟩ := World.ownsMap.look_ok h law9 Tryz.underlying64 (zeroRel w) (plainElem_int Tryz.underlying103 (a := 0) (by decide)) (key_of t ht)
  have hw := rels_view t (.lit (.int .i64 0))
  rw [hw.1] at hrun
  rw [hw.2] at hv
  obtain ⟨a, rfl, hc, _⟩ := plainElem_int_inv Tryz.underlying103 hv
  rw [hrun]
  cases ho : Sp.relOf t with
  | none => rw [ho] at hc; simp at hc; simp [← hc.1]
  | some k => rw [ho] at hc; simp at hc; simp [← hc.1]

theorem OpsMap.ext {m b : Nat} {w w' : World} (h : OpsMap m w) (x : Ext b w w') (hb : m ≠ b) : OpsMap m w' := by
  obtain ⟨es, clock, hh, r⟩ := h
  exact ⟨es, clock, by rw [x.block m (heap_lt hh) hb]; exact hh, r⟩
theorem RelsMap.ext {m b : Nat} {w w' : World} (h : RelsMap m w) (x : Ext b w w') (hb : m ≠ b) : RelsMap m w' := by
  obtain ⟨es, clock, hh, r⟩ := h
  exact ⟨es, clock, by rw [x.block m (heap_lt hh) hb]; exact hh, r⟩
end Go.Proofs.YtjkllmiikdlhhaaGreatDoor
