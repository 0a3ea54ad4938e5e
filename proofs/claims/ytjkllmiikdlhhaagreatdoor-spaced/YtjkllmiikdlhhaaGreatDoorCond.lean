/- (reader) cond. -/
import Derived.Test.YtjkllmiikdlhhaaGreatDoorUnary2
namespace Go.Proofs.YtjkllmiikdlhhaaGreatDoor
open Go.RowKit
set_option maxRecDepth 100000
set_option maxHeartbeats 400000

/-- what a reader comes to, whatever it makes -/
def PostG {α : Type} (V : World → Value → α → Prop) (b : Nat) (s : ByteArray) (m1 m2 o : Nat) (w : World) : Sp.R α → Ending → World → Prop
  | .ok (x, l'), e, w' => ∃ v, e = .returned v ∧ V w' v x ∧ Rd b s m1 m2 l' o w' ∧ Ext b w w'
  | .error er, e, w' => Faulty s b w er e w'

theorem bad_postG {α : Type} {V : World → Value → α → Prop} {b : Nat} {s : ByteArray} {m1 m2 o : Nat} {w : World} {r : Sp.R α} {er : Nat × Nat} {e : Ending} {w' : World} (hr : r = .error er) (h : Faulty s b w er e w') : PostG V b s m1 m2 o w r e w' := by
  rw [hr]; exact h

theorem good_postG {α : Type} {V : World → Value → α → Prop} {b : Nat} {s : ByteArray} {m1 m2 o : Nat} {w : World} {r : Sp.R α} {x : α} {l' : Sp.Bs} {v : Value} {w' : World} (hr : r = .ok (x, l')) (hv : V w' v x) (h : Rd b s m1 m2 l' o w') (hx : Ext b w w') : PostG V b s m1 m2 o w r (.returned v) w' := by
  rw [hr]; exact ⟨v, rfl, hv, h, hx⟩

def CondV {A : Sp.Alg} (Rp : Rep A) (_w : World) (v : Value) (c : Nat × A.S × A.S) : Prop :=
  ∃ tl ul tr ur, v = .agg #[.int .i64 (c.1 : Nat), .iface tl ul, .iface tr ur] ∧ c.1 < 6 ∧ Rp.S (.iface tl ul) c.2.1 ∧ Rp.S (.iface tr ur) c.2.2

theorem rels_look_none {m : Nat} {w : World} (h : RelsMap m w) (t : Sp.Bs) (ht : t.length ≤ 400) (ho : Sp.relOf t = none) (k : Nat) :
    (Instr.lookup 64 (.map (some m)) (.string ⟨t.toArray⟩) true).run Tryz.prog (w.drewN k) = .ok (.tuple #[.int .i64 0, .bool false]) (w.drewN k) := by
  rw [rels_look (h.drewN k) t ht, ho]; rfl
theorem rels_look_some {m : Nat} {w : World} (h : RelsMap m w) (t : Sp.Bs) (ht : t.length ≤ 400) {j : Nat} (ho : Sp.relOf t = some j) (k : Nat) :
    (Instr.lookup 64 (.map (some m)) (.string ⟨t.toArray⟩) true).run Tryz.prog (w.drewN k) = .ok (.tuple #[.int .i64 (j : Nat), .bool true]) (w.drewN k) := by
  rw [rels_look (h.drewN k) t ht, ho]; rfl

theorem relOf_lt {t : Sp.Bs} {k : Nat} (h : Sp.relOf t = some k) : k < 6 := by
  unfold Sp.relOf at h
  repeat' split at h
  all_goals first | (cases h; decide) | cases h

theorem relOf_next {l : Sp.Bs} {k : Nat} (h : Sp.relOf (Sp.tok l) = some k) : (Sp.next l).length < l.length := by
  apply Sp.next_lt
  rw [← Sp.tok_length]
  apply List.length_pos_iff.2
  intro e
  rw [e] at h
  simp [Sp.relOf] at h

theorem Rd.ext {b : Nat} {s : ByteArray} {m1 m2 : Nat} {l : Sp.Bs} {o : Nat} {w : World} (h : Rd b s m1 m2 l o w) (ob : Obj) : Rd b s m1 m2 l o (w.alloc ob) := ⟨heap_alloc_old h.blk, h.suf, h.sz⟩

/-- the cells of a new block, later on -/
theorem new_block {b : Nat} {w w' : World} {ob : Obj} (x : Ext b (w.alloc ob) w') (hb : b < w.heap.size) : w'.heap[w.heap.size]? = some ob := by
  rw [x.block w.heap.size (by simp) (by omega)]
  exact heap_alloc_new _ _

theorem Rd.set_other {b : Nat} {s : ByteArray} {m1 m2 : Nat} {l : Sp.Bs} {o : Nat} {w : World} (h : Rd b s m1 m2 l o w) {p : Addr} (hp : p.block ≠ b) (u : Value) : Rd b s m1 m2 l o (w.setCell p u) :=
  ⟨by rw [Below.heap_setCell _ _ _ _ (fun e => hp e.symm)]; exact h.blk, h.suf, h.sz⟩

theorem set3_block {w : World} {N : Nat} {a0 a1 a2 : Value} {t : TypeId} (h : w.heap[N]? = some (.cells #[a0, a1, a2] t)) (v0 v1 v2 : Value) :
    (((w.setCell ⟨N, 0, none⟩ v0).setCell ⟨N, 1, none⟩ v1).setCell ⟨N, 2, none⟩ v2).heap[N]? = some (.cells #[v0, v1, v2] t) := by
  rw [heap_setCell_at (heap_setCell_at (heap_setCell_at h 0 v0) 1 v1) 2 v2]
  rfl

theorem pS_ok_bound {A : Sp.Alg} {o : Nat} {l : Sp.Bs} {x : A.S} {l1 : Sp.Bs} (h : Sp.pS A o l = .ok (x, l1)) : l1.length < l.length :=
  Sp.pSum_lt (Sp.pUnary_lt _ _) l x l1 h

theorem cond_calls {A : Sp.Alg} (Rp : Rep A) (b : Nat) (s : ByteArray) (m1 m2 o : Nat) (ho : o ≤ 12) (l : Sp.Bs) (w : World) (h : Rd b s m1 m2 l o w) (hE : Env b m1 m2 w) :
    Calls Tryz.prog 86 #[.pointer (some ⟨b, 0, none⟩)] w (PostG (CondV Rp) b s m1 m2 o w (Sp.pCond A o l)) := by
  have hw0 : Hid (Rd b s m1 m2 l o (w.alloc (.cells #[.int .i64 0, .nilIface, .nilIface] 141)) ∧ Env b m1 m2 (w.alloc (.cells #[.int .i64 0, .nilIface, .nilIface] 141)) ∧ Ext b w (w.alloc (.cells #[.int .i64 0, .nilIface, .nilIface] 141))) :=
    ⟨h.ext _, hE.ext ((Ext.refl b w).alloc _), (Ext.refl b w).alloc _⟩
  have hlt := h.lt
  cases hr : Sp.pS A o l with
  | error er =>
    have hfin : Hid (Sp.pCond A o l = .error er) := by unfold Hid Sp.pCond; rw [hr]
    go_enter Tryz.func86, Tryz.ntmps86
    go_wp2_with fail
    refine (sum_calls Rp b s m1 m2 o ho l _ hw0.out.1 hw0.out.2.1).mono ?_
    intro e w1 hp
    rw [hr] at hp
    obtain ⟨N, rfl, hf⟩ := hp
    exact ⟨rfl, bad_postG hfin.out (Faulty.ahead hw0.out.2.2 ⟨N, rfl, hf⟩)⟩
  | ok xl =>
    obtain ⟨x, l1⟩ := xl
    cases hq : Sp.relOf (Sp.tok l1) with
    | none =>
      have hfin : Hid (Sp.pCond A o l = .error (2, l1.length)) := by unfold Hid Sp.pCond; rw [hr]; simp only; rw [hq]; rfl
      go_enter Tryz.func86, Tryz.ntmps86
      go_wp2_with fail
      refine (sum_calls Rp b s m1 m2 o ho l _ hw0.out.1 hw0.out.2.1).mono ?_
      intro e w1 hp
      rw [hr] at hp
      obtain ⟨v, rfl, hv, h1, x1⟩ := hp
      have c3 := h1.c3
      have c6 := h1.c6
      have hE1 := hw0.out.2.1.ext x1
      have hlk := rels_look_none hE1.rels (Sp.tok l1) h1.tokLen400 hq
      clear hr hq
      go_wp2_with fail
      go_quiet (fail)
      go_wp2_with fail
      refine (fault_calls (h1.drewN _) 2).mono ?_
      rintro e w2 ⟨rfl, rfl⟩
      go_wp2_with fail
      exact ⟨rfl, bad_postG hfin.out (Faulty.ahead ((hw0.out.2.2.trans x1).drewN _) (faulty_of (h1.drewN _) 2 2 rfl))⟩
    | some k =>
      have hk6 := relOf_lt hq
      cases hr2 : Sp.pS A o (Sp.next l1) with
      | error er =>
        have hfin : Hid (Sp.pCond A o l = .error er) := by unfold Hid Sp.pCond; rw [hr]; simp only; rw [hq]; simp only; rw [hr2]
        go_enter Tryz.func86, Tryz.ntmps86
        go_wp2_with fail
        refine (sum_calls Rp b s m1 m2 o ho l _ hw0.out.1 hw0.out.2.1).mono ?_
        intro e w1 hp
        rw [hr] at hp
        obtain ⟨v, rfl, hv, h1, x1⟩ := hp
        have c3 := h1.c3
        have c6 := h1.c6
        have hE1 := hw0.out.2.1.ext x1
        have hlk := rels_look_some hE1.rels (Sp.tok l1) h1.tokLen400 hq
        clear hr hq
        go_wp2_with fail
        go_quiet (fail)
        go_wp2_with fail
        refine (step_calls (h1.drewN _)).mono ?_
        rintro e w2 ⟨rfl, h2, x2⟩
        go_wp2_with fail
        refine (sum_calls Rp b s m1 m2 o ho (Sp.next l1) _ h2 (hE1.ext x2.undrewN)).mono ?_
        intro e w3 hp3
        rw [hr2] at hp3
        obtain ⟨N, rfl, hf⟩ := hp3
        exact ⟨rfl, bad_postG hfin.out (Faulty.ahead ((hw0.out.2.2.trans x1).trans x2.undrewN) ⟨N, rfl, hf⟩)⟩
      | ok yl =>
        obtain ⟨y, l2⟩ := yl
        have hfin : Hid (Sp.pCond A o l = .ok ((k, x, y), l2)) := by unfold Hid Sp.pCond; rw [hr]; simp only; rw [hq]; simp only; rw [hr2]
        go_enter Tryz.func86, Tryz.ntmps86
        go_wp2_with fail
        refine (sum_calls Rp b s m1 m2 o ho l _ hw0.out.1 hw0.out.2.1).mono ?_
        intro e w1 hp
        rw [hr] at hp
        obtain ⟨v, rfl, hv, h1, x1⟩ := hp
        obtain ⟨tl, ul, rfl⟩ := Rp.iface _ _ hv
        have HV : Hid (Rp.S (.iface tl ul) x) := hv
        have c3 := h1.c3
        have c6 := h1.c6
        have hE1 := hw0.out.2.1.ext x1
        have hlk := rels_look_some hE1.rels (Sp.tok l1) h1.tokLen400 hq
        clear hr hq hv
        go_wp2_with fail
        go_quiet (fail)
        go_wp2_with fail
        refine (step_calls (h1.drewN _)).mono ?_
        rintro e w2 ⟨rfl, h2, x2⟩
        go_wp2_with fail
        refine (sum_calls Rp b s m1 m2 o ho (Sp.next l1) _ h2 (hE1.ext x2.undrewN)).mono ?_
        intro e w3 hp3
        rw [hr2] at hp3
        obtain ⟨v3, rfl, hv3, h3, x3⟩ := hp3
        obtain ⟨tr, ur, rfl⟩ := Rp.iface _ _ hv3
        have HV3 : Hid (Rp.S (.iface tr ur) y) := hv3
        have hnb := new_block ((x1.trans x2.undrewN).trans x3) hlt
        have k0 := cell_of hnb 0 (v := .int .i64 0) rfl
        have k1 := cell_of hnb 1 (v := .nilIface) rfl
        have k2 := cell_of hnb 2 (v := .nilIface) rfl
        have f0 := frozen_of hnb 0
        have f1 := frozen_of hnb 1
        have f2 := frozen_of hnb 2
        clear hr2 hv3
        have hW := set3_block hnb (.int .i64 (k : Nat)) (.iface tl ul) (.iface tr ur)
        have q0 := cell_of hW 0 (v := .int .i64 (k : Nat)) rfl
        have q1 := cell_of hW 1 (v := .iface tl ul) rfl
        have q2 := cell_of hW 2 (v := .iface tr ur) rfl
        have HR : Hid (Rd b s m1 m2 l2 o (((w3.setCell ⟨w.heap.size, 0, none⟩ (.int .i64 (k : Nat))).setCell ⟨w.heap.size, 1, none⟩ (.iface tl ul)).setCell ⟨w.heap.size, 2, none⟩ (.iface tr ur))) :=
          ((h3.set_other (p := ⟨w.heap.size, 0, none⟩) (by show w.heap.size ≠ b; omega) _).set_other (p := ⟨w.heap.size, 1, none⟩) (by show w.heap.size ≠ b; omega) _).set_other (p := ⟨w.heap.size, 2, none⟩) (by show w.heap.size ≠ b; omega) _
        have HX : Hid (Ext b w (((w3.setCell ⟨w.heap.size, 0, none⟩ (.int .i64 (k : Nat))).setCell ⟨w.heap.size, 1, none⟩ (.iface tl ul)).setCell ⟨w.heap.size, 2, none⟩ (.iface tr ur))) :=
          (((((hw0.out.2.2.trans x1).trans x2.undrewN).trans x3).setCell (p := ⟨w.heap.size, 0, none⟩) (.inr (Nat.le_refl _)) _).setCell (p := ⟨w.heap.size, 1, none⟩) (.inr (Nat.le_refl _)) _).setCell (p := ⟨w.heap.size, 2, none⟩) (.inr (Nat.le_refl _)) _
        have Q0 : Hid (_ = _) := q0
        have Q1 : Hid (_ = _) := q1
        have Q2 : Hid (_ = _) := q2
        clear q0 q1 q2 hW
        go_wp2_with fail
        exact bodyPost_ret (v := .agg #[.int .i64 (k : Nat), .iface tl ul, .iface tr ur]) (by simp [results, Tryz.results86, go_sem, Q0.out, Q1.out, Q2.out]) rfl (good_postG hfin.out ⟨tl, ul, tr, ur, rfl, hk6, HV, HV3⟩ HR HX)

end Go.Proofs.YtjkllmiikdlhhaaGreatDoor
