/- SUMS: chain over product. -/
import Derived.Test.YtiopfihjmkfdmaaGreatDoorGSums
namespace Go.Proofs.YtiopfihjmkfdmaaGreatDoor
open Go.RowKit
set_option maxRecDepth 100000
set_option maxHeartbeats 400000

set_option maxHeartbeats 2000000 in
theorem chain_product {A : Sp.Alg} (Rp : Rep A) (b : Nat) (s : ByteArray) (m1 m2 o n : Nat) (u : Sp.Bs → Sp.R A.S)
    (hdec : Hid (∀ l x l1, u l = .ok (x, l1) → l1.length ≤ l.length))
    (hu : Hid (∀ l ct w, l.length < n → Rd b s m1 m2 l o ct w → Env b m1 m2 w → Calls Tryz.prog 235 #[.pointer (some ⟨b, 0, none⟩)] w (PostS Rp b s m1 m2 o ct w (u l))))
    (l : Sp.Bs) (ct : Int × Int) (w : World) (hl : l.length < n) (h : Rd b s m1 m2 l o ct w) (hE : Env b m1 m2 w) :
    Calls Tryz.prog 234 #[.pointer (some ⟨b, 0, none⟩), .int .i64 0, .func (Fn.func 235) #[.pointer (some ⟨b, 0, none⟩)] #[]] w (PostS Rp b s m1 m2 o ct w (Sp.pWith A 0 u l)) := by
  go_enter Tryz.func234, Tryz.ntmps234
  go_wp2_with fail
  refine (hu.out l ct _ hl h hE).mono ?_
  intro e w1 hp
  cases hr : u l with
  | error er =>
    rw [hr] at hp
    obtain ⟨N, rfl, hf⟩ := hp
    refine ⟨rfl, ?_⟩
    unfold Sp.pWith
    rw [hr]
    exact ⟨N, rfl, hf⟩
  | ok xl =>
    obtain ⟨x, l1⟩ := xl
    rw [hr] at hp
    obtain ⟨v, rfl, ct1, hv, h1, x1⟩ := hp
    obtain ⟨tv, uv, rfl⟩ := Rp.iface _ _ _ _ hv
    go_wp2_with fail
    go_loopw [7] (fun t wr => ∃ (tt : TypeId) (uu : Value) (x' : A.S) (l' : Sp.Bs) (m : Nat) (ct' : Int × Int), t = .iface tt uu ∧ Hid (Rp.S ct (.iface tt uu) x' ct') ∧ Hid (l'.length < m ∧ l'.length < n ∧ Sp.pWith A 0 u l = Sp.pChain A 0 u m x' l') ∧ Hid (Rd b s m1 m2 l' o ct' wr ∧ Env b m1 m2 wr ∧ Ext b w wr)) (fun _ wr => restOf b s wr)
    case atStart => 
      refine ⟨tv, uv, x, l1, l1.length + 1, ct1, rfl, hv, ⟨Nat.lt_succ_self _, ?_, ?_⟩, h1, hE.ext x1, x1⟩
      · have := hdec.out l x l1 hr
        omega
      · unfold Sp.pWith
        rw [hr]
    case round =>
      obtain ⟨tt, uu, x', l', m, ct', rfl, hv', hm', hs'⟩ := hrel
      have c3 := hs'.out.1.c3
      have c7 := hs'.out.1.c7
      cases ho : Sp.opOf (Sp.tok l') with
      | none =>
        have hlk := ops_look_none hs'.out.2.1.ops (Sp.tok l') hs'.out.1.tokLen400 ho
        have HO : Hid (Sp.opOf (Sp.tok l') = none) := ho
        clear ho
        have hfin : Hid (Sp.pWith A 0 u l = .ok (x', l')) := by
          unfold Hid
          rw [hm'.out.2.2]
          cases m with
          | zero => rfl
          | succ m => unfold Sp.pChain; rw [HO.out]
        clear HO
        go_wp2_with fail
        go_quiet (fail)
        go_wp2_with fail
        go_ret
        rw [hfin.out]
        exact ⟨_, rfl, ct', hv', hs'.out.1.drewN _, hs'.out.2.2.drewN _⟩
      | some k =>
        have hlk := ops_look_some hs'.out.2.1.ops (Sp.tok l') hs'.out.1.tokLen400 ho
        have hk5 : k < 5 := opOf_lt ho
        have HO : Hid (Sp.opOf (Sp.tok l') = some k) := ho
        clear ho
        by_cases hlv : Sp.opLevel k = 0
        · have HLV : Hid (Sp.opLevel k = 0) := hlv
          clear hlv
          go_wp2_with fail
          go_quiet (fail)
          go_wp2_with fail
          refine (opLevel_calls k hk5 _).mono ?_
          rintro e w2 ⟨rfl, rfl⟩
          rw [HLV.out]
          go_wp2_with fail
          refine (step_calls (hs'.out.1.drewN _) (kind_of_op HO.out)).mono ?_
          rintro e w2 ⟨rfl, h2, x2⟩
          have H2 : Hid (Rd b s m1 m2 (Sp.next l') o ct' (w2.alloc (.cells #[.int .i64 (k : Nat), .int .i64 0, .iface tt uu, .nilIface] 334))) := h2.ext _
          have h2lt := h2.lt
          have hlt := opOf_next HO.out
          have X3 : Hid (Ext b w (w2.alloc (.cells #[.int .i64 (k : Nat), .int .i64 0, .iface tt uu, .nilIface] 334)) ∧ Ext b wr (w2.alloc (.cells #[.int .i64 (k : Nat), .int .i64 0, .iface tt uu, .nilIface] 334))) := ⟨(hs'.out.2.2.trans x2.undrewN).alloc _, x2.undrewN.alloc _⟩
          have hNb : Hid ((w2.alloc (.cells #[.int .i64 (k : Nat), .int .i64 0, .iface tt uu, .nilIface] 334)).heap[w2.heap.size]? = some (.cells (binCells k 0 (.iface tt uu) .nilIface) 334)) := heap_alloc_new _ _
          have hws : w.heap.size ≤ w2.heap.size := (hs'.out.2.2.trans x2.undrewN).size
          go_wp2_with fail
          refine (hasSite_calls k hk5 _).mono ?_
          rintro e w2' ⟨rfl, rfl⟩
          by_cases hst : 3 ≤ k
          · rw [show decide (3 ≤ k) = true from decide_eq_true hst]
            go_wp2_with fail
            generalize w2.alloc (.cells #[.int .i64 (k : Nat), .int .i64 0, .iface tt uu, .nilIface] 334) = wn at *
            refine (site_calls H2.out).mono ?_
            rintro e w3 ⟨rfl, h3, x3⟩
            have hnb : w3.heap[w2.heap.size]? = some (.cells (binCells k 0 (.iface tt uu) .nilIface) 334) := by
              exact x3.keep hNb.out (by omega) (not_num (by decide))
            have k1 := cell_of hnb 1 (v := .int .i64 0) rfl
            have f1 := frozen_of hnb 1
            have hnb1 := bin_set1 hnb ct'.2
            have H3 : Hid (Rd b s m1 m2 (Sp.next l') o (ct'.1, RowKit.wrap64 (ct'.2 + 1)) (w3.setCell ⟨w2.heap.size, 1, none⟩ (.int .i64 ct'.2))) := h3.set_other (p := ⟨w2.heap.size, 1, none⟩) (by show w2.heap.size ≠ b; omega) (nn_of hnb (by decide)) _
            have X4 : Hid (Ext b w (w3.setCell ⟨w2.heap.size, 1, none⟩ (.int .i64 ct'.2)) ∧ Env b m1 m2 (w3.setCell ⟨w2.heap.size, 1, none⟩ (.int .i64 ct'.2))) := by
              have e := (X3.out.1.trans x3).setCell (p := ⟨w2.heap.size, 1, none⟩) (.inr hws) (.int .i64 ct'.2)
              exact ⟨e, hE.ext e⟩
            have HNB : Hid (_ = _) := hnb1
            clear hnb1 hnb
            go_wp2_with fail
            clear k1 f1
            generalize w3.setCell ⟨w2.heap.size, 1, none⟩ (.int .i64 ct'.2) = w5 at *
            have hp3 := hu.out (Sp.next l') _ w5 (by have := hm'.out.2.1; omega) H3.out X4.out.2
            refine hp3.mono ?_
            intro e w4 hp4
            cases hr4 : u (Sp.next l') with
            | error er =>
              rw [hr4] at hp4
              have hfin : Sp.pWith A 0 u l = .error er := by
                rw [hm'.out.2.2]
                cases m with
                | zero => exact absurd hm'.out.1 (by omega)
                | succ m => unfold Sp.pChain; rw [HO.out]; simp only; rw [if_pos HLV.out, hr4]
              obtain ⟨N, rfl, hf⟩ := hp4
              refine ⟨rfl, ?_⟩
              rw [hfin]
              exact Faulty.ahead X4.out.1 ⟨N, rfl, hf⟩
            | ok yl =>
              obtain ⟨y, l2⟩ := yl
              rw [hr4] at hp4
              obtain ⟨vy, rfl, ct4, hvy, h4, x4⟩ := hp4
              obtain ⟨ty, uy, rfl⟩ := Rp.iface _ _ _ _ hvy
              have hd4 := hdec.out _ _ _ hr4
              have HB : Hid (Rp.S ct (.iface 334 (.agg #[.int .i64 (k : Nat), .int .i64 ct'.2, .iface tt uu, .iface ty uy])) (A.bin k x' y) ct4) := Rp.binSite ct k _ _ _ _ _ _ hst hk5 hv'.out hvy
              have hnew : Hid (l2.length < m - 1 ∧ l2.length < n ∧ Sp.pWith A 0 u l = Sp.pChain A 0 u (m - 1) (A.bin k x' y) l2) := by
                have := hm'.out.1
                have := hm'.out.2.1
                refine ⟨by omega, by omega, ?_⟩
                rw [hm'.out.2.2]
                cases m with
                | zero => exact absurd hm'.out.1 (by omega)
                | succ m =>
                  have e : Sp.pChain A 0 u (m + 1) x' l' = Sp.pChain A 0 u m (A.bin k x' y) l2 := by
                    conv => lhs; unfold Sp.pChain
                    rw [HO.out]; simp only; rw [if_pos HLV.out, hr4]
                  exact e
              have hnb : w4.heap[w2.heap.size]? = some (.cells (binCells k ct'.2 (.iface tt uu) .nilIface) 334) := by
                exact x4.keep HNB.out (by omega) (not_num (by decide))
              have k3 := cell_of hnb 3 (v := .nilIface) rfl
              have f3 := frozen_of hnb 3
              have hnb3 := bin_set3 hnb (.iface ty uy)
              have q0 := cell_of hnb3 0 (v := .int .i64 (k : Nat)) rfl
              have q1 := cell_of hnb3 1 (v := .int .i64 ct'.2) rfl
              have q2 := cell_of hnb3 2 (v := .iface tt uu) rfl
              have q3 := cell_of hnb3 3 (v := .iface ty uy) rfl
              have h6 : Rd b s m1 m2 l2 o ct4 (w4.setCell ⟨w2.heap.size, 3, none⟩ (.iface ty uy)) := h4.set_other (p := ⟨w2.heap.size, 3, none⟩) (by show w2.heap.size ≠ b; omega) (nn_of hnb (by decide)) _
              have x6 : Ext b w (w4.setCell ⟨w2.heap.size, 3, none⟩ (.iface ty uy)) := (X4.out.1.trans x4).setCell (p := ⟨w2.heap.size, 3, none⟩) (.inr hws) _
              have hrest : restOf b s (w4.setCell ⟨w2.heap.size, 3, none⟩ (.iface ty uy)) < restOf b s wr := by
                rw [h6.rest, hs'.out.1.rest]; omega
              have HREST : Hid (_ < _) := hrest
              have HS : Hid (Rd b s m1 m2 l2 o ct4 (w4.setCell ⟨w2.heap.size, 3, none⟩ (.iface ty uy)) ∧ Env b m1 m2 (w4.setCell ⟨w2.heap.size, 3, none⟩ (.iface ty uy)) ∧ Ext b w (w4.setCell ⟨w2.heap.size, 3, none⟩ (.iface ty uy))) := ⟨h6, hE.ext x6, x6⟩
              clear hr4 hvy hp3 hnb hnb3 h6 x6 hrest x4 h4
              go_wp2_with fail
              exact ⟨⟨_, _, _, _, _, _, rfl, HB, hnew, HS⟩, HREST.out⟩
          · rw [show decide (3 ≤ k) = false from decide_eq_false hst]
            go_wp2_with fail
            generalize w2.alloc (.cells #[.int .i64 (k : Nat), .int .i64 0, .iface tt uu, .nilIface] 334) = w5 at *
            have HNB : Hid (w5.heap[w2.heap.size]? = some (.cells (binCells k 0 (.iface tt uu) .nilIface) 334)) := hNb.out
            have X4 : Hid (Ext b w w5 ∧ Env b m1 m2 w5) := ⟨X3.out.1, hE.ext X3.out.1⟩
            have hp3 := hu.out (Sp.next l') _ w5 (by have := hm'.out.2.1; omega) H2.out X4.out.2
            refine hp3.mono ?_
            intro e w4 hp4
            cases hr4 : u (Sp.next l') with
            | error er =>
              rw [hr4] at hp4
              have hfin : Sp.pWith A 0 u l = .error er := by
                rw [hm'.out.2.2]
                cases m with
                | zero => exact absurd hm'.out.1 (by omega)
                | succ m => unfold Sp.pChain; rw [HO.out]; simp only; rw [if_pos HLV.out, hr4]
              obtain ⟨N, rfl, hf⟩ := hp4
              refine ⟨rfl, ?_⟩
              rw [hfin]
              exact Faulty.ahead X4.out.1 ⟨N, rfl, hf⟩
            | ok yl =>
              obtain ⟨y, l2⟩ := yl
              rw [hr4] at hp4
              obtain ⟨vy, rfl, ct4, hvy, h4, x4⟩ := hp4
              obtain ⟨ty, uy, rfl⟩ := Rp.iface _ _ _ _ hvy
              have hd4 := hdec.out _ _ _ hr4
              have HB : Hid (Rp.S ct (.iface 334 (.agg #[.int .i64 (k : Nat), .int .i64 0, .iface tt uu, .iface ty uy])) (A.bin k x' y) ct4) := Rp.bin ct k _ _ _ _ _ _ (by omega) hv'.out hvy
              have hnew : Hid (l2.length < m - 1 ∧ l2.length < n ∧ Sp.pWith A 0 u l = Sp.pChain A 0 u (m - 1) (A.bin k x' y) l2) := by
                have := hm'.out.1
                have := hm'.out.2.1
                refine ⟨by omega, by omega, ?_⟩
                rw [hm'.out.2.2]
                cases m with
                | zero => exact absurd hm'.out.1 (by omega)
                | succ m =>
                  have e : Sp.pChain A 0 u (m + 1) x' l' = Sp.pChain A 0 u m (A.bin k x' y) l2 := by
                    conv => lhs; unfold Sp.pChain
                    rw [HO.out]; simp only; rw [if_pos HLV.out, hr4]
                  exact e
              have hnb : w4.heap[w2.heap.size]? = some (.cells (binCells k 0 (.iface tt uu) .nilIface) 334) := by
                exact x4.keep HNB.out (by omega) (not_num (by decide))
              have k3 := cell_of hnb 3 (v := .nilIface) rfl
              have f3 := frozen_of hnb 3
              have hnb3 := bin_set3 hnb (.iface ty uy)
              have q0 := cell_of hnb3 0 (v := .int .i64 (k : Nat)) rfl
              have q1 := cell_of hnb3 1 (v := .int .i64 0) rfl
              have q2 := cell_of hnb3 2 (v := .iface tt uu) rfl
              have q3 := cell_of hnb3 3 (v := .iface ty uy) rfl
              have h6 : Rd b s m1 m2 l2 o ct4 (w4.setCell ⟨w2.heap.size, 3, none⟩ (.iface ty uy)) := h4.set_other (p := ⟨w2.heap.size, 3, none⟩) (by show w2.heap.size ≠ b; omega) (nn_of hnb (by decide)) _
              have x6 : Ext b w (w4.setCell ⟨w2.heap.size, 3, none⟩ (.iface ty uy)) := (X4.out.1.trans x4).setCell (p := ⟨w2.heap.size, 3, none⟩) (.inr hws) _
              have hrest : restOf b s (w4.setCell ⟨w2.heap.size, 3, none⟩ (.iface ty uy)) < restOf b s wr := by
                rw [h6.rest, hs'.out.1.rest]; omega
              have HREST : Hid (_ < _) := hrest
              have HS : Hid (Rd b s m1 m2 l2 o ct4 (w4.setCell ⟨w2.heap.size, 3, none⟩ (.iface ty uy)) ∧ Env b m1 m2 (w4.setCell ⟨w2.heap.size, 3, none⟩ (.iface ty uy)) ∧ Ext b w (w4.setCell ⟨w2.heap.size, 3, none⟩ (.iface ty uy))) := ⟨h6, hE.ext x6, x6⟩
              clear hr4 hvy hp3 hnb hnb3 h6 x6 hrest x4 h4
              go_wp2_with fail
              exact ⟨⟨_, _, _, _, _, _, rfl, HB, hnew, HS⟩, HREST.out⟩
        · have HLV : Hid (Sp.opLevel k = 1) := by
            unfold Hid Sp.opLevel at *
            split <;> simp_all
          have hfin : Hid (Sp.pWith A 0 u l = .ok (x', l')) := by
            unfold Hid
            rw [hm'.out.2.2]
            cases m with
            | zero => rfl
            | succ m => unfold Sp.pChain; rw [HO.out]; simp only; rw [if_neg hlv]
          clear hlv
          go_wp2_with fail
          go_quiet (fail)
          go_wp2_with fail
          refine (opLevel_calls k hk5 _).mono ?_
          rintro e w2 ⟨rfl, rfl⟩
          rw [HLV.out]
          go_wp2_with fail
          go_ret
          rw [hfin.out]
          exact ⟨_, rfl, ct', hv', hs'.out.1.drewN _, hs'.out.2.2.drewN _⟩

end Go.Proofs.YtiopfihjmkfdmaaGreatDoor


