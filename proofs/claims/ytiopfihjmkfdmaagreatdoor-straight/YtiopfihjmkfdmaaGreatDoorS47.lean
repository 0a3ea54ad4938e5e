import Derived.Test.YtiopfihjmkfdmaaGreatDoorS46
import Derived.Test.YtiopfihjmkfdmaaGreatDoorS23
import Derived.Test.YtiopfihjmkfdmaaGreatDoorS26
namespace Go.Proofs.YtiopfihjmkfdmaaGreatDoor
open Go.RowKit
set_option maxRecDepth 100000
set_option maxHeartbeats 4000000
theorem results_an (tmps : Array Value) (w : World) {b : Nat} {c : Array Value} (ht : tmps.getD 4 undef = .pointer (some ⟨b, 0, none⟩)) (hu : tmps.getD 5 undef = .nilIface) (hl : (loadVar 64 ⟨b, 0, none⟩).run Tryz.prog w = .ok (.agg c) w) :
  (results Tryz.f32 tmps).run Tryz.prog w = .ok (.tuple #[.agg c, .nilIface]) w := by
 have ht' : tmps[4]?.getD undef = .pointer (some ⟨b, 0, none⟩) := by rw [← ht]; simp
 have hu' : tmps[5]?.getD undef = .nilIface := by rw [← hu]; simp
 unfold results
 rw [Tryz.results32]
 simp [asAddr, ht', hu', hl]
theorem repAt_mk {B : Nat} {w : World} {g h : Nat} (F : List (Option (Fin 8 → Sp.Iv)) × List Nat) (p q : Nat) (l1 : F.1.length = p + 1) (l2 : F.2.length = q) (e1 : w.heap[g]? = some (.cells (WI.fcCells F.1).toArray 76)) (e2 : w.heap[h]? = some (.cells (WI.siteCells F.2).toArray 3)) (e3 : B ≤ g) (e4 : B ≤ h) :
  RepAt B w (.agg #[.slice (some ⟨g, 0, none⟩) (p + 1) (p + 1), .slice (some ⟨h, 0, none⟩) q q]) F := ⟨g, h, by rw [l1, l2], e3, e4, e1, e2⟩
theorem Analyze_calls (s : ByteArray) (delay narrow unroll : Nat) (th : Bool) (w : World) (hs : s.size ≤ 1048576) (hL : Laid w) (hT : Turns w) (h1 : delay ≤ 4) (h2 : narrow ≤ 3) (h3 : unroll ≤ 3) :
  Calls Tryz.prog 32 #[.string s, .agg #[.int .i64 0, .int .i64 (delay : Nat), .int .i64 (narrow : Nat), .int .i64 (unroll : Nat), .bool th]] w (AnPost w th ⟨delay, narrow, unroll⟩ (Sp.tree s.data.toList)) := by
 obtain ⟨k0, k1, kb⟩ := laid2b (w := w) (o1 := .cells #[.int .i64 0, .int .i64 (delay : Nat), .int .i64 (narrow : Nat), .int .i64 (unroll : Nat), .bool th] 58) (o2 := .cells #[.slice none 0 0, .slice none 0 0] 64) (Below.refl _ _)
 have hsz : ((w.alloc (.cells #[.int .i64 0, .int .i64 (delay : Nat), .int .i64 (narrow : Nat), .int .i64 (unroll : Nat), .bool th] 58)).alloc (.cells #[.slice none 0 0, .slice none 0 0] 64)).heap.size = w.heap.size + 1 + 1 := by simp
 have hc := Program_calls WI.RtAn s ((w.alloc (.cells #[.int .i64 0, .int .i64 (delay : Nat), .int .i64 (narrow : Nat), .int .i64 (unroll : Nat), .bool th] 58)).alloc (.cells #[.slice none 0 0, .slice none 0 0] 64)) hs (hL.below kb hL.size)
 have K0 : Hid (_ = _) := k0
 have K1 : Hid (_ = _) := k1
 have KB : Hid (Below w.heap.size w _) := kb
 clear k0 k1 kb
 cases hr : Sp.parse Sp.Tr s.data.toList with
 | error er =>
  have E : Hid (Sp.tree s.data.toList = .error er) := by unfold Hid Sp.tree; rw [hr]
  rw [hr] at hc
  go_enter Tryz.func32, Tryz.ntmps32
  go_wp2_with fail
  generalize (w.alloc (.cells #[.int .i64 0, .int .i64 (delay : Nat), .int .i64 (narrow : Nat), .int .i64 (unroll : Nat), .bool th] 58)).alloc (.cells #[.slice none 0 0, .slice none 0 0] 64) = wz at *
  refine hc.mono ?_
  rintro e w1 ⟨v, rfl, hv, b1⟩
  obtain ⟨tv, uv, rfl⟩ := err_iface hv
  have hn1 : (w1.alloc (.cells #[.slice none 0 0, .int .i64 0, .int .i64 0, .slice none 0 0] 86)).heap[w.heap.size + 1]? = some (.cells #[.slice none 0 0, .slice none 0 0] 64) := heap_alloc_old (by rw [b1.block _ (by omega)]; exact K1.out)
  have c0 := cell_of hn1 0 (v := .slice none 0 0) rfl
  have c1 := cell_of hn1 1 (v := .slice none 0 0) rfl
  have f0 := frozen_of hn1 0
  have f1 := frozen_of hn1 1
  have h2 := heap_setCell_at (heap_setCell_at hn1 0 (.slice none 0 0)) 1 (.slice none 0 0)
  have Q0 : Hid (_ = _) := cell_of h2 0 (v := .slice none 0 0) rfl
  have Q1 : Hid (_ = _) := cell_of h2 1 (v := .slice none 0 0) rfl
  have HV : Hid (ErrAt (((w1.alloc (.cells #[.slice none 0 0, .int .i64 0, .int .i64 0, .slice none 0 0] 86)).setCell ⟨w.heap.size + 1, 0, none⟩ (.slice none 0 0)).setCell ⟨w.heap.size + 1, 1, none⟩ (.slice none 0 0)) w.heap.size (.iface tv uv) er) :=
   (((hv.laid _).set (by omega)).set (by omega)).weaken (by omega)
  have B : Hid (Below w.heap.size w (((w1.alloc (.cells #[.slice none 0 0, .int .i64 0, .int .i64 0, .slice none 0 0] 86)).setCell ⟨w.heap.size + 1, 0, none⟩ (.slice none 0 0)).setCell ⟨w.heap.size + 1, 1, none⟩ (.slice none 0 0))) :=
   (((KB.out.trans (b1.mono (by omega))).alloc (by have := b1.size; omega) _).setCell (p := ⟨w.heap.size + 1, 0, none⟩) (by show w.heap.size ≤ w.heap.size + 1; omega) _).setCell (p := ⟨w.heap.size + 1, 1, none⟩) (by show w.heap.size ≤ w.heap.size + 1; omega) _
  clear hv hc hn1 h2
  go_wp2_with fail
  exact bodyPost_ret (v := .tuple #[.agg #[.slice none 0 0, .slice none 0 0], .iface tv uv]) (by simp [results, Tryz.results32, go_sem, Q0.out, Q1.out]) rfl (by rw [E.out]; exact ⟨_, rfl, HV.out, B.out⟩)
 | ok xs =>
  have htr : Sp.tree s.data.toList = .ok (Sp.joinB xs) := by unfold Sp.tree; rw [hr]
  have E : Hid (Sp.tree s.data.toList = .ok (Sp.joinB xs)) := htr
  rw [hr] at hc
  obtain ⟨hp4, hq4, hok⟩ := Sp.tree_small htr
  have HIC : Hid (∀ W, Calls _ _ _ W _) := fun W => isConfig_yes delay narrow unroll th h1 h2 h3 W
  go_enter Tryz.func32, Tryz.ntmps32
  go_wp2_with fail
  generalize (w.alloc (.cells #[.int .i64 0, .int .i64 (delay : Nat), .int .i64 (narrow : Nat), .int .i64 (unroll : Nat), .bool th] 58)).alloc (.cells #[.slice none 0 0, .slice none 0 0] 64) = wz at *
  refine hc.mono ?_
  rintro e w1 ⟨v, ct1, nvv, ns1, rfl, hv, b1, hrow, hnums⟩
  obtain ⟨va, vn, vc, rfl⟩ := blk_slice hv
  obtain ⟨na, nn, nc, rfl⟩ := row_slice0 hrow
  have hB := WI.blk_an hv
  generalize ht : Sp.joinB xs = t at *
  have hns : Sp.natsB t = ns1 := Sp.tree_nums htr hnums
  have hsm : Sp.Small (0, 0) (Sp.pB t) (Sp.qB t) := ⟨by simp, by simp, by simp; omega, by simp; omega⟩
  have hcb := hB.cb
  rw [Sp.cB_sm t (0, 0) hsm] at hcb
  obtain ⟨p, hp⟩ : ∃ p : Nat, ct1.1 = (p : Int) := ⟨Sp.pB t, by rw [← hcb]; simp⟩
  obtain ⟨q, hq⟩ : ∃ q : Nat, ct1.2 = (q : Int) := ⟨Sp.qB t, by rw [← hcb]; simp⟩
  have hpp : p = Sp.pB t := by have := congrArg Prod.fst hcb; simp at this; omega
  have hqq : q = Sp.qB t := by have := congrArg Prod.snd hcb; simp at this; omega
  obtain ⟨c1, c2⟩ := ct1
  simp only at hp hq
  subst hp hq
  simp only
  have kp := below_alloc1 w1 (.cells #[.slice va vn vc, .int .i64 (p : Nat), .int .i64 (q : Nat), .slice na nn nc] 86)
  have hz2 : (w1.alloc (.cells #[.slice va vn vc, .int .i64 (p : Nat), .int .i64 (q : Nat), .slice na nn nc] 86)).heap[w.heap.size + 1]? = some (.cells #[.slice none 0 0, .slice none 0 0] 64) := heap_alloc_old (by rw [b1.block _ (by omega)]; exact K1.out)
  have hc2 : (w1.alloc (.cells #[.slice va vn vc, .int .i64 (p : Nat), .int .i64 (q : Nat), .slice na nn nc] 86)).heap[w.heap.size]? = some (.cells #[.int .i64 0, .int .i64 (delay : Nat), .int .i64 (narrow : Nat), .int .i64 (unroll : Nat), .bool th] 58) := heap_alloc_old (by rw [b1.block _ (by omega)]; exact K0.out)
  have hg2 := heap_alloc_new w1 (.cells #[.slice va vn vc, .int .i64 (p : Nat), .int .i64 (q : Nat), .slice na nn nc] 86)
  have hLw := KB.out.trans (b1.mono (by omega))
  have HNA : Hid (NumsAt w1 (.slice na nn nc) ns1) := numsAt_of hrow
  have hlen : ns1.length ≤ 800 := by rw [← hns]; exact Sp.tree_few htr
  have hn7 : ∀ n ∈ ns1, n ≤ 32767 := fun n hn => by
   have := hok (n : Int) (by rw [Sp.nuB_nats, hns]; exact List.mem_map.2 ⟨n, hn, rfl⟩)
   have := this.2
   omega
  obtain ⟨ma, mn, mc, hma⟩ : ∃ a n c, (if th then Value.slice na nn nc else .slice none 0 0) = .slice a n c := by cases th <;> exact ⟨_, _, _, rfl⟩
  have HTH : Hid (∀ W, Calls Tryz.prog 53 #[.agg #[.slice va vn vc, .int .i64 (p : Nat), .int .i64 (q : Nat), .slice na nn nc], .agg #[.int .i64 0, .int .i64 (delay : Nat), .int .i64 (narrow : Nat), .int .i64 (unroll : Nat), .bool th]] W fun e w' => e = .returned (.slice ma mn mc) ∧ Below W.heap.size W w') := fun W => by
   have := thresholds_calls va vn vc (p : Nat) (q : Nat) na nn nc 0 (delay : Nat) (narrow : Nat) (unroll : Nat) th W
   rw [hma] at this
   exact this
  obtain ⟨ns, hnse⟩ : ∃ ns, ns = if th then ns1 else [] := ⟨_, rfl⟩
  have HNM : Hid (NumsAt w1 (.slice ma mn mc) ns) := by
   unfold Hid
   rw [← hma, hnse]
   cases th
   ·exact ⟨none, 0, rfl, fun h => absurd rfl h⟩
   ·exact HNA.out
  have hlen2 : ns.length ≤ 1000 := by
   rw [hnse]
   split
   ·omega
   ·exact Nat.zero_le _
  have hn72 : ∀ n ∈ ns, n ≤ 32767 := fun n hn => by
   rw [hnse] at hn
   split at hn
   ·exact hn7 n hn
   ·cases hn
  have HST : Hid (stepsFrom ns = stepsAt th t) := by unfold Hid stepsAt; rw [hns, hnse]
  have HIN : Hid (∀ W, Below w1.heap.size w1 W → Calls Tryz.prog 52 #[.slice ma mn mc] W fun e w' => ∃ u, e = .returned (.agg #[u]) ∧ RowS W.heap.size w' u (stepsFrom ns) ∧ Below W.heap.size W w') := fun W hW => iv_new _ ns W (HNM.out.below hW) hlen2 hn72
  have hsl : (stepsFrom ns).length ≤ 1000000 := by rw [stepsFrom_len]; omega
  have hse : stepsFrom ns ≠ [] := by unfold stepsFrom; simp
  have HRP : Hid (∀ W u, Below w1.heap.size w1 W → RowS w1.heap.size W u (stepsFrom ns) → Calls Tryz.prog 51 #[.agg #[.slice va vn vc, .int .i64 (p : Nat), .int .i64 (q : Nat), .slice na nn nc], .agg #[.int .i64 0, .int .i64 (delay : Nat), .int .i64 (narrow : Nat), .int .i64 (unroll : Nat), .bool th], .iface 133 (.agg #[u])] W fun r w' => ∃ v, r = .returned v ∧ RepAt W.heap.size w' v (Sp.reportOf (Sp.ivDom (stepsFrom ns)) ⟨delay, narrow, unroll⟩ t) ∧ Below W.heap.size W w') := fun W u hW hu => by
   have hd := does_of hu hse (by omega)
   have hbw := hLw.trans (hW.mono hLw.size)
   have := WI.Report_calls W (stepsFrom ns) (.agg #[u]) 0 delay narrow unroll th p q (by omega) (by omega) (by omega) (by omega) (.slice va vn vc) (.slice na nn nc) ⟨_, _, _, rfl⟩ ⟨_, _, _, rfl⟩ t ⟨hd, hT.below hbw hL.size, Nat.le_trans hL.size hbw.size⟩ hsm wz.heap.size w1.heap.size w1 (fun k _ h2 _ => hW.block k h2) hW.size hB
   refine this.mono ?_
   rintro r w' ⟨g, h, rfl, e1, e2, e3, e4, e5⟩
   have hl := Sp.report_len (Sp.ivDom (stepsFrom ns)) ⟨delay, narrow, unroll⟩ t hsm
   generalize Sp.reportOf (Sp.ivDom (stepsFrom ns)) ⟨delay, narrow, unroll⟩ t = F at *
   exact ⟨_, rfl, repAt_mk F p q (by rw [hpp]; exact hl.1) (by rw [hqq]; exact hl.2) e1 e2 e3 e4, e5⟩
  have HB : Hid (WI.BlA (0, 0) wz.heap.size w1.heap.size w1 (.slice va vn vc) t ((p : Int), (q : Int))) := hB
  have HW1 : Hid (Below w.heap.size w w1) := hLw
  have HT : Hid (Turns w) := hT
  have HG : Hid (11 ≤ w.heap.size) := hL.size
  have HKP : Hid (Below w1.heap.size w1 _) := kp
  have HZ2 : Hid (_ = _) := hz2
  have HC2 : Hid (_ = _) := hc2
  have HG2 : Hid (_ = _) := hg2
  have d0 := cell_of hc2 0 (v := .int .i64 0) rfl
  have d1 := cell_of hc2 1 (v := .int .i64 (delay : Nat)) rfl
  have d2 := cell_of hc2 2 (v := .int .i64 (narrow : Nat)) rfl
  have d3 := cell_of hc2 3 (v := .int .i64 (unroll : Nat)) rfl
  have d4 := cell_of hc2 4 (v := .bool th) rfl
  have HPP : Hid (p = Sp.pB t ∧ q = Sp.qB t) := ⟨hpp, hqq⟩
  have hls : w.heap.size + 1 < w1.heap.size := by have := b1.size; omega
  clear hc hv hrow hnums hB hT hL kp hz2 hc2 hg2 hr ht hcb b1 hLw hpp hqq hma hnse hn7 hn72
  go_wp2_with fail
  refine (HIC.out _).mono ?_
  rintro r w3 ⟨rfl, b3⟩
  have hb3 : Below w1.heap.size w1 w3 := HKP.out.trans (b3.mono HKP.out.size)
  have hz3 := (b3.block _ (heap_lt HZ2.out)).trans HZ2.out
  have hc3 := (b3.block _ (heap_lt HC2.out)).trans HC2.out
  have hg3 := (b3.block _ (heap_lt HG2.out)).trans HG2.out
  have e0 := cell_of hc3 0 (v := .int .i64 0) rfl
  have HB3 : Hid (Below w1.heap.size w1 w3.drew) := hb3.drew
  have HZ3 : Hid (_ = _) := hz3
  have HC3 : Hid (_ = _) := hc3
  have HG3 : Hid (_ = _) := hg3
  clear b3 hb3 hz3 hc3 hg3 d0 d1 d2 d3 d4 HZ2 HC2 HG2 HKP HIC
  go_wp2_with fail
  refine wp_region_held_drew (S := fun w' : World => (w'.heap[w.heap.size]? = some (.cells #[.int .i64 0, .int .i64 (delay : Nat), .int .i64 (narrow : Nat), .int .i64 (unroll : Nat), .bool th] 58) ∧ w'.heap[w1.heap.size]? = some (.cells #[.slice va vn vc, .int .i64 (p : Nat), .int .i64 (q : Nat), .slice na nn nc] 86)) ∧ ∃ c : Array Value, c.size = 2 ∧ w'.heap[w.heap.size + 1]? = some (.cells c 64)) (by kernel_rfl) ⟨⟨HC3.out, HG3.out⟩, _, rfl, HZ3.out⟩ (fun hHeld => ?_)
  clear e0
  refine tk 0 (.agg #[.slice va vn vc, .int .i64 (p : Nat), .int .i64 (q : Nat), .slice na nn nc]) rfl (fun w' h => by (have d0 := cell_of h.1.2 0 (v := .slice va vn vc) rfl); (have d1 := cell_of h.1.2 1 (v := .int .i64 (p : Nat)) rfl); (have d2 := cell_of h.1.2 2 (v := .int .i64 (q : Nat)) rfl); have d3 := cell_of h.1.2 3 (v := .slice na nn nc) rfl; go_simp) hHeld ?_
  simp only [Act.put]
  refine tk 1 (.agg #[.int .i64 0, .int .i64 (delay : Nat), .int .i64 (narrow : Nat), .int .i64 (unroll : Nat), .bool th]) rfl (fun w' h => by (have d0 := cell_of h.1.1 0 (v := .int .i64 0) rfl); (have d1 := cell_of h.1.1 1 (v := .int .i64 (delay : Nat)) rfl); (have d2 := cell_of h.1.1 2 (v := .int .i64 (narrow : Nat)) rfl); (have d3 := cell_of h.1.1 3 (v := .int .i64 (unroll : Nat)) rfl); have d4 := cell_of h.1.1 4 (v := .bool th) rfl; go_simp) hHeld ?_
  simp only [Act.put]
  refine tk 2 (.agg #[.slice va vn vc, .int .i64 (p : Nat), .int .i64 (q : Nat), .slice na nn nc]) rfl (fun w' h => by (have d0 := cell_of h.1.2 0 (v := .slice va vn vc) rfl); (have d1 := cell_of h.1.2 1 (v := .int .i64 (p : Nat)) rfl); (have d2 := cell_of h.1.2 2 (v := .int .i64 (q : Nat)) rfl); have d3 := cell_of h.1.2 3 (v := .slice na nn nc) rfl; go_simp) hHeld ?_
  simp only [Act.put]
  refine tk 3 (.agg #[.int .i64 0, .int .i64 (delay : Nat), .int .i64 (narrow : Nat), .int .i64 (unroll : Nat), .bool th]) rfl (fun w' h => by (have d0 := cell_of h.1.1 0 (v := .int .i64 0) rfl); (have d1 := cell_of h.1.1 1 (v := .int .i64 (delay : Nat)) rfl); (have d2 := cell_of h.1.1 2 (v := .int .i64 (narrow : Nat)) rfl); (have d3 := cell_of h.1.1 3 (v := .int .i64 (unroll : Nat)) rfl); have d4 := cell_of h.1.1 4 (v := .bool th) rfl; go_simp) hHeld ?_
  simp only [Act.put]
  refine rd1 4 fun K hK => ?_
  simp only [gsb, gsa]
  go_simp
  refine (HTH.out _).mono ?_
  rintro r w4 ⟨rfl, b4⟩
  go_wp2_with fail
  have b4' : Below w1.heap.size w1 w4 := HB3.out.trans (b4.mono HB3.out.size)
  have B4 : Hid (Below w1.heap.size w1 w4) := b4'
  obtain ⟨zc, hzc, hzz⟩ := hHeld.2
  have hz4 := (b4.block _ (heap_lt hzz)).trans hzz
  have hS4 : (w4.heap[w.heap.size]? = some (.cells #[.int .i64 0, .int .i64 (delay : Nat), .int .i64 (narrow : Nat), .int .i64 (unroll : Nat), .bool th] 58) ∧ w4.heap[w1.heap.size]? = some (.cells #[.slice va vn vc, .int .i64 (p : Nat), .int .i64 (q : Nat), .slice na nn nc] 86)) := ⟨(b4.block _ (heap_lt hHeld.1.1)).trans hHeld.1.1, (b4.block _ (heap_lt hHeld.1.2)).trans hHeld.1.2⟩
  refine hK.out _ _ ⟨hS4, zc, hzc, hz4⟩ (fun hHeld => ?_)
  clear hK K b4 b4' hzz
  refine rd1 5 fun K hK => ?_
  simp only [gsb]
  go_simp
  refine (HIN.out _ B4.out).mono ?_
  rintro r w5 ⟨u, rfl, hu, b5⟩
  go_wp2_with fail
  have B5 : Hid (Below w1.heap.size w1 w5) := B4.out.trans (b5.mono B4.out.size)
  have HU : Hid (RowS w1.heap.size w5 u (stepsFrom ns)) := ownsRow9_weaken hu B4.out.size
  have hz5 := (b5.block _ (heap_lt hz4)).trans hz4
  have hS5 : (w5.heap[w.heap.size]? = some (.cells #[.int .i64 0, .int .i64 (delay : Nat), .int .i64 (narrow : Nat), .int .i64 (unroll : Nat), .bool th] 58) ∧ w5.heap[w1.heap.size]? = some (.cells #[.slice va vn vc, .int .i64 (p : Nat), .int .i64 (q : Nat), .slice na nn nc] 86)) := ⟨(b5.block _ (heap_lt hHeld.1.1)).trans hHeld.1.1, (b5.block _ (heap_lt hHeld.1.2)).trans hHeld.1.2⟩
  refine hK.out _ _ ⟨hS5, zc, hzc, hz5⟩ (fun hHeld => ?_)
  clear hK K b5 hu hz4 hS4
  refine tk 6 (.iface 133 (.agg #[u])) rfl (fun w' h => by go_simp) hHeld ?_
  simp only [Act.put]
  refine rd1 7 fun K hK => ?_
  simp only [gsb, gsa]
  go_simp
  refine (HRP.out _ u B5.out HU.out).mono ?_
  rintro r w6 ⟨v, rfl, ⟨g, h, rfl, g1, g2, g3, g4⟩, b6⟩
  go_wp2_with fail
  have B6 : Hid (Below w1.heap.size w1 w6) := B5.out.trans (b6.mono B5.out.size)
  have hz6 := (b6.block _ (heap_lt hz5)).trans hz5
  have hS6 : (w6.heap[w.heap.size]? = some (.cells #[.int .i64 0, .int .i64 (delay : Nat), .int .i64 (narrow : Nat), .int .i64 (unroll : Nat), .bool th] 58) ∧ w6.heap[w1.heap.size]? = some (.cells #[.slice va vn vc, .int .i64 (p : Nat), .int .i64 (q : Nat), .slice na nn nc] 86)) := ⟨(b6.block _ (heap_lt hHeld.1.1)).trans hHeld.1.1, (b6.block _ (heap_lt hHeld.1.2)).trans hHeld.1.2⟩
  refine hK.out _ _ ⟨hS6, zc, hzc, hz6⟩ (fun _ => ?_)
  clear hK K b6 hz5 hS5
  have hl5 := B5.out.size
  generalize hFF : Sp.reportOf (Sp.ivDom (stepsFrom ns)) ⟨delay, narrow, unroll⟩ t = F at *
  have HFF : Hid (Sp.reportOf (Sp.ivDom (stepsFrom ns)) ⟨delay, narrow, unroll⟩ t = F) := hFF
  have l1 : (w.heap.size + 1) ≠ w.heap.size := by omega
  obtain ⟨ra, hra⟩ : ∃ ra, ra = #[Value.slice (some ⟨g, 0, none⟩) F.1.length F.1.length, .slice (some ⟨h, 0, none⟩) F.2.length F.2.length] := ⟨_, rfl⟩
  have r2 : ra.size = 2 := by rw [hra]; rfl
  have hr0 := setCells_whole hz6 (d := ra) (by rw [r2, hzc])
  have hre : RepAt w.heap.size (w6.setCells (w.heap.size + 1) 0 ra.toList) (.agg ra) F := ⟨g, h, (by rw [hra]; rfl), by omega, by omega, (setCells_other _ _ _ _ (by omega)).trans g3, (setCells_other _ _ _ _ (by omega)).trans g4⟩
  have hBf : Below w.heap.size w (w6.setCells (w.heap.size + 1) 0 ra.toList) := setCells_below (b := w.heap.size + 1) (by omega) _ _ _ _ (HW1.out.trans (B6.out.mono HW1.out.size))
  refine rd1 8 fun K hK => ?_
  simp only [gsb]
  rw [if_pos (by rfl)]
  refine wp_store_mid _ _ _ rfl _ _ ra rfl (by rw [hra]; rfl) (by rw [r2, ← hzc]; exact there_of hz6) (by rw [WI.infoRp, r2]) (by rw [hra]; simp [Value.oneCell']) ?_
  refine hK.out _ _ ⟨⟨(setCells_other _ _ _ _ (by omega)).trans hS6.1, (setCells_other _ _ _ _ (by omega)).trans hS6.2⟩, ra, r2, hr0⟩ (fun hHeld => ?_)
  clear hK K
  clear hra
  refine rd1 9 fun K hK => ?_
  simp only [gsb]
  go_simp
  refine hK.out _ _ hHeld (fun _ => ?_)
  clear hK K
  refine wpAnyH_done (by kernel_rfl) ?_ _
  have HR0 : Hid (_ = _) := hr0
  have HRE : Hid (RepAt _ _ _ _) := hre
  have HBF : Hid (Below w.heap.size w _) := hBf
  clear hr0 hre hBf hHeld hS6 hz6 g3 g4 hFF
  go_wp2_with fail
  have hl : (loadVar 64 ⟨w.heap.size + 1, 0, none⟩).run Tryz.prog (w6.setCells (w.heap.size + 1) 0 ra.toList) = .ok (.agg ra) (w6.setCells (w.heap.size + 1) 0 ra.toList) := by
   have := run_loadVar_mid (P := Tryz.prog) (w6.setCells (w.heap.size + 1) 0 ra.toList) (w.heap.size + 1) 0 64 ra.toList _ (range_of HR0.out) Tryz.underlying64 rfl (by rw [WI.infoRp]; simp [r2])
   simpa using this
  refine bodyPost_ret (v := .tuple #[.agg ra, .nilIface]) (results_an _ _ rfl rfl hl) rfl ?_
  rw [E.out]
  exact ⟨_, rfl, by rw [← HST.out, HFF.out]; exact HRE.out, HBF.out⟩
end Go.Proofs.YtiopfihjmkfdmaaGreatDoor
namespace Go.Proofs.YtiopfihjmkfdmaaGreatDoor
open Go.RowKit
set_option maxRecDepth 100000
set_option maxHeartbeats 4000000
abbrev FdI := List (Option (Fin 8 → Sp.Iv)) × List Nat
structure RepV (w : World) (a : Option Addr) (n : Nat) (a' : Option Addr) (m : Nat) (F : FdI) : Prop where
 n : n = F.1.length
 m : m = F.2.length
 f : ∀ i s, F.1[i]? = some s → ∃ g, a = some ⟨g, 0, none⟩ ∧ w.rangeAt g (i * 17) (WI.fcC s).toList
 s : ∀ i k, F.2[i]? = some k → ∃ g, a' = some ⟨g, 0, none⟩ ∧ w.cell? ⟨g, i, none⟩ = some (.int .i64 ((k : Nat) : Int))
theorem range_below {w w' : World} {g o : Nat} {l : List Value} (h : w.rangeAt g o l) (b : Below w.heap.size w w') : w'.rangeAt g o l := fun j v hv => by
 have h1 := h j v hv
 rw [b.cell (p := ⟨g, o + j, none⟩) (cell_lt h1)]
 exact h1
theorem RepV.below {w w' : World} {a : Option Addr} {n : Nat} {a' : Option Addr} {m : Nat} {F : FdI} (h : RepV w a n a' m F) (b : Below w.heap.size w w') : RepV w' a n a' m F := by
 refine ⟨h.n, h.m, fun i s hs => ?_, fun i k hk => ?_⟩
 ·obtain ⟨g, h1, h2⟩ := h.f i s hs
  exact ⟨g, h1, range_below h2 b⟩
 ·obtain ⟨g, h1, h2⟩ := h.s i k hk
  exact ⟨g, h1, by rw [b.cell (p := ⟨g, i, none⟩) (cell_lt h2)]; exact h2⟩
theorem RepV.none (w : World) : RepV w none 0 none 0 ([], []) := ⟨rfl, rfl, fun i s h => by simp at h, fun i s h => by simp at h⟩
theorem RepV.of {B : Nat} {w : World} {v : Value} {F : FdI} (h : RepAt B w v F) : ∃ a n a' m, v = .agg #[.slice a n n, .slice a' m m] ∧ RepV w a n a' m F := by
 obtain ⟨g, h, rfl, _, _, h1, h2⟩ := h
 refine ⟨_, _, _, _, rfl, rfl, rfl, fun i s hs => ⟨g, rfl, ?_⟩, fun i k hk => ⟨h, rfl, ?_⟩⟩
 ·intro j v hv
  have hj : j < 17 := by
   have := (List.getElem?_eq_some_iff.1 hv).1
   rw [WI.fcC_len] at this
   exact this
  refine cell_of h1 _ ?_
  rw [List.getElem?_toArray]
  show (F.1.flatMap fun s => (WI.fcC s).toList)[i * 17 + j]? = some v
  rw [chunk_get WI.fcC_len F.1 i s j hs hj]
  exact hv
 ·exact cell_of h2 i (WI.siteCells_get hk)
theorem op_neF {op : Oper} {a : Act} {w : World} {K : Act → World → Prop} {Q : Exit → Act → World → Prop} {x y : Operand} (ho : op.op = .binOp .neq 76 x y 76) {s : WI.ST} (hx : a.eval x = .agg (WI.fcC s)) (hy : a.eval y = .agg (WI.fcC s)) (h : K (a.put op.dst (.bool false)) w) : op.wp Tryz.prog a w K Q := by
 have hg : (eqGuard .neq 76 x y (.agg (WI.fcC s)) (.agg (WI.fcC s))).run Tryz.prog w = .ok () w := by
  have h0 : Tryz.prog.eqGuardType Tryz.prog.depth 76 = false := by kernel_rfl
  unfold eqGuard
  simp [h0, go_sem]
 have he : (Op.equal 76 (.agg (WI.fcC s)) (.agg (WI.fcC s))).run Tryz.prog w = .ok true w := eqFc s w
 unfold Oper.wp execOp
 simp only [ho, hx, hy, binOp, Sem.run_bind, Sem.run_pure, Result.andThen_ok, hg, he, Bool.not_true]
 exact h
theorem rd_fc {op : Oper} {a : Act} {w : World} {K : Act → World → Prop} {Q : Exit → Act → World → Prop} (x : Operand) (ho : op.op = .load 76 x) {b o : Nat} (hx : a.eval x = .pointer (some ⟨b, o, none⟩)) {c : Array Value} (hr : w.rangeAt b o c.toList) (hc : c.size = 17)
  (h : K (a.put op.dst (.agg c)) w) : op.wp Tryz.prog a w K Q := by
 refine wp_load_mid 76 x ho b o hx c.toList _ hr Tryz.underlying76 rfl (by rw [WI.infoFc]; simp [hc]) ?_
 simpa using h
structure SrAt (w : World) (xa ya : Array Value) (a : Option Addr) (n : Nat) (a' : Option Addr) (m : Nat) (b : Option Addr) (b' : Option Addr) (F : FdI) (W : World) : Prop where
 x : W.heap[w.heap.size]? = some (.cells xa 64)
 y : W.heap[w.heap.size + 1]? = some (.cells ya 64)
 f : RepV W a n a' m F
 g : RepV W b n b' m F
 b : Below w.heap.size w W
theorem SrAt.drew {w : World} {xa ya : Array Value} {a : Option Addr} {n : Nat} {a' : Option Addr} {m : Nat} {b : Option Addr} {b' : Option Addr} {F : FdI} {W : World} (h : SrAt w xa ya a n a' m b b' F W) : SrAt w xa ya a n a' m b b' F W.drew :=
 ⟨h.x, h.y, h.f.below (Below.refl _ _).drew, h.g.below (Below.refl _ _).drew, h.b.drew⟩
theorem sameReports_calls (a : Option Addr) (n c : Nat) (a' : Option Addr) (m c' : Nat) (b : Option Addr) (d : Nat) (b' : Option Addr) (d' : Nat) (F : FdI) (w : World) (h1 : RepV w a n a' m F) (h2 : RepV w b n b' m F) (hn : n ≤ 1000000) (hm : m ≤ 1000000) :
  Calls Tryz.prog 34 #[.agg #[.slice a n c, .slice a' m c'], .agg #[.slice b n d, .slice b' m d']] w fun e w' => e = .returned (.bool true) ∧ Below w.heap.size w w' := by
 obtain ⟨k0, k1, kb⟩ := laid2b (w := w) (o1 := .cells #[.slice a n c, .slice a' m c'] 64) (o2 := .cells #[.slice b n d, .slice b' m d'] 64) (Below.refl _ _)
 have hnF := h1.n
 have hmF := h1.m
 obtain ⟨xa, hxa⟩ : ∃ xa, xa = #[Value.slice a n c, .slice a' m c'] := ⟨_, rfl⟩
 obtain ⟨ya, hya⟩ : ∃ ya, ya = #[Value.slice b n d, .slice b' m d'] := ⟨_, rfl⟩
 have H0 : Hid (SrAt w xa ya a n a' m b b' F ((w.alloc (.cells #[.slice a n c, .slice a' m c'] 64)).alloc (.cells #[.slice b n d, .slice b' m d'] 64))) := by
  rw [hxa, hya]
  exact ⟨k0, k1, h1.below kb, h2.below kb, kb⟩
 have x0 : xa[0]? = some (.slice a n c) := by rw [hxa]; rfl
 have x1 : xa[1]? = some (.slice a' m c') := by rw [hxa]; rfl
 have y0 : ya[0]? = some (.slice b n d) := by rw [hya]; rfl
 have y1 : ya[1]? = some (.slice b' m d') := by rw [hya]; rfl
 have HNF : Hid (n = F.1.length) := hnF
 have HMF : Hid (m = F.2.length) := hmF
 have hn2 : (n : Int) ≤ 1000000 := by omega
 have hm2 : (m : Int) ≤ 1000000 := by omega
 clear k0 k1 kb hxa hya h1 h2 hnF hmF
 go_enter Tryz.func34, Tryz.ntmps34
 go_wp2_with fail
 generalize (w.alloc (.cells #[.slice a n c, .slice a' m c'] 64)).alloc (.cells #[.slice b n d, .slice b' m d'] 64) = W0 at *
 go_loopw [5] (fun v5 wr => ∃ j : Nat, j ≤ n ∧ v5 = .int .i64 j ∧ Hid (SrAt w xa ya a n a' m b b' F wr)) (fun v5 _ => n - (intOf v5).toNat)
 case atStart => exact ⟨0, Nat.zero_le _, rfl, H0.out⟩
 case round =>
  obtain ⟨j, hj, rfl, hq⟩ := hrel
  clear H0
  have c0 := cell_of hq.out.x 0 x0
  have c1 := cell_of hq.out.x 1 x1
  by_cases hjlt : j < n
  ·have hji : ((j : Nat) : Int) < ((n : Nat) : Int) := by omega
   obtain ⟨s, hs⟩ : ∃ s, F.1[j]? = some s := ⟨_, List.getElem?_eq_getElem (by have := HNF.out; omega)⟩
   obtain ⟨g, rfl, _⟩ := hq.out.f.f j s hs
   obtain ⟨g', rfl, _⟩ := hq.out.g.f j s hs
   have f17 := WI.fcC_size s
   have H1 : Hid (SrAt w xa ya (some ⟨g, 0, none⟩) n a' m (some ⟨g', 0, none⟩) b' F wr.drew) := hq.out.drew
   have hrg : ∀ W, SrAt w xa ya (some ⟨g, 0, none⟩) n a' m (some ⟨g', 0, none⟩) b' F W → W.rangeAt g (j * 17) (WI.fcC s).toList ∧ W.rangeAt g' (j * 17) (WI.fcC s).toList := fun W hW => by
    obtain ⟨q, e, r1⟩ := hW.f.f j s hs
    obtain ⟨q', e', r2⟩ := hW.g.f j s hs
    cases e
    cases e'
    exact ⟨r1, r2⟩
   have HRG : Hid (∀ W, _ → _) := hrg
   clear hrg
   go_wp2_with fail
   refine wp_region_held_drew (S := fun w' : World => SrAt w xa ya (some ⟨g, 0, none⟩) n a' m (some ⟨g', 0, none⟩) b' F w') (by kernel_rfl) H1.out (fun hHeld => ?_)
   refine tk 0 (.pointer (some ⟨w.heap.size, 0, none⟩)) rfl (fun w' h => by go_simp) hHeld ?_
   simp only [Act.put]
   refine tk 1 (.slice (some ⟨g, 0, none⟩) n c) rfl (fun w' h => by have q0 := cell_of h.x 0 x0; go_simp) hHeld ?_
   simp only [Act.put]
   refine tk 2 (.int .i64 (j : Nat)) rfl (fun w' h => by go_simp) hHeld ?_
   simp only [Act.put]
   refine tk 3 (.pointer (some ⟨g, j * 17, none⟩)) rfl (fun w' h => by go_simp) hHeld ?_
   simp only [Act.put]
   refine tk 5 (.pointer (some ⟨w.heap.size + 1, 0, none⟩)) rfl (fun w' h => by go_simp) hHeld ?_
   simp only [Act.put]
   refine tk 6 (.slice (some ⟨g', 0, none⟩) n d) rfl (fun w' h => by have q0 := cell_of h.y 0 y0; go_simp) hHeld ?_
   simp only [Act.put]
   refine tk 7 (.int .i64 (j : Nat)) rfl (fun w' h => by go_simp) hHeld ?_
   simp only [Act.put]
   refine tk 8 (.pointer (some ⟨g', j * 17, none⟩)) rfl (fun w' h => by go_simp) hHeld ?_
   simp only [Act.put]
   refine wpAnyH_ready (rs := [4, 9]) (by kernel_rfl) (by simp) ?_
   refine AllReadyH.cons (i := 4) (o := _) (by rfl) ?_ (AllReadyH.cons (i := 9) (o := _) (by rfl) ?_ AllReadyH.nil)
   ·intro K hK
    simp only [gsb, gsa]
    rw [if_pos (by rfl)]
    refine rd_fc _ rfl rfl (HRG.out _ hHeld).1 f17 ?_
    simp only [Act.put]
    refine hK.out _ _ hHeld (fun hHeld => ?_)
    clear hK K
    refine rd1 9 fun K hK => ?_
    simp only [gsb, gsa]
    rw [if_pos (by rfl)]
    refine rd_fc _ rfl rfl (HRG.out _ hHeld).2 f17 ?_
    simp only [Act.put]
    refine hK.out _ _ hHeld (fun hHeld => ?_)
    clear hK K
    refine rd1 10 fun K hK => ?_
    simp only [gsb, gsa]
    rw [if_pos (by rfl)]
    refine op_neF rfl rfl rfl ?_
    simp only [Act.put]
    refine hK.out _ _ hHeld (fun _ => ?_)
    clear hK K
    refine wpAnyH_done (by kernel_rfl) ?_ _
    go_wp2_with fail
    exact ⟨⟨j + 1, by omega, by go_num, H1⟩, by simp [intOf]; omega⟩
   ·intro K hK
    simp only [gsb, gsa]
    rw [if_pos (by rfl)]
    refine rd_fc _ rfl rfl (HRG.out _ hHeld).2 f17 ?_
    simp only [Act.put]
    refine hK.out _ _ hHeld (fun hHeld => ?_)
    clear hK K
    refine rd1 4 fun K hK => ?_
    simp only [gsb, gsa]
    rw [if_pos (by rfl)]
    refine rd_fc _ rfl rfl (HRG.out _ hHeld).1 f17 ?_
    simp only [Act.put]
    refine hK.out _ _ hHeld (fun hHeld => ?_)
    clear hK K
    refine rd1 10 fun K hK => ?_
    simp only [gsb, gsa]
    rw [if_pos (by rfl)]
    refine op_neF rfl rfl rfl ?_
    simp only [Act.put]
    refine hK.out _ _ hHeld (fun _ => ?_)
    clear hK K
    refine wpAnyH_done (by kernel_rfl) ?_ _
    go_wp2_with fail
    exact ⟨⟨j + 1, by omega, by go_num, H1⟩, by simp [intOf]; omega⟩
  ·obtain rfl : j = n := by omega
   go_wp2_with fail
   clear c0 c1
   go_loopw [6] (fun v6 ws => ∃ k : Nat, k ≤ m ∧ v6 = .int .i64 k ∧ Hid (SrAt w xa ya a j a' m b b' F ws)) (fun v6 _ => m - (intOf v6).toNat)
   case atStart => exact ⟨0, Nat.zero_le _, rfl, hq⟩
   case round =>
    obtain ⟨k, hk, rfl, hq2⟩ := hrel
    clear hq
    have c0 := cell_of hq2.out.x 0 x0
    have c1 := cell_of hq2.out.x 1 x1
    by_cases hklt : k < m
    ·have hki : ((k : Nat) : Int) < ((m : Nat) : Int) := by omega
     obtain ⟨v, hv⟩ : ∃ v, F.2[k]? = some v := ⟨_, List.getElem?_eq_getElem (by have := HMF.out; omega)⟩
     obtain ⟨g, rfl, _⟩ := hq2.out.f.s k v hv
     obtain ⟨g', rfl, _⟩ := hq2.out.g.s k v hv
     have H1 : Hid (SrAt w xa ya a j (some ⟨g, 0, none⟩) m b (some ⟨g', 0, none⟩) F wr.drew) := hq2.out.drew
     have hrg : ∀ W, SrAt w xa ya a j (some ⟨g, 0, none⟩) m b (some ⟨g', 0, none⟩) F W → W.cell? ⟨g, k, none⟩ = some (.int .i64 ((v : Nat) : Int)) ∧ W.cell? ⟨g', k, none⟩ = some (.int .i64 ((v : Nat) : Int)) := fun W hW => by
      obtain ⟨q, e, r1⟩ := hW.f.s k v hv
      obtain ⟨q', e', r2⟩ := hW.g.s k v hv
      cases e
      cases e'
      exact ⟨r1, r2⟩
     have HRG : Hid (∀ W, _ → _) := hrg
     clear hrg
     go_wp2_with fail
     refine wp_region_held_drew (S := fun w' : World => SrAt w xa ya a j (some ⟨g, 0, none⟩) m b (some ⟨g', 0, none⟩) F w') (by kernel_rfl) H1.out (fun hHeld => ?_)
     refine tk 0 (.pointer (some ⟨w.heap.size, 1, none⟩)) rfl (fun w' h => by go_simp) hHeld ?_
     simp only [Act.put]
     refine tk 1 (.slice (some ⟨g, 0, none⟩) m c') rfl (fun w' h => by have q0 := cell_of h.x 1 x1; go_simp) hHeld ?_
     simp only [Act.put]
     refine tk 2 (.int .i64 (k : Nat)) rfl (fun w' h => by go_simp) hHeld ?_
     simp only [Act.put]
     refine tk 3 (.pointer (some ⟨g, k, none⟩)) rfl (fun w' h => by go_simp) hHeld ?_
     simp only [Act.put]
     refine tk 4 (.int .i64 (v : Nat)) rfl (fun w' h => by obtain ⟨q0, q1⟩ := HRG.out w' h; go_simp) hHeld ?_
     simp only [Act.put]
     refine tk 5 (.pointer (some ⟨w.heap.size + 1, 1, none⟩)) rfl (fun w' h => by go_simp) hHeld ?_
     simp only [Act.put]
     refine tk 6 (.slice (some ⟨g', 0, none⟩) m d') rfl (fun w' h => by have q0 := cell_of h.y 1 y1; go_simp) hHeld ?_
     simp only [Act.put]
     refine tk 7 (.int .i64 (k : Nat)) rfl (fun w' h => by go_simp) hHeld ?_
     simp only [Act.put]
     refine tk 8 (.pointer (some ⟨g', k, none⟩)) rfl (fun w' h => by go_simp) hHeld ?_
     simp only [Act.put]
     refine tk 9 (.int .i64 (v : Nat)) rfl (fun w' h => by obtain ⟨q0, q1⟩ := HRG.out w' h; go_simp) hHeld ?_
     simp only [Act.put]
     refine rd1 10 fun K hK => ?_
     simp only [gsb, gsa]
     go_simp
     refine hK.out _ _ hHeld (fun _ => ?_)
     clear hK K
     refine wpAnyH_done (by kernel_rfl) ?_ _
     go_wp2_with fail
     exact ⟨⟨k + 1, by omega, by go_num, H1⟩, by simp [intOf]; omega⟩
    ·obtain rfl : k = m := by omega
     have HB : Hid (Below w.heap.size w _) := hq2.out.b
     go_wp2_with fail
     go_ret
     exact ⟨rfl, HB.out⟩
end Go.Proofs.YtiopfihjmkfdmaaGreatDoor
