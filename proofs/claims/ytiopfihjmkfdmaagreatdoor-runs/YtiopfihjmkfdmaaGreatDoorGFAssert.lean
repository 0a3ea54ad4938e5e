/- THE DOCUMENT'S ANSWER: statement, assert. -/
import Derived.Test.YtiopfihjmkfdmaaGreatDoorGFStmts
import Derived.Test.YtiopfihjmkfdmaaGreatDoorGFRead
namespace Go.Proofs.YtiopfihjmkfdmaaGreatDoor
open Go.RowKit
open Sp (Sm Bl Ct Tr)
set_option maxRecDepth 100000
set_option maxHeartbeats 8000000

theorem fassert_calls (base b pb : Nat) (s : ByteArray) (o : Nat) (ho : o ≤ 12) (l : Sp.Bs) (p : FP) (w : World) (h : FR base b pb s l (o : Int) p w) (hlim : FLim p l) (ht : Sp.tok l = Sp.wAssert) :
    Calls Tryz.prog 99 #[.pointer (some ⟨b, 0, none⟩)] w (FPostT base b pb s o p l w (Sp.pAssert Tr o l)) := by
  obtain ⟨c6, c3, hsz, hl4⟩ := h.asks
  have c4 := cell_of h.blk 4 (v := .pointer (some ⟨pb, 0, none⟩)) rfl
  have d2 := cell_of h.prog.blk 2 (v := .int .i64 p.ct.1) rfl
  have HT : Hid (Sp.tok l = Sp.wAssert) := ht
  have HNX : Hid ((Sp.next l).length < l.length) := Sp.next_lt_of_tok ht (by decide)
  have hn1 : p.ns.length + 1 ≤ 1000000 := by have := hlim.1; omega
  clear hsz ht
  go_enter Tryz.func99, Tryz.ntmps99
  go_wp2_with fail
  refine (node_calls (r := .ok l) h { point := p.ct.1, next := -1, c := -1 } hn1).mono ?_
  rintro e w1 ⟨rfl, v, h1, k1⟩
  have h1' : FR base b pb s l (o : Int) _ w1 := h1
  have c4 := cell_of h1'.blk 4 (v := .pointer (some ⟨pb, 0, none⟩)) rfl
  have d2 := cell_of h1'.prog.blk 2 (v := .int .i64 p.ct.1) rfl
  have f2 := frozen_of h1'.prog.blk 2
  go_wp2_with fail
  go_cut [] from 6 (fun wc => wc = (w1.setCell ⟨pb, 2, none⟩ (.int .i64 (RowKit.wrap64 (p.ct.1 + 1)))).drew)
  case first =>
    go_region_with (fail)
    all_goals
      go_wp2_with fail
      go_meet
      rw [IntWalk.i64_left]
  case rest =>
    obtain ⟨hs1, hs2⟩ := FX.set_prog (r := .ok l) (p' := { p with ns := p.ns ++ [{ point := p.ct.1, next := -1, c := -1 }], nv := v, ct := Sp.ptUp p.ct }) h1 2 (.int .i64 (RowKit.wrap64 (p.ct.1 + 1))) (fp_point h1.prog.blk _) rfl rfl rfl rfl
    obtain ⟨p1, hp1, hp1q, hp1c, hx, hk⟩ : ∃ p1 : FP, Hid (p1.ns = p.ns ++ [{ point := p.ct.1, next := -1, c := -1 }]) ∧ Hid (p1.qs = p.qs) ∧ p1.ct = Sp.ptUp p.ct ∧ FX base b pb s (.ok l) (o : Int) p1 wc ∧ FK b pb p p1 w wc := ⟨{ p with ns := p.ns ++ [{ point := p.ct.1, next := -1, c := -1 }], nv := v, ct := Sp.ptUp p.ct }, hid_rfl _, hid_rfl _, rfl, by rw [hcut]; exact hs1.drew, by rw [hcut]; exact k1.trans hs2.drew⟩
    clear hcut hs1 hs2 h1 k1 h1' c4 d2 f2 c3 c6
    have hfr : FR base b pb s l (o : Int) _ wc := hx
    have c4 := cell_of hfr.blk 4 (v := .pointer (some ⟨pb, 0, none⟩)) rfl
    have d2 := cell_of hfr.prog.blk 2 (v := .int .i64 (RowKit.wrap64 (p.ct.1 + 1))) (by rw [show (RowKit.wrap64 (p.ct.1 + 1)) = p1.ct.1 by rw [hp1c]; rfl]; rfl)
    have c3 := cell_of hfr.blk 3 (v := .string ⟨(Sp.tok l).toArray⟩) rfl
    rw [HT.out] at c3
    have hpt : RowKit.wrap64 (RowKit.wrap64 (p.ct.1 + 1) - 1) = p.ct.1 := by obtain ⟨_, _, a1, a2⟩ := hlim; unfold RowKit.wrap64; omega
    have hltb : b < wc.heap.size := heap_lt hfr.blk
    have hltp : pb < wc.heap.size := heap_lt hfr.prog.blk
    have d3 := cell_of hfr.prog.blk 3 (v := .int .i64 p.ct.2) (by rw [show p.ct.2 = p1.ct.2 by rw [hp1c]; rfl]; rfl)
    have f3 := frozen_of hfr.prog.blk 3
    have HP1C : Hid (p1.ct = Sp.ptUp p.ct) := hp1c
    have HLIM0 : Hid (FLim p l) := hlim
    obtain ⟨hs1, hs2⟩ := FX.set_prog (r := .ok l) (p' := { p1 with ct := Sp.siteUp (Sp.ptUp p.ct) }) hx 3 (.int .i64 (RowKit.wrap64 (p.ct.2 + 1))) (by have := fp_site hfr.prog.blk (RowKit.wrap64 (p.ct.2 + 1)); rw [hp1c] at this; exact this) rfl rfl rfl rfl
    have M0 := (FMid.start { kind := 8, c := -1, next := -1, point := p.ct.1, site := p.ct.2 } hs1 (hk.trans hs2)).drew
    rw [show (wc.setCell ⟨pb, 3, none⟩ (.int .i64 (RowKit.wrap64 (p.ct.2 + 1)))).heap.size = wc.heap.size by simp [World.setCell]] at M0
    obtain ⟨p2, hp2, hp2q, HP2C, M2⟩ : ∃ p2 : FP, Hid (p2.ns = p.ns ++ [{ point := p.ct.1, next := -1, c := -1 }]) ∧ Hid (p2.qs = p.qs) ∧ Hid (p2.ct = Sp.siteUp (Sp.ptUp p.ct)) ∧ Hid (FMid base b pb wc.heap.size s (.ok l) (o : Int) p p2 w { kind := 8, c := -1, next := -1, point := p.ct.1, site := p.ct.2 } ((wc.setCell ⟨pb, 3, none⟩ (.int .i64 (RowKit.wrap64 (p.ct.2 + 1)))).alloc (.cells (fCell { kind := 8, c := -1, next := -1, point := p.ct.1, site := p.ct.2 }).toArray 176)).drew) := ⟨{ p1 with ct := Sp.siteUp (Sp.ptUp p.ct) }, hp1, hp1q, hid_rfl _, M0⟩
    clear hx hk hp1c hlim M0 hs1 hs2
    go_wp2_with fail
    go_cut [] from 6 (fun wd => wd = ((wc.setCell ⟨pb, 3, none⟩ (.int .i64 (RowKit.wrap64 (p.ct.2 + 1)))).alloc (.cells (fCell { kind := 8, c := -1, next := -1, point := p.ct.1, site := p.ct.2 }).toArray 176)).drew)
    case first =>
      clear M2 HT HNX HP1C HLIM0
      go_region_with (fail)
      all_goals
        go_wp2_with fail
        go_meet
        rw [IntWalk.i64_left]
        all_goals exact rfl
    case rest =>
      rw [← hcut] at M2
      have HLIM : Hid (FLim p2 (Sp.next l)) := lim_start HLIM0.out hp2.out hp2q.out (by rw [HP2C.out]; exact in64_wrap _) HNX.out
      clear hcut hp1 hp1q HP1C HLIM0 c3 c4 d2 d3 f3 hfr
      go_wp2_with fail
      refine (fstep_fr (FR.of_fx M2.out.fx)).mono ?_
      rintro e w2 ⟨rfl, h2, k2⟩
      have M3 : Hid (FMid _ _ _ _ _ _ _ _ _ _ _ _) := M2.out.call (r' := .ok (Sp.next l)) h2 k2
      have H2 : Hid (FR base b pb s (Sp.next l) (o : Int) p2 w2) := h2
      clear M2 h2 k2
      go_wp2_with fail
      refine (fcond_calls ho H2.out HLIM.out).mono ?_
      rintro e w3 ⟨kc, p3, rfl, h3, k3, g3⟩
      have HD : Hid (p3.ns[p.ns.length]? = some { point := p.ct.1, next := -1, c := -1 }) := pre_dummy hp2.out (pre_C g3)
      have G3 : Hid (FGotC p2 p3 (Sp.next l) kc (Sp.pCond Tr o (Sp.next l))) := g3
      have M4 := M3.out.call h3 k3
      obtain ⟨e1, f1⟩ := M4.box.cell 1 rfl
      have M5 : Hid (FMid _ _ _ _ _ _ _ _ _ _ _ _) := M4.set 1 (.int .i64 kc) (n' := { kind := 8, c := -1, next := -1, point := p.ct.1, site := p.ct.2, a := kc }) rfl
      clear M4 M3 h3 k3 g3 H2
      go_wp2_with fail
      refine (take_fx M5.out.fx [59]).mono ?_
      rintro e w4 ⟨rfl, h4, k4⟩
      have M9 : Hid (FMid _ _ _ _ _ _ _ _ _ _ _ _) := M5.out.call h4 k4
      clear M5 h4 k4
      obtain ⟨g, cap, hv, hcap, hmax, hn5, hj, a4, a0, ⟨n0, n1, n2, n3, n4, n5, n6, n7, n8, n9⟩, ⟨r0, r1, r2, r3, r4, r5, r6, r7, r8, r9⟩, q0, q1, q2, q3, q4, q5, q6, q7, q8, q9⟩ := M9.out.facts (j := p.ns.length) (d := { point := p.ct.1, next := -1, c := -1 }) HD.out
      go_wp2_with fail
      go_cut [] from 6 (fun wc => wc = (put10 w4 g (p.ns.length * 10) { kind := 8, c := -1, next := -1, point := p.ct.1, site := p.ct.2, a := kc }).drew)
      case first =>
        clear M9 HT HD HLIM HNX G3
        go_region_with (fail)
        all_goals
          go_wp2_with fail
          go_meet
          exact rfl
      case rest =>
        obtain ⟨h6, k6⟩ := put10_fx M9.out.fx { kind := 8, c := -1, next := -1, point := p.ct.1, site := p.ct.2, a := kc } hv (j := p.ns.length) (d := { point := p.ct.1, next := -1, c := -1 }) HD.out
        go_wp2_with fail
        go_ret
        have G9 := fin_assert (n := { kind := 8, c := -1, next := -1, point := p.ct.1, site := p.ct.2, a := kc }) (kc := kc) hp2.out hp2q.out HP2C.out HNX.out G3.out rfl rfl rfl rfl rfl
        rw [hcut]
        exact post_fin (left_assert2 o l) h6.drew (M9.out.fk.trans k6).drew G9

end Go.Proofs.YtiopfihjmkfdmaaGreatDoor


