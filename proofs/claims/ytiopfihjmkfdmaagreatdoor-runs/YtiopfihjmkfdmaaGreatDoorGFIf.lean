/- THE DOCUMENT'S ANSWER: statement, if. -/
import Derived.Test.YtiopfihjmkfdmaaGreatDoorGFStmts
import Derived.Test.YtiopfihjmkfdmaaGreatDoorGFRead
namespace Go.Proofs.YtiopfihjmkfdmaaGreatDoor
open Go.RowKit
open Sp (Sm Bl Ct Tr)
set_option maxRecDepth 100000
set_option maxHeartbeats 8000000

theorem fif_calls (base b pb : Nat) (s : ByteArray) (o n : Nat) (ho : o ≤ 12) (st : Sp.Bs → Sp.R (Bl → Bl)) (hdec : ∀ l f l1, st l = .ok (f, l1) → l1.length < l.length) (hr : o < 12 → FReadsT base b pb s (o + 1) n st) (hbk : ∀ l, Sp.pBlock Tr st o l = fBlock Tr st o l) (l : Sp.Bs) (p : FP) (w : World) (hn : l.length < n + 1) (h : FR base b pb s l (o : Int) p w) (hlim : FLim p l) (ht : Sp.tok l = Sp.wIf) :
    Calls Tryz.prog 99 #[.pointer (some ⟨b, 0, none⟩)] w (FPostT base b pb s o p l w (Sp.pIf Tr (fun l => Sp.pBlock Tr st o l) o l)) := by
  have HR : Hid (o < 12 → FReadsT base b pb s (o + 1) n st) := hr
  have HDEC : Hid (∀ l f l1, st l = .ok (f, l1) → l1.length < l.length) := hdec
  have HBK : Hid (∀ l, Sp.pBlock Tr st o l = fBlock Tr st o l) := hbk
  clear hr hdec hbk
  obtain ⟨c6, c3, hsz, hl4⟩ := h.asks
  have c4 := cell_of h.blk 4 (v := .pointer (some ⟨pb, 0, none⟩)) rfl
  have d2 := cell_of h.prog.blk 2 (v := .int .i64 p.ct.1) rfl
  have HT : Hid (Sp.tok l = Sp.wIf) := ht
  have HNX : Hid ((Sp.next l).length < l.length) := Sp.next_lt_of_tok ht (by decide)
  have hn1 : p.ns.length + 1 ≤ 1000000 := by have := hlim.1; omega
  clear hsz ht
  go_enter Tryz.func99, Tryz.ntmps99
  go_wp2_with fail
  refine (node_calls (r := .ok l) h { point := p.ct.1, next := -1, c := -1 } hn1).mono ?_
  rintro e w1 ⟨rfl, v, h1, k1⟩
  have h1' : FR base b pb s l (o : Int) _ w1 := h1
  have c4 := cell_of h1'.blk 4 (v := .pointer (some ⟨pb, 0, none⟩)) rfl
  have d2 := cell_of h1'.prog.blk 2 (v := .int .i64 p.ct.1) rfl
  have f2 := frozen_of h1'.prog.blk 2
  go_wp2_with fail
  go_cut [] from 6 (fun wc => wc = (w1.setCell ⟨pb, 2, none⟩ (.int .i64 (RowKit.wrap64 (p.ct.1 + 1)))).drew)
  case first =>
    go_region_with (fail)
    all_goals
      go_wp2_with fail
      go_meet
      rw [IntWalk.i64_left]
  case rest =>
    obtain ⟨hs1, hs2⟩ := FX.set_prog (r := .ok l) (p' := { p with ns := p.ns ++ [{ point := p.ct.1, next := -1, c := -1 }], nv := v, ct := Sp.ptUp p.ct }) h1 2 (.int .i64 (RowKit.wrap64 (p.ct.1 + 1))) (fp_point h1.prog.blk _) rfl rfl rfl rfl
    obtain ⟨p1, hp1, hp1q, hp1c, hx, hk⟩ : ∃ p1 : FP, Hid (p1.ns = p.ns ++ [{ point := p.ct.1, next := -1, c := -1 }]) ∧ Hid (p1.qs = p.qs) ∧ p1.ct = Sp.ptUp p.ct ∧ FX base b pb s (.ok l) (o : Int) p1 wc ∧ FK b pb p p1 w wc := ⟨{ p with ns := p.ns ++ [{ point := p.ct.1, next := -1, c := -1 }], nv := v, ct := Sp.ptUp p.ct }, hid_rfl _, hid_rfl _, rfl, by rw [hcut]; exact hs1.drew, by rw [hcut]; exact k1.trans hs2.drew⟩
    clear hcut hs1 hs2 h1 k1 h1' c4 d2 f2 c3 c6
    have hfr : FR base b pb s l (o : Int) _ wc := hx
    have c4 := cell_of hfr.blk 4 (v := .pointer (some ⟨pb, 0, none⟩)) rfl
    have d2 := cell_of hfr.prog.blk 2 (v := .int .i64 (RowKit.wrap64 (p.ct.1 + 1))) (by rw [show (RowKit.wrap64 (p.ct.1 + 1)) = p1.ct.1 by rw [hp1c]; rfl]; rfl)
    have c3 := cell_of hfr.blk 3 (v := .string ⟨(Sp.tok l).toArray⟩) rfl
    rw [HT.out] at c3
    have hpt : RowKit.wrap64 (RowKit.wrap64 (p.ct.1 + 1) - 1) = p.ct.1 := by obtain ⟨_, _, a1, a2⟩ := hlim; unfold RowKit.wrap64; omega
    have hltb : b < wc.heap.size := heap_lt hfr.blk
    have hltp : pb < wc.heap.size := heap_lt hfr.prog.blk
    have HP1C : Hid (p1.ct = Sp.ptUp p.ct) := hp1c
    have HLIM : Hid (∀ l1 : Sp.Bs, l1.length < l.length → FLim p1 l1) := fun l1 hl1 => lim_start hlim hp1.out hp1q.out (by rw [hp1c]; exact in64_wrap _) hl1
    have M0 : Hid (FMid base b pb wc.heap.size s _ _ _ _ _ _ _) := FMid.start { kind := 9, c := -1, next := -1, point := p.ct.1 } hx hk
    clear hx hk hp1c hlim
    go_wp2_with fail
    refine (fstep_fr (FR.of_fx M0.out.fx)).mono ?_
    rintro e w2 ⟨rfl, h2, k2⟩
    have M3 : Hid (FMid _ _ _ _ _ _ _ _ _ _ _ _) := M0.out.call (r' := .ok (Sp.next l)) h2 k2
    have H2 : Hid (FR base b pb s (Sp.next l) (o : Int) p1 w2) := h2
    clear M0 h2 k2 hfr
    go_wp2_with fail
    refine (fcond_calls ho H2.out (HLIM.out _ HNX.out)).mono ?_
    rintro e w3 ⟨kc, p3, rfl, h3, k3, g3⟩
    have HD3 : Hid (∃ ex, p3.ns = p1.ns ++ ex) := pre_C g3
    have G3 : Hid (FGotC p1 p3 (Sp.next l) kc (Sp.pCond Tr o (Sp.next l))) := g3
    have HL3 : Hid (∀ l1, left (Sp.pCond Tr o (Sp.next l)) = .ok l1 → l1.length < n + 1 ∧ FLim p3 l1) := by
      intro l1 e1
      have a1 := HNX.out
      have a2 := HLIM.out _ HNX.out
      rcases hC : Sp.pCond Tr o (Sp.next l) with er | ⟨⟨rel, x, y⟩, l2⟩
      · rw [hC] at e1; cases e1
      · rw [hC] at g3 e1
        cases e1
        have m := g3.1
        exact ⟨by have := Sp.pCond_lt (A := Tr) hC; omega, m.lim a2⟩
    have M4 := M3.out.call h3 k3
    obtain ⟨e1, f1⟩ := M4.box.cell 1 rfl
    have M5 : Hid (FMid _ _ _ _ _ _ _ _ _ _ _ _) := M4.set 1 (.int .i64 kc) (n' := { kind := 9, c := -1, next := -1, point := p.ct.1, a := kc }) rfl
    clear M4 M3 h3 k3 g3 H2
    go_wp2_with fail
    refine (block_fx ho HDEC.out HR.out HL3.out M5.out.fx).mono ?_
    rintro e w4 ⟨kb, p4, rfl, h4, k4, g4, e4⟩
    have HD4 : Hid (∃ ex, p4.ns = p1.ns ++ ex) := pre_trans HD3.out (pre_mode (fun l1 e1 => pre_B (g4 l1 e1)) e4)
    have HD : Hid (p4.ns[p.ns.length]? = some { point := p.ct.1, next := -1, c := -1 }) := pre_dummy hp1.out HD4.out
    have G4 : Hid (_ ∧ _) := And.intro g4 e4
    have M6 := M5.out.call h4 k4
    obtain ⟨e2, f2⟩ := M6.box.cell 2 rfl
    have M8 : Hid (FMid base b pb wc.heap.size s (whileR st o l) (o : Int) p p4 w { kind := 9, c := -1, next := -1, point := p.ct.1, a := kc, b := kb } (w4.setCell ⟨wc.heap.size, 2, none⟩ (.int .i64 kb))) := FMid.castR (whileR_eq st o l) (M6.set 2 (.int .i64 kb) (n' := { kind := 9, c := -1, next := -1, point := p.ct.1, a := kc, b := kb }) rfl)
    have H4 : Hid (FX base b pb s (whileR st o l) (o : Int) p4 w4) := FX.cast (whileR_eq st o l) h4
    clear M6 M5 h4 k4 g4 e4 HL3 HD3
    rcases hW : whileR st o l with er | l2
    · have HW : Hid (whileR st o l = .error er) := hW
      have M9 : Hid (FMid base b pb wc.heap.size s (.error er) (o : Int) p p4 w { kind := 9, c := -1, next := -1, point := p.ct.1, a := kc, b := kb } (w4.setCell ⟨wc.heap.size, 2, none⟩ (.int .i64 kb))) := by have := M8.out; rw [hW] at this; exact this
      clear M8 hW
      obtain ⟨q, t, c6, hz, hz2, c3⟩ := FE.asks (show FE base b pb s er p4 w4 from by have := H4.out; rw [HW.out] at this; exact this)
      clear H4
      obtain ⟨g, cap, hv, hcap, hmax, hn5, hj, a4, a0, ⟨n0, n1, n2, n3, n4, n5, n6, n7, n8, n9⟩, ⟨r0, r1, r2, r3, r4, r5, r6, r7, r8, r9⟩, q0, q1, q2, q3, q4, q5, q6, q7, q8, q9⟩ := M9.out.facts (j := p.ns.length) (d := { point := p.ct.1, next := -1, c := -1 }) HD.out
      go_wp2_with fail
      generalize w4.setCell ⟨wc.heap.size, 2, none⟩ (.int .i64 kb) = wd at *
      go_cut [] from 6 (fun wc => wc = (put10 wd g (p.ns.length * 10) { kind := 9, c := -1, next := -1, point := p.ct.1, a := kc, b := kb }).drew)
      case first =>
        clear M9 HT HD HLIM HNX G3 G4 HR HDEC HBK HW
        go_region_with (fail)
        all_goals
          go_wp2_with fail
          go_meet
          exact rfl
      case rest =>
        obtain ⟨h6, k6⟩ := put10_fx M9.out.fx { kind := 9, c := -1, next := -1, point := p.ct.1, a := kc, b := kb } hv (j := p.ns.length) (d := { point := p.ct.1, next := -1, c := -1 }) HD.out
        go_wp2_with fail
        go_ret
        have G9 := fin_if_bad (n := { kind := 9, c := -1, next := -1, point := p.ct.1, a := kc, b := kb }) (kc := kc) (kb := kb) HBK.out hp1.out HNX.out G3.out G4.out.1 G4.out.2 HW.out
        rw [hcut]
        exact post_fin (left_if_bad HBK.out HW.out) h6.drew (M9.out.fk.trans k6).drew G9
    · have HW : Hid (whileR st o l = .ok l2) := hW
      have M9 : Hid (FMid base b pb wc.heap.size s (.ok l2) (o : Int) p p4 w { kind := 9, c := -1, next := -1, point := p.ct.1, a := kc, b := kb } (w4.setCell ⟨wc.heap.size, 2, none⟩ (.int .i64 kb))) := by have := M8.out; rw [hW] at this; exact this
      have hfr : FR base b pb s l2 (o : Int) p4 _ := FR.of_fx M9.out.fx
      have hf4 : FR base b pb s l2 (o : Int) p4 w4 := by have := H4.out; rw [hW] at this; exact this
      have c6 := cell_of hf4.blk 6 (v := .int .i64 0) rfl
      have c3 := cell_of hf4.blk 3 (v := .string ⟨(Sp.tok l2).toArray⟩) rfl
      clear M8 hW H4 hf4
      by_cases he : Sp.tok l2 = Sp.wElse
      · have HE : Hid (Sp.tok l2 = Sp.wElse) := he
        have HL2 : Hid (l2.length ≤ n ∧ FLim p4 l2) := by
          have a1 := HNX.out
          have a2 := HLIM.out _ HNX.out
          have g3 := G3.out
          have g4 := G4.out.1
          have hw := HW.out
          unfold whileR at hw
          rcases hC : Sp.pCond Tr o (Sp.next l) with er | ⟨⟨rel, x, y⟩, l1⟩
          · rw [hC] at hw; cases hw
          · rw [hC] at g3 g4 hw
            have g5 := g4 l1 rfl
            rcases hB : fBlock Tr st o l1 with er | ⟨fs, l3⟩
            · simp only [left, Except.bind] at hw; rw [hB] at hw; cases hw
            · simp only [left, Except.bind] at hw
              rw [hB] at g5 hw
              have : l3 = l2 := by simpa using hw
              subst this
              have hbl := Sp.pBlock_lt HDEC.out (HBK.out l1 ▸ hB)
              have := Sp.pCond_lt (A := Tr) hC
              exact ⟨by omega, (g3.1.trans g5.1).lim a2⟩
        rw [he] at c3
        clear he
        go_wp2_with fail
        refine (fstep_fr hfr).mono ?_
        rintro e w5 ⟨rfl, h5, k5⟩
        have M10 : Hid (FMid _ _ _ _ _ _ _ _ _ _ _ _) := M9.out.call (r' := .ok (Sp.next l2)) h5 k5
        clear M9 h5 k5 hfr
        go_wp2_with fail
        refine (block_fx ho HDEC.out HR.out (r := .ok (Sp.next l2)) (fun l1 e1 => by
          cases e1
          have a := HL2.out
          have := Sp.next_le l2
          exact ⟨by omega, (FMade.eat (Sp.next_le l2)).lim a.2⟩) M10.out.fx).mono ?_
        rintro e w6 ⟨ke, p5, rfl, h6, k6, g6, e6⟩
        have G6 : Hid (FGotB p4 p5 (Sp.next l2) ke (fBlock Tr st o (Sp.next l2))) := g6 _ rfl
        have HD6 : Hid (p5.ns[p.ns.length]? = some { point := p.ct.1, next := -1, c := -1 }) := pre_dummy hp1.out (pre_trans HD4.out (pre_B (g6 _ rfl)))
        have M11 := M10.out.call h6 k6
        obtain ⟨e3, f3⟩ := M11.box.cell 3 rfl
        have M12 := M11.set 3 (.int .i64 ke) (n' := { kind := 9, c := ke, next := -1, point := p.ct.1, a := kc, b := kb }) rfl
        obtain ⟨e9, f9⟩ := M11.box.cell 9 rfl
        have M9 : Hid (FMid _ _ _ _ _ _ _ _ _ _ _ _) := M12.set 9 (.bool true) (n' := { kind := 9, c := ke, next := -1, point := p.ct.1, a := kc, b := kb, els := true }) rfl
        clear HD
        have HD := HD6
        clear M10 M11 M12 h6 k6 g6 e6 HD6
        obtain ⟨g, cap, hv, hcap, hmax, hn5, hj, a4, a0, ⟨n0, n1, n2, n3, n4, n5, n6, n7, n8, n9⟩, ⟨r0, r1, r2, r3, r4, r5, r6, r7, r8, r9⟩, q0, q1, q2, q3, q4, q5, q6, q7, q8, q9⟩ := M9.out.facts (j := p.ns.length) (d := { point := p.ct.1, next := -1, c := -1 }) HD.out
        go_wp2_with fail
        generalize (w6.setCell ⟨wc.heap.size, 3, none⟩ (.int .i64 ke)).setCell ⟨wc.heap.size, 9, none⟩ (.bool true) = wd at *
        go_cut [] from 6 (fun wc => wc = (put10 wd g (p.ns.length * 10) { kind := 9, c := ke, next := -1, point := p.ct.1, a := kc, b := kb, els := true }).drew)
        case first =>
          clear M9 HT HD HLIM HNX G3 G4 G6 HR HDEC HBK HW HE HL2 HD4
          go_region_with (fail)
          all_goals
            go_wp2_with fail
            go_meet
            exact rfl
        case rest =>
          obtain ⟨h6, k6⟩ := put10_fx M9.out.fx { kind := 9, c := ke, next := -1, point := p.ct.1, a := kc, b := kb, els := true } hv (j := p.ns.length) (d := { point := p.ct.1, next := -1, c := -1 }) HD.out
          go_wp2_with fail
          go_ret
          have G9 := fin_if_else (n := { kind := 9, c := ke, next := -1, point := p.ct.1, a := kc, b := kb, els := true }) (kc := kc) (kb := kb) (ke := ke) HBK.out hp1.out hp1q.out HP1C.out HNX.out G3.out G4.out.1 HW.out HE.out G6.out rfl rfl rfl rfl rfl rfl rfl
          rw [hcut]
          exact post_fin (left_if_else HBK.out HW.out HE.out) h6.drew (M9.out.fk.trans k6).drew G9
      · have HE : Hid (Sp.tok l2 ≠ Sp.wElse) := he
        obtain ⟨t, HT2, m1⟩ : ∃ t : ByteArray, Hid (t = ⟨(Sp.tok l2).toArray⟩) ∧ (t.toList == [101, 108, 115, 101]) = false := ⟨⟨(Sp.tok l2).toArray⟩, hid_rfl _, by rw [ByteArray.toList_eq]; simpa [Sp.wElse] using he⟩
        rw [← HT2.out] at c3
        clear he hfr
        obtain ⟨g, cap, hv, hcap, hmax, hn5, hj, a4, a0, ⟨n0, n1, n2, n3, n4, n5, n6, n7, n8, n9⟩, ⟨r0, r1, r2, r3, r4, r5, r6, r7, r8, r9⟩, q0, q1, q2, q3, q4, q5, q6, q7, q8, q9⟩ := M9.out.facts (j := p.ns.length) (d := { point := p.ct.1, next := -1, c := -1 }) HD.out
        go_wp2_with fail
        generalize w4.setCell ⟨wc.heap.size, 2, none⟩ (.int .i64 kb) = wd at *
        go_cut [] from 6 (fun wc => wc = (put10 wd g (p.ns.length * 10) { kind := 9, c := -1, next := -1, point := p.ct.1, a := kc, b := kb }).drew)
        case first =>
          clear M9 HT HD HLIM HNX G3 G4 HR HDEC HBK HW HE HT2 HD4
          go_region_with (fail)
          all_goals
            go_wp2_with fail
            go_meet
            exact rfl
        case rest =>
          obtain ⟨h6, k6⟩ := put10_fx M9.out.fx { kind := 9, c := -1, next := -1, point := p.ct.1, a := kc, b := kb } hv (j := p.ns.length) (d := { point := p.ct.1, next := -1, c := -1 }) HD.out
          go_wp2_with fail
          go_ret
          have G9 := fin_if_none (n := { kind := 9, c := -1, next := -1, point := p.ct.1, a := kc, b := kb }) (kc := kc) (kb := kb) HBK.out hp1.out hp1q.out HP1C.out HNX.out G3.out G4.out.1 HW.out HE.out rfl rfl rfl rfl rfl rfl rfl
          rw [hcut]
          exact post_fin (left_if_none HBK.out HW.out HE.out) h6.drew (M9.out.fk.trans k6).drew G9

end Go.Proofs.YtiopfihjmkfdmaaGreatDoor


