/- THE DOCUMENT'S ANSWER: statement, while. -/
import Derived.Test.YtiopfihjmkfdmaaGreatDoorGFStmts
import Derived.Test.YtiopfihjmkfdmaaGreatDoorGFRead
namespace Go.Proofs.YtiopfihjmkfdmaaGreatDoor
open Go.RowKit
open Sp (Sm Bl Ct Tr)
set_option maxRecDepth 100000
set_option maxHeartbeats 8000000

theorem fwhile_calls (base b pb : Nat) (s : ByteArray) (o n : Nat) (ho : o ≤ 12) (st : Sp.Bs → Sp.R (Bl → Bl)) (hdec : ∀ l f l1, st l = .ok (f, l1) → l1.length < l.length) (hr : o < 12 → FReadsT base b pb s (o + 1) n st) (hbk : ∀ l, Sp.pBlock Tr st o l = fBlock Tr st o l) (l : Sp.Bs) (p : FP) (w : World) (hn : l.length < n + 1) (h : FR base b pb s l (o : Int) p w) (hlim : FLim p l) (ht : Sp.tok l = Sp.wWhile) :
    Calls Tryz.prog 99 #[.pointer (some ⟨b, 0, none⟩)] w (FPostT base b pb s o p l w (Sp.pWhile Tr (fun l => Sp.pBlock Tr st o l) o l)) := by
  have HR : Hid (o < 12 → FReadsT base b pb s (o + 1) n st) := hr
  have HDEC : Hid (∀ l f l1, st l = .ok (f, l1) → l1.length < l.length) := hdec
  have HBK : Hid (∀ l, Sp.pBlock Tr st o l = fBlock Tr st o l) := hbk
  clear hr hdec hbk
  obtain ⟨c6, c3, hsz, hl4⟩ := h.asks
  have c4 := cell_of h.blk 4 (v := .pointer (some ⟨pb, 0, none⟩)) rfl
  have d2 := cell_of h.prog.blk 2 (v := .int .i64 p.ct.1) rfl
  have HT : Hid (Sp.tok l = Sp.wWhile) := ht
  have HNX : Hid ((Sp.next l).length < l.length) := Sp.next_lt_of_tok ht (by decide)
  have hn1 : p.ns.length + 1 ≤ 1000000 := by have := hlim.1; omega
  clear hsz ht
  go_enter Tryz.func99, Tryz.ntmps99
  go_wp2_with fail
  refine (node_calls (r := .ok l) h { point := p.ct.1, next := -1, c := -1 } hn1).mono ?_
  rintro e w1 ⟨rfl, v, h1, k1⟩
  have h1' : FR base b pb s l (o : Int) _ w1 := h1
  have c4 := cell_of h1'.blk 4 (v := .pointer (some ⟨pb, 0, none⟩)) rfl
  have d2 := cell_of h1'.prog.blk 2 (v := .int .i64 p.ct.1) rfl
  have f2 := frozen_of h1'.prog.blk 2
  go_wp2_with fail
  go_cut [] from 6 (fun wc => wc = (w1.setCell ⟨pb, 2, none⟩ (.int .i64 (RowKit.wrap64 (p.ct.1 + 1)))).drew)
  case first =>
    go_region_with (fail)
    all_goals
      go_wp2_with fail
      go_meet
      rw [IntWalk.i64_left]
  case rest =>
    obtain ⟨hs1, hs2⟩ := FX.set_prog (r := .ok l) (p' := { p with ns := p.ns ++ [{ point := p.ct.1, next := -1, c := -1 }], nv := v, ct := Sp.ptUp p.ct }) h1 2 (.int .i64 (RowKit.wrap64 (p.ct.1 + 1))) (fp_point h1.prog.blk _) rfl rfl rfl rfl
    obtain ⟨p1, hp1, hp1q, hp1c, hx, hk⟩ : ∃ p1 : FP, Hid (p1.ns = p.ns ++ [{ point := p.ct.1, next := -1, c := -1 }]) ∧ Hid (p1.qs = p.qs) ∧ p1.ct = Sp.ptUp p.ct ∧ FX base b pb s (.ok l) (o : Int) p1 wc ∧ FK b pb p p1 w wc := ⟨{ p with ns := p.ns ++ [{ point := p.ct.1, next := -1, c := -1 }], nv := v, ct := Sp.ptUp p.ct }, hid_rfl _, hid_rfl _, rfl, by rw [hcut]; exact hs1.drew, by rw [hcut]; exact k1.trans hs2.drew⟩
    clear hcut hs1 hs2 h1 k1 h1' c4 d2 f2 c3 c6
    have hfr : FR base b pb s l (o : Int) _ wc := hx
    have c4 := cell_of hfr.blk 4 (v := .pointer (some ⟨pb, 0, none⟩)) rfl
    have d2 := cell_of hfr.prog.blk 2 (v := .int .i64 (RowKit.wrap64 (p.ct.1 + 1))) (by rw [show (RowKit.wrap64 (p.ct.1 + 1)) = p1.ct.1 by rw [hp1c]; rfl]; rfl)
    have c3 := cell_of hfr.blk 3 (v := .string ⟨(Sp.tok l).toArray⟩) rfl
    rw [HT.out] at c3
    have hpt : RowKit.wrap64 (RowKit.wrap64 (p.ct.1 + 1) - 1) = p.ct.1 := by obtain ⟨_, _, a1, a2⟩ := hlim; unfold RowKit.wrap64; omega
    have hltb : b < wc.heap.size := heap_lt hfr.blk
    have hltp : pb < wc.heap.size := heap_lt hfr.prog.blk
    have HP1C : Hid (p1.ct = Sp.ptUp p.ct) := hp1c
    have HLIM : Hid (∀ l1 : Sp.Bs, l1.length < l.length → FLim p1 l1) := fun l1 hl1 => lim_start hlim hp1.out hp1q.out (by rw [hp1c]; exact in64_wrap _) hl1
    have M0 : Hid (FMid base b pb wc.heap.size s _ _ _ _ _ _ _) := FMid.start { kind := 10, c := -1, next := -1, point := p.ct.1 } hx hk
    clear hx hk hp1c hlim
    go_wp2_with fail
    refine (fstep_fr (FR.of_fx M0.out.fx)).mono ?_
    rintro e w2 ⟨rfl, h2, k2⟩
    have M3 : Hid (FMid _ _ _ _ _ _ _ _ _ _ _ _) := M0.out.call (r' := .ok (Sp.next l)) h2 k2
    have H2 : Hid (FR base b pb s (Sp.next l) (o : Int) p1 w2) := h2
    clear M0 h2 k2 hfr
    go_wp2_with fail
    refine (fcond_calls ho H2.out (HLIM.out _ HNX.out)).mono ?_
    rintro e w3 ⟨kc, p3, rfl, h3, k3, g3⟩
    have HD3 : Hid (∃ ex, p3.ns = p1.ns ++ ex) := pre_C g3
    have G3 : Hid (FGotC p1 p3 (Sp.next l) kc (Sp.pCond Tr o (Sp.next l))) := g3
    have HL3 : Hid (∀ l1, left (Sp.pCond Tr o (Sp.next l)) = .ok l1 → l1.length < n + 1 ∧ FLim p3 l1) := by
      intro l1 e1
      have a1 := HNX.out
      have a2 := HLIM.out _ HNX.out
      rcases hC : Sp.pCond Tr o (Sp.next l) with er | ⟨⟨rel, x, y⟩, l2⟩
      · rw [hC] at e1; cases e1
      · rw [hC] at g3 e1
        cases e1
        have m := g3.1
        exact ⟨by have := Sp.pCond_lt (A := Tr) hC; omega, m.lim a2⟩
    have M4 := M3.out.call h3 k3
    obtain ⟨e1, f1⟩ := M4.box.cell 1 rfl
    have M5 : Hid (FMid _ _ _ _ _ _ _ _ _ _ _ _) := M4.set 1 (.int .i64 kc) (n' := { kind := 10, c := -1, next := -1, point := p.ct.1, a := kc }) rfl
    clear M4 M3 h3 k3 g3 H2
    go_wp2_with fail
    refine (block_fx ho HDEC.out HR.out HL3.out M5.out.fx).mono ?_
    rintro e w4 ⟨kb, p4, rfl, h4, k4, g4, e4⟩
    have HD4 : Hid (∃ ex, p4.ns = p1.ns ++ ex) := pre_trans HD3.out (pre_mode (fun l1 e1 => pre_B (g4 l1 e1)) e4)
    have HD : Hid (p4.ns[p.ns.length]? = some { point := p.ct.1, next := -1, c := -1 }) := pre_dummy hp1.out HD4.out
    have G4 : Hid (_ ∧ _) := And.intro g4 e4
    have M6 := M5.out.call h4 k4
    obtain ⟨e2, f2⟩ := M6.box.cell 2 rfl
    have M9 : Hid (FMid _ _ _ _ _ _ _ _ _ _ _ _) := M6.set 2 (.int .i64 kb) (n' := { kind := 10, c := -1, next := -1, point := p.ct.1, a := kc, b := kb }) rfl
    clear M6 M5 h4 k4 g4 e4 HL3 HD3 HD4
    obtain ⟨g, cap, hv, hcap, hmax, hn5, hj, a4, a0, ⟨n0, n1, n2, n3, n4, n5, n6, n7, n8, n9⟩, ⟨r0, r1, r2, r3, r4, r5, r6, r7, r8, r9⟩, q0, q1, q2, q3, q4, q5, q6, q7, q8, q9⟩ := M9.out.facts (j := p.ns.length) (d := { point := p.ct.1, next := -1, c := -1 }) HD.out
    go_wp2_with fail
    generalize w4.setCell ⟨wc.heap.size, 2, none⟩ (.int .i64 kb) = wd at *
    go_cut [] from 6 (fun wc => wc = (put10 wd g (p.ns.length * 10) { kind := 10, c := -1, next := -1, point := p.ct.1, a := kc, b := kb }).drew)
    case first =>
      clear M9 HT HD HLIM HNX G3 G4 HR HDEC HBK
      go_region_with (fail)
      all_goals
        go_wp2_with fail
        go_meet
        exact rfl
    case rest =>
      obtain ⟨h6, k6⟩ := put10_fx M9.out.fx { kind := 10, c := -1, next := -1, point := p.ct.1, a := kc, b := kb } hv (j := p.ns.length) (d := { point := p.ct.1, next := -1, c := -1 }) HD.out
      go_wp2_with fail
      go_ret
      have G9 := fin_while (n := { kind := 10, c := -1, next := -1, point := p.ct.1, a := kc, b := kb }) (kc := kc) (kb := kb) HBK.out hp1.out hp1q.out HP1C.out HNX.out G3.out G4.out.1 G4.out.2 rfl rfl rfl rfl rfl
      rw [hcut]
      exact post_fin (left_while2 st o l HBK.out) h6.drew (M9.out.fk.trans k6).drew G9

end Go.Proofs.YtiopfihjmkfdmaaGreatDoor


