/- THE DOCUMENT'S ANSWER: statement, assignment. -/
import Derived.Test.YtiopfihjmkfdmaaGreatDoorGFStmts
import Derived.Test.YtiopfihjmkfdmaaGreatDoorGFRead
namespace Go.Proofs.YtiopfihjmkfdmaaGreatDoor
open Go.RowKit
open Sp (Sm Bl Ct Tr)
set_option maxRecDepth 100000
set_option maxHeartbeats 8000000

theorem fassign_calls (base b pb : Nat) (s : ByteArray) (o : Nat) (ho : o ≤ 12) (l : Sp.Bs) (p : FP) (w : World) (h : FR base b pb s l (o : Int) p w) (hlim : FLim p l) (hv : Sp.nameVal l ≠ none) :
    Calls Tryz.prog 99 #[.pointer (some ⟨b, 0, none⟩)] w (FPostT base b pb s o p l w (Sp.pAssign Tr o l)) := by
  obtain ⟨c6, c3, hsz, hl4⟩ := h.asks
  have c4 := cell_of h.blk 4 (v := .pointer (some ⟨pb, 0, none⟩)) rfl
  have d2 := cell_of h.prog.blk 2 (v := .int .i64 p.ct.1) rfl
  have HV : Hid (Sp.nameVal l ≠ none) := hv
  have HNX : Hid (∀ l2, (left (Sp.pName l)).bind (Sp.take [61]) = .ok l2 → l2.length < l.length) := by
    intro l2 e
    cases hq : Sp.nameVal l with
    | none => exact absurd hq hv
    | some kk =>
      have h1 : (Sp.next l).length < l.length := Sp.next_lt (Sp.tokLen_pos (.inl (Sp.nameVal_kind hq)))
      rw [pName_some hq] at e
      have e' : Sp.take [61] (Sp.next l) = .ok l2 := e
      obtain ⟨_, h2⟩ := Sp.take_ok_iff e'
      have := Sp.next_le (Sp.next l)
      rw [h2]; omega
  obtain ⟨t, HT, n1, n2, n3, n4⟩ : ∃ t : ByteArray, Hid (t = ⟨(Sp.tok l).toArray⟩) ∧ (t.toList == [114, 101, 97, 100]) = false ∧ (t.toList == [97, 115, 115, 101, 114, 116]) = false ∧ (t.toList == [105, 102]) = false ∧ (t.toList == [119, 104, 105, 108, 101]) = false := by
    cases hq : Sp.nameVal l with
    | none => exact absurd hq hv
    | some kk =>
      obtain ⟨c, ht, _⟩ := nameVal_some hq
      refine ⟨⟨(Sp.tok l).toArray⟩, hid_rfl _, ?_, ?_, ?_, ?_⟩ <;> (rw [ByteArray.toList_eq]; simp [ht])
  have hn1 : p.ns.length + 1 ≤ 1000000 := by have := hlim.1; omega
  clear hsz hv
  go_enter Tryz.func99, Tryz.ntmps99
  go_wp2_with fail
  refine (node_calls (r := .ok l) h { point := p.ct.1, next := -1, c := -1 } hn1).mono ?_
  rintro e w1 ⟨rfl, v, h1, k1⟩
  have h1' : FR base b pb s l (o : Int) _ w1 := h1
  have c4 := cell_of h1'.blk 4 (v := .pointer (some ⟨pb, 0, none⟩)) rfl
  have d2 := cell_of h1'.prog.blk 2 (v := .int .i64 p.ct.1) rfl
  have f2 := frozen_of h1'.prog.blk 2
  go_wp2_with fail
  go_cut [] from 6 (fun wc => wc = (w1.setCell ⟨pb, 2, none⟩ (.int .i64 (RowKit.wrap64 (p.ct.1 + 1)))).drew)
  case first =>
    go_region_with (fail)
    all_goals
      go_wp2_with fail
      go_meet
      rw [IntWalk.i64_left]
  case rest =>
    obtain ⟨hs1, hs2⟩ := FX.set_prog (r := .ok l) (p' := { p with ns := p.ns ++ [{ point := p.ct.1, next := -1, c := -1 }], nv := v, ct := Sp.ptUp p.ct }) h1 2 (.int .i64 (RowKit.wrap64 (p.ct.1 + 1))) (fp_point h1.prog.blk _) rfl rfl rfl rfl
    obtain ⟨p1, hp1, hp1q, hp1c, hx, hk⟩ : ∃ p1 : FP, Hid (p1.ns = p.ns ++ [{ point := p.ct.1, next := -1, c := -1 }]) ∧ Hid (p1.qs = p.qs) ∧ p1.ct = Sp.ptUp p.ct ∧ FX base b pb s (.ok l) (o : Int) p1 wc ∧ FK b pb p p1 w wc := ⟨{ p with ns := p.ns ++ [{ point := p.ct.1, next := -1, c := -1 }], nv := v, ct := Sp.ptUp p.ct }, hid_rfl _, hid_rfl _, rfl, by rw [hcut]; exact hs1.drew, by rw [hcut]; exact k1.trans hs2.drew⟩
    clear hcut hs1 hs2 h1 k1 h1' c4 d2 f2 c3 c6
    have hfr : FR base b pb s l (o : Int) _ wc := hx
    have c4 := cell_of hfr.blk 4 (v := .pointer (some ⟨pb, 0, none⟩)) rfl
    have d2 := cell_of hfr.prog.blk 2 (v := .int .i64 (RowKit.wrap64 (p.ct.1 + 1))) (by rw [show (RowKit.wrap64 (p.ct.1 + 1)) = p1.ct.1 by rw [hp1c]; rfl]; rfl)
    have c3 := cell_of hfr.blk 3 (v := .string ⟨(Sp.tok l).toArray⟩) rfl
    rw [← HT.out] at c3
    have hpt : RowKit.wrap64 (RowKit.wrap64 (p.ct.1 + 1) - 1) = p.ct.1 := by obtain ⟨_, _, a1, a2⟩ := hlim; unfold RowKit.wrap64; omega
    have hltb : b < wc.heap.size := heap_lt hfr.blk
    have hltp : pb < wc.heap.size := heap_lt hfr.prog.blk
    have HP1C : Hid (p1.ct = Sp.ptUp p.ct) := hp1c
    have HLIM : Hid (∀ l1 : Sp.Bs, l1.length < l.length → FLim p1 l1) := fun l1 hl1 => lim_start hlim hp1.out hp1q.out (by rw [hp1c]; exact in64_wrap _) hl1
    have M0 : Hid (FMid base b pb wc.heap.size s _ _ _ _ _ _ _) := FMid.start { kind := 6, c := -1, next := -1, point := p.ct.1 } hx hk
    clear hx hk hp1c hlim
    go_wp2_with fail
    refine (fname_fr (FR.of_fx M0.out.fx)).mono ?_
    rintro e w3 ⟨k, rfl, h3, k3, hn3⟩
    have HN3 : Hid (∀ kk, Sp.nameVal l = some kk → k = (kk : Int)) := hn3
    clear hn3
    have M2 := M0.out.call h3 k3
    obtain ⟨e4, f4⟩ := M2.box.cell 4 rfl
    have M3 : Hid (FMid _ _ _ _ _ _ _ _ _ _ _ _) := M2.set 4 (.int .i64 k) (n' := { kind := 6, c := -1, next := -1, point := p.ct.1, n := k }) rfl
    clear M2 M0 h3 k3
    go_wp2_with fail
    refine (take_fx M3.out.fx [61]).mono ?_
    rintro e w4 ⟨rfl, h4, k4⟩
    have M4 : Hid (FMid _ _ _ _ _ _ _ _ _ _ _ _) := M3.out.call h4 k4
    clear M3 h4 k4
    go_wp2_with fail
    refine (reads_fx (o := o) (n := l.length) (u := Sp.pS Tr o) (fun l1 e1 => ⟨fun l p w _ h hl => fS_calls ho h hl, HNX.out l1 e1, HLIM.out l1 (HNX.out l1 e1)⟩) (sum_idle base b pb s) M4.out.fx).mono ?_
    rintro e w5 ⟨ka, p3, rfl, h5, k5, g5, e5⟩
    have G5 : Hid (_ ∧ _) := And.intro g5 e5
    have HD : Hid (p3.ns[p.ns.length]? = some { point := p.ct.1, next := -1, c := -1 }) := pre_dummy hp1.out (pre_mode (fun l1 e1 => pre_S (g5 l1 e1)) e5)
    have M5 := M4.out.call h5 k5
    obtain ⟨e1, f1⟩ := M5.box.cell 1 rfl
    have M6 : Hid (FMid _ _ _ _ _ _ _ _ _ _ _ _) := M5.set 1 (.int .i64 ka) (n' := { kind := 6, c := -1, next := -1, point := p.ct.1, n := k, a := ka }) rfl
    clear M5 M4 h5 k5 g5 e5
    go_wp2_with fail
    refine (take_fx M6.out.fx [59]).mono ?_
    rintro e w4 ⟨rfl, h4, k4⟩
    have M4 := M6.out.call h4 k4
    obtain ⟨g, cap, hv, hcap, hmax, hn5, hj, a4, a0, ⟨n0, n1, n2, n3, n4, n5, n6, n7, n8, n9⟩, ⟨r0, r1, r2, r3, r4, r5, r6, r7, r8, r9⟩, q0, q1, q2, q3, q4, q5, q6, q7, q8, q9⟩ := M4.facts (j := p.ns.length) (d := { point := p.ct.1, next := -1, c := -1 }) HD.out
    have M5 : Hid (FMid _ _ _ _ _ _ _ _ _ _ _ _) := M4
    clear M6 M4 h4 k4
    go_wp2_with fail
    go_cut [] from 6 (fun wc => wc = (put10 w4 g (p.ns.length * 10) { kind := 6, c := -1, next := -1, point := p.ct.1, n := k, a := ka }).drew)
    case first =>
      clear M5 HT HD G5 HLIM HN3 HNX HV
      go_region_with (fail)
      all_goals
        go_wp2_with fail
        go_meet
        exact rfl
    case rest =>
      obtain ⟨h6, k6⟩ := put10_fx M5.out.fx { kind := 6, c := -1, next := -1, point := p.ct.1, n := k, a := ka } hv (j := p.ns.length) (d := { point := p.ct.1, next := -1, c := -1 }) HD.out
      go_wp2_with fail
      go_ret
      have G6 := fin_assign (n := { kind := 6, c := -1, next := -1, point := p.ct.1, n := k, a := ka }) (k := k) (ka := ka) hp1.out hp1q.out HP1C.out HN3.out HV.out G5.out.1 G5.out.2 rfl rfl rfl rfl rfl
      rw [hcut]
      exact post_fin (left_assign2 o l) h6.drew (M5.out.fk.trans k6).drew G6

end Go.Proofs.YtiopfihjmkfdmaaGreatDoor


