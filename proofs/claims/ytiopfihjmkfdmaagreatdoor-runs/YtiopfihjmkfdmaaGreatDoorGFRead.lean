/- THE DOCUMENT'S ANSWER: statement, read. -/
import Derived.Test.YtiopfihjmkfdmaaGreatDoorGFStmts
namespace Go.Proofs.YtiopfihjmkfdmaaGreatDoor
open Go.RowKit
open Sp (Sm Bl Ct Tr)
set_option maxRecDepth 100000
set_option maxHeartbeats 8000000

theorem FR.of_fx {base b pb : Nat} {s : ByteArray} {l : Sp.Bs} {o : Int} {p : FP} {w : World} (h : FX base b pb s (.ok l) o p w) : FR base b pb s l o p w := h

theorem fread_calls (base b pb : Nat) (s : ByteArray) (o : Nat) (l : Sp.Bs) (p : FP) (w : World) (h : FR base b pb s l (o : Int) p w) (hlim : FLim p l) (ht : Sp.tok l = Sp.wRead) :
    Calls Tryz.prog 99 #[.pointer (some ⟨b, 0, none⟩)] w (FPostT base b pb s o p l w (Sp.pRead Tr l)) := by
  obtain ⟨c6, c3, hsz, hl4⟩ := h.asks
  have c4 := cell_of h.blk 4 (v := .pointer (some ⟨pb, 0, none⟩)) rfl
  have d2 := cell_of h.prog.blk 2 (v := .int .i64 p.ct.1) rfl
  have HT : Hid (Sp.tok l = Sp.wRead) := ht
  have HNX : Hid ((Sp.next l).length < l.length) := Sp.next_lt_of_tok ht (by decide)
  have hn1 : p.ns.length + 1 ≤ 1000000 := by have := hlim.1; omega
  clear hsz ht
  go_enter Tryz.func99, Tryz.ntmps99
  go_wp2_with fail
  refine (node_calls (r := .ok l) h { point := p.ct.1, next := -1, c := -1 } hn1).mono ?_
  rintro e w1 ⟨rfl, v, h1, k1⟩
  have h1' : FR base b pb s l (o : Int) _ w1 := h1
  have c4 := cell_of h1'.blk 4 (v := .pointer (some ⟨pb, 0, none⟩)) rfl
  have d2 := cell_of h1'.prog.blk 2 (v := .int .i64 p.ct.1) rfl
  have f2 := frozen_of h1'.prog.blk 2
  go_wp2_with fail
  go_cut [] from 6 (fun wc => wc = (w1.setCell ⟨pb, 2, none⟩ (.int .i64 (RowKit.wrap64 (p.ct.1 + 1)))).drew)
  case first =>
    go_region_with (fail)
    all_goals
      go_wp2_with fail
      go_meet
      rw [IntWalk.i64_left]
  case rest =>
    obtain ⟨hs1, hs2⟩ := FX.set_prog (r := .ok l) (p' := { p with ns := p.ns ++ [{ point := p.ct.1, next := -1, c := -1 }], nv := v, ct := Sp.ptUp p.ct }) h1 2 (.int .i64 (RowKit.wrap64 (p.ct.1 + 1))) (fp_point h1.prog.blk _) rfl rfl rfl rfl
    have hx : FX base b pb s (.ok l) (o : Int) { p with ns := p.ns ++ [{ point := p.ct.1, next := -1, c := -1 }], nv := v, ct := Sp.ptUp p.ct } wc := by rw [hcut]; exact hs1.drew
    have hk : FK b pb p { p with ns := p.ns ++ [{ point := p.ct.1, next := -1, c := -1 }], nv := v, ct := Sp.ptUp p.ct } w wc := by rw [hcut]; exact k1.trans hs2.drew
    clear hcut hs1 hs2 h1 k1 h1' c4 d2 f2 c3 c6
    have hfr : FR base b pb s l (o : Int) _ wc := hx
    have c4 := cell_of hfr.blk 4 (v := .pointer (some ⟨pb, 0, none⟩)) rfl
    have d2 := cell_of hfr.prog.blk 2 (v := .int .i64 (RowKit.wrap64 (p.ct.1 + 1))) rfl
    have c3 := cell_of hfr.blk 3 (v := .string ⟨(Sp.tok l).toArray⟩) rfl
    rw [HT.out] at c3
    have hpt : RowKit.wrap64 (RowKit.wrap64 (p.ct.1 + 1) - 1) = p.ct.1 := by obtain ⟨_, _, a1, a2⟩ := hlim; unfold RowKit.wrap64; omega
    have hltb : b < wc.heap.size := heap_lt hfr.blk
    have hltp : pb < wc.heap.size := heap_lt hfr.prog.blk
    have M0 : Hid (FMid base b pb wc.heap.size s _ _ _ _ _ _ _) := FMid.start { kind := 7, c := -1, next := -1, point := p.ct.1 } hx hk
    clear hx hk
    go_wp2_with fail
    refine (fstep_fr (FR.of_fx M0.out.fx)).mono ?_
    rintro e w2 ⟨rfl, h2, k2⟩
    have M1 := M0.out.call (r' := .ok (Sp.next l)) h2 k2
    go_wp2_with fail
    refine (fname_fr h2).mono ?_
    rintro e w3 ⟨k, rfl, h3, k3, hn3⟩
    have HN3 : Hid (∀ kk, Sp.nameVal (Sp.next l) = some kk → k = (kk : Int)) := hn3
    clear hn3
    have M2 := M1.call h3 k3
    obtain ⟨e4, f4⟩ := M2.box.cell 4 rfl
    have M3 : Hid (FMid _ _ _ _ _ _ _ _ _ _ _ _) := M2.set 4 (.int .i64 k) (n' := { kind := 7, c := -1, next := -1, point := p.ct.1, n := k }) rfl
    clear M1 M2 M0 h2 k2 h3 k3
    go_wp2_with fail
    refine (take_fx M3.out.fx [59]).mono ?_
    rintro e w4 ⟨rfl, h4, k4⟩
    have M4 := M3.out.call h4 k4
    obtain ⟨g, cap, hv, hcap, hmax, hn5, hj, a4, a0, ⟨n0, n1, n2, n3, n4, n5, n6, n7, n8, n9⟩, ⟨r0, r1, r2, r3, r4, r5, r6, r7, r8, r9⟩, q0, q1, q2, q3, q4, q5, q6, q7, q8, q9⟩ := M4.facts (j := p.ns.length) (d := { point := p.ct.1, next := -1, c := -1 }) (by simp)
    have M5 : Hid (FMid _ _ _ _ _ _ _ _ _ _ _ _) := M4
    clear M3 M4 h4 k4
    go_wp2_with fail
    go_cut [] from 6 (fun wc => wc = (put10 w4 g (p.ns.length * 10) { kind := 7, c := -1, next := -1, point := p.ct.1, n := k }).drew)
    case first =>
      clear M5 HT hlim
      go_region_with (fail)
      all_goals
        go_wp2_with fail
        go_meet
        exact rfl
    case rest =>
      obtain ⟨h6, k6⟩ := put10_fx M5.out.fx { kind := 7, c := -1, next := -1, point := p.ct.1, n := k } hv (j := p.ns.length) (d := { point := p.ct.1, next := -1, c := -1 }) (by simp)
      go_wp2_with fail
      go_ret
      exact ⟨_, rfl, FX.cast (left_read l).symm h6.drew, (M5.out.fk.trans k6).drew, fin_read (p1 := { p with ns := p.ns ++ [{ point := p.ct.1, next := -1, c := -1 }], nv := v, ct := Sp.ptUp p.ct }) (k := k) rfl rfl rfl HNX.out HN3.out rfl rfl rfl rfl⟩

end Go.Proofs.YtiopfihjmkfdmaaGreatDoor


