import Derived.Test.YtiopfihjmkfdmaaGreatDoorU13
namespace Go.Proofs.YtiopfihjmkfdmaaGreatDoor
open Go.RowKit
set_option maxRecDepth 100000
set_option maxHeartbeats 400000
def StPost {A : Sp.Alg} {Rp : Rep A} (Rt : RepT A Rp) (b : Nat) (s : ByteArray) (m1 m2 o : Nat) (ct : Int × Int) (w : World) (r : Sp.R A.T) : Ending → World → Prop :=
 PostG (fun ct w' v x ct' => Rt.T ct w.heap.size w'.heap.size w' v x ct') b s m1 m2 o ct w r
theorem nameVal_lt {l : Sp.Bs} {k : Nat} (h : Sp.nameVal l = some k) : k < 8 := by obtain ⟨c, _, _, h1, h2, rfl⟩ := nameVal_some h; omega
theorem take_yes {t l : Sp.Bs} (h : Sp.tok l = t) : Sp.take t l = .ok (Sp.next l) := by unfold Sp.take; rw [if_pos h]
theorem take_no {t l : Sp.Bs} (h : ¬ Sp.tok l = t) : Sp.take t l = .error (2, l.length) := by unfold Sp.take; rw [if_neg h]; rfl
theorem pName_none' {l : Sp.Bs} (h : Sp.nameVal l = none) : Sp.pName l = .error (2, l.length) := by unfold Sp.pName; rw [h]; rfl
theorem pName_some' {l : Sp.Bs} {k : Nat} (h : Sp.nameVal l = some k) : Sp.pName l = .ok (k, Sp.next l) := by unfold Sp.pName; rw [h]
theorem assign_calls {A : Sp.Alg} {Rp : Rep A} (Rt : RepT A Rp) (b : Nat) (s : ByteArray) (m1 m2 o : Nat) (ho : o ≤ 12) (l : Sp.Bs) (ct : Int × Int) (w : World) (h : Rd b s m1 m2 l o (ptUp ct) w) (hE : Env b m1 m2 w) :
  Calls Tryz.prog 168 #[.pointer (some ⟨b, 0, none⟩), .int .i64 ct.1] w (StPost Rt b s m1 m2 o ct w (Sp.pAssign A o l)) := by
 cases hn : Sp.nameVal l with
 | none =>
  have hfin : Hid (Sp.pAssign A o l = .error (2, l.length)) := by unfold Hid Sp.pAssign; rw [pName_none' hn]
  go_enter Tryz.func168, Tryz.ntmps168
  go_wp2_with fail
  refine (name_bad h hn).mono ?_
  rintro e w1 ⟨N, rfl, hf⟩
  exact ⟨rfl, bad_postG hfin.out ⟨N, rfl, hf⟩⟩
 | some k =>
  have hk := nameVal_lt hn
  have e1 := pName_some' hn
  by_cases ht : Sp.tok (Sp.next l) = [61]
  ·have e2 := take_yes ht
   cases hr : Sp.pS A o (Sp.next (Sp.next l)) with
   | error er =>
    have hfin : Hid (Sp.pAssign A o l = .error er) := by unfold Hid Sp.pAssign; rw [e1]; simp only; rw [e2]; simp only; rw [hr]
    clear e1 e2
    go_enter Tryz.func168, Tryz.ntmps168
    go_wp2_with fail
    refine (name_ok h hn).mono ?_
    rintro e w1 ⟨rfl, h1, x1⟩
    go_wp2_with fail
    refine (take_ok h1 [61] ht).mono ?_
    rintro e w2 ⟨rfl, h2, x2⟩
    go_wp2_with fail
    refine (sum_calls Rp b s m1 m2 o ho _ (ptUp ct) w2 h2 ((hE.ext x1).ext x2)).mono ?_
    intro e w3 hp
    rw [hr] at hp
    obtain ⟨N, rfl, hf⟩ := hp
    exact ⟨rfl, bad_postG hfin.out (Faulty.ahead (x1.trans x2) ⟨N, rfl, hf⟩)⟩
   | ok xl =>
    obtain ⟨x, l3⟩ := xl
    by_cases hs : Sp.tok l3 = [59]
    ·have hfin : Hid (Sp.pAssign A o l = .ok (A.assign k x, Sp.next l3)) := by unfold Hid Sp.pAssign; rw [e1]; simp only; rw [e2]; simp only; rw [hr]; simp only; rw [take_yes hs]
     clear e1 e2
     go_enter Tryz.func168, Tryz.ntmps168
     go_wp2_with fail
     refine (name_ok h hn).mono ?_
     rintro e w1 ⟨rfl, h1, x1⟩
     go_wp2_with fail
     refine (take_ok h1 [61] ht).mono ?_
     rintro e w2 ⟨rfl, h2, x2⟩
     go_wp2_with fail
     refine (sum_calls Rp b s m1 m2 o ho _ (ptUp ct) w2 h2 ((hE.ext x1).ext x2)).mono ?_
     intro e w3 hp
     rw [hr] at hp
     obtain ⟨v, rfl, ct1, hv, h3, x3⟩ := hp
     obtain ⟨tv, uv, rfl⟩ := Rp.iface _ _ _ _ hv
     have HV : Hid (Rp.S (ptUp ct) (.iface tv uv) x ct1) := hv
     clear hv hr
     go_wp2_with fail
     refine (take_ok h3 [59] hs).mono ?_
     rintro e w4 ⟨rfl, h4, x4⟩
     go_wp2_with fail
     go_ret
     exact good_postG hfin.out (Rt.assign ct _ _ _ k _ _ ct1 hk HV.out) h4 (((x1.trans x2).trans x3).trans x4)
    ·have hfin : Hid (Sp.pAssign A o l = .error (2, l3.length)) := by unfold Hid Sp.pAssign; rw [e1]; simp only; rw [e2]; simp only; rw [hr]; simp only; rw [take_no hs]
     clear e1 e2
     go_enter Tryz.func168, Tryz.ntmps168
     go_wp2_with fail
     refine (name_ok h hn).mono ?_
     rintro e w1 ⟨rfl, h1, x1⟩
     go_wp2_with fail
     refine (take_ok h1 [61] ht).mono ?_
     rintro e w2 ⟨rfl, h2, x2⟩
     go_wp2_with fail
     refine (sum_calls Rp b s m1 m2 o ho _ (ptUp ct) w2 h2 ((hE.ext x1).ext x2)).mono ?_
     intro e w3 hp
     rw [hr] at hp
     obtain ⟨v, rfl, ct1, hv, h3, x3⟩ := hp
     clear hv hr
     go_wp2_with fail
     refine (take_bad h3 [59] hs).mono ?_
     rintro e w4 ⟨N, rfl, hf⟩
     exact ⟨rfl, bad_postG hfin.out (Faulty.ahead ((x1.trans x2).trans x3) ⟨N, rfl, hf⟩)⟩
  ·have hfin : Hid (Sp.pAssign A o l = .error (2, (Sp.next l).length)) := by unfold Hid Sp.pAssign; rw [e1]; simp only; rw [take_no ht]
   clear e1
   go_enter Tryz.func168, Tryz.ntmps168
   go_wp2_with fail
   refine (name_ok h hn).mono ?_
   rintro e w1 ⟨rfl, h1, x1⟩
   go_wp2_with fail
   refine (take_bad h1 [61] ht).mono ?_
   rintro e w2 ⟨N, rfl, hf⟩
   exact ⟨rfl, bad_postG hfin.out (Faulty.ahead x1 ⟨N, rfl, hf⟩)⟩
theorem read_calls {A : Sp.Alg} {Rp : Rep A} (Rt : RepT A Rp) (b : Nat) (s : ByteArray) (m1 m2 o : Nat) (l : Sp.Bs) (ct : Int × Int) (w : World) (h : Rd b s m1 m2 l o (ptUp ct) w) (ht : Sp.tok l = Sp.wRead) :
  Calls Tryz.prog 164 #[.pointer (some ⟨b, 0, none⟩), .int .i64 ct.1] w (StPost Rt b s m1 m2 o ct w (Sp.pRead A l)) := by
 cases hn : Sp.nameVal (Sp.next l) with
 | none =>
  have hfin : Hid (Sp.pRead A l = .error (2, (Sp.next l).length)) := by unfold Hid Sp.pRead; rw [pName_none' hn]
  go_enter Tryz.func164, Tryz.ntmps164
  go_wp2_with fail
  refine (take_ok h [114, 101, 97, 100] ht).mono ?_
  rintro e w1 ⟨rfl, h1, x1⟩
  go_wp2_with fail
  refine (name_bad h1 hn).mono ?_
  rintro e w2 ⟨N, rfl, hf⟩
  exact ⟨rfl, bad_postG hfin.out (Faulty.ahead x1 ⟨N, rfl, hf⟩)⟩
 | some k =>
  have hk := nameVal_lt hn
  have e1 := pName_some' hn
  by_cases hs : Sp.tok (Sp.next (Sp.next l)) = [59]
  ·have hfin : Hid (Sp.pRead A l = .ok (A.read k, Sp.next (Sp.next (Sp.next l)))) := by unfold Hid Sp.pRead; rw [e1]; simp only; rw [take_yes hs]
   clear e1
   go_enter Tryz.func164, Tryz.ntmps164
   go_wp2_with fail
   refine (take_ok h [114, 101, 97, 100] ht).mono ?_
   rintro e w1 ⟨rfl, h1, x1⟩
   go_wp2_with fail
   refine (name_ok h1 hn).mono ?_
   rintro e w2 ⟨rfl, h2, x2⟩
   go_wp2_with fail
   refine (take_ok h2 [59] hs).mono ?_
   rintro e w3 ⟨rfl, h3, x3⟩
   go_wp2_with fail
   go_ret
   exact good_postG hfin.out (Rt.read ct _ _ _ k hk) h3 ((x1.trans x2).trans x3)
  ·have hfin : Hid (Sp.pRead A l = .error (2, (Sp.next (Sp.next l)).length)) := by unfold Hid Sp.pRead; rw [e1]; simp only; rw [take_no hs]
   clear e1
   go_enter Tryz.func164, Tryz.ntmps164
   go_wp2_with fail
   refine (take_ok h [114, 101, 97, 100] ht).mono ?_
   rintro e w1 ⟨rfl, h1, x1⟩
   go_wp2_with fail
   refine (name_ok h1 hn).mono ?_
   rintro e w2 ⟨rfl, h2, x2⟩
   go_wp2_with fail
   refine (take_bad h2 [59] hs).mono ?_
   rintro e w3 ⟨N, rfl, hf⟩
   exact ⟨rfl, bad_postG hfin.out (Faulty.ahead (x1.trans x2) ⟨N, rfl, hf⟩)⟩
end Go.Proofs.YtiopfihjmkfdmaaGreatDoor
namespace Go.Proofs.YtiopfihjmkfdmaaGreatDoor
open Go.RowKit
set_option maxRecDepth 100000
set_option maxHeartbeats 400000
theorem assert_calls {A : Sp.Alg} {Rp : Rep A} (Rt : RepT A Rp) (b : Nat) (s : ByteArray) (m1 m2 o : Nat) (ho : o ≤ 12) (l : Sp.Bs) (ct : Int × Int) (w : World) (h : Rd b s m1 m2 l o (ptUp ct) w) (hE : Env b m1 m2 w) (ht : Sp.tok l = Sp.wAssert) :
  Calls Tryz.prog 165 #[.pointer (some ⟨b, 0, none⟩), .int .i64 ct.1] w (StPost Rt b s m1 m2 o ct w (Sp.pAssert A o l)) := by
 have hlt := h.lt
 cases hr : Sp.pCond A o (Sp.next l) with
 | error er =>
  have hfin : Hid (Sp.pAssert A o l = .error er) := by unfold Hid Sp.pAssert; rw [hr]
  go_enter Tryz.func165, Tryz.ntmps165
  go_wp2_with fail
  refine (take_ok h [97, 115, 115, 101, 114, 116] ht).mono ?_
  rintro e w1 ⟨rfl, h1, x1⟩
  go_wp2_with fail
  refine (site_calls h1).mono ?_
  rintro e w1b ⟨rfl, h1b, x1b⟩
  go_wp2_with fail
  refine (cond_calls Rp b s m1 m2 o ho _ (siteUp (ptUp ct)) w1b h1b ((hE.ext x1).ext x1b)).mono ?_
  intro e w2 hp
  rw [hr] at hp
  obtain ⟨N, rfl, hf⟩ := hp
  exact ⟨rfl, bad_postG hfin.out (Faulty.ahead (x1.trans x1b) ⟨N, rfl, hf⟩)⟩
 | ok cl =>
  obtain ⟨⟨k, x, y⟩, l1⟩ := cl
  by_cases hs : Sp.tok l1 = [59]
  ·have hfin : Hid (Sp.pAssert A o l = .ok (A.assert k x y, Sp.next l1)) := by unfold Hid Sp.pAssert; rw [hr]; simp only; rw [take_yes hs]
   go_enter Tryz.func165, Tryz.ntmps165
   go_wp2_with fail
   refine (take_ok h [97, 115, 115, 101, 114, 116] ht).mono ?_
   rintro e w1 ⟨rfl, h1, x1⟩
   go_wp2_with fail
   refine (site_calls h1).mono ?_
   rintro e w1b ⟨rfl, h1b, x1b⟩
   go_wp2_with fail
   refine (cond_calls Rp b s m1 m2 o ho _ (siteUp (ptUp ct)) w1b h1b ((hE.ext x1).ext x1b)).mono ?_
   intro e w2 hp
   rw [hr] at hp
   obtain ⟨v, rfl, ct2, ⟨tl, ul, tr, ur, ct1, rfl, hk, hl, hrr⟩, h2, x2⟩ := hp
   have HL : Hid (Rp.S (siteUp (ptUp ct)) (.iface tl ul) x ct1) := hl
   have HRR : Hid (Rp.S ct1 (.iface tr ur) y ct2) := hrr
   have hk6 : k < 6 := hk
   clear hr hl hrr hk
   have H2 : Hid (Rd b s m1 m2 l1 o ct2 (w2.alloc (.cells #[.int .i64 (k : Nat), .iface tl ul, .iface tr ur] 285))) := h2.ext _
   go_wp2_with fail
   refine (take_ok H2.out [59] hs).mono ?_
   rintro e w3 ⟨rfl, h3, x3⟩
   have hnb := new_block x3 h2.lt
   have k0 := cell_of hnb 0 (v := .int .i64 (k : Nat)) rfl
   have k1 := cell_of hnb 1 (v := .iface tl ul) rfl
   have k2 := cell_of hnb 2 (v := .iface tr ur) rfl
   have X : Hid (Ext b w w3) := (((x1.trans x1b).trans x2).alloc _).trans x3
   clear hnb x3
   go_wp2_with fail
   go_ret
   exact good_postG hfin.out (Rt.assert ct _ _ _ k _ _ ct1 _ _ ct2 hk6 HL.out HRR.out) h3 X.out
  ·have hfin : Hid (Sp.pAssert A o l = .error (2, l1.length)) := by unfold Hid Sp.pAssert; rw [hr]; simp only; rw [take_no hs]
   go_enter Tryz.func165, Tryz.ntmps165
   go_wp2_with fail
   refine (take_ok h [97, 115, 115, 101, 114, 116] ht).mono ?_
   rintro e w1 ⟨rfl, h1, x1⟩
   go_wp2_with fail
   refine (site_calls h1).mono ?_
   rintro e w1b ⟨rfl, h1b, x1b⟩
   go_wp2_with fail
   refine (cond_calls Rp b s m1 m2 o ho _ (siteUp (ptUp ct)) w1b h1b ((hE.ext x1).ext x1b)).mono ?_
   intro e w2 hp
   rw [hr] at hp
   obtain ⟨v, rfl, ct2, ⟨tl, ul, tr, ur, ct1, rfl, hk, hl, hrr⟩, h2, x2⟩ := hp
   clear hr hl hrr hk
   have H2 : Hid (Rd b s m1 m2 l1 o ct2 (w2.alloc (.cells #[.int .i64 (k : Nat), .iface tl ul, .iface tr ur] 285))) := h2.ext _
   go_wp2_with fail
   refine (take_bad H2.out [59] hs).mono ?_
   rintro e w3 ⟨N, rfl, hf⟩
   exact ⟨rfl, bad_postG hfin.out (Faulty.ahead (((x1.trans x1b).trans x2).alloc _) ⟨N, rfl, hf⟩)⟩
end Go.Proofs.YtiopfihjmkfdmaaGreatDoor
namespace Go.Proofs.YtiopfihjmkfdmaaGreatDoor
open Go.RowKit
set_option maxRecDepth 100000
set_option maxHeartbeats 400000
def BlkReads {A : Sp.Alg} {Rp : Rep A} (Rt : RepT A Rp) (b : Nat) (s : ByteArray) (m1 m2 o n : Nat) (blk : Sp.Bs → Sp.R (List A.T)) : Prop :=
 ∀ l ct w, l.length < n → Rd b s m1 m2 l o ct w → Env b m1 m2 w → Calls Tryz.prog 206 #[.pointer (some ⟨b, 0, none⟩)] w (PostG (fun ct w' v xs ct' => Blk Rt.T ct w.heap.size w'.heap.size w' v xs ct') b s m1 m2 o ct w (blk l))
theorem block_reads {A : Sp.Alg} {Rp : Rep A} (Rt : RepT A Rp) (b : Nat) (s : ByteArray) (m1 m2 o n : Nat) (ho : o ≤ 12) (st : Sp.Bs → Sp.R A.T) (hdec : ∀ l x l1, st l = .ok (x, l1) → l1.length < l.length)
  (hst : o < 12 → StReads Rt 122 b s m1 m2 (o + 1) n st) : BlkReads Rt b s m1 m2 o (n + 1) (Sp.pBlock A st o) := by
 intro l ct w hl h hE
 have hlt := h.lt
 by_cases ht : Sp.tok l = [123]
 ·by_cases h12 : o = 12
  ·subst h12
   have hr : Hid (Sp.pBlock A st 12 l = .error (3, l.length)) := by
    unfold Hid Sp.pBlock Sp.enter; rw [if_pos ht, if_pos rfl]; rfl
   go_enter Tryz.func206, Tryz.ntmps206
   go_wp2_with fail
   refine (enter_deep h [123] ht).mono ?_
   rintro e w1 ⟨N, rfl, hf⟩
   exact ⟨rfl, bad_postG hr.out ⟨N, rfl, hf⟩⟩
  ·have hen : Sp.enter [123] o l = .ok (Sp.next l) := by unfold Sp.enter; rw [if_pos ht, if_neg h12]
   have hnl := Sp.next_lt_of_tok ht (by simp)
   have hs := hst (by omega)
   cases hr : Sp.pMany A st ((Sp.next l).length + 1) [] (Sp.next l) with
   | error er =>
    have hfin : Hid (Sp.pBlock A st o l = .error er) := by unfold Hid Sp.pBlock; rw [hen]; simp only; rw [hr]
    go_enter Tryz.func206, Tryz.ntmps206
    go_wp2_with fail
    refine (enter_ok h (by omega) [123] ht).mono ?_
    rintro e w1 ⟨rfl, h1, x1⟩
    go_wp2_with fail
    refine (statements_calls Rt b s m1 m2 (o + 1) n st hdec hs (Sp.next l) ct w1 (by omega) h1 (hE.ext x1)).mono ?_
    intro e w2 hp
    rw [hr] at hp
    obtain ⟨N, rfl, hf⟩ := hp
    exact ⟨rfl, bad_postG hfin.out (Faulty.ahead x1 ⟨N, rfl, hf⟩)⟩
   | ok xl =>
    obtain ⟨xs, l2⟩ := xl
    by_cases hsh : Sp.tok l2 = [125]
    ·have hfin : Hid (Sp.pBlock A st o l = .ok (xs, Sp.next l2)) := by unfold Hid Sp.pBlock; rw [hen]; simp only; rw [hr]; simp only; unfold Sp.take; rw [if_pos hsh]
     go_enter Tryz.func206, Tryz.ntmps206
     go_wp2_with fail
     refine (enter_ok h (by omega) [123] ht).mono ?_
     rintro e w1 ⟨rfl, h1, x1⟩
     go_wp2_with fail
     refine (statements_calls Rt b s m1 m2 (o + 1) n st hdec hs (Sp.next l) ct w1 (by omega) h1 (hE.ext x1)).mono ?_
     intro e w2 hp
     rw [hr] at hp
     obtain ⟨v, rfl, ct1, hv, h2, x2⟩ := hp
     have HV : Hid (Blk Rt.T ct w1.heap.size w2.heap.size w2 v xs ct1) := hv
     clear hv hr
     go_wp2_with fail
     refine (take_ok h2 [125] hsh).mono ?_
     rintro e w3 ⟨rfl, h3, x3⟩
     have c4 : w3.cell? ⟨b, 4, none⟩ = some (.int .i64 ((o : Int) + 1)) := h3.c4
     have f4 := h3.fz 4
     have hsh := rd_open h3 o (o : Int) rfl
     have HS : Hid (Rd b s m1 m2 (Sp.next l2) o ct1 (w3.setCell ⟨b, 4, none⟩ (.int .i64 (o : Int))) ∧ Ext b w3 (w3.setCell ⟨b, 4, none⟩ (.int .i64 (o : Int)))) := hsh
     clear hsh
     have HB : Hid (Blk Rt.T ct w.heap.size (w3.setCell ⟨b, 4, none⟩ (.int .i64 (o : Int))).heap.size (w3.setCell ⟨b, 4, none⟩ (.int .i64 (o : Int))) v xs ct1) :=
      Blk.mono Rt HV.out x1.size (by have := x3.size; simp [World.setCell]; omega) ((x3.trans HS.out.2).sameOn (Nat.le_refl _) (.inl (by have := x1.size; omega)))
     go_wp2_with fail
     go_ret
     exact good_postG hfin.out HB HS.out.1 (((x1.trans x2).trans x3).trans HS.out.2)
    ·have hfin : Hid (Sp.pBlock A st o l = .error (2, l2.length)) := by unfold Hid Sp.pBlock; rw [hen]; simp only; rw [hr]; simp only; unfold Sp.take; rw [if_neg hsh]; rfl
     go_enter Tryz.func206, Tryz.ntmps206
     go_wp2_with fail
     refine (enter_ok h (by omega) [123] ht).mono ?_
     rintro e w1 ⟨rfl, h1, x1⟩
     go_wp2_with fail
     refine (statements_calls Rt b s m1 m2 (o + 1) n st hdec hs (Sp.next l) ct w1 (by omega) h1 (hE.ext x1)).mono ?_
     intro e w2 hp
     rw [hr] at hp
     obtain ⟨v, rfl, ct1, hv, h2, x2⟩ := hp
     clear hv hr
     go_wp2_with fail
     refine (take_bad h2 [125] hsh).mono ?_
     rintro e w3 ⟨N, rfl, hf⟩
     exact ⟨rfl, bad_postG hfin.out (Faulty.ahead (x1.trans x2) ⟨N, rfl, hf⟩)⟩
 ·have hr : Hid (Sp.pBlock A st o l = .error (2, l.length)) := by
   unfold Hid Sp.pBlock Sp.enter; rw [if_neg ht]; rfl
  go_enter Tryz.func206, Tryz.ntmps206
  go_wp2_with fail
  refine (enter_bad h [123] ht).mono ?_
  rintro e w1 ⟨N, rfl, hf⟩
  exact ⟨rfl, bad_postG hr.out ⟨N, rfl, hf⟩⟩
end Go.Proofs.YtiopfihjmkfdmaaGreatDoor
namespace Go.Proofs.YtiopfihjmkfdmaaGreatDoor
open Go.RowKit
set_option maxRecDepth 100000
set_option maxHeartbeats 400000
theorem Rd.drew {b : Nat} {s : ByteArray} {m1 m2 : Nat} {l : Sp.Bs} {o : Nat} {ct : Int × Int} {w : World} (h : Rd b s m1 m2 l o ct w) : Rd b s m1 m2 l o ct w.drew := h.keep rfl (fun _ _ _ _ => rfl)
theorem blk_slice {τ : Type} {T : Int × Int → Nat → Nat → World → Value → τ → Int × Int → Prop} {ct ct' : Int × Int} {lo hi : Nat} {w : World} {v : Value} {xs : List τ} (h : Blk T ct lo hi w v xs ct') : ∃ a n c, v = .slice a n c := by
 obtain ⟨vs, f, h1, _⟩ := h
 rcases h1.2 with ⟨rfl, _⟩ | ⟨g, cap, cur, rfl, _⟩
 ·exact ⟨none, 0, 0, rfl⟩
 ·exact ⟨_, _, _, rfl⟩
set_option maxHeartbeats 2000000 in
theorem loop_calls {A : Sp.Alg} {Rp : Rep A} (Rt : RepT A Rp) (b : Nat) (s : ByteArray) (m1 m2 o n : Nat) (ho : o ≤ 12) (blk : Sp.Bs → Sp.R (List A.T)) (hblk : BlkReads Rt b s m1 m2 o n blk)
  (l : Sp.Bs) (ct : Int × Int) (w : World) (hl : l.length ≤ n) (h : Rd b s m1 m2 l o (ptUp ct) w) (hE : Env b m1 m2 w) (ht : Sp.tok l = Sp.wWhile) (hcd : ∀ c l1, Sp.pCond A o (Sp.next l) = .ok (c, l1) → l1.length < l.length) :
  Calls Tryz.prog 167 #[.pointer (some ⟨b, 0, none⟩), .int .i64 ct.1] w (StPost Rt b s m1 m2 o ct w (Sp.pWhile A blk o l)) := by
 have hlt := h.lt
 cases hr : Sp.pCond A o (Sp.next l) with
 | error er =>
  have hfin : Hid (Sp.pWhile A blk o l = .error er) := by unfold Hid Sp.pWhile; rw [hr]
  go_enter Tryz.func167, Tryz.ntmps167
  go_wp2_with fail
  refine (take_ok h [119, 104, 105, 108, 101] ht).mono ?_
  rintro e w1 ⟨rfl, h1, x1⟩
  go_wp2_with fail
  refine (cond_calls Rp b s m1 m2 o ho _ (ptUp ct) w1 h1 (hE.ext x1)).mono ?_
  intro e w2 hp
  rw [hr] at hp
  obtain ⟨N, rfl, hf⟩ := hp
  exact ⟨rfl, bad_postG hfin.out (Faulty.ahead x1 ⟨N, rfl, hf⟩)⟩
 | ok cl =>
  obtain ⟨⟨k, x, y⟩, l1⟩ := cl
  have hl1 := hcd _ _ hr
  cases hb : blk l1 with
  | error er =>
   have hfin : Hid (Sp.pWhile A blk o l = .error er) := by unfold Hid Sp.pWhile; rw [hr]; simp only; rw [hb]
   go_enter Tryz.func167, Tryz.ntmps167
   go_wp2_with fail
   refine (take_ok h [119, 104, 105, 108, 101] ht).mono ?_
   rintro e w1 ⟨rfl, h1, x1⟩
   go_wp2_with fail
   refine (cond_calls Rp b s m1 m2 o ho _ (ptUp ct) w1 h1 (hE.ext x1)).mono ?_
   intro e w2 hp
   rw [hr] at hp
   obtain ⟨v, rfl, ct2, ⟨tl, ul, tr, ur, ct1, rfl, hk, hl', hrr⟩, h2, x2⟩ := hp
   have H2 : Hid (Rd b s m1 m2 l1 o ct2 (w2.alloc (.cells #[.int .i64 (k : Nat), .iface tl ul, .iface tr ur] 285)).drew) := (h2.ext _).drew
   have HE : Hid (Env b m1 m2 (w2.alloc (.cells #[.int .i64 (k : Nat), .iface tl ul, .iface tr ur] 285)).drew) := ((hE.ext x1).ext x2).ext ((Ext.refl b w2).alloc _).drew
   have H2lt := h2.lt
   clear hr hl' hrr hk hcd
   go_wp2_with fail
   have hc := hblk l1 ct2 _ (by omega) H2.out HE.out
   rw [hb] at hc
   go_region_dies
   all_goals
    refine hc.mono ?_
    rintro e w3 ⟨N, rfl, hf⟩
    exact ⟨rfl, bad_postG hfin.out (Faulty.ahead ((x1.trans x2).alloc _).drew ⟨N, rfl, hf⟩)⟩
  | ok bl =>
   obtain ⟨xs, l2⟩ := bl
   have hfin : Hid (Sp.pWhile A blk o l = .ok (A.loop k x y xs, l2)) := by unfold Hid Sp.pWhile; rw [hr]; simp only; rw [hb]
   go_enter Tryz.func167, Tryz.ntmps167
   go_wp2_with fail
   refine (take_ok h [119, 104, 105, 108, 101] ht).mono ?_
   rintro e w1 ⟨rfl, h1, x1⟩
   go_wp2_with fail
   refine (cond_calls Rp b s m1 m2 o ho _ (ptUp ct) w1 h1 (hE.ext x1)).mono ?_
   intro e w2 hp
   rw [hr] at hp
   obtain ⟨v, rfl, ct2, ⟨tl, ul, tr, ur, ct1, rfl, hk, hl', hrr⟩, h2, x2⟩ := hp
   have HL : Hid (Rp.S (ptUp ct) (.iface tl ul) x ct1) := hl'
   have HRR : Hid (Rp.S ct1 (.iface tr ur) y ct2) := hrr
   have hk6 : k < 6 := hk
   have H2 : Hid (Rd b s m1 m2 l1 o ct2 (w2.alloc (.cells #[.int .i64 (k : Nat), .iface tl ul, .iface tr ur] 285)).drew) := (h2.ext _).drew
   have HE : Hid (Env b m1 m2 (w2.alloc (.cells #[.int .i64 (k : Nat), .iface tl ul, .iface tr ur] 285)).drew) := ((hE.ext x1).ext x2).ext ((Ext.refl b w2).alloc _).drew
   have H2lt := h2.lt
   clear hr hl' hrr hk hcd
   go_wp2_with fail
   have hc := hblk l1 ct2 _ (by omega) H2.out HE.out
   rw [hb] at hc
   go_region_with (go_at_call 206; go_must (refine hc.mono ?_); rintro e w3 ⟨vb, rfl, ct3, hvb, h3, x3⟩; obtain ⟨a3, n3, c3, rfl⟩ := blk_slice hvb; have hnb := new_block (c := #[.int .i64 (k : Nat), .iface tl ul, .iface tr ur]) (t := 285) (f := (0, 0)) (w := w2) (w' := w3) ⟨x3.os, x3.tape, x3.output, x3.size, x3.block⟩ H2lt; have k0 := cell_of hnb 0 (v := .int .i64 (k : Nat)) rfl; have k1 := cell_of hnb 1 (v := .iface tl ul) rfl; have k2 := cell_of hnb 2 (v := .iface tr ur) rfl)
   all_goals
    have HB : Hid (Blk Rt.T ct2 w.heap.size w3.heap.size w3 (.slice a3 n3 c3) xs ct3) := Blk.mono Rt hvb (by have := x1.size; have := x2.size; show w.heap.size ≤ (w2.alloc _).heap.size; simp; omega) (Nat.le_refl _) (SameOn.refl _ _ _)
    have X : Hid (Ext b w w3) := (((x1.trans x2).alloc _).drew).trans x3
    clear hvb x3 hc k0 k1 k2 hnb
    go_wp2_with fail
    go_ret
    exact good_postG hfin.out (Rt.loop ct _ _ _ k _ _ ct1 _ _ ct2 _ _ ct3 hk6 HL.out HRR.out HB.out) h3 X.out
end Go.Proofs.YtiopfihjmkfdmaaGreatDoor
namespace Go.Proofs.YtiopfihjmkfdmaaGreatDoor
open Go.RowKit
set_option maxRecDepth 100000
set_option maxHeartbeats 400000
theorem SameOn.setCell {lo hi : Nat} {w w' : World} (h : SameOn lo hi w w') {p : Addr} (hp : p.block < lo ∨ hi ≤ p.block) (u : Value) : SameOn lo hi w (w'.setCell p u) :=
 fun k h1 h2 hn => by rw [Below.heap_setCell _ _ _ _ (by omega)]; exact h k h1 h2 hn
def ifCells (p : Int) (k : Nat) (x y bv cv : Value) (he : Bool) : Array Value := #[.int .i64 p, .int .i64 (k : Nat), x, y, bv, cv, .bool he]
theorem if_set3 {w : World} {p : Int} {N k : Nat} {x y bv cv : Value} {he : Bool} (h : w.heap[N]? = some (.cells (ifCells p k x y bv cv he) 290)) (v : Value) : (w.setCell ⟨N, 4, none⟩ v).heap[N]? = some (.cells (ifCells p k x y v cv he) 290) := by
 rw [heap_setCell_at h 4 v]; rfl
theorem if_set4 {w : World} {p : Int} {N k : Nat} {x y bv cv : Value} {he : Bool} (h : w.heap[N]? = some (.cells (ifCells p k x y bv cv he) 290)) (v : Value) : (w.setCell ⟨N, 5, none⟩ v).heap[N]? = some (.cells (ifCells p k x y bv v he) 290) := by
 rw [heap_setCell_at h 5 v]; rfl
theorem if_set5 {w : World} {p : Int} {N k : Nat} {x y bv cv : Value} {he : Bool} (h : w.heap[N]? = some (.cells (ifCells p k x y bv cv he) 290)) (he' : Bool) : (w.setCell ⟨N, 6, none⟩ (.bool he')).heap[N]? = some (.cells (ifCells p k x y bv cv he') 290) := by
 rw [heap_setCell_at h 6 (.bool he')]; rfl
theorem branch_calls {A : Sp.Alg} {Rp : Rep A} (Rt : RepT A Rp) (b : Nat) (s : ByteArray) (m1 m2 o n : Nat) (ho : o ≤ 12) (blk : Sp.Bs → Sp.R (List A.T)) (hblk : BlkReads Rt b s m1 m2 o n blk) (hbd : ∀ l x l1, blk l = .ok (x, l1) → l1.length ≤ l.length)
  (l : Sp.Bs) (ct : Int × Int) (w : World) (hl : l.length ≤ n) (h : Rd b s m1 m2 l o (ptUp ct) w) (hE : Env b m1 m2 w) (ht : Sp.tok l = Sp.wIf) (hcd : ∀ c l1, Sp.pCond A o (Sp.next l) = .ok (c, l1) → l1.length < l.length) :
  Calls Tryz.prog 166 #[.pointer (some ⟨b, 0, none⟩), .int .i64 ct.1] w (StPost Rt b s m1 m2 o ct w (Sp.pIf A blk o l)) := by
 have hlt := h.lt
 cases hr : Sp.pCond A o (Sp.next l) with
 | error er =>
  have hfin : Hid (Sp.pIf A blk o l = .error er) := by unfold Hid Sp.pIf; rw [hr]
  go_enter Tryz.func166, Tryz.ntmps166
  go_wp2_with fail
  refine (take_ok h [105, 102] ht).mono ?_
  rintro e w1 ⟨rfl, h1, x1⟩
  go_wp2_with fail
  refine (cond_calls Rp b s m1 m2 o ho _ (ptUp ct) w1 h1 (hE.ext x1)).mono ?_
  intro e w2 hp
  rw [hr] at hp
  obtain ⟨N, rfl, hf⟩ := hp
  exact ⟨rfl, bad_postG hfin.out (Faulty.ahead x1 ⟨N, rfl, hf⟩)⟩
 | ok cl =>
  obtain ⟨⟨k, x, y⟩, l1⟩ := cl
  have hl1 := hcd _ _ hr
  clear hcd
  go_enter Tryz.func166, Tryz.ntmps166
  go_wp2_with fail
  refine (take_ok h [105, 102] ht).mono ?_
  rintro e w1 ⟨rfl, h1, x1⟩
  go_wp2_with fail
  refine (cond_calls Rp b s m1 m2 o ho _ (ptUp ct) w1 h1 (hE.ext x1)).mono ?_
  intro e w2 hp
  rw [hr] at hp
  obtain ⟨v, rfl, ct2, ⟨tl, ul, tr, ur, ct1, rfl, hk, hl', hrr⟩, h2, x2⟩ := hp
  have HL : Hid (Rp.S (ptUp ct) (.iface tl ul) x ct1) := hl'
  have HRR : Hid (Rp.S ct1 (.iface tr ur) y ct2) := hrr
  have hk6 : k < 6 := hk
  have H2 : Hid (Rd b s m1 m2 l1 o ct2 (w2.alloc (.cells #[.int .i64 ct.1, .int .i64 (k : Nat), .iface tl ul, .iface tr ur, .slice none 0 0, .slice none 0 0, .bool false] 290))) := h2.ext _
  have HX : Hid (Ext b w (w2.alloc (.cells #[.int .i64 ct.1, .int .i64 (k : Nat), .iface tl ul, .iface tr ur, .slice none 0 0, .slice none 0 0, .bool false] 290))) := (x1.trans x2).alloc _
  have H2lt := h2.lt
  have hw2 : w.heap.size ≤ w2.heap.size := by have := x1.size; have := x2.size; omega
  have HR : Hid (Sp.pCond A o (Sp.next l) = .ok ((k, x, y), l1)) := hr
  clear hl' hrr hk hr
  go_wp2_with fail
  have hc := hblk l1 ct2 _ (by omega) H2.out (hE.ext HX.out)
  cases hb : blk l1 with
  | error er =>
   have hfin : Hid (Sp.pIf A blk o l = .error er) := by unfold Hid Sp.pIf; rw [HR.out]; simp only; rw [hb]
   rw [hb] at hc
   refine hc.mono ?_
   rintro e w3 ⟨N, rfl, hf⟩
   exact ⟨rfl, bad_postG hfin.out (Faulty.ahead HX.out ⟨N, rfl, hf⟩)⟩
  | ok bl =>
   obtain ⟨xs, l2⟩ := bl
   rw [hb] at hc
   refine hc.mono ?_
   rintro e w3 ⟨vb, rfl, ct3, hvb, h3, x3⟩
   obtain ⟨a3, n3, c3, rfl⟩ := blk_slice hvb
   have hnb : w3.heap[w2.heap.size]? = some (.cells (ifCells ct.1 k (.iface tl ul) (.iface tr ur) (.slice none 0 0) (.slice none 0 0) false) 290) := new_block x3 H2lt
   have k3 := cell_of hnb 4 (v := .slice none 0 0) rfl
   have f3 := frozen_of hnb 4
   have hnb4 := if_set3 hnb (.slice a3 n3 c3)
   have H4 : Hid (Rd b s m1 m2 l2 o ct3 (w3.setCell ⟨w2.heap.size, 4, none⟩ (.slice a3 n3 c3))) := h3.set_other (p := ⟨w2.heap.size, 4, none⟩) (by show w2.heap.size ≠ b; omega) (nn_of hnb (by decide)) _
   have X4 : Hid (Ext b w (w3.setCell ⟨w2.heap.size, 4, none⟩ (.slice a3 n3 c3))) := (HX.out.trans x3).setCell (p := ⟨w2.heap.size, 4, none⟩) (.inr hw2) _
   have HB4 : Hid (Blk Rt.T ct2 (w2.heap.size + 1) w3.heap.size (w3.setCell ⟨w2.heap.size, 4, none⟩ (.slice a3 n3 c3)) (.slice a3 n3 c3) xs ct3) := Blk.mono Rt hvb (by simp) (Nat.le_refl _) ((SameOn.refl _ _ _).setCell (p := ⟨w2.heap.size, 4, none⟩) (.inl (by show w2.heap.size < (w2.alloc _).heap.size; simp)) _)
   have hw34 : w2.heap.size < w3.heap.size := heap_lt hnb
   have hdb := hbd _ _ _ hb
   have HBE : Hid (blk l1 = .ok (xs, l2)) := hb
   have cc3 : (w3.setCell ⟨w2.heap.size, 4, none⟩ (.slice a3 n3 c3)).cell? ⟨b, 3, none⟩ = some (.string ⟨(Sp.tok l2).toArray⟩) := H4.out.c3
   clear hvb hb hc x3 h3 hnb
   by_cases hel : Sp.tok l2 = Sp.wElse
   ·have cc3' : (w3.setCell ⟨w2.heap.size, 4, none⟩ (.slice a3 n3 c3)).cell? ⟨b, 3, none⟩ = some (.string ⟨#[101, 108, 115, 101]⟩) := by rw [cc3, hel]; rfl
    clear cc3
    have HEL : Hid (Sp.tok l2 = [101, 108, 115, 101]) := hel
    go_wp2_with fail
    clear k3 f3 cc3'
    have hs34 : w3.heap.size = (w3.setCell ⟨w2.heap.size, 4, none⟩ (.slice a3 n3 c3)).heap.size := by simp [World.setCell]
    rw [hs34] at HB4 hw34
    clear hs34
    generalize w3.setCell ⟨w2.heap.size, 4, none⟩ (.slice a3 n3 c3) = w4 at *
    refine (take_ok H4.out [101, 108, 115, 101] HEL.out).mono ?_
    rintro e w5 ⟨rfl, h5, x5⟩
    have hnb5 : w5.heap[w2.heap.size]? = some (.cells (ifCells ct.1 k (.iface tl ul) (.iface tr ur) (.slice a3 n3 c3) (.slice none 0 0) false) 290) := by
     exact x5.keep hnb4 (by omega) (not_num (by decide))
    have k5 := cell_of hnb5 6 (v := .bool false) rfl
    have f5 := frozen_of hnb5 6
    have hnb6 := if_set5 hnb5 true
    have H6 : Hid (Rd b s m1 m2 (Sp.next l2) o ct3 (w5.setCell ⟨w2.heap.size, 6, none⟩ (.bool true))) := h5.set_other (p := ⟨w2.heap.size, 6, none⟩) (by show w2.heap.size ≠ b; omega) (nn_of hnb5 (by decide)) _
    have X6 : Hid (Ext b w (w5.setCell ⟨w2.heap.size, 6, none⟩ (.bool true))) := (X4.out.trans x5).setCell (p := ⟨w2.heap.size, 6, none⟩) (.inr hw2) _
    have HB6 : Hid (Blk Rt.T ct2 (w2.heap.size + 1) w4.heap.size (w5.setCell ⟨w2.heap.size, 6, none⟩ (.bool true)) (.slice a3 n3 c3) xs ct3) := Blk.mono Rt HB4.out (Nat.le_refl _) (Nat.le_refl _) ((x5.sameOn (lo := w2.heap.size + 1) (Nat.le_refl _) (.inl (by omega))).setCell (p := ⟨w2.heap.size, 6, none⟩) (.inl (Nat.lt_succ_self _)) _)
    have hs56 : w4.heap.size ≤ (w5.setCell ⟨w2.heap.size, 6, none⟩ (.bool true)).heap.size := by have := x5.size; simp [World.setCell]; omega
    have hnl := Sp.next_lt_of_tok HEL.out (by simp)
    clear hnb5 h5 x5 HB4 H4 X4 hnb4
    go_wp2_with fail
    clear k5 f5
    generalize w5.setCell ⟨w2.heap.size, 6, none⟩ (.bool true) = w6 at *
    have hc := hblk (Sp.next l2) ct3 w6 (by omega) H6.out (hE.ext X6.out)
    cases hb : blk (Sp.next l2) with
    | error er =>
     have hfin : Hid (Sp.pIf A blk o l = .error er) := by unfold Hid Sp.pIf; rw [HR.out]; simp only; rw [HBE.out]; simp only; rw [if_pos hel, hb]
     rw [hb] at hc
     refine hc.mono ?_
     rintro e w7 ⟨N, rfl, hf⟩
     exact ⟨rfl, bad_postG hfin.out (Faulty.ahead X6.out ⟨N, rfl, hf⟩)⟩
    | ok cl =>
     obtain ⟨ys, l3⟩ := cl
     have hfin : Hid (Sp.pIf A blk o l = .ok (A.ite k x y xs (some ys), l3)) := by unfold Hid Sp.pIf; rw [HR.out]; simp only; rw [HBE.out]; simp only; rw [if_pos hel, hb]
     rw [hb] at hc
     refine hc.mono ?_
     rintro e w7 ⟨vc, rfl, ct4, hvc, h7, x7⟩
     obtain ⟨a7, n7, c7, rfl⟩ := blk_slice hvc
     have hlt6 := heap_lt hnb6
     have hnb7 : w7.heap[w2.heap.size]? = some (.cells (ifCells ct.1 k (.iface tl ul) (.iface tr ur) (.slice a3 n3 c3) (.slice none 0 0) true) 290) := by
      exact x7.keep hnb6 (by omega) (not_num (by decide))
     have k7 := cell_of hnb7 5 (v := .slice none 0 0) rfl
     have f7 := frozen_of hnb7 5
     have hnb8 := if_set4 hnb7 (.slice a7 n7 c7)
     have q0 := cell_of hnb8 0 (v := .int .i64 ct.1) rfl
     have q1 := cell_of hnb8 1 (v := .int .i64 (k : Nat)) rfl
     have q2 := cell_of hnb8 2 (v := .iface tl ul) rfl
     have q3 := cell_of hnb8 3 (v := .iface tr ur) rfl
     have q4 := cell_of hnb8 4 (v := .slice a3 n3 c3) rfl
     have q5 := cell_of hnb8 5 (v := .slice a7 n7 c7) rfl
     have q6 := cell_of hnb8 6 (v := .bool true) rfl
     have H8 : Hid (Rd b s m1 m2 l3 o ct4 (w7.setCell ⟨w2.heap.size, 5, none⟩ (.slice a7 n7 c7))) := h7.set_other (p := ⟨w2.heap.size, 5, none⟩) (by show w2.heap.size ≠ b; omega) (nn_of hnb7 (by decide)) _
     have X8 : Hid (Ext b w (w7.setCell ⟨w2.heap.size, 5, none⟩ (.slice a7 n7 c7))) := (X6.out.trans x7).setCell (p := ⟨w2.heap.size, 5, none⟩) (.inr hw2) _
     have hsz8 : w7.heap.size ≤ (w7.setCell ⟨w2.heap.size, 5, none⟩ (.slice a7 n7 c7)).heap.size := by simp [World.setCell]
     have HB8 : Hid (Blk Rt.T ct2 w.heap.size (w7.setCell ⟨w2.heap.size, 5, none⟩ (.slice a7 n7 c7)).heap.size (w7.setCell ⟨w2.heap.size, 5, none⟩ (.slice a7 n7 c7)) (.slice a3 n3 c3) xs ct3) :=
      Blk.mono Rt HB6.out (by omega) (by have := x7.size; omega) ((x7.sameOn (lo := w2.heap.size + 1) hs56 (.inl (by omega))).setCell (p := ⟨w2.heap.size, 5, none⟩) (.inl (Nat.lt_succ_self _)) _)
     have HC8 : Hid (Blk Rt.T ct3 w.heap.size (w7.setCell ⟨w2.heap.size, 5, none⟩ (.slice a7 n7 c7)).heap.size (w7.setCell ⟨w2.heap.size, 5, none⟩ (.slice a7 n7 c7)) (.slice a7 n7 c7) ys ct4) :=
      Blk.mono Rt hvc (by omega) hsz8 ((SameOn.refl _ _ _).setCell (p := ⟨w2.heap.size, 5, none⟩) (.inl (by show w2.heap.size < w6.heap.size; omega)) _)
     clear hvc hb hc hnb8 hnb7 h7 x7 HB6
     go_wp2_with fail
     go_ret
     exact good_postG hfin.out (Rt.iteElse ct _ _ _ k _ _ ct1 _ _ ct2 _ _ ct3 _ _ ct4 hk6 HL.out HRR.out HB8.out HC8.out) H8.out X8.out
   ·have hfin : Hid (Sp.pIf A blk o l = .ok (A.ite k x y xs none, l2)) := by unfold Hid Sp.pIf; rw [HR.out]; simp only; rw [HBE.out]; simp only; rw [if_neg hel]
    have hne : (Sp.tok l2 == [101, 108, 115, 101]) = false := tok_ne_beq hel
    have q0 := cell_of hnb4 0 (v := .int .i64 ct.1) rfl
    have q1 := cell_of hnb4 1 (v := .int .i64 (k : Nat)) rfl
    have q2 := cell_of hnb4 2 (v := .iface tl ul) rfl
    have q3 := cell_of hnb4 3 (v := .iface tr ur) rfl
    have q4 := cell_of hnb4 4 (v := .slice a3 n3 c3) rfl
    have q5 := cell_of hnb4 5 (v := .slice none 0 0) rfl
    have q6 := cell_of hnb4 6 (v := .bool false) rfl
    have HB8 : Hid (Blk Rt.T ct2 w.heap.size (w3.setCell ⟨w2.heap.size, 4, none⟩ (.slice a3 n3 c3)).heap.size (w3.setCell ⟨w2.heap.size, 4, none⟩ (.slice a3 n3 c3)) (.slice a3 n3 c3) xs ct3) :=
     Blk.mono Rt HB4.out (by omega) (by simp [World.setCell]) (SameOn.refl _ _ _)
    clear hnb4 HB4 hel
    go_wp2_with fail
    go_ret
    exact good_postG hfin.out (Rt.ite ct _ _ _ k _ _ ct1 _ _ ct2 _ _ ct3 hk6 HL.out HRR.out HB8.out) H4.out X4.out
end Go.Proofs.YtiopfihjmkfdmaaGreatDoor
namespace Go.Proofs.YtiopfihjmkfdmaaGreatDoor
namespace Sp
theorem pS_lt {A : Alg} {o : Nat} {l : Bs} {x : A.S} {l1 : Bs} (h : pS A o l = .ok (x, l1)) : l1.length < l.length :=
 pSum_lt (pUnary_lt _ _) l x l1 h
theorem pCond_lt {A : Alg} {o : Nat} {l : Bs} {c : Nat × A.S × A.S} {l1 : Bs} (h : pCond A o l = .ok (c, l1)) : l1.length < l.length := by
 unfold pCond at h
 split at h
 ·rename_i x l2 hr
  have h1 := pS_lt hr
  split at h
  ·split at h
   ·rename_i y l3 hr2
    have h2 := pS_lt hr2
    have h3 := next_le l2
    cases h; omega
   ·cases h
  ·cases h
 ·cases h
theorem pName_lt {l l1 : Bs} {k : Nat} (h : pName l = .ok (k, l1)) : l1.length < l.length := by
 obtain ⟨hk, rfl⟩ := pName_ok_iff h
 exact next_lt (tokLen_pos (.inl (nameVal_kind hk)))
theorem take_le {t l l1 : Bs} (h : take t l = .ok l1) : l1.length ≤ l.length := by
 obtain ⟨_, rfl⟩ := take_ok_iff h; exact next_le l
theorem pMany_le {A : Alg} {st : Bs → R A.T} (hs : ∀ l x l1, st l = .ok (x, l1) → l1.length < l.length) : ∀ (m : Nat) (xs : List A.T) (l : Bs) (ys : List A.T) (l1 : Bs), pMany A st m xs l = .ok (ys, l1) → l1.length ≤ l.length
 | 0, xs, l, ys, l1, h => by unfold pMany at h; cases h; exact Nat.le_refl _
 | m + 1, xs, l, ys, l1, h => by
  unfold pMany at h
  split at h
  ·split at h
   ·rename_i x l2 hr
    have := hs _ _ _ hr
    have := pMany_le hs m _ _ _ _ h
    omega
   ·cases h
  ·cases h; exact Nat.le_refl _
theorem pBlock_lt {A : Alg} {st : Bs → R A.T} (hs : ∀ l x l1, st l = .ok (x, l1) → l1.length < l.length) {o : Nat} {l : Bs} {xs : List A.T} {l1 : Bs} (h : pBlock A st o l = .ok (xs, l1)) : l1.length < l.length := by
 unfold pBlock at h
 split at h
 ·rename_i l2 hr
  obtain ⟨ht, _, rfl⟩ := enter_ok_iff hr
  have := next_lt_of_tok ht (by simp)
  split at h
  ·rename_i ys l3 hr2
   have := pMany_le hs _ _ _ _ _ hr2
   split at h
   ·rename_i l4 hr3
    have := take_le hr3
    cases h; omega
   ·cases h
  ·cases h
 ·cases h
theorem pStmt_lt {A : Alg} : ∀ (n o : Nat) (l : Bs) (x : A.T) (l1 : Bs), pStmt A n o l = .ok (x, l1) → l1.length < l.length
 | 0, o, l, x, l1, h => by unfold pStmt bad at h; cases h
 | n + 1, o, l, x, l1, h => by
  have hb : ∀ l xs l1, pBlock A (pStmt A n (o + 1)) o l = .ok (xs, l1) → l1.length < l.length := fun l xs l1 h => pBlock_lt (pStmt_lt n (o + 1)) h
  have hn := next_le l
  unfold pStmt at h
  split at h
  ·unfold pRead at h
   split at h
   ·rename_i k l2 hr
    have := pName_lt hr
    split at h
    ·rename_i l3 hr2
     have := take_le hr2
     cases h; omega
    ·cases h
   ·cases h
  ·split at h
   ·unfold pAssert at h
    split at h
    ·rename_i k x y l2 hr
     have := pCond_lt hr
     split at h
     ·rename_i l3 hr2
      have := take_le hr2
      cases h; omega
     ·cases h
    ·cases h
   ·split at h
    ·unfold pIf at h
     split at h
     ·rename_i k x y l2 hr
      have := pCond_lt hr
      split at h
      ·rename_i xs l3 hr2
       have := hb _ _ _ hr2
       split at h
       ·split at h
        ·rename_i ys l4 hr3
         have := hb _ _ _ hr3
         have := next_le l3
         cases h; omega
        ·cases h
       ·cases h; omega
      ·cases h
     ·cases h
    ·split at h
     ·unfold pWhile at h
      split at h
      ·rename_i k x y l2 hr
       have := pCond_lt hr
       split at h
       ·rename_i xs l3 hr2
        have := hb _ _ _ hr2
        cases h; omega
       ·cases h
      ·cases h
     ·unfold pAssign at h
      split at h
      ·rename_i k l2 hr
       have := pName_lt hr
       split at h
       ·rename_i l3 hr2
        have := take_le hr2
        split at h
        ·rename_i x l4 hr3
         have := pS_lt hr3
         split at h
         ·rename_i l5 hr4
          have := take_le hr4
          cases h; omega
         ·cases h
        ·cases h
       ·cases h
      ·cases h
end Sp
end Go.Proofs.YtiopfihjmkfdmaaGreatDoor
