/- (reader) assert. -/
import Derived.Test.YtjkllmiikdlhhaaGreatDoorSimple
namespace Go.Proofs.YtjkllmiikdlhhaaGreatDoor
open Go.RowKit
set_option maxRecDepth 100000
set_option maxHeartbeats 400000

theorem assert_calls {A : Sp.Alg} {Rp : Rep A} (Rt : RepT A Rp) (b : Nat) (s : ByteArray) (m1 m2 o : Nat) (ho : o ≤ 12) (l : Sp.Bs) (w : World) (h : Rd b s m1 m2 l o w) (hE : Env b m1 m2 w) (ht : Sp.tok l = Sp.wAssert) :
    Calls Tryz.prog 71 #[.pointer (some ⟨b, 0, none⟩)] w (StPost Rt b s m1 m2 o w (Sp.pAssert A o l)) := by
  have hlt := h.lt
  cases hr : Sp.pCond A o (Sp.next l) with
  | error er =>
    have hfin : Hid (Sp.pAssert A o l = .error er) := by unfold Hid Sp.pAssert; rw [hr]
    go_enter Tryz.func71, Tryz.ntmps71
    go_wp2_with fail
    refine (take_ok h [97, 115, 115, 101, 114, 116] ht).mono ?_
    rintro e w1 ⟨rfl, h1, x1⟩
    go_wp2_with fail
    refine (cond_calls Rp b s m1 m2 o ho _ w1 h1 (hE.ext x1)).mono ?_
    intro e w2 hp
    rw [hr] at hp
    obtain ⟨N, rfl, hf⟩ := hp
    exact ⟨rfl, bad_postG hfin.out (Faulty.ahead x1 ⟨N, rfl, hf⟩)⟩
  | ok cl =>
    obtain ⟨⟨k, x, y⟩, l1⟩ := cl
    by_cases hs : Sp.tok l1 = [59]
    · have hfin : Hid (Sp.pAssert A o l = .ok (A.assert k x y, Sp.next l1)) := by unfold Hid Sp.pAssert; rw [hr]; simp only; rw [take_yes hs]
      go_enter Tryz.func71, Tryz.ntmps71
      go_wp2_with fail
      refine (take_ok h [97, 115, 115, 101, 114, 116] ht).mono ?_
      rintro e w1 ⟨rfl, h1, x1⟩
      go_wp2_with fail
      refine (cond_calls Rp b s m1 m2 o ho _ w1 h1 (hE.ext x1)).mono ?_
      intro e w2 hp
      rw [hr] at hp
      obtain ⟨v, rfl, ⟨tl, ul, tr, ur, rfl, hk, hl, hrr⟩, h2, x2⟩ := hp
      have HL : Hid (Rp.S (.iface tl ul) x) := hl
      have HRR : Hid (Rp.S (.iface tr ur) y) := hrr
      have hk6 : k < 6 := hk
      clear hr hl hrr hk
      have H2 : Hid (Rd b s m1 m2 l1 o (w2.alloc (.cells #[.int .i64 (k : Nat), .iface tl ul, .iface tr ur] 141))) := h2.ext _
      go_wp2_with fail
      refine (take_ok H2.out [59] hs).mono ?_
      rintro e w3 ⟨rfl, h3, x3⟩
      have hnb := new_block x3 h2.lt
      have k0 := cell_of hnb 0 (v := .int .i64 (k : Nat)) rfl
      have k1 := cell_of hnb 1 (v := .iface tl ul) rfl
      have k2 := cell_of hnb 2 (v := .iface tr ur) rfl
      have X : Hid (Ext b w w3) := ((x1.trans x2).alloc _).trans x3
      clear hnb x3
      go_wp2_with fail
      go_ret
      exact good_postG hfin.out (Rt.assert _ _ _ k _ _ _ _ hk6 HL.out HRR.out) h3 X.out
    · have hfin : Hid (Sp.pAssert A o l = .error (2, l1.length)) := by unfold Hid Sp.pAssert; rw [hr]; simp only; rw [take_no hs]
      go_enter Tryz.func71, Tryz.ntmps71
      go_wp2_with fail
      refine (take_ok h [97, 115, 115, 101, 114, 116] ht).mono ?_
      rintro e w1 ⟨rfl, h1, x1⟩
      go_wp2_with fail
      refine (cond_calls Rp b s m1 m2 o ho _ w1 h1 (hE.ext x1)).mono ?_
      intro e w2 hp
      rw [hr] at hp
      obtain ⟨v, rfl, ⟨tl, ul, tr, ur, rfl, hk, hl, hrr⟩, h2, x2⟩ := hp
      clear hr hl hrr hk
      have H2 : Hid (Rd b s m1 m2 l1 o (w2.alloc (.cells #[.int .i64 (k : Nat), .iface tl ul, .iface tr ur] 141))) := h2.ext _
      go_wp2_with fail
      refine (take_bad H2.out [59] hs).mono ?_
      rintro e w3 ⟨N, rfl, hf⟩
      exact ⟨rfl, bad_postG hfin.out (Faulty.ahead ((x1.trans x2).alloc _) ⟨N, rfl, hf⟩)⟩

end Go.Proofs.YtjkllmiikdlhhaaGreatDoor
