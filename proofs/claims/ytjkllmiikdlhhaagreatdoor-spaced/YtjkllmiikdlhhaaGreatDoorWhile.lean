/- (reader) loop. -/
import Derived.Test.YtjkllmiikdlhhaaGreatDoorAssert
import Derived.Test.YtjkllmiikdlhhaaGreatDoorBlock
import Derived.RegionDies
namespace Go.Proofs.YtjkllmiikdlhhaaGreatDoor
open Go.RowKit
set_option maxRecDepth 100000
set_option maxHeartbeats 400000

theorem Rd.drew {b : Nat} {s : ByteArray} {m1 m2 : Nat} {l : Sp.Bs} {o : Nat} {w : World} (h : Rd b s m1 m2 l o w) : Rd b s m1 m2 l o w.drew := ⟨h.blk, h.suf, h.sz⟩

/-- a value of a slice's kind is one cell -/
theorem blk_slice {τ : Type} {T : Nat → Nat → World → Value → τ → Prop} {lo hi : Nat} {w : World} {v : Value} {xs : List τ} (h : Blk T lo hi w v xs) : ∃ a n c, v = .slice a n c := by
  obtain ⟨vs, h1, _⟩ := h
  rcases h1.2 with ⟨rfl, _⟩ | ⟨g, cap, cur, rfl, _⟩
  · exact ⟨none, 0, 0, rfl⟩
  · exact ⟨_, _, _, rfl⟩

set_option maxHeartbeats 2000000 in
theorem loop_calls {A : Sp.Alg} {Rp : Rep A} (Rt : RepT A Rp) (b : Nat) (s : ByteArray) (m1 m2 o n : Nat) (ho : o ≤ 12) (blk : Sp.Bs → Sp.R (List A.T)) (hblk : BlkReads Rt b s m1 m2 o n blk)
    (l : Sp.Bs) (w : World) (hl : l.length ≤ n) (h : Rd b s m1 m2 l o w) (hE : Env b m1 m2 w) (ht : Sp.tok l = Sp.wWhile) (hcd : ∀ c l1, Sp.pCond A o (Sp.next l) = .ok (c, l1) → l1.length < l.length) :
    Calls Tryz.prog 73 #[.pointer (some ⟨b, 0, none⟩)] w (StPost Rt b s m1 m2 o w (Sp.pWhile A blk o l)) := by
  have hlt := h.lt
  cases hr : Sp.pCond A o (Sp.next l) with
  | error er =>
    have hfin : Hid (Sp.pWhile A blk o l = .error er) := by unfold Hid Sp.pWhile; rw [hr]
    go_enter Tryz.func73, Tryz.ntmps73
    go_wp2_with fail
    refine (take_ok h [119, 104, 105, 108, 101] ht).mono ?_
    rintro e w1 ⟨rfl, h1, x1⟩
    go_wp2_with fail
    refine (cond_calls Rp b s m1 m2 o ho _ w1 h1 (hE.ext x1)).mono ?_
    intro e w2 hp
    rw [hr] at hp
    obtain ⟨N, rfl, hf⟩ := hp
    exact ⟨rfl, bad_postG hfin.out (Faulty.ahead x1 ⟨N, rfl, hf⟩)⟩
  | ok cl =>
    obtain ⟨⟨k, x, y⟩, l1⟩ := cl
    have hl1 := hcd _ _ hr
    cases hb : blk l1 with
    | error er =>
      have hfin : Hid (Sp.pWhile A blk o l = .error er) := by unfold Hid Sp.pWhile; rw [hr]; simp only; rw [hb]
      go_enter Tryz.func73, Tryz.ntmps73
      go_wp2_with fail
      refine (take_ok h [119, 104, 105, 108, 101] ht).mono ?_
      rintro e w1 ⟨rfl, h1, x1⟩
      go_wp2_with fail
      refine (cond_calls Rp b s m1 m2 o ho _ w1 h1 (hE.ext x1)).mono ?_
      intro e w2 hp
      rw [hr] at hp
      obtain ⟨v, rfl, ⟨tl, ul, tr, ur, rfl, hk, hl', hrr⟩, h2, x2⟩ := hp
      have H2 : Hid (Rd b s m1 m2 l1 o (w2.alloc (.cells #[.int .i64 (k : Nat), .iface tl ul, .iface tr ur] 141)).drew) := (h2.ext _).drew
      have HE : Hid (Env b m1 m2 (w2.alloc (.cells #[.int .i64 (k : Nat), .iface tl ul, .iface tr ur] 141)).drew) := ((hE.ext x1).ext x2).ext ((Ext.refl b w2).alloc _).drew
      have H2lt := h2.lt
      clear hr hl' hrr hk hcd
      go_wp2_with fail
      have hc := hblk l1 _ (by omega) H2.out HE.out
      rw [hb] at hc
      go_region_dies
      all_goals
        refine hc.mono ?_
        rintro e w3 ⟨N, rfl, hf⟩
        exact ⟨rfl, bad_postG hfin.out (Faulty.ahead ((x1.trans x2).alloc _).drew ⟨N, rfl, hf⟩)⟩
    | ok bl =>
      obtain ⟨xs, l2⟩ := bl
      have hfin : Hid (Sp.pWhile A blk o l = .ok (A.loop k x y xs, l2)) := by unfold Hid Sp.pWhile; rw [hr]; simp only; rw [hb]
      go_enter Tryz.func73, Tryz.ntmps73
      go_wp2_with fail
      refine (take_ok h [119, 104, 105, 108, 101] ht).mono ?_
      rintro e w1 ⟨rfl, h1, x1⟩
      go_wp2_with fail
      refine (cond_calls Rp b s m1 m2 o ho _ w1 h1 (hE.ext x1)).mono ?_
      intro e w2 hp
      rw [hr] at hp
      obtain ⟨v, rfl, ⟨tl, ul, tr, ur, rfl, hk, hl', hrr⟩, h2, x2⟩ := hp
      have HL : Hid (Rp.S (.iface tl ul) x) := hl'
      have HRR : Hid (Rp.S (.iface tr ur) y) := hrr
      have hk6 : k < 6 := hk
      have H2 : Hid (Rd b s m1 m2 l1 o (w2.alloc (.cells #[.int .i64 (k : Nat), .iface tl ul, .iface tr ur] 141)).drew) := (h2.ext _).drew
      have HE : Hid (Env b m1 m2 (w2.alloc (.cells #[.int .i64 (k : Nat), .iface tl ul, .iface tr ur] 141)).drew) := ((hE.ext x1).ext x2).ext ((Ext.refl b w2).alloc _).drew
      have H2lt := h2.lt
      clear hr hl' hrr hk hcd
      go_wp2_with fail
      have hc := hblk l1 _ (by omega) H2.out HE.out
      rw [hb] at hc
      go_region_with (go_at_call 87; go_must (refine hc.mono ?_); rintro e w3 ⟨vb, rfl, hvb, h3, x3⟩; obtain ⟨a3, n3, c3, rfl⟩ := blk_slice hvb; have hnb := new_block (ob := .cells #[.int .i64 (k : Nat), .iface tl ul, .iface tr ur] 141) (w := w2) (w' := w3) ⟨x3.os, x3.tape, x3.output, x3.size, x3.block⟩ H2lt; have k0 := cell_of hnb 0 (v := .int .i64 (k : Nat)) rfl; have k1 := cell_of hnb 1 (v := .iface tl ul) rfl; have k2 := cell_of hnb 2 (v := .iface tr ur) rfl)
      all_goals
        have HB : Hid (Blk Rt.T w.heap.size w3.heap.size w3 (.slice a3 n3 c3) xs) := Blk.mono Rt hvb (by have := x1.size; have := x2.size; show w.heap.size ≤ (w2.alloc _).heap.size; simp; omega) (Nat.le_refl _) (SameOn.refl _ _ _)
        have X : Hid (Ext b w w3) := (((x1.trans x2).alloc _).drew).trans x3
        clear hvb x3 hc k0 k1 k2 hnb
        go_wp2_with fail
        go_ret
        exact good_postG hfin.out (Rt.loop _ _ _ k _ _ _ _ _ _ hk6 HL.out HRR.out HB.out) h3 X.out

end Go.Proofs.YtjkllmiikdlhhaaGreatDoor
