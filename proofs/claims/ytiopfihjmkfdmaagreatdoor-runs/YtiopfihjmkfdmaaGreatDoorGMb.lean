/- THE DOCUMENT'S ANSWER: worth, two sides by a sign. -/
import Derived.Test.YtiopfihjmkfdmaaGreatDoorGMa
namespace Go.Proofs.YtiopfihjmkfdmaaGreatDoor
open Go.RowKit
open Sp (Sm Bl Ct Tr Rst)
set_option maxRecDepth 100000
set_option maxHeartbeats 4000000

theorem fbin_stop {base b pb S f0 g cap : Nat} {ns : List FNode} {a bb k : Nat} {d : FNode} (G : FGround base pb g) (hd : ns[k]? = some d) (hk : d.kind = 4) (ha : d.a = (a : Int)) (hbb : d.b = (bb : Int)) {s0 s1 s2 : Int} {r : Rst} {w : World} (hM : MAt base b pb S f0 s0 r w) (h : FLook pb g cap ns w) (hs2 : s2 ≠ -3)
    (hA : ∀ w', MAt base b pb S f0 s0 r w' → FLook pb g cap ns w' → Calls Tryz.prog 73 #[.pointer (some ⟨b, 0, none⟩), .int .i64 (a : Int)] w' fun e w'' => ∃ n : Int, e = .returned (.int .i64 n) ∧ MK base b S w' w'' ∧ MAt base b pb S f0 s1 r w'')
    (hB : ∀ w', MAt base b pb S f0 s1 r w' → FLook pb g cap ns w' → Calls Tryz.prog 73 #[.pointer (some ⟨b, 0, none⟩), .int .i64 (bb : Int)] w' fun e w'' => ∃ n : Int, e = .returned (.int .i64 n) ∧ MK base b S w' w'' ∧ MAt base b pb S f0 s2 r w'') :
    Calls Tryz.prog 73 #[.pointer (some ⟨b, 0, none⟩), .int .i64 (k : Int)] w fun e w' => ∃ n : Int, e = .returned (.int .i64 n) ∧ MK base b S w w' ∧ MAt base b pb S f0 s2 r w' := by
  obtain ⟨m0, m2, m3, m5, f5⟩ := hM.cells
  have c0 := h.slice
  obtain ⟨hlt, r0, r1, r2, r3, r4, r5, r6, r7, r8, r9⟩ := h.facts hd
  have h1 := h.hcap
  have h2 := h.hmax
  have h3 := h.hn
  rw [hk] at r0
  rw [ha] at r1
  rw [hbb] at r2
  have hltb := hM.ltb
  have hltS := hM.ltS
  have HK : Hid (MK base b S w (w.alloc (.cells #[.int .i64 4, .int .i64 (a : Int), .int .i64 (bb : Int), .int .i64 d.c, .int .i64 d.n, .int .i64 d.next, .string ⟨d.sign.toArray⟩, .int .i64 d.site, .int .i64 d.point, .bool d.els] 176))) := MK.of_below (below_alloc1 _ _) hM.le
  have HA : Hid (∀ w', _) := hA
  have HM : Hid (MAt base b pb S f0 _ r w) := hM
  have HL : Hid (FLook pb g cap ns w) := h
  have HB : Hid (∀ w', MAt base b pb S f0 s1 r w' → FLook pb g cap ns w' → Calls Tryz.prog 73 #[.pointer (some ⟨b, 0, none⟩), .int .i64 (bb : Int)] w' fun e w'' => ∃ n : Int, e = .returned (.int .i64 n) ∧ MK base b S w' w'' ∧ MAt base b pb S f0 s2 r w'') := hB
  have hz : (s2 == -3) = false := by simpa using hs2
  clear h hd hk ha hbb hM hA hB
  go_enter Tryz.func73, Tryz.ntmps73
  go_wp2_with fail
  refine (HA.out _ (HM.out.after (below_alloc1 _ _)) (HL.out.after (below_alloc1 _ _))).mono ?_
  rintro e w2 ⟨n, rfl, k2, q2⟩
  obtain ⟨b0, b1, b2, b3, b4, b5, b6, b7, b8, b9⟩ := k2.box hltb hltS
  have K2 : Hid (MK base b S _ w2) := k2
  have Q2 : Hid (MAt base b pb S f0 s1 r w2) := q2
  clear k2 q2
  go_wp2_with fail
  refine (HB.out _ Q2.out (HL.out.below G.p G.g (HK.out.trans K2.out).below)).mono ?_
  rintro e w3 ⟨m, rfl, k3, q3⟩
  obtain ⟨_, _, _, m5', _⟩ := q3.cells
  have K3 : Hid (MK base b S w w3) := HK.out.trans (K2.out.trans k3)
  have Q3 : Hid (MAt base b pb S f0 s2 r w3) := q3
  clear k3 q3 K2 Q2 b0 b1 b2 b3 b4 b5 b6 b7 b8 b9
  go_wp2_with fail
  go_ret
  exact ⟨_, rfl, K3.out, Q3.out⟩

theorem in16_tmod {x : Int} (y : Int) (hx : In16 x) : In16 (x.tmod y) := by
  obtain ⟨h1, h2⟩ := hx
  unfold In16
  by_cases h : 0 ≤ x
  · have a1 := Int.tmod_nonneg y h
    have a2 : (x.tmod y).natAbs ≤ x.natAbs := by rw [Int.natAbs_tmod]; exact Nat.mod_le _ _
    omega
  · have a1 := Int.tmod_nonneg y (show 0 ≤ -x by omega)
    rw [Int.neg_tmod] at a1
    have a2 : (x.tmod y).natAbs ≤ x.natAbs := by rw [Int.natAbs_tmod]; exact Nat.mod_le _ _
    omega

theorem mul_bound {x y : Int} (hx : In16 x) (hy : In16 y) : -1073741824 ≤ x * y ∧ x * y ≤ 1073741824 := by
  have a : (x * y).natAbs ≤ 32768 * 32768 := by
    rw [Int.natAbs_mul]
    exact Nat.mul_le_mul (by unfold In16 at hx; omega) (by unfold In16 at hy; omega)
  omega

def BinPost (base b pb S f0 : Nat) (r : Rst) (site n : Int) (w' : World) : Option Int → Prop
  | some z => n = z ∧ In16 z ∧ MAt base b pb S f0 (-3) r w'
  | none => MAt base b pb S f0 site r w'

theorem fbin_ok {base b pb S f0 g cap : Nat} {ns : List FNode} {a bb k op : Nat} {d : FNode} (G : FGround base pb g) (hd : ns[k]? = some d) (hk : d.kind = 4) (ha : d.a = (a : Int)) (hbb : d.b = (bb : Int)) (hs : d.sign = Sp.opSign op) (hop : op < 5) {r : Rst} {w : World} (hM : MAt base b pb S f0 (-3) r w) (h : FLook pb g cap ns w) {v1 v2 : Int} (i1 : In16 v1) (i2 : In16 v2)
    (hA : ∀ w', MAt base b pb S f0 (-3) r w' → FLook pb g cap ns w' → Calls Tryz.prog 73 #[.pointer (some ⟨b, 0, none⟩), .int .i64 (a : Int)] w' fun e w'' => e = .returned (.int .i64 v1) ∧ MK base b S w' w'' ∧ MAt base b pb S f0 (-3) r w'')
    (hB : ∀ w', MAt base b pb S f0 (-3) r w' → FLook pb g cap ns w' → Calls Tryz.prog 73 #[.pointer (some ⟨b, 0, none⟩), .int .i64 (bb : Int)] w' fun e w'' => e = .returned (.int .i64 v2) ∧ MK base b S w' w'' ∧ MAt base b pb S f0 (-3) r w'') :
    Calls Tryz.prog 73 #[.pointer (some ⟨b, 0, none⟩), .int .i64 (k : Int)] w fun e w' => ∃ n : Int, e = .returned (.int .i64 n) ∧ MK base b S w w' ∧
      BinPost base b pb S f0 r d.site n w' (Sp.work op v1 v2) := by
  obtain ⟨m0, m2, m3, m5, f5⟩ := hM.cells
  have c0 := h.slice
  obtain ⟨hlt, r0, r1, r2, r3, r4, r5, r6, r7, r8, r9⟩ := h.facts hd
  have h1 := h.hcap
  have h2 := h.hmax
  have h3 := h.hn
  rw [hk] at r0
  rw [ha] at r1
  rw [hbb] at r2
  rw [hs] at r6
  have hltb := hM.ltb
  have hltS := hM.ltS
  obtain ⟨i1a, i1b⟩ := i1
  obtain ⟨i2a, i2b⟩ := i2
  obtain ⟨hm1, hm2⟩ := mul_bound ⟨i1a, i1b⟩ ⟨i2a, i2b⟩
  have HK : Hid (MK base b S w (w.alloc (.cells #[.int .i64 4, .int .i64 (a : Int), .int .i64 (bb : Int), .int .i64 d.c, .int .i64 d.n, .int .i64 d.next, .string ⟨(Sp.opSign op).toArray⟩, .int .i64 d.site, .int .i64 d.point, .bool d.els] 176))) := MK.of_below (below_alloc1 _ _) hM.le
  have HA : Hid (∀ w', _) := hA
  have HM : Hid (MAt base b pb S f0 _ r w) := hM
  have HL : Hid (FLook pb g cap ns w) := h
  have HB : Hid (∀ w', MAt base b pb S f0 (-3) r w' → FLook pb g cap ns w' → Calls Tryz.prog 73 #[.pointer (some ⟨b, 0, none⟩), .int .i64 (bb : Int)] w' fun e w'' => e = .returned (.int .i64 v2) ∧ MK base b S w' w'' ∧ MAt base b pb S f0 (-3) r w'') := hB
  clear h hd hk ha hbb hM hA hB hs
  have hops : op = 0 ∨ op = 1 ∨ op = 2 ∨ op = 3 ∨ op = 4 := by omega
  rcases hops with rfl | rfl | rfl | rfl | rfl
  all_goals
    simp only [Sp.opSign] at r6 HK
    go_enter Tryz.func73, Tryz.ntmps73
    go_wp2_with fail
    refine (HA.out _ (HM.out.after (below_alloc1 _ _)) (HL.out.after (below_alloc1 _ _))).mono ?_
    rintro e w2 ⟨rfl, k2, q2⟩
    obtain ⟨b0, b1, b2, b3, b4, b5, b6, b7, b8, b9⟩ := k2.box hltb hltS
    have K2 : Hid (MK base b S _ w2) := k2
    have Q2 : Hid (MAt base b pb S f0 (-3) r w2) := q2
    clear k2 q2
    go_wp2_with fail
    refine (HB.out _ Q2.out (HL.out.below G.p G.g (HK.out.trans K2.out).below)).mono ?_
    rintro e w3 ⟨rfl, k3, q3⟩
    obtain ⟨_, _, _, m5', f5'⟩ := q3.cells
    clear b0 b1 b2 b3 b4 b5 b6 b7 b8 b9
    obtain ⟨b0, b1, b2, b3, b4, b5, b6, b7, b8, b9⟩ := (K2.out.trans k3).box hltb hltS
    have K3 : Hid (MK base b S w w3) := HK.out.trans (K2.out.trans k3)
    have Q3 : Hid (MAt base b pb S f0 (-3) r w3) := q3
    clear k3 q3 K2 Q2
  · go_wp2_with fail
    refine (fwrap_calls _ _).mono ?_
    rintro e w4 ⟨rfl, rfl⟩
    go_wp2_with fail
    go_ret
    refine ⟨_, rfl, K3.out, ?_⟩
    rw [show Sp.work 0 v1 v2 = some (Sp.w16 (v1 + v2)) from rfl]
    exact ⟨rfl, in16_w16 _, Q3.out⟩
  · go_wp2_with fail
    refine (fwrap_calls _ _).mono ?_
    rintro e w4 ⟨rfl, rfl⟩
    go_wp2_with fail
    go_ret
    refine ⟨_, rfl, K3.out, ?_⟩
    rw [show Sp.work 1 v1 v2 = some (Sp.w16 (v1 - v2)) from rfl]
    exact ⟨rfl, in16_w16 _, Q3.out⟩
  · go_wp2_with fail
    refine (fwrap_calls _ _).mono ?_
    rintro e w4 ⟨rfl, rfl⟩
    go_wp2_with fail
    go_ret
    refine ⟨_, rfl, K3.out, ?_⟩
    rw [show Sp.work 2 v1 v2 = some (Sp.w16 (v1 * v2)) from rfl]
    exact ⟨rfl, in16_w16 _, Q3.out⟩
  · by_cases hz : v2 = 0
    · subst hz
      go_wp2_with fail
      go_ret
      refine ⟨_, rfl, K3.out.trans (Q3.out.stopped d.site).2, ?_⟩
      rw [show Sp.work 3 v1 0 = none from rfl]
      exact (Q3.out.stopped d.site).1
    · have hz2 : (v2 == 0) = false := by simpa using hz
      have hdb : -32768 ≤ v1.tdiv v2 ∧ v1.tdiv v2 ≤ 32768 := by
        have : (v1.tdiv v2).natAbs ≤ v1.natAbs := by rw [Int.natAbs_tdiv]; exact Nat.div_le_self _ _
        omega
      obtain ⟨hd1, hd2⟩ := hdb
      go_wp2_with fail
      refine (fwrap_calls _ _).mono ?_
      rintro e w4 ⟨rfl, rfl⟩
      go_wp2_with fail
      go_ret
      refine ⟨_, rfl, K3.out, ?_⟩
      rw [show Sp.work 3 v1 v2 = some (Sp.w16 (v1.tdiv v2)) by simp [Sp.work, hz]]
      exact ⟨rfl, in16_w16 _, Q3.out⟩
  · by_cases hz : v2 = 0
    · subst hz
      go_wp2_with fail
      go_ret
      refine ⟨_, rfl, K3.out.trans (Q3.out.stopped d.site).2, ?_⟩
      rw [show Sp.work 4 v1 0 = none from rfl]
      exact (Q3.out.stopped d.site).1
    · have hz2 : (v2 == 0) = false := by simpa using hz
      go_wp2_with fail
      go_ret
      refine ⟨_, rfl, K3.out, ?_⟩
      rw [show Sp.work 4 v1 v2 = some (v1.tmod v2) by simp [Sp.work, hz]]
      exact ⟨rfl, in16_tmod v2 ⟨i1a, i1b⟩, Q3.out⟩

end Go.Proofs.YtiopfihjmkfdmaaGreatDoor

/- THE DOCUMENT'S ANSWER: worth, whole; holds. -/
namespace Go.Proofs.YtiopfihjmkfdmaaGreatDoor
open Go.RowKit
open Sp (Sm Bl Ct Tr Rst)
set_option maxRecDepth 100000
set_option maxHeartbeats 4000000

/-- what a sum comes to fits -/
theorem FSm.in16 {ns : List FNode} {lo : Nat} {st : List Int} (hl : st.length = 8) (hst : ∀ n ∈ st, In16 n) : ∀ {x : Sm} {k : Nat} {ct ct' : Ct} {v : Int}, FSm ns lo x k ct ct' → evS x ct st = .ok v → In16 v
  | .num n, _, _, _, v, ⟨_, _, _, _, hm, _⟩, e => by
    have e' : (Except.ok ((n : Nat) : Int) : Except Int Int) = .ok v := e
    cases e'
    unfold In16; omega
  | .name n, _, _, _, v, ⟨_, _, _, _, hm, _⟩, e => by
    have e' : (Except.ok (st.getD n 0) : Except Int Int) = .ok v := e
    cases e'
    rw [List.getD_eq_getElem?_getD, List.getElem?_eq_getElem (by omega)]
    exact hst _ (List.getElem_mem _)
  | .neg x, _, ct, _, v, ⟨_, _, _, _, _, _, h⟩, e => by
    have e' : Sp.evNeg (evS x ct) st = .ok v := e
    unfold Sp.evNeg at e'
    split at e'
    · cases e'
    · cases e'; exact in16_w16 _
  | .bin op x y, _, ct, _, v, ⟨_, _, _, _, _, _, _, _, _, _, _, _, h1, _, h2⟩, e => by
    rw [evS_bin] at e
    unfold Sp.evBin at e
    split at e
    · cases e
    · rename_i v1 hv1
      split at e
      · cases e
      · split at e
        · rename_i z hw
          cases e
          have i1 := FSm.in16 hl hst h1 hv1
          unfold Sp.work at hw
          split at hw
          · cases hw; exact in16_w16 _
          · split at hw
            · cases hw; exact in16_w16 _
            · split at hw
              · cases hw; exact in16_w16 _
              · split at hw
                · cases hw
                · split at hw
                  · cases hw; exact in16_w16 _
                  · cases hw; exact in16_tmod _ i1
        · cases e

theorem fworth_bin {base b pb S f0 g cap : Nat} {ns : List FNode} {lo a bb k op : Nat} {x y : Sm} {d : FNode} {ct ct' : Ct} (G : FGround base pb g) (hd : ns[k]? = some d) (hk : d.kind = 4) (ha : d.a = (a : Int)) (hbb : d.b = (bb : Int)) (hs : d.sign = Sp.opSign op) (hop : op < 5)
    (hx : FSm ns lo x a ct (ctS x ct)) (hsite : 3 ≤ op → d.site = (ctS x ct).2) (hy : FSm ns lo y bb (if 3 ≤ op then Sp.siteUp (ctS x ct) else ctS x ct) ct') (IHx : FWorths base b pb S f0 g cap ns x a ct) (IHy : FWorths base b pb S f0 g cap ns y bb (if 3 ≤ op then Sp.siteUp (ctS x ct) else ctS x ct)) (hng : NoGo (.bin op x y) ct) : FWorths base b pb S f0 g cap ns (.bin op x y) k ct := by
  constructor
  · intro r w hM h
    rw [evS_bin]
    cases ex : evS x ct r.st with
    | error s =>
      have hs3 : s ≠ -3 := nogo_err hng.1 ex
      have := fbin_stop G hd hk ha hbb hM h hs3 (s1 := s) (fun w' hM' h' => (IHx.go r w' hM' h').mono fun e w'' ⟨n, he, hk', hq⟩ => ⟨n, he, hk', by rw [ex] at hq; exact hq⟩) (fun w' hM' h' => IHy.idle s r w' hs3 hM' h')
      refine this.mono ?_
      rintro e w' ⟨n, he, hk', hq⟩
      refine ⟨n, he, hk', ?_⟩
      unfold Sp.evBin
      rw [ex]
      exact hq
    | ok v1 =>
      cases ey : evS y (if 3 ≤ op then Sp.siteUp (ctS x ct) else ctS x ct) r.st with
      | error s =>
        have hs3 : s ≠ -3 := nogo_err hng.2.2 ey
        have := fbin_stop G hd hk ha hbb hM h hs3 (s1 := -3) (fun w' hM' h' => (IHx.go r w' hM' h').mono fun e w'' ⟨n, he, hk', hq⟩ => ⟨n, he, hk', by rw [ex] at hq; exact hq.2.2⟩) (fun w' hM' h' => (IHy.go r w' hM' h').mono fun e w'' ⟨n, he, hk', hq⟩ => ⟨n, he, hk', by rw [ey] at hq; exact hq⟩)
        refine this.mono ?_
        rintro e w' ⟨n, he, hk', hq⟩
        refine ⟨n, he, hk', ?_⟩
        unfold Sp.evBin
        rw [ex]
        simp only
        rw [ey]
        exact hq
      | ok v2 =>
        have i1 := FSm.in16 hM.len hM.st16 hx ex
        have i2 := FSm.in16 hM.len hM.st16 hy ey
        have := fbin_ok G hd hk ha hbb hs hop hM h i1 i2 (fun w' hM' h' => (IHx.go r w' hM' h').mono fun e w'' ⟨n, he, hk', hq⟩ => by rw [ex] at hq; exact ⟨by rw [he, hq.1], hk', hq.2.2⟩) (fun w' hM' h' => (IHy.go r w' hM' h').mono fun e w'' ⟨n, he, hk', hq⟩ => by rw [ey] at hq; exact ⟨by rw [he, hq.1], hk', hq.2.2⟩)
        refine this.mono ?_
        rintro e w' ⟨n, he, hk', hq⟩
        refine ⟨n, he, hk', ?_⟩
        unfold Sp.evBin
        rw [ex]
        simp only
        rw [ey]
        simp only
        cases hw : Sp.work op v1 v2 with
        | some z => rw [hw] at hq; exact hq
        | none =>
          rw [hw] at hq
          have h3 : 3 ≤ op := by
            rcases Nat.lt_or_ge op 3 with h | h
            · exfalso
              unfold Sp.work at hw
              have : op = 0 ∨ op = 1 ∨ op = 2 := by omega
              rcases this with rfl | rfl | rfl <;> simp at hw
            · exact h
          simp only
          rw [if_pos h3, ← hsite h3]
          exact hq
  · intro s r w hs3 hM h
    exact fbin_stop G hd hk ha hbb hM h hs3 (s1 := s) (fun w' hM' h' => IHx.idle s r w' hs3 hM' h') (fun w' hM' h' => IHy.idle s r w' hs3 hM' h')

/-- what a sum comes to -/
theorem fworth_calls {base b pb S f0 g cap : Nat} {ns : List FNode} {lo : Nat} (G : FGround base pb g) : ∀ {x : Sm} {k : Nat} {ct ct' : Ct}, FSm ns lo x k ct ct' → NoGo x ct → FWorths base b pb S f0 g cap ns x k ct
  | .num _, _, ct, _, ⟨_, h1, h2, h3, h4, _⟩, _ => fworth_num ct h1 h2 h3 h4
  | .name _, _, ct, _, ⟨_, h1, h2, h3, h4, _⟩, _ => fworth_name ct h1 h2 h3 h4
  | .neg _, _, _, _, ⟨_, _, h1, h2, h3, _, h5⟩, hn => fworth_neg h1 h2 h3 (fworth_calls G h5 hn)
  | .bin op x y, _, ct, _, ⟨d, a, bb, ct1, h1, h2, h3, h4, h5, h6, _, _, h9, h10, h11⟩, hn => by
    have e := h9.ct
    subst e
    exact fworth_bin G h1 h2 h3 h4 h5 h6 h9 h10 h11 (fworth_calls G h9 hn.1) (fworth_calls G h11 hn.2.2) hn

/-- what a condition's two sides come to -/
def cdEv (rel : Nat) (x y : Sm) (ct : Ct) : List Int → Except Int Bool := Sp.evCond rel (evS x ct) (evS y (ctS x ct))
def CdOk (x y : Sm) (ct : Ct) : Prop := NoGo x ct ∧ NoGo y (ctS x ct)

def CdPost (base b pb S f0 : Nat) (r : Rst) (q : Bool) (w' : World) : Except Int Bool → Prop
  | .ok t => q = t ∧ MAt base b pb S f0 (-3) r w'
  | .error s => s ≠ -3 ∧ MAt base b pb S f0 s r w'

theorem fholds_calls {base b pb S f0 g cap : Nat} {ns : List FNode} {lo rel k : Nat} {x y : Sm} {ct ct' : Ct} (G : FGround base pb g) (hc : FCd ns lo rel x y k ct ct') (hng : CdOk x y ct) {r : Rst} {w : World} (hM : MAt base b pb S f0 (-3) r w) (h : FLook pb g cap ns w) :
    Calls Tryz.prog 74 #[.pointer (some ⟨b, 0, none⟩), .int .i64 (k : Int)] w fun e w' => ∃ q : Bool, e = .returned (.bool q) ∧ MK base b S w w' ∧ CdPost base b pb S f0 r q w' (cdEv rel x y ct r.st) := by
  obtain ⟨d, a, bb, ct1, hd, ha, hbb, hs, hrel, _, _, hx, hy⟩ := hc
  have e1 := hx.ct
  subst e1
  have WX := fworth_calls (b := b) (S := S) (f0 := f0) (cap := cap) G hx hng.1
  have WY := fworth_calls (b := b) (S := S) (f0 := f0) (cap := cap) G hy hng.2
  -- the two calls
  have hA : ∃ s1 v1, (∀ w', MAt base b pb S f0 (-3) r w' → FLook pb g cap ns w' → Calls Tryz.prog 73 #[.pointer (some ⟨b, 0, none⟩), .int .i64 (a : Int)] w' fun e w'' => ∃ n : Int, e = .returned (.int .i64 n) ∧ MK base b S w' w'' ∧ MAt base b pb S f0 s1 r w'' ∧ (s1 = -3 → n = v1)) ∧ ((s1 = -3 ∧ evS x ct r.st = .ok v1) ∨ (s1 ≠ -3 ∧ evS x ct r.st = .error s1)) := by
    cases ex : evS x ct r.st with
    | error s =>
      have hs3 := nogo_err hng.1 ex
      exact ⟨s, 0, fun w' hM' h' => (WX.go r w' hM' h').mono fun e w'' ⟨n, he, hk', hq⟩ => ⟨n, he, hk', by rw [ex] at hq; exact hq, fun e => absurd e hs3⟩, .inr ⟨hs3, rfl⟩⟩
    | ok v => exact ⟨-3, v, fun w' hM' h' => (WX.go r w' hM' h').mono fun e w'' ⟨n, he, hk', hq⟩ => ⟨n, he, hk', by rw [ex] at hq; exact hq.2.2, fun _ => by rw [ex] at hq; exact hq.1⟩, .inl ⟨rfl, rfl⟩⟩
  obtain ⟨s1, v1, hA, hex⟩ := hA
  have hB : ∃ s2 v2, (∀ w', MAt base b pb S f0 s1 r w' → FLook pb g cap ns w' → Calls Tryz.prog 73 #[.pointer (some ⟨b, 0, none⟩), .int .i64 (bb : Int)] w' fun e w'' => ∃ n : Int, e = .returned (.int .i64 n) ∧ MK base b S w' w'' ∧ MAt base b pb S f0 s2 r w'' ∧ (s2 = -3 → n = v2)) ∧ ((s2 = -3 ∧ s1 = -3 ∧ cdEv rel x y ct r.st = .ok (Sp.holds rel v1 v2)) ∨ (s2 ≠ -3 ∧ cdEv rel x y ct r.st = .error s2)) := by
    rcases hex with ⟨rfl, ex⟩ | ⟨hs1, ex⟩
    · cases ey : evS y (ctS x ct) r.st with
      | error s =>
        have hs3 := nogo_err hng.2 ey
        exact ⟨s, 0, fun w' hM' h' => (WY.go r w' hM' h').mono fun e w'' ⟨n, he, hk', hq⟩ => ⟨n, he, hk', by rw [ey] at hq; exact hq, fun e => absurd e hs3⟩, .inr ⟨hs3, by unfold cdEv Sp.evCond; rw [ex]; simp only; rw [ey]⟩⟩
      | ok v => exact ⟨-3, v, fun w' hM' h' => (WY.go r w' hM' h').mono fun e w'' ⟨n, he, hk', hq⟩ => ⟨n, he, hk', by rw [ey] at hq; exact hq.2.2, fun _ => by rw [ey] at hq; exact hq.1⟩, .inl ⟨rfl, rfl, by unfold cdEv Sp.evCond; rw [ex]; simp only; rw [ey]⟩⟩
    · exact ⟨s1, 0, fun w' hM' h' => (WY.idle s1 r w' hs1 hM' h').mono fun e w'' ⟨n, he, hk', hq⟩ => ⟨n, he, hk', hq, fun e => absurd e hs1⟩, .inr ⟨hs1, by unfold cdEv Sp.evCond; rw [ex]⟩⟩
  obtain ⟨s2, v2, hB, hey⟩ := hB
  clear WX WY hng hex hx hy
  obtain ⟨m0, m2, m3, m5, f5⟩ := hM.cells
  have c0 := h.slice
  obtain ⟨hlt, r0, r1, r2, r3, r4, r5, r6, r7, r8, r9⟩ := h.facts hd
  have h1 := h.hcap
  have h2 := h.hmax
  have h3 := h.hn
  rw [ha] at r1
  rw [hbb] at r2
  rw [hs] at r6
  have hltb := hM.ltb
  have hltS := hM.ltS
  have HK : Hid (MK base b S w (w.alloc (.cells #[.int .i64 d.kind, .int .i64 (a : Int), .int .i64 (bb : Int), .int .i64 d.c, .int .i64 d.n, .int .i64 d.next, .string ⟨(Sp.relSign rel).toArray⟩, .int .i64 d.site, .int .i64 d.point, .bool d.els] 176))) := MK.of_below (below_alloc1 _ _) hM.le
  have HA : Hid (∀ w', _) := hA
  have HB : Hid (∀ w', _) := hB
  have HM : Hid (MAt base b pb S f0 _ r w) := hM
  have HL : Hid (FLook pb g cap ns w) := h
  have HY : Hid (_ ∨ _) := hey
  have HH : Hid (∀ x y w, Calls Tryz.prog 104 #[.int .i64 x, .string ⟨(Sp.relSign rel).toArray⟩, .int .i64 y] w fun e w' => e = .returned (.bool (Sp.holds rel x y)) ∧ w' = w) := fun x y w => fHolds_calls rel hrel x y w
  generalize Sp.relSign rel = sg at *
  clear h hd ha hbb hM hA hB hs hey
  go_enter Tryz.func74, Tryz.ntmps74
  go_wp2_with fail
  refine (HA.out _ (HM.out.after (below_alloc1 _ _)) (HL.out.after (below_alloc1 _ _))).mono ?_
  rintro e w2 ⟨n, rfl, k2, q2, hn2⟩
  obtain ⟨b0, b1, b2, b3, b4, b5, b6, b7, b8, b9⟩ := k2.box hltb hltS
  have K2 : Hid (MK base b S _ w2) := k2
  have Q2 : Hid (MAt base b pb S f0 s1 r w2) := q2
  have N2 : Hid (s1 = -3 → n = v1) := hn2
  clear k2 q2 hn2
  go_wp2_with fail
  refine (HB.out _ Q2.out (HL.out.below G.p G.g (HK.out.trans K2.out).below)).mono ?_
  rintro e w3 ⟨m, rfl, k3, q3, hn3⟩
  clear b0 b1 b2 b3 b4 b5 b6 b7 b8 b9
  obtain ⟨b0, b1, b2, b3, b4, b5, b6, b7, b8, b9⟩ := (K2.out.trans k3).box hltb hltS
  have K3 : Hid (MK base b S w w3) := HK.out.trans (K2.out.trans k3)
  have Q3 : Hid (MAt base b pb S f0 s2 r w3) := q3
  have N3 : Hid (s2 = -3 → m = v2) := hn3
  clear k3 q3 hn3 K2 Q2
  go_wp2_with fail
  refine (HH.out _ _ _).mono ?_
  rintro e w4 ⟨rfl, rfl⟩
  go_wp2_with fail
  go_ret
  refine ⟨_, rfl, K3.out, ?_⟩
  rcases HY.out with ⟨e2, e1, he⟩ | ⟨e2, he⟩
  · rw [he]
    exact ⟨by rw [N2.out e1, N3.out e2], by rw [← e2]; exact Q3.out⟩
  · rw [he]
    exact ⟨e2, Q3.out⟩

end Go.Proofs.YtiopfihjmkfdmaaGreatDoor
