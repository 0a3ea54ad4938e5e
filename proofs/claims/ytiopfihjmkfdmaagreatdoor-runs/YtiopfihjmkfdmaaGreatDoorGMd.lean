/- THE DOCUMENT'S ANSWER: does, what one statement comes to; its loop's state. -/
import Derived.Test.YtiopfihjmkfdmaaGreatDoorGMc
namespace Go.Proofs.YtiopfihjmkfdmaaGreatDoor
open Go.RowKit
open Sp (Sm Bl Ct Tr Rst Out)
set_option maxRecDepth 100000
set_option maxHeartbeats 8000000

/-- in the midst of does -/
def DCur (base b pb S f0 : Nat) (ns : List FNode) (lo hi : Nat) (t0 : Bl) (ct0 : Ct) (r0 : Rst) (w : World) (kk : Int) (wr : World) : Prop :=
  MK base b S w wr ∧ ∃ (s : Int) (r : Rst), MAt base b pb S f0 s r wr ∧ ((s = -3 ∧ ∃ t c1 c2, FBl ns lo hi t kk c1 c2 ∧ NGB t c1 ∧ szB t ≤ szB t0 ∧ doB t0 ct0 r0 = doB t c1 r) ∨ (s ≠ -3 ∧ doB t0 ct0 r0 = (r, some s)))

theorem dcur_next {base b pb S f0 : Nat} {ns : List FNode} {lo hi : Nat} {t0 t : Bl} {ct0 c1 c2 c3 : Ct} {r0 r r1 : Rst} {w wr w2 : World} {q : Int} {F : Rst → Out} (hk : MK base b S w wr) (hM : MAt base b pb S f0 (-3) r wr) (hvis : Sp.visit c1.1 r = (r1, none)) (hdo : doB t0 ct0 r0 = Sp.andThen (Sp.andThen (Sp.visit c1.1 r) F) (doB t c3)) (hF : Wanes F)
    (hbl : FBl ns lo hi t q c3 c2) (hng : NGB t c3) (hsz : szB t ≤ szB t0) (hk2 : MK base b S wr w2) (ho : MOut base b pb S f0 w2 (F r1)) : DCur base b pb S f0 ns lo hi t0 ct0 r0 w q w2 ∧ mRest b f0 w2 < mRest b f0 wr := by
  have h1 := visit_less hvis
  have h2 := hF r1
  have h3 := hM.rest
  rw [hvis] at hdo
  rw [if_pos rfl] at h3
  have e : Sp.andThen (r1, none) F = F r1 := rfl
  rw [e] at hdo
  revert ho h2 hdo
  rcases F r1 with ⟨r2, _ | s⟩
  · intro hdo ho h2
    have h4 := (show MAt base b pb S f0 (-3) r2 w2 from ho).rest
    rw [if_pos rfl] at h4
    have h2' : r2.fuel ≤ r1.fuel := h2
    exact ⟨⟨hk.trans hk2, -3, r2, ho, .inl ⟨rfl, t, c3, c2, hbl, hng, hsz, hdo⟩⟩, by omega⟩
  · intro hdo ho h2
    have h4 := ho.2.rest
    rw [if_neg ho.1] at h4
    have h2' : r2.fuel ≤ r1.fuel := h2
    exact ⟨⟨hk.trans hk2, s, r2, ho.2, .inr ⟨ho.1, hdo⟩⟩, by omega⟩

/-- does, of the statements t from node k on -/
def FDoes (base b pb S f0 g cap : Nat) (ns : List FNode) (t : Bl) (k : Int) (ct : Ct) : Prop := ∀ (r : Rst) (w : World), MAt base b pb S f0 (-3) r w → FLook pb g cap ns w →
  Calls Tryz.prog 44 #[.pointer (some ⟨b, 0, none⟩), .int .i64 k] w fun e w' => e = .returned (.tuple #[]) ∧ MK base b S w w' ∧ MOut base b pb S f0 w' (doB t ct r)

/-- where the run has stopped -/
theorem fdoes_idle {base b pb S f0 : Nat} {s : Int} {r : Rst} {w : World} (h : MAt base b pb S f0 s r w) (hs : s ≠ -3) (k : Int) :
    Calls Tryz.prog 44 #[.pointer (some ⟨b, 0, none⟩), .int .i64 k] w fun e w' => e = .returned (.tuple #[]) ∧ w' = w := by
  obtain ⟨_, _, _, m5, _⟩ := h.cells
  have hz : (s == -3) = false := by simpa using hs
  clear h
  go_enter Tryz.func44, Tryz.ntmps44
  go_wp2_with fail
  go_loopw [1] (fun a wr => a = .int .i64 k ∧ wr = w) (fun _ _ => 0)
  case atStart => exact ⟨rfl, rfl⟩
  case round =>
    obtain ⟨rfl, rfl⟩ := hrel
    by_cases hkk : 0 ≤ k
    · go_wp2_with fail
      go_end0
      exact ⟨rfl, rfl⟩
    · go_wp2_with fail
      go_end0
      exact ⟨rfl, rfl⟩

theorem fdoes_step {base b pb S f0 g cap : Nat} {ns : List FNode} {lo hi : Nat} (G : FGround base pb g) {t0 : Bl} {k0 : Int} {ct0 ct1 : Ct} (hbl0 : FBl ns lo hi t0 k0 ct0 ct1) (hng0 : NGB t0 ct0) (IH : ∀ (t : Bl) (k : Int) (c1 c2 : Ct), szB t < szB t0 → FBl ns lo hi t k c1 c2 → NGB t c1 → FDoes base b pb S f0 g cap ns t k c1) : FDoes base b pb S f0 g cap ns t0 k0 ct0 := by
  intro r0 w hM0 hL0
  have HC : Hid (DCur base b pb S f0 ns lo hi t0 ct0 r0 w k0 w) := ⟨MK.refl _ _ _ _, -3, r0, hM0, .inl ⟨rfl, t0, ct0, ct1, hbl0, hng0, Nat.le_refl _, rfl⟩⟩
  have HIH : Hid (∀ (t : Bl) (k : Int) (c1 c2 : Ct), szB t < szB t0 → FBl ns lo hi t k c1 c2 → NGB t c1 → FDoes base b pb S f0 g cap ns t k c1) := IH
  have HL0 : Hid (FLook pb g cap ns w) := hL0
  clear hM0 hbl0 hng0 IH hL0
  go_enter Tryz.func44, Tryz.ntmps44
  go_wp2_with fail
  go_loopw [1] (fun a wr => ∃ kk : Int, a = .int .i64 kk ∧ Hid (DCur base b pb S f0 ns lo hi t0 ct0 r0 w kk wr)) (fun _ wr => mRest b f0 wr)
  case atStart => exact ⟨k0, rfl, HC⟩
  case round =>
    obtain ⟨kk, rfl, hcur⟩ := hrel
    obtain ⟨hk, s, r, hM, hs⟩ := hcur.out
    clear hcur HC
    rcases hs with ⟨rfl, t, c1, c2, hbl, hng, hsz, hdo⟩ | ⟨hs, hdo⟩
    · have hltb := hM.ltb
      have hltS := hM.ltS
      obtain ⟨m0, m2, m3, m5, f5⟩ := hM.cells
      have hlook : FLook pb g cap ns wr := HL0.out.below G.p G.g hk.below
      have c0 := hlook.slice
      have h1 := hlook.hcap
      have h2 := hlook.hmax
      have h3 := hlook.hn
      have HL : Hid (FLook pb g cap ns wr) := hlook
      have HM : Hid (MAt base b pb S f0 (-3) r wr) := hM
      have HK : Hid (MK base b S w wr) := hk
      have HDO : Hid (doB t0 ct0 r0 = doB t c1 r) := hdo
      clear hM hk hlook hdo
      cases t with
      | nil =>
        obtain ⟨rfl, _⟩ := hbl
        go_wp2_with fail
        go_end0
        exact ⟨rfl, HK.out, by rw [HDO.out]; exact HM.out⟩
      | assign v x rest =>
        obtain ⟨j, a, dd, c3, rfl, _, _, hd, hpt, hkd, hn, hv, ha, _, hx, hrest⟩ := hbl
        obtain ⟨hlt, r0', r1', r2', r3', r4', r5', r6', r7', r8', r9'⟩ := HL.out.facts hd
        rw [hkd] at r0'
        rw [hpt] at r8'
        rw [hn] at r4'
        rw [ha] at r1'
        have e3 := hx.ct
        subst e3
        have HX : Hid (FWorths base b pb S f0 g cap ns x a (Sp.ptUp c1)) := fworth_calls G hx hng.1
        have HR : Hid (FBl ns lo hi rest dd.next (ctS x (Sp.ptUp c1)) c2) := hrest
        have HNG : Hid (NGB rest (ctS x (Sp.ptUp c1)) ∧ NoGo x (Sp.ptUp c1)) := ⟨hng.2, hng.1⟩
        have HS : Hid (szB rest ≤ szB t0) := Nat.le_trans (by show szB rest ≤ szB rest + 1; omega) hsz
        clear hd hrest hng hsz hx
        have HV := fun w' h => fvisit_calls (base := base) (b := b) (pb := pb) (S := S) (f0 := f0) (r := r) (w := w') h c1.1
        have HVV : Hid (∀ w', _) := HV
        clear HV
        go_wp2_with fail
        refine (HVV.out _ (HM.out.after (below_alloc1 _ _))).mono ?_
        rintro e w1 ⟨rfl, k1, o1⟩
        obtain ⟨b0, b1, b2, b3, b4, b5, b6, b7, b8, b9⟩ := k1.box hltb hltS
        have KN1 : Hid (MK base b S _ w1) := k1
        have K1 : Hid (MK base b S wr w1) := (MK.of_below (below_alloc1 _ _) HM.out.le).trans k1
        clear k1
        rcases hvis : Sp.visit c1.1 r with ⟨r1, _ | s1⟩
        rotate_left
        · rw [hvis] at o1
          have HF : Hid (MOut base b pb S f0 w1 (doB t0 ct0 r0)) := by
            unfold Hid
            rw [HDO.out, doB_assign, hvis]
            exact o1
          have HK1 : Hid (MK base b S w w1) := HK.out.trans K1.out
          clear o1 hvis
          go_wp2_with fail
          try simp only [Exit.inBlock, Exit.then]
          refine bodyPost_ret (results_none rfl _ _ _) rfl ?_
          exact ⟨rfl, HK1.out, HF.out⟩
        · rw [hvis] at o1
          have HL1 : Hid (FLook pb g cap ns w1) := HL.out.below G.p G.g K1.out.below
          have HVIS : Hid (Sp.visit c1.1 r = (r1, none)) := hvis
          have HM1 : Hid (MAt base b pb S f0 (-3) r1 w1) := o1
          obtain ⟨_, _, m3', m5', f5'⟩ := HM1.out.cells
          have hltb1 := HM1.out.ltb
          have hltS1 := HM1.out.ltS
          clear o1 hvis
          go_wp2_with fail
          refine (HX.out.go r1 w1 HM1.out HL1.out).mono ?_
          rintro e w2 ⟨n, rfl, k2, q2⟩
          clear b0 b1 b2 b3 b4 b5 b6 b7 b8 b9
          obtain ⟨b0, b1, b2, b3, b4, b5, b6, b7, b8, b9⟩ := (KN1.out.trans k2).box hltb hltS
          have K2 : Hid (MK base b S wr w2) := K1.out.trans k2
          clear k2 KN1
          cases hev : evS x (Sp.ptUp c1) r1.st with
          | error s =>
            rw [hev] at q2
            have hs3 : s ≠ -3 := nogo_err HNG.out.2 hev
            obtain ⟨_, _, _, m5'', _⟩ := q2.cells
            have hz : (s == -3) = false := by simpa using hs3
            have HN : Hid (_ ∧ _) := dcur_next HK.out HM.out HVIS.out (HDO.out.trans (doB_assign v x rest c1 r)) (doAssign_wanes _ _) HR.out HNG.out.1 HS.out K2.out (by unfold Sp.doAssign; rw [hev]; exact ⟨hs3, q2⟩)
            clear q2 hev
            go_wp2_with fail
            exact ⟨⟨_, rfl, HN.out.1⟩, HN.out.2⟩
          | ok z =>
            rw [hev] at q2
            obtain ⟨rfl, i16, M2⟩ := q2
            obtain ⟨_, _, m3'', m5'', _⟩ := M2.cells
            obtain ⟨v0, fv, _⟩ := M2.var hv
            have hltb2 := M2.ltb
            have hltS2 := M2.ltS
            have HP := M2.drew.put hv i16
            have HN : Hid (_ ∧ _) := dcur_next HK.out HM.out HVIS.out (HDO.out.trans (doB_assign v x rest c1 r)) (doAssign_wanes _ _) HR.out HNG.out.1 HS.out (K2.out.drew.trans HP.2) (by unfold Sp.doAssign; rw [hev]; exact HP.1)
            clear HP M2 hev i16
            go_wp2_with fail
            go_region_with (fail)
            all_goals
              go_wp2_with fail
              exact ⟨⟨_, rfl, HN.out.1⟩, HN.out.2⟩
      | read v rest =>
        obtain ⟨j, dd, rfl, _, _, hd, hpt, hkd, hn, hv, hrest⟩ := hbl
        obtain ⟨hlt, r0', r1', r2', r3', r4', r5', r6', r7', r8', r9'⟩ := HL.out.facts hd
        rw [hkd] at r0'
        rw [hpt] at r8'
        rw [hn] at r4'
        have HR : Hid (FBl ns lo hi rest dd.next (Sp.ptUp c1) c2) := hrest
        have HNG : Hid (NGB rest (Sp.ptUp c1)) := hng
        have HS : Hid (szB rest ≤ szB t0) := Nat.le_trans (by show szB rest ≤ szB rest + 1; omega) hsz
        clear hd hrest hng hsz
        have HV := fun w' h => fvisit_calls (base := base) (b := b) (pb := pb) (S := S) (f0 := f0) (r := r) (w := w') h c1.1
        have HVV : Hid (∀ w', _) := HV
        clear HV
        go_wp2_with fail
        refine (HVV.out _ (HM.out.after (below_alloc1 _ _))).mono ?_
        rintro e w1 ⟨rfl, k1, o1⟩
        obtain ⟨b0, b1, b2, b3, b4, b5, b6, b7, b8, b9⟩ := k1.box hltb hltS
        have KN1 : Hid (MK base b S _ w1) := k1
        have K1 : Hid (MK base b S wr w1) := (MK.of_below (below_alloc1 _ _) HM.out.le).trans k1
        clear k1
        rcases hvis : Sp.visit c1.1 r with ⟨r1, _ | s1⟩
        rotate_left
        · rw [hvis] at o1
          have HF : Hid (MOut base b pb S f0 w1 (doB t0 ct0 r0)) := by
            unfold Hid
            rw [HDO.out, doB_read, hvis]
            exact o1
          have HK1 : Hid (MK base b S w w1) := HK.out.trans K1.out
          clear o1 hvis
          go_wp2_with fail
          try simp only [Exit.inBlock, Exit.then]
          refine bodyPost_ret (results_none rfl _ _ _) rfl ?_
          exact ⟨rfl, HK1.out, HF.out⟩
        · rw [hvis] at o1
          have HL1 : Hid (FLook pb g cap ns w1) := HL.out.below G.p G.g K1.out.below
          have HVIS : Hid (Sp.visit c1.1 r = (r1, none)) := hvis
          have HM1 : Hid (MAt base b pb S f0 (-3) r1 w1) := o1
          obtain ⟨_, _, m3', m5', f5'⟩ := HM1.out.cells
          have hltb1 := HM1.out.ltb
          have hltS1 := HM1.out.ltS
          clear o1 hvis
          obtain ⟨v0, fv, _⟩ := HM1.out.var hv
          cases hins : r1.ins with
          | nil =>
            obtain ⟨ia, ic, i1⟩ := HM1.out.noIn hins
            have HP := HM1.out.drew.put hv (n := 0) ⟨by decide, by decide⟩
            have HN : Hid (_ ∧ _) := dcur_next HK.out HM.out HVIS.out (HDO.out.trans (doB_read v rest c1 r)) (doRead_wanes _) HR.out HNG.out HS.out (K1.out.drew.trans HP.2) (by unfold Sp.doRead; rw [hins]; exact HP.1)
            clear HP hins
            go_wp2_with fail
            go_region_with (fail)
            all_goals
              go_wp2_with fail
              exact ⟨⟨_, rfl, HN.out.1⟩, HN.out.2⟩
          | cons n l =>
            obtain ⟨ig, off, icap, i1, if1, hig, hicap, i0, i16, HI⟩ := HM1.out.next hins
            have hge := HM1.out.gb
            have hgS := HM1.out.gS
            have hbS := HM1.out.ne
            have HII : Hid (∀ v, _) := HI
            have HINS : Hid (r1.ins = n :: l) := hins
            clear HI hins
            by_cases h1c : icap = 1
            · subst h1c
              have h2 := HII.out (.slice (some ⟨ig, off, none⟩) 0 0) (.inr ⟨rfl, by rw [show l.length = 0 by omega]⟩)
              have HP := h2.1.drew.put hv i16
              have HN : Hid (_ ∧ _) := dcur_next HK.out HM.out HVIS.out (HDO.out.trans (doB_read v rest c1 r)) (doRead_wanes _) HR.out HNG.out HS.out ((K1.out.trans h2.2).drew.trans HP.2) (by unfold Sp.doRead; rw [HINS.out]; exact HP.1)
              clear HP h2
              go_wp2_with fail
              go_region_with (fail)
              all_goals
                go_wp2_with fail
                exact ⟨⟨_, rfl, HN.out.1⟩, HN.out.2⟩
            · have h1d : ¬ icap - 1 = 0 := by omega
              have h2 := HII.out _ (.inl rfl)
              have HP := h2.1.drew.put hv i16
              have HN : Hid (_ ∧ _) := dcur_next HK.out HM.out HVIS.out (HDO.out.trans (doB_read v rest c1 r)) (doRead_wanes _) HR.out HNG.out HS.out ((K1.out.trans h2.2).drew.trans HP.2) (by unfold Sp.doRead; rw [HINS.out]; exact HP.1)
              clear HP h2
              go_wp2_with fail
              go_region_with (fail)
              all_goals
                go_wp2_with fail
                exact ⟨⟨_, rfl, HN.out.1⟩, HN.out.2⟩
      | assert rel x y rest =>
        obtain ⟨j, a, dd, c3, rfl, _, _, hd, hpt, hkd, hst, ha, _, hx, hrest⟩ := hbl
        obtain ⟨hlt, r0', r1', r2', r3', r4', r5', r6', r7', r8', r9'⟩ := HL.out.facts hd
        rw [hkd] at r0'
        rw [hpt] at r8'
        rw [ha] at r1'
        rw [hst] at r7'
        have e3 := hx.ct
        subst e3
        have HX : Hid (∀ r w, MAt base b pb S f0 (-3) r w → FLook pb g cap ns w → Calls Tryz.prog 74 #[.pointer (some ⟨b, 0, none⟩), .int .i64 (a : Int)] w fun e w' => ∃ q : Bool, e = .returned (.bool q) ∧ MK base b S w w' ∧ CdPost base b pb S f0 r q w' (cdEv rel x y (Sp.siteUp (Sp.ptUp c1)) r.st)) := fun r w h1 h2 => fholds_calls G hx hng.2.1 h1 h2
        have HR : Hid (FBl ns lo hi rest dd.next (ctS y (ctS x (Sp.siteUp (Sp.ptUp c1)))) c2) := hrest
        have HNG : Hid (NGB rest (ctS y (ctS x (Sp.siteUp (Sp.ptUp c1)))) ∧ c1.2 ≠ -3) := ⟨hng.2.2, hng.1⟩
        have HS : Hid (szB rest ≤ szB t0) := Nat.le_trans (by show szB rest ≤ szB rest + 1; omega) hsz
        clear hd hrest hng hsz hx
        have HV := fun w' h => fvisit_calls (base := base) (b := b) (pb := pb) (S := S) (f0 := f0) (r := r) (w := w') h c1.1
        have HVV : Hid (∀ w', _) := HV
        clear HV
        go_wp2_with fail
        refine (HVV.out _ (HM.out.after (below_alloc1 _ _))).mono ?_
        rintro e w1 ⟨rfl, k1, o1⟩
        obtain ⟨b0, b1, b2, b3, b4, b5, b6, b7, b8, b9⟩ := k1.box hltb hltS
        have KN1 : Hid (MK base b S _ w1) := k1
        have K1 : Hid (MK base b S wr w1) := (MK.of_below (below_alloc1 _ _) HM.out.le).trans k1
        clear k1
        rcases hvis : Sp.visit c1.1 r with ⟨r1, _ | s1⟩
        rotate_left
        · rw [hvis] at o1
          have HF : Hid (MOut base b pb S f0 w1 (doB t0 ct0 r0)) := by
            unfold Hid
            rw [HDO.out, doB_assert, hvis]
            exact o1
          have HK1 : Hid (MK base b S w w1) := HK.out.trans K1.out
          clear o1 hvis
          go_wp2_with fail
          try simp only [Exit.inBlock, Exit.then]
          refine bodyPost_ret (results_none rfl _ _ _) rfl ?_
          exact ⟨rfl, HK1.out, HF.out⟩
        · rw [hvis] at o1
          have HL1 : Hid (FLook pb g cap ns w1) := HL.out.below G.p G.g K1.out.below
          have HVIS : Hid (Sp.visit c1.1 r = (r1, none)) := hvis
          have HM1 : Hid (MAt base b pb S f0 (-3) r1 w1) := o1
          obtain ⟨_, _, m3', m5', f5'⟩ := HM1.out.cells
          have hltb1 := HM1.out.ltb
          have hltS1 := HM1.out.ltS
          clear o1 hvis
          go_wp2_with fail
          refine (HX.out r1 w1 HM1.out HL1.out).mono ?_
          rintro e w2 ⟨q, rfl, k2, q2⟩
          clear b0 b1 b2 b3 b4 b5 b6 b7 b8 b9
          obtain ⟨b0, b1, b2, b3, b4, b5, b6, b7, b8, b9⟩ := (KN1.out.trans k2).box hltb hltS
          have K2 : Hid (MK base b S wr w2) := K1.out.trans k2
          clear k2 KN1
          rcases hev : cdEv rel x y (Sp.siteUp (Sp.ptUp c1)) r1.st with s | tt
          · rw [hev] at q2
            obtain ⟨hs3, M2⟩ := q2
            obtain ⟨_, _, _, m5'', _⟩ := M2.cells
            have hz : (s == -3) = false := by simpa using hs3
            have HN : Hid (_ ∧ _) := dcur_next HK.out HM.out HVIS.out (HDO.out.trans (doB_assert rel x y rest c1 r)) (doAssert_wanes _ _) HR.out HNG.out.1 HS.out K2.out (by unfold Sp.doAssert; rw [hev]; exact ⟨hs3, M2⟩)
            clear M2 hev
            go_wp2_with fail
            exact ⟨⟨_, rfl, HN.out.1⟩, HN.out.2⟩
          · rw [hev] at q2
            obtain ⟨rfl, M2⟩ := q2
            obtain ⟨_, _, _, m5'', f5''⟩ := M2.cells
            have hltb2 := M2.ltb
            cases q with
            | true =>
              have HN : Hid (_ ∧ _) := dcur_next HK.out HM.out HVIS.out (HDO.out.trans (doB_assert rel x y rest c1 r)) (doAssert_wanes _ _) HR.out HNG.out.1 HS.out K2.out (by unfold Sp.doAssert; rw [hev]; exact M2)
              clear M2 hev
              go_wp2_with fail
              exact ⟨⟨_, rfl, HN.out.1⟩, HN.out.2⟩
            | false =>
              have HP := M2.stopped c1.2
              have HN : Hid (_ ∧ _) := dcur_next HK.out HM.out HVIS.out (HDO.out.trans (doB_assert rel x y rest c1 r)) (doAssert_wanes _ _) HR.out HNG.out.1 HS.out (K2.out.trans HP.2) (by unfold Sp.doAssert; rw [hev]; exact ⟨HNG.out.2, HP.1⟩)
              clear M2 hev HP
              go_wp2_with fail
              exact ⟨⟨_, rfl, HN.out.1⟩, HN.out.2⟩
      | ite rel x y xs els ys rest =>
        obtain ⟨j, a, dd, c3, c4, c5, rfl, _, _, hd, hpt, hkd, hels, ha, _, hx, hxs, hys, hnil, hrest⟩ := hbl
        obtain ⟨hlt, r0', r1', r2', r3', r4', r5', r6', r7', r8', r9'⟩ := HL.out.facts hd
        rw [hkd] at r0'
        rw [hpt] at r8'
        rw [ha] at r1'
        have e3 := hx.ct
        subst e3
        have e4 := hxs.ct
        subst e4
        have HX : Hid (∀ r w, MAt base b pb S f0 (-3) r w → FLook pb g cap ns w → Calls Tryz.prog 74 #[.pointer (some ⟨b, 0, none⟩), .int .i64 (a : Int)] w fun e w' => ∃ q : Bool, e = .returned (.bool q) ∧ MK base b S w w' ∧ CdPost base b pb S f0 r q w' (cdEv rel x y (Sp.ptUp c1) r.st)) := fun r w h1 h2 => fholds_calls G hx hng.1 h1 h2
        have HDX : Hid (FDoes base b pb S f0 g cap ns xs dd.b (ctS y (ctS x (Sp.ptUp c1)))) := HIH.out xs dd.b _ _ (Nat.lt_of_lt_of_le (by show szB xs < szB xs + szB ys + szB rest + 1; omega) hsz) hxs hng.2.1
        have HDY : Hid (FDoes base b pb S f0 g cap ns ys dd.c (ctB xs (ctS y (ctS x (Sp.ptUp c1))))) := HIH.out ys dd.c _ _ (Nat.lt_of_lt_of_le (by show szB ys < szB xs + szB ys + szB rest + 1; omega) hsz) hys hng.2.2.1
        have HIT : Hid (∃ (c6 : Ct) (F : Rst → Out), FBl ns lo hi rest dd.next c6 c2 ∧ NGB rest c6 ∧ Wanes F ∧ (∀ r, doB (.ite rel x y xs els ys rest) c1 r = Sp.andThen (Sp.andThen (Sp.visit c1.1 r) F) (doB rest c6)) ∧ ∀ r, F r = Sp.doIf (cdEv rel x y (Sp.ptUp c1)) (doB xs (ctS y (ctS x (Sp.ptUp c1)))) (doB ys (ctB xs (ctS y (ctS x (Sp.ptUp c1))))) r) := by
          have e5 := hys.ct
          cases els with
          | true =>
            subst e5
            exact ⟨_, _, hrest, by have := hng.2.2.2; rw [if_pos rfl] at this; exact this, doIf_wanes _ (doB_wanes xs _) (doB_wanes ys _), fun r => doB_else rel x y xs ys rest c1 r, fun _ => rfl⟩
          | false =>
            have e6 := hnil rfl
            subst e6
            subst e5
            exact ⟨_, _, hrest, by have := hng.2.2.2; exact this, doIf_wanes _ (doB_wanes xs _) (fun _ => Nat.le_refl _), fun r => doB_if rel x y xs .nil rest c1 r, fun _ => rfl⟩
        obtain ⟨c6, F, HR, HNG, HW, HE, HF0⟩ := HIT.out
        have HR' : Hid (FBl ns lo hi rest dd.next c6 c2 ∧ NGB rest c6 ∧ Wanes F ∧ (∀ r, doB (.ite rel x y xs els ys rest) c1 r = Sp.andThen (Sp.andThen (Sp.visit c1.1 r) F) (doB rest c6)) ∧ ∀ r, F r = Sp.doIf (cdEv rel x y (Sp.ptUp c1)) (doB xs (ctS y (ctS x (Sp.ptUp c1)))) (doB ys (ctB xs (ctS y (ctS x (Sp.ptUp c1))))) r) := ⟨HR, HNG, HW, HE, HF0⟩
        have HS : Hid (szB rest ≤ szB t0) := Nat.le_trans (by show szB rest ≤ szB xs + szB ys + szB rest + 1; omega) hsz
        clear hd hrest hng hsz hx hxs hys hnil HIT HR HNG HW HE HF0
        have HV := fun w' h => fvisit_calls (base := base) (b := b) (pb := pb) (S := S) (f0 := f0) (r := r) (w := w') h c1.1
        have HVV : Hid (∀ w', _) := HV
        clear HV
        go_wp2_with fail
        refine (HVV.out _ (HM.out.after (below_alloc1 _ _))).mono ?_
        rintro e w1 ⟨rfl, k1, o1⟩
        obtain ⟨b0, b1, b2, b3, b4, b5, b6, b7, b8, b9⟩ := k1.box hltb hltS
        have KN1 : Hid (MK base b S _ w1) := k1
        have K1 : Hid (MK base b S wr w1) := (MK.of_below (below_alloc1 _ _) HM.out.le).trans k1
        clear k1
        rcases hvis : Sp.visit c1.1 r with ⟨r1, _ | s1⟩
        rotate_left
        · rw [hvis] at o1
          have HF : Hid (MOut base b pb S f0 w1 (doB t0 ct0 r0)) := by
            unfold Hid
            rw [HDO.out, HR'.out.2.2.2.1, hvis]
            exact o1
          have HK1 : Hid (MK base b S w w1) := HK.out.trans K1.out
          clear o1 hvis
          go_wp2_with fail
          try simp only [Exit.inBlock, Exit.then]
          refine bodyPost_ret (results_none rfl _ _ _) rfl ?_
          exact ⟨rfl, HK1.out, HF.out⟩
        · rw [hvis] at o1
          have HL1 : Hid (FLook pb g cap ns w1) := HL.out.below G.p G.g K1.out.below
          have HVIS : Hid (Sp.visit c1.1 r = (r1, none)) := hvis
          have HM1 : Hid (MAt base b pb S f0 (-3) r1 w1) := o1
          obtain ⟨_, _, m3', m5', f5'⟩ := HM1.out.cells
          have hltb1 := HM1.out.ltb
          have hltS1 := HM1.out.ltS
          clear o1 hvis
          go_wp2_with fail
          refine (HX.out r1 w1 HM1.out HL1.out).mono ?_
          rintro e w2 ⟨q, rfl, k2, q2⟩
          clear b0 b1 b2 b3 b4 b5 b6 b7 b8 b9
          obtain ⟨b0, b1, b2, b3, b4, b5, b6, b7, b8, b9⟩ := (KN1.out.trans k2).box hltb hltS
          have KN2 : Hid (MK base b S _ w2) := KN1.out.trans k2
          have K2 : Hid (MK base b S wr w2) := K1.out.trans k2
          have HL2 : Hid (FLook pb g cap ns w2) := HL1.out.below G.p G.g k2.below
          clear k2 KN1
          rcases hev : cdEv rel x y (Sp.ptUp c1) r1.st with s | tt
          · rw [hev] at q2
            obtain ⟨hs3, M2⟩ := q2
            have HI := fun k => fdoes_idle M2 hs3 k
            have HN : Hid (_ ∧ _) := dcur_next HK.out HM.out HVIS.out (HDO.out.trans (HR'.out.2.2.2.1 r)) HR'.out.2.2.1 HR'.out.1 HR'.out.2.1 HS.out K2.out (by rw [HR'.out.2.2.2.2]; unfold Sp.doIf; rw [hev]; exact ⟨hs3, M2⟩)
            have HII : Hid (∀ k : Int, _) := HI
            clear M2 hev HI
            cases q with
            | true =>
              go_wp2_with fail
              refine (HII.out _).mono ?_
              rintro e w3 ⟨rfl, rfl⟩
              go_wp2_with fail
              exact ⟨⟨_, rfl, HN.out.1⟩, HN.out.2⟩
            | false =>
              go_wp2_with fail
              refine (HII.out _).mono ?_
              rintro e w3 ⟨rfl, rfl⟩
              go_wp2_with fail
              exact ⟨⟨_, rfl, HN.out.1⟩, HN.out.2⟩
          · rw [hev] at q2
            obtain ⟨rfl, M2⟩ := q2
            have HM2 : Hid (MAt base b pb S f0 (-3) r1 w2) := M2
            have HEV : Hid (cdEv rel x y (Sp.ptUp c1) r1.st = .ok q) := hev
            clear M2 hev
            cases q with
            | true =>
              go_wp2_with fail
              refine (HDX.out r1 w2 HM2.out HL2.out).mono ?_
              rintro e w3 ⟨rfl, k3, o3⟩
              clear b0 b1 b2 b3 b4 b5 b6 b7 b8 b9
              obtain ⟨b0, b1, b2, b3, b4, b5, b6, b7, b8, b9⟩ := (KN2.out.trans k3).box hltb hltS
              have HN : Hid (_ ∧ _) := dcur_next HK.out HM.out HVIS.out (HDO.out.trans (HR'.out.2.2.2.1 r)) HR'.out.2.2.1 HR'.out.1 HR'.out.2.1 HS.out (K2.out.trans k3) (by rw [HR'.out.2.2.2.2]; unfold Sp.doIf; rw [HEV.out]; exact o3)
              clear k3 o3
              go_wp2_with fail
              exact ⟨⟨_, rfl, HN.out.1⟩, HN.out.2⟩
            | false =>
              go_wp2_with fail
              refine (HDY.out r1 w2 HM2.out HL2.out).mono ?_
              rintro e w3 ⟨rfl, k3, o3⟩
              clear b0 b1 b2 b3 b4 b5 b6 b7 b8 b9
              obtain ⟨b0, b1, b2, b3, b4, b5, b6, b7, b8, b9⟩ := (KN2.out.trans k3).box hltb hltS
              have HN : Hid (_ ∧ _) := dcur_next HK.out HM.out HVIS.out (HDO.out.trans (HR'.out.2.2.2.1 r)) HR'.out.2.2.1 HR'.out.1 HR'.out.2.1 HS.out (K2.out.trans k3) (by rw [HR'.out.2.2.2.2]; unfold Sp.doIf; rw [HEV.out]; exact o3)
              clear k3 o3
              go_wp2_with fail
              exact ⟨⟨_, rfl, HN.out.1⟩, HN.out.2⟩
      | loop rel x y xs rest =>
        obtain ⟨j, a, dd, c3, c4, rfl, _, _, hd, hpt, hkd, ha, _, hx, hxs, hrest⟩ := hbl
        obtain ⟨hlt, r0', r1', r2', r3', r4', r5', r6', r7', r8', r9'⟩ := HL.out.facts hd
        rw [hkd] at r0'
        rw [hpt] at r8'
        rw [ha] at r1'
        have e3 := hx.ct
        subst e3
        have e4 := hxs.ct
        subst e4
        have HX : Hid (∀ r w, MAt base b pb S f0 (-3) r w → FLook pb g cap ns w → Calls Tryz.prog 74 #[.pointer (some ⟨b, 0, none⟩), .int .i64 (a : Int)] w fun e w' => ∃ q : Bool, e = .returned (.bool q) ∧ MK base b S w w' ∧ CdPost base b pb S f0 r q w' (cdEv rel x y (Sp.ptUp c1) r.st)) := fun r w h1 h2 => fholds_calls G hx hng.1 h1 h2
        have HDX : Hid (FDoes base b pb S f0 g cap ns xs dd.b (ctS y (ctS x (Sp.ptUp c1)))) := HIH.out xs dd.b _ _ (Nat.lt_of_lt_of_le (by show szB xs < szB xs + szB rest + 1; omega) hsz) hxs hng.2.1
        have HR : Hid (FBl ns lo hi rest dd.next (ctB xs (ctS y (ctS x (Sp.ptUp c1)))) c2) := hrest
        have HNG : Hid (NGB rest (ctB xs (ctS y (ctS x (Sp.ptUp c1))))) := hng.2.2
        have HS : Hid (szB rest ≤ szB t0) := Nat.le_trans (by show szB rest ≤ szB xs + szB rest + 1; omega) hsz
        have HW : Hid (Wanes (Sp.doWhile (cdEv rel x y (Sp.ptUp c1)) (doB xs (ctS y (ctS x (Sp.ptUp c1)))) c1.1)) := fun r => loopF_wanes _ _ (doB_wanes xs _) _ _ r
        clear hd hrest hng hsz hx hxs
        have HV := fun w' h => fvisit_calls (base := base) (b := b) (pb := pb) (S := S) (f0 := f0) (r := r) (w := w') h c1.1
        have HVV : Hid (∀ w', _) := HV
        clear HV
        go_wp2_with fail
        refine (HVV.out _ (HM.out.after (below_alloc1 _ _))).mono ?_
        rintro e w1 ⟨rfl, k1, o1⟩
        obtain ⟨b0, b1, b2, b3, b4, b5, b6, b7, b8, b9⟩ := k1.box hltb hltS
        have KN1 : Hid (MK base b S _ w1) := k1
        have K1 : Hid (MK base b S wr w1) := (MK.of_below (below_alloc1 _ _) HM.out.le).trans k1
        clear k1
        rcases hvis : Sp.visit c1.1 r with ⟨r1, _ | s1⟩
        rotate_left
        · rw [hvis] at o1
          have HF : Hid (MOut base b pb S f0 w1 (doB t0 ct0 r0)) := by
            unfold Hid
            rw [HDO.out, doB_loop, hvis]
            exact o1
          have HK1 : Hid (MK base b S w w1) := HK.out.trans K1.out
          clear o1 hvis
          go_wp2_with fail
          try simp only [Exit.inBlock, Exit.then]
          refine bodyPost_ret (results_none rfl _ _ _) rfl ?_
          exact ⟨rfl, HK1.out, HF.out⟩
        · rw [hvis] at o1
          have HL1 : Hid (FLook pb g cap ns w1) := HL.out.below G.p G.g K1.out.below
          have HVIS : Hid (Sp.visit c1.1 r = (r1, none)) := hvis
          have HM1 : Hid (MAt base b pb S f0 (-3) r1 w1) := o1
          obtain ⟨_, _, m3', m5', f5'⟩ := HM1.out.cells
          have hltb1 := HM1.out.ltb
          have hltS1 := HM1.out.ltS
          clear o1 hvis
          go_wp2_with fail
          refine (HX.out r1 w1 HM1.out HL1.out).mono ?_
          rintro e w2 ⟨q, rfl, k2, q2⟩
          clear b0 b1 b2 b3 b4 b5 b6 b7 b8 b9
          have KN2 : Hid (MK base b S _ w2) := KN1.out.trans k2
          have HL2 : Hid (FLook pb g cap ns w2) := HL1.out.below G.p G.g k2.below
          have HWC : Hid (WCur base b pb S f0 (cdEv rel x y (Sp.ptUp c1)) (doB xs (ctS y (ctS x (Sp.ptUp c1)))) c1.1 (Sp.doWhile (cdEv rel x y (Sp.ptUp c1)) (doB xs (ctS y (ctS x (Sp.ptUp c1)))) c1.1 r1) q w2) := wcur_start (Nat.le_refl _) rfl q2
          clear k2 KN1 q2
          go_wp2_with fail
          go_loopw [5, 10] (fun okv hv wx => ∃ q : Bool, hv = .bool q ∧ Hid (MK base b S (wr.alloc (.cells #[.int .i64 10, .int .i64 (a : Int), .int .i64 dd.b, .int .i64 dd.c, .int .i64 dd.n, .int .i64 dd.next, .string ⟨dd.sign.toArray⟩, .int .i64 dd.site, .int .i64 c1.1, .bool dd.els] 176)) wx) ∧ Hid (WCur base b pb S f0 (cdEv rel x y (Sp.ptUp c1)) (doB xs (ctS y (ctS x (Sp.ptUp c1)))) c1.1 (Sp.doWhile (cdEv rel x y (Sp.ptUp c1)) (doB xs (ctS y (ctS x (Sp.ptUp c1)))) c1.1 r1) q wx)) (fun _ _ wx => mRest b f0 wx)
          case atStart => exact ⟨q, rfl, KN2, HWC⟩
          case round =>
            obtain ⟨q, rfl, hkn, hwc⟩ := hrel
            obtain ⟨s, r2, M2, hs⟩ := hwc.out
            obtain ⟨_, _, _, m5w, _⟩ := M2.cells
            obtain ⟨b0, b1, b2, b3, b4, b5, b6, b7, b8, b9⟩ := hkn.out.box hltb hltS
            have KW : Hid (MK base b S _ _) := (MK.of_below (below_alloc1 _ _) HM.out.le).trans hkn.out
            clear hwc HWC KN2
            rcases hs with ⟨rfl, n, hn, hL, hc⟩ | ⟨hs3, hL⟩
            · cases q with
              | false =>
                have HN : Hid (_ ∧ _) := dcur_next HK.out HM.out HVIS.out (HDO.out.trans (doB_loop rel x y xs rest c1 r)) HW.out HR.out HNG.out HS.out KW.out (wcur_end M2 hL hc)
                clear M2 hL hc hn
                go_wp2_with fail
                exact ⟨⟨_, rfl, HN.out.1⟩, HN.out.2⟩
              | true =>
                have HLW : Hid (FLook pb g cap ns wr) := HL.out.below G.p G.g KW.out.below
                have HM2 : Hid (MAt base b pb S f0 (-3) r2 wr) := M2
                have HLC : Hid (r2.fuel ≤ n ∧ Sp.loopF (cdEv rel x y (Sp.ptUp c1)) (doB xs (ctS y (ctS x (Sp.ptUp c1)))) c1.1 (n + 1) r2 = _ ∧ cdEv rel x y (Sp.ptUp c1) r2.st = .ok true) := ⟨hn, hL, hc⟩
                have hr2 : Hid (mRest b f0 wr = 2 * r2.fuel + 1) := by
                  have := M2.rest
                  rw [if_pos rfl] at this
                  exact this
                clear M2 hL hc hn
                go_wp2_with fail
                refine (HDX.out r2 wr HM2.out HLW.out).mono ?_
                rintro e w3 ⟨rfl, k3, o3⟩
                clear b0 b1 b2 b3 b4 b5 b6 b7 b8 b9
                obtain ⟨b0, b1, b2, b3, b4, b5, b6, b7, b8, b9⟩ := (hkn.out.trans k3).box hltb hltS
                have KN3 : Hid (MK base b S _ w3) := hkn.out.trans k3
                have K3 : Hid (MK base b S wr w3) := k3
                clear k3
                have hwn := doB_wanes xs (ctS y (ctS x (Sp.ptUp c1))) r2
                rcases hF : doB xs (ctS y (ctS x (Sp.ptUp c1))) r2 with ⟨r3, _ | s3⟩
                · rw [hF] at o3 hwn
                  have hw3 : Hid (r3.fuel ≤ r2.fuel) := hwn
                  have HM3 : Hid (MAt base b pb S f0 (-3) r3 w3) := o3
                  have HF : Hid (doB xs (ctS y (ctS x (Sp.ptUp c1))) r2 = (r3, none)) := hF
                  have HL3 : Hid (FLook pb g cap ns w3) := HLW.out.below G.p G.g K3.out.below
                  clear o3 hF hwn
                  go_wp2_with fail
                  refine (fvisit_calls HM3.out c1.1).mono ?_
                  rintro e w4 ⟨rfl, k4, o4⟩
                  clear b0 b1 b2 b3 b4 b5 b6 b7 b8 b9
                  obtain ⟨b0, b1, b2, b3, b4, b5, b6, b7, b8, b9⟩ := (KN3.out.trans k4).box hltb hltS
                  have KN4 : Hid (MK base b S _ w4) := KN3.out.trans k4
                  have HL4 : Hid (FLook pb g cap ns w4) := HL3.out.below G.p G.g k4.below
                  clear k4
                  rcases hv4 : Sp.visit c1.1 r3 with ⟨r4, _ | s4⟩
                  · rw [hv4] at o4
                    have HM4 : Hid (MAt base b pb S f0 (-3) r4 w4) := o4
                    have HV4 : Hid (Sp.visit c1.1 r3 = (r4, none)) := hv4
                    clear o4 hv4
                    go_wp2_with fail
                    refine (HX.out r4 w4 HM4.out HL4.out).mono ?_
                    rintro e w5 ⟨q5, rfl, k5, o5⟩
                    have HC5 : Hid (_ ∧ _) := And.intro (KN4.out.trans k5) (wcur_next HLC.out.1 HLC.out.2.1 HLC.out.2.2 HF.out (doB_wanes xs _) HV4.out o5)
                    have hm5 : Hid (mRest b f0 w5 < mRest b f0 wr) := by
                      have a1 := cdpost_rest o5
                      have a2 := visit_less HV4.out
                      have a3 := hw3.out
                      have a4 := hr2.out
                      unfold Hid; omega
                    clear k5 o5
                    go_wp2_with fail
                    exact ⟨⟨q5, rfl, HC5.out.1, HC5.out.2⟩, hm5.out⟩
                  · rw [hv4] at o4
                    have HC5 : Hid (_ ∧ _) := And.intro KN4.out (wcur_visit HLC.out.2.1 HLC.out.2.2 HF.out hv4 o4.1 o4.2 true)
                    have hm5 : Hid (mRest b f0 w4 < mRest b f0 wr) := by
                      have a1 := o4.2.rest
                      rw [if_neg o4.1] at a1
                      have a2 := visit_wanes c1.1 r3
                      rw [hv4] at a2
                      have a2' : r4.fuel ≤ r3.fuel := a2
                      have a3 := hw3.out
                      have a4 := hr2.out
                      unfold Hid; omega
                    clear o4 hv4
                    go_wp2_with fail
                    exact ⟨⟨true, rfl, HC5.out.1, HC5.out.2⟩, hm5.out⟩
                · rw [hF] at o3 hwn
                  have hw3 : r3.fuel ≤ r2.fuel := hwn
                  have HI : Hid (Calls _ _ _ _ _) := fvisit_idle o3.2 o3.1 c1.1
                  have HC5 : Hid (_ ∧ _) := And.intro KN3.out (wcur_body HLC.out.2.1 HLC.out.2.2 hF o3.1 o3.2 true)
                  have hm5 : Hid (mRest b f0 w3 < mRest b f0 wr) := by
                    have a1 := o3.2.rest
                    rw [if_neg o3.1] at a1
                    have a4 := hr2.out
                    unfold Hid; omega
                  clear o3 hF hwn hw3
                  go_wp2_with fail
                  refine HI.out.mono ?_
                  rintro e w4 ⟨rfl, rfl⟩
                  go_wp2_with fail
                  exact ⟨⟨true, rfl, HC5.out.1, HC5.out.2⟩, hm5.out⟩
            · have hz : (s == -3) = false := by simpa using hs3
              have HN : Hid (_ ∧ _) := dcur_next HK.out HM.out HVIS.out (HDO.out.trans (doB_loop rel x y xs rest c1 r)) HW.out HR.out HNG.out HS.out KW.out (by rw [hL]; exact ⟨hs3, M2⟩)
              clear M2 hL
              cases q with
              | false =>
                go_wp2_with fail
                exact ⟨⟨_, rfl, HN.out.1⟩, HN.out.2⟩
              | true =>
                go_wp2_with fail
                exact ⟨⟨_, rfl, HN.out.1⟩, HN.out.2⟩
    · obtain ⟨_, _, _, m5, _⟩ := hM.cells
      have hz : (s == -3) = false := by simpa using hs
      have HF : Hid (MK base b S w wr ∧ MOut base b pb S f0 wr (doB t0 ct0 r0)) := ⟨hk, by rw [hdo]; exact ⟨hs, hM⟩⟩
      clear hM hk hdo
      by_cases hkk : 0 ≤ kk
      · go_wp2_with fail
        go_end0
        exact ⟨rfl, HF.out.1, HF.out.2⟩
      · go_wp2_with fail
        go_end0
        exact ⟨rfl, HF.out.1, HF.out.2⟩

theorem fdoes_all {base b pb S f0 g cap : Nat} {ns : List FNode} {lo hi : Nat} (G : FGround base pb g) : ∀ (m : Nat) (t : Bl) (k : Int) (ct ct' : Ct), szB t < m → FBl ns lo hi t k ct ct' → NGB t ct → FDoes base b pb S f0 g cap ns t k ct
  | 0, _, _, _, _, h, _, _ => absurd h (Nat.not_lt_zero _)
  | m + 1, _, _, _, _, h, hbl, hng => fdoes_step G hbl hng (fun t' k' c1 c2 h' hbl' hng' => fdoes_all G m t' k' c1 c2 (by omega) hbl' hng')

/-- statements, run -/
theorem fdoes_calls {base b pb S f0 g cap : Nat} {ns : List FNode} {lo hi : Nat} (G : FGround base pb g) {t : Bl} {k : Int} {ct ct' : Ct} (hbl : FBl ns lo hi t k ct ct') (hng : NGB t ct) : FDoes base b pb S f0 g cap ns t k ct := fdoes_all G (szB t + 1) t k ct ct' (by omega) hbl hng

end Go.Proofs.YtiopfihjmkfdmaaGreatDoor


