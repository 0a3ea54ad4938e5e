/- (reader) block. -/
import Derived.Test.YtjkllmiikdlhhaaGreatDoorStmts
namespace Go.Proofs.YtjkllmiikdlhhaaGreatDoor
open Go.RowKit
set_option maxRecDepth 100000
set_option maxHeartbeats 400000

def BlkReads {A : Sp.Alg} {Rp : Rep A} (Rt : RepT A Rp) (b : Nat) (s : ByteArray) (m1 m2 o n : Nat) (blk : Sp.Bs → Sp.R (List A.T)) : Prop :=
  ∀ l w, l.length < n → Rd b s m1 m2 l o w → Env b m1 m2 w → Calls Tryz.prog 87 #[.pointer (some ⟨b, 0, none⟩)] w (PostG (fun w' v xs => Blk Rt.T w.heap.size w'.heap.size w' v xs) b s m1 m2 o w (blk l))

theorem block_reads {A : Sp.Alg} {Rp : Rep A} (Rt : RepT A Rp) (b : Nat) (s : ByteArray) (m1 m2 o n : Nat) (ho : o ≤ 12) (st : Sp.Bs → Sp.R A.T) (hdec : ∀ l x l1, st l = .ok (x, l1) → l1.length < l.length)
    (hst : o < 12 → StReads Rt 55 b s m1 m2 (o + 1) n st) : BlkReads Rt b s m1 m2 o (n + 1) (Sp.pBlock A st o) := by
  intro l w hl h hE
  have hlt := h.lt
  by_cases ht : Sp.tok l = [123]
  · by_cases h12 : o = 12
    · subst h12
      have hr : Hid (Sp.pBlock A st 12 l = .error (3, l.length)) := by
        unfold Hid Sp.pBlock Sp.enter; rw [if_pos ht, if_pos rfl]; rfl
      go_enter Tryz.func87, Tryz.ntmps87
      go_wp2_with fail
      refine (enter_deep h [123] ht).mono ?_
      rintro e w1 ⟨N, rfl, hf⟩
      exact ⟨rfl, bad_postG hr.out ⟨N, rfl, hf⟩⟩
    · have hen : Sp.enter [123] o l = .ok (Sp.next l) := by unfold Sp.enter; rw [if_pos ht, if_neg h12]
      have hnl := Sp.next_lt_of_tok ht (by simp)
      have hs := hst (by omega)
      cases hr : Sp.pMany A st ((Sp.next l).length + 1) [] (Sp.next l) with
      | error er =>
        have hfin : Hid (Sp.pBlock A st o l = .error er) := by unfold Hid Sp.pBlock; rw [hen]; simp only; rw [hr]
        go_enter Tryz.func87, Tryz.ntmps87
        go_wp2_with fail
        refine (enter_ok h (by omega) [123] ht).mono ?_
        rintro e w1 ⟨rfl, h1, x1⟩
        go_wp2_with fail
        refine (statements_calls Rt b s m1 m2 (o + 1) n st hdec hs (Sp.next l) w1 (by omega) h1 (hE.ext x1)).mono ?_
        intro e w2 hp
        rw [hr] at hp
        obtain ⟨N, rfl, hf⟩ := hp
        exact ⟨rfl, bad_postG hfin.out (Faulty.ahead x1 ⟨N, rfl, hf⟩)⟩
      | ok xl =>
        obtain ⟨xs, l2⟩ := xl
        by_cases hsh : Sp.tok l2 = [125]
        · have hfin : Hid (Sp.pBlock A st o l = .ok (xs, Sp.next l2)) := by unfold Hid Sp.pBlock; rw [hen]; simp only; rw [hr]; simp only; unfold Sp.take; rw [if_pos hsh]
          go_enter Tryz.func87, Tryz.ntmps87
          go_wp2_with fail
          refine (enter_ok h (by omega) [123] ht).mono ?_
          rintro e w1 ⟨rfl, h1, x1⟩
          go_wp2_with fail
          refine (statements_calls Rt b s m1 m2 (o + 1) n st hdec hs (Sp.next l) w1 (by omega) h1 (hE.ext x1)).mono ?_
          intro e w2 hp
          rw [hr] at hp
          obtain ⟨v, rfl, hv, h2, x2⟩ := hp
          have HV : Hid (Blk Rt.T w1.heap.size w2.heap.size w2 v xs) := hv
          clear hv hr
          go_wp2_with fail
          refine (take_ok h2 [125] hsh).mono ?_
          rintro e w3 ⟨rfl, h3, x3⟩
          have c4 : w3.cell? ⟨b, 4, none⟩ = some (.int .i64 ((o : Int) + 1)) := h3.c4
          have f4 := h3.fz 4
          have hsh := rd_open h3 o (o : Int) rfl
          have HS : Hid (Rd b s m1 m2 (Sp.next l2) o (w3.setCell ⟨b, 4, none⟩ (.int .i64 (o : Int))) ∧ Ext b w3 (w3.setCell ⟨b, 4, none⟩ (.int .i64 (o : Int)))) := hsh
          clear hsh
          have HB : Hid (Blk Rt.T w.heap.size (w3.setCell ⟨b, 4, none⟩ (.int .i64 (o : Int))).heap.size (w3.setCell ⟨b, 4, none⟩ (.int .i64 (o : Int))) v xs) :=
            Blk.mono Rt HV.out x1.size (by have := x3.size; simp [World.setCell]; omega) ((x3.trans HS.out.2).sameOn (Nat.le_refl _) (.inl (by have := x1.size; omega)))
          go_wp2_with fail
          go_ret
          exact good_postG hfin.out HB HS.out.1 (((x1.trans x2).trans x3).trans HS.out.2)
        · have hfin : Hid (Sp.pBlock A st o l = .error (2, l2.length)) := by unfold Hid Sp.pBlock; rw [hen]; simp only; rw [hr]; simp only; unfold Sp.take; rw [if_neg hsh]; rfl
          go_enter Tryz.func87, Tryz.ntmps87
          go_wp2_with fail
          refine (enter_ok h (by omega) [123] ht).mono ?_
          rintro e w1 ⟨rfl, h1, x1⟩
          go_wp2_with fail
          refine (statements_calls Rt b s m1 m2 (o + 1) n st hdec hs (Sp.next l) w1 (by omega) h1 (hE.ext x1)).mono ?_
          intro e w2 hp
          rw [hr] at hp
          obtain ⟨v, rfl, hv, h2, x2⟩ := hp
          clear hv hr
          go_wp2_with fail
          refine (take_bad h2 [125] hsh).mono ?_
          rintro e w3 ⟨N, rfl, hf⟩
          exact ⟨rfl, bad_postG hfin.out (Faulty.ahead (x1.trans x2) ⟨N, rfl, hf⟩)⟩
  · have hr : Hid (Sp.pBlock A st o l = .error (2, l.length)) := by
      unfold Hid Sp.pBlock Sp.enter; rw [if_neg ht]; rfl
    go_enter Tryz.func87, Tryz.ntmps87
    go_wp2_with fail
    refine (enter_bad h [123] ht).mono ?_
    rintro e w1 ⟨N, rfl, hf⟩
    exact ⟨rfl, bad_postG hr.out ⟨N, rfl, hf⟩⟩

end Go.Proofs.YtjkllmiikdlhhaaGreatDoor
